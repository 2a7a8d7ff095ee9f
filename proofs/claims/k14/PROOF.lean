import PyProof.Rows.All
import Wide.All
import OpenK.AllK
import Wide.FinOn
import Lean
import PyProof.EqAt
import PyProof.EqKinds
import PyProof.TupleCall
import PyProof.NeKinds
import PyProof.Rows.SetFrom
import KE.KRevIter
import PyProof.ZipIter
import PyProof.TupleOfGen
import PyProof.Rows.ZipGen
import PyProof.EnumMake
import PyProof.EnumFor
import PyProof.ListRange
import PyProof.LayNew
import KE.KDictOf
import KE.KIntText
import KE.IntTextLaws
import PyProof.StrCalls2
import PyProof.Rows.StrNews2
import PyProof.StrLawsTight
import PyProof.ExcArgsOwn
import PyProof.ExcAttrAll.ValueError
import PyProof.IsInstanceT
import PyProof.RulesAs
import PyProof.Rows.Tup
import OpenK.KOwn
import PyProof.ExcInit
import OpenK.KCls
import OpenK.KMake
import PyProof.InstStoreFacts
import PyProof.FactsAll.object
import PyProof.IsiStr
import KE.KIsAll
import PyProof.ListMulRight
import PyProof.AttrMissHeap
import PyProof.RaisesMany
import PyProof.RulesTry
import PyProof.NsDelKeeps
import PyProof.Rows.FStr
import OpenK.KWalk
import PyProof.AutoListH
import PyProof.CallFns
import PyProof.Rows.SortStr
import KE.KDictSum
import PyProof.Draws
import PyProof.Rows.CallKwBuiltin
import PyProof.SumWalkG
import KE.KDictLaws
import PyProof.DictTruth
import PyProof.Rows.SortShellK
import PyProof.Rows.SortWalk
import KE.KDictList
import PySem.Challenge.RW_graphpack_k14_closed_lists
set_option maxHeartbeats 0
noncomputable section
open PySem
def A0:=@PySem.wpAny_bind
def A1:=@PySem.wpAny_pure
def A2:=@PyProof.Rows.wpS_pure
def A3:=@PyProof.Rows.wpS_bind
def A4:=@Nat.le_refl
def A5:=@List.mem_cons_self
def A6:=@PySem.Heap.lt_size
def A7:=@PySem.Heap.get?_push_of_some
def A8:=@List.mem_map
def A9:=@PySem.W.mg_of
def B0:=@List.mem_cons_of_mem
def B1:=@Option.some.inj
def B3:=@PyProof.Rows.wpS_mono
def B4:=@List.mem_cons
def B5:=@PySem.Heap.get?_push_size
def B6:=@Nat.ne_of_lt
def B7:=@Nat.le_trans
def B8:=@List.mem_append
def B9:=@Bool.false_ne_true
def C0:=@PyProof.Rows.wpS_forRange
def C1:=@Nat.lt_of_lt_of_le
def C2:=@PySem.wpAny_field
def C3:=@getElem?_pos
def C4:=@PySem.wpAny_holding
def C5:=@PySem.PassesOwn.never
def C6:=@Ne.symm
def C7:=@List.mem_append_right
def C8:=@List.getElem_mem
def C9:=@Int.emod_nonneg
def D0:=@Int.emod_lt_of_pos
def D1:=@congrArg
def D2:=@PyProof.Rows.wpS_get
def D3:=@List.mem_range
def D4:=@PyProof.Rows.wpS_modify
def D5:=@List.getElem?_eq_getElem
def D6:=@List.pairwise_iff_getElem
def D7:=@PySem.wpAny_call_entry
def D8:=@PySem.wpAny_rule
def D9:=@PySem.W.mg_none_of
def E1:=@Nat.lt_irrefl
def E2:=@PySem.wpAny_mono
def E3:=@PySem.mem_of_lookup
def E4:=@PySem.wpAny_newObj_type
def E5:=@List.mem_iff_getElem
def E6:=@PySem.W.kia_one
def E7:=@PySem.wpAny_seqItems
def E8:=@PySem.F.slot_zip_next
def E9:=@Nat.le_add_right
def G0:=@List.mem_append_left
def H0:=@List.getElem?_eq_some_iff
def I0:=@List.of_mem_zip
def K0:=@PySem.wpAny_callSpecial?_slot
def K2:=@Nat.zero_le
def L1:=@PySem.wpAny_attempt
def L3:=@PyProof.Rows.wpS_lift
def L4:=@List.eq_nil_of_length_eq_zero
def L5:=@PySem.wpAny_truthy_bool
def L6:=@PySem.wpAny_passesOwn
def L7:=@Prod.ext
def L8:=@PySem.typeIs_int
def L9:=@PySem.wpAny_setField_rec
def M1:=@Array.perm_iff_toList_perm
def N0:=@List.pairwise_append
def N1:=@List.mem_reverse
def N2:=@decide_eq_false
def N3:=@Nat.ne_of_gt
def N4:=@PyProof.Rows.slot_tuple_getitem
def N9:=@PySem.wpAny_typeOf
def O0:=@LawfulBEq.eq_of_beq
def P1:=@PySem.typeIs_str
def P2:=@PySem.wpAny_nextOf_list_item
def P3:=@List.mem_filterMap
def P4:=@List.nodup_cons
def P5:=@PySem.call_meets
def P6:=@Nat.le_of_eq
def P7:=@Option.map_eq_some_iff
def P8:=@List.rel_of_pairwise_cons
def P9:=@List.pairwise_reverse
def Q1:=@PySem.F.slot_dict_keyiterator_next
def Q2:=@List.pairwise_map
def R1:=@Nat.mul_le_mul
def S1:=@Nat.le_of_lt
def S2:=@PyProof.Rows.callWith_type1
def T0:=@PySem.concat_meets
def U1:=@PySem.SeqAt.EqAt.same
def U2:=@List.length_eq_zero_iff
def W1:=@List.map_congr_left
def X0:=@PySem.wpAny_nextOf_list_end
def X1:=@PySem.F.entry_zip_next
def X2:=@PySem.F.args_zip_next_1
def X9:=@PySem.wpAny_onRaise
def Y1:=@List.ext_getElem?
def Y2:=@Array.getElem?_eq_some_iff
def Y3:=@PyProof.Rows.listItems_at
def d3:=@List.pairwise_cons
def d4:=@List.mem_singleton
def d5:=@List.mem_of_mem_take
def d6:=@List.map_snd_zip
def g9:=@PySem.wpAny_typeNameOfWhole_keyiter
def i0:=@Nat.mul_le_mul_right
def i4:=@PySem.F.typeOf_object_class
def i5:=@PySem.codeAny_builtin
def i6:=@PySem.wpAny_eqBool_int
def i7:=@PySem.SeqAt.EqAt.int_str
def i8:=@PySem.SeqAt.EqAt.str_int
def j3:=@PySem.wpAny_execs_nil
def m3:=@PySem.wpAny_standAt
def m4:=@PySem.wpAny_pyIter_list
def n5:=@PySem.codeAny_mono
def n9:=@PySem.wpAny_Call_Name_kw
def o0:=@List.mem_of_getElem?
def p4:=@PySem.noFill_tuple_add
def p5:=@PySem.seq_tuple_add
def p9:=@PySem.F.slot_tuple_add
def r0:=@PySem.F.entry_tuple_add
def r8:=@PySem.F.args_tuple_add_2
def v3:=@PySem.slot_list_getitem
def w4:=@Nat.lt_of_le_of_lt
def w8:=@Nat.lt_trans
def x0:=@PySem.tupleKind_room_in1
def x5:=@PySem.wpAny_newTuple
def x8:=@PySem.wpAny_isInstance
def x9:=@PySem.isSubtype_stop
def y3:=@PySem.wpAny_updateSeq_pair
def y4:=@PySem.wpAny_letGo
def y6:=@List.mem_of_mem_drop
def z0:=@PySem.wpAny_dictEntries
def A00:=@PySem.wpAny_dictEpoch
def A10:=@List.nodup_iff_pairwise_ne
def A20:=@List.Pairwise.imp_of_mem
def A30:=@List.nodup_range
def A40:=@decide_eq_true
def A50:=@List.length_pos_iff
def A70:=@beq_eq_false_iff_ne
def A90:=@List.getElem_inj
def Aa0:=@PySem.Calls.Name_function_global
def Ae0:=@PySem.wpAny_pyNext_list_item
def Aq0:=@PySem.Heap.get?_update_other
def Ar0:=@PySem.wpAny_getItem_list_slice
def At0:=@PySem.Calls.callWith_builtin
def Au0:=@Nat.add_le_add_left
def Av0:=@List.getD_eq_getElem?_getD
def Ax0:=@Bool.eq_false_iff
def B00:=@PySem.F.plainAttrs_list
def B20:=@Int.le_ediv_iff_mul_le
def B30:=@Array.eq_empty_of_size_eq_zero
def B40:=@PySem.F.slot_tuple_mul
def B50:=@PySem.F.slot_tuple_rmul
def Bv0:=@PySem.SeqAt.RcAt.lists_lengths
def Bw0:=@PySem.F.slot_int_mul
def C30:=@List.Sublist.nodup
def C40:=@List.sublist_append_right
def C50:=@List.sublist_append_left
def C70:=@List.reverse_perm
def C90:=@Nat.le_succ_of_le
def Cc0:=@PySem.F.entry_dict_keyiterator_next
def Cd0:=@PySem.F.args_dict_keyiterator_next_1
def Ci0:=@List.ext_getElem
def Ck0:=@List.mem_or_eq_of_mem_set
set_option Elab.async false
set_option linter.all false
set_option maxRecDepth 100000
variable{prog:Program}{A:Around}{E Q:Value->Shared->Prop}{a it dx fa I z i1 i2 l1 l2:Addr}{o e b c tg iter elt:Expr}{tl us vs its:List Value}{od:Option Addr}{x name qual nx root:Str}{R:Result->Shared->Prop}{y u v vl vu:Value}{K:W.Frag}{items ys:Array Value}{h' base:Heap}{α β κ:Type}{pins:List (Addr×Obj)}{t' i j n m k1 x1 ia ib ac bc na T:Nat}{ch fp:List Addr}{N loose N' cs rs:List Str}{s':Shared}{pos p pos' tpos apos p2 cpos px pos2 np p0:Pos}{rest body:List Stmt}{st:Stmt}{es ifs elts:List Expr}{lo hi:Option Int}{fd:FuncData}{sc scope:Scope}{mg:Str->Option Value}{q:Int×Int}{XP:(Str->Option Value)->Heap->Prop}{YP:World->Heap->Prop}{caps idx:List Nat}{oa:Obj}{L:List (Nat×Nat)}
namespace KfT
theorem sl:Slot "function" "__getattribute__" "object.__getattribute__" := by
 refine .of (owner := "object") (n := "__getattribute__") ?_ (by decide +kernel) (by decide +kernel) (by decide +kernel) ?_ ?_
 ·rw[typeLookup_type,builtinLookup_eq_fast];kernel_rfl
 ·first|exact .inl (by decide +kernel)|exact .inr (by decide +kernel)
 ·rw[isSubtype_type];kernel_rfl
theorem lk:typeLookup (.type "function") "__class__"=pure (some (.builtin "object.__class__")):=by
 rw[typeLookup_type,builtinLookup_eq_fast];kernel_rfl
theorem ow:isSubtype (.type "function") (.type (".".intercalate ("object.__class__".cutAt '.').dropLast))=pure true:=by
 rw[F.owner_object_class,isSubtype_type];kernel_rfl
section
variable{P:Program}{W:World}{X:Value->Shared->Prop}{s:Shared}{f:Addr}{y:Obj}
theorem gs(e:s.heap.get? f=some y)(c:y.cls=.type "function")(q:R (.ok (.ret (.type "function"))) s) :
  codeAny (model P W) A (.call (.builtin "getset_descriptor.__get__") ⟨[.builtin "object.__class__",.ref f,.type "function"],[]⟩) R s:=by
 obtain⟨hh,gg,dd,tt,oo⟩:=s;have z1:(⟨hh,gg,dd,tt,oo⟩:Shared).TypeIs (.ref f) "function" := ⟨_,e,c⟩;have z2:=ow;refine codeAny_call_builtin F.slot_gs_get.plain F.entry_gs_get (F.slot_gs_get.check _ _ _ _ _ _ _ _ i4 (F.args_gs_get _ _ _) ?_)
 repeat (any_goals (first|assumption|wp_step))
 refine⟨Code.quiet_builtin _ (by decide +kernel),i5 F.entry_object_class ?_⟩
 repeat (any_goals (first|assumption|wp_step))
theorem ga{tk:Tok}{R:Fin->Shared->Prop}(e:s.heap.get? f=some y)(c:y.cls=.type "function")(q:R (.done (.ret (.type "function"))) s) :
  wpAny (model P W) A (Builtin.«object.__getattribute__» ⟨[.ref f,.str "__class__" tk],[]⟩) R X s:=by
 obtain⟨hh,gg,dd,tt,oo⟩:=s;have z1:(⟨hh,gg,dd,tt,oo⟩:Shared).TypeIs (.ref f) "function" := ⟨_,e,c⟩;have z2:(⟨hh,gg,dd,tt,oo⟩:Shared).TypeIs (.builtin "object.__class__") "getset_descriptor" := i4;have z3:=lk;have z4:=i4;have z5:=F.slot_gs_get.lookup;have z6:=F.slot_gs_set.lookup
 repeat (any_goals (first|assumption|wp_step))
 refine gs e c ?_
 repeat (any_goals (first|assumption|wp_step))
variable{hh:Heap}{gg:Array GenState}{dd:Drawn}{tt:Nat}{oo:OsState}
theorem by'{tk:Tok}{R:Value->Shared->Prop}(e:hh.get? f=some y)(c:y.cls=.type "function")(q:R (.type "function") ⟨hh,gg,dd,tt,oo⟩):wpAny (model P W) A (getAttrBy (.ref f) (.str "__class__" tk) false) R X ⟨hh,gg,dd,tt,oo⟩:=by
 have z1:(⟨hh,gg,dd,tt,oo⟩:Shared).TypeIs (.ref f) "function" := ⟨_,e,c⟩;have z2:=sl.lookup;have z3:=sl.bind (.ref f)
 repeat (any_goals (first|assumption|wp_step))
 refine codeAny_call_builtin sl.plain F.entry_object_getattribute (sl.check _ _ _ _ _ _ _ _ z1 (F.args_object_getattribute_2 _ _) (ga e c ?_))
 repeat (any_goals (first|assumption|wp_step))
theorem at'{R:Option Value->Shared->Prop}(e:hh.get? f=some y)(c:y.cls=.type "function")(q:R (some (.type "function")) ⟨hh,gg,dd,tt+1,oo⟩):wpAny (model P W) A (getAttr? (.ref f) "__class__") R X ⟨hh,gg,dd,tt,oo⟩:=by
 unfold getAttr? getAttrBy?
 repeat (any_goals (first|assumption|with_reducible apply by' e c|wp_step))
end
theorem kit{f:Addr}:W.KitX K (.ref f) (.type "function") (W.KitAt f "function"):=W.kitx_of W.kitAt_ty λ{_ _ _ _ _ s} p k=>by
 obtain⟨hh,gg,dd,tt,oo⟩:=s;obtain⟨_,e,c⟩:=p;exact at' e c k
end KfT
namespace L2
open Spec PyProof.Rows
abbrev Key:=Sum Int Str
def vb0:Key->Value->Bool
 | .inl k,v=>Value.isInt k v
 | .inr x,v=>Value.isStrOf x v
variable{ks:List L2.Key}
def ah0(w:World):Key->Int
 | .inl k=>hashInt k
 | .inr x=>hashStr w x
theorem S8:∀{k:Key} {v:Value},vb0 k v=true->(∃i t,k=Sum.inl i/\v=Value.int i t)∨(∃x t,k=Sum.inr x/\v=Value.str x t)
 | .inl i,v,h=>by
  obtain⟨t,e⟩:=Value.isInt_shape (k:=i) (v:=v) h;exact .inl ⟨i,t,rfl,e⟩
 | .inr x,v,h=>by
  obtain⟨t,e⟩:=Value.isStrOf_shape (x:=x) (v:=v) h;exact .inr ⟨x,t,rfl,e⟩
theorem mv0(i:Int)(t:Tok):vb0 (.inl i) (.int i t)=true:=by simp[vb0,Value.isInt]
theorem lh0(x:Str)(t:Tok):vb0 (.inr x) (.str x t)=true:=by simp[vb0,Value.isStrOf]
theorem d50(a b:Int):decide ((Sum.inl a:Key)=Sum.inl b)=(a==b):=by
 by_cases e:a=b
 ·subst e;simp
 ·have h:¬(Sum.inl a:Key)=Sum.inl b:=λq=>e (Sum.inl.inj q)
  rw[decide_eq_false h];exact(A70.mpr e).symm
theorem eo0(a b:Str):decide ((Sum.inr a:Key)=Sum.inr b)=decide (a=b):=by
 by_cases e:a=b
 ·subst e;simp
 ·have h:¬(Sum.inr a:Key)=Sum.inr b:=λq=>e (Sum.inr.inj q)
  rw[decide_eq_false h,decide_eq_false e]
theorem ev0(a:Int)(b:Str):decide ((Sum.inl a:Key)=Sum.inr b)=false:=N2 (λq=>nomatch q)
theorem fz0(a:Str)(b:Int):decide ((Sum.inr a:Key)=Sum.inl b)=false:=N2 (λq=>nomatch q)
def T8(prog:Program)(w:World):PySem.KeyKind prog w Key where
 is:=vb0
 hash:=ah0 w
 inj:=λv a b ha hb=>by
  rcases S8 ha with⟨i,t,rfl,rfl⟩|⟨x,t,rfl,rfl⟩
  ·rcases S8 hb with⟨j,u,rfl,e⟩|⟨y,u,rfl,e⟩
   ·injection e with e1 _;rw[e1]
   ·exact nomatch e
  ·rcases S8 hb with⟨j,u,rfl,e⟩|⟨y,u,rfl,e⟩
   ·exact nomatch e
   ·injection e with e1 _;rw[e1]
 byValue:=λk v h=>by
  rcases S8 h with⟨i,t,rfl,rfl⟩|⟨x,t,rfl,rfl⟩<;>rfl
 pyHash:=λhv h=>by
  rcases S8 hv with⟨i,t,rfl,rfl⟩|⟨x,t,rfl,rfl⟩
  ·exact wpAny_pyHash_int h
  ·exact wpAny_pyHash_str h
 eqBool:=λhu hv h=>by
  rcases S8 hu with⟨i,t,rfl,rfl⟩|⟨x,t,rfl,rfl⟩
  ·rcases S8 hv with⟨j,u,rfl,rfl⟩|⟨y,u,rfl,rfl⟩
   ·rw[d50] at h;exact i6 h
   ·rw[ev0] at h;exact i7 i t y u _ _ _ _ h
  ·rcases S8 hv with⟨j,u,rfl,rfl⟩|⟨y,u,rfl,rfl⟩
   ·rw[fz0] at h;exact i8 x t j u _ _ _ _ h
   ·rw[eo0] at h;exact wpAny_eqBool_str h
 «strs»:=λk x t v h=>by
  rcases S8 h with⟨i,u,rfl,e⟩|⟨y,u,rfl,e⟩
  ·exact nomatch e
  ·injection e with e1 _
   subst e1;cases v<;>rfl
theorem pw0(prog:Program)(w:World)(i:Int)(t:Tok):(T8 prog w).is (.inl i) (.int i t)=true:=mv0 i t
theorem oh0(prog:Program)(w:World)(x:Str)(t:Tok):(T8 prog w).is (.inr x) (.str x t)=true:=lh0 x t
inductive V where
 | non|bl (b:Bool)|int (i:Int)|str (x:Str)|byt (b:Array UInt8)|flt (b:UInt64)|ref (a:Addr)|ty (n:String)
 deriving DecidableEq
variable{xs:List L2.V}{σ:List (Option L2.V)}{kvs:List (List L2.Key×L2.V)}
def RelV:V->Value->Prop
 | .non,u=>u=Value.none
 | .bl b,u=>u=Value.bool b
 | .int i,u=>∃t,u=Value.int i t
 | .str x,u=>∃t,u=Value.str x t
 | .byt b,u=>∃t,u=Value.bytes b t
 | .flt b,u=>∃t,u=Value.float b t
 | .ref a,u=>u=Value.ref a
 | .ty n,u=>u=Value.type n
abbrev Vals:List V->List Value->Prop:=Paired RelV
theorem Vals.length(r:Vals xs us):xs.length=us.length:=Paired.length r
theorem Vals.get:∀{xs:List V} {us:List Value} {i:Nat} {x:V},Vals xs us->xs[i]?=some x->∃u,us[i]?=some u/\RelV x u
 | _,_,_,_,.nil,e=>by simp at e
 | _,_,0,_,.cons r _,e=>by simp at e;subst e;exact⟨_,rfl,r⟩
 | _,_,i+1,x,.cons _ t,e=>by
  obtain⟨u,h1,h2⟩:=Vals.get (i:=i) (x:=x) t (by simpa using e);exact⟨u,by simpa using h1,h2⟩
theorem Vals.set{x:V}(r:RelV x u):∀{xs:List V} {us:List Value} (i:Nat),Vals xs us->Vals (xs.set i x) (us.set i u)
 | _,_,_,.nil=>.nil
 | _,_,0,.cons _ t=>.cons r t
 | _,_,i+1,.cons q t=>.cons q (Vals.set r i t)
theorem Vals.append:∀{xs ys:List V} {us ws:List Value},Vals xs us->Vals ys ws->Vals (xs++ys) (us++ws)
 | _,_,_,_,.nil,s=>s
 | _,_,_,_,.cons r t,s=>.cons r (Vals.append t s)
theorem Vals.take:∀{xs:List V} {us:List Value} (n:Nat),Vals xs us->Vals (xs.take n) (us.take n)
 | _,_,0,_=>.nil
 | _,_,_+1,.nil=>.nil
 | _,_,n+1,.cons r t=>.cons r (Vals.take n t)
theorem Vals.drop:∀{xs:List V} {us:List Value} (n:Nat),Vals xs us->Vals (xs.drop n) (us.drop n)
 | _,_,0,r=>r
 | _,_,_+1,.nil=>.nil
 | _,_,n+1,.cons _ t=>Vals.drop n t
def RelO:Option V->Option Value->Prop
 | some v,some u=>RelV v u
 | none,none=>True
 | _,_=>False
def KV{κ:Type}:List (κ×V)->List (κ×Value)->Prop:=Paired λ(p:κ×V) (q:κ×Value)=>p.1=q.1/\RelV p.2 q.2
def kV:Key->V
 | .inl i=>.int i
 | .inr x=>.str x
inductive HO where
 | lst (xs:List V)
 | tup (xs:List V)
 | dK (kvs:List (Key×V))|dT (kvs:List (List Key×V))
 | set (S:Int->Bool) (n:Nat)
 | ins (C dx:Addr) (fs:List (Str×V))
 | own (x:Addr)
 | xd (fs:List (Str×V))
 | met (f x:Addr)
 | rng (lo hi:Int)
 | frz (o:Obj) (u:HO)
 | tbl (ps:Array Value)
 | ext (φ:Heap->Prop)
abbrev Hp:=Addr->Option HO
def upd(H:Hp)(a:Addr)(o:HO):Hp:=λb=>if b=a then some o else H b
variable{H H' H2 H₀:L2.Hp}
theorem Z8{o:HO}:upd H a o a=some o:=by unfold upd;rw[if_pos rfl]
theorem Z0{b:Addr}{o:HO}(h:b≠a):upd H a o b=H b:=by unfold upd;rw[if_neg h]
theorem vd0{b:Addr}{o u:HO}(h:H a=some o)(h':H b=some u)(d:o≠u):a≠b:=by
 intro e;subst e;rw[h] at h';exact d (B1 h')
theorem V9{b:Addr}{o:HO}(h:H a=some o)(h':H b=none):a≠b:=by
 intro e;subst e;rw[h] at h';cases h'
def IsTupN(h:Heap)(a:Addr)(items:Array Value):Prop:=∃o,h.get? a=some o/\o.cls=.type "tuple"/\∃n,o.data=.seq items n/\o.dict=none
theorem IsTupN.tup{h:Heap}(x:IsTupN h a items):IsTup h a items:=let ⟨o,e,c,n,d,_⟩:=x;⟨o,e,c,n,d⟩
theorem IsTupN.new(h:Heap)(items:Array Value):IsTupN (h.push { cls:=.type "tuple",data:=.seq items }) h.objs.size items:=⟨_,B5 _ rfl,rfl,_,rfl,rfl⟩
def qOf(ps:Array Value):Str:=match (ps[0]?:Option Value) with
 | some (.str q _)=>q
 | _ => ""
def TabOk(H:Hp)(h:Heap)(a:Addr)(q:Str):Prop:=∃cont:Array Value,h.get? a=some { cls:=.none,data:=.fields cont }/\TriplesOk cont.toList /\
 ∀pos cv,codeAmong pos cont.toList=some cv->∃c oc vs tq,cv=.ref c/\H c=some (.frz oc (.own c))/\oc.data=.fields vs/\vs[1]?=some (.str q tq)
section
variable(P:Program)(w:World)
def ObjOk(H:Hp)(h:Heap)(a:Addr):HO->Prop
 | .lst xs=>xs.length<=sizeLine/\∃(its:List Value) (n:Nat),Vals xs its/\h.get? a=some { cls:=.type "list",data:=.seq its.toArray n }
 | .tup xs=>xs.length<=sizeLine/\∃its:List Value,Vals xs its/\IsTupN h a its.toArray
 | .dK kvs=>kvs.length<=sizeLine/\(a==sysModules)=false/\∃vs,KV kvs vs/\h.DictOf (T8 P w) a vs
 | .dT kvs=>kvs.length<=sizeLine/\(a==sysModules)=false/\∃xs:List (List Key×Addr×Value),
   Paired (λ(p:List Key×V) (q:List Key×Addr×Value)=>p.1=q.1/\H q.2.1=some (.tup (p.1.map kV))/\RelV p.2 q.2.2) kvs xs /\
   ∃o es ep,h.get? a=some o/\o.ExactDict/\o.data=.dict es ep/\es.toList=xs.map (entryOfKey (tupleKind (T8 P w)))/\(xs.map (·.1)).Nodup
 | .set S n=>h.SetOf (intKind P w) a S n
 | .ins C dx fs=>H dx=some (.own a)/\fs.length<=1000/\dx≠a/\h.get? a=some (W.instObj C dx) /\
   ∃mA,h.Ns1 dx mA/\(∀f,RelO (fs.lookup f) (mA f))/\PySem.Within mA (fs.map (·.1))
 | .own _=>∃o,h.get? a=some o
 | .xd fs=>∃mA,h.Ns1 a mA/\∀f,RelO (fs.lookup f) (mA f)
 | .rng lo hi=>∃t u v,h.get? a=some { cls:=.type "range",data:=.fields #[.int lo t,.int hi u,.int 1 v] }
 | .frz o u=>h.get? a=some o/\ObjOk H h a u
 | .tbl ps=>TabOk H h a (qOf ps)
 | .met f x=>h.get? a=some (W.methodObj (.ref f) (.ref x))
 | .ext φ=>φ h/\(∃o,h.get? a=some o)/\∀h1 h2:Heap,φ h1->(∀o,h1.get? a=some o->h2.get? a=some o)->φ h2
def HOk(H:Hp)(h:Heap):Prop:=∀a o,H a=some o->ObjOk P w H h a o
end
section
variable{P:Program}{w:World}{h:Heap}{o:HO}
theorem ObjOk.lt(x:ObjOk P w H h a o):a<h.objs.size:=by
 cases o with
 | lst xs=>obtain⟨_,_,_,_,e⟩:=x;exact A6 e
 | tup xs=>obtain⟨_,_,_,p⟩:=x;exact p.tup.lt
 | dK kvs=>obtain⟨_,_,_,_,o,_,_,e,_⟩:=x;exact A6 e
 | dT kvs=>obtain⟨_,_,_,_,o,_,_,e,_⟩:=x;exact A6 e
 | set S n=>obtain⟨o,_,_,_,e,_⟩:=x;exact A6 e
 | ins C dx fs=>obtain⟨_,_,_,e,_⟩:=x;exact A6 e
 | own y=>obtain⟨_,e⟩:=x;exact A6 e
 | xd fs=>obtain⟨_,⟨_,_,_,e,_⟩,_⟩:=x;exact A6 e
 | rng lo hi=>obtain⟨_,_,_,e⟩:=x;exact A6 e
 | frz ob u=>obtain⟨e,_⟩:=x;exact A6 e
 | tbl ps=>obtain⟨_,e,_⟩:=(show TabOk H h a (qOf ps) from x);exact A6 e
 | met f y=>exact A6 (show h.get? a=some _ from x)
 | ext φ=>obtain⟨_,⟨_,e⟩,_⟩:=x;exact A6 e
theorem Paired.mapP{F G:α->β->Prop}:∀{l₁:List α} {l₂:List β},Paired F l₁ l₂->(∀a b,F a b->G a b)->Paired G l₁ l₂
 | _,_,.nil,_=>.nil
 | _,_,.cons r t,f=>.cons (f _ _ r) (Paired.mapP t f)
theorem ObjOk.stay(x:ObjOk P w H h a o)(k:∀b u,(b=a∨H b=some (.own a))->h.get? b=some u->h'.get? b=some u)
  (ho:∀b,H b=some (.own a)->H' b=some (.own a)) (ht:∀b xs,H b=some (.tup xs)->H' b=some (.tup xs)) (hf:∀b ob u,H b=some (.frz ob u)->H' b=some (.frz ob u)):ObjOk P w H' h' a o:=by
 induction o with
 | lst xs=>obtain⟨z,its,n,r,e⟩:=x;exact⟨z,its,n,r,k _ _ (.inl rfl) e⟩
 | tup xs=>obtain⟨z,its,r,ob,e,c⟩:=x;exact⟨z,its,r,ob,k _ _ (.inl rfl) e,c⟩
 | dK kvs=>obtain⟨z,y,vs,r,ob,es,ep,e,c⟩:=x;exact⟨z,y,vs,r,ob,es,ep,k _ _ (.inl rfl) e,c⟩
 | dT kvs =>
  obtain⟨z,y,xs,r,ob,es,ep,e,c⟩:=x;exact⟨z,y,xs,Paired.mapP r λp q z=>⟨z.1,ht _ _ z.2.1,z.2.2⟩,ob,es,ep,k _ _ (.inl rfl) e,c⟩
 | set S n=>obtain⟨ob,es,ep,t,e,c⟩:=x;exact⟨ob,es,ep,t,k _ _ (.inl rfl) e,c⟩
 | ins C dx fs =>
  obtain⟨d,z,ne,e,mA,⟨od,es,ep,e2,c⟩,r⟩:=x;exact⟨ho _ d,z,ne,k _ _ (.inl rfl) e,mA,⟨od,es,ep,k _ _ (.inr d) e2,c⟩,r⟩
 | own y=>obtain⟨ob,e⟩:=x;exact⟨ob,k _ _ (.inl rfl) e⟩
 | xd fs=>obtain⟨mA,⟨od,es,ep,e,c⟩,r⟩:=x;exact⟨mA,⟨od,es,ep,k _ _ (.inl rfl) e,c⟩,r⟩
 | rng lo hi=>obtain⟨t,u,v,e⟩:=x;exact⟨t,u,v,k _ _ (.inl rfl) e⟩
 | frz ob u ih=>obtain⟨e,q⟩:=x;exact⟨k _ _ (.inl rfl) e,ih q⟩
 | tbl ps =>
  obtain⟨cont,e,t,c⟩:=(show TabOk H h a (qOf ps) from x);exact⟨cont,k a _ (.inl rfl) e,t,λpos cv q=>let ⟨c',oc,vs,tq,z1,z2,z3⟩:=c pos cv q;⟨c',oc,vs,tq,z1,hf _ _ _ z2,z3⟩⟩
 | met f y =>
  have e:h.get? a=some (W.methodObj (.ref f) (.ref y)):=x;show h'.get? a=some (W.methodObj (.ref f) (.ref y));exact k a _ (.inl rfl) e
 | ext φ=>obtain⟨p,⟨o,e⟩,st⟩:=x;exact⟨st _ _ p λo q=>k _ _ (.inl rfl) q,⟨o,k _ _ (.inl rfl) e⟩,st⟩
theorem HOk.lt(x:HOk P w H h)(e:H a=some o):a<h.objs.size:=(x a o e).lt
theorem HOk.fresh(x:HOk P w H h)(e:h.objs.size<=a):H a=none:=by
 cases q:H a with
 | none=>rfl
 | some u=>exact absurd (C1 (x.lt q) e) (E1 _)
theorem HOk.kept(x:HOk P w H h)(k:∀b u,h.get? b=some u->h'.get? b=some u):HOk P w H h':=λa o e =>
 (x a o e).stay (λb u _ q=>k b u q) (λ_ q=>q) (λ_ _ q=>q) λ_ _ _ q=>q
theorem HOk.laid(x:HOk P w H h)(k:∀b u,h.get? b=some u->h'.get? b=some u)(hp:h.objs.size<=a)(new:ObjOk P w (upd H a o) h' a o):HOk P w (upd H a o) h':=λb u e=>by
 have hn:=x.fresh hp
 by_cases hb:b=a
 ·subst hb;rw[Z8] at e;cases e;exact new
 ·rw[Z0 hb] at e
  exact(x b u e).stay (λc v _ q=>k c v q) (λc q=>by rw[Z0 (V9 q hn)];exact q) (λc xs q=>by rw[Z0 (V9 q hn)];exact q) λc ob u' q=>by rw[Z0 (V9 q hn)];exact q
end
def Rd(H:Hp)(a:Addr)(u:HO):Prop:=H a=some u∨∃o,H a=some (.frz o u)
theorem Rd.ok{P:Program}{w:World}{h:Heap}{u:HO}(r:Rd H a u)(x:HOk P w H h):ObjOk P w H h a u:=by
 rcases r with r|⟨o,r⟩
 ·exact x a u r
 ·obtain⟨_,q⟩:=x a _ r
  exact q
def Mut:Option HO->Prop
 | some (.lst _)=>True
 | some (.dK _)=>True
 | some (.dT _)=>True
 | some (.set _ _)=>True
 | some (.ins _ _ _)=>True
 | some (.ext _)=>True
 | _=>False
section
variable{P:Program}{w:World}{h:Heap}{x e:Addr}{o':HO}
theorem HOk.write(ok:HOk P w H h)(mu:Mut (H x))(he:e=x∨H e=some (.own x))(k:∀b u,b≠e->h.get? b=some u->h'.get? b=some u)(heo:∃u,h'.get? e=some u)
  (new:ObjOk P w (upd H x o') h' x o'):HOk P w (upd H x o') h':=λb u q=>by
 have F:∀c y,H c=some (.own y)->c≠x:=λc y r z=>by subst z;rw[r] at mu;exact mu
 have M:∀c xs,H c=some (.tup xs)->c≠x:=λc xs r z=>by subst z;rw[r] at mu;exact mu
 have J:∀c ob u',H c=some (.frz ob u')->c≠x:=λc ob u' r z=>by subst z;rw[r] at mu;exact mu
 by_cases hb:b=x
 ·subst hb;rw[Z8] at q;cases q;exact new
 ·rw[Z0 hb] at q
  by_cases hbe:b=e
  ·have q':H b=some (.own x):=by
    rcases he with z|z
    ·exact absurd (hbe.trans z) hb
    ·rw[hbe];exact z
   rw[q] at q';cases q';obtain⟨v,hv⟩:=heo;exact⟨v,by rw[hbe];exact hv⟩
  ·refine(ok b u q).stay (λc v hc r=>k c v ?_ r) (λc r=>by rw[Z0 (F c b r)];exact r) (λc xs r=>by rw[Z0 (M c xs r)];exact r) λc ob u' r=>by rw[Z0 (J c ob u' r)];exact r
   rcases hc with rfl|hc
   ·exact hbe
   ·rintro rfl
    rcases he with z|z
    ·exact F c b hc z
    ·rw[hc] at z;cases z;exact hb rfl
end
structure Un(fs ex:List Addr)(H H':Hp)(h h':Heap):Prop where
 keep:∀b o,h.get? b=some o->H b=none->b∉fs->b∉ex->h'.get? b=some o
 slot:∀b o,h.get? b=some o->H b=none->b∈fs->b∉ex->∃sl,h'.get? b=some { o with slots:=sl }
 free:∀b o,h.get? b=some o->H b=none->b∉ex->H' b=none
 there:∀b o,h.get? b=some o->b∉ex->∃o',h'.get? b=some o'
 tups:∀b xs,H b=some (.tup xs)->H' b=some (.tup xs)
 frzs:∀b o u,H b=some (.frz o u)->H' b=some (.frz o u)
 tbls:∀b ps,H b=some (.tbl ps)->∃more,H' b=some (.tbl (ps++more))
section
variable{fs fs' ex ex':List Addr}{H1:Hp}{h h1 h2:Heap}{x e:Addr}{o:HO}
theorem Un.any(u:Un fs ex H H1 h h1){b:Addr}{ob:Obj}(q:h.get? b=some ob)(n:H b=none)(hx:b∉ex):∃sl,h1.get? b=some { ob with slots:=sl }:=by
 by_cases hb:b∈fs
 ·exact u.slot b ob q n hb hx
 ·exact⟨ob.slots,u.keep b ob q n hb hx⟩
theorem Un.kept(k:∀b u,h.get? b=some u->h'.get? b=some u):Un fs ex H H h h' :=
 ⟨λb ob q _ _ _=>k b ob q,λb ob q _ _ _=>⟨ob.slots,k b ob q⟩,λ_ _ _ n _=>n,λb ob q _=>⟨ob,k b ob q⟩,λ_ _ q=>q,λ_ _ _ q=>q,λ_ ps q=>⟨#[],by rw[q];simp⟩⟩
theorem Un.refl:Un fs ex H H h h:=Un.kept λ_ _ q=>q
theorem Un.laid(k:∀b u,h.get? b=some u->h'.get? b=some u)(hp:h.objs.size<=a)(hn:H a=none):Un fs ex H (upd H a o) h h' where
 keep:=λb u q _ _ _=>k b u q
 slot:=λb u q _ _ _=>⟨u.slots,k b u q⟩
 free:=λb u q n _=>by rw[Z0 (B6 (C1 (A6 q) hp))];exact n
 there:=λb u q _=>⟨u,k b u q⟩
 tups:=λb xs q=>by rw[Z0 (V9 q hn)];exact q
 frzs:=λb u xs q=>by rw[Z0 (V9 q hn)];exact q
 tbls:=λb ps q=>⟨#[],by rw[Z0 (V9 q hn),q];simp⟩
theorem Un.write(mu:Mut (H x))(he:e=x∨H e=some (.own x))(k:∀b u,b≠e->h.get? b=some u->h'.get? b=some u)(heo:∃u,h'.get? e=some u):Un fs ex H (upd H x o) h h':=by
 have hx:∀b,H b=none->b≠x:=λb n z=>by subst z;rw[n] at mu;exact mu
 have hb:∀b,H b=none->b≠e:=λb n z=>by
  subst z;rcases he with r|r
  ·exact hx b n r
  ·rw[n] at r;cases r
 have hm:∀b u,H b=some u->¬Mut (some u)->b≠x:=λb u q nm z=>by subst z;rw[q] at mu;exact nm mu
 refine⟨λb u q n _ _=>k b u (hb b n) q,λb u q n _ _=>⟨u.slots,k b u (hb b n) q⟩,λb u q n _=>by rw[Z0 (hx b n)];exact n,λb u q _=>?_,
  λb xs q=>by rw[Z0 (hm b _ q λz=>z)];exact q,λb u xs q=>by rw[Z0 (hm b _ q λz=>z)];exact q,λb ps q=>⟨#[],by rw[Z0 (hm b _ q λz=>z),q];simp⟩⟩
 by_cases hbe:b=e
 ·subst hbe;exact heo
 ·exact⟨u,k b u hbe q⟩
end
def trk(h:Heap)(H:Hp):List Addr:=(List.range h.objs.size).filter λa=>(H a).isSome
def xy0(h:Heap)(H:Hp):Heap:=W.hideAll h (trk h H)
theorem kh0(h:Heap)(H:Hp):(xy0 h H).objs.size=h.objs.size:=W.hideAll_size _ _
theorem j80{h:Heap}{b:Addr}{o:Obj}(e:h.get? b=some o)(n:H b=none):(xy0 h H).get? b=some o :=
 W.hideAll_get _ e λhm=>by
  have q:(H b).isSome=true:=(List.mem_filter.mp hm).2;rw[n] at q;simp at q
theorem g40{h:Heap}{b:Addr}{o:Obj}(e:(xy0 h H).get? b=some o):h.get? b=some o/\H b=none:=by
 have e':h.get? b=some o:=W.of_hideAll (trk h H) e;refine⟨e',?_⟩;cases q:H b with
 | none=>rfl
 | some x =>
  have hm:b∈trk h H:=List.mem_filter.mpr ⟨D3.mpr (A6 e'),by simp[q]⟩;have z:(xy0 h H).get? b=none:=W.hideAll_none (trk h H) hm;rw[z] at e;cases e
structure Mod(K:W.Frag)(mg:Str->Option Value)(base:Heap):Prop where
 kin:K.In base
 glob:base.Ns mainGlobals mg
 blt:∃mb,base.Ns builtinsNs mb/\∀x:Str,x ≠"__name__"->mb x=bootBuiltins x
 nolimit:base.NoLimit
structure Cx where
 prog:Program
 w:World
 K:W.Frag
 mg:Str->Option Value
 base:Heap
 A:Around
 N:List Str
 s₀:Shared
 H₀:Hp
 env:Env
 outer:List Env
 stack:List Env
 ex:List Addr
 fn:Str->Bool
 calm:Bool
 pn:List (Addr×Obj)
 xe:Value->Shared->Prop
variable{X:L2.Cx}
def frs(l:List Env):List Addr:=l.filterMap (·.frame)
abbrev Cx.fs(X:Cx):List Addr:=frs X.outer
def Vis(sc:Scope)(x:Str):Prop:=sc.names.lookup x=some .local∨sc.names.lookup x=some .cell∨sc.names.lookup x=some .free
def Loc(sc:Scope)(x:Str):Prop:=sc.names.lookup x=some .local∨sc.names.lookup x=some .cell
def Look(env:Env)(h:Heap)(m:Str->Option Value)(x:Str)(u:Value):Prop :=
 (env.kindOf x=some .local/\m x=some u)∨((env.kindOf x=some .cell∨env.kindOf x=some .free)/\∃c,env.cells.lookup x=some c/\h.IsCell c (some u))
structure Cx.Ok(X:Cx):Prop where
 mod:Mod X.K X.mg X.base
 kind:X.env.scope.kind=.function
 glob:X.env.globals=mainGlobals
 blt:X.env.builtins=builtinsNs
 above:X.s₀.heap.objs.size<=X.env.locals
 inj:∀x y c,X.env.cells.lookup x=some c->X.env.cells.lookup y=some c->x=y
 has:∀x,(X.env.kindOf x=some .cell∨X.env.kindOf x=some .free)->∃c,X.env.cells.lookup x=some c
 cab:∀x c,X.fn x=true->X.env.cells.lookup x=some c->X.s₀.heap.objs.size<=c
 hd:X.calm=true->X.A.handled=none
 frames:X.A.frames=some X.stack
 stk:X.stack=X.outer∨(X.stack=X.env::X.outer/\X.env.frame=some X.env.locals)
 exf:∀b∈X.ex,b≠X.env.locals/\∀x c,X.env.cells.lookup x=some c->c≠b
 bs:∀b o,X.base.get? b=some o->X.s₀.heap.get? b=some o/\X.H₀ b=none
 bsz:X.base.objs.size<=X.s₀.heap.objs.size
 noex:∀b o,X.base.get? b=some o->b∉X.ex
 exfs:∀b∈X.ex,b∉X.fs
 funs:X.s₀.heap.FunFrames X.base X.outer
 frf:∀b∈X.fs,X.H₀ b=none
structure Inv(X:Cx)(pins:List (Addr×Obj))(σ:List (Option V))(H:Hp)(s:Shared):Prop where
 ok:X.Ok
 os:s.os=X.s₀.os
 bare:AllBare s.gens
 base:Un X.fs X.ex X.H₀ H X.s₀.heap s.heap
 loc:∃m,s.heap.Ns X.env.locals m/\∀(i:Nat) (x:Str) (v:V),X.N[i]?=some x->σ[i]?=some (some v)->Vis X.env.scope x->∃u,RelV v u/\Look X.env s.heap m x u
 cell:∀x c,X.env.cells.lookup x=some c->∃v,s.heap.IsCell c v
 free:H X.env.locals=none
 freeC:∀x c,X.env.cells.lookup x=some c->H c=none
 pin:∀p∈X.pn++pins,s.heap.get? p.1=some p.2/\H p.1=none/\p.1≠X.env.locals/\p.1∉X.fs/\∀v,p.2.data≠.cell v
 hok:HOk X.prog X.w H s.heap
 len:σ.length=X.N.length
section
variable{s:Shared}
theorem Cx.Ok.nofr(ok:X.Ok){b:Addr}{o:Obj}(e:X.base.get? b=some o):b∉X.fs:=λhb=>by
 have:=(ok.funs.mem hb).1;rw[e] at this;cases this
theorem Inv.bs(I:Inv X pins σ H s):∀b o,X.base.get? b=some o->s.heap.get? b=some o/\H b=none:=λb o e =>
 ⟨I.base.keep b o (I.ok.bs b o e).1 (I.ok.bs b o e).2 (I.ok.nofr e) (I.ok.noex b o e),I.base.free b o (I.ok.bs b o e).1 (I.ok.bs b o e).2 (I.ok.noex b o e)⟩
theorem Inv.bk(I:Inv X pins σ H s):∀b o,X.base.get? b=some o->s.heap.get? b=some o:=λb o e=>(I.bs b o e).1
theorem Inv.mod(I:Inv X pins σ H s):Mod X.K X.mg X.base:=I.ok.mod
theorem Inv.kIn(I:Inv X pins σ H s):X.K.In s.heap:=I.ok.mod.kin.keeps I.bk
theorem Inv.lt(I:Inv X pins σ H s):X.env.locals<s.heap.objs.size:=let ⟨_,hn,_⟩:=I.loc;hn.lt
theorem Inv.sz(I:Inv X pins σ H s):X.s₀.heap.objs.size<=s.heap.objs.size:=B7 I.ok.above (S1 I.lt)
theorem Inv.nofs(I:Inv X pins σ H s)(h:s.heap.objs.size<=a):a∉X.fs:=λhb=>by
 obtain⟨_,o,ho,_⟩:=I.ok.funs.mem hb;exact absurd (C1 (A6 ho) (B7 I.sz h)) (E1 _)
theorem Inv.cne(I:Inv X pins σ H s):∀x c,X.env.cells.lookup x=some c->c≠X.env.locals:=λx c e z=>by
 obtain⟨v,o,ho,hd⟩:=I.cell x c e;obtain⟨m,⟨o',es,ep,F,J,_⟩,_⟩:=I.loc;rw[z,F] at ho;cases ho;rw[J] at hd;cases hd
theorem Inv.funs(I:Inv X pins σ H s):s.heap.FunFrames X.base X.outer:=by
 have all:∀(l:List Env),(∀b∈frs l,b∈X.fs)->X.s₀.heap.FunFrames X.base l->s.heap.FunFrames X.base l:=by
  intro l
  induction l with
  | nil=>intro _ _;trivial
  | cons env r ih =>
   intro hs hl;obtain⟨hk,⟨L,o,hf,hn,ho,hd⟩,hr⟩:=hl;have hL:L∈X.fs:=hs L (by unfold frs;rw[List.filterMap_cons,hf];exact A5);obtain⟨sl,e⟩:=I.base.slot L o ho (I.ok.frf L hL) hL λz=>I.ok.exfs L z hL
   exact⟨hk,⟨L,_,hf,hn,e,hd⟩,ih (λb hb=>hs b (by unfold frs;rw[List.filterMap_cons,hf];exact B0 _ hb)) hr⟩
 exact all X.outer (λ_ hb=>hb) I.ok.funs
theorem Inv.stack(I:Inv X pins σ H s):s.heap.FunFrames X.base X.stack:=by
 rcases I.ok.stk with e|⟨e,hf⟩
 ·rw[e];exact I.funs
 ·rw[e]
  obtain⟨m,hn,_⟩:=I.loc;refine .cons (by rw[I.ok.kind];decide) hf hn ?_ I.funs;exact Heap.get?_none_of_le (B7 I.ok.bsz I.ok.above)
theorem Inv.stkSub(I:Inv X pins σ H s):∀b∈frs X.stack,b∈X.env.locals::X.fs:=λb hb=>by
 rcases I.ok.stk with e|⟨e,hf⟩
 ·rw[e] at hb;exact B0 _ hb
 ·rw[e] at hb
  unfold frs at hb;rw[List.filterMap_cons,hf] at hb;exact hb
theorem Inv.stkFree(I:Inv X pins σ H s):∀b∈frs X.stack,H b=none:=λb hb=>by
 rcases B4.mp (I.stkSub b hb) with e|hb
 ·rw[e];exact I.free
 ·obtain⟨_,o,ho,_⟩:=I.ok.funs.mem hb
  exact I.base.free b o ho (I.ok.frf b hb) λz=>I.ok.exfs b z hb
theorem Inv.step{g':Array GenState}{t':Nat}{d':Drawn}{ch:List Addr}(I:Inv X pins σ H s)
  (hch:∀b∈ch,(b∈X.ex∨X.s₀.heap.objs.size<=b)/\b≠X.env.locals/\(∀x c,X.env.cells.lookup x=some c->c≠b)/\∀p∈X.pn++pins,p.1≠b)
  (keep:∀b o,b≠X.env.locals->b∉X.fs->b∉ch->s.heap.get? b=some o->H b=none->h'.get? b=some o)
  (slot:∀b o,b≠X.env.locals->b∈X.fs->b∉ch->s.heap.get? b=some o->H b=none->∃sl,h'.get? b=some { o with slots:=sl }) (free:∀b o,b∉ch->s.heap.get? b=some o->H b=none->H' b=none)
  (there:∀b o,b∉ch->s.heap.get? b=some o->∃o',h'.get? b=some o')
  (tups:∀b xs,H b=some (.tup xs)->H' b=some (.tup xs)) (frzs:∀b o u,H b=some (.frz o u)->H' b=some (.frz o u)) (tbls:∀b ps,H b=some (.tbl ps)->∃more,H' b=some (.tbl (ps++more)))
  (ns:∀m,s.heap.Ns X.env.locals m->h'.Ns X.env.locals m) (hok:HOk X.prog X.w H' h') (hg:AllBare g') :
  Inv X pins σ H' { s with heap:=h',gens:=g',drawn:=d',toks:=t' }:=by
 have O:∀b o,X.s₀.heap.get? b=some o->b≠X.env.locals:=λb o e=>B6 (C1 (A6 e) I.ok.above)
 have M:∀b o,X.s₀.heap.get? b=some o->b∉X.ex->b∉ch:=λb o e hx hb=>by
  rcases (hch b hb).1 with z|z
  ·exact hx z
  ·exact absurd (C1 (A6 e) z) (E1 _)
 have J:∀x c,X.env.cells.lookup x=some c->∀v,s.heap.IsCell c v->h'.IsCell c v:=λx c e v ⟨o,ho,hd⟩=>by
  have F:c∉ch:=λz=>(hch c z).2.2.1 x c e rfl
  by_cases hc:c∈X.fs
  ·obtain⟨sl,q⟩:=slot c o (I.cne x c e) hc F ho (I.freeC x c e)
   exact⟨_,q,hd⟩
  ·exact⟨o,keep c o (I.cne x c e) hc F ho (I.freeC x c e),hd⟩
 refine⟨I.ok,I.os,hg,⟨λb o e n hb hx=>?_,λb o e n hb hx=>?_,λb o e n hx=>?_,λb o e hx=>?_,λb xs e=>tups b xs (I.base.tups b xs e),λb o xs e=>frzs b o xs (I.base.frzs b o xs e),λb ps e=>?_⟩,?_,λx c e=>?_,?_,λx c e=>?_,λp hp=>?_,hok,I.len⟩
 ·exact keep b o (O b o e) hb (M b o e hx) (I.base.keep b o e n hb hx) (I.base.free b o e n hx)
 ·obtain⟨sl,e1⟩:=I.base.slot b o e n hb hx
  obtain⟨S,e2⟩:=slot b _ (O b o e) hb (M b o e hx) e1 (I.base.free b o e n hx);exact⟨S,e2⟩
 ·obtain⟨o',e1⟩:=I.base.there b o e hx
  exact free b o' (M b o e hx) e1 (I.base.free b o e n hx)
 ·obtain⟨o',e1⟩:=I.base.there b o e hx
  exact there b o' (M b o e hx) e1
 ·obtain⟨m1,e1⟩:=I.base.tbls b ps e
  obtain⟨m2,e2⟩:=tbls b _ e1;exact⟨m1++m2,by rw[e2,Array.append_assoc]⟩
 ·obtain⟨m,hn,hl⟩:=I.loc
  refine⟨m,ns m hn,λi x v e1 e2 e3=>?_⟩;obtain⟨u,r,l⟩:=hl i x v e1 e2 e3;refine⟨u,r,?_⟩;rcases l with l|⟨k,c,e,z⟩
  ·exact .inl l
  ·exact .inr ⟨k,c,e,J x c e _ z⟩
 ·obtain⟨v,z⟩:=I.cell x c e
  exact⟨v,J x c e v z⟩
 ·obtain⟨m,⟨o,_,_,ho,_⟩,_⟩:=I.loc
  exact free _ o (λz=>(hch _ z).2.1 rfl) ho I.free
 ·obtain⟨v,o,ho,hd⟩:=I.cell x c e
  exact free c o (λz=>(hch c z).2.2.1 x c e rfl) ho (I.freeC x c e)
 ·obtain⟨e,n,ne,nf,d⟩:=I.pin p hp
  have F:p.1∉ch:=λz=>(hch p.1 z).2.2.2 p hp rfl
  exact⟨keep p.1 p.2 ne nf F e n,free p.1 p.2 F e n,ne,nf,d⟩
theorem Inv.un(I:Inv X pins σ H s)(u:Un X.fs [] H H' s.heap h')(hok:HOk X.prog X.w H' h'):Inv X pins σ H' { s with heap:=h',toks:=t' }:=by
 obtain⟨m,⟨o,es,ep,ho,r⟩,_⟩:=id I.loc;obtain⟨sl,hL⟩:=u.any ho I.free (by simp);exact I.step (g':=s.gens) (d':=s.drawn) (ch:=[]) (λ_ z=>nomatch z) (λb o _ hb _ e n=>u.keep b o e n hb (by simp)) (λb o _ hb _ e n=>u.slot b o e n hb (by simp)) (λb o _ e n=>u.free b o e n (by simp)) (λb o _ e=>u.there b o e (by simp)) u.tups u.frzs u.tbls (λm' hm=>by
  obtain⟨o',M,J,F,r'⟩:=hm;rw[ho] at F;cases F;exact⟨_,M,J,hL,r'⟩) hok I.bare
theorem Inv.call{g':Array GenState}{t':Nat}{d':Drawn}(I:Inv X pins σ H s)(u:Un (frs X.stack) ch H H' s.heap h')(hok:HOk X.prog X.w H' h')(hg:AllBare g')
  (hch:∀b∈ch,(b∈X.ex∨X.s₀.heap.objs.size<=b)/\b≠X.env.locals/\(∀x c,X.env.cells.lookup x=some c->c≠b)/\∀p∈X.pn++pins,p.1≠b) :
  Inv X pins σ H' { s with heap:=h',gens:=g',drawn:=d',toks:=t' }:=by
 obtain⟨m,⟨o,es,ep,ho,r⟩,_⟩:=id I.loc;obtain⟨sl,hL⟩:=u.any ho I.free λz=>(hch _ z).2.1 rfl
 exact I.step (ch:=ch) hch (λb o hL hb hc e n=>u.keep b o e n (λz=>(B4.mp (I.stkSub b z)).elim hL hb) hc) (λb o _ _ hc e n=>u.any e n hc) (λb o hc e n=>u.free b o e n hc) (λb o hc e=>u.there b o e hc) u.tups u.frzs u.tbls (λm' hm=>by
  obtain⟨o',M,J,F,r'⟩:=hm;rw[ho] at F;cases F;exact⟨_,M,J,hL,r'⟩) hok hg
theorem Inv.turned{t':Nat}(I:Inv X pins σ H s)(k:∀b o,b≠it->s.heap.get? b=some o->h'.get? b=some o)(hn:H it=none)(hL:it≠X.env.locals)
  (h1:it∈X.ex∨X.s₀.heap.objs.size<=it) (h2:∀x c,X.env.cells.lookup x=some c->c≠it) (h3:∀p∈X.pn++pins,p.1≠it):Inv X pins σ H { s with heap:=h',toks:=t' }:=by
 have F:∀b u,H b=some u->b≠it:=λb u e z=>by rw[z,hn] at e;cases e
 refine I.step (g':=s.gens) (d':=s.drawn) (ch:=[it]) (λb hb=>?_) (λb o _ _ hc e _=>k b o (λz=>hc (by simp[z])) e) (λb o _ _ hc e _=>⟨o.slots,k b o (λz=>hc (by simp[z])) e⟩) (λ_ _ _ _ n=>n)
  (λb o hc e=>⟨o,k b o (λz=>hc (by simp[z])) e⟩) (λ_ _ e=>e) (λ_ _ _ e=>e) (λb ps e=>⟨#[],by rw[e];simp⟩) (λm hm=>?_) (λb u e=>?_) I.bare
 ·have e:b=it:=by simpa using hb
  subst e;exact⟨h1,hL,h2,h3⟩
 ·obtain⟨o,es,ep,ho,r⟩:=hm
  exact⟨o,es,ep,k _ o (C6 hL) ho,r⟩
 ·refine(I.hok b u e).stay (λc v hc q=>k c v ?_ q) (λ_ q=>q) (λ_ _ q=>q) λ_ _ _ q=>q
  rcases hc with z|z
  ·rw[z];exact F b u e
  ·exact F c _ z
theorem Inv.tok(I:Inv X pins σ H s)(t:Nat):Inv X pins σ H { s with toks:=t }:=I.un (h':=s.heap) (t':=t) Un.refl I.hok
theorem Inv.kept(I:Inv X pins σ H s)(k:∀b u,s.heap.get? b=some u->h'.get? b=some u):Inv X pins σ H { s with heap:=h',toks:=t' }:=I.un (Un.kept k) (I.hok.kept k)
theorem Inv.laid{o:HO}{t':Nat}(I:Inv X pins σ H s)(k:∀b u,s.heap.get? b=some u->h'.get? b=some u)(hp:s.heap.objs.size<=a)(new:ObjOk X.prog X.w (upd H a o) h' a o) :
  Inv X pins σ (upd H a o) { s with heap:=h',toks:=t' }:=I.un (Un.laid k hp (I.hok.fresh hp)) (I.hok.laid k hp new)
theorem Inv.write{x e:Addr}{o:HO}{t':Nat}(I:Inv X pins σ H s)(mu:Mut (H x))(he:e=x∨H e=some (.own x))(k:∀b u,b≠e->s.heap.get? b=some u->h'.get? b=some u)(heo:∃u,h'.get? e=some u)
  (new:ObjOk X.prog X.w (upd H x o) h' x o):Inv X pins σ (upd H x o) { s with heap:=h',toks:=t' }:=I.un (Un.write mu he k heo) (I.hok.write mu he k heo new)
theorem Inv.weak{σ':List (Option V)}(I:Inv X pins σ H s)(hl:σ'.length=σ.length)(w:∀(i:Nat) v,σ'[i]?=some (some v)->σ[i]?=some (some v)):Inv X pins σ' H s :=
 ⟨I.ok,I.os,I.bare,I.base,let ⟨m,hn,hl'⟩:=I.loc;⟨m,hn,λi x v e1 e2 e3=>hl' i x v e1 (w i v e2) e3⟩,I.cell,I.free,I.freeC,I.pin,I.hok,hl.trans I.len⟩
theorem Inv.pins_of{pins':List (Addr×Obj)}(I:Inv X pins σ H s)(h:∀p∈pins',s.heap.get? p.1=some p.2/\H p.1=none/\p.1≠X.env.locals/\p.1∉X.fs/\∀v,p.2.data≠.cell v):Inv X pins' σ H s :=
 ⟨I.ok,I.os,I.bare,I.base,I.loc,I.cell,I.free,I.freeC,λp hp=>(B8.mp hp).elim (λz=>I.pin p (G0 _ z)) (h p),I.hok,I.len⟩
theorem qg0(hN:N.Nodup)(a:N[i]?=some x)(b:N[j]?=some x):i=j:=by
 obtain⟨h1,e1⟩:=H0.mp a;obtain⟨h2,e2⟩:=H0.mp b;exact(A90 hN).mp (e1.trans e2.symm)
theorem ls0{M:Model}{A:Around}{E:Value->Shared->Prop}{v:V}{Q:Unit->Shared->Prop}(I:Inv X pins σ H s)(hN:X.N.Nodup)(hi:X.N[i]?=some x)(hx:Loc X.env.scope x)(r:RelV v u)
  (h:∀s',Inv X pins (σ.set i (some v)) H s'->(∃a,Heap.SameBut a s.heap s'.heap/\(a=X.env.locals∨X.env.cells.lookup x=some a))->Q () s') (hf:X.fn x=true∨X.env.scope.names.lookup x=some .local:=by first|exact .inl rfl|exact .inr rfl|assumption):wpAny M A (storeName X.env x u) Q E s:=by
 obtain⟨m,hn,hl⟩:=id I.loc;have Y:(X.env.scope.kind==.class||(X.env.scope.kind==.module&&X.env.locals != X.env.globals))=false:=by rw[I.ok.kind];rfl
 have hiσ:i<σ.length:=by rw[I.len];exact(H0.mp hi).1
 have cne:=I.cne;have F:∀{a:Addr} {h':Heap},(∃o,s.heap.get? a=some o/\H a=none)->Heap.SameBut a s.heap h'->HOk X.prog X.w H h':=λ{a h'} ha hs b ob e=>by
  obtain⟨_,_,J⟩:=ha;refine(I.hok b ob e).stay (λc w' hc q=>(hs.2 c ?_).trans q) (λ_ q=>q) (λ_ _ q=>q) λ_ _ _ q=>q
  rintro rfl;rcases hc with rfl|hc
  ·rw[J] at e;cases e
  ·rw[J] at hc;cases hc
 rcases hx with hk|hk
 ·refine wpAny_storeName_local hk hn (λh' a0 hs=>?_) Y
  obtain⟨oL,_,_,a1,_⟩:=id hn;refine h _ ⟨I.ok,I.os,I.bare,⟨λb o e n hb hx=>?_,λb o e n hb hx=>?_,I.base.free,λb o e hx=>?_,I.base.tups,I.base.frzs,I.base.tbls⟩,⟨_,a0,λj y v' e1 e2 e3=>?_⟩,λy c e=>?_,I.free,I.freeC,λp hp=>?_,F ⟨oL,a1,I.free⟩ hs,by simpa using I.len⟩ ⟨_,hs,.inl rfl⟩
  ·exact(hs.2 b (B6 (C1 (A6 e) I.ok.above))).trans (I.base.keep b o e n hb hx)
  ·obtain⟨sl,e1⟩:=I.base.slot b o e n hb hx
   exact⟨sl,(hs.2 b (B6 (C1 (A6 e) I.ok.above))).trans e1⟩
  ·obtain⟨o',e1⟩:=I.base.there b o e hx
   exact⟨o',(hs.2 b (B6 (C1 (A6 e) I.ok.above))).trans e1⟩
  ·by_cases hj:j=i
   ·subst hj
    rw[hi] at e1;cases e1;rw[List.getElem?_set_self hiσ] at e2;cases e2;exact⟨u,r,.inl ⟨hk,by simp⟩⟩
   ·rw[List.getElem?_set_ne (C6 hj)] at e2
    obtain⟨u',r',q⟩:=hl j y v' e1 e2 e3;refine⟨u',r',?_⟩;rcases q with⟨k,e⟩|⟨k,c,e,z⟩
    ·refine .inl ⟨k,?_⟩
     have:y≠x:=λe=>hj (qg0 hN e1 (e▸hi))
     simp[this,e]
    ·exact .inr ⟨k,c,e,z.sameBut hs (cne y c e)⟩
  ·obtain⟨w',z⟩:=I.cell y c e
   exact⟨w',z.sameBut hs (cne y c e)⟩
  ·obtain⟨e,n,ne,nf,d⟩:=I.pin p hp
   exact⟨(hs.2 p.1 ne).trans e,n,ne,nf,d⟩
 ·have O:X.fn x=true:=by
   rcases hf with z|z
   ·exact z
   ·rw[z] at hk;cases hk
  obtain⟨c,hc⟩:=I.ok.has x (.inl hk);obtain⟨w',z⟩:=I.cell x c hc;refine wpAny_storeName_cell I.ok.kind hk hc z (λh' U hs=>?_);obtain⟨oc,S,Z⟩:=id z;refine h { s with heap:=h' } ⟨I.ok,I.os,I.bare,⟨λb o e n hb hx=>?_,λb o e n hb hx=>?_,I.base.free,λb o e hx=>?_,I.base.tups,I.base.frzs,I.base.tbls⟩,⟨m,hn.sameBut hs (C6 (cne x c hc)),λj y v' e1 e2 e3=>?_⟩,λy c' e=>?_,I.free,I.freeC,λp hp=>?_,F ⟨oc,S,I.freeC x c hc⟩ hs,by simpa using I.len⟩ ⟨c,hs,.inr hc⟩
  ·exact(hs.2 b (B6 (C1 (A6 e) (I.ok.cab x c O hc)))).trans (I.base.keep b o e n hb hx)
  ·obtain⟨sl,e1⟩:=I.base.slot b o e n hb hx
   exact⟨sl,(hs.2 b (B6 (C1 (A6 e) (I.ok.cab x c O hc)))).trans e1⟩
  ·obtain⟨o',e1⟩:=I.base.there b o e hx
   exact⟨o',(hs.2 b (B6 (C1 (A6 e) (I.ok.cab x c O hc)))).trans e1⟩
  ·by_cases hj:j=i
   ·subst hj
    rw[hi] at e1;cases e1;rw[List.getElem?_set_self hiσ] at e2;cases e2;exact⟨u,r,.inr ⟨.inl hk,c,hc,U⟩⟩
   ·rw[List.getElem?_set_ne (C6 hj)] at e2
    obtain⟨u',r',q⟩:=hl j y v' e1 e2 e3;refine⟨u',r',?_⟩;rcases q with q|⟨k,c',e,z'⟩
    ·exact .inl q
    ·refine .inr ⟨k,c',e,z'.sameBut hs ?_⟩
     rintro rfl;exact hj (qg0 hN e1 (I.ok.inj _ _ _ e hc▸hi))
  ·by_cases hcc:c'=c
   ·subst hcc;exact⟨_,U⟩
   ·obtain⟨w2,z2⟩:=I.cell y c' e
    exact⟨w2,z2.sameBut hs hcc⟩
  ·obtain⟨e,n,ne,nf,d⟩:=I.pin p hp
   refine⟨(hs.2 p.1 ?_).trans e,n,ne,nf,d⟩;intro q;rw[q,S] at e;have q':oc=p.2:=B1 e;exact d w' (by rw[← q'];exact Z)
theorem jw0{M:Model}{A:Around}{E:Value->Shared->Prop}{v:V}{Q:Unit->Shared->Prop}(I:Inv X pins σ H s)(hN:X.N.Nodup)(hi:X.N[i]?=some x)(hx:Loc X.env.scope x)(r:RelV v u)
  (h:∀s',Inv X pins (σ.set i (some v)) H s'->Q () s') (hf:X.fn x=true∨X.env.scope.names.lookup x=some .local:=by first|exact .inl rfl|exact .inr rfl|assumption):wpAny M A (storeName X.env x u) Q E s :=
 ls0 I hN hi hx r (λs' I' _=>h s' I') hf
theorem Inv.call'(I:Inv X pins σ H s)(ho:s'.os=s.os)(u:Un (frs X.stack) ch H H' s.heap s'.heap)(hok:HOk X.prog X.w H' s'.heap)(hg:AllBare s'.gens)
  (hch:∀b∈ch,(b∈X.ex∨X.s₀.heap.objs.size<=b)/\b≠X.env.locals/\(∀x c,X.env.cells.lookup x=some c->c≠b)/\∀p∈X.pn++pins,p.1≠b):Inv X pins σ H' s':=by
 obtain⟨h',g',d',t',o'⟩:=s';have e:o'=s.os:=ho;subst e;exact I.call (g':=g') (t':=t') (d':=d') u hok hg hch
end
abbrev XK:=Value->Option Addr->Hp->Prop
abbrev St:=List (Option V)
abbrev VK:=V->Hp->Prop
abbrev TE:=St->Hp->VK->Prop
variable{r:List L2.V->L2.Hp->L2.VK->Prop}
abbrev TT:=St->Hp->(Bool->Hp->Prop)->Prop
variable{ta tb te tv td:L2.TE}
abbrev TA:=St->Hp->(List V->Hp->Prop)->Prop
structure Ends where
 nx:St->Hp->Prop
 rt:VK
 bk:St->Hp->Prop:=λ_ _=>False
 ct:St->Hp->Prop:=λ_ _=>False
abbrev TS:=Ends->St->Hp->Prop
def EP(X:Cx)(pins:List (Addr×Obj))(σ:St)(Q:VK)(u:Value)(s':Shared):Prop:=∃v H',Inv X pins σ H' s'/\RelV v u/\Q v H'
def TP(X:Cx)(pins:List (Addr×Obj))(σ:St)(Q:Bool->Hp->Prop)(b:Bool)(s':Shared):Prop:=∃H',Inv X pins σ H' s'/\Q b H'
def AP(X:Cx)(pins:List (Addr×Obj))(σ:St)(Q:List V->Hp->Prop)(us:List Value)(s':Shared):Prop:=∃vs H',Inv X pins σ H' s'/\Vals vs us/\Q vs H'
def SP(X:Cx)(pins:List (Addr×Obj))(D:Ends)(f:Flow)(s':Shared):Prop :=
 match f with
 | .next=>∃σ' H',Inv X pins σ' H' s'/\D.nx σ' H'
 | .brk=>∃σ' H',Inv X pins σ' H' s'/\D.bk σ' H'
 | .cont=>∃σ' H',Inv X pins σ' H' s'/\D.ct σ' H'
 | .ret u=>∃v σ' H',Inv X pins σ' H' s'/\RelV v u/\D.rt v H'
def PE(X:Cx)(e:Expr)(t:TE):Prop :=
 ∀(pins:List (Addr×Obj)) (s:Shared) (σ:St) (H:Hp) (Q:VK),Inv X pins σ H s->t σ H Q->wpAny (model X.prog X.w) X.A (eval e X.env) (EP X pins σ Q) X.xe s
def PT(X:Cx)(e:Expr)(t:TT):Prop :=
 ∀(pins:List (Addr×Obj)) (s:Shared) (σ:St) (H:Hp) (Q:Bool->Hp->Prop),Inv X pins σ H s->t σ H Q->wpAny (model X.prog X.w) X.A (isTrue e X.env (eval e X.env)) (TP X pins σ Q) X.xe s
def PW(X:Cx)(e:Expr)(t:TT):Prop :=
 ∀(whole:Sem Value) (pins:List (Addr×Obj)) (s:Shared) (σ:St) (H:Hp) (Q:Bool->Hp->Prop),Inv X pins σ H s->t σ H Q->wpAny (model X.prog X.w) X.A (isTrue e X.env whole) (TP X pins σ Q) X.xe s
theorem PW.pt{t:TT}(h:PW X e t):PT X e t:=h _
def PA(X:Cx)(es:List Expr)(t:TA):Prop :=
 ∀(pos:Pos) (pins:List (Addr×Obj)) (s:Shared) (σ:St) (H:Hp) (Q:List V->Hp->Prop),Inv X pins σ H s->t σ H Q->wpAny (model X.prog X.w) X.A (spliced (backTo pos (starEach es X.env))) (AP X pins σ Q) X.xe s
def PS(X:Cx)(st:Stmt)(t:TS):Prop :=
 ∀(pins:List (Addr×Obj)) (s:Shared) (σ:St) (H:Hp) (D:Ends),Inv X pins σ H s->t D σ H->wpAny (model X.prog X.w) X.A (exec st X.env) (SP X pins D) X.xe s
def PSs(X:Cx)(st:List Stmt)(t:TS):Prop :=
 ∀(pins:List (Addr×Obj)) (s:Shared) (σ:St) (H:Hp) (D:Ends),Inv X pins σ H s->t D σ H->wpAny (model X.prog X.w) X.A (execs st X.env) (SP X pins D) X.xe s
theorem thn{t:Sem α}{Q Q':α->Shared->Prop}{M:Model}{s:Shared}(h:wpAny M A t Q E s)(hQ:∀a s,Q a s->Q' a s):wpAny M A t Q' E s:=E2 h hQ λ_ _ x=>x
section
def Z40(i:Nat):TE:=fun σ H Q=>∃v,σ[i]?=some (some v)/\Q v H
def tC(v:V):TE:=λ_ H Q=>Q v H
theorem y30(hN:X.N[i]?=some x)(hv:Vis X.env.scope x)(hd:(x==("__debug__" : Str))=false:=by decide)(hcd:(x==("__classdict__" : Str))=false:=by decide):PE X (.Name x pos) (Z40 i):=by
 intro pins s σ H Q I h;obtain⟨v,e,h⟩:=h;obtain⟨m,hn,hl⟩:=I.loc;obtain⟨u,r,l⟩:=hl i x v hN e hv;have J:EP X pins σ Q u s:=⟨v,H,I,r,h⟩;rcases l with⟨hk,hm⟩|⟨hk,c,hc,F⟩
 ·exact wpAny_Name (wpAny_loadName_local I.ok.kind hk hn hm J) hd
 ·rcases hk with hk|hk
  ·exact wpAny_Name (wpAny_loadName_cell I.ok.kind hk hc F J) hd
  ·exact wpAny_Name (wpAny_loadName_free I.ok.kind hk hc F J hcd) hd
theorem e50{i j pos}:PE X (.Constant (.int i) j pos) (tC (.int i)):=λ_ _ _ H _ I h=>wpAny_Constant_int ⟨.int i,H,I.tok _,⟨_,rfl⟩,h⟩
theorem cj0{b j pos}:PE X (.Constant (.bool b) j pos) (tC (.bl b)):=λ_ _ _ H _ I h=>Constant_bool ⟨.bl b,H,I,rfl,h⟩
theorem e70{j pos}:PE X (.Constant .none j pos) (tC .non):=λ_ _ _ H _ I h=>Constant_none ⟨.non,H,I,rfl,h⟩
theorem d30{x j pos}:PE X (.Constant (.str x) j pos) (tC (.str x)):=λ_ _ _ H _ I h=>Calls.Constant_str ⟨.str x,H,I.tok _,⟨_,rfl⟩,h⟩
def Gl(X:Cx)(x:Str):Prop:=X.env.kindOf x=some .globalImplicit
theorem g70{E:Value->Shared->Prop}{s:Shared}{σ:St}{pos:Pos}(I:Inv X pins σ H s)(hg:Gl X x)(hm:X.mg x=some u)(h:Q u s)
  (hd:(x==("__debug__" : Str))=false:=by decide):wpAny (model X.prog X.w) X.A (eval (.Name x pos) X.env) Q E s :=
 Aa0 I.ok.kind hg (Calls.loadGlobal_global (by rw[I.ok.glob];exact I.mod.glob.keeps I.bk) hm h) hd
theorem xg0{E:Value->Shared->Prop}{s:Shared}{σ:St}{pos:Pos}(I:Inv X pins σ H s)(hg:Gl X x)(hm:X.mg x=none)(hv:bootBuiltins x=some u)(h:Q u s)
  (hn:x ≠"__name__" := by decide) (hd:(x==("__debug__" : Str))=false:=by decide):wpAny (model X.prog X.w) X.A (eval (.Name x pos) X.env) Q E s:=by
 obtain⟨mb,h1,h2⟩:=I.mod.blt;exact Aa0 I.ok.kind hg (Calls.loadGlobal_builtin (by rw[I.ok.glob];exact I.mod.glob.keeps I.bk) hm (by rw[I.ok.blt];exact h1.keeps I.bk) ((h2 x hn).trans hv) h) hd
theorem ho0{v:V}(hg:Gl X x)(hm:X.mg x=none)(hv:bootBuiltins x=some u)(r:RelV v u)(hn:x ≠"__name__" := by decide)(hd:(x==("__debug__" : Str))=false:=by decide):PE X (.Name x pos) (tC v) :=
 λ_ _ _ H _ I h=>xg0 I hg hm hv ⟨v,H,I,r,h⟩ hn hd
variable{a:Expr}
def PC(X:Cx)(op:CmpOp)(a b:Expr)(t:TE):Prop :=
 ∀(pins:List (Addr×Obj)) (s:Shared) (σ:St) (H:Hp) (Q:VK),Inv X pins σ H s->t σ H Q ->
  wpAny (model X.prog X.w) X.A (eval a X.env) (λv s₁=>wpAny (model X.prog X.w) X.A (eval b X.env) (λu s₂=>wpAny (model X.prog X.w) X.A (compareOp op v u) (EP X pins σ Q) X.xe s₂) X.xe s₁) X.xe s
def tB(t:TE):TT:=fun σ H Q=>t σ H λx H1=>∃c,x=.bl c/\Q c H1
theorem dw0{op:CmpOp}{t:TE}(h:PC X op a b t)(h1:behindInMarks op b=false:=by first|exact nobehind _ (by decide) (by decide)|rfl):PT X (.Compare a [op] [b] pos) (tB t):=by
 intro pins s σ H Q I hw;refine wpAny_isTrue_Compare1 (thn (h pins s σ H _ I hw) λv s1 h1=>thn h1 λu s2 h2=>thn h2 λc s3 ⟨x,H1,I1,r1,q1⟩=>?_) h1;obtain⟨d,rfl,q⟩:=q1;cases r1;exact L5 ⟨H1,I1,q⟩
theorem dx0{t:TE}(h:PE X e t)(he:∀whole,isTrue e X.env whole=(do let v ← whole;standAt e.pos;holding [v] (truthy v)):=by intro _;rfl):PT X e (tB t):=by
 intro pins s σ H Q I hw;refine isTrue_plain (thn (h pins s σ H _ I hw) λv s1 ⟨x,H1,I1,r1,q1⟩=>?_) (he _);obtain⟨d,rfl,q⟩:=q1;cases r1;exact L5 ⟨H1,I1,q⟩
variable{tA tB':TT}{rest:List Expr}
def ab0(t u:TT):TT:=fun σ H Q=>t σ H λc H1=>if c=true then u σ H1 Q else Q false H1
def tOr(t u:TT):TT:=fun σ H Q=>t σ H λc H1=>if c=true then Q true H1 else u σ H1 Q
def al0(t:TT):TT:=fun σ H Q=>t σ H λc H1=>Q (!c) H1
theorem gn0(ha:PT X a tA):PW X (.BoolOp .And [a] pos) tA:=by
 intro wh pins s σ H Q I h;refine isTrue_and (thn (ha pins s σ H Q I h) λc s1 e=>?_);cases c with
 | true=>exact isTrue_and_nil e
 | false=>exact e
theorem dj0(ha:PT X a tA):PW X (.BoolOp .Or [a] pos) tA:=by
 intro wh pins s σ H Q I h;refine isTrue_or (thn (ha pins s σ H Q I h) λc s1 e=>?_);cases c with
 | false=>exact isTrue_or_nil e
 | true=>exact e
theorem eu0(ha:PT X a tA)(hb:PW X (.BoolOp .And (b::rest) pos) tB'):PW X (.BoolOp .And (a::b::rest) pos) (ab0 tA tB'):=by
 intro wh pins s σ H Q I h;refine isTrue_and (thn (ha pins s σ H _ I h) λc s1 ⟨H1,I1,q1⟩=>?_);cases c with
 | true=>exact hb wh pins s1 σ H1 Q I1 q1
 | false=>exact⟨H1,I1,q1⟩
theorem bz0(ha:PT X a tA)(hb:PW X (.BoolOp .Or (b::rest) pos) tB'):PW X (.BoolOp .Or (a::b::rest) pos) (tOr tA tB'):=by
 intro wh pins s σ H Q I h;refine isTrue_or (thn (ha pins s σ H _ I h) λc s1 ⟨H1,I1,q1⟩=>?_);cases c with
 | true=>exact⟨H1,I1,q1⟩
 | false=>exact hb wh pins s1 σ H1 Q I1 q1
theorem fw0(ha:PT X a tA):PT X (.UnaryOp .Not a pos) (al0 tA):=by
 intro pins s σ H Q I h;exact isTrue_not (ha pins s σ H (λc H1=>Q (!c) H1) I h)
def cz0(ta tb:TE):TE:=fun σ H Q=>ta σ H λx H1=>∃c,x=.bl c/\if c=true then tb σ H1 Q else Q (.bl false) H1
theorem el0{op}{t:TE}(h:PE X a t):PE X (.BoolOp op [a] pos) t:=λpins s σ H Q I hw=>BoolOp_one (h pins s σ H Q I hw)
theorem e80(ha:PE X a ta)(hb:PE X (.BoolOp .And (b::rest) pos) tb):PE X (.BoolOp .And (a::b::rest) pos) (cz0 ta tb):=by
 intro pins s σ H Q I h;refine BoolOp_and (thn (ha pins s σ H _ I h) λv s1 ⟨x,H1,I1,r1,q1⟩=>?_);obtain⟨c,rfl,q1⟩:=q1;cases r1;refine L5 ?_;cases c with
 | true=>exact hb pins s1 σ H1 Q I1 q1
 | false=>exact⟨.bl false,H1,I1,rfl,q1⟩
end
def SqL(K:W.Frag)(H:Hp)(a:Addr)(xs:List V):Prop :=
 Rd H a (.lst xs) ∨
  ∃(o:Obj) (its:Array Value) (n:Nat),K.lookup a=some o/\o.cls=.type "list"/\o.dict=none/\o.data=.seq its n/\its.size<=sizeLine/\Vals xs its.toList
def SqT(K:W.Frag)(H:Hp)(a:Addr)(xs:List V):Prop :=
 Rd H a (.tup xs) ∨
  ∃(o:Obj) (its:Array Value) (n:Nat),K.lookup a=some o/\o.cls=.type "tuple"/\o.data=.seq its n/\its.size<=sizeLine/\Vals xs its.toList
def ay0:Value->Option V
 | .none=>some .non
 | .bool b=>some (.bl b)
 | .int i _=>some (.int i)
 | .str x _=>some (.str x)
 | .bytes b _=>some (.byt b)
 | .float b _=>some (.flt b)
 | .ref a=>some (.ref a)
 | .type n=>some (.ty n)
 | _=>none
theorem RelV.abs{x:V}(r:RelV x u):ay0 u=some x:=by
 cases x with
 | non=>cases r;rfl
 | bl _=>cases r;rfl
 | int _=>obtain⟨t,rfl⟩:=r;rfl
 | str _=>obtain⟨t,rfl⟩:=r;rfl
 | byt _=>obtain⟨t,rfl⟩:=r;rfl
 | flt _=>obtain⟨t,rfl⟩:=r;rfl
 | ref _=>cases r;rfl
 | ty _=>cases r;rfl
theorem RelV.inj{x y:V}(r:RelV x u)(q:RelV y u):x=y:=B1 (r.abs.symm.trans q.abs)
theorem Vals.inj:∀{xs ys:List V} {us:List Value},Vals xs us->Vals ys us->xs=ys
 | _,_,_,.nil,.nil=>rfl
 | _,_,_,.cons r t,.cons r' t'=>by rw[r.inj r',Vals.inj t t']
section
variable{σ:St}{s:Shared}{ys:List V}
theorem SqT.of(h:H a=some (.tup xs)):SqT K H a xs:=.inl (.inl h)
theorem Inv.list(I:Inv X pins σ H s)(h:SqL X.K H a xs):∃its:List Value,Vals xs its/\PlainL s.heap a its.toArray/\xs.length<=sizeLine:=by
 rcases h with h|⟨o,its,n,hk,hc,hd,hs,hz,r⟩
 ·obtain⟨z,its,n,r,e⟩:=h.ok I.hok
  exact⟨its,r,⟨_,n,e,rfl,rfl,rfl⟩,z⟩
 ·refine⟨its.toList,r,⟨o,n,I.kIn a o hk,hc,hd,by simpa using hs⟩,?_⟩
  have e:=r.length;simp only[Array.length_toList] at e;omega
theorem Inv.tuple(I:Inv X pins σ H s)(h:SqT X.K H a xs):∃its:List Value,Vals xs its/\IsTup s.heap a its.toArray/\xs.length<=sizeLine:=by
 rcases h with h|⟨o,its,n,hk,hc,hs,hz,r⟩
 ·obtain⟨z,its,r,p⟩:=h.ok I.hok
  exact⟨its,r,p.tup,z⟩
 ·refine⟨its.toList,r,⟨o,I.kIn a o hk,hc,n,by simpa using hs⟩,?_⟩
  have e:=r.length;simp only[Array.length_toList] at e;omega
theorem Inv.list_inj(I:Inv X pins σ H s)(h:SqL X.K H a xs)(h':SqL X.K H a ys):xs=ys:=by
 obtain⟨its,r,⟨o,n,e,_,_,d⟩,_⟩:=I.list h;obtain⟨F,r',⟨o',n',e',_,_,d'⟩,_⟩:=I.list h';rw[e] at e';cases e';rw[d] at d';injection d' with d1 _
 have:its=F:=by simpa using D1 Array.toList d1
 subst this;exact r.inj r'
theorem Inv.tuple_inj(I:Inv X pins σ H s)(h:SqT X.K H a xs)(h':SqT X.K H a ys):xs=ys:=by
 obtain⟨its,r,⟨o,e,_,n,d⟩,_⟩:=I.tuple h;obtain⟨F,r',⟨o',e',_,n',d'⟩,_⟩:=I.tuple h';rw[e] at e';cases e';rw[d] at d';injection d' with d1 _
 have:its=F:=by simpa using D1 Array.toList d1
 subst this;exact r.inj r'
end
abbrev Cx.wish(X:Cx)(E:Value->Shared->Prop):Cx:={ X with xe:=E }
abbrev Cx.nox(X:Cx):Cx:=X.wish λ_ _=>False
theorem Cx.Ok.wish(ok:X.Ok)(E:Value->Shared->Prop):(X.wish E).Ok :=
 ⟨ok.mod,ok.kind,ok.glob,ok.blt,ok.above,ok.inj,ok.has,ok.cab,ok.hd,ok.frames,ok.stk,ok.exf,ok.bs,ok.bsz,ok.noex,ok.exfs,ok.funs,ok.frf⟩
theorem Cx.Ok.unwish(ok:(X.wish E).Ok):X.Ok :=
 ⟨ok.mod,ok.kind,ok.glob,ok.blt,ok.above,ok.inj,ok.has,ok.cab,ok.hd,ok.frames,ok.stk,ok.exf,ok.bs,ok.bsz,ok.noex,ok.exfs,ok.funs,ok.frf⟩
section
variable{σ:St}{s:Shared}
theorem Inv.wish(I:Inv X pins σ H s)(E:Value->Shared->Prop):Inv (X.wish E) pins σ H s:=⟨I.ok.wish E,I.os,I.bare,I.base,I.loc,I.cell,I.free,I.freeC,I.pin,I.hok,I.len⟩
theorem Inv.unwish(I:Inv (X.wish E) pins σ H s):Inv X pins σ H s:=⟨I.ok.unwish,I.os,I.bare,I.base,I.loc,I.cell,I.free,I.freeC,I.pin,I.hok,I.len⟩
theorem SP.unwish{D:Ends}{f:Flow}(h:SP (X.wish E) pins D f s'):SP X pins D f s':=by
 cases f with
 | next=>obtain⟨σ',H',I,q⟩:=h;exact⟨σ',H',I.unwish,q⟩
 | brk=>obtain⟨σ',H',I,q⟩:=h;exact⟨σ',H',I.unwish,q⟩
 | cont=>obtain⟨σ',H',I,q⟩:=h;exact⟨σ',H',I.unwish,q⟩
 | ret u=>obtain⟨v,σ',H',I,r,q⟩:=h;exact⟨v,σ',H',I.unwish,r,q⟩
theorem PSs.nox{st:List Stmt}{t:TS}(h:PSs X.nox st t):PSs X st t:=λpins s σ H D I hw =>
 E2 (h pins s σ H D (I.wish _) hw) (λ_ _ q=>q.unwish) λ_ _ z=>False.elim z
end
section
variable{t u:TS}
def ci0:TS:=λD σ H=>D.nx σ H
def ae0(t u:TS):TS:=λD σ H=>t { D with nx:=u D } σ H
theorem fe0:PSs X [] ci0:=λ_ _ σ H _ I h=>j3 ⟨σ,H,I,h⟩
theorem yn0(h1:PS X st t)(h2:PSs X rest u):PSs X (st::rest) (ae0 t u):=by
 intro pins s σ H D I h;refine wpAny_execs_cons (thn (h1 pins s σ H { D with nx:=u D } I h) λf s1 q=>?_);cases f with
 | next =>
  obtain⟨σ',H',I',q⟩:=q;exact h2 pins s1 σ' H' D I' q
 | ret v=>exact q
 | brk=>exact q
 | cont=>exact q
theorem Inv.quiet{σ:St}{s:Shared}(I:Inv X pins σ H s):interactive X.env=false:=by simp[interactive,I.ok.kind]
def b60(te:TE):TS:=λD σ H=>te σ H λ_ H1=>D.nx σ H1
theorem gj0(he:PE X e te)(hs:swapsWith e none pos.line X.env=pure false:=by rfl):PS X (.Expr e pos) (b60 te):=by
 intro pins s σ H D I h;exact wpAny_Expr_any (thn (he pins s σ H _ I h) λv s1 ⟨x,H1,I1,r1,q1⟩=>⟨σ,H1,I1,q1⟩) I.quiet hs
def av0(te:TE):TS:=λD σ H=>te σ H D.rt
theorem qd0(he:PE X e te):PS X (.Return (some e) pos) (av0 te):=by
 intro pins s σ H D I h;exact wpAny_Return_some (thn (he pins s σ H _ I h) λv s1 ⟨x,H1,I1,r1,q1⟩=>⟨x,σ,H1,I1,r1,q1⟩)
def ad0(c:TT)(t u:TS):TS:=λD σ H=>c σ H λb H1=>if b=true then t D σ H1 else u D σ H1
theorem cy0{a b:List Stmt}{tc:TT}(hc:PT X c tc)(ha:PSs X a t)(hb:PSs X b u):PS X (.If c a b pos) (ad0 tc t u):=by
 intro pins s σ H D I h;refine wpAny_If (thn (hc pins s σ H _ I h) λd s1 ⟨H1,I1,q1⟩=>?_);cases d with
 | true=>exact ha pins s1 σ H1 D I1 q1
 | false=>exact hb pins s1 σ H1 D I1 q1
def fv0:TS:=λ_ _ _=>False
theorem yz0{sts:List Stmt}:PSs X sts fv0:=λ_ _ _ _ _ _ h=>h.elim
end
abbrev TG:=V->St->Hp->(St->Hp->Prop)->Prop
abbrev TGs:=List V->St->Hp->(St->Hp->Prop)->Prop
def PG(X:Cx)(target:Expr)(t:TG):Prop :=
 ∀(pins:List (Addr×Obj)) (s:Shared) (σ:St) (H:Hp) (v:V) (u:Value) (Q:St->Hp->Prop),Inv X pins σ H s->RelV v u->t v σ H Q ->
  wpAny (model X.prog X.w) X.A (assign target X.env u) (λ_ s'=>∃σ' H',Inv X pins σ' H' s'/\Q σ' H') X.xe s
def PGs(X:Cx)(ts:List Expr)(t:TGs):Prop :=
 ∀(pins:List (Addr×Obj)) (s:Shared) (σ:St) (H:Hp) (vs:List V) (us:List Value) (Q:St->Hp->Prop),Inv X pins σ H s->Vals vs us->t vs σ H Q ->
  wpAny (model X.prog X.w) X.A (assignInOrder ((assignEach ts X.env).map (·.2)) us) (λ_ s'=>∃σ' H',Inv X pins σ' H' s'/\Q σ' H') X.xe s
abbrev j70:=V->V->V->Hp->(Hp->Prop)->Prop
def i10(X:Cx)(t:j70):Prop :=
 ∀(pins:List (Addr×Obj)) (s:Shared) (σ:St) (H:Hp) (o i v:V) (ov iv u:Value) (Q:Hp->Prop),Inv X pins σ H s->RelV o ov->RelV i iv->RelV v u->t o i v H Q ->
  wpAny (model X.prog X.w) X.A (setItem ov iv u) (λ_ s'=>∃H',Inv X pins σ H' s'/\Q H') X.xe s
def bp0(i:Nat):TG:=λv σ H Q=>Q (σ.set i (some v)) H
theorem vf0(hN:X.N.Nodup)(hi:X.N[i]?=some x)(hx:Loc X.env.scope x)(hf:X.fn x=true∨X.env.scope.names.lookup x=some .local:=by first|exact .inl rfl|exact .inr rfl|assumption):PG X (.Name x pos) (bp0 i):=by
 intro pins s σ H v u Q I r h;exact wpAny_assign_Name (jw0 I hN hi hx r (λs' I'=>⟨_,H,I',h⟩) hf)
def au0:TGs:=λvs σ H Q=>vs=[]/\Q σ H
def cu0(t:TG)(u:TGs):TGs:=λvs σ H Q=>∃v r,vs=v::r/\t v σ H fun σ' H'=>u r σ' H' Q
theorem fa0:PGs X [] au0:=by
 intro pins s σ H vs us Q I r h;obtain⟨e,h⟩:=h;subst e;cases r;exact assignInOrder_nil ⟨σ,H,I,h⟩
theorem pd0{t:TG}{u:TGs}(h1:PG X e t)(h2:PGs X es u)
  (hs:(assignEach (e::es) X.env).map (·.2)=assign e X.env::(assignEach es X.env).map (·.2):=by rfl):PGs X (e::es) (cu0 t u):=by
 intro pins s σ H vs us Q I r h;obtain⟨v,vr,e1,h⟩:=h;subst e1;cases r with
 | cons r rr =>
  rw[hs];refine assignInOrder_cons (thn (h1 pins s σ H _ _ _ I r h) λ_ s1 ⟨σ1,H1,I1,q1⟩=>?_);exact h2 pins s1 σ1 H1 _ _ Q I1 rr q1
def a90(K:W.Frag)(n:Nat)(t:TGs):TG:=λv σ H Q=>∃a xs,v=.ref a/\SqT K H a xs/\xs.length=n/\t xs σ H Q
theorem ee0{k:Nat}{t:TGs}{n:Nat}(hc:X.calm=true)(h:PGs X es t)
  (hn:(assignEach es X.env).length=n:=by rfl) (hst:(assignEach es X.env).findIdx? (·.1)=none:=by rfl):PG X (.Tuple es k pos) (a90 X.K n t):=by
 intro pins s σ H v u Q I r hw;obtain⟨a,xs,e1,hq,hl,hw⟩:=hw;subst e1;cases r;obtain⟨its,rv,ht,hz⟩:=I.tuple hq;refine assign_Tuple_tuple (I.ok.hd hc) ht (by simp[hn,← hl,rv.length]) hst λh' hx=>?_
 have I1:Inv X pins σ H { s with heap:=h' }:=I.kept (t':=s.toks) λb o e=>hx b o (B6 (A6 e)) e
 exact h pins _ σ H xs _ Q I1 (by simpa using rv) hw
def ar0(to ti:TE)(t:j70):TG:=λv σ H Q=>to σ H λo H1=>ti σ H1 λi H2=>t o i v H2 λH3=>Q σ H3
theorem lt0{i:Expr}{to ti:TE}{t:j70}(ho:PE X o to)(hi:PE X i ti)(hs:i10 X t)
  (ha:∀v,assign (.Subscript o i pos) X.env v=(do
   let ov ← holding [v] (eval o X.env)
   let iv ← holding [v,ov] (eval i X.env)
   standAt pos
   holding [v,ov,iv] (setItem ov iv v)
   release [v,ov,iv] []):=by intro _;rfl):PG X (.Subscript o i pos) (ar0 to ti t):=by
 intro pins s σ H v u Q I r h;rw[ha];refine A0 (C4 (thn (ho pins s σ H _ I h) λov s1 ⟨x,H1,I1,r1,q1⟩=>?_));refine A0 (C4 (thn (hi pins s1 σ H1 _ I1 q1) λiv s2 ⟨y,H2,I2,r2,q2⟩=>?_));refine A0 (m3 (A0 (C4 (thn (hs pins s2 σ H2 x y v ov iv u _ I2 r1 r2 r q2) λ_ s3 ⟨H3,I3,q3⟩=>?_))));exact wpAny_release ⟨σ,H3,I3,q3⟩
def Z60(te:TE)(g:TG):TS:=λD σ H=>te σ H λx H1=>g x σ H1 D.nx
theorem pa0{g:TG}(he:PE X e te)(hg:PG X tg g)(hs:swapsWithSole [tg] e pos.line X.env=pure false:=by rfl)(hw:swappedStores [tg] e X.env=pure none:=by rfl)
  (h1:(assignEach [tg] X.env).map (·.2)=[assign tg X.env]:=by rfl):PS X (.Assign [tg] e pos) (Z60 te g):=by
 intro pins s σ H D I h;refine wpAny_Assign_stores (thn (he pins s σ H _ I h) λv s1 ⟨x,H1,I1,r1,q1⟩=>?_) hs hw;rw[h1];exact thn (hg pins s1 σ H1 x v _ I1 r1 q1) λ_ s2 q=>q
def ei0(c:TT)(tb:TS):TS:=λD σ H=>∃W:Nat->St->Hp->Prop,(∃m,W m σ H)/\∀m σ H,W m σ H ->
 c σ H λb H1=>if b=true then ∃N:St->Hp->Prop,(∀σ' H',N σ' H'->∃m',m'<m/\W m' σ' H')/\tb { D with nx:=N,ct:=N,bk:=D.nx } σ H1 else D.nx σ H1
theorem kz0{tc:TT}{tb:TS}(hp:PassesOwn (model X.prog X.w) X.A X.env X.xe)(hc:PT X c tc)(hb:PSs X body tb):PS X (.While c body [] pos) (ei0 tc tb):=by
 intro pins s σ H D I h;obtain⟨W,⟨m0,w0⟩,F⟩:=h;refine wpAny_While (codeAny_whileLoop (λn s'=>∃σ' H',Inv X pins σ' H' s'/\W n σ' H') ?_ m0 ⟨σ,H,I,w0⟩);rintro n s1 ⟨σ1,H1,I1,w1⟩;refine L6 hp (thn (hc pins s1 σ1 H1 _ I1 (F n σ1 H1 w1)) λb s2 ⟨H2,I2,q2⟩=>?_);cases b with
 | true =>
  obtain⟨N,hN,q2⟩:=q2;rw[if_pos rfl];refine L6 hp (thn (hb pins s2 σ1 H2 _ I2 q2) λf s3 q3=>?_);cases f with
  | next =>
   obtain⟨σ3,H3,I3,n3⟩:=q3;obtain⟨m',hm,w3⟩:=hN σ3 H3 n3;exact⟨m',hm,σ3,H3,I3,w3⟩
  | cont =>
   obtain⟨σ3,H3,I3,n3⟩:=q3;obtain⟨m',hm,w3⟩:=hN σ3 H3 n3;exact⟨m',hm,σ3,H3,I3,w3⟩
  | brk=>exact q3
  | ret v=>exact q3
 | false =>
  rw[if_neg B9];exact j3 ⟨σ1,H2,I2,q2⟩
structure It where
 go:Nat->Hp->Prop
 yld:Nat->Hp->V->Hp->Prop
 stop:Nat->Hp->Prop
def yu0(X:Cx)(pins:List (Addr×Obj))(H:Hp)(b:Addr):Prop :=
 H b=none/\b≠X.env.locals/\b∉X.fs/\(b∈X.ex∨X.s₀.heap.objs.size<=b)/\(∀x c,X.env.cells.lookup x=some c->c≠b)/\∀p∈X.pn++pins,p.1≠b
theorem Inv.fpOk{σ:St}{s:Shared}{b:Addr}(I:Inv X pins σ H s)(hb:s.heap.objs.size<=b)(hn:H' b=none):yu0 X pins H' b:=by
 refine⟨hn,N3 (C1 I.lt hb),I.nofs hb,.inr (B7 I.sz hb),λx c e z=>?_,λp hp z=>?_⟩
 ·obtain⟨v,q⟩:=I.cell x c e
  exact absurd (C1 q.lt (by rw[z];exact hb)) (E1 _)
 ·exact absurd (C1 (A6 (I.pin p hp).1) (by rw[z];exact hb)) (E1 _)
structure Turn(P:Program)(w:World)(K:W.Frag)(tg:Expr)(J:It)(fp:List Addr)(it:Addr)(tn:Nat->Heap->Prop):Prop where
 mem:it∈fp
 obj:∀i h,tn i h->∀b∈fp,∃o,h.get? b=some o/\∀v,o.data≠.cell v
 keep:∀i h h',tn i h->(∀b∈fp,∀o,h.get? b=some o->h'.get? b=some o)->tn i h'
 item:∀(X:Cx),X.prog=P->X.w=w->X.K=K->X.calm=true->∀(i:Nat) (pins:List (Addr×Obj)) (s:Shared) (σ:St) (H:Hp) (E:Value->Shared->Prop),Inv X pins σ H s->(∀b∈fp,yu0 X pins H b)->tn i s.heap->J.go i H ->
  wpAny (model P w) X.A (pyNext (.ref it)) (λr s1=>∃u,r=some u /\
   wpAny (model P w) X.A (letOwnedTupleGo tg (.ref it) u) (λ_ s2=>∃x H',Inv X pins σ H' s2/\RelV x u/\J.yld i H x H'/\tn (i+1) s2.heap/\∀b∈fp,H' b=none) E s1) E s
 done:∀(X:Cx),X.prog=P->X.w=w->X.K=K->X.calm=true->∀(i:Nat) (pins:List (Addr×Obj)) (s:Shared) (σ:St) (H:Hp) (E:Value->Shared->Prop),Inv X pins σ H s->(∀b∈fp,yu0 X pins H b)->tn i s.heap->J.stop i H ->
  wpAny (model P w) X.A (pyNext (.ref it)) (λr s1=>r=none/\Inv X pins σ H s1) E s
 self:∀(A:Around) (i:Nat) (s:Shared) (Q:Value->Shared->Prop) (E:Value->Shared->Prop),tn i s.heap->Q (.ref it) s->wpAny (model P w) A (pyIter (.ref it)) Q E s
abbrev TI:=St->Hp->(It->Hp->Prop)->Prop
def PIE(X:Cx)(pins:List (Addr×Obj))(σ:St)(tg:Expr)(R:It->Hp->Prop)(itv:Value)(s2:Shared):Prop :=
 ∃(it:Addr) (fp:List Addr) (tn:Nat->Heap->Prop) (J:It) (H':Hp),itv=.ref it/\Inv X pins σ H' s2/\Turn X.prog X.w X.K tg J fp it tn/\tn 0 s2.heap/\(∀b∈fp,yu0 X pins H' b)/\R J H'
def PI(X:Cx)(tg iter:Expr)(wi:TI):Prop :=
 ∀(pins:List (Addr×Obj)) (s:Shared) (σ:St) (H:Hp) (R:It->Hp->Prop),Inv X pins σ H s->wi σ H R ->
  wpAny (model X.prog X.w) X.A (eval iter X.env) (λv s1=>wpAny (model X.prog X.w) X.A (pyIter v) (PIE X pins σ tg R) X.xe s1) X.xe s
theorem mc0{M:Model}{A:Around}{E:Value->Shared->Prop}{s:Shared}{tg:Expr}{u:Value}{o:Obj}{n:String}{vs:Array Value}{Q:Unit->Shared->Prop}(ho:s.heap.get? it=some o)(hc:o.cls=.type n)(hd:o.data=.fields vs)
  (hn:["enumerate", "zip", "dict_itemiterator", "dict_reverseitemiterator", "odict_iterator", "itertools.zip_longest", "itertools.pairwise"].contains n=false) (hQ:Q () s):wpAny M A (letOwnedTupleGo tg (.ref it) u) Q E s:=by
 unfold letOwnedTupleGo;cases tg<;>first
  | exact A1 hQ
  | (cases u<;>first
    | exact A1 hQ
    | (refine A0 (wpAny_load ho ?_)
       rw[hc,hd];show wpAny M A (if (["enumerate", "zip", "dict_itemiterator", "dict_reverseitemiterator", "odict_iterator", "itertools.zip_longest", "itertools.pairwise"].contains n&&vs[0]?==some (rawInt _))=true then _ else _) Q E s;rw[if_neg (by intro h;rw[hn,Bool.false_and] at h;cases h)];exact A1 hQ))
def Itl(K:W.Frag)(a:Addr):It :=
 ⟨λi H=>∃xs x,SqL K H a xs/\xs[i]?=some x,λi H x H'=>H'=H/\∀xs,SqL K H a xs->xs[i]?=some x,λi H=>∃xs,SqL K H a xs/\xs.length<=i⟩
def Itt(K:W.Frag)(a:Addr):It :=
 ⟨λi H=>∃xs x,SqT K H a xs/\xs[i]?=some x,λi H x H'=>H'=H/\∀xs,SqT K H a xs->xs[i]?=some x,λi H=>∃xs,SqT K H a xs/\xs.length<=i⟩
def Itr(lo:Int)(n:Nat):It:=⟨λi _=>i<n,λi H x H'=>H'=H/\x=.int (lo+i),λi _=>n<=i⟩
theorem km0{P:Program}{w:World}(a it:Addr):Turn P w K tg (Itl K a) [it] it (λi h=>h.IsListIter it a i) where
 mem:=by simp
 obj:=λi h st b hb=>by
  have e:b=it:=by simpa using hb
  subst e;obtain⟨o,e,c,d⟩:=st;exact⟨o,e,λv z=>by rw[d] at z;cases z⟩
 keep:=λi h h' st k=>st.at λo e=>k it (by simp) o e
 item:=by
  intro X hP hw hK hc i pins s σ H E I hf st hg;subst hP hw hK;obtain⟨xs,x,hq,hx⟩:=hg;obtain⟨its,rv,p,hz⟩:=I.list hq;obtain⟨u,hu,ru⟩:=rv.get hx;obtain⟨f0,f1,f2,f3,f4,f5⟩:=hf it (by simp);refine Ae0 st p.isList (x:=u) (by simpa using hu) λh' F sb=>?_
  have I1:Inv X pins σ H { s with heap:=h' }:=I.turned (t':=s.toks) (λb o hb e=>(sb.2 b hb).trans e) f0 f1 f3 f4 f5;obtain⟨o,e,c,d⟩:=id F;exact⟨u,rfl,mc0 (s:={ s with heap:=h' }) e c d (by decide) ⟨x,H,I1,ru,⟨rfl,λys hy=>by rw[I.list_inj hy hq];exact hx⟩,F,λb hb=>(hf b hb).1⟩⟩
 done:=by
  intro X hP hw hK hc i pins s σ H E I hf st hg;subst hP hw hK;obtain⟨xs,hq,hx⟩:=hg;obtain⟨its,rv,p,hz⟩:=I.list hq;obtain⟨f0,f1,f2,f3,f4,f5⟩:=hf it (by simp);have hl:=rv.length;exact wpAny_pyNext_list_end (I.ok.hd hc) st p.isList (by simp;omega) λh' eb=>⟨rfl,I.turned (t':=s.toks) (λb o hb e=>eb b o hb e) f0 f1 f3 f4 f5⟩
 self:=λ_ _ _ _ _ st h=>wpAny_pyIter_listiter st h
theorem nw0{P:Program}{w:World}(a it:Addr):Turn P w K tg (Itt K a) [it] it (λi h=>h.IsTupleIter it a i) where
 mem:=by simp
 obj:=λi h st b hb=>by
  have e:b=it:=by simpa using hb
  subst e;obtain⟨o,e,c,d⟩:=st;exact⟨o,e,λv z=>by rw[d] at z;cases z⟩
 keep:=λi h h' st k=>st.at λo e=>k it (by simp) o e
 item:=by
  intro X hP hw hK hc i pins s σ H E I hf st hg;subst hP hw hK;obtain⟨xs,x,hq,hx⟩:=hg;obtain⟨its,rv,p,hz⟩:=I.tuple hq;obtain⟨u,hu,ru⟩:=rv.get hx;obtain⟨f0,f1,f2,f3,f4,f5⟩:=hf it (by simp);refine wpAny_pyNext_tuple_item st (show s.heap.IsTuple a its.toArray from p) (x:=u) (by simpa using hu) λh' F sb=>?_
  have I1:Inv X pins σ H { s with heap:=h' }:=I.turned (t':=s.toks) (λb o hb e=>(sb.2 b hb).trans e) f0 f1 f3 f4 f5;obtain⟨o,e,c,d⟩:=id F;exact⟨u,rfl,mc0 (s:={ s with heap:=h' }) e c d (by decide) ⟨x,H,I1,ru,⟨rfl,λys hy=>by rw[I.tuple_inj hy hq];exact hx⟩,F,λb hb=>(hf b hb).1⟩⟩
 done:=by
  intro X hP hw hK hc i pins s σ H E I hf st hg;subst hP hw hK;obtain⟨xs,hq,hx⟩:=hg;obtain⟨its,rv,p,hz⟩:=I.tuple hq;obtain⟨f0,f1,f2,f3,f4,f5⟩:=hf it (by simp);have hl:=rv.length;exact wpAny_pyNext_tuple_end (I.ok.hd hc) st (show s.heap.IsTuple a its.toArray from p) (by simp;omega) λh' eb=>⟨rfl,I.turned (t':=s.toks) (λb o hb e=>eb b o hb e) f0 f1 f3 f4 f5⟩
 self:=λ_ _ _ _ _ st h=>wpAny_pyIter_tupleiter st h
theorem m60{P:Program}{w:World}(it:Addr)(lo:Int)(n:Nat):Turn P w K tg (Itr lo n) [it] it (λi h=>IsRangeIter h it (lo+(i:Nat)*1) ((n:Int) - (i:Nat)) 1) where
 mem:=by simp
 obj:=λi h st b hb=>by
  have e:b=it:=by simpa using hb
  subst e;exact⟨_,st,λv z=>by
   have z':Data.fields _=Data.cell v:=z;cases z'⟩
 keep:=λi h h' st k=>k it (by simp) _ st
 item:=by
  intro X hP hw hK hc i pins s σ H E I hf st hg;subst hP hw hK;obtain⟨f0,f1,f2,f3,f4,f5⟩:=hf it (by simp);have W:=Walks.range (prog:=X.prog) (w:=X.w) (I.ok.hd hc) it lo 1 n;refine W.item i s _ _ hg st λv h' tk hv F kk=>?_
  obtain⟨t,rfl⟩:=hv;have I1:Inv X pins σ H { s with heap:=h',toks:=tk }:=I.turned (λb o hb e=>kk b o (by simpa using hb) e) f0 f1 f3 f4 f5;refine⟨_,rfl,mc0 (s:={ s with heap:=h',toks:=tk }) (n := "range_iterator") F rfl rfl (by decide) ⟨.int (lo+i),H,I1,⟨t,?_⟩,⟨rfl,rfl⟩,F,λb hb=>(hf b hb).1⟩⟩;rw[Int.mul_one]
 done:=by
  intro X hP hw hK hc i pins s σ H E I hf st hg;subst hP hw hK;obtain⟨f0,f1,f2,f3,f4,f5⟩:=hf it (by simp);exact wpAny_pyNext_range_end (I.ok.hd hc) st (by have:n<=i:=hg;omega) λh' eb=>⟨rfl,I.turned (t':=s.toks) (λb o hb e=>eb b o hb e) f0 f1 f3 f4 f5⟩
 self:=λ_ _ _ _ _ st h=>wpAny_pyIter_rangeiter st h
def ch0(K:W.Frag)(tl:TE):TI:=fun σ H R=>tl σ H λx H1=>∃a,x=.ref a/\(∃xs,SqL K H1 a xs)/\R (Itl K a) H1
def Z30(K:W.Frag)(tl:TE):TI:=fun σ H R=>tl σ H λx H1=>∃a,x=.ref a/\(∃xs,SqT K H1 a xs)/\R (Itt K a) H1
theorem ff0{l:Expr}{tl:TE}(hl:PE X l tl):PI X tg l (ch0 X.K tl):=by
 intro pins s σ H R I h;refine thn (hl pins s σ H _ I h) λv s1 ⟨x,H1,I1,r1,q1⟩=>?_
 obtain⟨a,e,⟨xs,hq⟩,q⟩:=q1;subst e;cases r1;obtain⟨its,rv,p,hz⟩:=I1.list hq;refine m4 p.isList ?_;refine⟨s1.heap.objs.size,[s1.heap.objs.size],_,_,H1,rfl,I1.kept (t':=s1.toks) λb o e=>A7 _ e,km0 a _,⟨_,B5 _ rfl,rfl,rfl⟩,λb hb=>?_,q⟩;have e:b=s1.heap.objs.size:=by simpa using hb
 subst e;exact I1.fpOk (A4 _) (I1.hok.fresh (A4 _))
theorem du0{l:Expr}{tl:TE}(hl:PE X l tl):PI X tg l (Z30 X.K tl):=by
 intro pins s σ H R I h;refine thn (hl pins s σ H _ I h) λv s1 ⟨x,H1,I1,r1,q1⟩=>?_
 obtain⟨a,e,⟨xs,hq⟩,q⟩:=q1;subst e;cases r1;obtain⟨its,rv,p,hz⟩:=I1.tuple hq;refine wpAny_pyIter_tuple (show s1.heap.IsTuple a its.toArray from p) ?_;refine⟨s1.heap.objs.size,[s1.heap.objs.size],_,_,H1,rfl,I1.kept (t':=s1.toks) λb o e=>A7 _ e,nw0 a _,⟨_,B5 _ rfl,rfl,rfl⟩,λb hb=>?_,q⟩;have e:b=s1.heap.objs.size:=by simpa using hb
 subst e;exact I1.fpOk (A4 _) (I1.hok.fresh (A4 _))
theorem pt0{σ:St}{s:Shared}{R:It->Hp->Prop}{E:Value->Shared->Prop}{lo hi:Int}{t u v:Tok}{tk:Nat}(I:Inv X pins σ H s)(h1:-(2 ^ 62)<=lo)(h2:lo<2 ^ 62)(h3:-(2 ^ 62)<=hi)(h4:hi<2 ^ 62)
  (q:R (Itr lo (hi - lo).toNat) H):wpAny (model X.prog X.w) X.A (pyIter (.ref s.heap.objs.size)) (PIE X pins σ tg R) E { s with heap:=s.heap.push { cls:=.type "range",data:=.fields #[.int lo t,.int hi u,.int 1 v] },toks:=tk }:=by
 refine wpAny_pyIter_range (IsRange.new ..) (small_one h1 h2 h3 h4) ?_;have I1:Inv X pins σ H { s with heap:=s.heap.push { cls:=.type "range",data:=.fields #[.int lo t,.int hi u,.int 1 v] },toks:=tk }:=I.kept λb o e=>A7 _ e
 refine⟨(s.heap.push { cls:=.type "range",data:=.fields #[.int lo t,.int hi u,.int 1 v] }).objs.size,[(s.heap.push { cls:=.type "range",data:=.fields #[.int lo t,.int hi u,.int 1 v] }).objs.size],_,_,H,rfl,
  I1.kept (t':=tk) λb o e=>A7 _ e,m60 _ lo (hi - lo).toNat,?_,λb hb=>?_,q⟩
 ·have e1:lo+((0:Nat):Int)*1=lo:=by simp
  have e2:(((hi - lo).toNat:Nat):Int) - ((0:Nat):Int)=Builtin.Range.rangeSize lo hi 1:=by rw[rangeSize_one];split<;>omega
  show IsRangeIter _ _ (lo+((0:Nat):Int)*1) ((((hi - lo).toNat:Nat):Int) - ((0:Nat):Int)) 1;rw[e1,e2];exact B5 _ rfl
 ·have e:b=(s.heap.push { cls:=.type "range",data:=.fields #[.int lo t,.int hi u,.int 1 v] }).objs.size:=by simpa using hb
  subst e;exact I1.fpOk (A4 _) (I1.hok.fresh (A4 _))
def cq0(ta:TA):TI:=fun σ H R=>ta σ H λvs H1=>∃j:Int,vs=[.int j]/\-(2 ^ 62)<=j/\j<2 ^ 62/\R (Itr 0 j.toNat) H1
def bi0(ta:TA):TI:=fun σ H R=>ta σ H λvs H1=>∃i j:Int,vs=[.int i,.int j]/\(-(2 ^ 62)<=i/\i<2 ^ 62/\-(2 ^ 62)<=j/\j<2 ^ 62)/\R (Itr i (j - i).toNat) H1
theorem lm0{a:Expr}{ta:TA}(hg:Gl X "range")(hm:X.mg "range"=none)(ha:PA X [a] ta)(hs:starEach [a] X.env=[(false,eval a X.env)]:=by rfl):PI X tg (.Call (.Name "range" p) [a] [] pos) (cq0 ta):=by
 intro pins s σ H R I h;refine Call_ (xg0 I hg hm boot_range (S2 (thn (ha pos pins s σ H _ I h) λus s1 ⟨vs,H1,I1,r1,q1⟩=>?_) hs rfl));obtain⟨j,e,q1,q2,q⟩:=q1;subst e;cases r1 with
 | cons r rr =>
  cases rr;obtain⟨t,rfl⟩:=r;exact call_range_1 (pt0 I1 (by omega) (by omega) q1 q2 (by simpa using q))
theorem lj0{a:Expr}{ta:TA}{p pos:Pos}(hg:Gl X "range")(hm:X.mg "range"=none)(ha:PA X [a,b] ta)(hs:starEach [a,b] X.env=[(false,eval a X.env),(false,eval b X.env)]:=by rfl)(hs2:starEach [b] X.env=[(false,eval b X.env)]:=by rfl) :
  PI X tg (.Call (.Name "range" p) [a,b] [] pos) (bi0 ta):=by
 intro pins s σ H R I h;refine Call_ (xg0 I hg hm boot_range (S2 (thn (ha pos pins s σ H _ I h) λus s1 ⟨vs,H1,I1,r1,q1⟩=>?_) (by rw[hs,hs2]) (by rw[hs2];rfl)));obtain⟨i,j,e,⟨q1,q2,q3,q4⟩,q⟩:=q1;subst e;cases r1 with
 | cons r rr =>
  cases rr with
  | cons r' rr =>
   cases rr;obtain⟨t,rfl⟩:=r;obtain⟨t',rfl⟩:=r';exact call_range_2 (pt0 I1 q1 q2 q3 q4 q)
def am0(wi:TI)(g:TG)(tb:TS):TS:=λD σ H=>wi σ H λJ H1=>∃W:Nat->Nat->St->Hp->Prop,(∃m,W 0 m σ H1)/\∀i m σ H,W i m σ H ->
 (J.stop i H/\D.nx σ H)∨(J.go i H/\∃N:St->Hp->Prop,(∀σ' H',N σ' H'->∃m',m'<m/\W (i+1) m' σ' H')/\∀x H',J.yld i H x H'->g x σ H' fun σ2 H2=>tb { D with nx:=N,ct:=N,bk:=D.nx } σ2 H2)
def ww0(fp:List Addr)(h:Heap):List (Addr×Obj):=fp.filterMap λb=>(h.get? b).map λo=>(b,o)
theorem yd0{h:Heap}{b:Addr}{o:Obj}(hb:b∈fp)(e:h.get? b=some o):(b,o)∈ww0 fp h:=P3.mpr ⟨b,hb,by rw[e];rfl⟩
theorem lx0{h:Heap}{p:Addr×Obj}(hp:p∈ww0 fp h):p.1∈fp/\h.get? p.1=some p.2:=by
 obtain⟨b,hb,e⟩:=P3.mp hp;cases q:h.get? b with
 | none=>rw[q] at e;cases e
 | some o =>
  rw[q] at e;have e':(b,o)=p:=B1 e;subst e';exact⟨hb,q⟩
theorem Inv.pinned{σ:St}{s:Shared}(I:Inv X pins σ H s)(hf:∀b∈fp,yu0 X pins H b)(ho:∀b∈fp,∃o,s.heap.get? b=some o/\∀v,o.data≠.cell v):Inv X (pins++ww0 fp s.heap) σ H s :=
 I.pins_of λp hp=>(B8.mp hp).elim (λz=>I.pin p (C7 _ z)) λz=>by
  obtain⟨hb,e⟩:=lx0 z;obtain⟨f0,f1,f2,_⟩:=hf p.1 hb;obtain⟨o,e',d⟩:=ho p.1 hb;rw[e] at e';cases e';exact⟨e,f0,f1,f2,d⟩
theorem Inv.unpinned{pl:List (Addr×Obj)}{σ:St}{s:Shared}(I:Inv X (pins++pl) σ H s):Inv X pins σ H s:=I.pins_of λp hp=>I.pin p (C7 _ (G0 _ hp))
theorem ew0{wi:TI}{g:TG}{tb:TS}{pos:Pos}(hp:PassesOwn (model X.prog X.w) X.A X.env X.xe)(hc:X.calm=true)(hi:PI X tg iter wi)(hg:PG X tg g)(hb:PSs X body tb)
  (hs:∀x,foldedSetIterable iter X.env x=pure x:=by intro _;rfl):PS X (.For tg iter body [] pos) (am0 wi g tb):=by
 intro pins s σ H D I h;refine wpAny_For (thn (hi pins s σ H _ I h) λv s1 h1=>thn h1 λa1 s2 h2=>?_) hs;obtain⟨it,fp,tn,J,H2,e,I2,T,Y,f2,W,⟨m0,w0⟩,U⟩:=h2;subst e;have F:∀{H':Hp},(∀b∈fp,H' b=none)->∀b∈fp,yu0 X pins H' b:=λhn b hb=>⟨hn b hb,(f2 b hb).2⟩
 refine codeAny_forLoop_any (λn s'=>∃i σ' H',Inv X pins σ' H' s'/\tn i s'.heap/\(∀b∈fp,H' b=none)/\W i n σ' H') ?_ m0 ⟨0,σ,H2,I2,Y,λb hb=>(f2 b hb).1,w0⟩;rintro n s3 ⟨i,σ3,H3,I3,O,S,w3⟩;rcases U i n σ3 H3 w3 with⟨stop,qn⟩|⟨go,N,hN,step⟩
 ·refine L6 hp (thn (T.done X rfl rfl rfl hc i pins s3 σ3 H3 X.xe I3 (F S) O stop) λr s4 ⟨hr,I4⟩=>?_)
  subst hr;exact j3 ⟨σ3,H3,I4,qn⟩
 ·refine L6 hp (thn (T.item X rfl rfl rfl hc i pins s3 σ3 H3 X.xe I3 (F S) O go) λr s4 ⟨u,hr,h4⟩=>?_)
  subst hr;refine L6 hp (thn h4 λ_ s5 ⟨x,H5,I5,r5,y5,M,a0⟩=>?_);have Z:=I5.pinned (F a0) (T.obj _ _ M);refine L6 hp (thn (hg _ s5 σ3 H5 x u _ Z r5 (step x H5 y5)) λ_ s6 ⟨σ6,H6,I6,q6⟩=>?_);refine L6 hp (thn (hb _ s6 σ6 H6 _ I6 q6) λf s7 q7=>?_);have again:∀{σ7:St} {H7:Hp},Inv X (pins++ww0 fp s5.heap) σ7 H7 s7->N σ7 H7->∃m,m<n/\∃i σ' H',Inv X pins σ' H' s7/\tn i s7.heap/\(∀b∈fp,H' b=none)/\W i m σ' H':=λ{σ7 H7} I7 n7=>by
   obtain⟨m',hm,w7⟩:=hN σ7 H7 n7;refine⟨m',hm,i+1,σ7,H7,I7.unpinned,T.keep _ _ _ M λb hb o e=>(I7.pin (b,o) (C7 _ (C7 _ (yd0 hb e)))).1,λb hb=>?_,w7⟩;obtain⟨o,e,d⟩:=T.obj _ _ M b hb;exact(I7.pin (b,o) (C7 _ (C7 _ (yd0 hb e)))).2.1
  cases f with
  | next=>obtain⟨σ7,H7,I7,n7⟩:=q7;exact again I7 n7
  | cont=>obtain⟨σ7,H7,I7,n7⟩:=q7;exact again I7 n7
  | brk=>obtain⟨σ7,H7,I7,q7⟩:=q7;exact⟨σ7,H7,I7.unpinned,q7⟩
  | ret v=>obtain⟨x7,σ7,H7,I7,r7,q7⟩:=q7;exact⟨x7,σ7,H7,I7.unpinned,r7,q7⟩
abbrev R2:=V->V->Hp->VK->Prop
def OpR(X:Cx)(f:Value->Value->Sem Value)(r:R2):Prop :=
 ∀(pins:List (Addr×Obj)) (s:Shared) (σ:St) (H:Hp) (x y:V) (v u:Value) (Q:VK),Inv X pins σ H s->RelV x v->RelV y u->r x y H Q ->
  wpAny (model X.prog X.w) X.A (f v u) (EP X pins σ Q) X.xe s
def UnR(X:Cx)(f:Value->Sem Value)(r:V->Hp->VK->Prop):Prop :=
 ∀(pins:List (Addr×Obj)) (s:Shared) (σ:St) (H:Hp) (x:V) (v:Value) (Q:VK),Inv X pins σ H s->RelV x v->r x H Q ->
  wpAny (model X.prog X.w) X.A (f v) (EP X pins σ Q) X.xe s
def CallR(X:Cx)(f:Value)(r:List V->Hp->VK->Prop):Prop :=
 ∀(pins:List (Addr×Obj)) (s:Shared) (σ:St) (H:Hp) (xs:List V) (us:List Value) (Q:VK),Inv X pins σ H s->Vals xs us->r xs H Q ->
  wpAny (model X.prog X.w) X.A (call f us) (EP X pins σ Q) X.xe s
def tOp(r:R2)(ta tb:TE):TE:=fun σ H Q=>ta σ H λx H1=>tb σ H1 λy H2=>r x y H2 Q
def tUn(r:V->Hp->VK->Prop)(ta:TE):TE:=fun σ H Q=>ta σ H λx H1=>r x H1 Q
def rI(C:Int->Int->Prop)(g:Int->Int->V):R2:=λx y H Q=>∃i j,x=.int i/\y=.int j/\C i j/\Q (g i j) H
def rI0(g:Int->Int->V):R2:=λx y H Q=>∃i j,x=.int i/\y=.int j/\Q (g i j) H
def rU(g:Int->V):V->Hp->VK->Prop:=λx H Q=>∃i,x=.int i/\Q (g i) H
section
variable{a:Expr}{tc:TE}
theorem i90(ha:PE X a ta)(hb:PE X b tb){s:Shared}{σ:St}{R:V->V->Hp->Prop}(I:Inv X pins σ H s)
  (h:ta σ H λx H1=>tb σ H1 λy H2=>R x y H2) {Q:Value->Shared->Prop} {f:Value->Value->Sem Value}
  (hf:∀v u s2 x y H2,Inv X pins σ H2 s2->RelV x v->RelV y u->R x y H2->wpAny (model X.prog X.w) X.A (f v u) Q X.xe s2) :
  wpAny (model X.prog X.w) X.A (eval a X.env) (λv s₁=>wpAny (model X.prog X.w) X.A (eval b X.env) (λu s₂=>wpAny (model X.prog X.w) X.A (f v u) Q X.xe s₂) X.xe s₁) X.xe s:=by
 refine thn (ha pins s σ H _ I h) λv s1 ⟨x,H1,I1,r1,q1⟩=>?_
 refine thn (hb pins s1 σ H1 _ I1 q1) λu s2 ⟨y,H2,I2,r2,q2⟩=>?_
 exact hf v u s2 x y H2 I2 r1 r2 q2
theorem bt0{op:Operator}{r:R2}(ho:OpR X (binaryOp op) r)(ha:PE X a ta)(hb:PE X b tb):PE X (.BinOp a op b pos) (tOp r ta tb):=by
 intro pins s σ H Q I h;exact wpAny_BinOp (i90 ha hb I h λv u s2 x y H2 I2 rx ry q=>ho pins s2 σ H2 x y v u Q I2 rx ry q)
theorem cx0{op:UnaryOp}{r:V->Hp->VK->Prop}(ho:UnR X (unaryOp op) r)(ha:PE X a ta):PE X (.UnaryOp op a pos) (tUn r ta):=by
 intro pins s σ H Q I h;exact UnaryOp_ (thn (ha pins s σ H _ I h) λv s1 ⟨x,H1,I1,r1,q1⟩=>ho pins s1 σ H1 x v Q I1 r1 q1)
theorem opI{f:Value->Value->Sem Value}{C:Int->Int->Prop}{g:Int->Int->Int}
  (rule:∀(i j:Int) (t u:Tok) (s:Shared) (Q:Value->Shared->Prop) (E:Value->Shared->Prop),C i j->Q (.int (g i j) s.toks) { s with toks:=s.toks+1 }->wpAny (model X.prog X.w) X.A (f (.int i t) (.int j u)) Q E s) :
  OpR X f (rI C λi j=>.int (g i j)):=by
 intro pins s σ H x y v u Q I rx ry h;obtain⟨i,j,rfl,rfl,hc,q⟩:=h;obtain⟨t,rfl⟩:=rx;obtain⟨t',rfl⟩:=ry;exact rule i j t t' s _ _ hc ⟨.int (g i j),H,I.tok _,⟨_,rfl⟩,q⟩
theorem fs0{f:Value->Value->Sem Value}{g:Int->Int->Int}
  (rule:∀(i j:Int) (t u:Tok) (s:Shared) (Q:Value->Shared->Prop) (E:Value->Shared->Prop),Q (.int (g i j) s.toks) { s with toks:=s.toks+1 }->wpAny (model X.prog X.w) X.A (f (.int i t) (.int j u)) Q E s) :
  OpR X f (rI0 λi j=>.int (g i j)):=by
 intro pins s σ H x y v u Q I rx ry h;obtain⟨i,j,rfl,rfl,q⟩:=h;obtain⟨t,rfl⟩:=rx;obtain⟨t',rfl⟩:=ry;exact rule i j t t' s _ _ ⟨.int (g i j),H,I.tok _,⟨_,rfl⟩,q⟩
theorem i60{f:Value->Value->Sem Value}{g:Int->Int->Bool}
  (rule:∀(i j:Int) (t u:Tok) (s:Shared) (Q:Value->Shared->Prop) (E:Value->Shared->Prop),Q (.bool (g i j)) s->wpAny (model X.prog X.w) X.A (f (.int i t) (.int j u)) Q E s) :
  OpR X f (rI0 λi j=>.bl (g i j)):=by
 intro pins s σ H x y v u Q I rx ry h;obtain⟨i,j,rfl,rfl,q⟩:=h;obtain⟨t,rfl⟩:=rx;obtain⟨t',rfl⟩:=ry;exact rule i j t t' s _ _ ⟨.bl (g i j),H,I,rfl,q⟩
def jq0(i j:Int):Prop:=0<j/\j<1073741824
def jz0(i j:Int):Prop:=0<=j/\j<=1000000/\i.natAbs<2 ^ 64
def CMul(i j:Int):Prop:=(-(2 ^ 64)<i/\i<2 ^ 64)∨(-(2 ^ 64)<j/\j<2 ^ 64)
theorem CMul.ok{i j:Int}(h:CMul i j):IntMulOk i j:=by
 rcases h with⟨h1,h2⟩|⟨h1,h2⟩
 ·exact .of_left (intBits_le_64 h1 h2)
 ·exact .of_right (intBits_le_64 h1 h2)
theorem ds0:OpR X (binaryOp .Add) (rI0 λi j=>.int (i+j)):=fs0 λ_ _ _ _ _ _ _ q=>add_int q
theorem et0:OpR X (binaryOp .Sub) (rI0 λi j=>.int (i - j)):=fs0 λ_ _ _ _ _ _ _ q=>sub_int q
theorem ec0:OpR X (binaryOp .Mult) (rI CMul λi j=>.int (i*j)):=opI λ_ _ _ _ _ _ _ hc q=>mul_int q hc.ok
theorem gb0:OpR X (binaryOp .FloorDiv) (rI jq0 λi j=>.int (i/j)):=opI λi j _ _ _ _ _ hc q=>by
 have h1:(0:Int)<j:=hc.1;have h2:j<1073741824:=hc.2;exact floordiv_int (by omega) (by rw[Int.fdiv_eq_ediv_of_nonneg i (by omega)];exact q) (.inl (PyProof.noPylong_small (by omega)))
theorem ej0:OpR X (binaryOp .Mod) (rI (λ_ j=>0<j) λi j=>.int (i%j)):=opI λi j _ _ _ _ _ hc q=>by
 have h1:(0:Int)<j:=hc;exact mod_int' (by omega) (by rw[Int.fmod_eq_emod_of_nonneg i (by omega)];exact q)
theorem da0:OpR X (binaryOp .Pow) (rI jz0 λi j=>.int (i ^ j.toNat)):=opI λ_ _ _ _ _ _ _ hc q=>pow_int_small hc.1 hc.2.1 hc.2.2 q
theorem unI{f:Value->Sem Value}{g:Int->Int}
  (rule:∀(i:Int) (t:Tok) (s:Shared) (Q:Value->Shared->Prop) (E:Value->Shared->Prop),Q (.int (g i) s.toks) { s with toks:=s.toks+1 }->wpAny (model X.prog X.w) X.A (f (.int i t)) Q E s) :
  UnR X f (rU λi=>.int (g i)):=by
 intro pins s σ H x v Q I rx h;obtain⟨i,rfl,q⟩:=h;obtain⟨t,rfl⟩:=rx;exact rule i t s _ _ ⟨.int (g i),H,I.tok _,⟨_,rfl⟩,q⟩
theorem c40:UnR X (unaryOp .USub) (rU λi=>.int (-i)):=unI λ_ _ _ _ _ q=>neg_int q
end
def de0:V->V->Bool
 | .non,.non=>true|.non,.int _=>true|.int _,.non=>true|.non,.bl _=>true|.bl _,.non=>true|.non,.str _=>true|.str _,.non=>true
 | .int _,.int _=>true|.bl _,.bl _=>true|.str _,.str _=>true|.byt _,.byt _=>true
 | .int _,.str _=>true|.str _,.int _=>true|.bl _,.str _=>true|.str _,.bl _=>true
 | _,_=>false
def rEq:R2:=λx y H Q=>de0 x y=true/\Q (.bl (decide (x=y))) H
theorem g00{i j:Int}:decide (V.int i=V.int j)=(i==j):=by
 rw[Bool.eq_iff_iff];simp
theorem c80{i j:Bool}:decide (V.bl i=V.bl j)=(i==j):=by
 rw[Bool.eq_iff_iff];simp
theorem gr0{i j:Str}:decide (V.str i=V.str j)=(i==j):=by
 rw[Bool.eq_iff_iff];simp
theorem ge0{i j:Array UInt8}:decide (V.byt i=V.byt j)=(i.toList==j.toList):=by
 rw[Bool.eq_iff_iff];cases i;cases j;simp
section
variable{a:Expr}{tc:TE}
theorem R9{σ:St}{s:Shared}{Q:VK}{k k':Bool}(I:Inv X pins σ H s)(q:Q (.bl k) H)(e:k=k'):EP X pins σ Q (.bool k') s:=by
 subst e;exact⟨.bl k,H,I,rfl,q⟩
theorem R0:OpR X (compareOp .Eq) rEq:=by
 intro pins s σ H x y v u Q I rx ry h;obtain⟨hs,q⟩:=h;cases x with
 | non =>
  cases rx;cases y with
  | non=>cases ry;exact PySem.EqNone.eq_none_none (R9 I q (by simp))
  | bl j=>cases ry;exact PySem.EqNone.eq_none_bool (R9 I q (by simp))
  | int j=>obtain⟨t',rfl⟩:=ry;exact PySem.EqNone.eq_none_int (R9 I q (by simp))
  | str j=>obtain⟨t',rfl⟩:=ry;exact PySem.EqNone.eq_none_str (R9 I q (by simp))
  | _=>exact absurd (show false=true from hs) B9
 | bl i =>
  cases rx;cases y with
  | non=>cases ry;exact PySem.EqNone.eq_bool_none (R9 I q (by simp))
  | bl j=>cases ry;exact eq_bool (R9 I q c80)
  | str j=>obtain⟨t',rfl⟩:=ry;exact PySem.EqMixed.eq_bool_str (R9 I q (by simp))
  | _=>exact absurd (show false=true from hs) B9
 | int i =>
  obtain⟨t,rfl⟩:=rx;cases y with
  | non=>cases ry;exact PySem.EqNone.eq_int_none (R9 I q (by simp))
  | int j=>obtain⟨t',rfl⟩:=ry;exact eq_int (R9 I q g00)
  | str j=>obtain⟨t',rfl⟩:=ry;exact PySem.EqMixed.eq_int_str (R9 I q (by simp))
  | _=>exact absurd (show false=true from hs) B9
 | str i =>
  obtain⟨t,rfl⟩:=rx;cases y with
  | non=>cases ry;exact PySem.EqNone.eq_str_none (R9 I q (by simp))
  | bl j=>cases ry;exact PySem.EqMixed.eq_str_bool (R9 I q (by simp))
  | int j=>obtain⟨t',rfl⟩:=ry;exact PySem.EqMixed.eq_str_int (R9 I q (by simp))
  | str j=>obtain⟨t',rfl⟩:=ry;exact eq_str (R9 I q gr0)
  | _=>exact absurd (show false=true from hs) B9
 | byt i =>
  obtain⟨t,rfl⟩:=rx;cases y with
  | byt j=>obtain⟨t',rfl⟩:=ry;exact W.eq_bytes (R9 I q ge0)
  | _=>exact absurd (show false=true from hs) B9
 | _=>cases y<;>exact absurd (show false=true from hs) B9
theorem yw0:OpR X (compareOp .Lt) (rI0 λi j=>.bl (decide (i<j))):=i60 λ_ _ _ _ _ _ _ q=>lt_int q
theorem ie0:OpR X (compareOp .LtE) (rI0 λi j=>.bl (decide (i<=j))):=i60 λ_ _ _ _ _ _ _ q=>le_int q
theorem h50:OpR X (compareOp .Gt) (rI0 λi j=>.bl (decide (j<i))):=i60 λ_ _ _ _ _ _ _ q=>gt_int q
theorem rw0:OpR X (compareOp .Is) (λx y H Q=>y=.non/\Q (.bl (decide (x=.non))) H):=by
 intro pins s σ H x y v u Q I rx ry h;obtain⟨rfl,q⟩:=h;cases ry;refine is_none_gen (R9 I q ?_);cases x<;>first
  | (cases rx;rfl)
  | (obtain⟨t,rfl⟩:=rx;rfl)
theorem OpR.or{f:Value->Value->Sem Value}{r r':R2}(h:OpR X f r)(h':OpR X f r'):OpR X f (λx y H Q=>r x y H Q∨r' x y H Q):=by
 intro pins s σ H x y v u Q I rx ry q;rcases q with q|q
 ·exact h pins s σ H x y v u Q I rx ry q
 ·exact h' pins s σ H x y v u Q I rx ry q
theorem kk0(b:Expr){op:CmpOp}(h:op≠.In:=by decide)(h2:op≠.NotIn:=by decide):behindInMarks op b=false:=by
 have e1:(op==CmpOp.In)=false:=by cases op<;>first|rfl|exact absurd rfl h
 have e2:(op==CmpOp.NotIn)=false:=by cases op<;>first|rfl|exact absurd rfl h2
 cases b<;>simp[behindInMarks,e1,e2]
theorem fk0{op:CmpOp}{r:R2}(ho:OpR X (compareOp op) r)(ha:PE X a ta)(hb:PE X b tb)(hm:behindInMarks op b=false):PE X (.Compare a [op] [b] pos) (tOp r ta tb):=by
 intro pins s σ H Q I h;exact wpAny_Compare1 (i90 ha hb I h λv u s2 x y H2 I2 rx ry q=>ho pins s2 σ H2 x y v u Q I2 rx ry q) hm
def bs0(t:TE):TT:=fun σ H Q=>t σ H λx H'=>∃k,x=.bl k/\Q k H'
theorem fi0{op:CmpOp}{r:R2}(ho:OpR X (compareOp op) r)(ha:PE X a ta)(hb:PE X b tb)(hm:behindInMarks op b=false):PT X (.Compare a [op] [b] pos) (bs0 (tOp r ta tb)):=by
 intro pins s σ H Q I h;refine wpAny_isTrue_Compare1 (thn (ha pins s σ H _ I h) λv s1 ⟨x,H1,I1,r1,q1⟩=>thn (hb pins s1 σ H1 _ I1 q1) λu s2 ⟨y,H2,I2,r2,q2⟩ =>
  thn (ho pins s2 σ H2 x y v u _ I2 r1 r2 q2) λc s3 ⟨z,H3,I3,r3,k,e,q3⟩=>?_) hm
 subst e;cases r3;exact L5 ⟨H3,I3,q3⟩
def lu0(r r':R2)(ta tb tc:TE):TE:=fun σ H Q=>ta σ H λx H1=>tb σ H1 λy H2=>r x y H2 λz H3=>∃k,z=.bl k /\
 (if k=true then tc σ H3 λw' H4=>r' y w' H4 Q else Q (.bl false) H3)
theorem ky0{op op':CmpOp}{r r':R2}(ho:OpR X (compareOp op) r)(ho':OpR X (compareOp op') r')(ha:PE X a ta)(hb:PE X b tb)(hc:PE X c tc)
  (hm:lastMarks [op,op'] [b,c]=false:=by with_unfolding_all rfl):PE X (.Compare a [op,op'] [b,c] pos) (lu0 r r' ta tb tc):=by
 intro pins s σ H Q I h;refine Compare_chain (thn (ha pins s σ H _ I h) λv s1 ⟨x,H1,I1,r1,q1⟩=>chain_link (thn (hb pins s1 σ H1 _ I1 q1) λu s2 ⟨y,H2,I2,r2,q2⟩ =>
  thn (ho pins s2 σ H2 x y v u _ I2 r1 r2 q2) λd s3 ⟨z,H3,I3,r3,k,e,q3⟩=>?_)) hm
 subst e;cases r3;refine L5 ?_;cases k with
 | false=>exact ite_ff ⟨.bl false,H3,I3,rfl,q3⟩
 | true=>exact ite_tt (chain_last (thn (hc pins s3 σ H3 _ I3 q3) λw' s4 ⟨z',H4,I4,r4,q4⟩=>ho' pins s4 σ H4 y z' u w' Q I4 r2 r4 q4))
theorem xl0:(sizeLine:Nat)<2 ^ 63:=by rw[sizeLine_eq];decide
theorem m30:OpR X (binaryOp .Add) (λx y H Q=>∃i j,x=.str i/\y=.str j/\i.length+j.length<=sizeLine/\Q (.str (i++j)) H):=by
 intro pins s σ H x y v u Q I rx ry h;obtain⟨i,j,rfl,rfl,hz,q⟩:=h;obtain⟨t,rfl⟩:=rx;obtain⟨t',rfl⟩:=ry;exact add_str (λt' tk=>⟨.str (i++j),H,I.tok _,⟨_,rfl⟩,q⟩) hz
theorem vals1{x:V}(r:Vals [x] us):∃u,us=[u]/\RelV x u:=by
 cases r with
 | cons r1 r2=>cases r2;exact⟨_,rfl,r1⟩
theorem mw0:CallR X (.type "int") (λxs H Q=>(∃i,xs=[.int i]/\Q (.int i) H)∨∃k,xs=[.bl k]/\Q (.int (if k then 1 else 0)) H):=by
 intro pins s σ H xs us Q I r h;rcases h with⟨i,rfl,q⟩|⟨k,rfl,q⟩
 ·obtain⟨u,rfl,t,rfl⟩:=vals1 r
  exact call_int_int ⟨.int i,H,I,⟨_,rfl⟩,q⟩
 ·obtain⟨u,rfl,r1⟩:=vals1 r
  cases r1;exact call_int_bool ⟨.int (if k then 1 else 0),H,I.tok _,⟨_,rfl⟩,q⟩
end
structure Room(k:Nat)(A:Around):Prop where
 hd:A.handled=none
 dp:A.depth+3*k+5<recursionLimit
 un:A.units+16*k+200<cLine
theorem Room.mono{k:Nat}(r:Room k A)(h:j<=k):Room j A:=⟨r.hd,by have:=r.dp;omega,by have:=r.un;omega⟩
theorem Room.deeper{k:Nat}(r:Room (k+1) A)(env:Env):Room k (A.deeper env) :=
 ⟨r.hd,by have:=r.dp;show A.depth+1+3*k+5<_;omega,by have:=r.un;show A.units+3+16*k+200<_;omega⟩
theorem Room.depth{k:Nat}(r:Room k A):A.depth<recursionLimit:=by have:=r.dp;omega
theorem Room.units{k:Nat}(r:Room k A):A.units+64<cLine:=by have:=r.un;omega
def ap0:TA:=λ_ H Q=>Q [] H
def bm0(ta:TE)(tr:TA):TA:=fun σ H Q=>ta σ H λx H1=>tr σ H1 λxs H2=>Q (x::xs) H2
section
variable{t:TA}
theorem yj0:PA X [] ap0:=λ_ _ _ _ H Q I h=>Calls.spliced_nil ⟨[],H,I,.nil,h⟩
theorem J5(ha:PE X e te)(hr:PA X es t)(hs:starEach (e::es) X.env=(false,eval e X.env)::starEach es X.env:=by rfl):PA X (e::es) (bm0 te t):=by
 intro pos pins s σ H Q I h;rw[hs];show wpAny _ _ (spliced ((false,eval e X.env)::backTo pos (starEach es X.env))) _ _ s;refine Calls.spliced_cons (thn (ha pins s σ H _ I h) λu s1 ⟨x,H1,I1,r1,q1⟩=>?_);exact thn (hr pos pins s1 σ H1 _ I1 q1) λus s2 ⟨xs,H2,I2,r2,q2⟩=>⟨x::xs,H2,I2,.cons r1 r2,q2⟩
def Z00(t:TA):TE:=fun σ H Q=>t σ H λxs H1=>xs.length<=sizeLine/\∀p,H1 p=none->Q (.ref p) (upd H1 p (.tup xs))
def ak0(t:TA):TE:=fun σ H Q=>t σ H λxs H1=>xs.length<=sizeLine/\∀p,H1 p=none->Q (.ref p) (upd H1 p (.lst xs))
theorem c90{x1}(h:PA X es t):PE X (.Tuple es x1 pos) (Z00 t):=by
 intro pins s σ H Q I hq;refine wpAny_Tuple_spliced (thn (h pos pins s σ H _ I hq) λus s1 ⟨xs,H1,I1,r,z,q⟩=>⟨by rw[← r.length];exact z,?_⟩);have hf:H1 s1.heap.objs.size=none:=I1.hok.fresh (A4 _);refine⟨.ref s1.heap.objs.size,upd H1 s1.heap.objs.size (.tup xs),I1.laid (t':=s1.toks) (λb u e=>A7 _ e) (A4 _) ?_,rfl,q _ hf⟩;exact⟨z,us,r,⟨_,B5 _ rfl,rfl,_,rfl,rfl⟩⟩
theorem le0(h:PA X es t):PE X (.List es pos) (ak0 t):=by
 intro pins s σ H Q I hq;refine wpAny_List_spliced (thn (h pos pins s σ H _ I hq) λus s1 ⟨xs,H1,I1,r,z,q⟩=>⟨by rw[← r.length];exact z,?_⟩);have hf:H1 s1.heap.objs.size=none:=I1.hok.fresh (A4 _);refine⟨.ref s1.heap.objs.size,upd H1 s1.heap.objs.size (.lst xs),I1.laid (t':=s1.toks) (λb u e=>A7 _ e) (A4 _) ?_,rfl,q _ hf⟩;exact⟨z,us,0,r,B5 _ rfl⟩
end
abbrev Sp:=List V->Hp->VK->XK->Prop
abbrev CXT:=List Env->Hp->Shared->XK->Value->Shared->Prop
variable{sp:L2.Sp}
structure Env0(P:Program)(w:World)(K:W.Frag)(mg:Str->Option Value)(base:Heap)(A:Around)(outer:List Env)(s:Shared)(H:Hp):Prop where
 frames:A.frames=some outer
 mod:Mod K mg base
 bs:∀b o,base.get? b=some o->s.heap.get? b=some o/\H b=none
 bsz:base.objs.size<=s.heap.objs.size
 funs:s.heap.FunFrames base outer
 frf:∀b∈frs outer,H b=none
 hok:HOk P w H s.heap
 bare:AllBare s.gens
variable{CX:L2.CXT}
def CE(outer:List Env)(P:Program)(w:World)(H:Hp)(s:Shared)(Q:VK)(u:Value)(s':Shared):Prop :=
 ∃v H',s'.os=s.os/\AllBare s'.gens/\Un (frs outer) [] H H' s.heap s'.heap/\HOk P w H' s'.heap/\RelV v u/\Q v H'
def CR(CX:CXT)(outer:List Env)(P:Program)(w:World)(H:Hp)(s:Shared)(Q:VK)(E:XK)(r:Result)(s':Shared):Prop :=
 match r with
 | .ok (.ret u)=>CE outer P w H s Q u s'
 | .ok _=>False
 | .error e=>CX outer H s E e s'
structure FnOk(P:Program)(w:World)(K:W.Frag)(mg:Str->Option Value)(base:Heap)(CX:CXT)(k:Nat)(f:Addr)(fd:FuncData)(ps:List Str)(sp:Sp):Prop where
 len:∀vs H Q E,sp vs H Q E->vs.length=ps.length
 run:∀(A:Around) (outer:List Env) (s:Shared) (H:Hp) (args:Args) (us:List Value) (vs:List V) (Q:VK) (E:XK),Room k A->Env0 P w K mg base A outer s H->BindsTo s fd args (ps.zip us)->Vals vs us->sp vs H Q E ->
  codeAny (model P w) A (.call (.ref f) args) (CR CX outer P w H s Q E) s
section
variable{σ:St}{s:Shared}
theorem Inv.env0(I:Inv X pins σ H s):Env0 X.prog X.w X.K X.mg X.base X.A X.stack s H :=
 ⟨I.ok.frames,I.ok.mod,I.bs,B7 I.ok.bsz I.sz,I.stack,I.stkFree,I.hok,I.bare⟩
theorem Inv.after{Q:VK}(I:Inv X pins σ H s)(h:CE X.stack X.prog X.w H s Q u s'):EP X pins σ Q u s':=by
 obtain⟨v,H',os,bare,un,hok,r,q⟩:=h;obtain⟨hh,g,d,t,F⟩:=s';obtain rfl:F=s.os:=os;exact⟨v,H',I.call (h':=hh) (g':=g) (d':=d) (t':=t) (ch:=[]) un hok bare (λb z=>absurd z (by simp)),r,q⟩
end
def cg0(sp:Sp)(dvs:List V)(E:XK)(t:TA):TE:=fun σ H Q=>t σ H λvs H1=>sp (vs++dvs) H1 Q E
def Binds(K:W.Frag)(fd:FuncData)(ps:List Str)(ds:List Value):Prop :=
 ∀(s:Shared) (us:List Value),K.In s.heap->(us++ds).length=ps.length->BindsTo s fd ⟨us,[]⟩ (ps.zip (us++ds))
theorem Binds.all{ps:List Str}(h:∀us:List Value,us.length=ps.length->bindArgs fd ⟨us,[]⟩=pure (ps.zip us)):Binds K fd ps []:=λs us _ hl=>by
 rw[List.append_nil] at hl ⊢;exact .of_eq (h us hl)
def qn0(CX:CXT)(X:Cx)(E:XK):Prop:=∀(pins:List (Addr×Obj)) (σ:St) (H:Hp) (s:Shared) (e:Value) (s':Shared),Inv X pins σ H s->CX X.stack H s E e s'->X.xe e s'
section
variable{k:Nat}{f C:Addr}{ps:List Str}{dvs:List V}{ds:List Value}{E:XK}{m:Str}{t:TA}
theorem do0{pins:List (Addr×Obj)}{σ:St}{H:Hp}{s:Shared}{Q:VK}{us:List Value}{vs:List V}(F:FnOk X.prog X.w X.K X.mg X.base CX k f fd ps sp)(hr:Room k X.A)(hb:Binds X.K fd ps ds)(hd:Vals dvs ds)(hx:qn0 CX X E)
  (I:Inv X pins σ H s) (r:Vals vs us) (h:sp (vs++dvs) H Q E):wpAny (model X.prog X.w) X.A (call (.ref f) us) (EP X pins σ Q) X.xe s:=by
 have r2:Vals (vs++dvs) (us++ds):=r.append hd;have hl:(us++ds).length=ps.length:=by rw[← r2.length];exact F.len _ _ _ _ h
 refine wpAny_call (n5 (F.run X.A X.stack s H ⟨us,[]⟩ (us++ds) (vs++dvs) Q E hr I.env0 (hb s us I.kIn hl) r2 h) λr s' hq=>?_);cases r with
 | error e=>exact hx pins σ H s e s' I hq
 | ok fl =>
  cases fl with
  | ret u=>exact I.after hq
  | next=>exact False.elim hq
  | brk=>exact False.elim hq
  | cont=>exact False.elim hq
theorem tc0(F:FnOk X.prog X.w X.K X.mg X.base CX k f fd ps sp)(hr:Room k X.A)(hg:Gl X x)(hm:X.mg x=some (.ref f))(hk:W.keepIn X.K (.ref f)=true)(hb:Binds X.K fd ps ds)(hd:Vals dvs ds)(hx:qn0 CX X E)
  (ha:PA X (e::es) t) (hdb:(x==("__debug__" : Str))=false:=by decide) (he:starEach (e::es) X.env=(false,eval e X.env)::starEach es X.env:=by rfl) (hpl:(backTo pos (starEach es X.env)).any (·.1)=false:=by rfl) :
  PE X (.Call (.Name x p) (e::es) [] pos) (cg0 sp dvs E t):=by
 intro pins s σ H Q I h;refine n9 (g70 I hg hm ?_ hdb);refine W.callWith_K (h₀:=X.base) I.ok.mod.kin hk (thn (ha pos pins s σ H _ I h) λus s1 ⟨vs,H1,I1,r,q⟩=>⟨I1.kIn,?_⟩) he hpl;exact do0 F hr hb hd hx I1 r q
end
structure FnScope(N P:List Str)(sc:Scope):Prop where
 kind:sc.kind=.function
 co:sc.isCoroutine=false
 gen:sc.isGenerator=false
 nd:N.Nodup
 pre:N.take P.length=P
 par:∀x∈P,sc.names.lookup x=some .local∨sc.names.lookup x=some .cell
 nofree:∀y∈sc.names,y.2≠.free
theorem s60{kindOf:Str->Option NameKind}:∀{binds:List (Str×Value)} {m:Str->Option Value},(∀v,(x,v)∉binds)->bindL kindOf binds m x=m x
 | [],_,_=>rfl
 | (n,v)::r,m,h=>by
  unfold bindL;rw[s60 λw hw=>h w (B0 _ hw)];split
  ·have:x≠n:=by rintro rfl;exact h v A5
   simp[this]
  ·rfl
theorem tz0{kindOf:Str->Option NameKind}:∀{binds:List (Str×Value)} {m:Str->Option Value},(∀v,(x,v)∉binds)->bindC kindOf binds m x=m x
 | [],_,_=>rfl
 | (n,v)::r,m,h=>by
  unfold bindC;rw[tz0 λw hw=>h w (B0 _ hw)];split
  ·rfl
  ·have:x≠n:=by rintro rfl;exact h v A5
   simp[this]
theorem s90{kindOf:Str->Option NameKind}:∀{P:List Str} {vs:List Value} {i:Nat} {m:Str->Option Value},P.Nodup->P[i]?=some x->vs[i]?=some v->kindOf x=some .local ->
  bindL kindOf (P.zip vs) m x=some v
 | [],_,_,_,_,h,_,_=>by simp at h
 | _::_,[],_,_,_,_,h,_=>by simp at h
 | p::P,w::vs,0,m,nd,h1,h2,hk=>by
  simp at h1 h2;subst h1;subst h2;show bindL kindOf ((p,w)::P.zip vs) m p=_;unfold bindL;rw[s60 λv hv=>(P4.mp nd).1 (I0 hv).1,if_pos hk];simp
 | p::P,w::vs,i+1,m,nd,h1,h2,hk=>by
  show bindL kindOf ((p,w)::P.zip vs) m x=_;unfold bindL;exact s90 (i:=i) (P4.mp nd).2 (by simpa using h1) (by simpa using h2) hk
theorem s40{kindOf:Str->Option NameKind}:∀{P:List Str} {vs:List Value} {i:Nat} {m:Str->Option Value},P.Nodup->P[i]?=some x->vs[i]?=some v->kindOf x≠some .local ->
  bindC kindOf (P.zip vs) m x=some v
 | [],_,_,_,_,h,_,_=>by simp at h
 | _::_,[],_,_,_,_,h,_=>by simp at h
 | p::P,w::vs,0,m,nd,h1,h2,hk=>by
  simp at h1 h2;subst h1;subst h2;show bindC kindOf ((p,w)::P.zip vs) m p=_;unfold bindC;rw[tz0 λv hv=>(P4.mp nd).1 (I0 hv).1,if_neg hk];simp
 | p::P,w::vs,i+1,m,nd,h1,h2,hk=>by
  show bindC kindOf ((p,w)::P.zip vs) m x=_;unfold bindC;exact s40 (i:=i) (P4.mp nd).2 (by simpa using h1) (by simpa using h2) hk
def start(N:List Str)(vs:List V):St:=vs.map some++List.replicate (N.length - vs.length) none
def wg0(CX:CXT)(P:Program)(w:World)(K:W.Frag)(mg:Str->Option Value)(base:Heap)(N:List Str)(qual:Str)(scope:Scope)(f:Addr)(cd:Value)(A:Around)(outer:List Env)(s:Shared)(H:Hp)(E:XK):Cx where
 prog:=P
 w:=w
 K:=K
 mg:=mg
 base:=base
 A:=A.deeper (envOfC qual scope s.heap.objs.size f cd)
 N:=N
 s₀:=s
 H₀:=H
 env:=envOfC qual scope s.heap.objs.size f cd
 outer:=outer
 stack:=envOfC qual scope s.heap.objs.size f cd::outer
 ex:=[]
 calm:=true
 fn:=λ_=>true
 pn:=[]
 xe:=λe s'=>wpAny (model P w) (A.deeper (envOfC qual scope s.heap.objs.size f cd)) (leaving (envOfC qual scope s.heap.objs.size f cd) e) (λ_ s''=>CX outer H s E e s'') (λe' s''=>CX outer H s E e' s'') s'
theorem pn0(h:sc.names.lookup x=some .cell):∃c,(cellsFrom n sc.names []).lookup x=some c:=by
 have q:=W.cellsFrom_some sc.names n [] (.inl h);exact Option.isSome_iff_exists.mp q
theorem mj0{CX:CXT}{P:Program}{w:World}{K:W.Frag}{mg:Str->Option Value}{base:Heap}{N ps:List Str}{qual:Str}{scope:Scope}{f:Addr}{cd:Value}{A:Around}{outer:List Env}{s s1:Shared}{H:Hp}{E:XK}{us:List Value}{vs:List V}
  (S:FnScope N ps scope) (hd:A.handled=none) (e0:Env0 P w K mg base A outer s H) (hl:vs.length=ps.length) (r:Vals vs us)
  (x:InCallC s s.heap.objs.size (bindL (envOfC qual scope s.heap.objs.size f cd).kindOf (ps.zip us) λ_=>none) (cellsFrom (s.heap.objs.size+1) scope.names []) (bindC (envOfC qual scope s.heap.objs.size f cd).kindOf (ps.zip us) λ_=>none) s1) :
  Inv (wg0 CX P w K mg base N qual scope f cd A outer s H E) [] (start N vs) H s1:=by
 have M:ps.length<=N.length:=by have:=D1 List.length S.pre;rw[List.length_take] at this;omega
 obtain⟨h1,tk,rfl,hk⟩:=x.done;have F:∀b:Addr,b∉(wg0 CX P w K mg base N qual scope f cd A outer s H E).ex:=λb z=>absurd (show b∈([]:List Addr) from z) (by simp)
 refine⟨⟨e0.mod,S.kind,rfl,rfl,A4 _,λy z c h1 h2=>?_,λy hy=>?_,λy c _ h=>?_,λ_=>hd,Around.frames_deeper e0.frames,.inr ⟨rfl,rfl⟩,λb z=>absurd z (F b),e0.bs,e0.bsz,λb _ _=>F b,λb z=>absurd z (F b),e0.funs,e0.frf⟩,
  rfl,e0.bare,Un.kept hk,⟨_,x.toInCall.ns,λi y v h1 h2 h3=>?_⟩,λy c h=>⟨_,x.cell y c h⟩,e0.hok.fresh (A4 _),λy c h=>?_,λp hp=>absurd (show p∈([]:List (Addr×Obj)) from hp) (by simp),e0.hok.kept hk,?_⟩
 ·exact name_of_addr x.apart (E3 h1) (E3 h2)
 ·have hy:scope.names.lookup y=some .cell∨scope.names.lookup y=some .free:=hy
  rcases hy with hy|hy
  ·exact pn0 hy
  ·exact absurd rfl (S.nofree _ (E3 hy))
 ·exact S1 (x.above y c (E3 h))
 ·have hi:i<vs.length:=by
   unfold start at h2
   by_cases hi:i<vs.length
   ·exact hi
   ·rw[List.getElem?_append_right (by simpa using hi)] at h2
    rw[List.getElem?_replicate] at h2;split at h2<;>cases h2
  have ha:vs[i]?=some v:=by
   unfold start at h2;rw[List.getElem?_append_left (by simpa using hi),List.getElem?_map] at h2;cases e:vs[i]? with
   | none=>rw[e] at h2;cases h2
   | some a=>rw[e] at h2;cases h2;rfl
  obtain⟨u,hu,rv⟩:=r.get ha;have hp:ps[i]?=some y:=by
   rw[← S.pre,List.getElem?_take_of_lt (by omega)];exact h1
  have J:ps.Nodup:=by rw[← S.pre];exact S.nd.sublist (List.take_sublist _ _)
  refine⟨u,rv,?_⟩;rcases S.par y (o0 hp) with k|k
  ·exact .inl ⟨k,s90 J hp hu k⟩
  ·obtain⟨c,e⟩:=pn0 (n:=s.heap.objs.size+1) k
   refine .inr ⟨.inl k,c,e,?_⟩;have q:=x.cell y c e;rw[s40 J hp hu (by show scope.names.lookup y≠_;rw[k];decide)] at q;exact q
 ·exact e0.hok.fresh (S1 (x.above y c (E3 h)))
 ·unfold start
  show _=N.length;rw[List.length_append,List.length_map,List.length_replicate];omega
theorem cv0{CX:CXT}{P:Program}{w:World}{K:W.Frag}{mg:Str->Option Value}{base:Heap}{k:Nat}{f:Addr}{name qual:Str}{params:Arguments}{body:List Stmt}{scope:Scope}{dV kV doc pm cdv ct oc:Value}{an od:Option Addr}
  {osl:Array (Option Value)} {N ps:List Str} {sp:Sp} (lk:K.lookup f=some ⟨oc,od,.func (W.fnOf name qual params body scope dV kV doc pm an cdv ct),osl⟩) (hcd:W.codeIn K cdv qual=true) (S:FnScope N ps scope)
  (len:∀vs H Q E,sp vs H Q E->vs.length=ps.length)
  (hbody:∀(A:Around) (outer:List Env) (s:Shared) (H:Hp) (vs:List V) (Q:VK) (E:XK),Room k (A.deeper (envOfC qual scope s.heap.objs.size f cdv))->sp vs H Q E ->
   ∃t,PSs (wg0 CX P w K mg base N qual scope f cdv A outer s H E) body t/\t { nx:=λ_ H'=>Q .non H',rt:=Q } (start N vs) H) :
  FnOk P w K mg base CX (k+1) f (W.fnOf name qual params body scope dV kV doc pm an cdv ct) ps sp:=by
 refine⟨len,λA outer s H Y us vs Q E hr e0 hb r M=>?_⟩;have hl:=len _ _ _ _ M;have KX:K.In s.heap:=e0.mod.kin.keeps λb o e=>(e0.bs b o e).1
 have U:s.heap.NoLimit:=e0.mod.nolimit.keeps λb o e=>(e0.bs b o e).1
 have F:∀y∈ps.zip us,scope.names.lookup y.1=some .local∨(scope.names.lookup y.1=some .cell/\((cellsFrom (s.heap.objs.size+1) scope.names []).lookup y.1).isSome=true):=λ⟨n,v⟩ hy=>by
  rcases S.par n (I0 hy).1 with q|q
  ·exact .inl q
  ·exact .inr ⟨q,W.cellsFrom_some _ _ _ (.inl q)⟩
 refine codeAny_call_function hr.depth (KX _ _ lk) rfl S.co S.gen rfl (W.codeRec_of KX hcd) (hb _ _ _ _ ?_);refine wpAny_newFunctionEnv_cells S.kind F λenv he s1 x=>?_
 subst he;refine⟨U.keeps x.toInCall.keep,codeAny_func ?_⟩;obtain⟨t,ht,hq⟩:=hbody A outer s H vs Q E (hr.deeper _) M;have I:Inv (wg0 CX P w K mg base N qual scope f cdv A outer s H E) [] (start N vs) H s1:=mj0 S hr.hd e0 hl r x;refine E2 (ht [] s1 (start N vs) H _ I hq) (λfl s' hs=>?_) λe s' hs=>hs
 have O:∀{σ':St} {H':Hp} {v:V} {u:Value},Inv (wg0 CX P w K mg base N qual scope f cdv A outer s H E) [] σ' H' s'->RelV v u->Q v H'->CE outer P w H s Q u s' :=
  λ{σ' H' v u} J rv q=>⟨v,H',J.os,J.bare,J.base,J.hok,rv,q⟩
 cases fl with
 | ret u =>
  obtain⟨v,σ',H',J,rv,q⟩:=hs;exact O J rv q
 | next =>
  obtain⟨σ',H',J,q⟩:=hs;exact O (v:=V.non) (u:=Value.none) J rfl q
 | brk =>
  obtain⟨_,_,_,q⟩:=hs;exact False.elim q
 | cont =>
  obtain⟨_,_,_,q⟩:=hs;exact False.elim q
section
variable{t:TA}{id T:String}
def tCB(r:List V->Hp->VK->Prop)(t:TA):TE:=fun σ H Q=>t σ H λvs H1=>r vs H1 Q
theorem u50(hc:CallR X (.builtin id) r)(hg:Gl X x)(hm:X.mg x=none)(hv:bootBuiltins x=some (.builtin id))(ha:PA X (e::es) t)(hn:x ≠"__name__" := by decide)(hdb:(x==("__debug__" : Str))=false:=by decide)
  (he:starEach (e::es) X.env=(false,eval e X.env)::starEach es X.env:=by rfl) (hpl:(backTo pos (starEach es X.env)).any (·.1)=false:=by rfl):PE X (.Call (.Name x p) (e::es) [] pos) (tCB r t):=by
 intro pins s σ H Q I h;refine n9 (xg0 I hg hm hv ?_ hn hdb);exact PyProof.Rows.callWith_builtin1 (thn (ha pos pins s σ H _ I h) λus s1 ⟨vs,H1,I1,r1,q1⟩=>hc pins s1 σ H1 vs us Q I1 r1 q1) he hpl
theorem v40(hc:CallR X (.type T) r)(hg:Gl X x)(hm:X.mg x=none)(hv:bootBuiltins x=some (.type T))(ha:PA X (e::es) t)(hn:x ≠"__name__" := by decide)(hdb:(x==("__debug__" : Str))=false:=by decide)
  (he:starEach (e::es) X.env=(false,eval e X.env)::starEach es X.env:=by rfl) (hpl:(backTo pos (starEach es X.env)).any (·.1)=false:=by rfl):PE X (.Call (.Name x p) (e::es) [] pos) (tCB r t):=by
 intro pins s σ H Q I h;refine n9 (xg0 I hg hm hv ?_ hn hdb);exact S2 (thn (ha pos pins s σ H _ I h) λus s1 ⟨vs,H1,I1,r1,q1⟩=>hc pins s1 σ H1 vs us Q I1 r1 q1) he hpl
end
end L2
variable{r:List L2.V->L2.Hp->L2.VK->Prop}{X:L2.Cx}{xs:List L2.V}{H H' H2 H₀:L2.Hp}{σ:List (Option L2.V)}{ta tb te tv td:L2.TE}{CX:L2.CXT}{sp:L2.Sp}{ks:List L2.Key}{kvs:List (List L2.Key×L2.V)}
namespace HT
open PyProof.Rows
section
variable{w:World}{s:Shared}
theorem gp0{t b:Addr}{ws:List Value}{Q:Value->Shared->Prop}(ht:IsTup s.heap t vs.toArray)(hb:IsTup s.heap b ws.toArray)(hv:vs≠[])
  (h1:ws=[]->Q (.ref t) s) (h2:ws≠[]->Q (.ref s.heap.objs.size) { s with heap:=s.heap.push { cls:=.type "tuple",data:=.seq (vs++ws).toArray } })
  (hsz:vs.length+ws.length<=sizeLine):wpAny (model prog w) A (binaryOp .Add (.ref t) (.ref b)) Q E s:=by
 obtain⟨⟨cls,dd,data,sl⟩,ho,hc,n,hd⟩:=id ht;obtain⟨⟨U,M,data2,J⟩,F,O,n2,S⟩:=id hb;simp only at hc hd O S;subst hc hd O S;have e:vs.toArray++ws.toArray=(vs++ws).toArray:=by simp
 by_cases hw:ws=[]
 ·exact T0 ⟨_,ho,rfl⟩ ⟨_,F,rfl⟩ p4 p5 p9 r0 (r8 _ _)
   (tuple_addW1 t b vs.toArray ws.toArray n n2 dd M sl J (by simpa using hv) (by simp[hw])) ⟨ho,F,h1 hw⟩
 ·refine T0 ⟨_,ho,rfl⟩ ⟨_,F,rfl⟩ p4 p5 p9 r0 (r8 _ _)
   (tuple_addW2 t b vs.toArray ws.toArray n n2 dd M sl J (by simpa using hv) (by simpa using hw) (by rw[List.size_toArray,List.size_toArray];exact hsz)) ⟨ho,F,?_⟩
  rw[e];exact h2 hw
def sIx(n d:Nat):Option Int->Nat
 | none=>d
 | some v=>if v<0 then (v+(n:Int)).toNat else min v.toNat n
theorem dm0(n d:Nat)(hd:d<=n)(o:Option Int):sIx n d o<=n:=by
 cases o with
 | none=>exact hd
 | some v =>
  show (if v<0 then (v+(n:Int)).toNat else min v.toNat n)<=n
  by_cases hv:v<0
  ·rw[if_pos hv];omega
  ·rw[if_neg hv];exact Nat.min_le_right _ _
theorem n00(v:Int)(n d:Nat):(if v<0 then max (v+(n:Int)) 0 else min v (n:Int))=((sIx n d (some v):Nat):Int):=by
 show (if v<0 then max (v+(n:Int)) 0 else min v (n:Int))=(((if v<0 then (v+(n:Int)).toNat else min v.toNat n):Nat):Int)
 by_cases hv:v<0
 ·simp only[if_pos hv];omega
 ·simp only[if_neg hv];omega
theorem nq0(lo hi:Option Int)(n:Nat):Builtin.Slice.sliceAdjust lo hi 1 (n:Int)=(((sIx n 0 lo:Nat):Int),((sIx n n hi:Nat):Int)):=by
 have h1:¬((1:Int)<0):=by omega
 unfold Builtin.Slice.sliceAdjust;simp only[h1,if_false];refine L7 ?_ ?_
 ·cases lo with
  | none=>rfl
  | some v=>exact n00 v n 0
 ·cases hi with
  | none=>rfl
  | some v=>exact n00 v n n
theorem me0(i j:Nat):Builtin.Slice.slicePlaces (i:Int) (j:Int) 1=j - i:=by
 unfold Builtin.Slice.slicePlaces;have h1:(1:Int) > 0:=by omega
 simp only[h1,if_true,Int.ediv_one];split<;>omega
theorem t20{o:Option Int}{Q:Option Int->Shared->Prop}(p:IsPart v o)(h:Q o s):wpAny (model prog w) A (Builtin.Slice.slicePartIndex v) Q E s:=by
 cases p with
 | none=>exact slicePart_none h
 | int i t=>exact slicePart_int h
theorem yl0{sl:Addr}{n:Nat}{Q:Int×Int×Nat->Shared->Prop}(hs:s.heap.IsSliceOf sl vl vu .none)(pl:IsPart vl lo)(pu:IsPart vu hi)
  (h:Q (((sIx n 0 lo:Nat):Int),1,sIx n n hi - sIx n 0 lo) s):wpAny (model prog w) A (Builtin.Slice.sliceApplied (.ref sl) (pure (n:Int))) Q E s:=by
 obtain⟨os,J,M,F⟩:=id hs;unfold Builtin.Slice.sliceApplied Builtin.Slice.sliceFields;refine A0 (A0 (C2 J F (x:=vl) rfl (A0 (C2 J F (x:=vu) rfl (A0 (C2 J F (x:=.none) rfl (A1 ?_)))))));refine A0 (slicePart_none ?_);show wpAny _ _ (if ((1:Int)==0)=true then _ else _) _ _ s;rw[if_neg (by decide)];refine A0 (t20 pl (A0 (t20 pu (A0 (A1 ?_)))));show wpAny _ _ (match Builtin.Slice.sliceAdjust lo hi 1 (n:Int) with|(lo,hi)=>pure (lo,(1:Int),Builtin.Slice.slicePlaces lo hi 1)) _ _ s;rw[nq0 lo hi n];show wpAny _ _ (pure (((sIx n 0 lo:Nat):Int),(1:Int),Builtin.Slice.slicePlaces ((sIx n 0 lo:Nat):Int) ((sIx n n hi:Nat):Int) 1)) _ _ s;rw[me0];exact A1 h
theorem i50(xs:Array Value)(i k:Nat):((List.range k).filterMap λ(m:Nat)=>xs[((i:Int)+(m:Int)*1).toNat]?).toArray=((xs.toList.drop i).take k).toArray:=by
 have e:(λ(m:Nat)=>xs[((i:Int)+(m:Int)*1).toNat]?)=λm=>xs[i+m]?:=by
  funext m
  have:((i:Int)+(m:Int)*1).toNat=i+m:=by omega
  rw[this]
 rw[e];have:=pick_run xs i k;rw[List.filterMap_map] at this;have e2:((λx=>xs[x]?) ∘ λx=>i+x)=λm=>xs[i+m]?:=rfl
 rw[e2] at this;rw[this]
theorem vo0{t sl:Addr}{Q:Value->Shared->Prop}(ht:IsTup s.heap t items)(hs:s.heap.IsSliceOf sl vl vu .none)(pl:IsPart vl lo)(pu:IsPart vu hi)
  (hw:¬(sIx items.size 0 lo=0/\sIx items.size items.size hi=items.size))
  (h:Q (.ref s.heap.objs.size) { s with heap:=s.heap.push { cls:=.type "tuple",data:=.seq ((items.toList.drop (sIx items.size 0 lo)).take (sIx items.size items.size hi - sIx items.size 0 lo)).toArray } })
  (hsz:items.size<=sizeLine):wpAny (model prog w) A (getItem (.ref t) (.ref sl)) Q E s:=by
 have F:sizeOk (.seq ((items.toList.drop (sIx items.size 0 lo)).take (sIx items.size items.size hi - sIx items.size 0 lo)).toArray):=by
  show ((items.toList.drop (sIx items.size 0 lo)).take (sIx items.size items.size hi - sIx items.size 0 lo)).toArray.size<=sizeLine;rw[List.size_toArray,List.length_take,List.length_drop,Array.length_toList];omega
 have hj:sIx items.size items.size hi<=items.size:=dm0 _ _ (A4 _) hi;obtain⟨os,M,J,U⟩:=id hs;have S:s.TypeIs (.ref sl) "slice" := ⟨os,M,J⟩;unfold getItem
 try with_reducible refine C4 ?_
 first|refine A0 (A1 ?_)|skip
 refine A0 (wpAny_sequenceKey ht.typeIs (by decide) ?_);refine A0 (K0 (name:=Str.ofString "__getitem__") ht.typeIs N4
  (D7 N4 ht.typeIs entry_tuple_getitem ?_ (args_tuple_getitem _ _)))
 show wpAny _ _ (Builtin.Tuple.tupleItemsOf (.ref t)>>=_) _ _ s;refine A0 (tupleItemsOf_ ht ?_);refine A0 (N9 S ?_);rw[if_pos (by decide)];refine A0 (yl0 hs pl pu ?_);have O:¬((((sIx items.size 0 lo:Nat):Int)==0&&(1:Int)==1&&(sIx items.size items.size hi - sIx items.size 0 lo)==items.size)=true):=by
  intro q;rw[Bool.and_eq_true,Bool.and_eq_true] at q;have q1:((sIx items.size 0 lo:Nat):Int)=0:=O0 q.1.1;have q2:sIx items.size items.size hi - sIx items.size 0 lo=items.size:=O0 q.2;exact hw ⟨by omega,by omega⟩
 show wpAny _ _ (if (((sIx items.size 0 lo:Nat):Int)==0&&(1:Int)==1&&(sIx items.size items.size hi - sIx items.size 0 lo)==items.size)=true then _ else _) _ _ s;rw[if_neg O,i50]
 first
  | exact A0 (m:=Builtin.Tuple.tupleExact _) (E4 (A1 ⟨_,rfl,A1 h⟩) F)
  | exact A0 (m:=Builtin.Tuple.tupleExact _) (E4 (A0 (A1 (A1 ⟨_,rfl,A1 h⟩))) F)
  | exact A0 (A0 (m:=Builtin.Tuple.tupleExact _) (E4 (A1 (A1 ⟨_,rfl,A1 h⟩)) F))
  | exact A0 (A0 (m:=Builtin.Tuple.tupleExact _) (E4 (A1 ⟨_,rfl,A1 h⟩) F))
end
end HT
namespace L2
open Spec PyProof.Rows
abbrev TO:=St->Hp->(Option Int->Hp->Prop)->Prop
def PO(X:Cx)(e:Option Expr)(t:TO):Prop :=
 ∀(pins:List (Addr×Obj)) (s:Shared) (σ:St) (H:Hp) (Q:Option Int->Hp->Prop),Inv X pins σ H s->t σ H Q ->
  wpAny (model X.prog X.w) X.A (evalPart e X.env) (λu s'=>∃o H',Inv X pins σ H' s'/\IsPart u o/\Q o H') X.xe s
def f70:TO:=λ_ H Q=>Q none H
def bb0(t:TE):TO:=fun σ H Q=>t σ H λx H1=>∃i,x=.int i/\Q (some i) H1
section
variable{lo hi:Option Expr}{tl th:TO}
theorem gx0:PO X none f70:=by
 intro pins s σ H Q I h;rw[evalPart_none];exact A1 ⟨none,H,I,.none,h⟩
theorem gq0(h:PE X e te):PO X (some e) (bb0 te):=by
 intro pins s σ H Q I hw;rw[evalPart_some];refine thn (h pins s σ H _ I hw) λu s1 ⟨x,H1,I1,r1,q1⟩=>?_
 obtain⟨i,rfl,q⟩:=q1;obtain⟨t,rfl⟩:=r1;exact⟨some i,H1,I1,.int i t,q⟩
def SlR(X:Cx)(r:V->Option Int->Option Int->Hp->VK->Prop):Prop :=
 ∀(pins:List (Addr×Obj)) (s:Shared) (σ:St) (H:Hp) (x:V) (v vl vu:Value) (lo hi:Option Int) (sl:Addr) (Q:VK),Inv X pins σ H s->RelV x v->s.heap.IsSliceOf sl vl vu .none->IsPart vl lo->IsPart vu hi->r x lo hi H Q ->
  ∃T id,typeLookup (.type T) "__getitem__"=pure (some (.builtin id))/\s.TypeIs v T/\wpAny (model X.prog X.w) X.A (getItem v (.ref sl)) (EP X pins σ Q) X.xe s
theorem SlR.or{r r':V->Option Int->Option Int->Hp->VK->Prop}(h:SlR X r)(h':SlR X r'):SlR X (λx lo hi H Q=>r x lo hi H Q∨r' x lo hi H Q):=by
 intro pins s σ H x v vl vu lo hi sl Q I rx hs pl pu q;rcases q with q|q
 ·exact h pins s σ H x v vl vu lo hi sl Q I rx hs pl pu q
 ·exact h' pins s σ H x v vl vu lo hi sl Q I rx hs pl pu q
def tSl(r:V->Option Int->Option Int->Hp->VK->Prop)(te:TE)(tl th:TO):TE:=fun σ H Q=>te σ H λx H1=>tl σ H1 λl H2=>th σ H2 λu H3=>r x l u H3 Q
theorem j10{r:V->Option Int->Option Int->Hp->VK->Prop}(hr:SlR X r)(he:PE X e te)(hl:PO X lo tl)(hu:PO X hi th):PE X (.Subscript e (.Slice lo hi none p2) pos) (tSl r te tl th):=by
 intro pins s σ H Q I h;refine Subscript_ (thn (he pins s σ H _ I h) λv s1 ⟨x,H1,I1,r1,q1⟩=>?_);refine wpAny_Slice (thn (hl pins s1 σ H1 _ I1 q1) λvl s2 ⟨l,H2,I2,pl,q2⟩=>thn (hu pins s2 σ H2 _ I2 q2) λvu s3 ⟨u,H3,I3,pu,q3⟩=>?_);rw[evalPart_none];refine A1 ?_;have I4:Inv X pins σ H3 { s3 with heap:=s3.heap.push { cls:=.type "slice",data:=.fields #[vl,vu,.none] } }:=I3.kept (t':=s3.toks) λb ob q=>A7 _ q
 obtain⟨T,id,hT,ht,hg⟩:=hr pins { s3 with heap:=s3.heap.push { cls:=.type "slice",data:=.fields #[vl,vu,.none] } } σ H3 x v vl vu l u s3.heap.objs.size Q I4 r1 (Heap.IsSliceOf.new ..) pl pu q3;show wpAny (model X.prog X.w) X.A (subscriptTail e (.Slice lo hi none p2) v (.ref s3.heap.objs.size)) (EP X pins σ Q) X.xe { s3 with heap:=s3.heap.push { cls:=.type "slice",data:=.fields #[vl,vu,.none] } };exact tail_any (ops:=[.ref s3.heap.objs.size,v]) ht hT hg (by with_unfolding_all rfl)
def ws0(xs:List V)(lo hi:Option Int):List V:=(xs.drop (HT.sIx xs.length 0 lo)).take (HT.sIx xs.length xs.length hi - HT.sIx xs.length 0 lo)
theorem vv0(xs:List V)(lo hi:Option Int):(ws0 xs lo hi).length<=xs.length:=by
 unfold ws0;rw[List.length_take,List.length_drop];omega
def Z10(K:W.Frag):V->Option Int->Option Int->Hp->VK->Prop:=λx lo hi H Q=>∃a xs,x=.ref a/\SqT K H a xs /\
 ¬(HT.sIx xs.length 0 lo=0/\HT.sIx xs.length xs.length hi=xs.length)/\∀p,H p=none->Q (.ref p) (upd H p (.tup (ws0 xs lo hi)))
theorem e00:SlR X (Z10 X.K):=by
 intro pins s σ H x v vl vu lo hi sl Q I rx hs pl pu h;obtain⟨a,xs,rfl,hx,hw,q⟩:=h;cases rx;obtain⟨its,r,ht,hz⟩:=I.tuple hx;have F:its.toArray.size=xs.length:=by rw[List.size_toArray];exact r.length.symm
 refine⟨"tuple",_,N4.lookup,ht.typeIs,?_⟩;refine HT.vo0 ht hs pl pu (by rw[F];exact hw) ?_ (by rw[F];exact hz);rw[F];refine⟨.ref s.heap.objs.size,_,I.laid (t':=s.toks) (o:=.tup (ws0 xs lo hi)) (λb ob q=>A7 _ q) (A4 _) ?_,rfl,q _ (I.hok.fresh (A4 _))⟩;exact⟨B7 (vv0 xs lo hi) hz,_,(r.drop (HT.sIx xs.length 0 lo)).take (HT.sIx xs.length xs.length hi - HT.sIx xs.length 0 lo),IsTupN.new _ _⟩
def h00(K:W.Frag):R2:=λx y H Q=>∃a b xs ys,x=.ref a/\y=.ref b/\SqT K H a xs/\SqT K H b ys/\xs≠[]/\xs.length+ys.length<=sizeLine /\
 (ys=[]->Q (.ref a) H)/\(ys≠[]->∀p,H p=none->Q (.ref p) (upd H p (.tup (xs++ys))))
theorem Vals.nil_iff(r:Vals xs us):us=[]↔xs=[]:=by
 cases r with
 | nil=>simp
 | cons _ _=>simp
theorem f90:OpR X (binaryOp .Add) (h00 X.K):=by
 intro pins s σ H x y v u Q I rx ry h;obtain⟨a,b,xs,ys,rfl,rfl,ha,hb,hx,hz,q1,q2⟩:=h;cases rx;cases ry;obtain⟨its,r1,p1,_⟩:=I.tuple ha;obtain⟨F,r2,p2,_⟩:=I.tuple hb;refine HT.gp0 p1 p2 (λz=>hx (r1.nil_iff.mp z)) (λz=>⟨.ref a,H,I,rfl,q1 (r2.nil_iff.mp z)⟩) (λz=>?_) (by rw[← r1.length,← r2.length];exact hz);refine⟨.ref s.heap.objs.size,_,I.laid (t':=s.toks) (o:=.tup (xs++ys)) (λb ob q=>A7 _ q) (A4 _) ?_,rfl,q2 (λw=>z (r2.nil_iff.mpr w)) _ (I.hok.fresh (A4 _))⟩;exact⟨by rw[List.length_append];exact hz,_,r1.append r2,IsTupN.new _ _⟩
end
def ixN(n:Nat)(i:Int):Option Nat:=if 0<=i then (if i<n then some i.toNat else none) else if -(n:Int)<=i then some (i+n).toNat else none
def atI{α:Type}(xs:List α)(i:Int):Option α:=(ixN xs.length i).bind λj=>xs[j]?
theorem or0{i:Int}(h:ixN n i=some j):seqIndex? i n=some j/\j<n/\-(n:Int)<=i/\i<n:=by
 unfold ixN at h
 by_cases h0:0<=i
 ·rw[if_pos h0] at h
  by_cases h1:i<n
  ·rw[if_pos h1] at h
   have e:i.toNat=j:=B1 h;exact⟨by rw[seqIndex_of h0 h1,e],by omega,by omega,h1⟩
  ·rw[if_neg h1] at h;cases h
 ·rw[if_neg h0] at h
  by_cases h1:-(n:Int)<=i
  ·rw[if_pos h1] at h
   have e:(i+n).toNat=j:=B1 h;exact⟨by rw[seqIndex_neg (by omega) h1,e],by omega,h1,by omega⟩
  ·rw[if_neg h1] at h;cases h
theorem th0{xs:List α}{i:Int}{v:α}(h:atI xs i=some v):∃j,seqIndex? i xs.length=some j/\xs[j]?=some v/\j<xs.length/\-(xs.length:Int)<=i/\i<xs.length:=by
 unfold atI at h;cases e:ixN xs.length i with
 | none=>rw[e] at h;cases h
 | some j =>
  rw[e] at h;obtain⟨h1,h2,h3,h4⟩:=or0 e;exact⟨j,h1,h,h2,h3,h4⟩
def ty0(b:Expr):Prop:=∀o i,subscripted b false o i=operate [o,i] (getItem o i)
def IxR(X:Cx)(r:R2):Prop :=
 ∀(value slice:Expr) (pins:List (Addr×Obj)) (s:Shared) (σ:St) (H:Hp) (x y:V) (v u:Value) (Q:VK),Inv X pins σ H s->RelV x v->RelV y u->r x y H Q ->
  subscripted slice false v u=operate [v,u] (getItem v u)->wpAny (model X.prog X.w) X.A (subscriptTail value slice v u) (EP X pins σ Q) X.xe s
def MtR(X:Cx)(id:String)(r:V->List V->Hp->VK->Prop):Prop :=
 ∀(pins:List (Addr×Obj)) (s:Shared) (σ:St) (H:Hp) (x:V) (xs:List V) (v:Value) (us:List Value) (Q:VK),Inv X pins σ H s->RelV x v->Vals xs us->r x xs H Q ->
  wpAny (model X.prog X.w) X.A (call (.builtin id) (v::us)) (EP X pins σ Q) X.xe s
section
variable{a:Expr}
theorem IxR.or{r r':R2}(h:IxR X r)(h':IxR X r'):IxR X (λx y H Q=>r x y H Q∨r' x y H Q):=by
 intro value slice pins s σ H x y v u Q I rx ry q hs;rcases q with q|q
 ·exact h value slice pins s σ H x y v u Q I rx ry q hs
 ·exact h' value slice pins s σ H x y v u Q I rx ry q hs
theorem bn0{r:R2}(hr:IxR X r)(ha:PE X a ta)(hb:PE X b tb)(hs:ty0 b):PE X (.Subscript a b pos) (tOp r ta tb):=by
 intro pins s σ H Q I h;exact Subscript_ (i90 ha hb I h λv u s2 x y H2 I2 rx ry q=>hr a b pins s2 σ H2 x y v u Q I2 rx ry q (hs _ _))
def e40(K:W.Frag):R2:=λx y H Q=>∃p xs i v,x=.ref p/\y=.int i/\SqL K H p xs/\atI xs i=some v/\Q v H
def ex0(K:W.Frag):R2:=λx y H Q=>∃p xs i v,x=.ref p/\y=.int i/\SqT K H p xs/\atI xs i=some v/\Q v H
def ce0:R2:=λx y H Q=>∃z i c,x=.str z/\y=.int i/\z.length<=sizeLine/\atI z.cps.toList i=some c/\Q (.str ⟨#[c]⟩) H
theorem fb0:IxR X (e40 X.K):=by
 intro value slice pins s σ H x y v u Q I rx ry h hs;obtain⟨p,xs,i,z,rfl,rfl,hq,he,q⟩:=h;cases rx;obtain⟨t,rfl⟩:=ry;obtain⟨its,r,pl,hz⟩:=I.list hq;obtain⟨j,h1,h2,h3,h4,h5⟩:=th0 he;obtain⟨w,ew,J⟩:=r.get h2;have hl:=r.length;have hn:=xl0;have F:EP X pins σ Q w s:=⟨z,H,I,J,q⟩
 by_cases h0:0<=i
 ·have hj:i.toNat=j:=by
   rw[seqIndex_of h0 h5] at h1;exact B1 h1
  exact item_listR pl.isList h0 (by omega) (by rw[hj];simpa using ew) F hs
 ·have hj:(i+(its.toArray.size:Int)).toNat=j:=by
   rw[seqIndex_neg (by omega) h4] at h1;rw[List.size_toArray,← hl];exact B1 h1
  exact subscriptTail_builtinR (x:=w) pl.isList.typeIs v3.lookup
   (wpAny_getItem_list_neg (Q:=λr s'=>r=w/\EP X pins σ Q r s') pl.isList (by omega) (by rw[List.size_toArray]<;>omega) (by omega) (by rw[hj];simpa using ew) ⟨rfl,F⟩) hs
theorem dy0:IxR X (ex0 X.K):=by
 intro value slice pins s σ H x y v u Q I rx ry h hs;obtain⟨p,xs,i,z,rfl,rfl,hq,he,q⟩:=h;cases rx;obtain⟨t,rfl⟩:=ry;obtain⟨its,r,pl,hz⟩:=I.tuple hq;obtain⟨j,h1,h2,h3,h4,h5⟩:=th0 he;obtain⟨w,ew,F⟩:=r.get h2;have hl:=r.length;have hn:=xl0;have J:EP X pins σ Q w s:=⟨z,H,I,F,q⟩;exact subscriptTail_builtinR (x:=w) pl.typeIs slot_tuple_getitem.lookup
  (getItem_tuple (j:=j) (Q:=λr s'=>r=w/\EP X pins σ Q r s') pl (by omega) (by omega) (by rw[List.size_toArray,← hl];exact h1) (by simpa using ew) ⟨rfl,J⟩) hs
theorem fr0:IxR X ce0:=by
 intro value slice pins s σ H x y v u Q I rx ry h hs;obtain⟨z,i,c,rfl,rfl,hz,he,q⟩:=h;obtain⟨t,rfl⟩:=rx;obtain⟨t',rfl⟩:=ry;obtain⟨j,h1,h2,h3,h4,h5⟩:=th0 he;have hl:z.cps.toList.length=z.length:=by simp[Str.length]
 rw[hl] at h1 h4 h5;have hn:=xl0;exact tail_any (P1 s z t) slot_str_getitem.lookup (getItem_str (c:=c) (by
  have e1:decide (i < -(2 ^ 63:Int))=false:=N2 (by omega);have e2:decide (i ≥ 2 ^ 63)=false:=N2 (by omega);rw[e1,e2,Bool.or_false]) (by rw[h1];simpa using h2) ⟨.str ⟨#[c]⟩,H,I.tok _,⟨_,rfl⟩,q⟩) hs
def rIx(K:W.Frag):R2:=λx y H Q=>e40 K x y H Q∨ex0 K x y H Q∨ce0 x y H Q
theorem en0:IxR X (rIx X.K):=fb0.or (dy0.or fr0)
theorem m40(its:List Value)(n j:Nat)(u:Value):Obj.mapSeq (·.setIfInBounds j u) { cls:=.type "list",data:=.seq its.toArray n }={ cls:=.type "list",data:=.seq (its.set j u).toArray n }:=by
 simp[Obj.mapSeq]
theorem Inv.lst{σ:St}{s:Shared}{p:Addr}(I:Inv X pins σ H s)(h:H p=some (.lst xs)) :
  ∃(its:List Value) (n:Nat),Vals xs its/\s.heap.get? p=some { cls:=.type "list",data:=.seq its.toArray n }/\xs.length<=sizeLine:=by
 obtain⟨z,its,n,r,e⟩:=I.hok p _ h;exact⟨its,n,r,e,z⟩
theorem Inv.lstUpd{σ:St}{s:Shared}{p:Addr}{ys:List V}{its its':List Value}{n n':Nat}{f:Obj->Obj}(I:Inv X pins σ H s)(h:H p=some (.lst xs))
  (ho:s.heap.get? p=some { cls:=.type "list",data:=.seq its.toArray n }) (hf:f { cls:=.type "list",data:=.seq its.toArray n }={ cls:=.type "list",data:=.seq its'.toArray n' }) (r:Vals ys its') (hz:ys.length<=sizeLine) (t:Nat) :
  Inv X pins σ (upd H p (.lst ys)) { s with heap:=s.heap.update p f,toks:=t }:=by
 have e:(s.heap.update p f).get? p=some { cls:=.type "list",data:=.seq its'.toArray n' }:=by
  rw[Heap.get?_update_self f ho (by rw[hf]<;>rfl),hf]
 refine I.write (x:=p) (e:=p) (by rw[h];trivial) (.inl rfl) (λb u hb q=>(Aq0 _ _ (C6 hb)).trans q) ⟨_,e⟩ ?_;exact⟨hz,its',n',r,e⟩
def b40:V->V->V->Hp->(Hp->Prop)->Prop:=λo i v H Q=>∃p xs k j,o=.ref p/\i=.int k/\H p=some (.lst xs)/\ixN xs.length k=some j/\Q (upd H p (.lst (xs.set j v)))
theorem set_list:i10 X b40:=by
 intro pins s σ H o i v ov iv u Q I ro ri rv h;obtain⟨p,xs,k,j,rfl,rfl,hp,hj,q⟩:=h;cases ro;obtain⟨t,rfl⟩:=ri;obtain⟨its,n,r,ho,hz⟩:=I.lst hp;obtain⟨h1,h2,h3,h4⟩:=or0 hj;have hl:=r.length;have hn:=xl0;have I':Inv X pins σ (upd H p (.lst (xs.set j v))) { s with heap:=s.heap.update p (Obj.mapSeq (·.setIfInBounds j u)) } :=
  I.lstUpd hp ho (m40 its n j u) (r.set rv j) (by rw[List.length_set];exact hz) s.toks
 by_cases h0:0<=k
 ·have hk:k.toNat=j:=by
   rw[seqIndex_of h0 h4] at h1;exact B1 h1
  exact W.ki_setAt ho h0 (by omega) (by rw[List.size_toArray,← hl];exact h4) (by rw[hk];exact⟨_,I',q⟩)
 ·have hk:(k+(its.toArray.size:Int)).toNat=j:=by
   rw[seqIndex_neg (by omega) h3] at h1;rw[List.size_toArray,← hl];exact B1 h1
  exact W.ki_setBack ho (by omega) (by rw[List.size_toArray,← hl];exact h3) (by omega) (by rw[hk];exact⟨_,I',q⟩)
theorem ru0(lo hi:Option Int)(n:Nat):(sliceBounds lo hi none n).1=((HT.sIx n 0 lo:Nat):Int)/\(sliceBounds lo hi none n).2.1=((HT.sIx n n hi:Nat):Int)/\(sliceBounds lo hi none n).2.2=1:=by
 refine⟨?_,?_,rfl⟩
 ·cases lo with
  | none=>simp[sliceBounds,HT.sIx]
  | some i =>
   simp only[sliceBounds,HT.sIx,Option.getD_none,show (1:Int) > 0 by decide,if_true]
   by_cases h:i<0
   ·simp only[h,if_true]<;>omega
   ·simp only[h,if_false]<;>omega
 ·cases hi with
  | none=>simp[sliceBounds,HT.sIx]
  | some i =>
   simp only[sliceBounds,HT.sIx,Option.getD_none,show (1:Int) > 0 by decide,if_true]
   by_cases h:i<0
   ·simp only[h,if_true]<;>omega
   ·simp only[h,if_false]<;>omega
theorem sm0(its:List Value)(lo hi:Option Int):slicePick its.toArray lo hi none=((its.drop (HT.sIx its.length 0 lo)).take (HT.sIx its.length its.length hi - HT.sIx its.length 0 lo)).toArray:=by
 obtain⟨h1,h2,h3⟩:=ru0 lo hi its.toArray.size;unfold slicePick;rw[h1,h2,h3];simp only[sliceRange_one,pick_run,List.size_toArray]<;>rfl
def aq0(K:W.Frag):V->Option Int->Option Int->Hp->VK->Prop:=λx lo hi H Q=>∃a xs,x=.ref a/\SqL K H a xs/\∀p,H p=none->Q (.ref p) (upd H p (.lst (ws0 xs lo hi)))
theorem gw0:SlR X (aq0 X.K):=by
 intro pins s σ H x v vl vu lo hi sl Q I rx hs pl pu h;obtain⟨a,xs,rfl,hx,q⟩:=h;cases rx;obtain⟨its,r,ht,hz⟩:=I.list hx;have F:=r.length;refine⟨"list",_,v3.lookup,ht.isList.typeIs,?_⟩;refine Ar0 ht.isList hs pl pu .none (by simp) ?_ (by rw[List.size_toArray]<;>omega);rw[sm0,← F];refine⟨.ref s.heap.objs.size,_,I.laid (t':=s.toks) (o:=.lst (ws0 xs lo hi)) (λb ob q=>A7 _ q) (A4 _) ?_,rfl,q _ (I.hok.fresh (A4 _))⟩;exact⟨B7 (vv0 xs lo hi) hz,_,0,(r.drop (HT.sIx xs.length 0 lo)).take (HT.sIx xs.length xs.length hi - HT.sIx xs.length 0 lo),B5 _ rfl⟩
theorem ql0:CallR X (.builtin "len") (λxs H Q=>∃p ys,xs=[.ref p]/\(SqL X.K H p ys∨SqT X.K H p ys)/\Q (.int ys.length) H):=by
 intro pins s σ H xs us Q I r h;obtain⟨p,ys,rfl,hq,q⟩:=h;obtain⟨u,rfl,rx⟩:=vals1 r;cases rx;have hn:=xl0;rcases hq with hq|hq
 ·obtain⟨its,r',pl,hz⟩:=I.list hq
  have F:=r'.length;exact Calls.call_len_list pl.isList (by simp only[List.size_toArray]<;>omega) ⟨.int ys.length,H,I.tok _,⟨s.toks+1,by rw[List.size_toArray,F]⟩,q⟩
 ·obtain⟨its,r',pl,hz⟩:=I.tuple hq
  have F:=r'.length;exact len_tuple pl (by simp only[List.size_toArray]<;>omega) ⟨.int ys.length,H,I.tok _,⟨s.toks+1,by rw[List.size_toArray,F]⟩,q⟩
theorem qz0:CallR X (.builtin "len") (λxs H Q=>∃z,xs=[.str z]/\z.length<=sizeLine/\Q (.int z.length) H):=by
 intro pins s σ H xs us Q I r h;obtain⟨z,rfl,hz,q⟩:=h;obtain⟨u,rfl,t,rfl⟩:=vals1 r;have hn:=xl0;exact len_str (by omega) ⟨.int z.length,H,I.tok _,⟨_,rfl⟩,q⟩
theorem CallR.or{f:Value}{r':List V->Hp->VK->Prop}(h:CallR X f r)(h':CallR X f r'):CallR X f (λxs H Q=>r xs H Q∨r' xs H Q):=by
 intro pins s σ H xs us Q I rs q;rcases q with q|q
 ·exact h pins s σ H xs us Q I rs q
 ·exact h' pins s σ H xs us Q I rs q
theorem wl0:CallR X (.type "list") (λxs H Q=>∃p ys,xs=[.ref p]/\(SqL X.K H p ys∨SqT X.K H p ys)/\∀l,H l=none->Q (.ref l) (upd H l (.lst ys))):=by
 intro pins s σ H xs us Q I r h;obtain⟨p,ys,rfl,hq,q⟩:=h;obtain⟨u,rfl,rx⟩:=vals1 r;cases rx;have F:∀(its:List Value),Vals ys its->ys.length<=sizeLine->∀(h':Heap) (c':Nat),(∀b o',s.heap.get? b=some o'->h'.get? b=some o') ->
   h'.get? s.heap.objs.size=some { cls:=.type "list",dict:=none,data:=.seq its.toArray c',slots:=#[] }->EP X pins σ Q (.ref s.heap.objs.size) { s with heap:=h' }:=λits r' hz h' c' kp e =>
  ⟨.ref s.heap.objs.size,_,I.laid (t':=s.toks) kp (A4 _) (show ObjOk X.prog X.w _ h' _ (.lst ys) from ⟨hz,its,c',r',e⟩),rfl,q _ (I.hok.fresh (A4 _))⟩
 rcases hq with hq|hq
 ·obtain⟨its,r',pl,hz⟩:=I.list hq
  have J:=r'.length;obtain⟨o,ho,hc,n,hd⟩:=pl.isList;exact call_list_seq p (.inl rfl) ho hc hd (λh' c' kp e=>F its r' hz h' c' kp e) (by simp only[List.size_toArray]<;>omega)
 ·obtain⟨its,r',pl,hz⟩:=I.tuple hq
  have J:=r'.length;obtain⟨o,ho,hc,n,hd⟩:=pl;exact call_list_seq p (.inr rfl) ho hc hd (λh' c' kp e=>F its r' hz h' c' kp e) (by simp only[List.size_toArray]<;>omega)
theorem V7:CallR X (.type "tuple") (λxs H Q=>∃p ys,xs=[.ref p]/\((SqL X.K H p ys/\∀l,H l=none->Q (.ref l) (upd H l (.tup ys)))∨(SqT X.K H p ys/\Q (.ref p) H))):=by
 intro pins s σ H xs us Q I r h;obtain⟨p,ys,rfl,h⟩:=h;obtain⟨u,rfl,rx⟩:=vals1 r;cases rx;rcases h with⟨hq,q⟩|⟨hq,q⟩
 ·obtain⟨its,r',pl,hz⟩:=I.list hq
  have F:=r'.length;refine call_tuple_list pl.isList (λh' kp=>?_) (by simp only[List.size_toArray]<;>omega);have I1:Inv X pins σ H { s with heap:=h' }:=I.kept (t':=s.toks) kp;have I2:Inv X pins σ (upd H h'.objs.size (.tup ys)) { s with heap:=h'.push { cls:=.type "tuple",data:=.seq its.toArray } } :=
   I1.laid (t':=s.toks) (λb o e=>A7 _ e) (A4 _) (show ObjOk X.prog X.w _ _ _ (.tup ys) from ⟨hz,its,r',IsTupN.new _ _⟩)
  exact⟨.ref h'.objs.size,_,I2,rfl,q _ (I1.hok.fresh (A4 _))⟩
 ·obtain⟨its,r',pl,hz⟩:=I.tuple hq
  exact call_tuple_same pl ⟨.ref p,H,I,rfl,q⟩
def tyV(K:W.Frag)(T:String)(x:V)(H:Hp):Prop:=match x with
 | .str _=>T = "str"
 | .int _=>T = "int"
 | .ref p=>(T = "list"/\∃xs,SqL K H p xs)∨(T = "tuple"/\∃o,K.lookup p=some o/\o.cls=.type "tuple"/\o.dict=none) ∨
   (T = "dict"/\((∃kvs,H p=some (.dK kvs))∨∃kvs,H p=some (.dT kvs)))∨(T = "set"/\∃S n,H p=some (.set S n))
 | _=>False
theorem kc0{σ:St}{s:Shared}{T:String}{x:V}(I:Inv X pins σ H s)(r:RelV x v)(ty:tyV X.K T x H) :
  s.TypeIs v T/\∀a,v=.ref a->∃ob,s.heap.get? a=some ob/\ob.dict=none:=by
 cases x with
 | str z =>
  obtain⟨t,rfl⟩:=r;cases (show T = "str" from ty);exact⟨P1 s z t,λ_ e=>nomatch e⟩
 | int i =>
  obtain⟨t,rfl⟩:=r;cases (show T = "int" from ty);exact⟨L8 s i t,λ_ e=>nomatch e⟩
 | ref p =>
  cases r;rcases ty with⟨rfl,xs,hq⟩|⟨rfl,o,hk,hc,hd⟩|⟨rfl,hk⟩|⟨rfl,S,n,hk⟩
  ·obtain⟨its,_,pl,_⟩:=I.list hq
   refine⟨pl.isList.typeIs,λa e=>?_⟩;cases e;obtain⟨o,n,e,c,hd,_⟩:=pl;exact⟨o,e,hd⟩
  ·refine⟨⟨o,I.kIn p o hk,hc⟩,λa e=>?_⟩
   cases e;exact⟨o,I.kIn _ o hk,hd⟩
  ·have z:∃o,s.heap.get? p=some o/\o.ExactDict:=by
    rcases hk with⟨kvs,hk⟩|⟨kvs,hk⟩
    ·obtain⟨_,_,_,_,o,_,_,e,ex,_⟩:=I.hok p _ hk
     exact⟨o,e,ex⟩
    ·obtain⟨_,_,_,_,o,_,_,e,ex,_⟩:=I.hok p _ hk
     exact⟨o,e,ex⟩
   obtain⟨o,e,ex⟩:=z;refine⟨⟨o,e,ex.1⟩,λa e2=>?_⟩;cases e2;exact⟨o,e,ex.2.1⟩
  ·obtain⟨o,_,_,_,e,ex,_⟩:=I.hok p _ hk
   refine⟨⟨o,e,ex.1⟩,λa e2=>?_⟩;cases e2;exact⟨o,e,ex.2.1⟩
 | _=>exact False.elim ty
def a80(K:W.Frag)(T:String)(r:V->List V->Hp->VK->Prop)(to:TE):TE:=fun σ H Q=>to σ H λx H1=>tyV K T x H1/\r x [] H1 Q
def tBM(K:W.Frag)(T:String)(r:V->List V->Hp->VK->Prop)(to:TE)(t:TA):TE:=fun σ H Q=>to σ H λx H1=>tyV K T x H1/\t σ H1 λxs H2=>r x xs H2 Q
variable{to:TE}{t:TA}{T id:String}{r:V->List V->Hp->VK->Prop}
theorem dd0(pa:PlainAttrs T)(slot:Slot T name id)(hty:typeOf (.builtin id)=pure (.type "method_descriptor"))(hm:MtR X id r)(ho:PE X o to)
  (hbase:attributeBase o name X.env (eval o X.env)=eval o X.env:=by rfl) (hline:(apos.endLine==cpos.line)=true:=by rfl):PE X (.Call (.Attribute o name apos) [] [] cpos) (a80 X.K T r to):=by
 intro pins s σ H Q I h;refine wpAny_Call_method0_late hbase hline (thn (ho pins s σ H _ I h) λv s1 ⟨x,H1,I1,r1,ty,q1⟩=>?_);obtain⟨h1,h2⟩:=kc0 I1 r1 ty;exact⟨T,id,pa,slot,hty,h1,h2,At0 rfl (PySem.evalArgs_none (hm pins s1 σ H1 x [] v [] Q I1 r1 .nil q1))⟩
theorem iu0(pa:PlainAttrs T)(slot:Slot T name id)(hty:typeOf (.builtin id)=pure (.type "method_descriptor"))(hm:MtR X id r)(ho:PE X o to)(ha:PA X (e::es) t)
  (hbase:attributeBase o name X.env (eval o X.env)=eval o X.env:=by rfl)
  (hfew:((backTo cpos (starEach (e::es) X.env)).all (λx=>!x.1)&&(backToKw cpos (keywordEach [] X.env)).all (λx=>x.1.isSome)
  &&decide ((e::es).length+([]:List Keyword).length+(if ([]:List Keyword).isEmpty then 0 else 1)<30))=true:=by rfl)
  (hline:(apos.endLine==cpos.line)=true:=by rfl) (hs:starEach (e::es) X.env=(false,eval e X.env)::starEach es X.env:=by rfl) (hplain:(backTo cpos (starEach es X.env)).any (·.1)=false:=by rfl) :
  PE X (.Call (.Attribute o name apos) (e::es) [] cpos) (tBM X.K T r to t):=by
 intro pins s σ H Q I h;refine wpAny_Call_method_late hbase hfew hline rfl (thn (ho pins s σ H _ I h) λv s1 ⟨x,H1,I1,r1,ty,q1⟩=>?_);obtain⟨h1,h2⟩:=kc0 I1 r1 ty;refine⟨T,id,pa,slot,hty,h1,h2,?_⟩;have hA:=ha cpos pins s1 σ H1 _ I1 q1;rw[hs] at hA ⊢;refine At0 (by show (false||(backTo cpos (starEach es X.env)).any (·.1))=false;rw[hplain]<;>rfl) (Calls.evalArgs_plain ?_);exact thn hA λus s2 ⟨vs,H2,I2,r2,q2⟩=>hm pins s2 σ H2 x vs v us Q I2 r1 r2 q2
end
def MtM(X:Cx)(id:String)(r:V->List V->Hp->VK->Prop):Prop :=
 ∀(pins:List (Addr×Obj)) (s:Shared) (σ:St) (H:Hp) (x:V) (xs:List V) (v:Value) (us:List Value) (Q:VK),Inv X pins σ H s->RelV x v->Vals xs us->r x xs H Q ->
  wpAny (model X.prog X.w) X.A (call (.builtin id) (v::us)) (EP X pins σ Q) X.xe s
theorem Vals.one:∀{x:V} {us:List Value},Vals [x] us->∃u,us=[u]/\RelV x u
 | _,_,.cons r .nil=>⟨_,rfl,r⟩
theorem Vals.two:∀{x y:V} {us:List Value},Vals [x,y] us->∃u v,us=[u,v]/\RelV x u/\RelV y v
 | _,_,_,.cons r (.cons q .nil)=>⟨_,_,rfl,r,q⟩
theorem Vals.zero:∀{us:List Value},Vals [] us->us=[]
 | _,.nil=>rfl
theorem Vals.dropLast(h:Vals xs us):Vals xs.dropLast us.dropLast:=by
 induction h with
 | nil=>exact .nil
 | cons r t ih =>
  cases t with
  | nil=>exact .nil
  | cons q t'=>exact .cons r ih
theorem Vals.reverse(h:Vals xs us):Vals xs.reverse us.reverse:=by
 induction h with
 | nil=>exact .nil
 | cons r t ih=>rw[List.reverse_cons,List.reverse_cons];exact Vals.append ih (.cons r .nil)
theorem Vals.rep(h:Vals xs us):∀k:Nat,Vals (List.replicate k xs).flatten (List.replicate k us).flatten
 | 0=>.nil
 | k+1=>by
  rw[List.replicate_succ,List.replicate_succ,List.flatten_cons,List.flatten_cons];exact Vals.append h (Vals.rep h k)
theorem m10(l:List α):l.eraseIdx (l.length - 1)=l.dropLast:=by
 induction l with
 | nil=>rfl
 | cons a r ih =>
  cases r with
  | nil=>rfl
  | cons b r =>
   have e:(a::b::r).length - 1=((b::r).length - 1)+1:=by
    have h1:(a::b::r).length=r.length+2:=rfl;have h2:(b::r).length=r.length+1:=rfl;omega
   rw[e,List.eraseIdx_cons_succ,ih]
   all_goals rfl
theorem foldl_rep(its:List Value):∀(k:Nat) (acc:List Value),
  List.foldl (λx1 x2=>x1++x2) acc.toArray (List.replicate k its.toArray)=(acc++(List.replicate k its).flatten).toArray
 | 0,acc=>by simp
 | k+1,acc=>by
  have e:acc.toArray++its.toArray=(acc++its).toArray:=by simp
  have e2:(acc++its)++(List.replicate k its).flatten=acc++(List.replicate (k+1) its).flatten:=by
   rw[List.replicate_succ,List.flatten_cons,List.append_assoc]
  rw[← e2,← foldl_rep its k (acc++its),← e,List.replicate_succ,List.foldl_cons]
section
variable{σ:St}{s:Shared}{l b:Addr}{ys zs:List V}
theorem Inv.lset{its its':List Value}{n:Nat}{f:Array Value->Array Value}{t':Nat}(I:Inv X pins σ H s)(hH:H l=some (.lst xs))
  (e:s.heap.get? l=some { cls:=.type "list",data:=.seq its.toArray n }) (hf:f its.toArray=its'.toArray) (hv:Vals ys its') (hz:ys.length<=sizeLine) :
  Inv X pins σ (upd H l (.lst ys)) { s with heap:=s.heap.update l (Obj.mapSeq f),toks:=t' }:=by
 have q:=PySem.IsL.update e f;rw[hf] at q;refine I.write (x:=l) (e:=l) (by rw[hH];exact trivial) (.inl rfl) (λb' u hb hu=>(Aq0 s.heap (Obj.mapSeq f) (C6 hb)).trans hu) ⟨_,q⟩ ?_;exact⟨hz,its',_,hv,q⟩
theorem Inv.lnew{t':Nat}(I:Inv X pins σ H s)(hv:Vals ys its)(hz:ys.length<=sizeLine) :
  Inv X pins σ (upd H s.heap.objs.size (.lst ys)) { s with heap:=s.heap.push { cls:=.type "list",data:=.seq its.toArray },toks:=t' } :=
 I.laid (λ_ _ q=>A7 _ q) (A4 _) ⟨hz,its,0,hv,B5 _ rfl⟩
theorem Inv.fresh(I:Inv X pins σ H s):H s.heap.objs.size=none:=I.hok.fresh (A4 _)
theorem Inv.lstM(I:Inv X pins σ H s)(hH:H l=some (.lst xs)):xs.length<=sizeLine/\∃(its:List Value) (n:Nat),Vals xs its/\xs.length=its.length/\s.heap.get? l=some { cls:=.type "list",data:=.seq its.toArray n }:=by
 obtain⟨z,its,n,r,e⟩:=I.hok l _ hH;exact⟨z,its,n,r,r.length,e⟩
end
def g30:V->List V->Hp->VK->Prop:=λx vs H Q=>∃l xs y,x=.ref l/\vs=[y]/\H l=some (.lst xs)/\xs.length<sizeLine/\Q .non (upd H l (.lst (xs++[y])))
theorem sd0:MtM X "list.append" g30:=by
 intro pins s σ H x vs v us Q I rx rv h;obtain⟨l,xs,y,rfl,rfl,hH,hz,q⟩:=h;cases rx;obtain⟨u,rfl,ru⟩:=rv.one;obtain⟨z,its,n,r,hl,e⟩:=I.lstM hH;refine P5 F.slot_list_append ⟨_,e,rfl⟩ F.entry_list_append (F.args_list_append_2 _ _) (PySem.list_append l its.toArray n u (by rw[List.size_toArray];omega)) ⟨e,?_⟩;refine⟨.non,_,I.lset (its':=its++[u]) hH e (by simp) (r.append (.cons ru .nil)) ?_,rfl,q⟩;rw[List.length_append,List.length_singleton];omega
def ai0:V->List V->Hp->VK->Prop:=λx vs H Q=>∃l xs y,x=.ref l/\vs=[]/\H l=some (.lst xs)/\xs[xs.length - 1]?=some y/\Q y (upd H l (.lst xs.dropLast))
theorem ez0:MtM X "list.pop" ai0:=by
 intro pins s σ H x vs v us Q I rx rv h;obtain⟨l,xs,y,rfl,rfl,hH,hy,q⟩:=h;cases rx;have J:=rv.zero;subst J;obtain⟨z,its,n,r,hl,e⟩:=I.lstM hH;obtain⟨u,hu,ru⟩:=r.get hy;have M:its.toArray[its.toArray.size - 1]?=some u:=by
  show its.toArray[its.length - 1]?=some u;rw[← Array.getElem?_toList,← hl];exact hu
 refine P5 F.slot_list_pop ⟨_,e,rfl⟩ F.entry_list_pop (F.args_list_pop_1 _) (MeetsSeq.list_pop_last l its.toArray n u M (by rw[List.size_toArray];omega)) ⟨e,?_⟩;refine⟨y,_,I.lset (its':=its.dropLast) hH e ?_ r.dropLast ?_,ru,q⟩
 ·show its.toArray.eraseIdxIfInBounds (its.toArray.size - 1)=its.dropLast.toArray
  rw[List.size_toArray,List.eraseIdxIfInBounds_toArray,m10]
 ·rw[List.length_dropLast]
  omega
theorem len_rep(xs:List α)(k:Nat):(List.replicate k xs).flatten.length=k*xs.length:=by
 induction k with
 | zero=>simp
 | succ k ih=>rw[List.replicate_succ,List.flatten_cons,List.length_append,ih,Nat.succ_mul,Nat.add_comm]
end L2
namespace Att
open PySem.W PySem.Calls PyProof.Rows
theorem us0{P:Params}{h:Heap}:∀(ns:List Int) (vs:List Value),WellAll P h vs (ns.map WData.int)->IntsAre vs ns:=by
 intro ns
 induction ns with
 | nil =>
  intro vs w;rw[List.map_nil] at w;cases w;exact .nil
 | cons n ns ih =>
  intro vs w;rw[List.map_cons] at w;cases w with
  | cons a b =>
   cases a;exact .cons _ _ (ih _ b)
theorem l80{l:OpenLaw}(hn:l.most=some n){P:Params}{h:Heap}{args:List WData}{vals:List Value}
  (hpre:l.row.toRowW.claim.pre args=true) (hwl:WellAll P h vals args) :
  ∃a vs ns,vals=[Value.ref a]/\args=[WData.list (ns.map WData.int)]/\h.get? a=some { cls:=.type "list",data:=.seq vs.toArray }/\IntsAre vs ns/\ns.length<=n:=by
 have J:WShape.hasAll [] args [.list .int]=true:=(pre_splitW hpre).1;have hc:l.pre.holds [] { args:=args }=true:=(pre_splitW hpre).2;obtain⟨d,r,rfl,h1,h2⟩:=hasAllW_cons J;obtain rfl:=hasAllW_nil h2;obtain⟨xs,rfl,h3⟩:=hasW_list h1;obtain⟨ns,rfl⟩:=items_int h3;have F:ns.length<=n:=by
  unfold OpenLaw.pre at hc;have h4:(WTm.not (.lt (.lit (.int (n:Int))) (.len (.arg 0)))).holds [] { args:=[.list (ns.map .int)] }=true:=by
   have h4:=(holds_andW hc).1;rw[hn] at h4;exact h4
  have h5:=condW_of h4 (w_not (w_lt w_lit (w_len_list (w_arg rfl))));rw[List.length_map] at h5;refine Nat.le_of_not_lt λq=>?_
  have q':(n:Int)<((ns.length:Nat):Int):=by omega
  first
   | (rw[decide_eq_true q'] at h5;exact absurd h5 (by decide))
   | (simp at h5;omega)
 cases hwl with
 | cons w1 w2 =>
  cases w2;cases w1 with
  | list ho hall=>exact⟨_,_,ns,rfl,rfl,ho,us0 ns _ hall,F⟩
theorem mn0(l:OpenLaw)(args:List WData):l.row.toRowW.claim.post args (.bool true) args=true :=
 postW_of (r:=l.row.toRowW) (X:=(true==true))
  (show WShape.has [] (.bool true) .bool=true by first|rfl|decide|simp[WShape.has,WShape.arms,WShape.armsAll])
  (show (WTm.eq .res (.lit (.bool true))).value [] { args:=args,res:=some (.bool true),after:=args }=some (.bool (true==true)) from w_eq_bool (w_res rfl) w_lit) rfl
theorem ob0{l:OpenLaw}{n:Nat}{q:Program}{loose:List Str}{XP:(Str->Option Value)->Heap->Prop}{YP:World->Heap->Prop}{d:DefRec}
  (hn:l.most=some n) (hdf:d.params.defaults=[])
  (call:∀(w:World) (s₀ s₁:Shared) (mg mb:Str->Option Value) (fa:Addr) (o:Obj) (pm cd doc:Value) (a:Addr) (vs:List Value) (ns:List Int),
   Ground q loose [] XP w s₀ mg mb s₁.heap->YP w s₁.heap ->
   s₁.heap.get? fa=some o->o.data=.func (docDef d.name d.params d.body d.scope pm cd doc)->s₁.heap.CodeRec cd d.name->mg d.name=some (.ref fa) ->
   s₁.heap.get? a=some { cls:=.type "list",data:=.seq vs.toArray }->IntsAre vs ns->ns.length<=n->s₁.gens=#[] ->
   codeAny (model l.prog w) callerA (.call (.ref fa) ⟨[.ref a],[]⟩) (λr s'=>r=.ok (.ret (.bool true))/\OldK s₁.heap s'.heap/\s'.os=s₁.os/\AllBare s'.gens) s₁) :
  WalkO q loose XP YP l.row.toRowW d [] (λf vs=>PySem.call f vs):=by
 intro w s₀ s₁ mg mb G Y fa o pm cd doc dV kV ho hd S hD Z hg a0 vals as M a1 a2 U a3;obtain rfl:dV=.none:=Dflts.none hD hdf;obtain rfl:kV=.none:=Dflts.noKw hD;obtain⟨a,vs,ns,rfl,rfl,O,F,J⟩:=l80 hn M U;refine enter_call (n5 (call w s₀ s₁ mg mb fa o pm cd doc a vs ns G Y ho (fd_plain hd) S Z O F J hg) λr s' hq=>?_);obtain⟨rfl,h2,h3,h4⟩:=hq;exact⟨.inl ⟨.bool true,.bool true,[],rfl,λ_=>rfl,.bool true,mn0 l _,λ_=>⟨List.Pairwise.nil,λ_ hm=>(nomatch hm)⟩⟩,h2,h3,h4⟩
end Att
namespace L2
open Spec PyProof.Rows
theorem sf0:∀{vs:List Value} {ns:List Int},IntsAre vs ns->Vals (ns.map V.int) vs
 | _,_,.nil=>.nil
 | _,_,.cons n t h=>.cons ⟨t,rfl⟩ (sf0 h)
def Only(H:Hp):Prop:=∀b,H b=none∨∃o xs,H b=some (.frz o (.lst xs))
theorem j20{P:Program}{w:World}{K:W.Frag}{mg mb:Str->Option Value}{CX:CXT}{k:Nat}{fa a:Addr}{fd:FuncData}{x:Str}{sp:Sp}{s₁:Shared}{vs:List Value}{ns:List Int}
  (KX:K.In s₁.heap) (hns:s₁.heap.Ns mainGlobals mg) (hb:s₁.heap.Ns builtinsNs mb) (hbb:∀x:Str,x ≠"__name__"->mb x=bootBuiltins x) (hlim:s₁.heap.NoLimit) (hg:s₁.gens=#[])
  (ha:s₁.heap.get? a=some { cls:=.type "list",data:=.seq vs.toArray }) (hi:IntsAre vs ns) (hl:ns.length<=sizeLine) (hr:Room k callerA)
  (F:∀base:Heap,K.In base->base.Ns mainGlobals mg->FnOk P w K mg base CX k fa fd [x] sp) (hbind:∀(s:Shared) (u:Value),BindsTo s fd ⟨[u],[]⟩ [(x,u)])
  (hsp:∀H:Hp,Only H->SqL K H a (ns.map V.int)->sp [.ref a] H (λv _=>v=.bl true) λ_ _ _=>False)
  (hCX:∀H e s',CX [] H s₁ (λ_ _ _=>False) e s'->False) :
  codeAny (model P w) callerA (.call (.ref fa) ⟨[.ref a],[]⟩) (λr s'=>r=.ok (.ret (.bool true))/\OldK s₁.heap s'.heap/\s'.os=s₁.os/\AllBare s'.gens) s₁:=by
 have rv:=sf0 hi;have Y:=hi.length;have O:∀H:Hp,Only H->SqL K H a (ns.map V.int)->HOk P w H s₁.heap->(∀b,H b≠none->b=a)->(H a≠none->K.lookup a=none) ->
   codeAny (model P w) callerA (.call (.ref fa) ⟨[.ref a],[]⟩) (λr s'=>r=.ok (.ret (.bool true))/\OldK s₁.heap s'.heap/\s'.os=s₁.os/\AllBare s'.gens) s₁:=by
  intro H hO hS hok hA hK;have J:∀{b:Addr} {o:Obj},s₁.heap.get? b=some o->H b=none->(xy0 s₁.heap H).get? b=some o:=λe n=>j80 e n
  have Z:∀{b:Addr} {o:Obj} {es:Array DictEntry} {ep:Nat},s₁.heap.get? b=some o->o.data=.dict es ep->H b=none:=λ{b o es ep} e d=>by
   cases q:H b with
   | none=>rfl
   | some u =>
    have e':b=a:=hA b (by rw[q];simp);subst e';rw[ha] at e;cases e;have d':Data.seq vs.toArray _=Data.dict es ep:=d;cases d'
  have M:∀{b:Addr} {m:Str->Option Value},s₁.heap.Ns b m->(xy0 s₁.heap H).Ns b m:=λ{b m} ⟨o,es,ep,e,d,r⟩=>⟨o,es,ep,J e (Z e d),d,r⟩
  have S:K.In (xy0 s₁.heap H):=λb o e=>J (KX b o e) (by
   cases q:H b with
   | none=>rfl
   | some u =>
    have e':b=a:=hA b (by rw[q];simp);subst e';rw[hK (by rw[q];simp)] at e;cases e)
  have hM:Mod K mg (xy0 s₁.heap H):=⟨S,M hns,⟨mb,M hb,hbb⟩,let ⟨mc,h1,h2⟩:=hlim;⟨mc,M h1,h2⟩⟩;have e0:Env0 P w K mg (xy0 s₁.heap H) callerA [] s₁ H:=⟨rfl,hM,λb o e=>g40 e,P6 (kh0 _ _),trivial,λb hb=>absurd (show b∈([]:List Addr) from hb) (by simp),hok,.of_eq hg⟩;refine n5 ((F _ S (M hns)).run callerA [] s₁ H ⟨[.ref a],[]⟩ [.ref a] [.ref a] _ _ hr e0 (hbind s₁ (.ref a)) (.cons rfl .nil) (hsp H hO hS)) λr s' h=>?_
  cases r with
  | error e=>exact(hCX H e s' h).elim
  | ok fl =>
   cases fl with
   | next=>exact False.elim h
   | brk=>exact False.elim h
   | cont=>exact False.elim h
   | ret u =>
    obtain⟨v,H',os,bare,un,U,r',q⟩:=h;have q':v=.bl true:=q;subst q';obtain rfl:u=Value.bool true:=r';refine⟨rfl,OldK.of_keep λb o e=>?_,os,bare⟩;cases q:H b with
    | none=>exact un.keep b o e q (by intro z;exact absurd (show b∈([]:List Addr) from z) (by simp)) (by simp)
    | some u =>
     rcases hO b with z|⟨ob,xs,z⟩
     ·rw[q] at z;cases z
     ·have z2:=un.frzs b ob _ z
      obtain⟨e1,_⟩:=hok b _ z;obtain⟨e2,_⟩:=U b _ z2;rw[e] at e1;cases e1;exact e2
 cases hk:K.lookup a with
 | some o =>
  have e:=KX a o hk;rw[ha] at e;cases e;refine O (λ_=>none) (λ_=>.inl rfl) (.inr ⟨_,vs.toArray,_,hk,rfl,rfl,rfl,by rw[List.size_toArray,Y];exact hl,by simpa using rv⟩) (λb u z=>by have z':(none:Option HO)=some u:=z;cases z') (λb z=>absurd rfl z) λz=>absurd rfl z
 | none =>
  refine O (λb=>if b=a then some (.frz { cls:=.type "list",data:=.seq vs.toArray } (.lst (ns.map V.int))) else none) (λb=>?_) (.inl (.inr ⟨{ cls:=.type "list",data:=.seq vs.toArray },if_pos rfl⟩)) (λb u z=>?_) (λb z=>?_) λ_=>hk
  ·by_cases hb:b=a
   ·exact .inr ⟨_,_,if_pos hb⟩
   ·exact .inl (if_neg hb)
  ·by_cases hb:b=a
   ·have z':=(if_pos hb).symm.trans z
    cases z';subst hb;exact⟨ha,by rw[List.length_map];exact hl,vs,_,rv,ha⟩
   ·have z':=(if_neg hb).symm.trans z
    cases z'
  ·by_cases hb:b=a
   ·exact hb
   ·exact absurd (if_neg hb) z
theorem fm0{l:W.OpenLaw}{n k:Nat}{q:Program}{loose:List Str}{XP:(Str->Option Value)->Heap->Prop}{YP:World->Heap->Prop}{d:DefRec}{K:Params->W.Frag}{CX:World->CXT}{sp:World->Sp}{x:Str}
  (hn:l.most=some n) (hn2:n<=sizeLine) (hdf:d.params.defaults=[]) (hr:Room k callerA)
  (hY:∀(w:World) (h:Heap),YP w h->(K w.params).In h)
  (F:∀(w:World) (mg:Str->Option Value) (fa:Addr) (h:Heap),(K w.params).In h->h.Ns mainGlobals mg->mg d.name=some (.ref fa) ->
   ∃fd:FuncData,(∀(s:Shared) (u:Value),BindsTo s fd ⟨[u],[]⟩ [(x,u)]) /\
    ∀base:Heap,(K w.params).In base->base.Ns mainGlobals mg->FnOk l.prog w (K w.params) mg base (CX w) k fa fd [x] (sp w))
  (hsp:∀(w:World) (H:Hp) (a:Addr) (ns:List Int),ns.length<=n->Only H->SqL (K w.params) H a (ns.map V.int)->sp w [.ref a] H (λv _=>v=.bl true) λ_ _ _=>False)
  (hCX:∀(w:World) (H:Hp) (s:Shared) (e:Value) (s':Shared),CX w [] H s (λ_ _ _=>False) e s'->False) :
  W.WalkO q loose XP YP l.row.toRowW d [] (λf vs=>PySem.call f vs):=by
 refine Att.ob0 hn hdf λw s₀ s₁ mg mb fa o pm cd Z a vs ns G Y ho hd U S O M J hg=>?_
 have KX:=hY w _ Y;obtain⟨fd,hb,hF⟩:=F w mg fa _ KX G.T.g S;exact j20 KX G.T.g G.T.b G.T.builtins G.T.nolimit hg O M (B7 J hn2) hr hF hb (λH hO hS=>hsp w H a ns J hO hS) λH e s'=>hCX w H s₁ e s'
theorem jj0{l:W.OpenLaw}{n k:Nat}{q:Program}{loose:List Str}{XP:(Str->Option Value)->Heap->Prop}{YP:World->Heap->Prop}{d:DefRec}{K:Params->W.Frag}{CX:CXT}{sp:W.Frag->Sp}{x:Str}
  (hn:l.most=some n) (hn2:n<=sizeLine) (hdf:d.params.defaults=[]) (hr:Room k callerA)
  (hY:∀(w:World) (h:Heap),YP w h->(K w.params).In h)
  (F:∀(w:World) (mg:Str->Option Value) (fa:Addr) (h:Heap),(K w.params).In h->h.Ns mainGlobals mg->mg d.name=some (.ref fa) ->
   ∃fd:FuncData,(∀(s:Shared) (u:Value),BindsTo s fd ⟨[u],[]⟩ [(x,u)]) /\
    ∀base:Heap,(K w.params).In base->base.Ns mainGlobals mg->FnOk l.prog w (K w.params) mg base CX k fa fd [x] (sp (K w.params)))
  (hsp:∀(K:W.Frag) (H:Hp) (a:Addr) (ns:List Int),ns.length<=n->Only H->SqL K H a (ns.map V.int)->sp K [.ref a] H (λv _=>v=.bl true) λ_ _ _=>False)
  (hCX:∀(H:Hp) (s:Shared) (e:Value) (s':Shared),CX [] H s (λ_ _ _=>False) e s'->False) :
  W.WalkO q loose XP YP l.row.toRowW d [] (λf vs=>PySem.call f vs) :=
 fm0 (K:=K) (CX:=λ_=>CX) (sp:=λw=>sp (K w.params)) hn hn2 hdf hr hY F (λw H a ns h1 h2 h3=>hsp (K w.params) H a ns h1 h2 h3) λ_ H s e s'=>hCX H s e s'
def b7(s:Stmt):Arguments:=match s with
 | .FunctionDef _ a _ _ _ _ _ _ _ _=>a
 | _=>{ posonlyargs:=[],args:=[],vararg:=none,kwonlyargs:=[],kw_defaults:=[],kwarg:=none,defaults:=[] }
def j9(s:Stmt):List Stmt:=match s with
 | .FunctionDef _ _ b _ _ _ _ _ _ _=>b
 | _=>[]
def p8(s:Stmt):Scope:=match s with
 | .FunctionDef _ _ _ _ _ _ sc _ _ _=>sc
 | _=>{ kind:=.function,names:=[],isGenerator:=false,isCoroutine:=false }
abbrev CX0:CXT:=λ_ _ _ _ _ _=>False
abbrev E0:XK:=λ_ _ _=>False
theorem m70:qn0 CX0 X E0:=λ_ _ _ _ _ _ _ h=>h.elim
structure Fun(K:W.Frag)(x qual:Str)(st:Stmt)(f:Addr)(fd:FuncData):Prop where
 ex:∃(oc:Value) (od:Option Addr) (kV doc pm:Value) (an:Option Addr) (cdv ct:Value) (osl:Array (Option Value)),
  fd=W.fnOf x qual (b7 st) (j9 st) (p8 st) .none kV doc pm an cdv ct/\K.lookup f=some ⟨oc,od,.func fd,osl⟩/\W.codeIn K cdv qual=true
 kp:W.keepIn K (.ref f)=true
section
variable{P:Program}{w:World}
theorem Fun.ok{f:Addr}{ps:List Str}{k:Nat}(F:Fun K x qual st f fd)(S:FnScope N ps (p8 st))(len:∀vs H Q E,sp vs H Q E->vs.length=ps.length)
  (hbody:∀(cdv:Value) (A:Around) (outer:List Env) (s:Shared) (H:Hp) (vs:List V) (Q:VK) (E:XK),Room k (A.deeper (envOfC qual (p8 st) s.heap.objs.size f cdv))->sp vs H Q E ->
   ∃t,PSs (wg0 CX0 P w K mg base N qual (p8 st) f cdv A outer s H E).nox (j9 st) t/\t { nx:=λ_ H'=>Q .non H',rt:=Q } (start N vs) H):FnOk P w K mg base CX0 (k+1) f fd ps sp:=by
 obtain⟨oc,od,kV,O,pm,an,cdv,ct,U,rfl,lk,J⟩:=F.ex;refine cv0 lk J S len λA outer s H vs Q E hr M=>?_
 obtain⟨t,h,q⟩:=hbody cdv A outer s H vs Q E hr M;exact⟨t,h.nox,q⟩
theorem Fun.binds{f:Addr}{ps:List Str}(F:Fun K x qual st f fd)
  (h:∀(kV doc pm:Value) (an:Option Addr) (cdv ct:Value) (us:List Value),us.length=ps.length->bindArgs (W.fnOf x qual (b7 st) (j9 st) (p8 st) .none kV doc pm an cdv ct) ⟨us,[]⟩=pure (ps.zip us)):Binds K fd ps []:=by
 obtain⟨oc,od,kV,doc,pm,an,cdv,ct,M,rfl,lk,J⟩:=F.ex;exact .all (h kV doc pm an cdv ct)
theorem Y9{f:Addr}{oc:Value}{an:Option Addr}{osl:Array (Option Value)}{kV doc pm cdv ct:Value}(l:K.lookup f=some ⟨oc,od,.func (W.fnOf x qual (b7 st) (j9 st) (p8 st) .none kV doc pm an cdv ct),osl⟩)
  (c:W.codeIn K cdv qual=true) (k:W.keepIn K (.ref f)=true):Fun K x qual st f (W.fnOf x qual (b7 st) (j9 st) (p8 st) .none kV doc pm an cdv ct):=⟨⟨oc,od,kV,doc,pm,an,cdv,ct,osl,rfl,l,c⟩,k⟩
end
theorem t60{k:Nat}(hr:Room k A):A.units+1<cLine:=w4 (Au0 (by decide:1<=64) _) hr.units
def Same(H H':Hp):Prop:=∀b o,H b=some o->H' b=some o
theorem Same.refl(H:Hp):Same H H:=λ_ _ h=>h
theorem Same.trans{H1:Hp}(a:Same H H1)(b:Same H1 H2):Same H H2:=λc o h=>b c o (a c o h)
theorem Same.free(e:Same H H'){l:Addr}(h:H' l=Option.none):H l=Option.none:=by
 cases q:H l with
 | none=>rfl
 | some o =>
  rw[e l o q] at h;cases h
def W7(X:Cx)(scope:Scope)(cl:List (Str×Addr))(N':List Str)(s:Shared)(H:Hp)(ex:List Addr):Cx :=
 { X with N:=N',s₀:=s,H₀:=H,env:=compEnvC scope cl s.heap.objs.size X.env,outer:=X.stack,ex:=ex,fn:=λ_=>false,pn:=[],xe:=λ_ _=>False }
structure CompOk(sc scope:Scope)(N N':List Str)(n:Nat)(caps:List Nat):Prop where
 kind:scope.kind=.function
 nocell:∀y∈scope.names,y.2≠.cell
 loc:∀y∈scope.names,y.2=.local->scope.names.lookup y.1=some .local
 free:∀y∈scope.names,y.2=.free->sc.names.lookup y.1=some .cell∨sc.names.lookup y.1=some .free
 nd:N'.Nodup
 len:N'.length=n+caps.length
 cap:∀k∈List.range caps.length,N'[n+k]?=(caps[k]?).bind (N[·]?)/\(N'[n+k]?).all (λy=>scope.names.lookup y==some .free)=true
def R4(n:Nat)(caps:List Nat)(σ:St):St:=List.replicate n none++caps.map λj=>(σ[j]?).join
theorem mz0(n:Nat)(caps:List Nat)(σ:St):(R4 n caps σ).length=n+caps.length:=by simp[R4]
theorem yv0{env:Env}:∀(names:List (Str×NameKind)),(∀x∈names,x.2=.free->∃c,env.cells.lookup x.1=some c)->∀acc:List (Str×Addr),
  ∃cl:List (Str×Addr),(forIn names acc (λ(x:Str×NameKind) (cs:List (Str×Addr))=>if (x.2==.free)=true then do let a ← cellOf env x.1;pure (ForInStep.yield ((x.1,a)::cs)) else pure (ForInStep.yield cs)):Sem (List (Str×Addr)))=pure cl /\
   (∀y c,cl.lookup y=some c->env.cells.lookup y=some c∨acc.lookup y=some c)/\(∀x∈names,x.2=.free->∃c,cl.lookup x.1=some c)/\(∀y c,acc.lookup y=some c->∃c',cl.lookup y=some c')
 | [],_,acc=>⟨acc,rfl,λ_ _ h=>.inr h,(λ_ h=>nomatch h),λ_ c h=>⟨c,h⟩⟩
 | (n,k)::r,h,acc=>by
  cases hk:(k==NameKind.free) with
  | true =>
   have hk':k=.free:=by simpa using hk
   obtain⟨c,hc⟩:=h (n,k) A5 hk';obtain⟨cl,e,h1,h2,h3⟩:=yv0 r (λx hx=>h x (B0 _ hx)) ((n,c)::acc);refine⟨cl,?_,λy d hy=>?_,λx hx hf=>?_,λy d hy=>?_⟩
   ·rw[List.forIn_cons]
    simp only[hk,if_true,cellOf,hc,pure_bind];exact e
   ·rcases h1 y d hy with z|z
    ·exact .inl z
    ·rw[List.lookup_cons] at z
     cases q:(y==n) with
     | true =>
      rw[q] at z;cases z;have:y=n:=by simpa using q
      subst this;exact .inl hc
     | false =>
      rw[q] at z;exact .inr z
   ·rcases B4.mp hx with rfl|hx
    ·exact h3 n c (by simp[List.lookup_cons])
    ·exact h2 x hx hf
   ·by_cases q:y=n
    ·subst q
     exact h3 y c (by simp[List.lookup_cons])
    ·refine h3 y d ?_
     have:(y==n)=false:=by simpa using q
     rw[List.lookup_cons,this];exact hy
  | false =>
   obtain⟨cl,e,h1,h2,h3⟩:=yv0 r (λx hx=>h x (B0 _ hx)) acc;refine⟨cl,?_,h1,λx hx hf=>?_,h3⟩
   ·rw[List.forIn_cons]
    simp only[hk,Bool.false_eq_true,if_false,pure_bind];exact e
   ·rcases B4.mp hx with rfl|hx
    ·have:k=.free:=hf
     rw[this] at hk;exact absurd hk (by decide)
    ·exact h2 x hx hf
theorem t40{env:Env}(h:∀x∈scope.names,x.2=.free->∃c,env.cells.lookup x.1=some c) :
  ∃cl:List (Str×Addr),closureFor scope env=pure cl/\(∀y c,cl.lookup y=some c->env.cells.lookup y=some c)/\∀x∈scope.names,x.2=.free->∃c,cl.lookup x.1=some c:=by
 obtain⟨cl,e,h1,h2,_⟩:=yv0 scope.names h [];refine⟨cl,?_,λy c hy=>(h1 y c hy).elim id (λz=>nomatch z),h2⟩;simp only[closureFor];rw[← bind_pure (forIn _ _ _)] at e
 first
  | exact e
  | (refine Eq.trans ?_ e;rfl)
theorem zu0{env:Env}:∀(names:List (Str×NameKind)) (x:Str),
  (names.map λ(n,k)=>if (k==NameKind.free&&env.scope.kind==.function&&env.kindOf n==some .cell) then (n,NameKind.cell) else (n,k)).lookup x =
   (names.lookup x).map λk=>if (k==NameKind.free&&env.scope.kind==.function&&env.kindOf x==some .cell)=true then NameKind.cell else k
 | [],_=>rfl
 | (n,k)::r,x=>by
  have ih:=@zu0 env r x;have l1:List.lookup x (((n,k)::r).map λ(n,k)=>if (k==NameKind.free&&env.scope.kind==.function&&env.kindOf n==some .cell) then (n,NameKind.cell) else (n,k)) =
    List.lookup x ((if (k==NameKind.free&&env.scope.kind==.function&&env.kindOf n==some .cell)=true then (n,NameKind.cell) else (n,k))::r.map λ(n,k)=>if (k==NameKind.free&&env.scope.kind==.function&&env.kindOf n==some .cell) then (n,NameKind.cell) else (n,k)):=rfl
  rw[l1,List.lookup_cons (as:=r)]
  by_cases hc:(k==NameKind.free&&env.scope.kind==.function&&env.kindOf n==some .cell)=true
  ·rw[if_pos hc,List.lookup_cons]
   cases hx:x==n with
   | true =>
    have e:x=n:=by simpa using hx
    subst e;show some NameKind.cell=some (if (k==NameKind.free&&env.scope.kind==.function&&env.kindOf x==some .cell)=true then NameKind.cell else k);rw[if_pos hc]
   | false=>exact ih
  ·rw[if_neg hc,List.lookup_cons]
   cases hx:x==n with
   | true =>
    have e:x=n:=by simpa using hx
    subst e;show some k=some (if (k==NameKind.free&&env.scope.kind==.function&&env.kindOf x==some .cell)=true then NameKind.cell else k);rw[if_neg hc]
   | false=>exact ih
section
variable{w:World}{s:Shared}
theorem rf0{elt target iter:Expr}{ifs:List Expr}{scope:Scope}{pos:Pos}{it acc:Value}{env:Env}(I:Nat->Shared->Prop)
  (turn:∀n s,I n s->wpAny (model prog w) A (pyNext it) (λr s₁=>match r with
   | none=>R (.ok .next) s₁
   | some v=>wpAny (model prog w) A (letOwnedTupleGo target it v) (λ_ s₁'=>wpAny (model prog w) A (assign target env v) (λ_ s₂ =>
     wpAny (model prog w) A (forIn ifs true λc r=>if r=true then do let ok ← isTrue c env (eval c env);pure (ForInStep.yield ok) else pure (ForInStep.yield r)) (λok s₃ =>
      if ok=true then wpAny (model prog w) A (eval elt env) (λx s₄ =>
       wpAny (model prog w) A (call (.builtin "list.append") [acc,x]) (λ_ s₅=>∃m,m<n/\I m s₅) (λ_ _=>False) s₄) (λ_ _=>False) s₃
      else ∃m,m<n/\I m s₃) (λ_ _=>False) s₂) (λ_ _=>False) s₁') (λ_ _=>False) s₁) (λ_ _=>False) s)
  (n:Nat) (h:I n s) :
  codeAny (model prog w) A (.compLoop (.ListComp elt [⟨target,iter,ifs,0⟩] scope pos) 0 it acc env) R s:=by
 refine codeAny_loop rfl I (λn s hI=>?_) n h;show wpAny _ A ((compTurn (.ListComp elt [⟨target,iter,ifs,0⟩] scope pos) 0 it acc env).onRaise (λx=>do noteFrame x env;theTreesLotGoes x)) _ _ s;refine wpAny_noted ?_;rw[compTurn_list];refine A0 (m3 (A0 (E2 (turn n s hI) (λr s₁ h₁=>?_) λ_ _ h'=>h'.elim)));cases r with
 | none=>exact A1 h₁
 | some v =>
  refine A0 (E2 h₁ (λ_ s₁' F=>?_) λ_ _ h'=>h'.elim);refine A0 (E2 F (λ_ s₂ h₂=>A0 (E2 h₂ (λok s₃ h₃=>?_) λ_ _ h'=>h'.elim)) λ_ _ h'=>h'.elim);cases ok with
  | false=>exact A1 ⟨rfl,h₃⟩
  | true =>
   exact A0 (A0 (E2 h₃ (λx s₄ h₄=>A0 (E2 h₄ (λ_ s₅ h₅=>A1 (A1 ⟨rfl,h₅⟩)) λ_ _ h'=>h'.elim)) λ_ _ h'=>h'.elim))
end
def PF(X:Cx)(ifs:List Expr)(t:TT):Prop :=
 ∀(pins:List (Addr×Obj)) (s:Shared) (σ:St) (H:Hp) (Q:Bool->Hp->Prop),Inv X pins σ H s->t σ H Q ->
  wpAny (model X.prog X.w) X.A (forIn ifs true λc r=>if r=true then do let ok ← isTrue c X.env (eval c X.env);pure (ForInStep.yield ok) else pure (ForInStep.yield r)) (TP X pins σ Q) X.xe s
theorem e30:PF X [] λ_ H Q=>Q true H:=λ_ _ _ H _ I h=>wpAny_tests_nil ⟨H,I,h⟩
theorem dv0{t:TT}(h:PT X c t):PF X [c] t:=λpins s σ H Q I q=>wpAny_tests_one (h pins s σ H Q I q)
def Wk(σ σ':St):Prop:=σ'.length=σ.length/\∀(j:Nat) (v:V),σ[j]?=some (some v)->σ'[j]?=some (some v)
def ii0(n:Nat)(caps:List Nat)(wi:TI)(g:TG)(tt:TT)(te:TE):TE:=fun σ H Q=>wi σ H λJ H1=>∀D,H1 D=none ->
 ∃W:Nat->Nat->List V->Hp->Prop,(∃m,W 0 m [] (upd H1 D (.lst [])))/\∀i m ys H2,W i m ys H2 ->
  (J.stop i H2/\Q (.ref D) H2)∨(J.go i H2/\∀x H3,J.yld i H2 x H3->g x (R4 n caps σ) H3 fun σ4 H4=>Wk (R4 n caps σ) σ4/\tt σ4 H4 λb H5 =>
   if b=true then te σ4 H5 λy H6=>H6 D=some (.lst ys)/\ys.length<sizeLine/\∃m',m'<m/\W (i+1) m' (ys++[y]) (upd H6 D (.lst (ys++[y]))) else ∃m',m'<m/\W (i+1) m' ys H5)
section
variable{wi:TI}{g:TG}{tt:TT}
def b20(X:Cx)(pins:List (Addr×Obj))(H:Hp)(C:Addr):Prop :=
 H C=none/\C≠X.env.locals/\X.s₀.heap.objs.size<=C/\(∀x c,X.env.cells.lookup x=some c->c≠C)/\∀p∈X.pn++pins,p.1≠C
theorem l60{pins:List (Addr×Obj)}{σ:St}{H2:Hp}{s2:Shared}{it:Addr}{fp:List Addr}{tn:Nat->Heap->Prop}{J:It}{cl:List (Str×Addr)}{Q:VK}{RR:Value->Addr->Result->Shared->Prop}{E:Value->Shared->Prop}
  (hc:X.calm=true) (hsc:X.env.scope=sc) (ok:CompOk sc scope X.N N' n caps)
  (hcl1:∀y c,cl.lookup y=some c->X.env.cells.lookup y=some c) (hcl2:∀x∈scope.names,x.2=.free->∃c,cl.lookup x.1=some c)
  (hg:∀s H ex,PG (W7 X scope cl N' s H ex) tg g) (ht:∀s H ex,PF (W7 X scope cl N' s H ex) ifs tt) (he:∀s H ex,PE (W7 X scope cl N' s H ex) elt te)
  (I2:Inv X pins σ H2 s2) (T:Turn X.prog X.w X.K tg J fp it tn) (st2:tn 0 s2.heap) (f2:∀b∈fp,yu0 X pins H2 b)
  (q:∀D,H2 D=none->∃W:Nat->Nat->List V->Hp->Prop,(∃m,W 0 m [] (upd H2 D (.lst [])))/\∀i m ys H2,W i m ys H2 ->
   (J.stop i H2/\Q (.ref D) H2)∨(J.go i H2/\∀x H3,J.yld i H2 x H3->g x (R4 n caps σ) H3 fun σ4 H4=>Wk (R4 n caps σ) σ4/\tt σ4 H4 λb H5 =>
    if b=true then te σ4 H5 λy H6=>H6 D=some (.lst ys)/\ys.length<sizeLine/\∃m',m'<m/\W (i+1) m' (ys++[y]) (upd H6 D (.lst (ys++[y]))) else ∃m',m'<m/\W (i+1) m' ys H5))
  (hend:∀(D C:Addr) (H':Hp) (s':Shared) (m:Str->Option Value),Inv X pins σ H' s'->b20 X pins H' C->s'.heap.Ns C m->Q (.ref D) H'->RR (.ref D) C (.ok .next) s') :
  wpAny (model X.prog X.w) X.A (newList []) (λacc s₃=>wpAny (model X.prog X.w) X.A (newFunctionEnv scope X.env.globals cl [] X.env.qual none .none (some X.env)) (λcenv s₄ =>
   codeAny (model X.prog X.w) X.A (.compStart (.ListComp elt [⟨tg,iter,ifs,0⟩] scope pos) 0 (.ref it) acc { cenv with scope:=relabel scope X.env }) (RR acc cenv.locals) s₄) E s₃) E s2:=by
 refine E4 (wpAny_newFunctionEnv ok.nocell (by intro y hy;simp at hy) (λh₁ S U=>?_) ok.kind);dsimp only at S U ⊢;obtain⟨D,hD⟩:∃D,D=s2.heap.objs.size:=⟨_,rfl⟩;have I3:Inv X pins σ (upd H2 s2.heap.objs.size (.lst [])) { s2 with heap:=s2.heap.push { cls:=.type "list",data:=.seq ([]:List Value).toArray } }:=I2.lnew (its:=[]) (t':=s2.toks) .nil (K2 _);have b4:H2 s2.heap.objs.size=none:=I2.fresh;obtain⟨W,⟨m0,w0⟩,a4⟩:=q s2.heap.objs.size b4;generalize hs3:({ s2 with heap:=s2.heap.push { cls:=.type "list",data:=.seq ([]:List Value).toArray } }:Shared)=s3 at *;have b1:s2.heap.push { cls:=.type "list",data:=.seq ([]:List Value).toArray }=s3.heap:=by rw[← hs3]
 have g4:s2.toks=s3.toks:=by rw[← hs3]
 rw[b1] at S U ⊢;generalize hH3:upd H2 s2.heap.objs.size (HO.lst [])=H3 at *;rw[← hD] at a4 hH3 b4 ⊢;have O:∀b o,s3.heap.get? b=some o->h₁.get? b=some o:=λb o e=>U.extBut b o (B6 (A6 e)) (A7 _ e)
 have a8:∀b o,s2.heap.get? b=some o->s3.heap.get? b=some o:=λb o e=>by rw[← b1];exact A7 _ e
 have b5:∀b∈fp,b<s3.heap.objs.size:=λb hb=>by
  obtain⟨o,e,_⟩:=T.obj _ _ st2 b hb;exact A6 (a8 b o e)
 have e6:∀b∈fp,b≠D:=λb hb z=>by
  obtain⟨o,e,_⟩:=T.obj _ _ st2 b hb;rw[z,hD] at e;exact absurd (A6 e) (E1 _)
 obtain⟨X',F⟩:∃X',X'=W7 X scope cl N' s3 H3 fp:=⟨_,rfl⟩;have g3:X'.Ok:=by
  subst F;refine⟨I3.ok.mod,ok.kind,I3.ok.glob,I3.ok.blt,A4 _,λx y c h1 h2=>I3.ok.inj x y c (hcl1 x c h1) (hcl1 y c h2),λx hx=>?_,λx c h _=>absurd h (by simp[W7]),I3.ok.hd,I3.ok.frames,.inl rfl,
   λb hb=>⟨B6 (b5 b hb),λx c e=>(f2 b hb).2.2.2.2.1 x c (hcl1 x c e)⟩,λb o e=>I3.bs b o e,B7 I3.ok.bsz I3.sz,λb o e hb=>?_,λb hb hf=>?_,I3.stack,I3.stkFree⟩
  ·have Z:((relabel scope X.env).names.lookup x=some .cell)∨((relabel scope X.env).names.lookup x=some .free):=hx
   have q2:=zu0 (env:=X.env) scope.names x;have q3:(relabel scope X.env).names.lookup x=(scope.names.lookup x).map λk=>if (k==NameKind.free&&X.env.scope.kind==.function&&X.env.kindOf x==some .cell)=true then NameKind.cell else k:=q2
   cases e:scope.names.lookup x with
   | none =>
    rw[q3,e] at Z;rcases Z with z|z<;>cases z
   | some k =>
    have hk:k=.free:=by
     rw[q3,e] at Z;have nc:=ok.nocell (x,k) (E3 e);cases k<;>first
      | rfl
      | exact absurd rfl nc
      | (rcases Z with z|z<;>simp at z)
    subst hk;exact hcl2 (x,.free) (E3 e) rfl
  ·rcases (f2 b hb).2.2.2.1 with z|z
   ·exact I3.ok.noex b o e z
   ·exact absurd (C1 (A6 (I3.ok.bs b o e).1) z) (E1 _)
  ·rcases B4.mp (I3.stkSub b hf) with z|z
   ·exact(f2 b hb).2.1 z
   ·exact(f2 b hb).2.2.1 z
 have I4:Inv X' [] (R4 n caps σ) H3 { s3 with heap:=h₁,toks:=s2.toks+([]:List (Str×Value)).length }:=by
  refine⟨g3,?_,?_,?_,?_,λx c e=>?_,?_,λx c e=>?_,λp hp=>?_,(by subst F;exact I3.hok.kept O),?_⟩
  ·subst F;rfl
  ·exact I3.bare
  ·subst F;exact Un.kept O
  ·subst F
   refine⟨_,S,λi x v e1 e2 e3=>?_⟩;have hi:n<=i:=by
    by_cases hi:i<n
    ·unfold R4 at e2
     rw[List.getElem?_append_left (by simpa using hi),List.getElem?_replicate,if_pos hi] at e2;cases e2
    ·omega
   obtain⟨k,rfl⟩:∃k,i=n+k:=⟨i - n,by omega⟩;have hk:k<caps.length:=by
    have:=(H0.mp e1).1;have e5:(W7 X scope cl N' s3 H3 fp).N.length=n+caps.length:=ok.len;omega
   obtain⟨c1,c2⟩:=ok.cap k (D3.mpr hk);have c6:N'[n+k]?=some x:=e1;unfold R4 at e2;rw[List.getElem?_append_right (by simp),List.length_replicate,Nat.add_sub_cancel_left,List.getElem?_map] at e2;obtain⟨j,hj⟩:∃j,caps[k]?=some j:=⟨caps[k],by simp[hk]⟩;rw[hj] at e2 c1;have f0:X.N[j]?=some x:=by rw[← c6,c1];rfl
   have a2:(σ[j]?).join=some v:=B1 e2;have d1:σ[j]?=some (some v):=by
    cases q:σ[j]? with
    | none=>rw[q] at a2;cases a2
    | some o=>rw[q] at a2;rw[show o=some v from a2]
   rw[c6] at c2;have M:scope.names.lookup x=some .free:=by simpa using c2
   have a6:=ok.free (x,.free) (E3 M) rfl;obtain⟨m,hn,hl⟩:=I3.loc;obtain⟨u,ru,l⟩:=hl j x v f0 d1 (by
    rcases a6 with z|z
    ·exact .inr (.inl (by rw[hsc];exact z))
    ·exact .inr (.inr (by rw[hsc];exact z)))
   refine⟨u,ru,.inr ⟨?_,?_⟩⟩
   ·have q3:(relabel scope X.env).names.lookup x=(scope.names.lookup x).map λk=>if (k==NameKind.free&&X.env.scope.kind==.function&&X.env.kindOf x==some .cell)=true then NameKind.cell else k:=zu0 scope.names x
    rw[M] at q3;show (relabel scope X.env).names.lookup x=_∨(relabel scope X.env).names.lookup x=_;rw[q3]
    by_cases hcc:(NameKind.free==NameKind.free&&X.env.scope.kind==.function&&X.env.kindOf x==some .cell)=true
    ·left;simp only[Option.map_some,if_pos hcc]
    ·right;simp only[Option.map_some,if_neg hcc]
   ·obtain⟨c',b6⟩:=hcl2 (x,.free) (E3 M) rfl
    rcases l with⟨f9,_⟩|⟨_,c,f7,b2⟩
    ·have a7:X.env.scope.names.lookup x=some .local:=f9
     rw[hsc] at a7;rcases a6 with z|z<;>(rw[a7] at z;cases z)
    ·have:=hcl1 x c' b6
     rw[f7] at this;cases this;obtain⟨o,ho,hd⟩:=b2;exact⟨_,b6,o,O _ o ho,hd⟩
  ·have e':cl.lookup x=some c:=by subst F;exact e
   obtain⟨v,o,ho,hd⟩:=I3.cell x c (hcl1 x c e');exact⟨v,o,O _ o ho,hd⟩
  ·subst F;exact I3.hok.fresh (A4 _)
  ·have e':cl.lookup x=some c:=by subst F;exact e
   exact I3.freeC x c (hcl1 x c e')
  ·subst F;exact absurd hp (by simp[W7])
  ·subst F
   show _=N'.length;rw[mz0,ok.len]
 have a9:X'.calm=true:=by subst F;exact hc
 have Y:∀{H':Hp},(∀b∈fp,H' b=none)->∀b∈fp,yu0 X' [] H' b:=λ{H'} hn b hb=>by
  subst F;refine⟨hn b hb,B6 (b5 b hb),λhf=>?_,.inl hb,λx c e=>(f2 b hb).2.2.2.2.1 x c (hcl1 x c e),λp hp=>absurd hp (by simp[W7])⟩;rcases B4.mp (I3.stkSub b hf) with z|z
  ·exact(f2 b hb).2.1 z
  ·exact(f2 b hb).2.2.1 z
 have g2:∀b∈fp,H3 b=none:=λb hb=>by rw[← hH3,Z0 (e6 b hb)];exact(f2 b hb).1
 have c3:tn 0 h₁:=T.keep _ _ _ st2 λb hb o e=>O b o (a8 b o e)
 have loop:∀s4:Shared,s4={ s3 with heap:=h₁,toks:=s2.toks+([]:List (Str×Value)).length } ->
   codeAny (model X.prog X.w) X.A (.compLoop (.ListComp elt [⟨tg,iter,ifs,0⟩] scope pos) 0 (.ref it) (.ref D) X'.env) (RR (.ref D) s3.heap.objs.size) s4:=by
  rintro s4 rfl;refine rf0 (λk s'=>∃i ys H',Inv X' [] (R4 n caps σ) H' s'/\tn i s'.heap/\(∀b∈fp,H' b=none)/\W i k ys H') ?_ m0 ⟨0,[],H3,I4,c3,g2,w0⟩;rintro k s5 ⟨i,ys,H5,I5,c4,c5,w5⟩;have eP:X'.prog=X.prog:=by subst F;rfl
  have ew:X'.w=X.w:=by subst F;rfl
  have eK:X'.K=X.K:=by subst F;rfl
  have eA:X'.A=X.A:=by subst F;rfl
  rcases a4 i k ys H5 w5 with⟨stop,qe⟩|⟨go,step⟩
  ·have T':=T.done X' eP ew eK a9 i [] s5 (R4 n caps σ) H5 (λ_ _=>False) I5 (Y c5) c4 stop
   rw[eA] at T';refine thn T' λr s6 ⟨hr,I6⟩=>?_
   subst hr;have f3:Un (frs X.stack) fp H3 H5 s3.heap s6.heap:=by have:=I6.base;subst F;exact this
   have f6:s6.os=s3.os:=by have:=I6.os;subst F;exact this
   have c9:HOk X.prog X.w H5 s6.heap:=by have:=I6.hok;subst F;exact this
   have IX:Inv X pins σ H5 s6:=I3.call' f6 f3 c9 I6.bare λb hb=>⟨(f2 b hb).2.2.2.1,(f2 b hb).2.1,(f2 b hb).2.2.2.2.1,(f2 b hb).2.2.2.2.2⟩
   obtain⟨m6,f4,_⟩:=I6.loc;have c7:s6.heap.Ns s3.heap.objs.size m6:=by subst F;exact f4
   refine hend D s3.heap.objs.size H5 s6 m6 IX ⟨by have:=I6.free;subst F;exact this,N3 I3.lt,I3.sz,λx c e z=>?_,λp hp z=>?_⟩ c7 qe
   ·obtain⟨v,qc⟩:=I3.cell x c e
    exact absurd (C1 qc.lt (P6 z.symm)) (E1 _)
   ·exact absurd (C1 (A6 (I3.pin p hp).1) (P6 z.symm)) (E1 _)
  ·have T':=T.item X' eP ew eK a9 i [] s5 (R4 n caps σ) H5 (λ_ _=>False) I5 (Y c5) c4 go
   rw[eA] at T';refine thn T' λr s6 ⟨u,hr,h6⟩=>?_
   subst hr;refine thn h6 λ_ s7 ⟨x,H7,I7,r7,y7,a5,f8⟩=>?_
   have f5:=I7.pinned (Y f8) (T.obj _ _ a5);have c0:=hg s3 H3 fp;have b9:=ht s3 H3 fp;have b3:=he s3 H3 fp;rw[← F] at c0 b9 b3;have g1:=c0 _ s7 (R4 n caps σ) H7 x u _ f5 r7 (step x H7 y7);rw[eP,ew,eA] at g1;have a3:X'.xe=λ_ _=>False:=by subst F;rfl
   rw[a3] at g1;refine thn g1 λ_ s8 ⟨σ8,H8,I8,a0,q8⟩=>?_
   have t1:=b9 _ s8 σ8 H8 _ I8 q8;rw[eP,ew,eA,a3] at t1;refine thn t1 λb s9 ⟨H9,I9,q9⟩=>?_
   have back:∀{σa:St} {Ha:Hp} {sa:Shared} {b0:List V} {ma:Nat},Inv X' ([]++ww0 fp s7.heap) σa Ha sa->σa.length=(R4 n caps σ).length->(∀(j:Nat) v,(R4 n caps σ)[j]?=some (some v)->σa[j]?=some (some v))->W (i+1) ma b0 Ha ->
     ∃i ys H',Inv X' [] (R4 n caps σ) H' sa/\tn i sa.heap/\(∀b∈fp,H' b=none)/\W i ma ys H':=λ{σa Ha sa b0 ma} Ia hl hw wa=>by
    refine⟨i+1,b0,Ha,(Ia.weak hl.symm hw).unpinned,T.keep _ _ _ a5 λb hb o e=>(Ia.pin (b,o) (C7 _ (C7 _ (yd0 hb e)))).1,λb hb=>?_,wa⟩;obtain⟨o,e,d⟩:=T.obj _ _ a5 b hb;exact(Ia.pin (b,o) (C7 _ (C7 _ (yd0 hb e)))).2.1
   cases b with
   | false =>
    rw[if_neg B9];rw[if_neg B9] at q9;obtain⟨m',hm,w9⟩:=q9;exact⟨m',hm,back I9 a0.1 a0.2 w9⟩
   | true =>
    rw[if_pos rfl];rw[if_pos rfl] at q9;have e1:=b3 _ s9 σ8 H9 _ I9 q9;rw[eP,ew,eA,a3] at e1;refine thn e1 λv e4 ⟨y,e8,e9,e0,c8,d0,m',hm,e7⟩=>?_
    have a1:=sd0 (X:=X') _ e4 σ8 e8 (.ref D) [y] (.ref D) [v] (λ_ H'=>W (i+1) m' (ys++[y]) H') e9 rfl (.cons e0 .nil) ⟨D,ys,y,rfl,rfl,c8,d0,e7⟩;rw[eP,ew,eA,a3] at a1;refine thn a1 λ_ g5 ⟨_,g6,f1,_,d2⟩=>?_
    exact⟨m',hm,back f1 a0.1 a0.2 d2⟩
 subst F;exact codeAny_compStart_list (loop _ (by rw[← hs3])) (T.self X.A 0 _ _ _ c3 (loop _ (by rw[← hs3])))
theorem gi0(hc:X.calm=true)(hsc:X.env.scope=sc)(ok:CompOk sc scope X.N N' n caps)(hi:PI X tg iter wi)
  (hg:∀cl s H ex,PG (W7 X scope cl N' s H ex) tg g) (ht:∀cl s H ex,PF (W7 X scope cl N' s H ex) ifs tt) (he:∀cl s H ex,PE (W7 X scope cl N' s H ex) elt te)
  (hs:∀x,foldedSetIterable iter X.env x=pure x:=by intro _;rfl) :
  PE X (.ListComp elt [⟨tg,iter,ifs,0⟩] scope pos) (ii0 n caps wi g tt te):=by
 intro pins s σ H Q I h;obtain⟨cl,F,O,M⟩:=t40 (env:=X.env) (scope:=scope) λx hx hf=>I.ok.has x.1 (by
  rcases ok.free x hx hf with z|z
  ·exact .inl (by show X.env.scope.names.lookup x.1=_;rw[hsc];exact z)
  ·exact .inr (by show X.env.scope.names.lookup x.1=_;rw[hsc];exact z))
 rw[eval_ListComp];refine wpAny_comprehension_free (use:=none) rfl hs F ok.kind ok.loc (thn (hi pins s σ H _ I h) λv s1 h1=>thn h1 λY s2 h2=>?_);obtain⟨it,fp,tn,J,H2,rfl,I2,T,U,f2,q2⟩:=h2;refine l60 (Q:=Q) (RR:=λS C=>compPost (model X.prog X.w) X.A X.xe none (EP X pins σ Q) S C) hc hsc ok O M (hg cl) (ht cl) (he cl) I2 T U f2 q2 ?_;intro D C H' s' m IX as hn qe;refine⟨m,hn,λh' sb=>⟨.ref D,H',IX.turned (t':=s'.toks) (λb o hb e=>(sb.2 b hb).trans e) as.1 as.2.1 (.inr as.2.2.1) as.2.2.2.1 as.2.2.2.2,rfl,qe⟩⟩
end
end L2
namespace DL
open Spec PyProof.Rows
inductive D where
 | non|bl (b:Bool)|int (i:Int)|str (x:Str)|tup (ds:List D)|lst (ds:List D)|dct (ks:Sum (List (Sum Int Str)) (List (List (Sum Int Str)))) (ds:List D)|fn (ks:List (Sum Int Str)) (ds:List D)
 deriving Inhabited
variable{l ds:List DL.D}
@[simp] def unl:D->D
 | .tup [_,d]=>d
 | d=>d
@[simp] def isL:D->Bool
 | .tup _=>true
 | _=>false
inductive Sl where
 | un|sh (d:D)|ow (d:D)
 | ex (c:Str) (n:Option Int)
abbrev Ds:=List Sl
inductive Res where
 | nx (δ:Ds)|rt (d:D)|bk (δ:Ds)|ct (δ:Ds)|rf (d:D)
variable{g ge gb:DL.Ds->Option DL.D}{δ δ':DL.Ds}{gi gA:DL.Ds->Option (List DL.D)}{gt:DL.Ds->Option Bool}
abbrev GE:=Ds->Option D
abbrev GB:=Ds->Option Bool
variable{g0:DL.GE}
abbrev GA:=Ds->Option (List D)
abbrev GS:=Ds->Option Res
@[simp] def asB:D->Option Bool
 | .bl b=>some b
 | _=>none
variable{G G1 G2:DL.GS}
@[simp] def asI:D->Option Int
 | .int i=>some i
 | _=>none
@[simp] def gv(i:Nat):GE:=fun δ=>match δ[i]? with
 | some (.sh d)=>some d
 | _=>none
@[simp] def gc(d:D):GE:=λ_=>some d
@[simp] def o2(ga gb:GE)(f:D->D->Option D):GE:=fun δ=>(ga δ).bind λx=>(gb δ).bind λy=>f x y
@[simp] def ob(g:GE):GB:=fun δ=>(g δ).bind asB
@[simp] def G3(g:GB):GB:=fun δ=>(g δ).map (!·)
@[simp] def xz0(gt gu:GB):GB:=fun δ=>(gt δ).bind λt=>if t=true then gu δ else some false
@[simp] def zv0(gt gu:GB):GB:=fun δ=>(gt δ).bind λt=>if t=true then some true else gu δ
@[simp] def za0(ga gb:GE):GE:=fun δ=>(ob ga δ).bind λt=>if t=true then gb δ else some (.bl false)
@[simp] def v7:GA:=λ_=>some []
@[simp] def z9(g:GE)(gA:GA):GA:=fun δ=>(g δ).bind λd=>(gA δ).map λds=>d::ds
@[simp] def Y6(gA:GA):GE:=fun δ=>(gA δ).bind λds=>if ds.length<=sizeLine then some (.tup ds) else none
@[simp] def X5(gA:GA):GE:=fun δ=>(gA δ).bind λds=>if ds.length<=sizeLine then some (.lst ds) else none
@[simp] def oA(gA:GA)(f:List D->Option D):GE:=fun δ=>(gA δ).bind f
@[simp] def M9(f:D->Bool)(g:GE):GE:=fun δ=>(g δ).map λd=>.bl (f d)
@[simp] def zw0(d:D):Option D:=match d with
 | .int i=>some (.int (-i))
 | _=>none
@[simp] def unG(f:D->Option D)(g:GE):GE:=fun δ=>(g δ).bind f
@[simp] def v8(G1 G2:GS):GS:=fun δ=>match G1 δ with
 | some (.nx δ')=>G2 δ'
 | r=>r
@[simp] def p7:GS:=fun δ=>some (.nx δ)
@[simp] def j6(g:GE):GS:=fun δ=>(g δ).map .rt
@[simp] def gN(i:Nat):D->Ds->Option Ds:=λd δ=>some (δ.set i (.sh d))
@[simp] def m5(f:D->Ds->Option Ds)(g:GE):GS:=fun δ=>(g δ).bind λd=>(f d δ).map .nx
@[simp] def ifD(gt:GB)(Ga Gb:GS):GS:=fun δ=>(gt δ).bind λt=>if t=true then Ga δ else Gb δ
def X8(f:D->Ds->Option Ds)(G:GS):List D->Ds->Option Res
 | [],δ=>some (.nx δ)
 | d::ds,δ=>match (f d δ).bind G with
  | some (.nx δ')=>X8 f G ds δ'
  | some (.ct δ')=>X8 f G ds δ'
  | some (.bk δ')=>some (.nx δ')
  | r=>r
@[simp] def R7(gi:GA)(f:D->Ds->Option Ds)(G:GS):GS:=fun δ=>(gi δ).bind λitems=>X8 f G items δ
@[simp] def h70:D->Option (List D)
 | .lst ds=>some ds
 | _=>none
@[simp] def iq0:D->Option (List D)
 | .tup ds=>some ds
 | _=>none
@[simp] def z90(g:GE):GA:=fun δ=>(g δ).bind h70
@[simp] def tupI(g:GE):GA:=fun δ=>(g δ).bind iq0
def Y4(lo hi:Int):List D:=(List.range (hi - lo).toNat).map λk=>.int (lo+(k:Nat))
@[simp] def nk0(ds:List D):Option (List D):=match ds with
 | [.int j]=>if -(2 ^ 62)<=j/\j<2 ^ 62 then some (Y4 0 j) else none
 | _=>none
@[simp] def ip0(ds:List D):Option (List D):=match ds with
 | [.int i,.int j]=>if (-(2 ^ 62)<=i/\i<2 ^ 62)/\-(2 ^ 62)<=j/\j<2 ^ 62 then some (Y4 i j) else none
 | _=>none
@[simp] def V8(gA:GA):GA:=fun δ=>(gA δ).bind nk0
@[simp] def nj0(gA:GA):GA:=fun δ=>(gA δ).bind ip0
@[simp] def noT:GB:=λ_=>some true
@[simp] def r00:Option Sl->Sl
 | some (.sh d)=>.sh d
 | _=>.un
@[simp] def zj0(n:Nat)(caps:List Nat)(δ:Ds):Ds:=List.replicate n .un++caps.map λj=>r00 δ[j]?
def V5(f:D->Ds->Option Ds)(gt:GB)(ge:GE)(δ:Ds):List D->Option (List D)
 | []=>some []
 | d::ds=>match f d δ with
  | none=>none
  | some δ'=>match gt δ' with
   | none=>none
   | some false=>V5 f gt ge δ ds
   | some true=>match ge δ' with
    | none=>none
    | some y=>(V5 f gt ge δ ds).map λr=>y::r
@[simp] def V4(n:Nat)(caps:List Nat)(gi:GA)(f:D->Ds->Option Ds)(gt:GB)(ge:GE):GE :=
 fun δ=>(gi δ).bind λitems=>if items.length<=sizeLine then (V5 f gt ge (zj0 n caps δ) items).map .lst else none
@[simp] def W3(N:List Str)(ds:List D):Ds:=ds.map .sh++List.replicate (N.length - ds.length) .un
@[simp] def isBool:D->Bool
 | .bl _=>true|_=>false
@[simp] def isTup:D->Bool
 | .tup _=>true|_=>false
@[simp] def ii(f:Int->Int->Option D):D->D->Option D
 | .int i,.int j=>f i j
 | _,_=>none
@[simp] def jd0:D->D->Option D:=ii λi j=>some (.int (i - j))
@[simp] def d9:D->D->Option D:=ii λi j=>if 0<j/\j<1073741824 then some (.int (i/j)) else none
@[simp] def m8:D->D->Option D:=ii λi j=>if 0<j then some (.int (i%j)) else none
@[simp] def p20:D->D->Option D:=ii λi j=>if 0<=j/\j<=1000000/\i.natAbs<2 ^ 64 then some (.int (i ^ j.toNat)) else none
@[simp] def ltD:D->D->Option D:=ii λi j=>some (.bl (decide (i<j)))
@[simp] def leD:D->D->Option D:=ii λi j=>some (.bl (decide (i<=j)))
@[simp] def gtD:D->D->Option D:=ii λi j=>some (.bl (decide (j<i)))
@[simp] def eqS:D->D->Option Bool
 | .non,.non=>some true
 | .non,.int _=>some false|.int _,.non=>some false|.non,.bl _=>some false|.bl _,.non=>some false|.non,.str _=>some false|.str _,.non=>some false
 | .int i,.int j=>some (decide (i=j))
 | .bl i,.bl j=>some (decide (i=j))
 | .str i,.str j=>some (decide (i=j))
 | .int _,.str _=>some false|.str _,.int _=>some false|.bl _,.str _=>some false|.str _,.bl _=>some false
 | _,_=>none
@[simp] def eqD(x y:D):Option D:=(eqS x y).map .bl
@[simp] def bl0:D->Bool
 | .non=>true|_=>false
@[simp] def wc0(x y:D):Option D:=match y with
 | .non=>some (.bl (bl0 x))
 | _=>none
def ixN(n:Nat)(i:Int):Option Nat:=if 0<=i then (if i<n then some i.toNat else none) else if -(n:Int)<=i then some (i+n).toNat else none
def atI{α:Type}(xs:List α)(i:Int):Option α:=(ixN xs.length i).bind λj=>xs[j]?
@[simp] def ixD:D->D->Option D
 | .lst xs,.int i=>atI xs i
 | .tup xs,.int i=>atI xs i
 | .str z,.int i=>if z.length<=sizeLine then (atI z.cps.toList i).map λc=>.str ⟨#[c]⟩ else none
 | _,_=>none
def sIx(n d:Nat):Option Int->Nat
 | none=>d
 | some v=>if v<0 then (v+(n:Int)).toNat else min v.toNat n
def cutD(xs:List D)(lo hi:Option Int):List D:=(xs.drop (sIx xs.length 0 lo)).take (sIx xs.length xs.length hi - sIx xs.length 0 lo)
abbrev GO:=Ds->Option (Option Int)
@[simp] def U8:GO:=λ_=>some none
@[simp] def someO(g:GE):GO:=fun δ=>(g δ).bind λd=>(asI d).map some
@[simp] def Y5:List D->Option D
 | [.str z]=>if z.length<=sizeLine then some (.int z.length) else none
 | [.lst xs]=>some (.int xs.length)
 | [.tup xs]=>some (.int xs.length)
 | _=>none
def bools:List D->Option (List Bool)
 | []=>some []
 | .bl b::ds=>(bools ds).map λr=>b::r
 | _=>none
@[simp] def kw0:List D->Option D
 | [.lst ds]=>(bools ds).map λbs=>.bl (bs.all id)
 | _=>none
def wy0:List D->Option (List Str)
 | []=>some []
 | .str b::ds=>(wy0 ds).map λr=>b::r
 | _=>none
@[simp] def ra0(d:D)(ds:List D):Option D:=match d,ds with
 | .str sep,[.lst xs]=>(wy0 xs).bind λys=>if (ys.map (·.length)).sum+ys.length*sep.length<=16777216 then some (.str (Txt.join sep ys)) else none
 | _,_=>none
@[simp] def v90(g:GE)(gA:GA):GE:=fun δ=>(g δ).bind λd=>(gA δ).bind λds=>ra0 d ds
@[simp] def P0:List D->Option D
 | [.lst ds]=>some (.tup ds)
 | [.tup ds]=>some (.tup ds)
 | _=>none
theorem wi0{f:D->Ds->Option Ds}{gt:GB}{ge:GE}(p:D->Bool)(h:D->D):∀{items:List D},(∀d∈items,∃δ',f d δ=some δ'/\gt δ'=some (p d)/\(p d=true->ge δ'=some (h d))) ->
  V5 f gt ge δ items=some ((items.filter p).map h)
 | [],_=>rfl
 | d::ds,H=>by
  obtain⟨δ',e1,e2,e3⟩:=H d A5;have ih:=wi0 p h λd hd=>H d (B0 _ hd)
  unfold V5;rw[e1];dsimp only;rw[e2];cases hp:p d with
  | false =>
   dsimp only;rw[List.filter_cons_of_neg (by simp[hp])];exact ih
  | true =>
   dsimp only;rw[e3 hp,ih,List.filter_cons_of_pos hp];rfl
theorem Q3{f:D->Ds->Option Ds}{gt:GB}{ge:GE}(h:D->D){items:List D}(H:∀d∈items,∃δ',f d δ=some δ'/\gt δ'=some true/\ge δ'=some (h d)):V5 f gt ge δ items=some (items.map h):=by
 have:=wi0 (f:=f) (gt:=gt) (ge:=ge) (δ:=δ) (λ_=>true) h (items:=items) λd hd=>by
  obtain⟨δ',a,b,c⟩:=H d hd;exact⟨δ',a,b,λ_=>c⟩
 rw[List.filter_eq_self.mpr (by simp)] at this;exact this
theorem strs_map(h:α->Str):∀l:List α,wy0 (l.map λa=>.str (h a))=some (l.map h)
 | []=>rfl
 | a::l=>by
  show (wy0 (l.map λa=>.str (h a))).map (λr=>h a::r)=_;rw[strs_map h l];rfl
theorem Q8{f:D->Ds->Option Ds}(P:Nat->Ds->Prop):∀(items:List D) (i:Nat) (δ:Ds),(∀j d δ,items[j]?=some d->P (i+j) δ->∃δ1 δ2,f d δ=some δ1/\G δ1=some (.nx δ2)/\P (i+j+1) δ2)->P i δ ->
  ∃δ',X8 f G items δ=some (.nx δ')/\P (i+items.length) δ'
 | [],i,δ,_,h=>⟨δ,rfl,h⟩
 | d::ds,i,δ,H,h=>by
  obtain⟨δ1,δ2,e1,e2,h2⟩:=H 0 d δ rfl h;obtain⟨δ',e3,h3⟩:=Q8 P ds (i+1) δ2 (λj d δ hj hp=>by
   have q:i+(j+1)=i+1+j:=by omega
   obtain⟨a,b,c,d',e⟩:=H (j+1) d δ (by simpa using hj) (by rw[q];exact hp);exact⟨a,b,c,d',by rw[q] at e;exact e⟩) h2
  have q:i+(d::ds).length=i+1+ds.length:=by rw[List.length_cons];omega
  refine⟨δ',?_,by rw[q];exact h3⟩;unfold X8;rw[e1];simp only[Option.bind_some,e2];exact e3
theorem c00(h:G1 δ=some (.nx δ')):v8 G1 G2 δ=G2 δ':=by unfold v8;rw[h]
theorem o8{d:D}(h:G1 δ=some (.rt d)):v8 G1 G2 δ=some (.rt d):=by unfold v8;rw[h]
theorem Z9{g:GE}{d:D}(h:g δ=some d):j6 g δ=some (.rt d):=by unfold j6;rw[h];rfl
theorem d8{g:GE}{d:D}(h:g δ=some d):m5 (gN i) g δ=some (.nx (δ.set i (.sh d))):=by unfold m5;rw[h];rfl
theorem U0{g:GB}{Ga Gb:GS}(h:g δ=some true):ifD g Ga Gb δ=Ga δ:=by unfold ifD;rw[h];rfl
theorem Z2{g:GB}{Ga Gb:GS}(h:g δ=some false):ifD g Ga Gb δ=Gb δ:=by unfold ifD;rw[h];rfl
theorem U7{gi:GA}{f:D->Ds->Option Ds}{gt:GB}{ge:GE}{items out:List D}(h1:gi δ=some items)(h2:items.length<=sizeLine)(h3:V5 f gt ge (zj0 n caps δ) items=some out):V4 n caps gi f gt ge δ=some (.lst out):=by
 unfold V4;rw[h1];show (if items.length<=sizeLine then (V5 f gt ge (zj0 n caps δ) items).map D.lst else none)=_;rw[if_pos h2,h3];rfl
theorem T7{gi:GA}{f:D->Ds->Option Ds}{items:List D}{r:Option Res}(h1:gi δ=some items)(h2:X8 f G items δ=r):R7 gi f G δ=r:=by
 unfold R7;rw[h1];exact h2
theorem cons_of{g:GE}{gA:GA}{d:D}(h1:g δ=some d)(h2:gA δ=some ds):z9 g gA δ=some (d::ds):=by unfold z9;rw[h1,h2];rfl
theorem m7{gA:GA}{f:List D->Option D}(h:gA δ=some ds):oA gA f δ=f ds:=by unfold oA;rw[h];rfl
theorem o4{ga gb:GE}{x y:D}{f:D->D->Option D}(h1:ga δ=some x)(h2:gb δ=some y):o2 ga gb f δ=f x y:=by unfold o2;rw[h1,h2];rfl
theorem gk0{g:GE}{gA:GA}{x:D}(h1:g δ=some x)(h2:gA δ=some ds):v90 g gA δ=ra0 x ds:=by unfold v90;rw[h1,h2];rfl
theorem J0{xs:List α}{i:Int}(h0:0<=i)(h1:i<xs.length)(d:α):atI xs i=some (xs.getD i.toNat d):=by
 unfold atI ixN;rw[if_pos h0,if_pos h1];show xs[i.toNat]?=_;have:i.toNat<xs.length:=by omega
 simp[List.getD_eq_getElem?_getD,this]
end DL
variable{g ge gb:DL.Ds->Option DL.D}{l ds:List DL.D}{δ δ':DL.Ds}{G G1 G2:DL.GS}{gi gA:DL.Ds->Option (List DL.D)}{gt:DL.Ds->Option Bool}{g0:DL.GE}
namespace DL
open Spec PyProof.Rows L2
abbrev BS:=Addr->Prop
abbrev St:=L2.St
variable{B B' B₀:DL.BS}
abbrev noH:Hp:=λ_=>none
structure NB(o:Option HO):Prop where
 ne:o≠none
 nf:∀ob u,o≠some (.frz ob u)
 nt:∀xs,o≠some (.tup xs)
instance{o:Option HO}:CoeFun (NB o) (λ_=>o=none->False):=⟨λh e=>h.ne e⟩
theorem NB.of{o:Option HO}{u:HO}(h:o=some u)(n:∀ob u',u≠.frz ob u')(t:∀xs,u≠.tup xs):NB o:=by
 subst h;exact⟨λz=>(by cases z),λob u' z=>n ob u' (B1 z),λxs z=>t xs (B1 z)⟩
theorem NB.same(q:Same H H')(h:NB (H a)):NB (H' a):=by
 cases e:H a with
 | none=>exact absurd e h.ne
 | some o=>exact .of (q a o e) (λob u z=>h.nf ob u (by rw[e,z])) λxs z=>h.nt xs (by rw[e,z])
def SqT'(K:W.Frag)(H:Hp)(B:BS)(a:Addr)(xs:List V):Prop:=¬B a/\H a=some (.tup xs)
def SqL'(K:W.Frag)(H:Hp)(B:BS)(a:Addr)(xs:List V):Prop:=(¬B a/\Rd H a (.lst xs))∨SqL K noH a xs
theorem b30{u:HO}(h:Rd noH a u):False:=by
 rcases h with h|⟨o,h⟩<;>cases h
theorem SqT'.to(h:SqT' K H B a xs):SqT K H a xs:=.inl (.inl h.2)
theorem SqL'.to(h:SqL' K H B a xs):SqL K H a xs:=by
 rcases h with h|h|h
 ·exact .inl h.2
 ·exact(b30 h).elim
 ·exact .inr h
def Gr(H H':Hp)(B B':BS):Prop:=∀b o,¬B b->H b=some o->¬B' b/\H' b=some o
theorem SqT'.mono(g:Gr H H' B B')(h:SqT' K H B a xs):SqT' K H' B' a xs:=g _ _ h.1 h.2
theorem SqL'.mono(g:Gr H H' B B')(h:SqL' K H B a xs):SqL' K H' B' a xs:=by
 rcases h with⟨n,h|⟨o,h⟩⟩|h
 ·exact .inl ⟨(g _ _ n h).1,.inl (g _ _ n h).2⟩
 ·exact .inl ⟨(g _ _ n h).1,.inr ⟨o,(g _ _ n h).2⟩⟩
 ·exact .inr h
theorem Gr.same(s:Same H H'):Gr H H' B B:=λb o n h=>⟨n,s b o h⟩
theorem Gr.less(h:∀a,B' a->B a):Gr H H B B':=λb o n e=>⟨λz=>n (h b z),e⟩
abbrev KS:=Sum (List Key) (List (List Key))
def dOb:KS->List V->HO
 | .inl ks,xs=>.dK (ks.zip xs)
 | .inr ks,xs=>.dT (ks.zip xs)
def dLn:KS->Nat
 | .inl ks=>ks.length
 | .inr ks=>ks.length
def bf0(fd:FuncData)(x y:Str)(c cd:Addr):Prop :=
 ∃p1 p2 p3,fd.body=.expr (.Subscript (.Name x p1) (.Name y p2) p3)/\fd.scope.isCoroutine=false/\fd.scope.isGenerator=false/\fd.scope.kind=.function/\fd.scope.names.lookup y=some .local/\fd.scope.names.lookup x=some .free /\
  (∀z∈fd.scope.names,z.2≠.cell)/\fd.closure=[(x,c)]/\fd.code=.ref cd/\fd.globals=mainGlobals/\(x==("__debug__" : Str))=false/\(x==("__classdict__" : Str))=false/\(y==("__debug__" : Str))=false /\
  ∀u:Value,bindArgs fd ⟨[u],[]⟩=pure [(y,u)]
def rk(n:Nat):List Key:=(List.range n).map λ(i:Nat)=>Sum.inl (i:Int)
def TelO(K:W.Frag)(H:Hp)(B:BS)(p:Addr)(kvs:List (Key×V)):Prop:=(¬B p/\H p=some (.dK kvs))∨∃xs,SqL' K H B p xs/\kvs=(rk xs.length).zip xs
theorem TelO.mono{p:Addr}{kvs:List (Key×V)}(g:Gr H H' B B')(h:TelO K H B p kvs):TelO K H' B' p kvs:=by
 rcases h with h|⟨xs,h,e⟩
 ·exact .inl (g _ _ h.1 h.2)
 ·exact .inr ⟨xs,h.mono g,e⟩
def FnAtH(K:W.Frag)(H:Hp)(B:BS)(f:Addr)(kvs:List (Key×V)):Prop :=
 ∃(oF oC oK:Obj) (fd:FuncData) (c cd p:Addr) (x y:Str),(¬B f/\H f=some (.frz oF (.own f)))/\(oF.cls=.type "function"/\oF.data=.func fd/\bf0 fd x y c cd)/\(¬B c/\H c=some (.frz oC (.own c)))/\oC.data=.cell (some (.ref p)) /\
  (¬B cd/\H cd=some (.frz oK (.own cd)))/\(∃vs t,oK.data=.fields vs/\vs[1]?=some (.str fd.qualname t))/\TelO K H B p kvs
theorem FnAtH.mono{f:Addr}{kvs:List (Key×V)}(g:Gr H H' B B')(h:FnAtH K H B f kvs):FnAtH K H' B' f kvs:=by
 obtain⟨oF,oC,oK,fd,c,cd,p,x,y,⟨b1,h1⟩,a,⟨b2,h2⟩,e,⟨b3,h3⟩,q,h4⟩:=h;exact⟨oF,oC,oK,fd,c,cd,p,x,y,g _ _ b1 h1,a,g _ _ b2 h2,e,g _ _ b3 h3,q,h4.mono g⟩
mutual
def Rp(K:W.Frag)(H:Hp)(B:BS):D->V->Prop
 | .non,v=>v=.non
 | .bl b,v=>v=.bl b
 | .int i,v=>v=.int i
 | .str x,v=>v=.str x
 | .tup ds,v=>∃a xs,v=.ref a/\SqT' K H B a xs/\Rps K H B ds xs
 | .lst ds,v=>∃a xs,v=.ref a/\SqL' K H B a xs/\Rps K H B ds xs
 | .dct ks ds,v=>∃a xs,v=.ref a/\¬B a/\H a=some (dOb ks xs)/\dLn ks=xs.length/\Rps K H B ds xs
 | .fn ks ds,v=>∃a xs,v=.ref a/\FnAtH K H B a (ks.zip xs)/\ks.length=xs.length/\Rps K H B ds xs
def Rps(K:W.Frag)(H:Hp)(B:BS):List D->List V->Prop
 | [],xs=>xs=[]
 | d::ds,xs=>∃x r,xs=x::r/\Rp K H B d x/\Rps K H B ds r
end
mutual
theorem Rp.mono(g:Gr H H' B B'):∀{d:D} {v:V},Rp K H B d v->Rp K H' B' d v
 | .non,_,h=>by unfold Rp at h ⊢;exact h
 | .bl _,_,h=>by unfold Rp at h ⊢;exact h
 | .int _,_,h=>by unfold Rp at h ⊢;exact h
 | .str _,_,h=>by unfold Rp at h ⊢;exact h
 | .tup ds,_,h=>by
  unfold Rp at h ⊢;obtain⟨a,xs,e,q,r⟩:=h;exact⟨a,xs,e,q.mono g,Rps.mono g r⟩
 | .lst ds,_,h=>by
  unfold Rp at h ⊢;obtain⟨a,xs,e,q,r⟩:=h;exact⟨a,xs,e,q.mono g,Rps.mono g r⟩
 | .dct ks ds,_,h=>by
  unfold Rp at h ⊢;obtain⟨a,xs,e,n,q,l,r⟩:=h;exact⟨a,xs,e,(g _ _ n q).1,(g _ _ n q).2,l,Rps.mono g r⟩
 | .fn ks ds,_,h=>by
  unfold Rp at h ⊢;obtain⟨a,xs,e,q,l,r⟩:=h;exact⟨a,xs,e,q.mono g,l,Rps.mono g r⟩
theorem Rps.mono(g:Gr H H' B B'):∀{ds:List D} {xs:List V},Rps K H B ds xs->Rps K H' B' ds xs
 | [],_,h=>by unfold Rps at h ⊢;exact h
 | d::ds,_,h=>by
  unfold Rps at h ⊢;obtain⟨x,r,e,h1,h2⟩:=h;exact⟨x,r,e,Rp.mono g h1,Rps.mono g h2⟩
end
section
variable{v:V}
theorem R8:Rp K H B .non v=(v=.non):=by unfold Rp;rfl
theorem X7{b:Bool}:Rp K H B (.bl b) v=(v=.bl b):=by unfold Rp;rfl
theorem j4{i:Int}:Rp K H B (.int i) v=(v=.int i):=by unfold Rp;rfl
theorem Y7:Rp K H B (.str x) v=(v=.str x):=by unfold Rp;rfl
theorem X3:Rp K H B (.tup ds) v=∃a xs,v=.ref a/\SqT' K H B a xs/\Rps K H B ds xs:=by conv=>lhs;unfold Rp
theorem X4:Rp K H B (.lst ds) v=∃a xs,v=.ref a/\SqL' K H B a xs/\Rps K H B ds xs:=by conv=>lhs;unfold Rp
theorem xk0{ks:KS}:Rp K H B (.dct ks ds) v=∃a xs,v=.ref a/\¬B a/\H a=some (dOb ks xs)/\dLn ks=xs.length/\Rps K H B ds xs:=by conv=>lhs;unfold Rp
theorem im0:Rp K H B (.fn ks ds) v=∃a xs,v=.ref a/\FnAtH K H B a (ks.zip xs)/\ks.length=xs.length/\Rps K H B ds xs:=by conv=>lhs;unfold Rp
theorem dl0:Rp K H B (.dct (.inl ks) ds) v=∃a xs,v=.ref a/\¬B a/\H a=some (.dK (ks.zip xs))/\ks.length=xs.length/\Rps K H B ds xs:=xk0
theorem ot0{ks:List (List Key)}:Rp K H B (.dct (.inr ks) ds) v=∃a xs,v=.ref a/\¬B a/\H a=some (.dT (ks.zip xs))/\ks.length=xs.length/\Rps K H B ds xs:=xk0
theorem n6:Rps K H B [] xs=(xs=[]):=by unfold Rps;rfl
theorem o7{d:D}:Rps K H B (d::ds) xs=∃x r,xs=x::r/\Rp K H B d x/\Rps K H B ds r:=by conv=>lhs;unfold Rps
theorem Rps.length:∀{ds:List D} {xs:List V},Rps K H B ds xs->xs.length=ds.length
 | [],_,h=>by rw[n6] at h;subst h;rfl
 | d::ds,_,h=>by
  rw[o7] at h;obtain⟨x,r,rfl,_,h2⟩:=h;simp[Rps.length h2]
theorem Rps.get:∀{ds:List D} {xs:List V} {i:Nat} {d:D},Rps K H B ds xs->ds[i]?=some d->∃x,xs[i]?=some x/\Rp K H B d x
 | [],_,_,_,_,e=>by simp at e
 | d::ds,_,0,d',h,e=>by
  rw[o7] at h;obtain⟨x,r,rfl,h1,_⟩:=h;simp at e;subst e;exact⟨x,rfl,h1⟩
 | d::ds,_,i+1,d',h,e=>by
  rw[o7] at h;obtain⟨x,r,rfl,_,h2⟩:=h;obtain⟨y,e1,e2⟩:=Rps.get (i:=i) h2 (by simpa using e);exact⟨y,by simpa using e1,e2⟩
theorem Rps.snoc:∀{ds:List D} {xs:List V} {d:D} {x:V},Rps K H B ds xs->Rp K H B d x->Rps K H B (ds++[d]) (xs++[x])
 | [],_,_,_,h,r=>by
  rw[n6] at h;subst h;rw[List.nil_append,List.nil_append,o7];exact⟨_,[],rfl,r,by rw[n6]⟩
 | d::ds,_,_,_,h,r=>by
  rw[o7] at h;obtain⟨y,t,rfl,h1,h2⟩:=h;rw[List.cons_append,List.cons_append,o7];exact⟨y,_,rfl,h1,Rps.snoc h2 r⟩
theorem Rps.append:∀{ds es:List D} {xs ys:List V},Rps K H B ds xs->Rps K H B es ys->Rps K H B (ds++es) (xs++ys)
 | [],_,_,_,h,r=>by rw[n6] at h;subst h;exact r
 | d::ds,_,_,_,h,r=>by
  rw[o7] at h;obtain⟨y,t,rfl,h1,h2⟩:=h;rw[List.cons_append,List.cons_append,o7];exact⟨y,_,rfl,h1,Rps.append h2 r⟩
theorem Rps.drop:∀{ds:List D} {xs:List V} (n:Nat),Rps K H B ds xs->Rps K H B (ds.drop n) (xs.drop n)
 | _,_,0,h=>h
 | [],_,n+1,h=>by rw[n6] at h;subst h;simpa [n6]
 | d::ds,_,n+1,h=>by
  rw[o7] at h;obtain⟨y,t,rfl,h1,h2⟩:=h
  simpa using Rps.drop n h2
theorem Rps.take:∀{ds:List D} {xs:List V} (n:Nat),Rps K H B ds xs->Rps K H B (ds.take n) (xs.take n)
 | _,_,0,h=>by simp[n6]
 | [],_,n+1,h=>by rw[n6] at h;subst h;simp[n6]
 | d::ds,_,n+1,h=>by
  rw[o7] at h;obtain⟨y,t,rfl,h1,h2⟩:=h;rw[List.take_succ_cons,List.take_succ_cons,o7];exact⟨y,_,rfl,h1,Rps.take n h2⟩
theorem Rps.same(s:Same H H')(h:Rps K H B ds xs):Rps K H' B ds xs:=Rps.mono (Gr.same s) h
theorem Rp.same{d:D}{v:V}(s:Same H H')(h:Rp K H B d v):Rp K H' B d v:=Rp.mono (Gr.same s) h
end
def RpO(K:W.Frag)(H:Hp)(B:BS)(d:D)(a:Addr):Prop:=match d with
 | .lst ds=>∃xs,H a=some (.lst xs)/\Rps K H B ds xs
 | .dct ks ds=>∃xs,H a=some (dOb ks xs)/\dLn ks=xs.length/\Rps K H B ds xs
 | _=>False
theorem RpO.same{d:D}(s:Same H H')(h:RpO K H B d a):RpO K H' B d a:=by
 cases d<;>try exact h.elim
 ·obtain⟨xs,e,r⟩:=h;exact⟨xs,s _ _ e,r.same s⟩
 ·obtain⟨xs,e,l,r⟩:=h;exact⟨xs,s _ _ e,l,r.same s⟩
theorem RpO.rp{d:D}(l:∀a,B' a->B a)(n:¬B' a)(h:RpO K H B d a):Rp K H B' d (.ref a):=by
 cases d<;>try exact h.elim
 ·obtain⟨xs,e,r⟩:=h
  rw[X4];exact⟨a,xs,rfl,.inl ⟨n,.inl e⟩,r.mono (Gr.less l)⟩
 ·obtain⟨xs,e,q,r⟩:=h
  rw[xk0];exact⟨a,xs,rfl,n,e,q,r.mono (Gr.less l)⟩
theorem RpO.live{d:D}(h:RpO K H B d a):NB (H a):=by
 cases d<;>try exact h.elim
 ·obtain⟨xs,e,r⟩:=h;exact .of e (λ_ _=>λz=>nomatch z) λ_=>λz=>nomatch z
 ·obtain⟨xs,e,q,r⟩:=h;refine .of e (λ_ _ z=>?_) λ_ z=>?_<;>(unfold dOb at z;split at z<;>cases z)
def RpL(K:W.Frag)(H:Hp)(B:BS)(d:D)(a:Addr):Prop:=match d with
 | .tup es=>∃ds,es=[.int (a:Int),.lst ds]/\∃xs,H a=some (.lst xs)/\Rps K H B ds xs
 | d=>RpO K H B d a
theorem RpO.toL{d:D}(h:RpO K H B d a):RpL K H B d a:=by
 cases d with
 | tup es=>exact(show False from h).elim
 | _=>exact h
theorem RpL.toO{d:D}(n:isL d=false)(h:RpL K H B d a):RpO K H B d a:=by
 cases d with
 | tup es=>cases n
 | _=>exact h
theorem RpL.same{d:D}(s:Same H H')(h:RpL K H B d a):RpL K H' B d a:=by
 cases d with
 | tup es=>obtain⟨ds,q,xs,e,r⟩:=h;exact⟨ds,q,xs,s _ _ e,r.same s⟩
 | _=>exact(RpO.same s (RpL.toO rfl h)).toL
theorem RpL.rp{d:D}(l:∀a,B' a->B a)(n:¬B' a)(h:RpL K H B d a):Rp K H B' (unl d) (.ref a):=by
 cases d with
 | tup es=>obtain⟨ds,rfl,xs,e,r⟩:=h;exact RpO.rp (d:=.lst ds) l n ⟨xs,e,r⟩
 | _=>exact RpO.rp l n (RpL.toO rfl h)
theorem RpL.live{d:D}(h:RpL K H B d a):NB (H a):=by
 cases d with
 | tup es=>obtain⟨ds,q,xs,e,r⟩:=h;exact .of e (λ_ _=>λz=>nomatch z) λ_=>λz=>nomatch z
 | _=>exact RpO.live (RpL.toO rfl h)
def aj0(a C:Addr)(od:Option Addr):Heap->Prop:=λh=>∃oe,h.get? a=some oe/\oe.cls=.ref C/\(∀dx,od=some dx->oe.dict=some dx)/\∃vs,oe.data=.fields vs
def ao0(H:Hp)(B:BS)(od:Option Addr):Option Int->Prop
 | none=>True
 | some n=>∃dx,od=some dx/\¬B dx/\H dx=some (.xd [("at",.int n)])
def XcR(K:W.Frag)(H:Hp)(B:BS)(c:Str)(n:Option Int)(a:Addr):Prop:=∃C od,¬B a/\H a=some (.ext (aj0 a C od))/\W.nsIn K mainGlobals c=some (some (.ref C))/\ao0 H B od n
theorem XcR.mono{c:Str}{n:Option Int}(g:Gr H H' B B')(h:XcR K H B c n a):XcR K H' B' c n a:=by
 obtain⟨C,od,h1,h2,h3,h4⟩:=h;refine⟨C,od,(g _ _ h1 h2).1,(g _ _ h1 h2).2,h3,?_⟩;cases n with
 | none=>trivial
 | some n=>obtain⟨dx,e,q1,q2⟩:=h4;exact⟨dx,e,(g _ _ q1 q2).1,(g _ _ q1 q2).2⟩
def SlR(K:W.Frag)(H:Hp)(B:BS)(o:Option V):Sl->Prop
 | .un=>True
 | .sh d=>∃v,o=some v/\Rp K H B d v
 | .ow d=>∃a,o=some (.ref a)/\B a/\RpL K H B d a
 | .ex c n=>∃a,o=some (.ref a)/\XcR K H B c n a
theorem Pd.get{F:α->β->Prop}:∀{l:List α} {m:List β} {i:Nat} {b:β},Paired F l m->m[i]?=some b->∃a,l[i]?=some a/\F a b
 | _,_,_,_,.nil,e=>by simp at e
 | _,_,0,_,.cons r _,e=>by simp at e;subst e;exact⟨_,rfl,r⟩
 | _,_,i+1,b,.cons _ t,e=>by
  obtain⟨u,h1,h2⟩:=Pd.get (i:=i) (b:=b) t (by simpa using e);exact⟨u,by simpa using h1,h2⟩
theorem Pd.imp{F G:α->β->Prop}(h:∀a b,F a b->G a b):∀{l:List α} {m:List β},Paired F l m->Paired G l m
 | _,_,.nil=>.nil
 | _,_,.cons r t=>.cons (h _ _ r) (Pd.imp h t)
theorem Pd.set{F:α->β->Prop}{a:α}{b:β}(r:F a b):∀{l:List α} {m:List β} (i:Nat),Paired F l m->Paired F (l.set i a) (m.set i b)
 | _,_,_,.nil=>.nil
 | _,_,0,.cons _ t=>.cons r t
 | _,_,i+1,.cons q t=>.cons q (Pd.set r i t)
theorem Pd.app{F:α->β->Prop}:∀{l l':List α} {m m':List β},Paired F l m->Paired F l' m'->Paired F (l++l') (m++m')
 | _,_,_,_,.nil,s=>s
 | _,_,_,_,.cons r t,s=>.cons r (Pd.app t s)
structure Env(K:W.Frag)(H:Hp)(B:BS)(σ:St)(δ:Ds):Prop where
 all:Paired (SlR K H B) σ δ
 bad:∀a,B a->NB (H a)
 own:∀(i j:Nat) (a:Addr) (ds es:D),δ[i]?=some (.ow ds)->δ[j]?=some (.ow es)->σ[i]?=some (some (.ref a))->σ[j]?=some (some (.ref a))->i=j
section
variable{σ σ':St}
theorem SlR.same{o:Option V}{s:Sl}(q:Same H H')(h:SlR K H B o s):SlR K H' B o s:=by
 cases s with
 | un=>trivial
 | sh d=>obtain⟨v,e,r⟩:=h;exact⟨v,e,r.same q⟩
 | ow d=>obtain⟨a,e,b,r⟩:=h;exact⟨a,e,b,r.same q⟩
 | ex c n=>obtain⟨a,e,r⟩:=h;exact⟨a,e,r.mono (Gr.same q)⟩
theorem Env.same(q:Same H H')(e:Env K H B σ δ):Env K H' B σ δ :=
 ⟨Pd.imp (λ_ _ h=>h.same q) e.all,(λa b=>(e.bad a b).same q),e.own⟩
theorem Env.free(e:Env K H B σ δ){p:Addr}(h:H p=none):¬B p:=λz=>e.bad p z h
theorem Env.get(e:Env K H B σ δ){d:D}(h:δ[i]?=some (.sh d)):∃v,σ[i]?=some (some v)/\Rp K H B d v:=by
 obtain⟨o,h1,v,rfl,r⟩:=Pd.get e.all h;exact⟨v,h1,r⟩
theorem Env.set(e:Env K H B σ δ)(i:Nat){d:D}{v:V}(r:Rp K H B d v):Env K H B (σ.set i (some v)) (δ.set i (.sh d)):=by
 refine⟨Pd.set ⟨v,rfl,r⟩ i e.all,e.bad,λj k a ds es h1 h2 h3 h4=>?_⟩;have hj:j≠i:=by
  rintro rfl
  by_cases hl:j<δ.length
  ·rw[List.getElem?_set_self hl] at h1;cases h1
  ·rw[List.getElem?_eq_none (by simpa using hl)] at h1;cases h1
 have hk:k≠i:=by
  rintro rfl
  by_cases hl:k<δ.length
  ·rw[List.getElem?_set_self hl] at h2;cases h2
  ·rw[List.getElem?_eq_none (by simpa using hl)] at h2;cases h2
 rw[List.getElem?_set_ne (C6 hj)] at h1 h3;rw[List.getElem?_set_ne (C6 hk)] at h2 h4;exact e.own j k a ds es h1 h2 h3 h4
end
theorem Z7{p:Addr}{o:HO}(h:H p=none):Same H (upd H p o):=λb u e=>by rw[Z0 (V9 e h)];exact e
def tD(K:W.Frag)(B:BS)(δ:Ds)(g:Ds->Option D):TE:=fun σ H Q=>∃d,Env K H B σ δ/\g δ=some d/\∀v H',Same H H'->Rp K H' B d v->Q v H'
structure PD(X:Cx)(e:Expr)(g:Ds->Option D):Prop where
 mk::go:∀B δ,PE X e (tD X.K B δ g)
instance{X:Cx}{e:Expr}{g:Ds->Option D}:CoeFun (PD X e g) (λ_=>∀B δ,PE X e (tD X.K B δ g)):=⟨PD.go⟩
def tDT(K:W.Frag)(B:BS)(δ:Ds)(g:Ds->Option Bool):TT:=fun σ H Q=>∃b,Env K H B σ δ/\g δ=some b/\∀H',Same H H'->Q b H'
structure PTD(X:Cx)(e:Expr)(g:Ds->Option Bool):Prop where
 mk::go:∀B δ,PT X e (tDT X.K B δ g)
instance{X:Cx}{e:Expr}{g:Ds->Option Bool}:CoeFun (PTD X e g) (λ_=>∀B δ,PT X e (tDT X.K B δ g)):=⟨PTD.go⟩
structure PWD(X:Cx)(e:Expr)(g:Ds->Option Bool):Prop where
 mk::go:∀B δ,PW X e (tDT X.K B δ g)
instance{X:Cx}{e:Expr}{g:Ds->Option Bool}:CoeFun (PWD X e g) (λ_=>∀B δ,PW X e (tDT X.K B δ g)):=⟨PWD.go⟩
def tDA(K:W.Frag)(B:BS)(δ:Ds)(g:Ds->Option (List D)):TA:=fun σ H Q=>∃ds,Env K H B σ δ/\g δ=some ds/\∀vs H',Same H H'->Rps K H' B ds vs->Q vs H'
structure PDA(X:Cx)(es:List Expr)(g:Ds->Option (List D)):Prop where
 mk::go:∀B δ,PA X es (tDA X.K B δ g)
instance{X:Cx}{es:List Expr}{g:Ds->Option (List D)}:CoeFun (PDA X es g) (λ_=>∀B δ,PA X es (tDA X.K B δ g)):=⟨PDA.go⟩
theorem ps0{d:D}{b:Bool}(h:asB d=some b):d=.bl b:=by
 cases d<;>simp[asB] at h
 subst h;rfl
def Op2(K:W.Frag)(r:R2)(f:D->D->Option D):Prop:=∀(H:Hp) (B:BS) (x y:V) (dx dy d:D) (Q:VK),(∀a,B a->NB (H a))->Rp K H B dx x->Rp K H B dy y->f dx dy=some d->(∀v H',Same H H'->Rp K H' B d v->Q v H')->r x y H Q
def FnR(K:W.Frag)(r:List V->Hp->VK->Prop)(f:List D->Option D):Prop:=∀(H:Hp) (B:BS) (xs:List V) (ds:List D) (d:D) (Q:VK),(∀a,B a->NB (H a))->Rps K H B ds xs->f ds=some d->(∀v H',Same H H'->Rp K H' B d v->Q v H')->r xs H Q
section
variable{a:Expr}{ga:Ds->Option D}{gu:Ds->Option Bool}{rest:List Expr}
theorem _root_.L2.PE.imp{t t':TE}(h:PE X e t)(q:∀σ H Q,t' σ H Q->t σ H Q):PE X e t':=λpins s σ H Q I z=>h pins s σ H Q I (q σ H Q z)
theorem _root_.L2.PT.imp{t t':TT}(h:PT X e t)(q:∀σ H Q,t' σ H Q->t σ H Q):PT X e t':=λpins s σ H Q I z=>h pins s σ H Q I (q σ H Q z)
theorem _root_.L2.PW.imp{t t':TT}(h:PW X e t)(q:∀σ H Q,t' σ H Q->t σ H Q):PW X e t':=λw pins s σ H Q I z=>h w pins s σ H Q I (q σ H Q z)
theorem _root_.L2.PA.imp{t t':TA}(h:PA X es t)(q:∀σ H Q,t' σ H Q->t σ H Q):PA X es t':=λp pins s σ H Q I z=>h p pins s σ H Q I (q σ H Q z)
theorem uj0{d:D}(h:gv i δ=some d):δ[i]?=some (.sh d):=by
 unfold gv at h;split at h
 ·cases h;assumption
 ·cases h
theorem w6(i:Nat)(hN:X.N[i]?=some x:=by rfl)(hv:Vis X.env.scope x:=by first|exact Or.inl rfl|exact Or.inr (Or.inl rfl)|exact Or.inr (Or.inr rfl))(hd:(x==("__debug__" : Str))=false:=by decide)
  (hcd:(x==("__classdict__" : Str))=false:=by decide):PD X (.Name x pos) (gv i):=.mk λB δ=>(y30 (i:=i) hN hv hd hcd).imp fun σ H Q ⟨d,en,h,k⟩=>by
 obtain⟨v,e,r⟩:=en.get (uj0 h);exact⟨v,e,k v H (Same.refl H) r⟩
theorem p6{i:Int}:PD X (.Constant (.int i) j pos) (gc (.int i)):=.mk λB δ=>e50.imp fun σ H Q ⟨d,en,h,k⟩=>by cases h;exact k _ H (Same.refl H) (by rw[j4])
theorem z60{i:Bool}:PD X (.Constant (.bool i) j pos) (gc (.bl i)):=.mk λB δ=>cj0.imp fun σ H Q ⟨d,en,h,k⟩=>by cases h;exact k _ H (Same.refl H) (by rw[X7])
theorem yp0:PD X (.Constant .none j pos) (gc .non):=.mk λB δ=>e70.imp fun σ H Q ⟨d,en,h,k⟩=>by cases h;exact k _ H (Same.refl H) (by rw[R8])
theorem Y0:PD X (.Constant (.str x) j pos) (gc (.str x)):=.mk λB δ=>d30.imp fun σ H Q ⟨d,en,h,k⟩=>by cases h;exact k _ H (Same.refl H) (by rw[Y7])
theorem uk0{r:R2}{f:D->D->Option D}(hf:Op2 K r f){σ:St}{Q:VK}(h:tD K B δ (o2 ga gb f) σ H Q):tOp r (tD K B δ ga) (tD K B δ gb) σ H Q:=by
 obtain⟨d,en,h,k⟩:=h;unfold o2 at h;cases e1:ga δ with
 | none=>rw[e1] at h;cases h
 | some x =>
  cases e2:gb δ with
  | none=>rw[e1,e2] at h;cases h
  | some y =>
   rw[e1,e2] at h;refine⟨x,en,e1,λv1 H1 s1 r1=>⟨y,en.same s1,e2,λv2 H2 s2 r2=>?_⟩⟩;exact hf H2 B v1 v2 x y d Q ((en.same s1).same s2).bad (r1.same s2) r2 h λv H' s r=>k v H' ((s1.trans s2).trans s) r
theorem xx0{op:Operator}{r:R2}{f:D->D->Option D}(ho:OpR X (binaryOp op) r)(hf:Op2 X.K r f)(ha:PD X a ga)(hb:PD X b gb):PD X (.BinOp a op b pos) (o2 ga gb f):=.mk λB δ=>(bt0 ho (ha B δ) (hb B δ)).imp fun σ H Q h=>uk0 hf h
theorem qp0{op:CmpOp}{r:R2}{f:D->D->Option D}(ho:OpR X (compareOp op) r)(hf:Op2 X.K r f)(ha:PD X a ga)(hb:PD X b gb)(hm:behindInMarks op b=false:=by first|exact kk0 _|with_unfolding_all rfl):PD X (.Compare a [op] [b] pos) (o2 ga gb f) :=
 .mk λB δ=>(fk0 ho (ha B δ) (hb B δ) hm).imp fun σ H Q h=>uk0 hf h
theorem bq0{r:R2}{f:D->D->Option D}(ho:IxR X r)(hf:Op2 X.K r f)(ha:PD X a ga)(hb:PD X b gb)(hs:ty0 b:=by exact λ_ _=>rfl):PD X (.Subscript a b pos) (o2 ga gb f) :=
 .mk λB δ=>(bn0 ho (ha B δ) (hb B δ) hs).imp fun σ H Q h=>uk0 hf h
theorem j8{op:CmpOp}{r:R2}{f:D->D->Option D}(ho:OpR X (compareOp op) r)(hf:Op2 X.K r f)(ha:PD X a ga)(hb:PD X b gb)(hm:behindInMarks op b=false:=by first|exact kk0 _|with_unfolding_all rfl):PTD X (.Compare a [op] [b] pos) (ob (o2 ga gb f)) :=
 .mk λB δ=>(fi0 ho (ha B δ) (hb B δ) hm).imp fun σ H Q ⟨t,en,h,k⟩=>by
  unfold ob at h;cases e:o2 ga gb f δ with
  | none=>rw[e] at h;cases h
  | some d =>
   rw[e] at h;cases ps0 h;exact uk0 hf ⟨_,en,e,λv H' s r=>⟨t,by rw[X7] at r;exact r,k H' s⟩⟩
theorem z80(h:PD X e g)(he:∀whole,isTrue e X.env whole=(do let v ← whole;standAt e.pos;holding [v] (truthy v)):=by intro _;rfl):PTD X e (ob g) :=
 .mk λB δ=>(dx0 (h B δ) he).imp fun σ H Q ⟨t,en,h,k⟩=>by
  unfold ob at h;cases e:g δ with
  | none=>rw[e] at h;cases h
  | some d =>
   rw[e] at h;cases ps0 h;exact⟨_,en,e,λv H' s r=>⟨t,by rw[X7] at r;exact r,k H' s⟩⟩
theorem xh0(h:PTD X a gt):PTD X (.UnaryOp .Not a pos) (G3 gt) :=
 .mk λB δ=>(fw0 (h B δ)).imp fun σ H Q ⟨t,en,h,k⟩=>by
  unfold G3 at h;cases e:gt δ with
  | none=>rw[e] at h;cases h
  | some b =>
   rw[e] at h;cases h;exact⟨b,en,e,λH' s=>k H' s⟩
theorem jl0(h:PTD X a gt):PWD X (.BoolOp .And [a] pos) gt:=.mk λB δ=>gn0 (h B δ)
theorem vh0(h:PTD X a gt):PWD X (.BoolOp .Or [a] pos) gt:=.mk λB δ=>dj0 (h B δ)
theorem f50(ha:PTD X a gt)(hb:PWD X (.BoolOp .And (b::rest) pos) gu):PWD X (.BoolOp .And (a::b::rest) pos) (xz0 gt gu) :=
 .mk λB δ=>(eu0 (ha B δ) (hb B δ)).imp fun σ H Q ⟨t,en,h,k⟩=>by
  unfold xz0 at h;cases e:gt δ with
  | none=>rw[e] at h;cases h
  | some b =>
   rw[e] at h;refine⟨b,en,e,λH' s=>?_⟩;cases b with
   | true=>exact⟨t,en.same s,h,λF s'=>k F (s.trans s')⟩
   | false =>
    simp at h;subst h;rw[if_neg B9];exact k H' s
theorem ut0(ha:PTD X a gt)(hb:PWD X (.BoolOp .Or (b::rest) pos) gu):PWD X (.BoolOp .Or (a::b::rest) pos) (zv0 gt gu) :=
 .mk λB δ=>(bz0 (ha B δ) (hb B δ)).imp fun σ H Q ⟨t,en,h,k⟩=>by
  unfold zv0 at h;cases e:gt δ with
  | none=>rw[e] at h;cases h
  | some b =>
   rw[e] at h;refine⟨b,en,e,λH' s=>?_⟩;cases b with
   | false=>exact⟨t,en.same s,h,λF s'=>k F (s.trans s')⟩
   | true =>
    simp at h;subst h;rw[if_pos rfl];exact k H' s
theorem PWD.pt(h:PWD X e gt):PTD X e gt:=.mk λB δ=>(h B δ).pt
theorem t50{op}(h:PD X a g):PD X (.BoolOp op [a] pos) g:=.mk λB δ=>el0 (h B δ)
theorem wk0(ha:PD X a ga)(hb:PD X (.BoolOp .And (b::rest) pos) gb):PD X (.BoolOp .And (a::b::rest) pos) (za0 ga gb) :=
 .mk λB δ=>(e80 (ha B δ) (hb B δ)).imp fun σ H Q ⟨d,en,h,k⟩=>by
  unfold za0 ob at h;cases e:ga δ with
  | none=>rw[e] at h;cases h
  | some x =>
   rw[e] at h;refine⟨x,en,e,λv H' s r=>?_⟩;cases x with
   | bl c =>
    rw[X7] at r;refine⟨c,r,?_⟩;cases c with
    | true=>exact⟨d,en.same s,h,λv F s'=>k v F (s.trans s')⟩
    | false =>
     simp[asB] at h;rw[if_neg B9];exact k _ H' s (by rw[← h,X7])
   | _=>simp[asB] at h
theorem v9:PDA X [] v7:=.mk λB δ=>yj0.imp fun σ H Q ⟨ds,en,h,k⟩=>by cases h;exact k [] H (Same.refl H) (by rw[n6])
theorem v5(ha:PD X e g)(hr:PDA X es gA)(hs:starEach (e::es) X.env=(false,eval e X.env)::starEach es X.env:=by rfl):PDA X (e::es) (z9 g gA) :=
 .mk λB δ=>(J5 (ha B δ) (hr B δ) hs).imp fun σ H Q ⟨ds,en,h,k⟩=>by
  unfold z9 at h;cases e1:g δ with
  | none=>rw[e1] at h;cases h
  | some d =>
   cases e2:gA δ with
   | none=>rw[e1,e2] at h;cases h
   | some es' =>
    rw[e1,e2] at h;cases h;refine⟨d,en,e1,λv H1 s1 r1=>⟨es',en.same s1,e2,λvs H2 s2 r2=>k _ H2 (s1.trans s2) ?_⟩⟩;rw[o7];exact⟨v,vs,rfl,r1.same s2,r2⟩
theorem W0{x1}(h:PDA X es gA):PD X (.Tuple es x1 pos) (Y6 gA) :=
 .mk λB δ=>(c90 (h B δ)).imp fun σ H Q ⟨d,en,h,k⟩=>by
  unfold Y6 at h;cases e1:gA δ with
  | none=>rw[e1] at h;cases h
  | some ds =>
   rw[e1] at h
   by_cases hl:ds.length<=sizeLine
   ·simp only[Option.bind_some,if_pos hl] at h
    cases h;refine⟨ds,en,e1,λvs H1 s1 r1=>⟨by rw[r1.length];exact hl,λp hp=>k _ _ (s1.trans (Z7 hp)) ?_⟩⟩;rw[X3];exact⟨p,vs,rfl,⟨(en.same s1).free hp,Z8⟩,r1.same (Z7 hp)⟩
   ·simp only[Option.bind_some,if_neg hl] at h
    cases h
theorem zc0(h:PDA X es gA):PD X (.List es pos) (X5 gA) :=
 .mk λB δ=>(le0 (h B δ)).imp fun σ H Q ⟨d,en,h,k⟩=>by
  unfold X5 at h;cases e1:gA δ with
  | none=>rw[e1] at h;cases h
  | some ds =>
   rw[e1] at h
   by_cases hl:ds.length<=sizeLine
   ·simp only[Option.bind_some,if_pos hl] at h
    cases h;refine⟨ds,en,e1,λvs H1 s1 r1=>⟨by rw[r1.length];exact hl,λp hp=>k _ _ (s1.trans (Z7 hp)) ?_⟩⟩;rw[X4];exact⟨p,vs,rfl,.inl ⟨(en.same s1).free hp,.inl Z8⟩,r1.same (Z7 hp)⟩
   ·simp only[Option.bind_some,if_neg hl] at h
    cases h
theorem ka0{f:List D->Option D}(hf:FnR K r f){σ:St}{Q:VK}(h:tD K B δ (oA gA f) σ H Q):tCB r (tDA K B δ gA) σ H Q:=by
 obtain⟨d,en,h,k⟩:=h;unfold oA at h;cases e1:gA δ with
 | none=>rw[e1] at h;cases h
 | some ds =>
  rw[e1] at h;exact⟨ds,en,e1,λvs H1 s1 r1=>hf H1 B vs ds d Q (en.same s1).bad r1 h λv H' s r=>k v H' (s1.trans s) r⟩
theorem qm0{id:String}{p:Pos}{f:List D->Option D}(hc:CallR X (.builtin id) r)(hf:FnR X.K r f)(hm:X.mg x=none)(hv:bootBuiltins x=some (.builtin id))(ha:PDA X (e::es) gA)(hg:Gl X x:=by rfl)
  (hn:x ≠"__name__" := by decide) (hdb:(x==("__debug__" : Str))=false:=by decide) (he:starEach (e::es) X.env=(false,eval e X.env)::starEach es X.env:=by rfl) (hpl:(backTo pos (starEach es X.env)).any (·.1)=false:=by rfl) :
  PD X (.Call (.Name x p) (e::es) [] pos) (oA gA f):=.mk λB δ=>(u50 hc hg hm hv (ha B δ) hn hdb he hpl).imp fun σ H Q h=>ka0 hf h
theorem T4{T:String}{p:Pos}{f:List D->Option D}(hc:CallR X (.type T) r)(hf:FnR X.K r f)(hm:X.mg x=none)(hv:bootBuiltins x=some (.type T))(ha:PDA X (e::es) gA)(hg:Gl X x:=by rfl)
  (hn:x ≠"__name__" := by decide) (hdb:(x==("__debug__" : Str))=false:=by decide) (he:starEach (e::es) X.env=(false,eval e X.env)::starEach es X.env:=by rfl) (hpl:(backTo pos (starEach es X.env)).any (·.1)=false:=by rfl) :
  PD X (.Call (.Name x p) (e::es) [] pos) (oA gA f):=.mk λB δ=>(v40 hc hg hm hv (ha B δ) hn hdb he hpl).imp fun σ H Q h=>ka0 hf h
def spD(K:W.Frag)(f:List D->Option D):Sp:=λvs H Q _=>∃(B:BS) (ds:List D) (d:D),(∀a,B a->NB (H a))/\Rps K H B ds vs/\f ds=some d/\∀v H',Same H H'->Rp K H' B d v->Q v H'
theorem fh0{k:Nat}{ps:List Str}{p:Pos}{f:List D->Option D}(F:FnOk X.prog X.w X.K X.mg X.base CX0 k fa fd ps (spD X.K f))(hr:Room k X.A)(hm:X.mg x=some (.ref fa))(hk:W.keepIn X.K (.ref fa)=true)(hb:Binds X.K fd ps [])
  (ha:PDA X (e::es) gA) (hg:Gl X x:=by rfl) (hdb:(x==("__debug__" : Str))=false:=by decide) (he:starEach (e::es) X.env=(false,eval e X.env)::starEach es X.env:=by rfl) (hpl:(backTo pos (starEach es X.env)).any (·.1)=false:=by rfl) :
  PD X (.Call (.Name x p) (e::es) [] pos) (oA gA f):=.mk λB δ=>(tc0 (E:=E0) F hr hg hm hk hb .nil m70 (ha B δ) hdb he hpl).imp fun σ H Q h=>by
 obtain⟨d,en,h,k⟩:=h;unfold oA at h;cases e1:gA δ with
 | none=>rw[e1] at h;cases h
 | some ds =>
  rw[e1] at h;refine⟨ds,en,e1,λvs H1 s1 r1=>?_⟩;show spD X.K f (vs++[]) H1 Q E0;rw[List.append_nil];exact⟨B,ds,d,(en.same s1).bad,r1,h,λv H' s r=>k v H' (s1.trans s) r⟩
end
end DL
variable{B B' B₀:DL.BS}
namespace DL
open Spec PyProof.Rows L2
structure EnvS(K:W.Frag)(H₀:Hp)(B₀:BS)(H:Hp)(σ:St)(δ:Ds):Prop where
 same:Same H₀ H
 ex:∃B:BS,(∀a,B₀ a->B a)/\(∀a,B a->B₀ a∨H₀ a=none)/\Env K H B σ δ
 fr:∀(i:Nat) (ds:D) (a:Addr),δ[i]?=some (.ow ds)->σ[i]?=some (some (.ref a))->H₀ a=none
 b0:∀a,B₀ a->NB (H₀ a)
def aw0(K:W.Frag)(H₀:Hp)(B₀:BS)(D:Ends):Res->Prop
 | .nx δ=>∀σ H,EnvS K H₀ B₀ H σ δ->D.nx σ H
 | .rt d=>∀v H,Same H₀ H->Rp K H B₀ d v->D.rt v H
 | .bk δ=>∀σ H,EnvS K H₀ B₀ H σ δ->D.bk σ H
 | .ct δ=>∀σ H,EnvS K H₀ B₀ H σ δ->D.ct σ H
 | .rf d=>∀p H,H₀ p=none->Same H₀ H->RpL K H (λa=>B₀ a∨a=p) d p->D.rt (.ref p) H
def tDS(K:W.Frag)(H₀:Hp)(B₀:BS)(δ:Ds)(G:Ds->Option Res):TS:=λD σ H=>∃r,EnvS K H₀ B₀ H σ δ/\G δ=some r/\aw0 K H₀ B₀ D r
structure PSD(X:Cx)(st:Stmt)(G:Ds->Option Res):Prop where
 mk::go:∀H₀ B₀ δ,PS X st (tDS X.K H₀ B₀ δ G)
instance{X:Cx}{st:Stmt}{G:Ds->Option Res}:CoeFun (PSD X st G) (λ_=>∀H₀ B₀ δ,PS X st (tDS X.K H₀ B₀ δ G)):=⟨PSD.go⟩
structure PSsD(X:Cx)(st:List Stmt)(G:Ds->Option Res):Prop where
 mk::go:∀H₀ B₀ δ,PSs X st (tDS X.K H₀ B₀ δ G)
instance{X:Cx}{st:List Stmt}{G:Ds->Option Res}:CoeFun (PSsD X st G) (λ_=>∀H₀ B₀ δ,PSs X st (tDS X.K H₀ B₀ δ G)):=⟨PSsD.go⟩
section
variable{σ:St}
theorem EnvS.grow(e:EnvS K H₀ B₀ H σ δ)(s:Same H H'):EnvS K H₀ B₀ H' σ δ:=⟨e.same.trans s,let ⟨B,b1,b2,en⟩:=e.ex;⟨B,b1,b2,en.same s⟩,e.fr,e.b0⟩
end
structure Wr(idx:List Nat)(σ σ':St)(δ δ':Ds):Prop where
 len:σ'.length=σ.length
 oth:∀j,j∉idx->σ'[j]?=σ[j]?/\δ'[j]?=δ[j]?
 own:∀j∈idx,∀ds,δ'[j]?≠some (.ow ds)
def tDG(K:W.Frag)(idx:List Nat)(f:D->Ds->Option Ds)(B:BS)(d:D)(δ:Ds):TG:=λv σ H Q=>∃δ',Rp K H B d v/\Env K H B σ δ/\f d δ=some δ'/\∀σ',Wr idx σ σ' δ δ'->Env K H B σ' δ'->Q σ' H
structure PGD(X:Cx)(tg:Expr)(idx:List Nat)(f:D->Ds->Option Ds):Prop where
 mk::go:∀B d δ,PG X tg (tDG X.K idx f B d δ)
instance{X:Cx}{tg:Expr}{idx:List Nat}{f:D->Ds->Option Ds}:CoeFun (PGD X tg idx f) (λ_=>∀B d δ,PG X tg (tDG X.K idx f B d δ)):=⟨PGD.go⟩
theorem _root_.L2.PG.imp{t t':TG}(h:PG X tg t)(q:∀v σ H Q,t' v σ H Q->t v σ H Q):PG X tg t':=λpins s σ H v u Q I r z=>h pins s σ H v u Q I r (q v σ H Q z)
theorem dg0{σ:St}{v:V}{d:D}:Wr [i] σ (σ.set i (some v)) δ (δ.set i (.sh d)):=by
 refine⟨by simp,λj hj=>?_,λj hj ds h=>?_⟩
 ·have:j≠i:=by simpa using hj
  rw[List.getElem?_set_ne (C6 this),List.getElem?_set_ne (C6 this)];exact⟨rfl,rfl⟩
 ·have:j=i:=by simpa using hj
  subst this
  by_cases hl:j<δ.length
  ·rw[List.getElem?_set_self hl] at h;cases h
  ·rw[List.getElem?_eq_none (by simpa using hl)] at h;cases h
theorem o5(i:Nat){pos:Pos}(hN:X.N.Nodup)(hi:X.N[i]?=some x:=by rfl)(hx:Loc X.env.scope x:=by first|exact Or.inl rfl|exact Or.inr rfl)
  (hf:X.fn x=true∨X.env.scope.names.lookup x=some .local:=by first|exact .inl rfl|exact .inr rfl|assumption):PGD X (.Name x pos) [i] (gN i):=.mk λB d δ=>(vf0 (i:=i) hN hi hx hf).imp λv σ H Q ⟨δ',r,en,e,k⟩=>by
 cases e;exact k _ dg0 (en.set i r)
section
variable{G G1 G2 Ga Gb:Ds->Option Res}{as bs:List Stmt}
theorem u0:PSsD X [] p7:=.mk λH₀ B₀ δ pins s σ H D I ⟨r,en,e,k⟩=>by
 cases e;exact fe0 pins s σ H D I (k σ H en)
theorem v6(h1:PSD X st G1)(h2:PSsD X rest G2):PSsD X (st::rest) (v8 G1 G2):=.mk λH₀ B₀ δ pins s σ H D I ⟨r,en,e,k⟩=>by
 unfold v8 at e;cases e1:G1 δ with
 | none=>rw[e1] at e;cases e
 | some r1 =>
  rw[e1] at e;cases r1 with
  | nx δ'=>exact yn0 (h1 H₀ B₀ δ) (h2 H₀ B₀ δ') pins s σ H D I ⟨_,en,e1,fun σ' H' en'=>⟨r,en',e,k⟩⟩
  | rt d=>cases e;exact yn0 (h1 H₀ B₀ δ) yz0 pins s σ H D I ⟨_,en,e1,k⟩
  | bk δ'=>cases e;exact yn0 (h1 H₀ B₀ δ) yz0 pins s σ H D I ⟨_,en,e1,k⟩
  | ct δ'=>cases e;exact yn0 (h1 H₀ B₀ δ) yz0 pins s σ H D I ⟨_,en,e1,k⟩
  | rf d=>cases e;exact yn0 (h1 H₀ B₀ δ) yz0 pins s σ H D I ⟨_,en,e1,k⟩
theorem o9(h:PD X e g):PSD X (.Return (some e) pos) (j6 g):=.mk λH₀ B₀ δ pins s σ H D I ⟨r,en,e1,k⟩=>by
 unfold j6 at e1;obtain⟨B,b1,b2,env⟩:=en.ex;cases e2:g δ with
 | none=>rw[e2] at e1;cases e1
 | some d =>
  rw[e2] at e1;cases e1;exact qd0 (h B δ) pins s σ H D I ⟨d,env,e2,λv H' s' r=>k v H' (en.same.trans s') (r.mono (Gr.less b1))⟩
theorem EnvS.wr{σ σ':St}(e:EnvS K H₀ B₀ H σ δ)(b1:∀a,B₀ a->B a)(b2:∀a,B a->B₀ a∨H₀ a=none)(s:Same H H')(w:Wr idx σ σ' δ δ')(en:Env K H' B σ' δ'):EnvS K H₀ B₀ H' σ' δ':=by
 refine⟨e.same.trans s,⟨B,b1,b2,en⟩,λi ds a h1 h2=>?_,e.b0⟩
 by_cases hi:i∈idx
 ·exact absurd h1 (w.own i hi ds)
 ·rw[(w.oth i hi).2] at h1
  rw[(w.oth i hi).1] at h2;exact e.fr i ds a h1 h2
theorem m9{f:D->Ds->Option Ds}(h:PD X e g)(hg:PGD X tg idx f)(hs:swapsWithSole [tg] e pos.line X.env=pure false:=by rfl)(hw:swappedStores [tg] e X.env=pure none:=by rfl)
  (h1:(assignEach [tg] X.env).map (·.2)=[assign tg X.env]:=by rfl):PSD X (.Assign [tg] e pos) (m5 f g):=.mk λH₀ B₀ δ pins s σ H D I ⟨r,en,e1,k⟩=>by
 unfold m5 at e1;obtain⟨B,b1,b2,env⟩:=en.ex;cases e2:g δ with
 | none=>rw[e2] at e1;cases e1
 | some d =>
  rw[e2] at e1;simp only[Option.bind_some] at e1;cases e3:f d δ with
  | none=>rw[e3] at e1;cases e1
  | some δ' =>
   rw[e3] at e1;cases e1;exact pa0 (h B δ) (hg B d δ) hs hw h1 pins s σ H D I ⟨d,env,e2,λv H' s' r=>⟨δ',r,env.same s',e3,fun σ' w en'=>k σ' H' (en.wr b1 b2 s' w en')⟩⟩
theorem d7(hc:PTD X c gt)(ha:PSsD X as Ga)(hb:PSsD X bs Gb):PSD X (.If c as bs pos) (ifD gt Ga Gb):=.mk λH₀ B₀ δ pins s σ H D I ⟨r,en,e1,k⟩=>by
 unfold ifD at e1;obtain⟨B,b1,b2,env⟩:=en.ex;cases e2:gt δ with
 | none=>rw[e2] at e1;cases e1
 | some t =>
  rw[e2] at e1;refine cy0 (hc B δ) (ha H₀ B₀ δ) (hb H₀ B₀ δ) pins s σ H D I ⟨t,env,e2,λH' s'=>?_⟩;cases t with
  | true=>exact⟨r,en.grow s',e1,k⟩
  | false=>exact⟨r,en.grow s',e1,k⟩
structure ItD(K:W.Frag)(B:BS)(J:It)(items:List D)(H₁:Hp):Prop where
 go:∀i H,Gr H₁ H B B->i<items.length->J.go i H
 yld:∀i H x H',Gr H₁ H B B->J.yld i H x H'->i<items.length->Same H H'/\∃d,items[i]?=some d/\∀B':BS,Gr H₁ H' B B'->(∀a,B' a->NB (H a))->Rp K H' B' d x
 stop:∀i H,Gr H₁ H B B->items.length<=i->J.stop i H
def tDI(K:W.Frag)(B:BS)(δ:Ds)(g:Ds->Option (List D)):TI:=fun σ H R=>∃items,Env K H B σ δ/\g δ=some items/\∀J H',Same H H'->ItD K B J items H'->R J H'
structure PID(X:Cx)(tg e:Expr)(g:Ds->Option (List D)):Prop where
 mk::go:∀B δ,PI X tg e (tDI X.K B δ g)
instance{X:Cx}{tg e:Expr}{g:Ds->Option (List D)}:CoeFun (PID X tg e g) (λ_=>∀B δ,PI X tg e (tDI X.K B δ g)):=⟨PID.go⟩
theorem _root_.L2.PI.imp{t t':TI}(h:PI X tg e t)(q:∀σ H R,t' σ H R->t σ H R):PI X tg e t':=λpins s σ H R I z=>h pins s σ H R I (q σ H R z)
theorem G5(h:PD X e g):PID X tg e (z90 g):=.mk λB δ=>L2.PI.imp (ff0 (h B δ)) fun σ H R ⟨items,en,e1,k⟩=>by
 unfold z90 at e1;cases e2:g δ with
 | none=>rw[e2] at e1;cases e1
 | some d =>
  rw[e2] at e1;cases d<;>simp[h70] at e1
  subst e1;refine⟨_,en,e2,λv H' s' r=>?_⟩;rw[X4] at r;obtain⟨a,xs,rfl,q,rs⟩:=r;refine⟨a,rfl,⟨xs,q.to⟩,k _ H' s' ⟨λi H2 g2 hi=>?_,λi H2 x H3 g2 y hi=>?_,λi H2 g2 hi=>?_⟩⟩
  ·have:i<xs.length:=by rw[rs.length];exact hi
   exact⟨xs,xs[i],(q.mono g2).to,by simp[this]⟩
  ·obtain⟨e3,y⟩:=y
   obtain⟨x',e4,r'⟩:=rs.get (i:=i) (d:=_) (D5 hi);have:=y xs (q.mono g2).to;rw[e4] at this;cases this;subst e3;exact⟨Same.refl _,_,D5 hi,λB' gB _=>r'.mono gB⟩
  ·exact⟨xs,(q.mono g2).to,by rw[rs.length];exact hi⟩
theorem ve0(h:PD X e g):PID X tg e (tupI g):=.mk λB δ=>L2.PI.imp (du0 (h B δ)) fun σ H R ⟨items,en,e1,k⟩=>by
 unfold tupI at e1;cases e2:g δ with
 | none=>rw[e2] at e1;cases e1
 | some d =>
  rw[e2] at e1;cases d<;>simp[iq0] at e1
  subst e1;refine⟨_,en,e2,λv H' s' r=>?_⟩;rw[X3] at r;obtain⟨a,xs,rfl,q,rs⟩:=r;refine⟨a,rfl,⟨xs,q.to⟩,k _ H' s' ⟨λi H2 g2 hi=>?_,λi H2 x H3 g2 y hi=>?_,λi H2 g2 hi=>?_⟩⟩
  ·have:i<xs.length:=by rw[rs.length];exact hi
   exact⟨xs,xs[i],(q.mono g2).to,by simp[this]⟩
  ·obtain⟨e3,y⟩:=y
   obtain⟨x',e4,r'⟩:=rs.get (i:=i) (d:=_) (D5 hi);have:=y xs (q.mono g2).to;rw[e4] at this;cases this;subst e3;exact⟨Same.refl _,_,D5 hi,λB' gB _=>r'.mono gB⟩
  ·exact⟨xs,(q.mono g2).to,by rw[rs.length];exact hi⟩
theorem u90(lo hi:Int):(Y4 lo hi).length=(hi - lo).toNat:=by simp[Y4]
theorem oo0(lo hi:Int):ItD K B (Itr lo (hi - lo).toNat) (Y4 lo hi) H:=by
 refine⟨λi H2 g2 hi=>?_,λi H2 x H3 g2 y hi=>?_,λi H2 g2 hi=>?_⟩
 ·rw[u90] at hi;exact hi
 ·obtain⟨e3,rfl⟩:=y
  rw[u90] at hi;subst e3;exact⟨Same.refl _,.int (lo+i),by simp[Y4,hi],λB' gB _=>by rw[j4]⟩
 ·rw[u90] at hi;exact hi
theorem W4{a:Expr}(hm:X.mg "range"=none)(ha:PDA X [a] gA)(hg:Gl X "range" := by rfl)(hs:starEach [a] X.env=[(false,eval a X.env)]:=by rfl):PID X tg (.Call (.Name "range" p) [a] [] pos) (V8 gA) :=
 .mk λB δ=>L2.PI.imp (lm0 hg hm (ha B δ) hs) fun σ H R ⟨items,en,e1,k⟩=>by
 unfold V8 at e1;cases e2:gA δ with
 | none=>rw[e2] at e1;cases e1
 | some ds =>
  rw[e2] at e1;simp only[Option.bind_some] at e1;unfold nk0 at e1;split at e1
  ·split at e1
   ·rename_i j hj
    cases e1;refine⟨_,en,e2,λvs H' s' r=>?_⟩;rw[o7] at r;obtain⟨x,t,rfl,r1,r2⟩:=r;rw[n6] at r2;subst r2;rw[j4] at r1;subst r1;refine⟨j,rfl,hj.1,hj.2,k _ H' s' ?_⟩;have:=oo0 (K:=X.K) (B:=B) (H:=H') 0 j;rw[Int.sub_zero] at this;exact this
   ·cases e1
  ·cases e1
theorem nz0{a:Expr}{p:Pos}(hm:X.mg "range"=none)(ha:PDA X [a,b] gA)(hg:Gl X "range" := by rfl)(hs:starEach [a,b] X.env=[(false,eval a X.env),(false,eval b X.env)]:=by rfl)(hs2:starEach [b] X.env=[(false,eval b X.env)]:=by rfl) :
  PID X tg (.Call (.Name "range" p) [a,b] [] pos) (nj0 gA):=.mk λB δ=>L2.PI.imp (lj0 hg hm (ha B δ) hs hs2) fun σ H R ⟨items,en,e1,k⟩=>by
 unfold nj0 at e1;cases e2:gA δ with
 | none=>rw[e2] at e1;cases e1
 | some ds =>
  rw[e2] at e1;simp only[Option.bind_some] at e1;unfold ip0 at e1;split at e1
  ·split at e1
   ·rename_i i j hj
    cases e1;refine⟨_,en,e2,λvs H' s' r=>?_⟩;rw[o7] at r;obtain⟨x,t,rfl,r1,r2⟩:=r;rw[o7] at r2;obtain⟨y,t',rfl,r2,r3⟩:=r2;rw[n6] at r3;subst r3;rw[j4] at r1 r2;subst r1 r2;exact⟨i,j,rfl,⟨hj.1.1,hj.1.2,hj.2.1,hj.2.2⟩,k _ H' s' (oo0 i j)⟩
   ·cases e1
  ·cases e1
theorem EnvS.lower{H₁:Hp}{σ:St}(e:EnvS K H₁ B₀ H σ δ)(s:Same H₀ H₁)(b0:∀a,B₀ a->NB (H₀ a)):EnvS K H₀ B₀ H σ δ:=by
 obtain⟨B,b1,b2,en⟩:=e.ex;exact⟨s.trans e.same,⟨B,b1,λa z=>(b2 a z).imp id λq=>s.free q,en⟩,λi ds a h1 h2=>s.free (e.fr i ds a h1 h2),b0⟩
open Classical in
theorem S6{f:D->Ds->Option Ds}(hp:PassesOwn (model X.prog X.w) X.A X.env X.xe)(hc:X.calm=true)(hi:PID X tg iter gi)(hg:PGD X tg idx f)(hb:PSsD X body G)
  (hs:∀x,foldedSetIterable iter X.env x=pure x:=by intro _;rfl):PSD X (.For tg iter body [] pos) (R7 gi f G):=.mk λH₀ B₀ δ pins s σ H D I ⟨r,en,e1,k⟩=>by
 unfold R7 at e1;obtain⟨B,b1,b2,env⟩:=en.ex;cases e2:gi δ with
 | none=>rw[e2] at e1;cases e1
 | some items =>
  rw[e2] at e1;simp only[Option.bind_some] at e1;have a2:PG X tg (λv σ H Q=>∃B d δ,tDG X.K idx f B d δ v σ H Q):=λpins s σ H v u Q I r ⟨B,d,δ,h⟩=>hg B d δ pins s σ H v u Q I r h
  have a1:PSs X body (λD σ H=>∃H₀ B₀ δ,tDS X.K H₀ B₀ δ G D σ H):=λpins s σ H D I ⟨H₀,B₀,δ,h⟩=>hb H₀ B₀ δ pins s σ H D I h
  refine ew0 hp hc (hi B δ) a2 a1 hs pins s σ H D I ⟨items,env,e2,λJ H1 s1 it=>?_⟩;obtain⟨Hh,U⟩:∃Hh:Hp,Hh=λb=>if B b/\¬B₀ b then none else H1 b:=⟨_,rfl⟩
  have S:∀b,¬B b->Hh b=H1 b:=λb n=>by rw[U];exact if_neg λz=>n z.1
  have M:∀b,B b->¬B₀ b->Hh b=none:=λb n n'=>by rw[U];exact if_pos ⟨n,n'⟩
  have Z:∀b,B₀ b->Hh b=H1 b:=λb n=>by rw[U];exact if_neg λz=>z.2 n
  have a4:Same Hh H1:=λb o h=>by
   by_cases z:B b/\¬B₀ b
   ·rw[M b z.1 z.2] at h;cases h
   ·rw[U] at h
    have h':(if B b/\¬B₀ b then none else H1 b)=some o:=h;rw[if_neg z] at h';exact h'
  have hS:Same H₀ Hh:=λb o h=>by
   have h1:=s1 b o (en.same b o h)
   by_cases z:B b
   ·rcases b2 b z with q|q
    ·rw[Z b q];exact h1
    ·rw[h] at q;cases q
   ·rw[S b z];exact h1
  have O:=env.same s1;have start:EnvS X.K Hh B₀ H1 σ δ:=by
   refine⟨a4,⟨B,b1,λa z=>?_,O⟩,λi ds a h1 h2=>?_,λa z=>?_⟩
   ·by_cases q:B₀ a
    ·exact .inl q
    ·exact .inr (M a z q)
   ·have hn:=en.fr i ds a h1 h2
    have nb:¬B₀ a:=λz=>en.b0 a z hn
    obtain⟨o,e3,a',e4,hB,_⟩:=Pd.get O.all h1;rw[h2] at e3;cases e3;cases e4;exact M a hB nb
   ·rw[Z a z]
    exact O.bad a (b1 a z)
  refine⟨λi m σ H=>m=items.length - i/\i<=items.length/\∃δi,EnvS X.K Hh B₀ H σ δi/\X8 f G (items.drop i) δi=some r,⟨_,rfl,K2 _,δ,start,e1⟩,?_⟩;rintro i m σi Hi ⟨rfl,a6,δi,F,ei⟩;have gr:Gr H1 Hi B B:=λb o n h=>⟨n,F.same b o (by rw[S b n];exact h)⟩
  by_cases hlt:i<items.length
  ·refine .inr ⟨it.go i Hi gr hlt,fun σ' H'=>∃δn,EnvS X.K Hh B₀ H' σ' δn/\X8 f G (items.drop (i+1)) δn=some r,fun σ' H' ⟨δn,en',e'⟩=>⟨items.length - (i+1),by omega,rfl,hlt,δn,en',e'⟩,λx H' y=>?_⟩
   obtain⟨sm,d,hd,rd⟩:=it.yld i Hi x H' gr y hlt;obtain⟨B',c1,c2,env0⟩:=F.ex;have a3:Rp X.K H' B' d x:=rd B' (λb o n h=>by
    have h':Hh b=some o:=by rw[S b n];exact h
    refine⟨λz=>?_,sm b o (F.same b o h')⟩;rcases c2 b z with q|q
    ·exact n (b1 b q)
    ·rw[h'] at q;cases q) env0.bad
   have a0:=env0.same sm
   replace F:=F.grow sm
   have Y:items.drop i=d::items.drop (i+1):=by
    rw[List.drop_eq_getElem_cons hlt];congr 1;rw[List.getElem?_eq_getElem hlt] at hd;exact B1 hd
   rw[Y] at ei;unfold X8 at ei;cases e3:f d δi with
   | none=>rw[e3] at ei;cases ei
   | some δ2 =>
    rw[e3] at ei;simp only[Option.bind_some] at ei;refine⟨B',d,δi,δ2,a3,a0,e3,fun σ' w en'=>?_⟩;have a5:EnvS X.K Hh B₀ H' σ' δ2:=F.wr c1 c2 (Same.refl _) w en';cases e4:G δ2 with
    | none=>rw[e4] at ei;cases ei
    | some rb =>
     rw[e4] at ei;refine⟨Hh,B₀,δ2,rb,a5,e4,?_⟩;cases rb with
     | nx δn=>exact fun σ' H' en'=>⟨δn,en',ei⟩
     | ct δn=>exact fun σ' H' en'=>⟨δn,en',ei⟩
     | bk δn =>
      cases ei;exact fun σ' H' en'=>k σ' H' (en'.lower hS en.b0)
     | rt d' =>
      cases ei;exact λv H' s' r'=>k v H' (hS.trans s') r'
     | rf d' =>
      cases ei;exact λp H' hp s' r'=>k p H' (hS.free hp) (hS.trans s') r'
  ·have e:i=items.length:=by omega
   subst e;refine .inl ⟨it.stop _ Hi gr (A4 _),?_⟩;rw[List.drop_length] at ei;cases ei;exact k σi Hi (F.lower hS en.b0)
structure PFD(X:Cx)(ifs:List Expr)(g:Ds->Option Bool):Prop where
 mk::go:∀B δ,PF X ifs (tDT X.K B δ g)
instance{X:Cx}{ifs:List Expr}{g:Ds->Option Bool}:CoeFun (PFD X ifs g) (λ_=>∀B δ,PF X ifs (tDT X.K B δ g)):=⟨PFD.go⟩
theorem O7:PFD X [] noT:=.mk λB δ pins s σ H Q I ⟨b,en,e,k⟩=>by
 cases e;exact e30 pins s σ H Q I (k H (Same.refl H))
theorem gl0(h:PTD X c gt):PFD X [c] gt:=.mk λB δ=>dv0 (h B δ)
theorem jo0{σ:St}(h:j<n):(R4 n caps σ)[j]?=some none:=by
 unfold R4;rw[List.getElem?_append_left (by simpa using h),List.getElem?_replicate,if_pos h]
theorem uo0:∀n:Nat,Paired (SlR K H B) (List.replicate n (none:Option V)) (List.replicate n Sl.un)
 | 0=>.nil
 | n+1=>.cons trivial (uo0 n)
theorem qh0{σ:St}(en:Env K H B σ δ):∀caps:List Nat,Paired (SlR K H B) (caps.map λj=>(σ[j]?).join) (caps.map λj=>r00 δ[j]?)
 | []=>.nil
 | j::caps=>by
  refine .cons ?_ (qh0 en caps);show SlR K H B (σ[j]?).join (r00 δ[j]?);cases h:δ[j]? with
  | none=>trivial
  | some sl =>
   cases sl with
   | un=>trivial
   | ow ds=>trivial
   | ex c n=>trivial
   | sh d =>
    obtain⟨v,e,r⟩:=en.get h;rw[e];exact⟨v,rfl,r⟩
theorem i80{o:Option Sl}{ds:D}(h:r00 o=.ow ds):False:=by
 cases o with
 | none=>cases h
 | some s=>cases s<;>cases h
theorem ug0{ds:D}(h:(zj0 n caps δ)[i]?=some (.ow ds)):False:=by
 unfold zj0 at h
 by_cases hi:i<n
 ·rw[List.getElem?_append_left (by simpa using hi),List.getElem?_replicate,if_pos hi] at h
  cases h
 ·rw[List.getElem?_append_right (by simpa using hi),List.getElem?_map] at h
  cases q:caps[i - (List.replicate n Sl.un).length]? with
  | none=>rw[q] at h;cases h
  | some j =>
   rw[q] at h;exact i80 (B1 h)
theorem Env.comp{σ:St}(en:Env K H B σ δ)(n:Nat)(caps:List Nat):Env K H B (R4 n caps σ) (zj0 n caps δ) :=
 ⟨Pd.app (uo0 n) (qh0 en caps),en.bad,λi j a ds es h1 _ _ _=>(ug0 h1).elim⟩
theorem SlR.gr{o:Option V}{s:Sl}(g:Gr H H' B B')(no:∀ds,s≠.ow ds)(h:SlR K H B o s):SlR K H' B' o s:=by
 cases s with
 | un=>trivial
 | sh d=>obtain⟨v,e,r⟩:=h;exact⟨v,e,r.mono g⟩
 | ow ds=>exact absurd rfl (no ds)
 | ex c n=>obtain⟨a,e,r⟩:=h;exact⟨a,e,r.mono g⟩
theorem Pd.impG(g:Gr H H' B B'):∀{σ:St} {δ:Ds},(∀(i:Nat) (ds:D),δ[i]?≠some (.ow ds))->Paired (SlR K H B) σ δ->Paired (SlR K H' B') σ δ
 | _,_,_,.nil=>.nil
 | _,_,no,.cons r t=>.cons (r.gr g λds z=>no 0 ds (by rw[← z];rfl)) (Pd.impG g (λi ds z=>no (i+1) ds (by simpa using z)) t)
def tDF(K:W.Frag)(B:BS)(δ:Ds)(g:Ds->Option D):TE:=fun σ H Q=>∃d,Env K H B σ δ/\g δ=some d/\∀p H',H p=none->Same H H'->RpO K H' (λa=>B a∨a=p) d p->Q (.ref p) H'
structure PDF(X:Cx)(e:Expr)(g:Ds->Option D):Prop where
 mk::go:∀B δ,PE X e (tDF X.K B δ g)
instance{X:Cx}{e:Expr}{g:Ds->Option D}:CoeFun (PDF X e g) (λ_=>∀B δ,PE X e (tDF X.K B δ g)):=⟨PDF.go⟩
theorem tD.toF{σ:St}{Q:VK}(h:tD K B δ g σ H Q):tDF K B δ g σ H Q:=by
 obtain⟨d,en,e,k⟩:=h;exact⟨d,en,e,λp H' hp s r=>k _ H' s (r.rp (λa z=>.inl z) (en.free hp))⟩
theorem PDF.pd(h:PDF X e g):PD X e g:=.mk λB δ=>(h B δ).imp fun σ H Q z=>z.toF
theorem mo0{K:W.Frag}{B:BS}{δ:Ds}{σ:St}{H:Hp}{Q:VK}{caps:List Nat}{gi:Ds->Option (List D)}{f:D->Ds->Option Ds}{gt:Ds->Option Bool}{ge:Ds->Option D}(hidx:∀j∈idx,j<n)
  (h:tDF K B δ (V4 n caps gi f gt ge) σ H Q) :
  ii0 n caps (tDI K B δ gi) (λv σ H Q=>∃B d δ,tDG K idx f B d δ v σ H Q) (fun σ H Q=>∃B δ,tDT K B δ gt σ H Q) (fun σ H Q=>∃B δ,tD K B δ ge σ H Q) σ H Q:=by
 obtain⟨d,en,h,k⟩:=h;unfold V4 at h;cases e1:gi δ with
 | none=>rw[e1] at h;cases h
 | some items =>
  rw[e1] at h;simp only[Option.bind_some] at h
  by_cases hsz:items.length<=sizeLine
  ·rw[if_pos hsz] at h
   cases e2:V5 f gt ge (zj0 n caps δ) items with
   | none=>rw[e2] at h;cases h
   | some out =>
    rw[e2] at h;cases h;refine⟨items,en,e1,λJ H1 s1 it=>λL hL=>?_⟩;have O:=en.same s1;have a4:¬B L:=O.free hL;obtain⟨Bp,F⟩:∃Bp:BS,Bp=λa=>B a∨a=L:=⟨_,rfl⟩
    have a1:Bp L:=by rw[F];exact .inr rfl
    have a5:∀a,B a->Bp a:=λa z=>by rw[F];exact .inl z
    have U:∀a,Bp a->B a∨a=L:=λa z=>by rw[F] at z;exact z
    have gr:∀{H2:Hp},Same H1 H2->Gr H1 H2 B Bp:=λ{H2} s2 b o nb hb=>⟨(λz=>by
     rcases U b z with q|q
     ·exact nb q
     ·subst q;rw[hL] at hb;cases hb),s2 b o hb⟩
    refine⟨λi m ys H2=>m=items.length - i/\i<=items.length/\H2 L=some (.lst ys)/\Same H1 H2/\ys.length<=i/\∃pre rest,out=pre++rest/\Rps K H2 Bp pre ys/\V5 f gt ge (zj0 n caps δ) (items.drop i)=some rest,
     ⟨_,rfl,K2 _,Z8,Z7 hL,A4 _,[],out,rfl,by rw[n6],e2⟩,?_⟩
    rintro i m ys H2 ⟨rfl,a6,hD,s2,a7,pre,rest,ho,rp,ec⟩;have M:Env K H2 Bp (R4 n caps σ) (zj0 n caps δ):=by
     refine⟨Pd.impG (gr s2) (λi ds z=>ug0 z) (O.comp n caps).all,λa z=>?_,λi j a ds es h1 _ _ _=>(ug0 h1).elim⟩;rcases U a z with q|q
     ·exact(O.same s2).bad a q
     ·subst q;rw[hD];exact .of rfl (λ_ _ z=>nomatch z) λ_ z=>nomatch z
    by_cases hlt:i<items.length
    ·refine .inr ⟨it.go i H2 (Gr.same s2) hlt,λx H3 y=>?_⟩
     obtain⟨sm,dx,Y,rx⟩:=it.yld i H2 x H3 (Gr.same s2) y hlt;have a3:Rp K H3 Bp dx x:=rx Bp (gr (s2.trans sm)) M.bad
     replace M:=M.same sm
     replace s2:=s2.trans sm
     replace hD:=sm _ _ hD
     replace rp:=rp.same sm
     have S:items.drop i=dx::items.drop (i+1):=by
      rw[List.drop_eq_getElem_cons hlt];congr 1;rw[List.getElem?_eq_getElem hlt] at Y;exact B1 Y
     rw[S] at ec;unfold V5 at ec;cases e3:f dx (zj0 n caps δ) with
     | none=>rw[e3] at ec;cases ec
     | some δ' =>
      rw[e3] at ec;dsimp only at ec;refine⟨Bp,dx,zj0 n caps δ,δ',a3,M,e3,fun σ4 w en4=>⟨⟨w.len,λj v z=>?_⟩,?_⟩⟩
      ·by_cases hj:j∈idx
       ·rw[jo0 (hidx j hj)] at z;cases z
       ·rw[(w.oth j hj).1];exact z
      ·cases e4:gt δ' with
       | none=>rw[e4] at ec;cases ec
       | some t =>
        rw[e4] at ec;refine⟨Bp,δ',t,en4,e4,λH5 s5=>?_⟩;cases t with
        | false =>
         rw[if_neg B9];exact⟨items.length - (i+1),by omega,rfl,hlt,s5 _ _ hD,s2.trans s5,by omega,pre,rest,ho,rp.same s5,ec⟩
        | true =>
         rw[if_pos rfl];dsimp only at ec;cases e5:ge δ' with
         | none=>rw[e5] at ec;cases ec
         | some yd =>
          rw[e5] at ec;dsimp only at ec;cases e6:V5 f gt ge (zj0 n caps δ) (items.drop (i+1)) with
          | none=>rw[e6] at ec;cases ec
          | some rest' =>
           rw[e6] at ec;cases ec;refine⟨Bp,δ',yd,en4.same s5,e5,λv H6 s6 r6=>?_⟩;have Z:H6 L=some (.lst ys):=s6 _ _ (s5 _ _ hD);have g6:Gr H6 (upd H6 L (.lst (ys++[v]))) Bp Bp:=λb o nb hb=>⟨nb,by
            rw[Z0 (λz=>nb (by rw[z];exact a1))];exact hb⟩
           refine⟨Z,by omega,items.length - (i+1),by omega,rfl,hlt,Z8,λb o hb=>?_,by simp;omega,pre++[yd],rest',by rw[ho];simp,?_,e6⟩
           ·have a0:b≠L:=λz=>by rw[z,hL] at hb;cases hb
            rw[Z0 a0];exact s6 _ _ (s5 _ _ (s2 _ _ hb))
           ·exact(Rps.snoc ((rp.same s5).same s6) r6).mono g6
    ·have e:i=items.length:=by omega
     subst e;refine .inl ⟨it.stop _ H2 (Gr.same s2) (A4 _),?_⟩;rw[List.drop_length] at ec;have a2:([]:List D)=rest:=B1 ec;subst a2;rw[List.append_nil] at ho;subst ho;refine k L H2 (s1.free hL) (s1.trans s2) ⟨ys,hD,?_⟩;rw[F] at rp;exact rp
  ·rw[if_neg hsz] at h;cases h
theorem pq0{sc scope:Scope}{elt iter:Expr}{ifs:List Expr}{N':List Str}{n:Nat}{caps:List Nat}{gi:Ds->Option (List D)}{idx:List Nat}{f:D->Ds->Option Ds}{ge:Ds->Option D}
  (hc:X.calm=true) (hsc:X.env.scope=sc) (ok:CompOk sc scope X.N N' n caps) (hidx:∀j∈idx,j<n) (hi:PID X tg iter gi)
  (hg:∀cl s H ex,PGD (W7 X scope cl N' s H ex) tg idx f) (ht:∀cl s H ex,PFD (W7 X scope cl N' s H ex) ifs gt) (he:∀cl s H ex,PD (W7 X scope cl N' s H ex) elt ge)
  (hs:∀x,foldedSetIterable iter X.env x=pure x:=by intro _;rfl) :
  PDF X (.ListComp elt [⟨tg,iter,ifs,0⟩] scope pos) (V4 n caps gi f gt ge):=.mk λB δ =>
 (gi0 hc hsc ok (hi B δ) (g:=λv σ H Q=>∃B d δ,tDG X.K idx f B d δ v σ H Q) (tt:=fun σ H Q=>∃B δ,tDT X.K B δ gt σ H Q) (te:=fun σ H Q=>∃B δ,tD X.K B δ ge σ H Q)
  (λcl s H ex pins s' σ H v u Q I r ⟨B,d,δ,h⟩=>hg cl s _ ex B d δ pins s' σ H v u Q I r h)
  (λcl s H ex pins s' σ H Q I ⟨B,δ,h⟩=>ht cl s _ ex B δ pins s' σ H Q I h)
  (λcl s H ex pins s' σ H Q I ⟨B,δ,h⟩=>he cl s _ ex B δ pins s' σ H Q I h) hs).imp fun σ H Q h=>mo0 hidx h
theorem gy0{sc scope:Scope}{elt iter:Expr}{ifs:List Expr}{N':List Str}{n:Nat}{caps:List Nat}{gi:Ds->Option (List D)}{idx:List Nat}{f:D->Ds->Option Ds}{ge:Ds->Option D}
  (hc:X.calm=true) (hsc:X.env.scope=sc) (ok:CompOk sc scope X.N N' n caps) (hidx:∀j∈idx,j<n) (hi:PID X tg iter gi)
  (hg:∀cl s H ex,PGD (W7 X scope cl N' s H ex) tg idx f) (ht:∀cl s H ex,PFD (W7 X scope cl N' s H ex) ifs gt) (he:∀cl s H ex,PD (W7 X scope cl N' s H ex) elt ge)
  (hs:∀x,foldedSetIterable iter X.env x=pure x:=by intro _;rfl) :
  PD X (.ListComp elt [⟨tg,iter,ifs,0⟩] scope pos) (V4 n caps gi f gt ge):=(pq0 hc hsc ok hidx hi hg ht he hs).pd
end
theorem v80{N:List Str}:∀{ds:List D} {vs:List V},Rps K H B ds vs->Paired (SlR K H B) (vs.map some) (ds.map Sl.sh)
 | [],_,h=>by rw[n6] at h;subst h;exact .nil
 | d::ds,_,h=>by
  rw[o7] at h;obtain⟨x,r,rfl,h1,h2⟩:=h;exact .cons ⟨x,rfl,h1⟩ (v80 (N:=N) h2)
theorem yx0{es:D}(h:(W3 N ds)[i]?=some (.ow es)):False:=by
 unfold W3 at h
 by_cases hi:i<ds.length
 ·rw[List.getElem?_append_left (by simpa using hi),List.getElem?_map] at h
  cases q:ds[i]? with
  | none=>rw[q] at h;cases h
  | some d=>rw[q] at h;cases h
 ·rw[List.getElem?_append_right (by simpa using hi),List.getElem?_replicate] at h
  split at h<;>cases h
section
variable{P:Program}{w:World}
theorem okD{ps:List Str}{k:Nat}{f:List D->Option D}{G:Ds->Option Res}(F:Fun K x qual st fa fd)(S:FnScope N ps (p8 st))
  (body:∀(cdv:Value) (A:Around) (outer:List PySem.Env) (s:Shared) (H:Hp) (E:XK),Room k (A.deeper (envOfC qual (p8 st) s.heap.objs.size fa cdv))->PSsD (wg0 CX0 P w K mg base N qual (p8 st) fa cdv A outer s H E).nox (j9 st) G)
  (hf:∀ds d,f ds=some d->ds.length=ps.length/\(G (W3 N ds)=some (.rt d)∨(d=.non/\∃δ,G (W3 N ds)=some (.nx δ))∨G (W3 N ds)=some (.rf d)/\isL d=false)) :
  FnOk P w K mg base CX0 (k+1) fa fd ps (spD K f):=by
 refine F.ok S (λvs H Q E ⟨B,ds,d,_,r,h,_⟩=>?_) (λcdv A outer s H vs Q E hr ⟨B,ds,d,hb,r,h,q⟩=>?_)
 ·rw[r.length];exact(hf ds d h).1
 ·refine⟨_,body cdv A outer s H E hr H B (W3 N ds),?_⟩
  have en:EnvS K H B H (L2.start N vs) (W3 N ds):=by
   refine⟨Same.refl H,⟨B,λ_ z=>z,λ_ z=>.inl z,⟨?_,hb,λi j a J es h1 _ _ _=>(yx0 h1).elim⟩⟩,λi J a h1 _=>(yx0 h1).elim,hb⟩;unfold L2.start W3;rw[r.length];exact Pd.app (v80 (N:=N) r) (uo0 _)
  rcases (hf ds d h).2 with e|⟨rfl,δ,e⟩|⟨e,hn⟩
  ·exact⟨_,en,e,λv H' s' r'=>q v H' s' r'⟩
  ·exact⟨_,en,e,fun σ' H' en'=>q .non H' en'.same (by rw[R8])⟩
  ·exact⟨_,en,e,λp H' hp s' r'=>q _ H' s' ((r'.toO hn).rp (λa z=>.inl z) (λz=>hb p z hp))⟩
def spN(K:W.Frag)(f:List D->Option D):Sp:=λvs H Q _=>∃(B:BS) (ds:List D) (d:D),(∀a,B a->NB (H a))/\Rps K H B ds vs/\f ds=some d/\∀p H',H p=none->Same H H'->RpO K H' (λa=>B a∨a=p) d p->Q (.ref p) H'
theorem okN{ps:List Str}{k:Nat}{f:List D->Option D}{G:Ds->Option Res}(F:Fun K x qual st fa fd)(S:FnScope N ps (p8 st))
  (body:∀(cdv:Value) (A:Around) (outer:List PySem.Env) (s:Shared) (H:Hp) (E:XK),Room k (A.deeper (envOfC qual (p8 st) s.heap.objs.size fa cdv))->PSsD (wg0 CX0 P w K mg base N qual (p8 st) fa cdv A outer s H E).nox (j9 st) G)
  (hf:∀ds d,f ds=some d->ds.length=ps.length/\G (W3 N ds)=some (.rf d)/\isL d=false) :
  FnOk P w K mg base CX0 (k+1) fa fd ps (spN K f):=by
 refine F.ok S (λvs H Q E ⟨B,ds,d,_,r,h,_⟩=>?_) (λcdv A outer s H vs Q E hr ⟨B,ds,d,hb,r,h,q⟩=>?_)
 ·rw[r.length];exact(hf ds d h).1
 ·refine⟨_,body cdv A outer s H E hr H B (W3 N ds),?_⟩
  have en:EnvS K H B H (L2.start N vs) (W3 N ds):=by
   refine⟨Same.refl H,⟨B,λ_ z=>z,λ_ z=>.inl z,⟨?_,hb,λi j a J es h1 _ _ _=>(yx0 h1).elim⟩⟩,λi J a h1 _=>(yx0 h1).elim,hb⟩;unfold L2.start W3;rw[r.length];exact Pd.app (v80 (N:=N) r) (uo0 _)
  exact⟨_,en,(hf ds d h).2.1,λp H' hp s' r'=>q p H' hp s' (r'.toO (hf ds d h).2.2)⟩
end
end DL
namespace L2
open Spec PyProof.Rows
theorem qs0:∀{bs:List Bool} {us:List Value} {i:Nat} {v:Value},Vals (bs.map V.bl) us->us[i]?=some v->v=.bool (bs.getD i true)
 | [],_,_,_,r,e=>by
  rw[List.map_nil] at r;cases r;simp at e
 | b::bs,_,0,v,r,e=>by
  rw[List.map_cons] at r;cases r with
  | cons r1 r2=>simp at e;subst e;exact r1
 | b::bs,_,i+1,v,r,e=>by
  rw[List.map_cons] at r;cases r with
  | cons r1 r2=>simpa using qs0 (i:=i) r2 (by simpa using e)
theorem all_range(bs:List Bool):(List.range bs.length).all (λi=>bs.getD i true)=bs.all id:=by
 rw[Bool.eq_iff_iff,List.all_eq_true,List.all_eq_true];constructor
 ·intro h b hb
  obtain⟨i,hi,rfl⟩:=E5.mp hb;have:=h i (D3.mpr hi)
  simpa [Av0,hi] using this
 ·intro h i hi
  have F:=D3.mp hi;have:=h bs[i] (C8 F)
  simpa [Av0,F] using this
theorem i20(hc:X.calm=true):CallR X (.builtin "all") (λxs H Q=>∃(p:Addr) (bs:List Bool),xs=[.ref p]/\SqL X.K H p (bs.map V.bl)/\Q (.bl (bs.all id)) H):=by
 intro pins s σ H xs us Q I rs h;obtain⟨p,bs,rfl,hq,q⟩:=h;obtain⟨u,rfl,ru⟩:=rs.one;cases ru;obtain⟨its,rv,pl,hz⟩:=I.list hq;refine call_all_walk (m4 pl.isList ?_);have hp:p≠s.heap.objs.size:=by
  obtain⟨o,n,e,_⟩:=pl;exact B6 (A6 e)
 refine⟨_,_,_,_,_,_,λi=>bs.getD i true,rfl,Walks.list (A:=X.A.in1) (I.ok.hd hc) s.heap.objs.size p hp its.toArray,⟨⟨_,B5 _ rfl,rfl,rfl⟩,pl.isList.push _⟩,?_,?_⟩
 ·intro i v s' Q' E' hP hQ
  have e:=qs0 rv (i:=i) (v:=v) (by simpa using hP);subst e;exact L5 hQ
 ·intro h' tk hk
  have e1:its.toArray.size=bs.length:=by
   have:=rv.length;simp at this;simp[this]
  rw[e1,all_range];refine⟨.bl (bs.all id),H,I.kept (t':=tk) λb o e=>?_,rfl,q⟩;refine hk b o ?_ (A7 _ e);intro z;have z':b=s.heap.objs.size:=by simpa using z
  subst z';exact absurd (A6 e) (E1 _)
theorem q10:∀{ys:List Str} {us:List Value},Vals (ys.map V.str) us->StrsAre us ys
 | [],_,r=>by rw[List.map_nil] at r;cases r;exact .nil
 | y::ys,_,r=>by
  rw[List.map_cons] at r;cases r with
  | cons r1 r2 =>
   obtain⟨t,e⟩:=r1;subst e;exact .cons y t (q10 r2)
theorem gv0:MtR X "str.join" (λx xs H Q=>∃(sep:Str) (p:Addr) (ys:List Str),x=.str sep/\xs=[.ref p]/\SqL X.K H p (ys.map V.str)/\(ys.map (·.length)).sum+ys.length*sep.length<=16777216/\Q (.str (Txt.join sep ys)) H):=by
 intro pins s σ H x xs v us Q I rx rs h;obtain⟨sep,p,ys,rfl,rfl,hq,hz,q⟩:=h;obtain⟨t,rfl⟩:=rx;obtain⟨u,rfl,ru⟩:=rs.one;cases ru;obtain⟨its,rv,pl,_⟩:=I.list hq;exact join_list pl.isList (by simpa using q10 rv) hz λt' k=>⟨.str _,H,I.tok k,⟨t',rfl⟩,q⟩
theorem part_of{o:Option Int}(p:IsPart u o):∃l:Option (Int×Tok),u=partValue l/\l.map (·.1)=o:=by
 cases p with
 | none=>exact⟨none,rfl,rfl⟩
 | int i t=>exact⟨some (i,t),rfl,rfl⟩
theorem dp0:SlR X (λx lo hi H Q=>∃z,x=.str z/\z.length<=sizeLine/\Q (.str (Txt.slice z lo hi)) H):=by
 intro pins s σ H x v vl vu lo hi sl Q I rx hs pl pu h;obtain⟨z,rfl,hz,q⟩:=h;obtain⟨t,rfl⟩:=rx;obtain⟨l,rfl,rfl⟩:=part_of pl;obtain⟨u,rfl,rfl⟩:=part_of pu;refine⟨"str",_,F.slot_str_getitem.lookup,P1 _ _ _,wpAny_getItem_str_slice (l:=l) (u:=u) (st:=none) ?_ rfl (post_val_or_str ⟨B7 (Txt.slice_le z _ _) hz,λt' k=>⟨.str _,H,I.tok k,⟨t',rfl⟩,q⟩⟩)⟩;obtain⟨o,h1,h2,h3⟩:=hs;exact⟨o,h1,h2,h3⟩
end L2
namespace DL
open Spec PyProof.Rows L2
def tyD:D->String
 | .non => "NoneType"|.bl _ => "bool"|.int _ => "int"|.str _ => "str"|.tup _ => "tuple"|.lst _ => "list"|.dct _ _ => "dict"|.fn _ _ => "function"
def okT(T:String)(f:D->Bool):Prop:=∀(K:W.Frag) (d:D),W.kitOne K (.type (tyD d)) (.type T)=some (f d)
theorem jk0:okT "bool" isBool:=λK d=>by cases d<;>kernel_rfl
theorem y70:okT "tuple" isTup:=λK d=>by cases d<;>kernel_rfl
section
theorem jn0{T:String}{f:D->Bool}(hT:okT T f):CallR X (.builtin "isinstance") (λxs H Q=>∃B d x,xs=[x,.ty T]/\Rp X.K H B d x/\Q (.bl (f d)) H):=by
 intro pins s σ H xs us Q I rs h;obtain⟨B,d,x,rfl,r,q⟩:=h;obtain⟨u,c,rfl,ru,rc⟩:=rs.two;obtain rfl:c=Value.type T:=rc;have F:∀tk,EP X pins σ Q (.bool (f d)) { s with toks:=tk }:=λtk=>⟨.bl _,H,I.tok tk,rfl,q⟩
 have e:=hT X.K d;cases d with
 | non=>rw[R8] at r;subst r;cases (show u=Value.none from ru);exact E6 W.kitx_none I.kIn True.intro e (λz=>nomatch z) F
 | bl y=>rw[X7] at r;subst r;cases (show u=Value.bool y from ru);exact E6 W.kitx_bool I.kIn True.intro e (λz=>nomatch z) F
 | int i=>rw[j4] at r;subst r;obtain⟨t,rfl⟩:=(show ∃t,u=Value.int i t from ru);exact E6 W.kitx_int I.kIn True.intro e (λz=>nomatch z) F
 | str y=>rw[Y7] at r;subst r;obtain⟨t,rfl⟩:=(show ∃t,u=Value.str y t from ru);exact E6 W.kitx_str I.kIn True.intro e (λz=>nomatch z) F
 | tup ds =>
  rw[X3] at r;obtain⟨a,xs,rfl,hq,_⟩:=r;cases (show u=Value.ref a from ru);obtain⟨its,_,p,_⟩:=I.tuple hq.to;obtain⟨o,h1,h2,_⟩:=p;exact E6 W.kitx_tuple I.kIn ⟨o,h1,h2⟩ e (λz=>nomatch z) F
 | lst ds =>
  rw[X4] at r;obtain⟨a,xs,rfl,hq,_⟩:=r;cases (show u=Value.ref a from ru);obtain⟨its,_,p,_⟩:=I.list hq.to;obtain⟨o,n,h1,h2,_⟩:=p;exact E6 W.kitx_list I.kIn ⟨o,h1,h2⟩ e (λz=>nomatch z) F
 | dct ks ds =>
  rw[xk0] at r;obtain⟨a,xs,rfl,_,hq,_⟩:=r;cases (show u=Value.ref a from ru);cases ks with
  | inl ks =>
   obtain⟨_,_,vs,_,p⟩:=(show ObjOk X.prog X.w H s.heap a (.dK (ks.zip xs)) from I.hok a _ hq);obtain⟨o,es,ep,h1,h2,_⟩:=p;exact E6 W.kitx_dict I.kIn ⟨o,h1,h2.1⟩ e (λz=>nomatch z) F
  | inr ks =>
   obtain⟨_,_,vs,_,o,es,ep,h1,h2,_⟩:=(show ObjOk X.prog X.w H s.heap a (.dT (ks.zip xs)) from I.hok a _ hq);exact E6 W.kitx_dict I.kIn ⟨o,h1,h2.1⟩ e (λz=>nomatch z) F
 | fn ks ds =>
  rw[im0] at r;obtain⟨a,xs,rfl,hq,_⟩:=r;cases (show u=Value.ref a from ru);obtain⟨oF,_,_,_,_,_,_,_,_,⟨_,h1⟩,⟨h2,_⟩,_⟩:=hq;exact E6 KfT.kit I.kIn ⟨oF,(I.hok a _ h1).1,h2⟩ e (λz=>nomatch z) F
theorem xd0{T:String}{f:D->Bool}{Tn:Str}{p p2 pos:Pos}(hT:okT T f)(hb:bootBuiltins Tn=some (.type T))(hm:X.mg "isinstance"=none)(hmT:X.mg Tn=none)(h:PD X e g)(hg:Gl X "isinstance" := by rfl)(hgT:Gl X Tn:=by rfl)
  (hn:Tn ≠"__name__" := by decide) (hd:(Tn==("__debug__" : Str))=false:=by decide)
  (he:starEach [e,.Name Tn p2] X.env=(false,eval e X.env)::starEach [.Name Tn p2] X.env:=by rfl) (he2:starEach [.Name Tn p2] X.env=(false,eval (.Name Tn p2) X.env)::starEach [] X.env:=by rfl)
  (hpl:(backTo pos (starEach [.Name Tn p2] X.env)).any (·.1)=false:=by rfl) :
  PD X (.Call (.Name "isinstance" p) [e,.Name Tn p2] [] pos) (M9 f g) :=
 .mk λB δ=>(u50 (jn0 hT) hg hm PyProof.Rows.boot_isinstance (J5 (h B δ) (J5 (ho0 (v:=.ty T) hgT hmT hb rfl hn hd) yj0 he2) he) (by decide) (by decide) he hpl).imp fun σ H Q ⟨d,en,h,k⟩=>by
  unfold M9 at h;cases e1:g δ with
  | none=>rw[e1] at h;cases h
  | some x =>
   rw[e1] at h;cases h;exact⟨x,en,e1,λv H1 s1 r1=>⟨B,x,v,rfl,r1,k _ H1 s1 (by rw[X7])⟩⟩
theorem qc0{C:Int->Int->Prop}[∀i j,Decidable (C i j)]{g:Int->Int->V}{g':Int->Int->D}(hg:∀i j H B,Rp K H B (g' i j) (g i j)):Op2 K (rI C g) (ii λi j=>if C i j then some (g' i j) else none):=by
 intro H B x y dx dy d Q hb rx ry h k;cases dx<;>cases dy<;>simp only[ii] at h<;>try cases h
 rename_i i j;split at h
 ·cases h
  rw[j4] at rx ry;subst rx ry;exact⟨i,j,rfl,rfl,by assumption,k _ H (Same.refl H) (hg i j H B)⟩
 ·cases h
theorem uw0{g:Int->Int->V}{g':Int->Int->D}(hg:∀i j H B,Rp K H B (g' i j) (g i j)):Op2 K (rI0 g) (ii λi j=>some (g' i j)):=by
 intro H B x y dx dy d Q hb rx ry h k;cases dx<;>cases dy<;>simp only[ii] at h<;>try cases h
 rename_i i j;rw[j4] at rx ry;subst rx ry;exact⟨i,j,rfl,rfl,k _ H (Same.refl H) (hg i j H B)⟩
instance decDiv(i j:Int):Decidable (jq0 i j):=inferInstanceAs (Decidable (0<j/\j<1073741824))
instance decPow(i j:Int):Decidable (jz0 i j):=inferInstanceAs (Decidable (0<=j/\j<=1000000/\i.natAbs<2 ^ 64))
variable{a:Expr}{ga:Ds->Option D}
theorem kg0(ha:PD X a ga)(hb:PD X b gb):PD X (.BinOp a .Sub b pos) (o2 ga gb jd0):=xx0 et0 (uw0 (g':=λi j=>.int (i - j)) λ_ _ _ _=>by rw[j4]) ha hb
theorem Y8(ha:PD X a ga)(hb:PD X b gb):PD X (.BinOp a .FloorDiv b pos) (o2 ga gb d9):=xx0 gb0 (qc0 (C:=jq0) (g':=λi j=>.int (i/j)) λ_ _ _ _=>by rw[j4]) ha hb
theorem b8(ha:PD X a ga)(hb:PD X b gb):PD X (.BinOp a .Mod b pos) (o2 ga gb m8):=xx0 ej0 (qc0 (C:=λ_ j=>0<j) (g':=λi j=>.int (i%j)) λ_ _ _ _=>by rw[j4]) ha hb
theorem k00(ha:PD X a ga)(hb:PD X b gb):PD X (.BinOp a .Pow b pos) (o2 ga gb p20):=xx0 da0 (qc0 (C:=jz0) (g':=λi j=>.int (i ^ j.toNat)) λ_ _ _ _=>by rw[j4]) ha hb
end
end DL
namespace L2
open Spec PyProof.Rows
def ij0(K:W.Frag):R2:=λx y H Q=>∃l b xs zs,x=.ref l/\y=.ref b/\SqL K H l xs/\SqL K H b zs/\xs.length+zs.length<=sizeLine/\∀p,H p=none->Q (.ref p) (upd H p (.lst (xs++zs)))
theorem gs0:OpR X (binaryOp .Add) (ij0 X.K):=by
 intro pins s σ H x y v u Q I rx ry h;obtain⟨l,b,xs,zs,rfl,rfl,hH,hB,hz,q⟩:=h;cases rx;cases ry;obtain⟨its,r,p1,z1⟩:=I.list hH;obtain⟨J,r2,p2,z2⟩:=I.list hB;obtain⟨⟨cls,dd,data,sl⟩,ho,hc,n,hd⟩:=p1.isList;obtain⟨⟨a0,Y,data2,U⟩,M,S,n2,O⟩:=p2.isList;simp only at hc hd S O;subst hc hd S O;have e:its.toArray++J.toArray=(its++J).toArray:=by simp
 have Z:its.toArray.size+J.toArray.size<=sizeLine:=by
  rw[List.size_toArray,List.size_toArray,← r.length,← r2.length];exact hz
 refine T0 ⟨_,ho,rfl⟩ ⟨_,M,rfl⟩ noFill_list_add seq_list_add PySem.F.slot_list_add PySem.F.entry_list_add (PySem.F.args_list_add_2 _ _) (list_addW l b its.toArray J.toArray n n2 dd Y sl U Z) ⟨ho,M,?_⟩;rw[e];exact⟨.ref _,_,I.lnew (t':=s.toks) (r.append r2) (by rw[List.length_append];exact hz),rfl,q _ I.fresh⟩
end L2
namespace DL
open Spec PyProof.Rows L2
section
variable{a:Expr}{ga:Ds->Option D}
theorem s00(hb:∀a,B a->NB (H a)){p:Addr}(h:H p=none):¬B p:=λz=>hb p z h
theorem yh0{p:Addr}(hb:∀a,B a->NB (H a))(h:H p=none)(r:Rps K H B ds xs):Rp K (upd H p (.lst xs)) B (.lst ds) (.ref p):=by
 rw[X4];exact⟨p,xs,rfl,.inl ⟨s00 hb h,.inl Z8⟩,r.same (Z7 h)⟩
theorem va0{p:Addr}(hb:∀a,B a->NB (H a))(h:H p=none)(r:Rps K H B ds xs):Rp K (upd H p (.tup xs)) B (.tup ds) (.ref p):=by
 rw[X3];exact⟨p,xs,rfl,⟨s00 hb h,Z8⟩,r.same (Z7 h)⟩
theorem y00:Op2 K (rI0 λi j=>.bl (decide (i<j))) ltD:=uw0 (g':=λi j=>.bl (decide (i<j))) λ_ _ _ _=>by rw[X7]
theorem kd0:Op2 K (rI0 λi j=>.bl (decide (i<=j))) leD:=uw0 (g':=λi j=>.bl (decide (i<=j))) λ_ _ _ _=>by rw[X7]
theorem l70:Op2 K (rI0 λi j=>.bl (decide (j<i))) gtD:=uw0 (g':=λi j=>.bl (decide (j<i))) λ_ _ _ _=>by rw[X7]
theorem fu0{x y:V}{dx dy:D}{b:Bool}(rx:Rp K H B dx x)(ry:Rp K H B dy y)(h:eqS dx dy=some b):de0 x y=true/\decide (x=y)=b:=by
 cases dx<;>cases dy<;>simp only[eqS] at h<;>try cases h
 all_goals
  simp only[R8,X7,j4,Y7] at rx ry;subst rx ry;refine⟨rfl,?_⟩;simp
theorem U4:Op2 K rEq eqD:=by
 intro H B x y dx dy d Q hb rx ry h k;unfold eqD at h;cases e:eqS dx dy with
 | none=>rw[e] at h;cases h
 | some b =>
  rw[e] at h;cases h;obtain⟨h1,h2⟩:=fu0 rx ry e;exact⟨h1,by rw[h2];exact k _ H (Same.refl H) (by rw[X7])⟩
theorem tp0:Op2 K (λx y H Q=>y=.non/\Q (.bl (decide (x=.non))) H) wc0:=by
 intro H B x y dx dy d Q hb rx ry h k;have hy:dy=.non:=by cases dy<;>first|rfl|cases h
 subst hy;cases h;rw[R8] at ry;refine⟨ry,k _ H (Same.refl H) ?_⟩;rw[X7];cases dx<;>simp only[R8,X7,j4,Y7,X3,X4,xk0,im0] at rx
 all_goals first
  | (subst rx;rfl)
  | (obtain⟨a,xs,rfl,_⟩:=rx;rfl)
theorem eb0(xs:List α)(i:Int):L2.atI xs i=DL.atI xs i:=rfl
theorem xp0(n d:Nat)(o:Option Int):HT.sIx n d o=sIx n d o:=by cases o<;>rfl
theorem on0{i:Int}{d:D}(r:Rps K H B ds xs)(h:DL.atI ds i=some d):∃v,L2.atI xs i=some v/\Rp K H B d v:=by
 rw[eb0];unfold DL.atI at h ⊢;rw[r.length];cases e:DL.ixN ds.length i with
 | none=>rw[e] at h;cases h
 | some j =>
  rw[e] at h;exact r.get h
theorem di0:Op2 K (rIx K) ixD:=by
 intro H B x y dx dy d Q hb rx ry h k;cases dx<;>cases dy<;>simp only[ixD] at h<;>try cases h
 ·split at h
  ·rename_i hz
   rw[Y7] at rx;rw[j4] at ry;subst rx ry;obtain⟨c,hc,rfl⟩:=P7.mp h;exact .inr (.inr ⟨_,_,c,rfl,rfl,hz,hc,k _ H (Same.refl H) (by rw[Y7])⟩)
  ·cases h
 ·rw[X3] at rx
  rw[j4] at ry;subst ry;obtain⟨a,xs,rfl,q,r⟩:=rx;obtain⟨v,hv,rv⟩:=on0 r h;exact .inr (.inl ⟨a,xs,_,v,rfl,rfl,q.to,hv,k _ H (Same.refl H) rv⟩)
 ·rw[X4] at rx
  rw[j4] at ry;subst ry;obtain⟨a,xs,rfl,q,r⟩:=rx;obtain⟨v,hv,rv⟩:=on0 r h;exact .inl ⟨a,xs,_,v,rfl,rfl,q.to,hv,k _ H (Same.refl H) rv⟩
theorem o6(ha:PD X a ga)(hb:PD X b gb)(hs:ty0 b:=by exact λ_ _=>rfl):PD X (.Subscript a b pos) (o2 ga gb ixD):=bq0 en0 di0 ha hb hs
structure PDO(X:Cx)(e:Option Expr)(g:Ds->Option (Option Int)):Prop where
 mk::go:∀B δ,PO X e (fun σ H Q=>∃o,Env X.K H B σ δ/\g δ=some o/\∀H',Same H H'->Q o H')
instance{X:Cx}{e:Option Expr}{g:Ds->Option (Option Int)}:CoeFun (PDO X e g) (λ_=>∀B δ,PO X e (fun σ H Q=>∃o,Env X.K H B σ δ/\g δ=some o/\∀H',Same H H'->Q o H')):=⟨PDO.go⟩
theorem K6:PDO X none U8:=.mk λB δ pins s σ H Q I ⟨o,en,h,k⟩=>by
 cases h;exact gx0 pins s σ H Q I (k H (Same.refl H))
theorem R5(h:PD X e g):PDO X (some e) (someO g):=.mk λB δ pins s σ H Q I ⟨o,en,hq,k⟩=>by
 unfold someO at hq;cases e1:g δ with
 | none=>rw[e1] at hq;cases hq
 | some d =>
  rw[e1] at hq;cases d<;>simp[asI] at hq
  subst hq;exact gq0 (h B δ) pins s σ H Q I ⟨_,en,e1,λv H' s' r=>⟨_,by rw[j4] at r;exact r,k H' s'⟩⟩
theorem ow0(r:Rps K H B ds xs)(lo hi:Option Int):Rps K H B (cutD ds lo hi) (ws0 xs lo hi):=by
 unfold cutD ws0;rw[r.length,xp0,xp0];exact(r.drop _).take _
theorem O4{d:D}(h:Rps K H B [d] xs):∃v,xs=[v]/\Rp K H B d v:=by
 rw[o7] at h;obtain⟨x,r,rfl,h1,h2⟩:=h;rw[n6] at h2;subst h2;exact⟨x,rfl,h1⟩
theorem df0:FnR K (λxs H Q=>(∃z,xs=[.str z]/\z.length<=sizeLine/\Q (.int z.length) H)∨∃p ys,xs=[.ref p]/\(SqL K H p ys∨SqT K H p ys)/\Q (.int ys.length) H) Y5:=by
 intro H B xs ds d Q hb r h k;unfold Y5 at h;split at h
 ·split at h
  ·cases h
   obtain⟨v,rfl,r1⟩:=O4 r;rw[Y7] at r1;subst r1;exact .inl ⟨_,rfl,by assumption,k _ H (Same.refl H) (by rw[j4])⟩
  ·cases h
 ·cases h
  obtain⟨v,rfl,r1⟩:=O4 r;rw[X4] at r1;obtain⟨a,ys,rfl,q,rr⟩:=r1;exact .inr ⟨a,ys,rfl,.inl q.to,k _ H (Same.refl H) (by rw[j4,rr.length])⟩
 ·cases h
  obtain⟨v,rfl,r1⟩:=O4 r;rw[X3] at r1;obtain⟨a,ys,rfl,q,rr⟩:=r1;exact .inr ⟨a,ys,rfl,.inr q.to,k _ H (Same.refl H) (by rw[j4,rr.length])⟩
 ·cases h
theorem U3(hm:X.mg "len"=none)(ha:PDA X [e] gA)(hg:Gl X "len" := by rfl)(he:starEach [e] X.env=(false,eval e X.env)::starEach [] X.env:=by rfl)(hpl:(backTo pos (starEach [] X.env)).any (·.1)=false:=by rfl) :
  PD X (.Call (.Name "len" p) [e] [] pos) (oA gA Y5):=qm0 (qz0.or ql0) df0 hm PySem.boot_len ha hg (by decide) (by decide) he hpl
theorem sa0:∀{ds:List D} {xs:List V} {bs:List Bool},Rps K H B ds xs->bools ds=some bs->xs=bs.map V.bl
 | [],_,_,r,h=>by
  cases h;rw[n6] at r;exact r
 | d::ds,_,bs,r,h=>by
  rw[o7] at r;obtain⟨x,t,rfl,r1,r2⟩:=r;cases d<;>simp only[bools] at h<;>try cases h
  obtain⟨t',e,rfl⟩:=P7.mp h;rw[X7] at r1;rw[r1,sa0 r2 e];rfl
theorem ft0:FnR K (λxs H Q=>∃(p:Addr) (bs:List Bool),xs=[.ref p]/\SqL K H p (bs.map V.bl)/\Q (.bl (bs.all id)) H) kw0:=by
 intro H B xs ds d Q hb r h k;unfold kw0 at h;split at h
 ·obtain⟨bs,e,rfl⟩:=P7.mp h
  obtain⟨v,rfl,r1⟩:=O4 r;rw[X4] at r1;obtain⟨a,ys,rfl,q,rr⟩:=r1;have:=sa0 rr e;subst this;exact⟨a,bs,rfl,q.to,k _ H (Same.refl H) (by rw[X7])⟩
 ·cases h
theorem qu0:∀{ds:List D} {xs:List V} {bs:List Str},Rps K H B ds xs->wy0 ds=some bs->xs=bs.map V.str
 | [],_,_,r,h=>by
  cases h;rw[n6] at r;exact r
 | d::ds,_,bs,r,h=>by
  rw[o7] at r;obtain⟨x,t,rfl,r1,r2⟩:=r;cases d<;>simp only[wy0] at h<;>try cases h
  obtain⟨t',e,rfl⟩:=P7.mp h;rw[Y7] at r1;rw[r1,qu0 r2 e];rfl
theorem fc0{apos cpos:Pos}(ho:PD X o g)(ha:PDA X [e] gA)(hbase:attributeBase o "join" X.env (eval o X.env)=eval o X.env:=by rfl)
  (hfew:((backTo cpos (starEach [e] X.env)).all (λx=>!x.1)&&(backToKw cpos (keywordEach [] X.env)).all (λx=>x.1.isSome)
  &&decide ([e].length+([]:List Keyword).length+(if ([]:List Keyword).isEmpty then 0 else 1)<30))=true:=by rfl)
  (hline:(apos.endLine==cpos.line)=true:=by rfl) (hs:starEach [e] X.env=(false,eval e X.env)::starEach [] X.env:=by rfl) (hplain:(backTo cpos (starEach [] X.env)).any (·.1)=false:=by rfl) :
  PD X (.Call (.Attribute o "join" apos) [e] [] cpos) (v90 g gA):=.mk λB δ =>
 (iu0 F.plainAttrs_str F.slot_str_join F.type_str_join gv0 (ho B δ) (ha B δ) hbase hfew hline hs hplain).imp fun σ H Q ⟨d,en,h,k⟩=>by
  unfold v90 at h;cases e1:g δ with
  | none=>rw[e1] at h;cases h
  | some x =>
   cases e2:gA δ with
   | none=>rw[e1,e2] at h;cases h
   | some ds =>
    rw[e1,e2] at h;simp only[Option.bind_some] at h;unfold ra0 at h;split at h
    ·cases e3:wy0 _ with
     | none=>rw[e3] at h;cases h
     | some ys =>
      rw[e3] at h;simp only[Option.bind_some] at h;split at h
      ·cases h
       refine⟨_,en,e1,λv H1 s1 r1=>?_⟩;rw[Y7] at r1;subst r1;refine⟨rfl,_,en.same s1,e2,λvs H2 s2 r2=>?_⟩;obtain⟨w,rfl,r3⟩:=O4 r2;rw[X4] at r3;obtain⟨a,zs,rfl,q,rr⟩:=r3;have:=qu0 rr e3;subst this;exact⟨_,a,ys,rfl,rfl,q.to,by assumption,k _ H2 (s1.trans s2) (by rw[Y7])⟩
      ·cases h
    ·cases h
theorem zm0:FnR K (λxs H Q=>∃p ys,xs=[.ref p]/\((SqL K H p ys/\∀l,H l=none->Q (.ref l) (upd H l (.tup ys)))∨(SqT K H p ys/\Q (.ref p) H))) P0:=by
 intro H B xs ds d Q hb r h k;unfold P0 at h;split at h
 ·cases h
  obtain⟨v,rfl,r1⟩:=O4 r;rw[X4] at r1;obtain⟨a,ys,rfl,q,rr⟩:=r1;exact⟨a,ys,rfl,.inl ⟨q.to,λl hl=>k _ _ (Z7 hl) (va0 hb hl rr)⟩⟩
 ·cases h
  obtain⟨v,rfl,r1⟩:=O4 r;have F:=r1;rw[X3] at r1;obtain⟨a,ys,rfl,q,rr⟩:=r1;exact⟨a,ys,rfl,.inr ⟨q.to,k _ H (Same.refl H) F⟩⟩
 ·cases h
end
section
variable{a:Expr}{ga:Ds->Option D}
theorem y40(h:PD X a ga):PD X (.UnaryOp .USub a pos) (unG zw0 ga):=.mk λB δ=>(cx0 c40 (h B δ)).imp fun σ H Q ⟨d,en,h,k⟩=>by
 unfold unG at h;cases e1:ga δ with
 | none=>rw[e1] at h;cases h
 | some x =>
  rw[e1] at h;cases x<;>simp[zw0] at h
  subst h;exact⟨_,en,e1,λv H' s r=>⟨_,by rw[j4] at r;exact r,k _ H' s (by rw[j4])⟩⟩
def FnD(P:Program)(w:World)(K:W.Frag)(mg:Str->Option Value)(base:Heap)(x:Str)(k:Nat)(ps:List Str)(f:List D->Option D):Prop :=
 ∃(fa:Addr) (fd:FuncData),FnOk P w K mg base CX0 k fa fd ps (spD K f)/\mg x=some (.ref fa)/\W.keepIn K (.ref fa)=true/\Binds K fd ps []
theorem Z5{k:Nat}{ps:List Str}{f:List D->Option D}(C:FnD X.prog X.w X.K X.mg X.base x k ps f)(hr:Room m X.A)(hk:k<=m)(ha:PDA X (e::es) gA)(hg:Gl X x:=by rfl)(hdb:(x==("__debug__" : Str))=false:=by decide)
  (he:starEach (e::es) X.env=(false,eval e X.env)::starEach es X.env:=by rfl) (hpl:(backTo pos (starEach es X.env)).any (·.1)=false:=by rfl):PD X (.Call (.Name x p) (e::es) [] pos) (oA gA f):=by
 obtain⟨fa,fd,F,hm,kp,hb⟩:=C;exact fh0 F (hr.mono hk) hm kp hb ha hg hdb he hpl
theorem z40{sc scope:Scope}{elt iter tg:Expr}{ifs:List Expr}{N N':List Str}{n:Nat}{caps:List Nat}{gi:Ds->Option (List D)}{idx:List Nat}{f:D->Ds->Option Ds}{gt:Ds->Option Bool}{ge:Ds->Option D}
  (ok:CompOk sc scope N N' n caps) (hidx:∀j∈idx,j<n) (hi:PID X tg iter gi)
  (hg:∀cl s H ex,PGD (W7 X scope cl N' s H ex) tg idx f) (ht:∀cl s H ex,PFD (W7 X scope cl N' s H ex) ifs gt) (he:∀cl s H ex,PD (W7 X scope cl N' s H ex) elt ge)
  (hc:X.calm=true:=by rfl) (hsc:X.env.scope=sc:=by rfl) (hN:X.N=N:=by rfl) (hs:∀x,foldedSetIterable iter X.env x=pure x:=by intro _;rfl) :
  PD X (.ListComp elt [⟨tg,iter,ifs,0⟩] scope pos) (V4 n caps gi f gt ge):=gy0 hc hsc (hN▸ok) hidx hi hg ht he hs
end
end DL
namespace DL
open Spec PyProof.Rows
@[simp] def zs0:Sl->Sl
 | .ow d=>.sh (unl d)
 | s=>s
@[simp] def frz(δ:Ds):Ds:=δ.map zs0
@[simp] def flat:D->Bool
 | .non=>true|.bl _=>true|.int _=>true|.str _=>true|_=>false
@[simp] def xr0(g:GE):GE:=fun δ=>(g (frz δ)).bind λd=>if flat d=true then some d else none
@[simp] def t80(g:GB):GB:=fun δ=>g (frz δ)
@[simp] def to0(g:GE):GE:=fun δ=>g (frz δ)
@[simp] def frzAt(i:Nat)(δ:Ds):Ds:=match δ[i]? with
 | some s=>δ.set i (zs0 s)
 | none=>δ
@[simp] def ep0(i:Nat)(G:GS):GS:=fun δ=>G (frzAt i δ)
@[simp] def M5(i:Nat)(g:GE):GS:=fun δ=>(g δ).map λd=>.nx (δ.set i (.ow d))
abbrev GX:=Ds->Option (D×Ds)
@[simp] def ye0(g:GE):GX:=fun δ=>(g δ).map λd=>(d,δ)
variable{gx:DL.GX}
@[simp] def zx0(gx:GX)(ft:D->Ds->Option Ds):GS:=fun δ=>(gx δ).bind λr=>(ft r.1 r.2).map .nx
@[simp] def V2(gx:GX):GS:=fun δ=>(gx δ).map λr=>.nx r.2
@[simp] def owL(i:Nat)(δ:Ds):Option (List D):=match δ[i]? with
 | some (.ow (.lst ds))=>some ds
 | _=>none
@[simp] def T9(i:Nat)(g:GE):GX:=fun δ=>(owL i δ).bind λds=>(g δ).bind λd=>if ds.length<sizeLine then some (.non,δ.set i (.ow (.lst (ds++[d])))) else none
@[simp] def wt0(i:Nat):GX:=fun δ=>(owL i δ).bind λds=>(ds.getLast?).map λd=>(d,δ.set i (.ow (.lst ds.dropLast)))
@[simp] def setAt(i:Nat)(g:GE):D->Ds->Option Ds:=λv δ=>(owL i δ).bind λds=>(g δ).bind λd=>match d with
 | .int k=>(ixN ds.length k).map λj=>δ.set i (.ow (.lst (ds.set j v)))
 | _=>none
abbrev T5:=Sum Int Str
@[simp] def vg0:D->Option T5
 | .int i=>some (.inl i)
 | .str x=>some (.inr x)
 | _=>none
def wx0:List D->Option (List T5)
 | []=>some []
 | d::ds=>(vg0 d).bind λk=>(wx0 ds).map (k::·)
@[simp] def G6:D->Option (List T5)
 | .tup ds=>wx0 ds
 | _=>none
def tr0{κ:Type}[DecidableEq κ]:List κ->List D->κ->Option D
 | k::ks,d::ds,q=>if k=q then some d else tr0 ks ds q
 | _,_,_=>none
def N8{κ:Type}[DecidableEq κ](ks:List κ)(k:κ):Bool:=ks.any λq=>decide (q=k)
def S9{κ:Type}[DecidableEq κ](ks:List κ)(k:κ):List κ:=if N8 ks k=true then ks else ks++[k]
def M8{κ:Type}[DecidableEq κ](ks:List κ)(ds:List D)(q:κ)(v:D):List D:=if N8 ks q=true then (ks.zip ds).map (λp=>if p.1=q then v else p.2) else ds++[v]
@[simp] def ny0(i:Nat)(δ:Ds):Option (List (List T5)×List D):=match δ[i]? with
 | some (.ow (.dct (.inr ks) ds))=>some (ks,ds)
 | _=>none
@[simp] def y90(i:Nat)(g:GE):D->Ds->Option Ds:=λv δ=>(ny0 i δ).bind λr=>(g δ).bind λd=>(G6 d).bind λk =>
 if r.1.length<sizeLine then some (δ.set i (.ow (.dct (.inr (S9 r.1 k)) (M8 r.1 r.2 k v)))) else none
@[simp] def T6(neg:Bool):D->D->Option D
 | d,.dct ks ds=>match ks with
  | .inl ks=>(vg0 d).map λk=>.bl (xor neg (N8 ks k))
  | .inr ks=>(G6 d).map λk=>.bl (xor neg (N8 ks k))
 | _,_=>none
def zh0(gt:GB)(G:GS):Nat->Ds->Option Res
 | 0,_=>none
 | n+1,δ=>match gt δ with
  | some false=>some (.nx δ)
  | some true=>match G δ with
   | some (.nx δ')=>zh0 gt G n δ'
   | some (.ct δ')=>zh0 gt G n δ'
   | some (.bk δ')=>some (.nx δ')
   | r=>r
  | none=>none
@[simp] def tf0(i j:Nat):D->Ds->Option Ds
 | .tup [a,b],δ=>some ((δ.set i (.sh a)).set j (.sh b))
 | _,_=>none
mutual
def deq:D->D->Bool
 | .non,.non=>true
 | .bl a,.bl b=>a==b
 | .bl a,.int b=>(if a then 1 else 0)==b
 | .int a,.bl b=>a==(if b then 1 else 0)
 | .int a,.int b=>a==b
 | .str a,.str b=>a==b
 | .tup xs,.tup ys=>K3 xs ys
 | .lst xs,.lst ys=>K3 xs ys
 | _,_=>false
def K3:List D->List D->Bool
 | [],[]=>true
 | x::xs,y::ys=>deq x y&&K3 xs ys
 | _,_=>false
end
mutual
def lean:D->Nat->Bool
 | .dct _ _,_=>false
 | .fn _ _,_=>false
 | .tup xs,n+1=>leans xs n
 | .lst xs,n+1=>leans xs n
 | .tup _,0=>false
 | .lst _,0=>false
 | _,_=>true
def leans:List D->Nat->Bool
 | [],_=>true
 | x::xs,n=>lean x n&&leans xs n
end
@[simp] def J8(x y:D):Option D:=if lean x 50=true/\lean y 50=true then some (.bl (deq x y)) else none
@[simp] def O2(x y:D):Option D:=if lean x 50=true/\lean y 50=true then some (.bl (!deq x y)) else none
@[simp] def intOfD:List D->Option D
 | [.int i]=>some (.int i)
 | [.bl k]=>some (.int (if k then 1 else 0))
 | _=>none
@[simp] def yt0:List D->Option D
 | [.lst ds]=>some (.lst ds)
 | [.tup ds]=>some (.lst ds)
 | _=>none
def mkF(n:Nat)(N:List Str)(G:GS)(ds:List D):Option D:=if ds.length=n then (match G (W3 N ds) with
 | some (.rt d)=>some d
 | some (.rf d)=>if isL d=true then none else some d
 | some (.nx _)=>some .non
 | _=>none) else none
theorem W6{d:D}(h:mkF n N G ds=some d):ds.length=n/\(G (W3 N ds)=some (.rt d)∨(d=.non/\∃δ,G (W3 N ds)=some (.nx δ))∨G (W3 N ds)=some (.rf d)/\isL d=false):=by
 unfold mkF at h;split at h
 ·rename_i hl
  refine⟨hl,?_⟩;split at h
  ·rename_i e;cases h;exact .inl e
  ·rename_i e
   split at h
   ·cases h
   ·rename_i hn
    cases h;exact .inr (.inr ⟨e,Ax0.mpr hn⟩)
  ·rename_i e;cases h;exact .inr (.inl ⟨rfl,_,e⟩)
  ·cases h
 ·cases h
def mkN(n:Nat)(N:List Str)(G:GS)(ds:List D):Option D:=if ds.length=n then (match G (W3 N ds) with
 | some (.rf d)=>if isL d=true then none else some d
 | _=>none) else none
theorem xo0{d:D}(h:mkN n N G ds=some d):ds.length=n/\G (W3 N ds)=some (.rf d)/\isL d=false:=by
 unfold mkN at h;split at h
 ·rename_i hl
  refine⟨hl,?_⟩;split at h
  ·rename_i e
   split at h
   ·cases h
   ·rename_i hn
    cases h;exact⟨e,Ax0.mpr hn⟩
  ·cases h
 ·cases h
theorem K9{d:D}(hl:ds.length=n)(h:G (W3 N ds)=some (.rf d))(hn:isL d=false:=by rfl):mkN n N G ds=some d:=by
 unfold mkN;rw[if_pos hl,h];simp only[];rw[hn];rfl
@[simp] def zt0(g:GE):GS:=fun δ=>(g δ).map .rf
@[simp] def q80(i:Nat):GS:=fun δ=>match δ[i]? with
 | some (.ow d)=>some (.rf d)
 | _=>none
theorem J1{d:D}(h:G1 δ=some (.rf d)):v8 G1 G2 δ=some (.rf d):=by unfold v8;rw[h]
theorem zy0{g:GE}{d:D}(h:g δ=some d):zt0 g δ=some (.rf d):=by unfold zt0;rw[h];rfl
theorem j5{d:D}(hl:ds.length=n)(h:G (W3 N ds)=some (.rt d)):mkF n N G ds=some d:=by
 unfold mkF;rw[if_pos hl,h]
theorem u9{r:Option Res}(h:G1 δ=some (.nx δ'))(k:G2 δ'=r):v8 G1 G2 δ=r:=(c00 h).trans k
@[simp] def n8:D->D->Option D
 | .int i,.int j=>some (.int (i+j))
 | .str x,.str y=>if x.length+y.length<=sizeLine then some (.str (x++y)) else none
 | .lst xs,.lst ys=>if xs.length+ys.length<=sizeLine then some (.lst (xs++ys)) else none
 | .tup xs,.tup ys=>if xs.length+ys.length<=sizeLine then some (.tup (xs++ys)) else none
 | _,_=>none
def m00(x:Str)(n:Int):Str:=⟨(List.replicate n.toNat x.cps).foldl (·++·) #[]⟩
@[simp] def W9:D->D->Option D
 | .int i,.int j=>if (-(2 ^ 64)<i/\i<2 ^ 64)∨(-(2 ^ 64)<j/\j<2 ^ 64) then some (.int (i*j)) else none
 | .str x,.int n=>if -(2 ^ 62)<=n/\n<2 ^ 62/\x.length*n.toNat<=sizeLine then some (.str (m00 x n)) else none
 | .tup xs,.int k=>if xs≠[]/\2<=k/\k<2 ^ 62/\xs.length*k.toNat<=sizeLine then some (.tup (List.replicate k.toNat xs).flatten) else none
 | _,_=>none
@[simp] def slA(d:D)(lo hi:Option Int):Option D:=match d with
 | .str z=>if z.length<=sizeLine then some (.str (Txt.slice z lo hi)) else none
 | .lst xs=>some (.lst (cutD xs lo hi))
 | .tup xs=>some (.tup (cutD xs lo hi))
 | _=>none
@[simp] def U9(g:GE)(gl gh:GO):GE:=fun δ=>(g δ).bind λd=>(gl δ).bind λl=>(gh δ).bind λh=>slA d l h
end DL
variable{gx:DL.GX}
namespace L2
open Spec PyProof.Rows
section
variable[DecidableEq κ]
def zq0(kvs:List (κ×V))(k:κ):Option V:=(kvs.find? λkv=>decide (kv.1=k)).map (·.2)
def putK(kvs:List (κ×V))(k:κ)(v:V):List (κ×V) :=
 if (kvs.any λkv=>decide (kv.1=k))=true then kvs.map (λkv=>if kv.1=k then (kv.1,v) else kv) else kvs++[(k,v)]
theorem yq0{p:κ×V}{r:List (κ×V)}{k:κ}(e:p.1=k):zq0 (p::r) k=some p.2:=by simp[zq0,List.find?_cons,e]
theorem ym0{p:κ×V}{r:List (κ×V)}{k:κ}(e:¬p.1=k):zq0 (p::r) k=zq0 r k:=by simp[zq0,List.find?_cons,e]
theorem qi0(k:κ):∀kvs:List (κ×V),(kvs.any λkv=>decide (kv.1=k))=(zq0 kvs k).isSome
 | []=>rfl
 | p::r=>by
  rw[List.any_cons]
  by_cases e:p.1=k
  ·simp only[yq0 e,decide_eq_true e,Bool.true_or,Option.isSome_some]
  ·rw[ym0 e,decide_eq_false e,Bool.false_or];exact qi0 k r
theorem zf0(kvs:List (κ×V))(k:κ)(v:V):(putK kvs k v).length<=kvs.length+1:=by
 unfold putK;split
 ·rw[List.length_map];omega
 ·rw[List.length_append,List.length_cons,List.length_nil];omega
theorem RelO.isSome_eq{o:Option V}{u:Option Value}(r:RelO o u):o.isSome=u.isSome:=by
 cases o with
 | none=>cases u with
  | none=>rfl
  | some _=>exact(show False from r).elim
 | some _=>cases u with
  | none=>exact(show False from r).elim
  | some _=>rfl
theorem KV.val{kvs:List (κ×V)}{vs:List (κ×Value)}(r:KV kvs vs)(k:κ):RelO (zq0 kvs k) (valueAt vs k):=by
 unfold KV at r
 induction r with
 | nil=>exact True.intro
 | @cons p q ps qs h t ih =>
  obtain⟨h1,h2⟩:=h
  by_cases e:p.1=k
  ·have e':q.1=k:=h1.symm.trans e
   have b:valueAt (q::qs) k=some q.2:=by simp[valueAt,List.find?_cons,e']
   rw[yq0 e,b];exact h2
  ·have e':¬q.1=k:=λz=>e (h1.trans z)
   have b:valueAt (q::qs) k=valueAt qs k:=by simp[valueAt,List.find?_cons,e']
   rw[ym0 e,b];exact ih
theorem KV.any{kvs:List (κ×V)}{vs:List (κ×Value)}(r:KV kvs vs)(k:κ):(kvs.any λkv=>decide (kv.1=k))=vs.any λkv=>decide (kv.1=k):=by
 unfold KV at r
 induction r with
 | nil=>rfl
 | cons h t ih=>rw[List.any_cons,List.any_cons,ih,h.1]
theorem KV.repl{kvs:List (κ×V)}{vs:List (κ×Value)}(r:KV kvs vs)(k:κ){y:V}(ry:RelV y u) :
  KV (kvs.map λkv=>if kv.1=k then (kv.1,y) else kv) (vs.map λkv=>if kv.1=k then (kv.1,u) else kv):=by
 unfold KV at r ⊢
 induction r with
 | nil=>exact .nil
 | @cons p q ps qs h t ih =>
  rw[List.map_cons,List.map_cons];refine .cons ?_ ih;obtain⟨h1,h2⟩:=h
  by_cases e:p.1=k
  ·rw[if_pos e,if_pos (h1.symm.trans e)];exact⟨h1,ry⟩
  ·rw[if_neg e,if_neg (λz=>e (h1.trans z))];exact⟨h1,h2⟩
theorem KV.put{kvs:List (κ×V)}{vs:List (κ×Value)}(r:KV kvs vs)(k:κ){y:V}(ry:RelV y u):KV (putK kvs k y) (stored vs k u):=by
 unfold putK stored;rw[r.any k]
 by_cases e:(vs.any λkv=>decide (kv.1=k))=true
 ·rw[if_pos e,if_pos e];exact r.repl k ry
 ·rw[if_neg e,if_neg e];exact Paired.snoc r ⟨rfl,ry⟩
theorem KV.length{kvs:List (κ×V)}{vs:List (κ×Value)}(r:KV kvs vs):kvs.length=vs.length:=Paired.length r
end
theorem m20{P:Program}{w:World}{k:Key}(r:RelV (kV k) u):(T8 P w).is k u=true:=by
 cases k with
 | inl i=>obtain⟨t,e⟩:=(show ∃t,u=Value.int i t from r);subst e;exact pw0 P w i t
 | inr x=>obtain⟨t,e⟩:=(show ∃t,u=Value.str x t from r);subst e;exact oh0 P w x t
theorem s20{P:Program}{w:World}:∀{ks:List Key} {us:List Value},Vals (ks.map kV) us->ItemsAre (T8 P w) ks us
 | [],_,r=>by rw[List.map_nil] at r;cases r;exact .nil
 | k::ks,_,r=>by
  rw[List.map_cons] at r;cases r with
  | cons h t=>exact .cons (m20 h) (s20 t)
abbrev KT(H:Hp):List (List Key×V)->List (List Key×Addr×Value)->Prop:=Paired λp q=>p.1=q.1/\H q.2.1=some (.tup (p.1.map kV))/\RelV p.2 q.2.2
theorem KT.val{xs:List (List Key×Addr×Value)}(r:KT H kvs xs)(k:List Key):RelO (zq0 kvs k) ((atKey xs k).map (·.2)):=by
 induction r with
 | nil=>exact True.intro
 | @cons p q ps qs h t ih =>
  obtain⟨h1,_,h2⟩:=h
  by_cases e:p.1=k
  ·have e':q.1=k:=h1.symm.trans e
   have b:atKey (q::qs) k=some q.2:=by simp[atKey,List.find?_cons,e']
   rw[yq0 e,b];exact h2
  ·have e':¬q.1=k:=λz=>e (h1.trans z)
   have b:atKey (q::qs) k=atKey qs k:=by simp[atKey,List.find?_cons,e']
   rw[ym0 e,b];exact ih
theorem KT.repl{xs:List (List Key×Addr×Value)}(r:KT H kvs xs)(k:List Key){y:V}(ry:RelV y u) :
  KT H (kvs.map λkv=>if kv.1=k then (kv.1,y) else kv) (xs.map (putAt k u)):=by
 induction r with
 | nil=>exact .nil
 | @cons p q ps qs h t ih =>
  rw[List.map_cons,List.map_cons];refine .cons ?_ ih;obtain⟨h1,h2,h3⟩:=h;unfold putAt
  by_cases e:p.1=k
  ·rw[if_pos e,if_pos (h1.symm.trans e)];exact⟨h1,h2,ry⟩
  ·rw[if_neg e,if_neg (λz=>e (h1.trans z))];exact⟨h1,h2,h3⟩
theorem KT.put{xs:List (List Key×Addr×Value)}(r:KT H kvs xs)(k:List Key){b:Addr}{y:V}(hb:H b=some (.tup (k.map kV)))(ry:RelV y u) :
  KT H (putK kvs k y) (storedH xs k b u):=by
 have e:(kvs.any λkv=>decide (kv.1=k))=(atKey xs k).isSome:=by
  rw[qi0,(r.val k).isSome_eq,Option.isSome_map]
 unfold putK storedH;rw[e]
 by_cases q:(atKey xs k).isSome=true
 ·rw[if_pos q,if_pos q];exact r.repl k ry
 ·rw[if_neg q,if_neg q];exact Paired.snoc r ⟨rfl,hb,ry⟩
theorem KT.keeps{xs:List (List Key×Addr×Value)}(r:KT H kvs xs)(ht:∀b ys,H b=some (.tup ys)->H' b=some (.tup ys)):KT H' kvs xs :=
 Paired.mapP r λ_ _ z=>⟨z.1,ht _ _ z.2.1,z.2.2⟩
section
variable{P:Program}{w:World}{h:Heap}
theorem il0{u:HO}(ok:HOk P w H h)(e:Rd H a u):ObjOk P w H h a u:=e.ok ok
theorem h60{kvs:List (Key×V)}(ok:HOk P w H h)(e:Rd H a (.dK kvs)):kvs.length<=sizeLine/\(a==sysModules)=false/\∃vs,KV kvs vs/\h.DictOf (T8 P w) a vs :=
 show ObjOk P w H h a (.dK kvs) from il0 ok e
theorem a70{kvs:List (Key×V)}(ok:HOk P w H h)(e:H a=some (.dK kvs)):kvs.length<=sizeLine/\(a==sysModules)=false/\∃vs,KV kvs vs/\h.DictOf (T8 P w) a vs:=h60 ok (.inl e)
theorem we0(ok:HOk P w H h)(e:H a=some (.tup (ks.map kV))):(tupleKind (T8 P w)).is h ks a:=by
 obtain⟨_,its,r,o,h1,h2,n,h3,_⟩:=(show ObjOk P w H h a (.tup (ks.map kV)) from ok a _ e);exact⟨o,its.toArray,n,h1,h2,h3,by simpa using s20 r⟩
theorem ih0(ok:HOk P w H h)(e:Rd H a (.dT kvs)):kvs.length<=sizeLine/\(a==sysModules)=false /\
  ∃xs,KT H kvs xs/\h.DictOfH (tupleKind (T8 P w)) a xs:=by
 obtain⟨z,y,xs,r,o,es,ep,h1,h2,h3,h4,h5⟩:=(show ObjOk P w H h a (.dT kvs) from il0 ok e);refine⟨z,y,xs,r,o,es,ep,h1,h2,h3,h4,λx hx=>?_,h5⟩;have all:∀{l:List (List Key×V)} {m:List (List Key×Addr×Value)},KT H l m->∀x∈m,(tupleKind (T8 P w)).is h x.1 x.2.1:=by
  intro l m q
  induction q with
  | nil=>intro x hx;exact nomatch hx
  | @cons p q ps qs hq t ih =>
   intro x hx;rcases B4.mp hx with e|hx
   ·subst e
    exact we0 ok (by rw[← hq.1];exact hq.2.1)
   ·exact ih x hx
 exact all r x hx
theorem mf0(ok:HOk P w H h)(e:H a=some (.dT kvs)):kvs.length<=sizeLine/\(a==sysModules)=false /\
  ∃xs,KT H kvs xs/\h.DictOfH (tupleKind (T8 P w)) a xs:=ih0 ok (.inl e)
end
def DGet(H:Hp)(a:Addr)(y:V)(r:Option V):Prop :=
 (∃kvs k,Rd H a (.dK kvs)/\y=kV k/\r=zq0 kvs k)∨∃kvs k b,Rd H a (.dT kvs)/\y=.ref b/\H b=some (.tup (k.map kV))/\r=zq0 kvs k
def DPut(H:Hp)(a:Addr)(y v:V)(H':Hp):Prop :=
 (∃kvs k,H a=some (.dK kvs)/\y=kV k/\kvs.length<sizeLine/\H'=upd H a (.dK (putK kvs k v))) ∨
 ∃kvs k b,H a=some (.dT kvs)/\y=.ref b/\H b=some (.tup (k.map kV))/\kvs.length<sizeLine/\H'=upd H a (.dT (putK kvs k v))
theorem DGet.k{kvs:List (Key×V)}{k:Key}(e:H a=some (.dK kvs)):DGet H a (kV k) (zq0 kvs k):=.inl ⟨kvs,k,.inl e,rfl,rfl⟩
theorem DGet.t{b:Addr}{k:List Key}(e:H a=some (.dT kvs))(eb:H b=some (.tup (k.map kV))):DGet H a (.ref b) (zq0 kvs k):=.inr ⟨kvs,k,b,.inl e,rfl,eb,rfl⟩
theorem DPut.t{b:Addr}{k:List Key}{v:V}(e:H a=some (.dT kvs))(eb:H b=some (.tup (k.map kV)))(hl:kvs.length<sizeLine) :
  DPut H a (.ref b) v (upd H a (.dT (putK kvs k v))):=.inr ⟨kvs,k,b,e,rfl,eb,hl,rfl⟩
section
variable{σ:St}{s:Shared}{y v:V}{r:Value}{o:Option V}
theorem Inv.big(I:Inv X pins σ H s):sysModules<s.heap.objs.size:=by
 have h:mainGlobals<s.heap.objs.size:=(I.mod.glob.keeps I.bk).lt;exact w8 (by decide) h
theorem f00(hu:A.units+1<cLine)(I:Inv X pins σ H s)(g:DGet H a y o)(ry:RelV y u)(h:∀s',Inv X pins σ H s'->Q (.bool (!o.isSome)) s') :
  wpAny (model X.prog X.w) A (compareOp .NotIn u (.ref a)) Q E s:=by
 rcases g with⟨kvs,k,e,ey,l⟩|⟨kvs,k,b,e,ey,eb,l⟩
 ·subst ey
  obtain⟨z,hd,vs,F,dd⟩:=h60 I.hok e;refine wpAny_notIn_of (m20 ry) hd dd.mapOf ?_;rw[← (F.val k).isSome_eq,← l];exact h _ (I.tok _)
 ·subst ey
  cases (show u=Value.ref b from ry);obtain⟨z,hd,xs,F,dd⟩:=ih0 I.hok e;refine wpAny_notIn_heap (x0 hu) (we0 I.hok eb) hd dd ?_;have q:=(F.val k).isSome_eq;rw[Option.isSome_map] at q;rw[← q,← l];exact h _ (I.tok _)
theorem vc0{t':Nat}{ob:HO}(I:Inv X pins σ H s)(mu:Mut (H a))(hs:Heap.SameBut a s.heap h')(he:∃q,h'.get? a=some q)(new:ObjOk X.prog X.w (upd H a ob) h' a ob) :
  Inv X pins σ (upd H a ob) { s with heap:=h',toks:=t' } :=
 I.write (x:=a) (e:=a) mu (.inl rfl) (λb q hb z=>(hs.2 b hb).trans z) he new
theorem d20{P:Program}{w:World}{H':Hp}{kvs:List (Key×V)}{vs:List (Key×Value)}(z:kvs.length<=sizeLine)(hd:(a==sysModules)=false)(rel:KV kvs vs)(dd:h'.DictOf (T8 P w) a vs) :
  ObjOk P w H' h' a (.dK kvs):=⟨z,hd,vs,rel,dd⟩
theorem k40{Q:Unit->Shared->Prop}(hu:A.units+1<cLine)(I:Inv X pins σ H s)(g:DPut H a y v H')(ry:RelV y u)(rv:RelV v r)(h:∀s',Inv X pins σ H' s'->Q () s') :
  wpAny (model X.prog X.w) A (setItem (.ref a) u r) Q E s:=by
 rcases g with⟨kvs,k,e,ey,l,eH⟩|⟨kvs,k,b,e,ey,eb,l,eH⟩
 ·subst ey eH
  obtain⟨z,hd,vs,F,dd⟩:=a70 I.hok e;have hz:vs.length<=sizeLine:=by rw[← F.length];exact z
  have hl:(putK kvs k v).length<=sizeLine:=by have:=zf0 kvs k v;omega
  refine wpAny_setItem_pairs (hsz:=hz) (m20 ry) dd λh' J hs=>h _ ?_
  have he:∃q,h'.get? a=some q:=let ⟨q,_,_,hq,_⟩:=J;⟨q,hq⟩
  exact vc0 I (by rw[e];exact True.intro) hs he (d20 hl hd (F.put k rv) J)
 ·subst ey eH
  cases (show u=Value.ref b from ry);obtain⟨z,hd,xs,F,dd⟩:=mf0 I.hok e;have hz:xs.length<=sizeLine:=by rw[← Paired.length F];exact z
  have hl:(putK kvs k v).length<=sizeLine:=by have:=zf0 kvs k v;omega
  refine wpAny_setItem_heap (hsz:=hz) (x0 hu) (we0 I.hok eb) dd λh' J hs=>h _ ?_
  obtain⟨q,es,ep,hq,h2,h3,h4,_,h5⟩:=J;refine vc0 I (by rw[e];exact True.intro) hs ⟨q,hq⟩ ⟨hl,hd,_,(F.put k eb rv).keeps λc ys ec=>?_,q,es,ep,hq,h2,h3,h4,h5⟩;rw[Z0 (vd0 ec e (λz=>nomatch z))];exact ec
end
def g90(ty td:TE):TE:=fun σ H Q=>ty σ H λy H1=>td σ H1 λx H2=>∃a o,x=.ref a/\DGet H2 a y o/\Q (.bl (!o.isSome)) H2
section
variable{i value:Expr}{ty:TE}
theorem mk0(hu:X.A.units+1<cLine)(hi:PE X i ty)(ho:PE X o td):PC X .NotIn i o (g90 ty td):=by
 intro pins s σ H Q I h;refine thn (hi pins s σ H _ I h) λiv s1 ⟨y,H1,I1,ry,q1⟩=>thn (ho pins s1 σ H1 _ I1 q1) λu s2 ⟨x,H2,I2,rx,a,ov,ex,g,q2⟩=>?_
 subst ex;obtain rfl:u=Value.ref a:=rx;exact f00 hu I2 g ry λs3 I3=>⟨.bl (!ov.isSome),H2,I3,rfl,q2⟩
end
theorem uf0{P:Program}{w:World}(h:Heap)(hb:sysModules<h.objs.size):ObjOk P w H (h.push { cls:=.type "dict",data:=.dict #[] }) h.objs.size (.dT []) :=
 ⟨K2 _,A70.mpr (C6 (B6 hb)),[],.nil,_,#[],0,B5 _ rfl,⟨rfl,rfl,rfl⟩,rfl,rfl,List.nodup_nil⟩
def dk0:TE:=λ_ H Q=>∀p,H p=none->Q (.ref p) (upd H p (.dT []))
theorem i00:PE X (.Dict [] [] pos) dk0:=λpins s σ H Q I h =>
 wpAny_Dict_empty ⟨.ref s.heap.objs.size,_,I.laid (a:=s.heap.objs.size) (o:=.dT []) (t':=s.toks) (λ_ _ q=>A7 _ q) (A4 _) (uf0 s.heap I.big),rfl,h _ (I.hok.fresh (A4 _))⟩
def mu0:List (TE×TE)->St->Hp->(List (V×V)->Hp->Prop)->Prop
 | [],_,H,Q=>Q [] H
 | (tk,tv)::r,σ,H,Q=>tk σ H λx H1=>tv σ H1 λy H2=>mu0 r σ H2 λps H3=>Q ((x,y)::ps) H3
abbrev VV:List (V×V)->List (Value×Value)->Prop:=Paired λp q=>RelV p.1 q.1/\RelV p.2 q.2
def PPs(X:Cx)(pos:Pos)(keys:List (Option Expr))(values:List Expr)(trs:List (TE×TE)):Prop :=
 ∀(pins:List (Addr×Obj)) (s:Shared) (σ:St) (H:Hp) (Q:List (V×V)->Hp->Prop),Inv X pins σ H s->mu0 trs σ H Q ->
  wpAny (model X.prog X.w) X.A (evalPairs (pairTrees keys values X.env pos)) (λvs s'=>∃ps H',Inv X pins σ H' s'/\VV ps vs/\Q ps H') X.xe s
theorem gu0:PPs X pos [] [] []:=λpins s σ H Q I h=>pairTrees_nil_walk ⟨[],H,I,.nil,h⟩
theorem j90{k v:Expr}{ks:List (Option Expr)}{vs:List Expr}{tk:TE}{trs:List (TE×TE)}(hk:PE X k tk)(hv:PE X v tv)(hr:PPs X pos ks vs trs) :
  PPs X pos (some k::ks) (v::vs) ((tk,tv)::trs):=λpins s σ H Q I h =>
 pairTrees_cons_walk (thn (hk pins s σ H _ I h) λu s1 ⟨x,H1,I1,rx,q1⟩=>thn (hv pins s1 σ H1 _ I1 q1) λw2 s2 ⟨y,H2,I2,ry,q2⟩ =>
  thn (hr pins s2 σ H2 _ I2 q2) λws s3 ⟨ps,H3,I3,F,q3⟩=>⟨(x,y)::ps,H3,I3,.cons ⟨rx,ry⟩ F,q3⟩)
end L2
namespace DL
open Spec PyProof.Rows L2
section
variable{σ σ':St}
theorem Gr.fresh{p:Addr}{o:HO}(h:H p=none):Gr H (upd H p o) B (λa=>B a∨a=p):=λb u n e=>by
 have hb:b≠p:=V9 e h;exact⟨λz=>z.elim n hb,by rw[Z0 hb];exact e⟩
theorem Gr.own{o:HO}(h:B a):Gr H (upd H a o) B B:=λb u n e=>⟨n,by rw[Z0 (λz=>n (by rw[z];exact h))];exact e⟩
theorem RpO.mono{d:D}(s:∀o,H a=some o->H' a=some o)(g:Gr H H' B B')(h:RpO K H B d a):RpO K H' B' d a:=by
 cases d<;>try exact h.elim
 ·obtain⟨xs,e,r⟩:=h;exact⟨xs,s _ e,r.mono g⟩
 ·obtain⟨xs,e,l,r⟩:=h;exact⟨xs,s _ e,l,r.mono g⟩
theorem RpL.mono{d:D}(s:∀o,H a=some o->H' a=some o)(g:Gr H H' B B')(h:RpL K H B d a):RpL K H' B' d a:=by
 cases d with
 | tup es=>obtain⟨ds,q,xs,e,r⟩:=h;exact⟨ds,q,xs,s _ e,r.mono g⟩
 | _=>exact(RpO.mono s g (RpL.toO rfl h)).toL
theorem Pd.impI{F G:α->β->Prop}:∀{l:List α} {m:List β},(∀(i:Nat) a b,l[i]?=some a->m[i]?=some b->F a b->G a b)->Paired F l m->Paired G l m
 | _,_,_,.nil=>.nil
 | _,_,h,.cons r t=>.cons (h 0 _ _ rfl rfl r) (Pd.impI (λi a b e1 e2=>h (i+1) a b (by simpa using e1) (by simpa using e2)) t)
theorem yo0:∀{l:List α} {i:Nat} {a:α},l[i]?=some a->l.set i a=l
 | [],_,_,h=>by simp at h
 | x::l,0,a,h=>by simp at h;subst h;rfl
 | x::l,i+1,a,h=>by rw[List.set_cons_succ,yo0 (by simpa using h)]
theorem Pd.setR{F:α->β->Prop}{a:α}{b:β}(r:F a b){l:List α}{m:List β}(e:l[i]?=some a)(h:Paired F l m):Paired F l (m.set i b):=by
 have:=Pd.set r i h
 rwa [yo0 e] at this
theorem get_set{l:List α}{a b:α}(h:(l.set i a)[j]?=some b):(i=j/\a=b/\j<l.length)∨(i≠j/\l[j]?=some b):=by
 by_cases e:i=j
 ·subst e
  by_cases hl:i<l.length
  ·rw[List.getElem?_set_self hl] at h
   exact .inl ⟨rfl,B1 h,hl⟩
  ·rw[List.getElem?_eq_none (by simpa using hl)] at h;cases h
 ·rw[List.getElem?_set_ne e] at h
  exact .inr ⟨e,h⟩
theorem Env.at(e:Env K H B σ δ){d:D}(h:δ[i]?=some (.ow d)):∃a,σ[i]?=some (some (.ref a))/\B a/\RpL K H B d a:=by
 obtain⟨o,h1,a,rfl,hb,r⟩:=Pd.get e.all h;exact⟨a,h1,hb,r⟩
theorem Env.mut(e:Env K H B σ δ){d0 d:D}{o:HO}(hi:δ[i]?=some (.ow d0))(hs:σ[i]?=some (some (.ref a)))(r:RpL K (upd H a o) B d a):Env K (upd H a o) B σ (δ.set i (.ow d)):=by
 obtain⟨a',h1,hb,_⟩:=e.at hi;rw[hs] at h1;cases h1;refine⟨?_,λb z=>?_,λj k b ds es h1 h2 h3 h4=>?_⟩
 ·
  have h0:Paired (λ(o':Option V) (s:Sl)=>SlR K (upd H a o) B o' s∨(∃d,s=.ow d/\o'=some (.ref a))) σ δ:=Pd.imp (λo' s h=>by
   cases s with
   | un=>exact .inl trivial
   | ex c n=>obtain⟨v,e,r⟩:=h;exact .inl ⟨v,e,r.mono (Gr.own hb)⟩
   | sh d=>obtain⟨v,e,r⟩:=h;exact .inl ⟨v,e,r.mono (Gr.own hb)⟩
   | ow d =>
    obtain⟨b,e,F,r⟩:=h
    by_cases z:b=a
    ·subst z;exact .inr ⟨d,rfl,e⟩
    ·exact .inl ⟨b,e,F,r.mono (λo h=>by rw[Z0 z];exact h) (Gr.own hb)⟩) e.all
  have h1:=Pd.setR (i:=i) (b:=Sl.ow d) (.inl ⟨a,rfl,hb,r⟩) hs h0;refine Pd.impI (λj o' s e1 e2 h=>?_) h1;rcases h with h|⟨d',rfl,rfl⟩
  ·exact h
  ·rcases get_set e2 with⟨rfl,e3,_⟩|⟨J,e3⟩
   ·cases e3;exact⟨a,rfl,hb,r⟩
   ·exact absurd (e.own i j a d0 d' hi e3 hs e1) J
 ·by_cases z':b=a
  ·subst z';exact r.live
  ·rw[Z0 z'];exact e.bad b z
 ·have q1:∃d,δ[j]?=some (.ow d):=by
   rcases get_set h1 with⟨rfl,_,_⟩|⟨_,h⟩
   ·exact⟨_,hi⟩
   ·exact⟨_,h⟩
  have q2:∃d,δ[k]?=some (.ow d):=by
   rcases get_set h2 with⟨rfl,_,_⟩|⟨_,h⟩
   ·exact⟨_,hi⟩
   ·exact⟨_,h⟩
  obtain⟨d1,q1⟩:=q1;obtain⟨d2,q2⟩:=q2;exact e.own j k b d1 d2 q1 q2 h3 h4
theorem EnvS.mut(en:EnvS K H₀ B₀ H σ δ)(s:Same H H')(b1:∀a,B₀ a->B a)(b2:∀a,B a->B₀ a∨H₀ a=none){d0 d:D}{o:HO}(hi:δ[i]?=some (.ow d0))(hs:σ[i]?=some (some (.ref a)))
  (env:Env K (upd H' a o) B σ (δ.set i (.ow d))):EnvS K H₀ B₀ (upd H' a o) σ (δ.set i (.ow d)):=by
 have h0:=en.fr i d0 a hi hs;refine⟨λb u h=>?_,⟨B,b1,b2,env⟩,λj ds b h1 h2=>?_,en.b0⟩
 ·have:b≠a:=λz=>by rw[z,h0] at h;cases h
  rw[Z0 this];exact s _ _ (en.same b u h)
 ·rcases get_set h1 with⟨rfl,_,_⟩|⟨_,h⟩
  ·rw[hs] at h2;cases h2;exact h0
  ·exact en.fr j ds b h h2
theorem EnvS.take(en:EnvS K H₀ B₀ H σ δ)(b1:∀a,B₀ a->B a)(b2:∀a,B a->B₀ a∨H₀ a=none)(e:Env K H B σ δ)(i:Nat){d:D}{p:Addr}(hp:H p=none)(s:Same H H')
  (r:RpO K H' (λa=>B a∨a=p) d p):EnvS K H₀ B₀ H' (σ.set i (some (.ref p))) (δ.set i (.ow d)):=by
 have g:Gr H H' B (λa=>B a∨a=p):=λb u n h=>⟨λz=>z.elim n (V9 h hp),s _ _ h⟩
 have F:H₀ p=none:=en.same.free hp;have live:∀{j:Nat} {d':D} {b:Addr},δ[j]?=some (.ow d')->σ[j]?=some (some (.ref b))->b≠p:=λ{j d' b} h1 h2=>by
  obtain⟨a,q1,q2,q3⟩:=e.at h1;rw[h2] at q1;cases q1;exact λz=>e.bad _ q2 (by rw[z];exact hp)
 refine⟨en.same.trans s,⟨λa=>B a∨a=p,λa z=>.inl (b1 a z),λa z=>?_,?_,λa z=>?_,λj k a ds es h1 h2 h3 h4=>?_⟩,λj ds a h1 h2=>?_,en.b0⟩
 ·rcases z with z|rfl
  ·exact b2 a z
  ·exact .inr F
 ·refine Pd.set ⟨p,rfl,.inr rfl,r.toL⟩ i (Pd.imp (λo sl h=>?_) e.all)
  cases sl with
  | un=>trivial
  | ex c n=>obtain⟨v,e,r⟩:=h;exact⟨v,e,r.mono g⟩
  | sh d=>obtain⟨v,e,r⟩:=h;exact⟨v,e,r.mono g⟩
  | ow d=>obtain⟨b,e,J,r⟩:=h;exact⟨b,e,.inl J,r.mono (λo h=>s _ _ h) g⟩
 ·rcases z with z|rfl
  ·exact(e.bad a z).same s
  ·exact r.live
 ·rcases get_set h1 with⟨rfl,_,_⟩|⟨n1,h1⟩
  ·rcases get_set h2 with⟨rfl,_,_⟩|⟨n2,h2⟩
   ·rfl
   ·rcases get_set h3 with⟨_,e3,_⟩|⟨n3,_⟩
    ·cases e3
     rw[List.getElem?_set_ne n2] at h4;exact absurd rfl (live h2 h4)
    ·exact absurd rfl n3
  ·rcases get_set h2 with⟨rfl,_,_⟩|⟨n2,h2⟩
   ·rcases get_set h4 with⟨_,e4,_⟩|⟨n4,_⟩
    ·cases e4
     rw[List.getElem?_set_ne n1] at h3;exact absurd rfl (live h1 h3)
    ·exact absurd rfl n4
   ·rw[List.getElem?_set_ne n1] at h3
    rw[List.getElem?_set_ne n2] at h4;exact e.own j k a ds es h1 h2 h3 h4
 ·rcases get_set h1 with⟨rfl,_,_⟩|⟨n1,h1⟩
  ·rcases get_set h2 with⟨_,e3,_⟩|⟨n3,_⟩
   ·cases e3;exact F
   ·exact absurd rfl n3
  ·rw[List.getElem?_set_ne n1] at h2
   exact en.fr j ds a h1 h2
theorem Env.frz(e:Env K H B σ δ):∃B':BS,(∀a,B' a->B a)/\(∀a,B a->B' a∨∃(i:Nat) (d:D),δ[i]?=some (.ow d)/\σ[i]?=some (some (.ref a)))/\Env K H B' σ (DL.frz δ):=by
 refine⟨λa=>B a/\¬∃(i:Nat) (d:D),δ[i]?=some (.ow d)/\σ[i]?=some (some (.ref a)),λa z=>z.1,λa z=>?_,?_,λa z=>e.bad a z.1,λi j a ds es h1 _ _ _=>?_⟩
 ·by_cases q:∃(i:Nat) (d:D),δ[i]?=some (.ow d)/\σ[i]?=some (some (.ref a))
  ·exact .inr q
  ·exact .inl ⟨z,q⟩
 ·have:Paired (λo s=>SlR K H (λa=>B a/\¬∃(i:Nat) (d:D),δ[i]?=some (.ow d)/\σ[i]?=some (some (.ref a))) o (zs0 s)) σ δ:=Pd.impI (λi o s e1 e2 h=>by
   cases s with
   | un=>trivial
   | ex c n=>obtain⟨v,e,r⟩:=h;exact⟨v,e,r.mono (Gr.less λa z=>z.1)⟩
   | sh d=>obtain⟨v,e,r⟩:=h;exact⟨v,e,r.mono (Gr.less λa z=>z.1)⟩
   | ow d =>
    obtain⟨a,rfl,hb,r⟩:=h;exact⟨_,rfl,r.rp (λa z=>z.1) λz=>z.2 ⟨i,d,e2,e1⟩⟩) e.all
  have mp:∀{l:St} {m:Ds} {F:Option V->Sl->Prop},Paired (λo s=>F o (zs0 s)) l m->Paired F l (m.map zs0):=by
   intro l m F h
   induction h with
   | nil=>exact .nil
   | cons r t ih=>exact .cons r ih
  exact mp this
 ·unfold DL.frz at h1
  rw[List.getElem?_map] at h1;cases q:δ[i]? with
  | none=>rw[q] at h1;cases h1
  | some s=>rw[q] at h1;cases s<;>cases h1
theorem EnvS.frz(en:EnvS K H₀ B₀ H σ δ):EnvS K H₀ B₀ H σ (DL.frz δ):=by
 obtain⟨B,b1,b2,env⟩:=en.ex;obtain⟨B',c1,c2,F⟩:=env.frz;refine⟨en.same,⟨B',λa z=>?_,λa z=>b2 a (c1 a z),F⟩,λi ds a h1 _=>?_,en.b0⟩
 ·rcases c2 a (b1 a z) with q|⟨i,d,q1,q2⟩
  ·exact q
  ·exact absurd (en.fr i d a q1 q2) (en.b0 a z)
 ·unfold DL.frz at h1
  rw[List.getElem?_map] at h1;cases q:δ[i]? with
  | none=>rw[q] at h1;cases h1
  | some s=>rw[q] at h1;cases s<;>cases h1
theorem Env.frzAt(e:Env K H B σ δ)(i:Nat):∃B':BS,(∀a,B' a->B a)/\(∀a,B a->B' a∨∃(d:D),δ[i]?=some (.ow d)/\σ[i]?=some (some (.ref a)))/\Env K H B' σ (DL.frzAt i δ):=by
 unfold DL.frzAt;cases h:δ[i]? with
 | none=>exact⟨B,λ_ z=>z,λ_ z=>.inl z,e⟩
 | some s =>
  cases s with
  | un=>dsimp only [zs0];rw[yo0 h];exact⟨B,λ_ z=>z,λ_ z=>.inl z,e⟩
  | ex c n=>dsimp only [zs0];rw[yo0 h];exact⟨B,λ_ z=>z,λ_ z=>.inl z,e⟩
  | sh d=>dsimp only [zs0];rw[yo0 h];exact⟨B,λ_ z=>z,λ_ z=>.inl z,e⟩
  | ow d =>
   obtain⟨a,h1,hb,r⟩:=e.at h;refine⟨λb=>B b/\b≠a,λb z=>z.1,λb z=>?_,?_,λb z=>e.bad b z.1,λj k b ds es M J h3 h4=>?_⟩
   ·by_cases q:b=a
    ·subst q;exact .inr ⟨d,rfl,h1⟩
    ·exact .inl ⟨z,q⟩
   ·have h0:Paired (λ(o':Option V) (s:Sl)=>SlR K H (λb=>B b/\b≠a) o' s∨(∃d,s=.ow d/\o'=some (.ref a))) σ δ:=Pd.imp (λo' s h=>by
     cases s with
     | un=>exact .inl trivial
     | ex c n=>obtain⟨v,e,r⟩:=h;exact .inl ⟨v,e,r.mono (Gr.less λa z=>z.1)⟩
     | sh d=>obtain⟨v,e,r⟩:=h;exact .inl ⟨v,e,r.mono (Gr.less λa z=>z.1)⟩
     | ow d =>
      obtain⟨b,e,F,r⟩:=h
      by_cases z:b=a
      ·subst z;exact .inr ⟨d,rfl,e⟩
      ·exact .inl ⟨b,e,⟨F,z⟩,r.mono (λo h=>h) (Gr.less λa z=>z.1)⟩) e.all
    have h2:=Pd.setR (i:=i) (b:=Sl.sh (unl d)) (.inl ⟨.ref a,rfl,r.rp (λb z=>z.1) λz=>z.2 rfl⟩) h1 h0;refine Pd.impI (λj o' s e1 e2 hh=>?_) h2;rcases hh with hh|⟨d',rfl,rfl⟩
    ·exact hh
    ·rcases get_set e2 with⟨rfl,e3,_⟩|⟨O,e3⟩
     ·cases e3
     ·exact absurd (e.own i j a d d' h e3 h1 e1) O
   ·rcases get_set M with⟨_,q,_⟩|⟨_,q1⟩
    ·cases q
    ·rcases get_set J with⟨_,q,_⟩|⟨_,q2⟩
     ·cases q
     ·exact e.own j k b ds es q1 q2 h3 h4
theorem EnvS.frzAt(en:EnvS K H₀ B₀ H σ δ)(i:Nat):EnvS K H₀ B₀ H σ (DL.frzAt i δ):=by
 obtain⟨B,b1,b2,env⟩:=en.ex;obtain⟨B',c1,c2,F⟩:=env.frzAt i;refine⟨en.same,⟨B',λa z=>?_,λa z=>b2 a (c1 a z),F⟩,λj ds a h1 h2=>?_,en.b0⟩
 ·rcases c2 a (b1 a z) with q|⟨d,q1,q2⟩
  ·exact q
  ·exact absurd (en.fr i d a q1 q2) (en.b0 a z)
 ·unfold DL.frzAt at h1
  cases q:δ[i]? with
  | none=>rw[q] at h1;exact en.fr j ds a h1 h2
  | some s =>
   rw[q] at h1;rcases get_set h1 with⟨rfl,q',_⟩|⟨_,q1⟩
   ·cases s<;>cases q'
   ·exact en.fr j ds a q1 h2
theorem g20{d:D}{v:V}(h:flat d=true)(r:Rp K H B d v):Rp K H' B' d v:=by
 cases d<;>simp[flat] at h
 ·rw[R8] at r ⊢;exact r
 ·rw[X7] at r ⊢;exact r
 ·rw[j4] at r ⊢;exact r
 ·rw[Y7] at r ⊢;exact r
end
section
variable{g:GE}{gt:GB}
theorem um0(h:PD X e g):PD X e (xr0 g):=.mk λB δ pins s σ H Q I ⟨d,en,hq,k⟩=>by
 obtain⟨B',c1,c2,F⟩:=en.frz;unfold xr0 at hq;cases e1:g (frz δ) with
 | none=>rw[e1] at hq;cases hq
 | some x =>
  rw[e1] at hq
  by_cases hf:flat x=true
  ·simp only[Option.bind_some,if_pos hf] at hq
   cases hq;exact h B' (frz δ) pins s σ H Q I ⟨_,F,e1,λv H' s' r=>k v H' s' (g20 hf r)⟩
  ·simp only[Option.bind_some,if_neg hf] at hq
   cases hq
theorem oz0(h:PTD X e gt):PTD X e (t80 gt):=.mk λB δ pins s σ H Q I ⟨d,en,hq,k⟩=>by
 obtain⟨B',c1,c2,F⟩:=en.frz;exact h B' (frz δ) pins s σ H Q I ⟨d,F,hq,k⟩
theorem j40(i:Nat)(h:PSD X st G):PSD X st (ep0 i G):=.mk λH₀ B₀ δ pins s σ H D I ⟨r,en,hq,k⟩=>h H₀ B₀ _ pins s σ H D I ⟨r,en.frzAt i,hq,k⟩
theorem yr0(h:PD X e g):PSD X (.Return (some e) pos) (j6 (to0 g)):=.mk λH₀ B₀ δ pins s σ H D I ⟨r,en,hq,k⟩ =>
 o9 h H₀ B₀ (frz δ) pins s σ H D I ⟨r,en.frz,hq,k⟩
theorem O3{gA:GA}(h:PDA X es gA):PDF X (.List es pos) (X5 gA) :=
 .mk λB δ=>(le0 (h B δ)).imp fun σ H Q ⟨d,en,h,k⟩=>by
  unfold X5 at h;cases e1:gA δ with
  | none=>rw[e1] at h;cases h
  | some ds =>
   rw[e1] at h
   by_cases hl:ds.length<=sizeLine
   ·simp only[Option.bind_some,if_pos hl] at h
    cases h;refine⟨ds,en,e1,λvs H1 s1 r1=>⟨by rw[r1.length];exact hl,λp hp=>k _ _ (s1.free hp) (s1.trans (Z7 hp)) ⟨vs,Z8,r1.mono (Gr.fresh hp)⟩⟩⟩
   ·simp only[Option.bind_some,if_neg hl] at h
    cases h
theorem O5(i:Nat){px:Pos}(h:PDF X e g)(hN:X.N.Nodup)(hi:X.N[i]?=some x:=by rfl)(hx:Loc X.env.scope x:=by first|exact Or.inl rfl|exact Or.inr rfl)
  (hs:swapsWithSole [.Name x px] e pos.line X.env=pure false:=by rfl) (hw:swappedStores [.Name x px] e X.env=pure none:=by rfl)
  (h1:(assignEach [.Name x px] X.env).map (·.2)=[assign (.Name x px) X.env]:=by rfl)
  (hf:X.fn x=true∨X.env.scope.names.lookup x=some .local:=by first|exact .inl rfl|exact .inr rfl|assumption):PSD X (.Assign [.Name x px] e pos) (M5 i g):=.mk λH₀ B₀ δ pins s σ H D I ⟨r,en,e1,k⟩=>by
 unfold M5 at e1;obtain⟨B,b1,b2,env⟩:=en.ex;cases e2:g δ with
 | none=>rw[e2] at e1;cases e1
 | some d =>
  rw[e2] at e1;cases e1;exact pa0 (h B δ) (vf0 (i:=i) hN hi hx hf) hs hw h1 pins s σ H D I ⟨d,env,e2,λp H' hp s' r=>k _ H' (en.take b1 b2 env i hp s' r)⟩
end
end DL
namespace L2
open Spec PyProof.Rows
open PySem.AutoSeq1 (wpAny_loadPart')
def dn0:V->V->V->Hp->(Hp->Prop)->Prop:=λo i v H Q=>∃a H',o=.ref a/\DPut H a i v H'/\Q H'
theorem set_dict(hu:X.A.units+1<cLine):i10 X dn0:=by
 intro pins s σ H o i v ov iv u Q I ro ri rv h;obtain⟨a,H',rfl,g,q⟩:=h;cases ro;exact k40 hu I g ri rv λs3 I3=>⟨H',I3,q⟩
end L2
namespace DL
open Spec PyProof.Rows L2
section
variable{σ σ':St}
theorem Rps.set:∀{ds:List D} {xs:List V} {d:D} {v:V} (j:Nat),Rps K H B ds xs->Rp K H B d v->Rps K H B (ds.set j d) (xs.set j v)
 | [],_,_,_,_,h,_=>by rw[n6] at h;subst h;simp[n6]
 | d::ds,_,_,_,0,h,r=>by
  rw[o7] at h;obtain⟨y,t,rfl,h1,h2⟩:=h;rw[List.set_cons_zero,List.set_cons_zero,o7];exact⟨_,_,rfl,r,h2⟩
 | d::ds,_,_,_,j+1,h,r=>by
  rw[o7] at h;obtain⟨y,t,rfl,h1,h2⟩:=h;rw[List.set_cons_succ,List.set_cons_succ,o7];exact⟨_,_,rfl,h1,Rps.set j h2 r⟩
theorem Rps.dropLast(h:Rps K H B ds xs):Rps K H B ds.dropLast xs.dropLast:=by
 rw[List.dropLast_eq_take,List.dropLast_eq_take,h.length];exact h.take _
structure EnvV(K:W.Frag)(H₀:Hp)(B₀:BS)(H:Hp)(σ:St)(δ:Ds)(d:D)(v:V):Prop where
 same:Same H₀ H
 ex:∃B:BS,(∀a,B₀ a->B a)/\(∀a,B a->B₀ a∨H₀ a=none)/\Env K H B σ δ/\Rp K H B d v
 fr:∀(i:Nat) (ds:D) (a:Addr),δ[i]?=some (.ow ds)->σ[i]?=some (some (.ref a))->H₀ a=none
 b0:∀a,B₀ a->NB (H₀ a)
theorem EnvV.s{d:D}{v:V}(h:EnvV K H₀ B₀ H σ δ d v):EnvS K H₀ B₀ H σ δ:=⟨h.same,let ⟨B,b1,b2,e,_⟩:=h.ex;⟨B,b1,b2,e⟩,h.fr,h.b0⟩
theorem EnvV.mk'{d:D}{v:V}(h:EnvS K H₀ B₀ H σ δ)(b1:∀a,B₀ a->B a)(b2:∀a,B a->B₀ a∨H₀ a=none)(e:Env K H B σ δ)(r:Rp K H B d v):EnvV K H₀ B₀ H σ δ d v:=⟨h.same,⟨B,b1,b2,e,r⟩,h.fr,h.b0⟩
end
def tX(K:W.Frag)(H₀:Hp)(B₀:BS)(δ:Ds)(gx:GX):TE:=fun σ H Q=>∃r,EnvS K H₀ B₀ H σ δ/\gx δ=some r/\∀v H',EnvV K H₀ B₀ H' σ r.2 r.1 v->Q v H'
structure PX(X:Cx)(e:Expr)(gx:GX):Prop where
 mk::go:∀H₀ B₀ δ,PE X e (tX X.K H₀ B₀ δ gx)
instance{X:Cx}{e:Expr}{gx:GX}:CoeFun (PX X e gx) (λ_=>∀H₀ B₀ δ,PE X e (tX X.K H₀ B₀ δ gx)):=⟨PX.go⟩
def tTG(K:W.Frag)(H₀:Hp)(B₀:BS)(ft:D->Ds->Option Ds)(d:D)(δ:Ds):TG:=λv σ H Q=>∃δ',EnvV K H₀ B₀ H σ δ d v/\ft d δ=some δ'/\∀σ' H',EnvS K H₀ B₀ H' σ' δ'->Q σ' H'
structure PTG(X:Cx)(tg:Expr)(ft:D->Ds->Option Ds):Prop where
 mk::go:∀H₀ B₀ d δ,PG X tg (tTG X.K H₀ B₀ ft d δ)
instance{X:Cx}{tg:Expr}{ft:D->Ds->Option Ds}:CoeFun (PTG X tg ft) (λ_=>∀H₀ B₀ d δ,PG X tg (tTG X.K H₀ B₀ ft d δ)):=⟨PTG.go⟩
section
variable{g:GE}{gt:GB}
theorem tg0(h:PD X e g):PX X e (ye0 g):=.mk λH₀ B₀ δ pins s σ H Q I ⟨r,en,e1,k⟩=>by
 unfold ye0 at e1;obtain⟨B,b1,b2,env⟩:=en.ex;cases e2:g δ with
 | none=>rw[e2] at e1;cases e1
 | some d =>
  rw[e2] at e1;cases e1;exact h B δ pins s σ H Q I ⟨d,env,e2,λv H' s' r=>k v H' (EnvV.mk' (en.grow s') b1 b2 (env.same s') r)⟩
theorem q50(h:owL i δ=some ds):δ[i]?=some (.ow (.lst ds)):=by
 unfold owL at h;split at h
 ·cases h;assumption
 ·cases h
theorem zo0(i:Nat)(h:PD X e g)(hN:X.N[i]?=some x:=by rfl)(hv:Vis X.env.scope x:=by first|exact Or.inl rfl|exact Or.inr (Or.inl rfl)|exact Or.inr (Or.inr rfl))(hd:(x==("__debug__" : Str))=false:=by decide)(hcd:(x==("__classdict__" : Str))=false:=by decide)
  (hbase:attributeBase (.Name x px) "append" X.env (eval (.Name x px) X.env)=eval (.Name x px) X.env:=by rfl)
  (hfew:((backTo cpos (starEach [e] X.env)).all (λx=>!x.1)&&(backToKw cpos (keywordEach [] X.env)).all (λx=>x.1.isSome)
  &&decide (([e]:List Expr).length+([]:List Keyword).length+(if ([]:List Keyword).isEmpty then 0 else 1)<30))=true:=by rfl)
  (hline:(apos.endLine==cpos.line)=true:=by rfl) (hs:starEach [e] X.env=(false,eval e X.env)::starEach [] X.env:=by rfl) (hplain:(backTo cpos (starEach [] X.env)).any (·.1)=false:=by rfl) :
  PX X (.Call (.Attribute (.Name x px) "append" apos) [e] [] cpos) (T9 i g):=.mk λH₀ B₀ δ pins s σ H Q I ⟨r,en,e1,k⟩=>by
 unfold T9 at e1;obtain⟨B,b1,b2,env⟩:=en.ex;cases e2:owL i δ with
 | none=>rw[e2] at e1;cases e1
 | some ds =>
  cases e3:g δ with
  | none=>rw[e2,e3] at e1;cases e1
  | some d =>
   rw[e2,e3] at e1;simp only[Option.bind_some] at e1;split at e1
   ·rename_i hz
    cases e1;have hi:=q50 e2;obtain⟨a,M,hb,xs,hx,rx⟩:=env.at hi;refine iu0 B00 PySem.F.slot_list_append PySem.F.type_list_append sd0 (y30 (i:=i) hN hv hd hcd) (J5 (h B δ) yj0 hs) hbase hfew hline hs hplain pins s σ H Q I
     ⟨_,M,.inl ⟨rfl,xs,.inl (.inl hx)⟩,d,env,e3,λv H1 s1 r1=>⟨a,xs,v,rfl,rfl,s1 _ _ hx,by rw[rx.length];exact hz,?_⟩⟩
    have J:Env X.K (upd H1 a (.lst (xs++[v]))) B σ (δ.set i (.ow (.lst (ds++[d])))):=(env.same s1).mut hi M ⟨_,Z8,(Rps.snoc (rx.same s1) r1).mono (Gr.own hb)⟩;exact k _ _ (EnvV.mk' (en.mut s1 b1 b2 hi M J) b1 b2 J (by rw[R8]))
   ·cases e1
theorem ek0(i:Nat)(hN:X.N[i]?=some x:=by rfl)(hv:Vis X.env.scope x:=by first|exact Or.inl rfl|exact Or.inr (Or.inl rfl)|exact Or.inr (Or.inr rfl))(hd:(x==("__debug__" : Str))=false:=by decide)(hcd:(x==("__classdict__" : Str))=false:=by decide)
  (hbase:attributeBase (.Name x px) "pop" X.env (eval (.Name x px) X.env)=eval (.Name x px) X.env:=by rfl) (hline:(apos.endLine==cpos.line)=true:=by rfl) :
  PX X (.Call (.Attribute (.Name x px) "pop" apos) [] [] cpos) (wt0 i):=.mk λH₀ B₀ δ pins s σ H Q I ⟨r,en,e1,k⟩=>by
 unfold wt0 at e1;obtain⟨B,b1,b2,env⟩:=en.ex;cases e2:owL i δ with
 | none=>rw[e2] at e1;cases e1
 | some ds =>
  rw[e2] at e1;simp only[Option.bind_some] at e1;cases e3:ds.getLast? with
  | none=>rw[e3] at e1;cases e1
  | some d =>
   rw[e3] at e1;cases e1;have hi:=q50 e2;obtain⟨a,M,hb,xs,hx,rx⟩:=env.at hi;rw[List.getLast?_eq_getElem?] at e3;obtain⟨y,hy,ry⟩:=rx.get e3;refine dd0 B00 PySem.F.slot_list_pop PySem.F.type_list_pop ez0 (y30 (i:=i) hN hv hd hcd) hbase hline pins s σ H Q I
    ⟨_,M,.inl ⟨rfl,xs,.inl (.inl hx)⟩,a,xs,y,rfl,rfl,hx,by rw[rx.length];exact hy,?_⟩
   have J:Env X.K (upd H a (.lst xs.dropLast)) B σ (δ.set i (.ow (.lst ds.dropLast))):=env.mut hi M ⟨_,Z8,rx.dropLast.mono (Gr.own hb)⟩;exact k _ _ (EnvV.mk' (en.mut (Same.refl _) b1 b2 hi M J) b1 b2 J (ry.mono (Gr.own hb)))
theorem e60{f:D->Ds->Option Ds}(h:PGD X tg idx f):PTG X tg f:=.mk λH₀ B₀ d δ pins s σ H v u Q I r ⟨δ',en,e1,k⟩=>by
 obtain⟨B,b1,b2,env,rv⟩:=en.ex;exact h B d δ pins s σ H v u Q I r ⟨δ',rv,env,e1,fun σ' w en'=>k σ' H (en.s.wr b1 b2 (Same.refl _) w en')⟩
theorem fd0(i:Nat)(h:PD X e g)(hN:X.N[i]?=some x:=by rfl)(hv:Vis X.env.scope x:=by first|exact Or.inl rfl|exact Or.inr (Or.inl rfl)|exact Or.inr (Or.inr rfl))(hd:(x==("__debug__" : Str))=false:=by decide)(hcd:(x==("__classdict__" : Str))=false:=by decide)
  (ha:∀v,assign (.Subscript (.Name x px) e pos) X.env v=(do
   let ov ← holding [v] (eval (.Name x px) X.env)
   let iv ← holding [v,ov] (eval e X.env)
   standAt pos
   holding [v,ov,iv] (setItem ov iv v)
   release [v,ov,iv] []):=by intro _;rfl):PTG X (.Subscript (.Name x px) e pos) (setAt i g):=.mk λH₀ B₀ d δ pins s σ H v u Q I r ⟨δ',en,e1,k⟩=>by
 unfold setAt at e1;obtain⟨B,b1,b2,env,rv⟩:=en.ex;cases e2:owL i δ with
 | none=>rw[e2] at e1;cases e1
 | some ds =>
  cases e3:g δ with
  | none=>rw[e2,e3] at e1;cases e1
  | some dk =>
   rw[e2,e3] at e1;simp only[Option.bind_some] at e1;cases dk<;>try cases e1
   rename_i kk;dsimp only at e1;cases e4:ixN ds.length kk with
   | none=>rw[e4] at e1;cases e1
   | some j =>
    rw[e4] at e1;cases e1;have hi:=q50 e2;obtain⟨a,F,hb,xs,hx,rx⟩:=env.at hi;refine lt0 (y30 (i:=i) hN hv hd hcd) (h B δ) set_list ha pins s σ H v u Q I r ⟨_,F,_,env,e3,λiv H1 s1 r1=>?_⟩;rw[j4] at r1;subst r1;refine⟨a,xs,kk,j,rfl,rfl,s1 _ _ hx,by rw[rx.length];exact e4,?_⟩;have J:Env X.K (upd H1 a (.lst (xs.set j v))) B σ (δ.set i (.ow (.lst (ds.set j d)))):=(env.same s1).mut hi F ⟨_,Z8,(Rps.set j (rx.same s1) (rv.same s1)).mono (Gr.own hb)⟩;exact k _ _ (en.s.mut s1 b1 b2 hi F J)
theorem xv0{ft:D->Ds->Option Ds}(h:PX X e gx)(hg:PTG X tg ft)(hs:swapsWithSole [tg] e pos.line X.env=pure false:=by rfl)(hw:swappedStores [tg] e X.env=pure none:=by rfl)
  (h1:(assignEach [tg] X.env).map (·.2)=[assign tg X.env]:=by rfl):PSD X (.Assign [tg] e pos) (zx0 gx ft):=.mk λH₀ B₀ δ pins s σ H D I ⟨r,en,e1,k⟩=>by
 unfold zx0 at e1;cases e2:gx δ with
 | none=>rw[e2] at e1;cases e1
 | some q =>
  rw[e2] at e1;simp only[Option.bind_some] at e1;cases e3:ft q.1 q.2 with
  | none=>rw[e3] at e1;cases e1
  | some δ' =>
   rw[e3] at e1;cases e1;exact pa0 (h H₀ B₀ δ) (hg H₀ B₀ q.1 q.2) hs hw h1 pins s σ H D I ⟨q,en,e2,λv H' F=>⟨δ',F,e3,fun σ' H'' en''=>k σ' H'' en''⟩⟩
theorem O8(h:PX X e gx)(hs:swapsWith e none pos.line X.env=pure false:=by rfl):PSD X (.Expr e pos) (V2 gx):=.mk λH₀ B₀ δ pins s σ H D I ⟨r,en,e1,k⟩=>by
 unfold V2 at e1;cases e2:gx δ with
 | none=>rw[e2] at e1;cases e1
 | some q =>
  rw[e2] at e1;cases e1;exact gj0 (h H₀ B₀ δ) hs pins s σ H D I ⟨q,en,e2,λv H' F=>k σ H' F.s⟩
theorem lc0(n:Nat)(hp:PassesOwn (model X.prog X.w) X.A X.env X.xe)(hc:PTD X c gt)(hb:PSsD X body G):PSD X (.While c body [] pos) (zh0 gt G n):=.mk λH₀ B₀ δ pins s σ H D I ⟨r,en,e1,k⟩=>by
 have M:PT X c (fun σ H Q=>∃B δ,tDT X.K B δ gt σ H Q):=λpins s σ H Q I ⟨B,δ,h⟩=>hc B δ pins s σ H Q I h
 have J:PSs X body (λD σ H=>∃δ,tDS X.K H₀ B₀ δ G D σ H):=λpins s σ H D I ⟨δ,h⟩=>hb H₀ B₀ δ pins s σ H D I h
 refine kz0 hp M J pins s σ H D I ⟨λm σ H=>∃δ',EnvS X.K H₀ B₀ H σ δ'/\zh0 gt G m δ'=some r,⟨n,δ,en,e1⟩,?_⟩;rintro m σ1 H1 ⟨δ1,F,e2⟩;cases m with
 | zero=>cases e2
 | succ m =>
  unfold zh0 at e2;obtain⟨B,b1,b2,env⟩:=F.ex;cases e3:gt δ1 with
  | none=>rw[e3] at e2;cases e2
  | some t =>
   rw[e3] at e2;refine⟨B,δ1,t,env,e3,λH2 s2=>?_⟩;cases t with
   | false =>
    rw[if_neg B9];cases e2;exact k σ1 H2 (F.grow s2)
   | true =>
    rw[if_pos rfl];dsimp only at e2;refine⟨fun σ' H'=>∃δ',EnvS X.K H₀ B₀ H' σ' δ'/\zh0 gt G m δ'=some r,fun σ' H' z=>⟨m,Nat.lt_succ_self m,z⟩,δ1,?_⟩;cases e4:G δ1 with
    | none=>rw[e4] at e2;cases e2
    | some rb =>
     rw[e4] at e2;refine⟨rb,F.grow s2,e4,?_⟩;cases rb with
     | nx δn=>exact fun σ' H' en'=>⟨δn,en',e2⟩
     | ct δn=>exact fun σ' H' en'=>⟨δn,en',e2⟩
     | bk δn=>cases e2;exact fun σ' H' en'=>k σ' H' en'
     | rt d'=>cases e2;exact λv H' s' r'=>k v H' s' r'
     | rf d'=>cases e2;exact λp H' hp s' r'=>k p H' hp s' r'
theorem pc0(i j:Nat){y:Str}{p2 p3:Pos}{kk}(hN:X.N.Nodup)(hij:i≠j)(hc:X.calm=true:=by rfl)(hi:X.N[i]?=some x:=by rfl)(hj:X.N[j]?=some y:=by rfl)
  (hx:Loc X.env.scope x:=by first|exact Or.inl rfl|exact Or.inr rfl) (hy:Loc X.env.scope y:=by first|exact Or.inl rfl|exact Or.inr rfl)
  (hf:X.fn x=true∨X.env.scope.names.lookup x=some .local:=by first|exact .inl rfl|exact .inr rfl|assumption) (hf2:X.fn y=true∨X.env.scope.names.lookup y=some .local:=by first|exact .inl rfl|exact .inr rfl|assumption)
  (hs1:(assignEach [.Name x p2,.Name y p3] X.env).map (·.2)=assign (.Name x p2) X.env::(assignEach [.Name y p3] X.env).map (·.2):=by rfl) (hs2:(assignEach [.Name y p3] X.env).map (·.2)=assign (.Name y p3) X.env::(assignEach [] X.env).map (·.2):=by rfl)
  (hn:(assignEach [.Name x p2,.Name y p3] X.env).length=2:=by rfl) (hst:(assignEach [.Name x p2,.Name y p3] X.env).findIdx? (·.1)=none:=by rfl) :
  PGD X (.Tuple [.Name x p2,.Name y p3] kk pos) [i,j] (tf0 i j):=.mk λB d δ=>(ee0 hc (pd0 (vf0 (i:=i) hN hi hx hf) (pd0 (vf0 (i:=j) hN hj hy hf2) fa0 hs2) hs1) hn hst).imp λv σ H Q ⟨δ',r,en,e1,k⟩=>by
 unfold tf0 at e1;split at e1
 ·rename_i da db
  cases e1;rw[X3] at r;obtain⟨p,xs,rfl,hq,rs⟩:=r;rw[o7] at rs;obtain⟨va,t1,rfl,ra,rs⟩:=rs;rw[o7] at rs;obtain⟨vb,t2,rfl,rb,rs⟩:=rs;rw[n6] at rs;subst rs;refine⟨p,_,rfl,hq.to,rfl,va,[vb],rfl,vb,[],rfl,rfl,k _ ?_ ((en.set i ra).set j rb)⟩;refine⟨by simp,λq hq=>?_,λq hq ds h=>?_⟩
  ·have h1:q≠i:=λz=>hq (by rw[z];exact A5)
   have h2:q≠j:=λz=>hq (by rw[z];exact B0 _ A5)
   rw[List.getElem?_set_ne (C6 h2),List.getElem?_set_ne (C6 h1),List.getElem?_set_ne (C6 h2),List.getElem?_set_ne (C6 h1)];exact⟨rfl,rfl⟩
  ·rcases get_set h with⟨rfl,e3,_⟩|⟨n1,e3⟩
   ·cases e3
   ·rcases get_set e3 with⟨rfl,e4,_⟩|⟨n2,e4⟩
    ·cases e4
    ·simp at hq
     rcases hq with z|z
     ·exact n2 z.symm
     ·exact n1 z.symm
 ·cases e1
end
end DL
namespace HT
open PyProof.Rows
section
variable{w:World}{s:Shared}
theorem wa0{t sl:Addr}{Q:Value->Shared->Prop}(ht:IsTup s.heap t items)(hs:s.heap.IsSliceOf sl vl vu .none)(pl:IsPart vl lo)(pu:IsPart vu hi)
  (hw:sIx items.size 0 lo=0/\sIx items.size items.size hi=items.size) (h:Q (.ref t) s):wpAny (model prog w) A (getItem (.ref t) (.ref sl)) Q E s:=by
 obtain⟨os,M,J,S⟩:=id hs;have O:s.TypeIs (.ref sl) "slice" := ⟨os,M,J⟩;unfold getItem
 try with_reducible refine C4 ?_
 first|refine A0 (A1 ?_)|skip
 refine A0 (wpAny_sequenceKey ht.typeIs (by decide) ?_);refine A0 (K0 (name:=Str.ofString "__getitem__") ht.typeIs N4
  (D7 N4 ht.typeIs entry_tuple_getitem ?_ (args_tuple_getitem _ _)))
 show wpAny _ _ (Builtin.Tuple.tupleItemsOf (.ref t)>>=_) _ _ s;refine A0 (tupleItemsOf_ ht ?_);refine A0 (N9 O ?_);rw[if_pos (by decide)];refine A0 (yl0 hs pl pu ?_);have F:(((sIx items.size 0 lo:Nat):Int)==0&&(1:Int)==1&&(sIx items.size items.size hi - sIx items.size 0 lo)==items.size)=true:=by
  rw[hw.1,hw.2];simp
 show wpAny _ _ (if (((sIx items.size 0 lo:Nat):Int)==0&&(1:Int)==1&&(sIx items.size items.size hi - sIx items.size 0 lo)==items.size)=true then _ else _) _ _ s;rw[if_pos F];unfold Builtin.Tuple.tupleIsExact;refine A0 (A0 (N9 ht.typeIs (A1 ?_)));rw[if_pos (by decide)];exact A0 (D8 (A1 ⟨_,rfl,A1 h⟩))
end
end HT
namespace L2
open Spec PyProof.Rows
def b80(K:W.Frag):V->Option Int->Option Int->Hp->VK->Prop:=λx lo hi H Q=>∃a xs,x=.ref a/\SqT K H a xs/\(HT.sIx xs.length 0 lo=0/\HT.sIx xs.length xs.length hi=xs.length)/\Q (.ref a) H
theorem fo0:SlR X (b80 X.K):=by
 intro pins s σ H x v vl vu lo hi sl Q I rx hs pl pu h;obtain⟨a,xs,rfl,hx,hw,q⟩:=h;cases rx;obtain⟨its,r,ht,hz⟩:=I.tuple hx;have F:its.toArray.size=xs.length:=by rw[List.size_toArray];exact r.length.symm
 exact⟨"tuple",_,N4.lookup,ht.typeIs,HT.wa0 ht hs pl pu (by rw[F];exact hw) ⟨.ref a,H,I,rfl,q⟩⟩
def kq0(K:W.Frag):R2:=λx y H Q=>∃a b ys,x=.ref a/\y=.ref b/\SqT K H a []/\SqT K H b ys/\Q (.ref b) H
theorem jp0:OpR X (binaryOp .Add) (kq0 X.K):=by
 intro pins s σ H x y v u Q I rx ry h;obtain⟨a,b,ys,rfl,rfl,ha,hb,q⟩:=h;cases rx;cases ry;obtain⟨its,r1,p1,_⟩:=I.tuple ha;obtain⟨O,r2,p2,_⟩:=I.tuple hb;have e:its=[]:=r1.zero;subst e;obtain⟨⟨cls,dd,data,sl⟩,ho,hc,n,hd⟩:=id p1;obtain⟨⟨Y,U,data2,S⟩,F,J,n2,M⟩:=id p2;simp only at hc hd J M;subst hc hd J M;exact T0 ⟨_,ho,rfl⟩ ⟨_,F,rfl⟩ p4 p5 p9 r0 (r8 _ _)
  (tuple_addW0 a b _ O.toArray n n2 dd U sl S rfl) ⟨ho,F,⟨.ref b,H,I,rfl,q⟩⟩
def zr0(x:Str)(n:Int):Str:=⟨(List.replicate n.toNat x.cps).foldl (·++·) #[]⟩
def it0:R2:=λx y H Q=>∃z n,x=.str z/\y=.int n/\-(2 ^ 62)<=n/\n<2 ^ 62/\z.length*n.toNat<=sizeLine/\Q (.str (zr0 z n)) H
theorem gh0:OpR X (binaryOp .Mult) it0:=by
 intro pins s σ H x y v u Q I rx ry h;obtain⟨z,n,rfl,rfl,h1,h2,hz,q⟩:=h;obtain⟨t,rfl⟩:=rx;obtain⟨t',rfl⟩:=ry;have O:∀J k,EP X pins σ Q (.str (zr0 z n) J) { s with toks:=k }:=λJ k=>⟨.str _,H,I.tok k,⟨J,rfl⟩,q⟩
 have Z:(sizeLine:Nat)<2 ^ 40:=by decide
 have S:¬n<1->¬((z.length:Int) > (2 ^ 63 - 1)/n):=by
  intro hn;have Y:0<n:=by omega
  have:(z.length:Int)*n<=2 ^ 63 - 1:=by
   have e:n=(n.toNat:Int):=by omega
   rw[e];have:((z.length*n.toNat:Nat):Int)<=2 ^ 40:=by exact_mod_cast (by omega:z.length*n.toNat<=2 ^ 40)
   rw[Int.natCast_mul] at this;omega
  exact Int.not_lt.mpr ((B20 Y).mpr this)
 refine PySem.P.mul_str (by rw[decide_eq_false (by omega),decide_eq_false (by omega)];rfl) (λhn _=>S hn) (λ_ _=>?_) ?_
 ·show decide (z.length*n.toNat > sizeLine)=false
  exact N2 (by omega)
 ·by_cases hn:n<1
  ·rw[if_pos hn]
   have e:zr0 z n=Str.empty:=by
    unfold zr0;rw[show n.toNat=0 by omega];rfl
   refine⟨by decide,?_⟩;rw[← e];exact O _ _
  ·rw[if_neg hn]
   by_cases h3:(n==1||z.length==0)=true
   ·rw[if_pos h3]
    have e:zr0 z n=z:=by
     rw[Bool.or_eq_true] at h3;rcases h3 with h3|h3
     ·have:n=1:=O0 h3
      subst this;unfold zr0;show (⟨#[]++z.cps⟩:Str)=z;rw[Array.empty_append]
     ·have h3:z.length=0:=O0 h3
      have M:z.cps=#[]:=B30 h3;have:∀k:Nat,(List.replicate k (#[]:Array Nat)).foldl (·++·) #[]=#[]:=by
       intro k
       induction k with
       | zero=>rfl
       | succ k ih=>rw[List.replicate_succ,List.foldl_cons];exact ih
      unfold zr0;rw[M,this];cases z;simp at M;rw[M]
    have:=O t s.toks;rw[e] at this;exact this
   ·rw[if_neg h3]
    have U:∀(k:Nat) (F:Array Nat),((List.replicate k z.cps).foldl (·++·) F).size=F.size+k*z.cps.size:=by
     intro k
     induction k with
     | zero=>intro F;simp
     | succ k ih=>intro F;rw[List.replicate_succ,List.foldl_cons,ih,Array.size_append,Nat.succ_mul];omega
    refine⟨?_,O _ _⟩;show ((List.replicate n.toNat z.cps).foldl (·++·) #[]).size<=_;rw[U];have:z.length=z.cps.size:=rfl;rw[this,Nat.mul_comm] at hz
    simpa using hz
theorem t70:fillsNumberSlot (.type "tuple") "mul"=pure false :=
 PySem.fillsNumberSlot_seq (id := "tuple.__mul__") (r:=some (.builtin "tuple.__rmul__")) B40.lookup (by decide +kernel) B50.lookup (by decide +kernel)
theorem nd0:seqRepeat? (.type "tuple")=pure (some (.builtin "tuple.__mul__")):=by
 unfold seqRepeat?;rw[PySem.seqSlot_of (T := "tuple") (name := "__mul__") (id := "tuple.__mul__") B40.lookup (by decide +kernel),PySem.seqSlot_of (T := "tuple") (name := "__rmul__") (id := "tuple.__rmul__") B50.lookup (by decide +kernel)];rfl
theorem qe0(a:Int)(t:Tok)(l:Addr)(items:Array Value)(n:Nat)(dd:Option Addr)(sl:Array (Option Value)) :
  Meets (Builtin.«int.__rmul__» ⟨[.int a t,.ref l],[]⟩) (λ_ R s=>s.heap.get? l=some { cls:=.type "tuple",dict:=dd,data:=.seq items n,slots:=sl }/\R (.ok (.ret Value.notImplemented)) s) :=
 .of_wp λprog w A R s h=>by
  obtain⟨hp,g,d,tk,os⟩:=s;obtain⟨hl,h⟩:=h
  wp_walk
  exact⟨_,rfl,h⟩
theorem jh0(l:Addr)(items:Array Value)(n:Nat)(dd:Option Addr)(sl:Array (Option Value))(k:Int)(t:Tok)(h2:2<=k)(h3:k<2 ^ 62)(he:items.isEmpty=false)(hsz:items.size*k.toNat<=sizeLine) :
  Meets (Builtin.«tuple.__mul__» ⟨[.ref l,.int k t],[]⟩) (λ_ R s=>s.heap.get? l=some { cls:=.type "tuple",dict:=dd,data:=.seq items n,slots:=sl }/\R (.ok (.ret (Value.ref s.heap.objs.size))) { s with heap:=s.heap.push { cls:=.type "tuple",data:=.seq ((List.replicate k.toNat items).foldl (·++·) #[]) } }) :=
 .of_wp λprog w A R s h=>by
  obtain⟨hp,g,d,tk,os⟩:=s;obtain⟨hl,h⟩:=h;have f1:=AutoSeq1.idx_int;have c1:¬((decide (k < -(2 ^ 63:Int))||decide (k ≥ 2 ^ 63))=true):=by
   rw[decide_eq_false (by omega),decide_eq_false (by omega)];exact B9
  have c2:¬((items.isEmpty||k==1)=true):=by
   rw[he,beq_eq_false_iff_ne.mpr (by omega)];exact B9
  have c3:¬((decide (k<=0)||items.isEmpty)=true):=by
   rw[he,decide_eq_false (by omega)];exact B9
  have hk:((items.size:Int)*k)=((items.size*k.toNat:Nat):Int):=by
   rw[Int.natCast_mul];congr 1;omega
  have hb:(sizeLine:Nat)<2 ^ 40:=by decide
  have c4:¬((items.size:Int)*k > (2 ^ 63 - 1)/8):=by
   rw[hk];omega
  have c5:¬(Builtin.Tuple.tupleTooMany ((items.size:Int)*k)=true):=by
   rw[hk];unfold Builtin.Tuple.tupleTooMany;simp only[decide_eq_true_eq];omega
  have M:∀(m:Nat) (F:Array Value),((List.replicate m items).foldl (·++·) F).size=F.size+m*items.size:=by
   intro m
   induction m with
   | zero=>intro F;simp
   | succ m ih=>intro F;rw[List.replicate_succ,List.foldl_cons,ih,Array.size_append,Nat.succ_mul];omega
  have J:sizeOk (.seq ((List.replicate k.toNat items).foldl (·++·) #[])):=by
   show ((List.replicate k.toNat items).foldl (·++·) #[]).size<=sizeLine;rw[M,Nat.mul_comm]
   simpa using hsz
  wp_walk
  rw[if_neg c1];show wpAny _ _ (Builtin.Tuple.tupleItemsOf (.ref l)>>=_) _ _ _;refine A0 (tupleItemsOf_ ⟨_,hl,rfl,n,rfl⟩ ?_);dsimp only;rw[if_neg c2,if_neg c3];rw[if_neg c4,if_neg c5];exact A0 (m:=Builtin.Tuple.tupleExact _) (E4 (A1 ⟨_,rfl,h⟩) J)
def ig0(K:W.Frag):R2:=λx y H Q=>∃a xs k,x=.ref a/\y=.int k/\SqT K H a xs/\xs≠[]/\2<=k/\k<2 ^ 62/\xs.length*k.toNat<=sizeLine/\∀p,H p=none->Q (.ref p) (upd H p (.tup (List.replicate k.toNat xs).flatten))
theorem gt0:OpR X (binaryOp .Mult) (ig0 X.K):=by
 intro pins s σ H x y v u Q I rx ry h;obtain⟨a,xs,k,rfl,rfl,ha,hx,h2,h3,hz,q⟩:=h;cases rx;obtain⟨t,rfl⟩:=ry;obtain⟨its,r1,p1,_⟩:=I.tuple ha;obtain⟨⟨cls,dd,data,sl⟩,ho,hc,n,hd⟩:=id p1;simp only at hc hd;subst hc hd;have hl:=r1.length;have he:its.toArray.isEmpty=false:=by
  cases its with
  | nil=>exact absurd (r1.nil_iff.mp rfl) hx
  | cons a b=>rfl
 have J:its.toArray.size*k.toNat<=sizeLine:=by rw[List.size_toArray,← hl];exact hz
 have M:(List.replicate k.toNat its.toArray).foldl (·++·) #[]=(List.replicate k.toNat its).flatten.toArray:=by
  have:=foldl_rep its k.toNat [];rw[List.nil_append] at this;exact this
 refine wpAny_binaryOp_repeat_ref (T := "tuple") (U := "int") (by decide) ⟨_,ho,rfl⟩ (λs'=>L8 s' k t) t70 F.fills_int_mul F.slot_int_rmul nd0 F.slot_int_index.lookup
  (P5 F.slot_int_rmul (L8 s k t) F.entry_int_rmul (F.args_int_rmul_2 _ _) (qe0 k t a its.toArray n dd sl)
   ⟨ho,rfl,⟨_,ho,rfl⟩,P5 F.slot_tuple_mul ⟨_,ho,rfl⟩ F.entry_tuple_mul (F.args_tuple_mul_2 _ _) (jh0 a its.toArray n dd sl k t h2 h3 he J) ⟨ho,?_⟩⟩)
 rw[M];refine⟨.ref s.heap.objs.size,_,I.laid (t':=s.toks) (o:=.tup (List.replicate k.toNat xs).flatten) (λb ob q=>A7 _ q) (A4 _) ?_,rfl,q _ (I.hok.fresh (A4 _))⟩;exact⟨by rw[len_rep,Nat.mul_comm];exact hz,_,r1.rep k.toNat,IsTupN.new _ _⟩
end L2
namespace DL
open Spec PyProof.Rows L2
mutual
theorem ud0:∀(d:D) (n:Nat),lean d n=true->deq d d=true
 | .non,_,_=>by unfold deq;rfl
 | .bl b,_,_=>by unfold deq;simp
 | .int b,_,_=>by unfold deq;simp
 | .str b,_,_=>by unfold deq;simp
 | .tup ds,0,h=>by unfold lean at h;cases h
 | .tup ds,n+1,h=>by unfold lean at h;unfold deq;exact wv0 ds n h
 | .lst ds,0,h=>by unfold lean at h;cases h
 | .lst ds,n+1,h=>by unfold lean at h;unfold deq;exact wv0 ds n h
 | .dct _ _,n,h=>by unfold lean at h;cases h
 | .fn _ _,n,h=>by unfold lean at h;cases h
theorem wv0:∀(ds:List D) (n:Nat),leans ds n=true->K3 ds ds=true
 | [],_,_=>by unfold K3;rfl
 | d::ds,n,h=>by
  unfold leans at h;rw[Bool.and_eq_true] at h;unfold K3;rw[ud0 d n h.1,wv0 ds n h.2];rfl
end
theorem zp0:∀ds es:List D,K3 ds es=((List.range (min ds.length es.length)).all (λj=>deq (ds.getD j .non) (es.getD j .non))&&ds.length==es.length)
 | [],[]=>by unfold K3;simp
 | [],_::_=>by unfold K3;simp
 | _::_,[]=>by unfold K3;simp
 | d::ds,e::es=>by
  unfold K3;rw[zp0 ds es];have h1:min (d::ds).length (e::es).length=min ds.length es.length+1:=by simp only[List.length_cons];omega
  rw[h1,List.range_succ_eq_map,List.all_cons,List.all_map];have h2:((d::ds).length==(e::es).length)=(ds.length==es.length):=by
   rw[Bool.eq_iff_iff];simp
  rw[h2,Bool.and_assoc];rfl
theorem wf0:∀{ds:List D} {n j:Nat} {d:D},leans ds n=true->ds[j]?=some d->lean d n=true
 | [],_,_,_,_,h=>by simp at h
 | d::ds,n,0,_,h,e=>by
  unfold leans at h;rw[Bool.and_eq_true] at h;simp at e;subst e;exact h.1
 | d::ds,n,j+1,_,h,e=>by
  unfold leans at h;rw[Bool.and_eq_true] at h;exact wf0 (j:=j) h.2 (by simpa using e)
section
variable{σ:St}{s:Shared}
mutual
theorem Rp.inj(I:Inv X pins σ H s):∀{d e:D} {n m:Nat} {v:V},lean d n=true->lean e m=true->Rp X.K H B d v->Rp X.K H B' e v->d=e
 | .non,e,_,m,v,_,le,h,h'=>by
  rw[R8] at h;subst h;cases e with
  | non=>rfl
  | bl b=>rw[X7] at h';cases h'
  | int b=>rw[j4] at h';cases h'
  | str b=>rw[Y7] at h';cases h'
  | tup b=>rw[X3] at h';obtain⟨_,_,z,_⟩:=h';cases z
  | lst b=>rw[X4] at h';obtain⟨_,_,z,_⟩:=h';cases z
  | dct a b=>unfold lean at le;cases le
  | fn a b=>unfold lean at le;cases le
 | .bl c,e,_,m,v,_,le,h,h'=>by
  rw[X7] at h;subst h;cases e with
  | non=>rw[R8] at h';cases h'
  | bl b=>rw[X7] at h';cases h';rfl
  | int b=>rw[j4] at h';cases h'
  | str b=>rw[Y7] at h';cases h'
  | tup b=>rw[X3] at h';obtain⟨_,_,z,_⟩:=h';cases z
  | lst b=>rw[X4] at h';obtain⟨_,_,z,_⟩:=h';cases z
  | dct a b=>unfold lean at le;cases le
  | fn a b=>unfold lean at le;cases le
 | .int c,e,_,m,v,_,le,h,h'=>by
  rw[j4] at h;subst h;cases e with
  | non=>rw[R8] at h';cases h'
  | bl b=>rw[X7] at h';cases h'
  | int b=>rw[j4] at h';cases h';rfl
  | str b=>rw[Y7] at h';cases h'
  | tup b=>rw[X3] at h';obtain⟨_,_,z,_⟩:=h';cases z
  | lst b=>rw[X4] at h';obtain⟨_,_,z,_⟩:=h';cases z
  | dct a b=>unfold lean at le;cases le
  | fn a b=>unfold lean at le;cases le
 | .str c,e,_,m,v,_,le,h,h'=>by
  rw[Y7] at h;subst h;cases e with
  | non=>rw[R8] at h';cases h'
  | bl b=>rw[X7] at h';cases h'
  | int b=>rw[j4] at h';cases h'
  | str b=>rw[Y7] at h';cases h';rfl
  | tup b=>rw[X3] at h';obtain⟨_,_,z,_⟩:=h';cases z
  | lst b=>rw[X4] at h';obtain⟨_,_,z,_⟩:=h';cases z
  | dct a b=>unfold lean at le;cases le
  | fn a b=>unfold lean at le;cases le
 | .tup ds,e,0,m,v,ld,_,_,_=>by unfold lean at ld;cases ld
 | .tup ds,e,n+1,m,v,ld,le,h,h'=>by
  rw[X3] at h;obtain⟨a,xs,rfl,q,r⟩:=h;unfold lean at ld;cases e with
  | non=>rw[R8] at h';cases h'
  | bl b=>rw[X7] at h';cases h'
  | int b=>rw[j4] at h';cases h'
  | str b=>rw[Y7] at h';cases h'
  | tup es =>
   cases m with
   | zero=>unfold lean at le;cases le
   | succ m =>
    unfold lean at le;rw[X3] at h';obtain⟨a',ys,z,q',r'⟩:=h';cases z;have:=I.tuple_inj q.to q'.to;subst this;rw[Rps.inj I ld le r r']
  | lst es =>
   rw[X4] at h';obtain⟨a',ys,z,q',r'⟩:=h';cases z;obtain⟨_,_,⟨o,e1,c1,_⟩,_⟩:=I.tuple q.to;obtain⟨_,_,p,_⟩:=I.list q'.to;obtain⟨o',e2,c2,_⟩:=p.isList;rw[e1] at e2;cases e2;rw[c1] at c2;injection c2 with z
   exact absurd z (by decide)
  | dct a b=>unfold lean at le;cases le
  | fn a b=>unfold lean at le;cases le
 | .lst ds,e,0,m,v,ld,_,_,_=>by unfold lean at ld;cases ld
 | .lst ds,e,n+1,m,v,ld,le,h,h'=>by
  rw[X4] at h;obtain⟨a,xs,rfl,q,r⟩:=h;unfold lean at ld;cases e with
  | non=>rw[R8] at h';cases h'
  | bl b=>rw[X7] at h';cases h'
  | int b=>rw[j4] at h';cases h'
  | str b=>rw[Y7] at h';cases h'
  | lst es =>
   cases m with
   | zero=>unfold lean at le;cases le
   | succ m =>
    unfold lean at le;rw[X4] at h';obtain⟨a',ys,z,q',r'⟩:=h';cases z;have:=I.list_inj q.to q'.to;subst this;rw[Rps.inj I ld le r r']
  | tup es =>
   rw[X3] at h';obtain⟨a',ys,z,q',r'⟩:=h';cases z;obtain⟨_,_,⟨o,e1,c1,_⟩,_⟩:=I.tuple q'.to;obtain⟨_,_,p,_⟩:=I.list q.to;obtain⟨o',e2,c2,_⟩:=p.isList;rw[e1] at e2;cases e2;rw[c1] at c2;injection c2 with z
   exact absurd z (by decide)
  | dct a b=>unfold lean at le;cases le
  | fn a b=>unfold lean at le;cases le
 | .dct a b,e,n,m,v,ld,_,_,_=>by unfold lean at ld;cases ld
 | .fn a b,e,n,m,v,ld,_,_,_=>by unfold lean at ld;cases ld
theorem Rps.inj(I:Inv X pins σ H s):∀{ds es:List D} {n m:Nat} {xs:List V},leans ds n=true->leans es m=true->Rps X.K H B ds xs->Rps X.K H B' es xs->ds=es
 | [],es,_,_,_,_,_,h,h'=>by
  rw[n6] at h;subst h;have:=h'.length;cases es with
  | nil=>rfl
  | cons a b=>simp at this
 | d::ds,es,n,m,_,ld,le,h,h'=>by
  rw[o7] at h;obtain⟨x,r,rfl,h1,h2⟩:=h;cases es with
  | nil=>rw[n6] at h';cases h'
  | cons e es =>
   rw[o7] at h';obtain⟨x',r',z,F,J⟩:=h';cases z;unfold leans at ld le;rw[Bool.and_eq_true] at ld le;rw[Rp.inj I ld.1 le.1 h1 F,Rps.inj I ld.2 le.2 h2 J]
end
theorem view(I:Inv X pins σ H s){d:D}{x:V}(l:lean d n=true)(h:Rp X.K H B d x)(r:RelV x u) :
  (d=.non/\u=.none)∨(∃b,d=.bl b/\u=.bool b)∨(∃i t,d=.int i/\u=.int i t)∨(∃z t,d=.str z/\u=.str z t) ∨
  (∃m ds a xs its,n=m+1/\leans ds m=true/\d=.tup ds/\x=.ref a/\u=.ref a/\Rps X.K H B ds xs/\Vals xs its/\s.heap.IsTuple a its.toArray) ∨
  (∃m ds a xs its,n=m+1/\leans ds m=true/\d=.lst ds/\x=.ref a/\u=.ref a/\Rps X.K H B ds xs/\Vals xs its/\s.heap.IsList a its.toArray):=by
 cases d with
 | non=>rw[R8] at h;subst h;exact .inl ⟨rfl,r⟩
 | bl b=>rw[X7] at h;subst h;exact .inr (.inl ⟨b,rfl,r⟩)
 | int i=>rw[j4] at h;subst h;obtain⟨t,e⟩:=r;exact .inr (.inr (.inl ⟨i,t,rfl,e⟩))
 | str z=>rw[Y7] at h;subst h;obtain⟨t,e⟩:=r;exact .inr (.inr (.inr (.inl ⟨z,t,rfl,e⟩)))
 | tup ds =>
  cases n with
  | zero=>unfold lean at l;cases l
  | succ m =>
   unfold lean at l;rw[X3] at h;obtain⟨a,xs,rfl,q,rr⟩:=h;obtain⟨its,rv,p,_⟩:=I.tuple q.to;exact .inr (.inr (.inr (.inr (.inl ⟨m,ds,a,xs,its,rfl,l,rfl,rfl,r,rr,rv,p⟩))))
 | lst ds =>
  cases n with
  | zero=>unfold lean at l;cases l
  | succ m =>
   unfold lean at l;rw[X4] at h;obtain⟨a,xs,rfl,q,rr⟩:=h;obtain⟨its,rv,p,_⟩:=I.list q.to;exact .inr (.inr (.inr (.inr (.inr ⟨m,ds,a,xs,its,rfl,l,rfl,rfl,r,rr,rv,p.isList⟩))))
 | dct a b=>unfold lean at l;cases l
 | fn a b=>unfold lean at l;cases l
theorem in1_units:A.in1.units=A.units+1:=rfl
theorem w00{es:List D}{ys:List V}{ws:List Value}{A:Around}(ld:leans ds n=true)(le:leans es m=true)(r1:Rps X.K H B ds xs)(r2:Rps X.K H B' es ys)(v1:Vals xs us)(v2:Vals ys ws)
  (ih:∀d e x y u w,lean d n=true->lean e m=true->Rp X.K H B d x->Rp X.K H B' e y->RelV x u->RelV y w->SeqAt.EqAt A s u w (deq d e)) :
  ∀j (h1:j<us.toArray.size) (h2:j<ws.toArray.size),SeqAt.EqAt A s us.toArray[j] ws.toArray[j] (deq (ds.getD j .non) (es.getD j .non)):=by
 intro j h1 h2;have l1:j<ds.length:=by rw[← r1.length,v1.length];simpa using h1
 have l2:j<es.length:=by rw[← r2.length,v2.length];simpa using h2
 obtain⟨x,ex,rx⟩:=r1.get (D5 l1);obtain⟨y,ey,ry⟩:=r2.get (D5 l2);obtain⟨u,eu,ru⟩:=v1.get ex;obtain⟨w,ew,F⟩:=v2.get ey;have hu:us.toArray[j]=u:=by
  have:us[j]?=some u:=eu;simp at h1;rw[List.getElem?_eq_getElem h1] at this
  simpa using B1 this
 have hw:ws.toArray[j]=w:=by
  have:ws[j]?=some w:=ew;simp at h2;rw[List.getElem?_eq_getElem h2] at this
  simpa using B1 this
 rw[hu,hw];have e1:ds.getD j .non=ds[j]:=by simp[List.getD_eq_getElem?_getD,l1]
 have e2:es.getD j .non=es[j]:=by simp[List.getD_eq_getElem?_getD,l2]
 rw[e1,e2];exact ih _ _ _ _ _ _ (wf0 ld (D5 l1)) (wf0 le (D5 l2)) rx ry ru F
theorem ks0(I:Inv X pins σ H s):∀(n m:Nat) (d e:D) (x y:V) (u w:Value) (A:Around),A.units+n<cLine->lean d n=true->lean e m=true->Rp X.K H B d x->Rp X.K H B' e y->RelV x u->RelV y w->SeqAt.EqAt A s u w (deq d e):=by
 intro n
 induction n with
 | zero =>
  intro m d e x y u w A hu ld le hx hy rx ry;have F:A.units<cLine:=by omega
  rcases view I ld hx rx with⟨rfl,rfl⟩|⟨b,rfl,rfl⟩|⟨i,t,rfl,rfl⟩|⟨z,t,rfl,rfl⟩|⟨n',_,_,_,_,hn,_⟩|⟨n',_,_,_,_,hn,_⟩<;>(try (exact absurd hn (by omega))) <;>
  rcases view I le hy ry with⟨rfl,rfl⟩|⟨b',rfl,rfl⟩|⟨i',t',rfl,rfl⟩|⟨z',t',rfl,rfl⟩|⟨m',es,a',ys,O,rfl,S,rfl,rfl,rfl,M,J,p'⟩|⟨m',es,a',ys,O,rfl,S,rfl,rfl,rfl,M,J,p'⟩ <;>
  unfold deq <;>
  first
  | with_reducible exact U1 _|with_reducible exact SeqAt.EqAt.bool_bool _ _|with_reducible exact SeqAt.EqAt.int_int _ _ _ _|with_reducible exact SeqAt.EqAt.str_str _ _ _ _|with_reducible exact SeqAt.EqAt.bool_int _ _ _|with_reducible exact SeqAt.EqAt.int_bool _ _ _
  | with_reducible exact SeqAt.EqAt.none_bool _|with_reducible exact SeqAt.EqAt.none_int _ _|with_reducible exact SeqAt.EqAt.none_str _ _|with_reducible exact SeqAt.EqAt.bool_none _|with_reducible exact SeqAt.EqAt.bool_str _ _ _|with_reducible exact SeqAt.EqAt.int_none _ _|with_reducible exact i7 _ _ _ _
  | with_reducible exact SeqAt.EqAt.str_none _ _|with_reducible exact SeqAt.EqAt.str_bool _ _ _|with_reducible exact i8 _ _ _ _
  | with_reducible exact SeqAt.EqAt.none_list p' F|with_reducible exact SeqAt.EqAt.bool_list _ p' F|with_reducible exact SeqAt.EqAt.int_list _ _ p' F|with_reducible exact SeqAt.EqAt.str_list _ _ p' F
  | with_reducible exact SeqAt.EqAt.none_tuple p' F|with_reducible exact SeqAt.EqAt.bool_tuple _ p' F|with_reducible exact SeqAt.EqAt.int_tuple _ _ p' F|with_reducible exact SeqAt.EqAt.str_tuple _ _ p' F
 | succ n ih =>
  intro m d e x y u w A hu ld le hx hy rx ry;have F:A.units<cLine:=by omega
  have Y:A.in1.units+n<cLine:=by rw[in1_units];omega
  rcases view I ld hx rx with⟨rfl,rfl⟩|⟨b,rfl,rfl⟩|⟨i,t,rfl,rfl⟩|⟨z,t,rfl,rfl⟩|⟨n',ds,a,xs,its,hn,U,rfl,rfl,rfl,rr,rv,p⟩|⟨n',ds,a,xs,its,hn,U,rfl,rfl,rfl,rr,rv,p⟩ <;>
  rcases view I le hy ry with⟨rfl,rfl⟩|⟨b',rfl,rfl⟩|⟨i',t',rfl,rfl⟩|⟨z',t',rfl,rfl⟩|⟨m',es,a',ys,O,rfl,S,rfl,rfl,rfl,M,J,p'⟩|⟨m',es,a',ys,O,rfl,S,rfl,rfl,rfl,M,J,p'⟩
  case inr.inr.inr.inr.inl.inr.inr.inr.inr.inl =>
   cases hn
   by_cases hab:a=a'
   ·subst hab
    have e:D.tup ds=D.tup es:=Rp.inj I ld le hx hy;rw[← e,ud0 _ _ ld];exact U1 _
   ·refine SeqAt.EqAt.of_refs hab ?_
    have:=SeqAt.RcAt.tuples (e:=λj=>deq (ds.getD j .non) (es.getD j .non)) p p' F (w00 U S rr M rv J λd e x y u w h1 h2 h3 h4 h5 h6=>ih m' d e x y u w A.in1 Y h1 h2 h3 h4 h5 h6);unfold deq;rw[zp0]
    simpa [← rv.length,← J.length,rr.length,M.length] using this
  case inr.inr.inr.inr.inr.inr.inr.inr.inr.inr =>
   cases hn
   by_cases hab:a=a'
   ·subst hab
    have e:D.lst ds=D.lst es:=Rp.inj I ld le hx hy;rw[← e,ud0 _ _ ld];exact U1 _
   ·refine SeqAt.EqAt.of_refs hab ?_
    have s1:its.toArray.size=ds.length:=by rw[List.size_toArray,← rv.length,rr.length]
    have s2:O.toArray.size=es.length:=by rw[List.size_toArray,← J.length,M.length]
    unfold deq;rw[zp0]
    by_cases hl:ds.length=es.length
    ·have:=SeqAt.RcAt.lists (e:=λj=>deq (ds.getD j .non) (es.getD j .non)) p p' (by rw[s1,s2,hl]) F (w00 U S rr M rv J λd e x y u w h1 h2 h3 h4 h5 h6=>ih m' d e x y u w A.in1 Y h1 h2 h3 h4 h5 h6)
     rw[s1] at this;rw[hl] at this ⊢
     simpa using this
    ·have:=Bv0 (A:=A) p p' (by rw[s1,s2];simpa using hl) F
     rw[beq_eq_false_iff_ne.mpr hl,Bool.and_false];exact this
  all_goals
   unfold deq
   first
   | with_reducible exact U1 _|with_reducible exact SeqAt.EqAt.bool_bool _ _|with_reducible exact SeqAt.EqAt.int_int _ _ _ _|with_reducible exact SeqAt.EqAt.str_str _ _ _ _|with_reducible exact SeqAt.EqAt.bool_int _ _ _|with_reducible exact SeqAt.EqAt.int_bool _ _ _
   | with_reducible exact SeqAt.EqAt.none_bool _|with_reducible exact SeqAt.EqAt.none_int _ _|with_reducible exact SeqAt.EqAt.none_str _ _|with_reducible exact SeqAt.EqAt.bool_none _|with_reducible exact SeqAt.EqAt.bool_str _ _ _|with_reducible exact SeqAt.EqAt.int_none _ _|with_reducible exact i7 _ _ _ _
   | with_reducible exact SeqAt.EqAt.str_none _ _|with_reducible exact SeqAt.EqAt.str_bool _ _ _|with_reducible exact i8 _ _ _ _
   | with_reducible exact SeqAt.EqAt.none_list p' F|with_reducible exact SeqAt.EqAt.bool_list _ p' F|with_reducible exact SeqAt.EqAt.int_list _ _ p' F|with_reducible exact SeqAt.EqAt.str_list _ _ p' F
   | with_reducible exact SeqAt.EqAt.none_tuple p' F|with_reducible exact SeqAt.EqAt.bool_tuple _ p' F|with_reducible exact SeqAt.EqAt.int_tuple _ _ p' F|with_reducible exact SeqAt.EqAt.str_tuple _ _ p' F
   | with_reducible exact SeqAt.EqAt.list_none p F|with_reducible exact SeqAt.EqAt.list_bool _ p F|with_reducible exact SeqAt.EqAt.list_int _ _ p F|with_reducible exact SeqAt.EqAt.list_str _ _ p F
   | with_reducible exact SeqAt.EqAt.tuple_none p F|with_reducible exact SeqAt.EqAt.tuple_bool _ p F|with_reducible exact SeqAt.EqAt.tuple_int _ _ p F|with_reducible exact SeqAt.EqAt.tuple_str _ _ p F
   | with_reducible exact SeqAt.EqAt.list_tuple p p' F|with_reducible exact SeqAt.EqAt.tuple_list p p' F
end
end DL
namespace DL
open Spec PyProof.Rows L2
section
variable{σ:St}{s:Shared}
theorem ml0(I:Inv X pins σ H s)(n m:Nat)(d e:D)(x y:V)(u w:Value)(A:Around)(hu:A.units+n<cLine)(ld:lean d n=true)(le:lean e m=true)(hx:Rp X.K H B d x)(hy:Rp X.K H B' e y)(rx:RelV x u)(ry:RelV y w) :
  SeqAt.RcAt A s u w (deq d e)/\SeqAt.RcNeAt A s u w (!deq d e):=by
 have F:A.units<cLine:=by omega
 rcases view I ld hx rx with⟨rfl,rfl⟩|⟨b,rfl,rfl⟩|⟨i,t,rfl,rfl⟩|⟨z,t,rfl,rfl⟩|⟨n',ds,a,xs,its,hn,Y,rfl,rfl,rfl,rr,rv,p⟩|⟨n',ds,a,xs,its,hn,Y,rfl,rfl,rfl,rr,rv,p⟩ <;>
 rcases view I le hy ry with⟨rfl,rfl⟩|⟨b',rfl,rfl⟩|⟨i',t',rfl,rfl⟩|⟨z',t',rfl,rfl⟩|⟨m',es,a',ys,S,rfl,Z,rfl,rfl,rfl,O,J,p'⟩|⟨m',es,a',ys,S,rfl,Z,rfl,rfl,rfl,O,J,p'⟩
 case inr.inr.inr.inr.inl.inr.inr.inr.inr.inl =>
  subst hn;have U:A.in1.units+n'<cLine:=by rw[in1_units];omega
  have M:=w00 (A:=A.in1) Y Z rr O rv J λd e x y u w h1 h2 h3 h4 h5 h6=>ks0 I n' m' d e x y u w A.in1 U h1 h2 h3 h4 h5 h6
  have q1:=SeqAt.RcAt.tuples (e:=λj=>deq (ds.getD j .non) (es.getD j .non)) p p' F M;have q2:=SeqAt.RcNeAt.tuples (e:=λj=>deq (ds.getD j .non) (es.getD j .non)) p p' F M;unfold deq;rw[zp0];have s1:its.toArray.size=ds.length:=by rw[List.size_toArray,← rv.length,rr.length]
  have s2:S.toArray.size=es.length:=by rw[List.size_toArray,← J.length,O.length]
  rw[s1,s2] at q1 q2;exact⟨q1,q2⟩
 case inr.inr.inr.inr.inr.inr.inr.inr.inr.inr =>
  subst hn;have U:A.in1.units+n'<cLine:=by rw[in1_units];omega
  have M:=w00 (A:=A.in1) Y Z rr O rv J λd e x y u w h1 h2 h3 h4 h5 h6=>ks0 I n' m' d e x y u w A.in1 U h1 h2 h3 h4 h5 h6
  have s1:its.toArray.size=ds.length:=by rw[List.size_toArray,← rv.length,rr.length]
  have s2:S.toArray.size=es.length:=by rw[List.size_toArray,← J.length,O.length]
  unfold deq;rw[zp0]
  by_cases hl:ds.length=es.length
  ·have q1:=SeqAt.RcAt.lists (e:=λj=>deq (ds.getD j .non) (es.getD j .non)) p p' (by rw[s1,s2,hl]) F M
   have q2:=SeqAt.RcNeAt.lists (e:=λj=>deq (ds.getD j .non) (es.getD j .non)) p p' (by rw[s1,s2,hl]) F M;rw[s1] at q1 q2;rw[hl] at q1 q2 ⊢;simp only[Nat.min_self,beq_self_eq_true,Bool.and_true];exact⟨q1,q2⟩
  ·have q1:=Bv0 (A:=A) p p' (by rw[s1,s2];simpa using hl) F
   have q2:=SeqAt.RcNeAt.lists_lengths (A:=A) p p' (by rw[s1,s2];simpa using hl) F;rw[beq_eq_false_iff_ne.mpr hl,Bool.and_false];exact⟨q1,q2⟩
 all_goals
  unfold deq;constructor
  ·first
   | with_reducible exact SeqAt.RcAt.none_none|with_reducible exact SeqAt.RcAt.bool_bool _ _|with_reducible exact SeqAt.RcAt.int_int _ _ _ _|with_reducible exact SeqAt.RcAt.str_str _ _ _ _|with_reducible exact SeqAt.RcAt.bool_int _ _ _|with_reducible exact SeqAt.RcAt.int_bool _ _ _
   | with_reducible exact SeqAt.RcAt.none_bool _|with_reducible exact SeqAt.RcAt.none_int _ _|with_reducible exact SeqAt.RcAt.none_str _ _|with_reducible exact SeqAt.RcAt.bool_none _|with_reducible exact SeqAt.RcAt.bool_str _ _ _|with_reducible exact SeqAt.RcAt.int_none _ _|with_reducible exact SeqAt.RcAt.int_str _ _ _ _
   | with_reducible exact SeqAt.RcAt.str_none _ _|with_reducible exact SeqAt.RcAt.str_bool _ _ _|with_reducible exact SeqAt.RcAt.str_int _ _ _ _
   | with_reducible exact SeqAt.RcAt.none_list p' F|with_reducible exact SeqAt.RcAt.bool_list _ p' F|with_reducible exact SeqAt.RcAt.int_list _ _ p' F|with_reducible exact SeqAt.RcAt.str_list _ _ p' F
   | with_reducible exact SeqAt.RcAt.none_tuple p' F|with_reducible exact SeqAt.RcAt.bool_tuple _ p' F|with_reducible exact SeqAt.RcAt.int_tuple _ _ p' F|with_reducible exact SeqAt.RcAt.str_tuple _ _ p' F
   | with_reducible exact SeqAt.RcAt.list_none p F|with_reducible exact SeqAt.RcAt.list_bool _ p F|with_reducible exact SeqAt.RcAt.list_int _ _ p F|with_reducible exact SeqAt.RcAt.list_str _ _ p F
   | with_reducible exact SeqAt.RcAt.tuple_none p F|with_reducible exact SeqAt.RcAt.tuple_bool _ p F|with_reducible exact SeqAt.RcAt.tuple_int _ _ p F|with_reducible exact SeqAt.RcAt.tuple_str _ _ p F
   | with_reducible exact SeqAt.RcAt.list_tuple p p' F|with_reducible exact SeqAt.RcAt.tuple_list p p' F
  ·try rw[Bool.not_false]
   try rw[Bool.not_true]
   first
   | with_reducible exact SeqAt.RcNeAt.none_none|with_reducible exact SeqAt.RcNeAt.bool_bool _ _|with_reducible exact SeqAt.RcNeAt.int_int _ _ _ _|with_reducible exact SeqAt.RcNeAt.str_str _ _ _ _|with_reducible exact SeqAt.RcNeAt.bool_int _ _ _|with_reducible exact SeqAt.RcNeAt.int_bool _ _ _
   | with_reducible exact SeqAt.RcNeAt.none_bool _|with_reducible exact SeqAt.RcNeAt.none_int _ _|with_reducible exact SeqAt.RcNeAt.none_str _ _|with_reducible exact SeqAt.RcNeAt.bool_none _|with_reducible exact SeqAt.RcNeAt.bool_str _ _ _|with_reducible exact SeqAt.RcNeAt.int_none _ _|with_reducible exact SeqAt.RcNeAt.int_str _ _ _ _
   | with_reducible exact SeqAt.RcNeAt.str_none _ _|with_reducible exact SeqAt.RcNeAt.str_bool _ _ _|with_reducible exact SeqAt.RcNeAt.str_int _ _ _ _
   | with_reducible exact SeqAt.RcNeAt.none_list p' F|with_reducible exact SeqAt.RcNeAt.bool_list _ p' F|with_reducible exact SeqAt.RcNeAt.int_list _ _ p' F|with_reducible exact SeqAt.RcNeAt.str_list _ _ p' F
   | with_reducible exact SeqAt.RcNeAt.none_tuple p' F|with_reducible exact SeqAt.RcNeAt.bool_tuple _ p' F|with_reducible exact SeqAt.RcNeAt.int_tuple _ _ p' F|with_reducible exact SeqAt.RcNeAt.str_tuple _ _ p' F
   | with_reducible exact SeqAt.RcNeAt.list_none p F|with_reducible exact SeqAt.RcNeAt.list_bool _ p F|with_reducible exact SeqAt.RcNeAt.list_int _ _ p F|with_reducible exact SeqAt.RcNeAt.list_str _ _ p F
   | with_reducible exact SeqAt.RcNeAt.tuple_none p F|with_reducible exact SeqAt.RcNeAt.tuple_bool _ p F|with_reducible exact SeqAt.RcNeAt.tuple_int _ _ p F|with_reducible exact SeqAt.RcNeAt.tuple_str _ _ p F
   | with_reducible exact SeqAt.RcNeAt.list_tuple p p' F|with_reducible exact SeqAt.RcNeAt.tuple_list p p' F
end
section
variable{a:Expr}{ga:Ds->Option D}
def nt0(K:W.Frag)(neg:Bool):R2:=λx y H Q=>∃B B' dx dy,Rp K H B dx x/\Rp K H B' dy y/\lean dx 50=true/\lean dy 50=true/\Q (.bl (xor neg (deq dx dy))) H
theorem uv0(hu:X.A.units+64<cLine):OpR X (compareOp .Eq) (nt0 X.K false):=by
 intro pins s σ H x y v u Q I rx ry h;obtain⟨B,B',dx,dy,hx,hy,lx,ly,q⟩:=h;exact(ml0 I 50 50 dx dy x y v u X.A (by omega) lx ly hx hy rx ry).1 _ _ _ _ ⟨.bl _,H,I,rfl,by rw[Bool.false_xor] at q;exact q⟩
theorem wo0(hu:X.A.units+64<cLine):OpR X (compareOp .NotEq) (nt0 X.K true):=by
 intro pins s σ H x y v u Q I rx ry h;obtain⟨B,B',dx,dy,hx,hy,lx,ly,q⟩:=h;exact(ml0 I 50 50 dx dy x y v u X.A (by omega) lx ly hx hy rx ry).2 _ _ _ _ ⟨.bl _,H,I,rfl,by rw[Bool.true_xor] at q;exact q⟩
theorem vi0:Op2 K (nt0 K false) J8:=by
 intro H B x y dx dy d Q hb rx ry h k;unfold J8 at h;split at h
 ·rename_i hl
  cases h;exact⟨B,B,dx,dy,rx,ry,hl.1,hl.2,k _ H (Same.refl H) (by rw[X7,Bool.false_xor])⟩
 ·cases h
theorem xi0:Op2 K (nt0 K true) O2:=by
 intro H B x y dx dy d Q hb rx ry h k;unfold O2 at h;split at h
 ·rename_i hl
  cases h;exact⟨B,B,dx,dy,rx,ry,hl.1,hl.2,k _ H (Same.refl H) (by rw[X7,Bool.true_xor])⟩
 ·cases h
theorem je0:Op2 K (λx y H Q=>rI0 (λi j=>.int (i+j)) x y H Q∨(∃i j,x=.str i/\y=.str j/\i.length+j.length<=sizeLine/\Q (.str (i++j)) H)∨ij0 K x y H Q∨h00 K x y H Q∨kq0 K x y H Q) n8:=by
 intro H B x y dx dy d Q hb rx ry h k;cases dx<;>cases dy<;>simp only[n8] at h<;>try cases h
 ·rw[j4] at rx ry
  subst rx ry;exact .inl ⟨_,_,rfl,rfl,k _ H (Same.refl H) (by rw[j4])⟩
 ·split at h
  ·cases h
   rw[Y7] at rx ry;subst rx ry;exact .inr (.inl ⟨_,_,rfl,rfl,by assumption,k _ H (Same.refl H) (by rw[Y7])⟩)
  ·cases h
 ·split at h
  ·rename_i hz
   cases h;have M:=ry;have J:=rx;rw[X3] at rx ry;obtain⟨a,xs,rfl,q1,r1⟩:=rx;obtain⟨b,ys,rfl,q2,r2⟩:=ry
   by_cases he:xs=[]
   ·subst he
    have e:‹List D›=‹List D›:=rfl;have hn:=r1.length;simp at hn;have F:=U2.mp hn.symm;subst F;exact .inr (.inr (.inr (.inr ⟨a,b,ys,rfl,rfl,q1.to,q2.to,k _ H (Same.refl H) (by rw[List.nil_append];exact M)⟩)))
   ·refine .inr (.inr (.inr (.inl ⟨a,b,xs,ys,rfl,rfl,q1.to,q2.to,he,by rw[r1.length,r2.length];exact hz,λz=>?_,λz p hp=>k _ _ (Z7 hp) (va0 hb hp (r1.append r2))⟩)))
    subst z;have hn:=r2.length;simp at hn;have F:=U2.mp hn.symm;subst F;exact k _ H (Same.refl H) (by rw[List.append_nil];exact J)
  ·cases h
 ·split at h
  ·rename_i hz
   cases h;rw[X4] at rx ry;obtain⟨a,xs,rfl,q1,r1⟩:=rx;obtain⟨b,ys,rfl,q2,r2⟩:=ry;exact .inr (.inr (.inl ⟨a,b,xs,ys,rfl,rfl,q1.to,q2.to,by rw[r1.length,r2.length];exact hz,λp hp=>k _ _ (Z7 hp) (yh0 hb hp (r1.append r2))⟩))
  ·cases h
theorem Z1(ha:PD X a ga)(hb:PD X b gb):PD X (.BinOp a .Add b pos) (o2 ga gb n8):=xx0 (ds0.or (m30.or (gs0.or (f90.or jp0)))) je0 ha hb
theorem n70(h:Rps K H B ds xs):∀k:Nat,Rps K H B (List.replicate k ds).flatten (List.replicate k xs).flatten
 | 0=>by simp[n6]
 | k+1=>by
  rw[List.replicate_succ,List.replicate_succ,List.flatten_cons,List.flatten_cons];exact h.append (n70 h k)
theorem ju0:Op2 K (λx y H Q=>rI CMul (λi j=>.int (i*j)) x y H Q∨it0 x y H Q∨ig0 K x y H Q) W9:=by
 intro H B x y dx dy d Q hb rx ry h k;cases dx<;>cases dy<;>simp only[W9] at h<;>try cases h
 ·split at h
  ·cases h
   rw[j4] at rx ry;subst rx ry;exact .inl ⟨_,_,rfl,rfl,by assumption,k _ H (Same.refl H) (by rw[j4])⟩
  ·cases h
 ·split at h
  ·rename_i hz
   cases h;rw[Y7] at rx;rw[j4] at ry;subst rx ry;exact .inr (.inl ⟨_,_,rfl,rfl,hz.1,hz.2.1,hz.2.2,k _ H (Same.refl H) (by rw[Y7];rfl)⟩)
  ·cases h
 ·split at h
  ·rename_i hz
   cases h;rw[X3] at rx;rw[j4] at ry;subst ry;obtain⟨a,xs,rfl,q1,r1⟩:=rx;refine .inr (.inr ⟨a,xs,_,rfl,rfl,q1.to,λz=>hz.1 ?_,hz.2.1,hz.2.2.1,by rw[r1.length];exact hz.2.2.2,λp hp=>k _ _ (Z7 hp) (va0 hb hp (n70 r1 _))⟩);subst z;have hn:=r1.length;simp at hn;exact U2.mp hn.symm
  ·cases h
theorem R3(ha:PD X a ga)(hb:PD X b gb):PD X (.BinOp a .Mult b pos) (o2 ga gb W9):=xx0 (ec0.or (gh0.or gt0)) ju0 ha hb
theorem mm0{xs:List D}(h:sIx xs.length 0 lo=0/\sIx xs.length xs.length hi=xs.length):cutD xs lo hi=xs:=by
 unfold cutD;rw[h.1,h.2];simp
theorem Q5{lo hi:Option Expr}{gl gh:Ds->Option (Option Int)}{p2:Pos}(he:PD X e g)(hl:PDO X lo gl)(hh:PDO X hi gh) :
  PD X (.Subscript e (.Slice lo hi none p2) pos) (U9 g gl gh):=.mk λB δ =>
 (j10 (dp0.or (gw0.or (e00.or fo0))) (he B δ) (hl B δ) (hh B δ)).imp fun σ H Q ⟨d,en,h,k⟩=>by
  unfold U9 at h;cases e1:g δ with
  | none=>rw[e1] at h;cases h
  | some x =>
   cases e2:gl δ with
   | none=>rw[e1,e2] at h;cases h
   | some l =>
    cases e3:gh δ with
    | none=>rw[e1,e2,e3] at h;cases h
    | some u =>
     rw[e1,e2,e3] at h;simp only[Option.bind_some] at h;refine⟨x,en,e1,λv H1 s1 r1=>⟨l,en.same s1,(by first|exact e2|rfl),λH2 s2=>⟨u,(en.same s1).same s2,(by first|exact e3|rfl),λH3 s3=>?_⟩⟩⟩;have S:=(s1.trans s2).trans s3;have r3:=(r1.same s2).same s3;have hb:=(((en.same s1).same s2).same s3).bad;cases x<;>simp only[slA] at h<;>try cases h
     ·split at h
      ·cases h
       rw[Y7] at r3;exact .inl ⟨_,r3,by assumption,k _ H3 S (by rw[Y7])⟩
      ·cases h
     ·have r4:=r3
      rw[X3] at r3;obtain⟨a,xs,rfl,q,r⟩:=r3;rename_i dxs
      by_cases hw:sIx dxs.length 0 l=0/\sIx dxs.length dxs.length u=dxs.length
      ·refine .inr (.inr (.inr ⟨a,xs,rfl,q.to,by rw[r.length,xp0,xp0];exact hw,k _ _ S ?_⟩))
       rw[mm0 hw];exact r4
      ·exact .inr (.inr (.inl ⟨a,xs,rfl,q.to,by rw[r.length,xp0,xp0];exact hw,λp hp=>k _ _ (S.trans (Z7 hp)) (va0 hb hp (ow0 r l u))⟩))
     ·rw[X4] at r3
      obtain⟨a,xs,rfl,q,r⟩:=r3;exact .inr (.inl ⟨a,xs,rfl,q.to,λp hp=>k _ _ (S.trans (Z7 hp)) (yh0 hb hp (ow0 r l u))⟩)
theorem dz0:FnR K (λxs H Q=>(∃i,xs=[.int i]/\Q (.int i) H)∨∃k,xs=[.bl k]/\Q (.int (if k then 1 else 0)) H) intOfD:=by
 intro H B xs ds d Q hb r h k;unfold intOfD at h;split at h
 ·cases h
  obtain⟨v,rfl,r1⟩:=O4 r;rw[j4] at r1;subst r1;exact .inl ⟨_,rfl,k _ H (Same.refl H) (by rw[j4])⟩
 ·cases h
  obtain⟨v,rfl,r1⟩:=O4 r;rw[X7] at r1;subst r1;exact .inr ⟨_,rfl,k _ H (Same.refl H) (by rw[j4])⟩
 ·cases h
theorem f30:FnR K (λxs H Q=>∃p ys,xs=[.ref p]/\(SqL K H p ys∨SqT K H p ys)/\∀l,H l=none->Q (.ref l) (upd H l (.lst ys))) yt0:=by
 intro H B xs ds d Q hb r h k;unfold yt0 at h;split at h
 ·cases h
  obtain⟨v,rfl,r1⟩:=O4 r;rw[X4] at r1;obtain⟨a,ys,rfl,q,rr⟩:=r1;exact⟨a,ys,rfl,.inl q.to,λl hl=>k _ _ (Z7 hl) (yh0 hb hl rr)⟩
 ·cases h
  obtain⟨v,rfl,r1⟩:=O4 r;rw[X3] at r1;obtain⟨a,ys,rfl,q,rr⟩:=r1;exact⟨a,ys,rfl,.inr q.to,λl hl=>k _ _ (Z7 hl) (yh0 hb hl rr)⟩
 ·cases h
end
end DL
namespace DL
open Spec PyProof.Rows
theorem W5{gA:GA}(h:gA δ=some ds)(hl:ds.length<=sizeLine):Y6 gA δ=some (.tup ds):=by
 unfold Y6;rw[h,Option.bind_some,if_pos hl]
theorem y60{gA:GA}(h:gA δ=some ds)(hl:ds.length<=sizeLine):X5 gA δ=some (.lst ds):=by
 unfold X5;rw[h,Option.bind_some,if_pos hl]
theorem hh0{n:Int}{d:D}(h:d∈Y4 0 n):∃k:Nat,(k:Int)<n/\d=.int (k:Int):=by
 obtain⟨k,hk,rfl⟩:=A8.mp h;have:=D3.mp hk;exact⟨k,by omega,by rw[Int.zero_add]⟩
theorem g10(f:D->α)(n:Int):(Y4 0 n).map f=(List.range n.toNat).map λ(k:Nat)=>f (.int (k:Int)):=by
 unfold Y4;rw[List.map_map];have:n - 0=n:=by omega
 rw[this];refine W1 λk _=>?_
 show f (.int (0+(k:Int)))=_;rw[Int.zero_add]
theorem yg0(n:Int):(Y4 0 n).length=n.toNat:=by unfold Y4;simp
theorem z70{n:Int}{d:D}(h:(Y4 0 n)[j]?=some d):j<n.toNat/\d=.int (j:Int):=by
 have hj:j<n.toNat:=by
  have:=(H0.mp h).1
  rwa [yg0] at this
 refine⟨hj,?_⟩;unfold Y4 at h;rw[List.getElem?_map,List.getElem?_range (by simpa using hj)] at h;have:=B1 h;rw[← this];show D.int (0+(j:Int))=_;rw[Int.zero_add]
theorem q70{gt:GB}{ge:GE}{n:Int}(h:Nat->D)(H:∀k:Nat,(k:Int)<n->∃δ',gN 0 (.int (k:Int)) δ=some δ'/\gt δ'=some true/\ge δ'=some (h k)) :
  V5 (gN 0) gt ge δ (Y4 0 n)=some ((List.range n.toNat).map h):=by
 rw[Q3 (λd=>match d with|.int j=>h j.toNat|_=>.non) (λd hd=>by
  obtain⟨k,hk,rfl⟩:=hh0 hd;exact H k hk),g10]
 rfl
end DL
namespace DL
open Spec PyProof.Rows L2
section
variable{a:Expr}{ga:Ds->Option D}
theorem ri0(hm:X.mg x=none)(hv:bootBuiltins x=some (.type "list"))(ha:PD X e g)(hg:Gl X x:=by rfl)
  (hn:x ≠"__name__" := by decide) (hdb:(x==("__debug__" : Str))=false:=by decide) (he:starEach [e] X.env=(false,eval e X.env)::starEach [] X.env:=by rfl) (hpl:(backTo pos (starEach [] X.env)).any (·.1)=false:=by rfl) :
  PDF X (.Call (.Name x p) [e] [] pos) (oA (z9 g v7) yt0):=.mk λB δ=>(v40 wl0 hg hm hv (J5 (ha B δ) yj0 he) hn hdb he hpl).imp fun σ H Q ⟨d,en,h,k⟩=>by
 unfold oA z9 v7 at h;cases e1:g δ with
 | none=>rw[e1] at h;cases h
 | some x =>
  rw[e1] at h;simp only[Option.bind_some,Option.map_some] at h;refine⟨x,en,e1,λv H1 s1 r1=>?_⟩;cases x<;>simp only[yt0] at h<;>try cases h
  ·rw[X3] at r1
   obtain⟨q,xs,rfl,hq,rr⟩:=r1;exact⟨q,xs,rfl,.inr hq.to,λl hl=>k l _ (s1.free hl) (s1.trans (Z7 hl)) ⟨_,Z8,rr.mono (Gr.fresh hl)⟩⟩
  ·rw[X4] at r1
   obtain⟨q,xs,rfl,hq,rr⟩:=r1;exact⟨q,xs,rfl,.inl hq.to,λl hl=>k l _ (s1.free hl) (s1.trans (Z7 hl)) ⟨_,Z8,rr.mono (Gr.fresh hl)⟩⟩
end
def FnN(P:Program)(w:World)(K:W.Frag)(mg:Str->Option Value)(base:Heap)(x:Str)(k:Nat)(ps:List Str)(f:List D->Option D):Prop :=
 ∃(fa:Addr) (fd:FuncData),FnOk P w K mg base CX0 k fa fd ps (spN K f)/\mg x=some (.ref fa)/\W.keepIn K (.ref fa)=true/\Binds K fd ps []
theorem k70{k:Nat}{ps:List Str}{f:List D->Option D}(C:FnN X.prog X.w X.K X.mg X.base x k ps f)(hr:Room m X.A)(hk:k<=m)(ha:PDA X (e::es) gA)(hg:Gl X x:=by rfl)(hdb:(x==("__debug__" : Str))=false:=by decide)
  (he:starEach (e::es) X.env=(false,eval e X.env)::starEach es X.env:=by rfl) (hpl:(backTo pos (starEach es X.env)).any (·.1)=false:=by rfl):PDF X (.Call (.Name x p) (e::es) [] pos) (oA gA f):=by
 obtain⟨fa,fd,F,hm,kp,hb⟩:=C;exact .mk λB δ=>(tc0 (E:=E0) F (hr.mono hk) hg hm kp hb .nil m70 (ha B δ) hdb he hpl).imp fun σ H Q h=>by
  obtain⟨d,en,h,k⟩:=h;unfold oA at h;cases e1:gA δ with
  | none=>rw[e1] at h;cases h
  | some ds =>
   rw[e1] at h;refine⟨ds,en,e1,λvs H1 s1 r1=>?_⟩;show spN X.K f (vs++[]) H1 Q E0;rw[List.append_nil];exact⟨B,ds,d,(en.same s1).bad,r1,h,λp H' hp s r=>k p H' (s1.free hp) (s1.trans s) r⟩
theorem zg0{k:Nat}{ps:List Str}{f:List D->Option D}(C:FnN X.prog X.w X.K X.mg X.base x k ps f)(hr:Room m X.A)(hk:k<=m)(ha:PDA X (e::es) gA)(hg:Gl X x:=by rfl)(hdb:(x==("__debug__" : Str))=false:=by decide)
  (he:starEach (e::es) X.env=(false,eval e X.env)::starEach es X.env:=by rfl) (hpl:(backTo pos (starEach es X.env)).any (·.1)=false:=by rfl):PD X (.Call (.Name x p) (e::es) [] pos) (oA gA f):=(k70 C hr hk ha hg hdb he hpl).pd
theorem K4(h:PDF X e g):PSD X (.Return (some e) pos) (zt0 g):=.mk λH₀ B₀ δ pins s σ H D I ⟨r,en,e1,k⟩=>by
 unfold zt0 at e1;obtain⟨B,b1,b2,env⟩:=en.ex;cases e2:g δ with
 | none=>rw[e2] at e1;cases e1
 | some d =>
  rw[e2] at e1;cases e1;exact qd0 (h B δ) pins s σ H D I ⟨d,env,e2,λp H' hp s' r=>k p H' (en.same.free hp) (en.same.trans s') (r.mono (λo h=>h) (Gr.less λa z=>z.imp (b1 a) id)).toL⟩
theorem u20(i:Nat){px:Pos}(hN:X.N[i]?=some x:=by rfl)(hv:Vis X.env.scope x:=by first|exact Or.inl rfl|exact Or.inr (Or.inl rfl)|exact Or.inr (Or.inr rfl))(hd:(x==("__debug__" : Str))=false:=by decide)(hcd:(x==("__classdict__" : Str))=false:=by decide) :
  PSD X (.Return (some (.Name x px)) pos) (q80 i):=.mk λH₀ B₀ δ pins s σ H D I ⟨r,en,e1,k⟩=>by
 unfold q80 at e1;obtain⟨B,b1,b2,env⟩:=en.ex;split at e1
 ·rename_i d hi
  obtain⟨a,hs,hb,ro⟩:=env.at hi;cases e1;exact qd0 (y30 (i:=i) hN hv hd hcd) pins s σ H D I ⟨_,hs,k a H (en.fr i d a hi hs) en.same (ro.mono (λo h=>h) (Gr.less λb z=>z.elim (b1 b) λq=>by rw[q];exact hb))⟩
 ·cases e1
end DL
namespace DL
def ix0:List D->Option (List D)
 | [.lst ds,.lst es]=>some ((ds.zip es).map λp=>.tup [p.1,p.2])
 | _=>none
def rh0(gA:GA):GA:=fun δ=>(gA δ).bind ix0
mutual
def tree:D->Bool
 | .lst _=>false
 | .dct _ _=>false
 | .fn _ _=>false
 | .tup ds=>trees ds
 | _=>true
def trees:List D->Bool
 | []=>true
 | d::ds=>tree d&&trees ds
end
def ue0(g:GE):GE:=fun δ=>(g (frz δ)).bind λd=>if tree d=true then some d else none
theorem h80{g:GE}{d:D}(h:g (frz δ)=some d)(ht:tree d=true):ue0 g δ=some d:=by
 unfold ue0;rw[h,Option.bind_some,if_pos ht]
theorem Q6{gA:GA}{n:Int}(h:gA δ=some [.int n])(h1:-(2 ^ 62)<=n)(h2:n<2 ^ 62):V8 gA δ=some (Y4 0 n):=by
 unfold V8;rw[h,Option.bind_some];simp only[nk0];rw[if_pos ⟨h1,h2⟩]
theorem mp0{g:GE}(h:g δ=some (.lst ds)):oA (z9 g v7) Y5 δ=some (.int (ds.length:Int)):=by
 rw[m7 (cons_of h rfl)];rfl
end DL
namespace DL
open Spec PyProof.Rows L2
theorem tl0[DecidableEq κ]:∀{ks:List κ} {ds:List D} {xs:List V} {q:κ},Rps K H B ds xs->(∀d,tr0 ks ds q=some d->∃x,zq0 (ks.zip xs) q=some x/\Rp K H B d x)/\(ks.length=xs.length->(zq0 (ks.zip xs) q).isSome=N8 ks q)
 | [],ds,xs,q,h=>by
  refine⟨λd e=>?_,λ_=>?_⟩
  ·unfold tr0 at e;cases e
  ·rfl
 | k::ks,[],xs,q,h=>by
  rw[n6] at h;subst h;refine⟨λd e=>?_,λz=>?_⟩
  ·unfold tr0 at e;cases e
  ·simp at z
 | k::ks,d::ds,xs,q,h=>by
  rw[o7] at h;obtain⟨x,r,rfl,h1,h2⟩:=h;obtain⟨i1,i2⟩:=tl0 (ks:=ks) (q:=q) h2
  by_cases e:k=q
  ·subst e
   refine⟨λd' e'=>?_,λ_=>?_⟩
   ·unfold tr0 at e'
    rw[if_pos rfl] at e';cases e';exact⟨x,yq0 rfl,h1⟩
   ·rw[List.zip_cons_cons,yq0 rfl]
    unfold N8;simp
  ·refine⟨λd' e'=>?_,λz=>?_⟩
   ·unfold tr0 at e'
    rw[if_neg e] at e';rw[List.zip_cons_cons,ym0 e];exact i1 d' e'
   ·rw[List.zip_cons_cons,ym0 e,i2 (by simpa using z)]
    unfold N8;simp[e]
theorem om0[DecidableEq κ]:∀{ks:List κ} {xs:List V} {q:κ},ks.length=xs.length->((ks.zip xs).any λkv=>decide (kv.1=q))=N8 ks q
 | [],_,_,_=>rfl
 | k::ks,[],_,h=>by simp at h
 | k::ks,x::xs,q,h=>by
  rw[List.zip_cons_cons,List.any_cons,om0 (by simpa using h)];rfl
theorem n90[DecidableEq κ]{ks:List κ}{q:κ}{v:V}(h:ks.length=xs.length):∃ys,putK (ks.zip xs) q v=(S9 ks q).zip ys/\(S9 ks q).length=ys.length/\(N8 ks q=true->ys=(ks.zip xs).map λp=>if p.1=q then v else p.2)/\(N8 ks q=false->ys=xs++[v]):=by
 unfold putK S9;rw[om0 h];cases hk:N8 ks q with
 | true =>
  rw[if_pos rfl,if_pos rfl];refine⟨(ks.zip xs).map λp=>if p.1=q then v else p.2,?_,by simp[h],λ_=>rfl,λz=>by cases z⟩;clear hk
  induction ks generalizing xs with
  | nil=>rfl
  | cons k ks ih =>
   cases xs with
   | nil=>simp at h
   | cons x xs =>
    rw[List.zip_cons_cons,List.map_cons,List.map_cons,List.zip_cons_cons,ih (by simpa using h)]
    by_cases e:k=q<;>simp[e]
 | false =>
  rw[if_neg (by simp),if_neg (by simp)];refine⟨xs++[v],?_,by simp[h],λz=>(by cases z),λ_=>rfl⟩;rw[List.zip_append h];rfl
theorem xq0[DecidableEq κ]{q:κ}{d:D}{v:V}(hv:Rp K H B d v):∀{ks:List κ} {ds:List D} {xs:List V},Rps K H B ds xs->Rps K H B ((ks.zip ds).map λp=>if p.1=q then d else p.2) ((ks.zip xs).map λp=>if p.1=q then v else p.2)
 | [],_,_,_=>by simp[n6]
 | k::ks,[],xs,h=>by rw[n6] at h;subst h;simp[n6]
 | k::ks,d'::ds,xs,h=>by
  rw[o7] at h;obtain⟨x,r,rfl,h1,h2⟩:=h;rw[List.zip_cons_cons,List.zip_cons_cons,List.map_cons,List.map_cons,o7];refine⟨_,_,rfl,?_,xq0 hv h2⟩
  by_cases e:k=q
  ·simp only[e,if_true];exact hv
  ·simp only[e,if_false];exact h1
section
variable{a:Expr}{ga:Ds->Option D}
theorem iw0{d:D}{k:T5}{v:V}(h:vg0 d=some k)(r:Rp K H B d v):v=kV k:=by
 cases d<;>simp[vg0] at h
 ·subst h;rw[j4] at r;subst r;rfl
 ·subst h;rw[Y7] at r;subst r;rfl
theorem l50:∀{ds:List D} {ks:List T5} {xs:List V},wx0 ds=some ks->Rps K H B ds xs->xs=ks.map kV
 | [],ks,xs,h,r=>by cases h;rw[n6] at r;exact r
 | d::ds,ks,xs,h,r=>by
  unfold wx0 at h;rw[o7] at r;obtain⟨x,r',rfl,h1,h2⟩:=r;cases e1:vg0 d with
  | none=>rw[e1] at h;cases h
  | some k =>
   cases e2:wx0 ds with
   | none=>rw[e1,e2] at h;cases h
   | some l =>
    rw[e1,e2] at h;cases h;rw[iw0 e1 h1,l50 e2 h2];rfl
theorem ur0{d:D}{k:List T5}{v:V}(h:G6 d=some k)(r:Rp K H B d v):∃b,v=.ref b/\H b=some (.tup (k.map kV)):=by
 cases d<;>simp only[G6] at h<;>try cases h
 rw[X3] at r;obtain⟨a,xs,rfl,q,rr⟩:=r;exact⟨a,rfl,by rw[← l50 h rr];exact q.2⟩
theorem ua0(hu:X.A.units+1<cLine)(ha:PD X a ga)(hb:PD X b gb)(hm:behindInMarks .NotIn b=false:=by first|rfl|with_unfolding_all rfl):PTD X (.Compare a [.NotIn] [b] pos) (ob (o2 ga gb (T6 true))):=.mk λB δ=>(dw0 (mk0 hu (ha B δ) (hb B δ)) hm).imp fun σ H Q ⟨t,en,h,k⟩=>by
 unfold ob o2 at h;cases e1:ga δ with
 | none=>rw[e1] at h;cases h
 | some x =>
  cases e2:gb δ with
  | none=>rw[e1,e2] at h;cases h
  | some y =>
   rw[e1,e2] at h;simp only[Option.bind_some] at h;refine⟨x,en,e1,λv1 H1 s1 r1=>⟨y,en.same s1,e2,λv2 H2 s2 r2=>?_⟩⟩;cases y<;>simp only[T6] at h<;>try cases h
   rename_i ks ds;cases ks with
   | inl ks =>
    simp only at h;cases e3:vg0 x with
    | none=>rw[e3] at h;cases h
    | some q =>
     rw[e3] at h;simp only[Option.map_some,Option.bind_some,asB,Bool.true_xor] at h;cases h;rw[dl0] at r2;obtain⟨p,xs,rfl,_,hp,hl,rr⟩:=r2;have:=iw0 e3 r1;subst this;refine⟨p,_,rfl,DGet.k hp,_,rfl,?_⟩;rw[(tl0 rr).2 hl];exact k H2 (s1.trans s2)
   | inr ks =>
    simp only at h;cases e3:G6 x with
    | none=>rw[e3] at h;cases h
    | some q =>
     rw[e3] at h;simp only[Option.map_some,Option.bind_some,asB,Bool.true_xor] at h;cases h;rw[ot0] at r2;obtain⟨p,xs,rfl,_,hp,hl,rr⟩:=r2;obtain⟨b,rfl,hb⟩:=ur0 e3 (r1.same s2);refine⟨p,_,rfl,DGet.t hp hb,_,rfl,?_⟩;rw[(tl0 rr).2 hl];exact k H2 (s1.trans s2)
theorem gf0{r:List (List T5)×List D}(h:ny0 i δ=some r):δ[i]?=some (.ow (.dct (.inr r.1) r.2)):=by
 unfold ny0 at h;split at h
 ·cases h;assumption
 ·cases h
theorem no0:PDF X (.Dict [] [] pos) (gc (.dct (.inr []) [])):=.mk λB δ=>i00.imp fun σ H Q ⟨d,en,h,k⟩=>by
 cases h;exact λp hp=>k p _ hp (Z7 hp) ⟨[],Z8,rfl,by rw[n6]⟩
theorem rq0(i:Nat)(hu:X.A.units+1<cLine)(h:PD X e g)(hN:X.N[i]?=some x:=by rfl)(hv:Vis X.env.scope x:=by first|exact Or.inl rfl|exact Or.inr (Or.inl rfl)|exact Or.inr (Or.inr rfl))(hd:(x==("__debug__" : Str))=false:=by decide)(hcd:(x==("__classdict__" : Str))=false:=by decide)
  (ha:∀v,assign (.Subscript (.Name x px) e pos) X.env v=(do
   let ov ← holding [v] (eval (.Name x px) X.env)
   let iv ← holding [v,ov] (eval e X.env)
   standAt pos
   holding [v,ov,iv] (setItem ov iv v)
   release [v,ov,iv] []):=by intro _;rfl):PTG X (.Subscript (.Name x px) e pos) (y90 i g):=.mk λH₀ B₀ d δ pins s σ H v u Q I r ⟨δ',en,e1,k⟩=>by
 unfold y90 at e1;obtain⟨B,b1,b2,env,rv⟩:=en.ex;cases e2:ny0 i δ with
 | none=>rw[e2] at e1;cases e1
 | some pr =>
  cases e3:g δ with
  | none=>rw[e2,e3] at e1;cases e1
  | some dk =>
   rw[e2,e3] at e1;simp only[Option.bind_some] at e1;cases e4:G6 dk with
   | none=>rw[e4] at e1;cases e1
   | some q =>
    rw[e4] at e1;simp only[Option.bind_some] at e1;split at e1
    ·rename_i hz
     cases e1;have hi:=gf0 e2;obtain⟨a,F,hb,xs,hx,hl,rx⟩:=env.at hi;have hl:pr.1.length=xs.length:=hl;refine lt0 (y30 (i:=i) hN hv hd hcd) (h B δ) (set_dict hu) ha pins s σ H v u Q I r ⟨_,F,_,env,e3,λiv H1 s1 r1=>?_⟩;obtain⟨kb,rfl,O⟩:=ur0 e4 r1;obtain⟨ys,hy,U,S,M⟩:=n90 (q:=q) (v:=v) hl;refine⟨a,_,rfl,DPut.t (s1 _ _ hx) O (by rw[List.length_zip,← hl,Nat.min_self];exact hz),?_⟩;have rr:Rps X.K H1 B (M8 pr.1 pr.2 q d) ys:=by
      unfold M8;cases hk:N8 pr.1 q with
      | true=>rw[if_pos rfl,S hk];exact xq0 (rv.same s1) (rx.same s1)
      | false=>rw[if_neg (by simp),M hk];exact Rps.snoc (rx.same s1) (rv.same s1)
     rw[hy];have J:Env X.K (upd H1 a (.dT ((S9 pr.1 q).zip ys))) B σ (δ.set i (.ow (.dct (.inr (S9 pr.1 q)) (M8 pr.1 pr.2 q d)))):=(env.same s1).mut hi F ⟨ys,Z8,U,rr.mono (Gr.own hb)⟩;exact k _ _ (en.s.mut s1 b1 b2 hi F J)
    ·cases e1
end
end DL
namespace DL
open Spec PyProof.Rows L2
section
variable{a:Expr}{ga:Ds->Option D}
theorem xu0{sc scope:Scope}{elt iter tg:Expr}{ifs:List Expr}{N N':List Str}{n:Nat}{caps:List Nat}{gi:Ds->Option (List D)}{idx:List Nat}{f:D->Ds->Option Ds}{gt:Ds->Option Bool}{ge:Ds->Option D}
  (ok:CompOk sc scope N N' n caps) (hidx:∀j∈idx,j<n) (hi:PID X tg iter gi)
  (hg:∀cl s H ex,PGD (W7 X scope cl N' s H ex) tg idx f) (ht:∀cl s H ex,PFD (W7 X scope cl N' s H ex) ifs gt) (he:∀cl s H ex,PD (W7 X scope cl N' s H ex) elt ge)
  (hc:X.calm=true:=by rfl) (hsc:X.env.scope=sc:=by rfl) (hN:X.N=N:=by rfl) (hs:∀x,foldedSetIterable iter X.env x=pure x:=by intro _;rfl) :
  PDF X (.ListComp elt [⟨tg,iter,ifs,0⟩] scope pos) (V4 n caps gi f gt ge):=pq0 hc hsc (hN▸ok) hidx hi hg ht he hs
end
end DL
namespace ZipL
open Spec PyProof.Rows
abbrev IsZ(h:Heap)(z TI TO a:Addr)(f:Bool):Prop :=
 h.get? z=some { cls:=.type "zip",dict:=none,data:=.fields #[rawInt a,.bool f,.bool false,.ref TI,.ref TO],slots:=#[] }
section
variable{w:World}{s:Shared}
theorem alive{o:Obj}{Q:Option Obj->Shared->Prop}(ho:s.heap.get? a=some o)(h:Q (some o) s):wpAny (model prog w) A (loadIfAlive a) Q E s:=by
 have h':Q (s.heap.get? a) s:=by rw[ho];exact h
 exact λ_ _ _=>h'
theorem qt0{TI TO:Addr}{f:Bool}{Q:Bool->Shared->Prop}(hz:IsZ s.heap z TI TO a f)(ha:s.heap.get? a=some oa)
  (hQ:∀h',IsZ h' z TI TO a true->Heap.SameBut z s.heap h'->Q false { s with heap:=h' }):wpAny (model prog w) A (Builtin.SmallTypes.ownedTupleIsFree (.ref z)) Q E s:=by
 unfold Builtin.SmallTypes.ownedTupleIsFree;refine A0 (C2 hz rfl (x:=rawInt a) rfl ?_);show wpAny _ _ (loadIfAlive ((a:Int).toNat)>>=_) _ _ _;rw[Int.toNat_natCast];refine A0 (alive ha ?_);simp only[Option.isNone_some,Bool.false_eq_true,if_false];refine A0 (C2 hz rfl (x:=.bool f) rfl ?_);cases f with
 | true =>
  rw[if_neg (show ¬((Value.bool true != Value.bool true)=true) from B9)];exact A1 (hQ _ hz (Heap.SameBut.refl _ _))
 | false =>
  rw[if_pos (show (Value.bool false != Value.bool true)=true from rfl)];exact A0 (L9 hz (by simp) λh3 J F=>A1 (hQ h3 J F))
theorem jr0{TI TO a:Addr}{f:Bool}{oa:Obj}{k1 k2:Nat}{xs ys:Array Value}{x y:Value}{Q:Value->Shared->Prop}(D:ZipApart z TI TO i1 i2 l1 l2)
  (hz:IsZ s.heap z TI TO a f) (ha:s.heap.get? a=some oa) (hTI:IsPair s.heap TI (.ref i1) (.ref i2))
  (h1:s.heap.IsListIter i1 l1 k1) (h2:s.heap.IsListIter i2 l2 k2) (hl1:s.heap.IsList l1 xs) (hl2:s.heap.IsList l2 ys) (hx:xs[k1]?=some x) (hy:ys[k2]?=some y)
  (hQ:∀h',IsZ h' z TI TO a true->h'.IsListIter i1 l1 (k1+1)->h'.IsListIter i2 l2 (k2+1)->IsPair h' s.heap.objs.size x y->h'.objs.size=s.heap.objs.size+1 ->
   (∀c o,c≠z->c≠i1->c≠i2->s.heap.get? c=some o->h'.get? c=some o)->Q (.ref s.heap.objs.size) { s with heap:=h' }) :
  wpAny (model prog w) A (Builtin.«zip.__next__» ⟨[.ref z],[]⟩) (λfin s'=>∃v,fin=.done (.ret v)/\Q v s') E s:=by
 show wpAny _ _ (field (.ref z) 2>>=_) _ _ _;refine A0 (C2 hz rfl (x:=.bool false) rfl ?_);show wpAny _ _ (field (.ref z) 3>>=_) _ _ _;refine A0 (C2 hz rfl (x:=.ref TI) rfl ?_);refine A0 (E7 hTI rfl ?_);show wpAny _ _ (Builtin.SmallTypes.ownedTupleIsFree (.ref z)>>=_) _ _ _;refine A0 (qt0 hz ha λh₁ a0 F=>?_);simp only[Bool.false_eq_true,if_false];refine A0 ?_;simp only[List.forIn_toArray,List.forIn_cons,List.forIn_nil];refine A0 (A0 (C4 ?_));show wpAny _ _ (Builtin.SmallTypes.nextOf (.ref i1)>>=_) _ _ _;refine A0 (P2 (h1.extBut F.extBut D.i1z) (hl1.extBut F.extBut D.l1z) hx λh₂ Y J=>A1 ?_);refine A1 ?_;refine A0 (A0 (C4 ?_));show wpAny _ _ (Builtin.SmallTypes.nextOf (.ref i2)>>=_) _ _ _;refine A0 (P2 ((h2.extBut F.extBut D.i2z).extBut J.extBut D.i12.symm) ((hl2.extBut F.extBut D.l2z).extBut J.extBut D.l2i1) hy λh₄ U M=>A1 ?_);refine A1 (A1 ?_);refine A0 (x5 (hsz:=by show 2<=sizeLine;decide) ?_);have O:h₄.objs.size=s.heap.objs.size:=by rw[M.1,J.1,F.1]
 have Z:IsZ h₄ z TI TO a true:=M.extBut _ _ D.i2z.symm (J.extBut _ _ D.i1z.symm a0);have S:∀c o,c≠z->c≠i1->c≠i2->s.heap.get? c=some o->h₄.get? c=some o:=λc o c1 c3 c4 e=>M.extBut _ _ c4 (J.extBut _ _ c3 (F.extBut _ _ c1 e))
 refine A1 ⟨_,rfl,?_⟩;show Q (.ref h₄.objs.size) _;have hq:=hQ (h₄.push { cls:=.type "tuple",data:=.seq #[x,y] }) (A7 _ Z) ((Y.extBut M.extBut D.i12).at λo e=>A7 _ e) (U.at λo e=>A7 _ e)
  (by rw[← O];exact B5 _ rfl) (by rw[Heap.size_push,O]) λc o c1 c3 c4 e=>A7 _ (S c o c1 c3 c4 e)
 rw[O];exact hq
theorem ga0{TI TO a:Addr}{f:Bool}{oa:Obj}{k1 k2:Nat}{xs ys:Array Value}{Q:Fin->Shared->Prop}(hh:A.handled=none)(D:ZipApart z TI TO i1 i2 l1 l2)
  (hz:IsZ s.heap z TI TO a f) (ha:s.heap.get? a=some oa) (hTI:IsPair s.heap TI (.ref i1) (.ref i2))
  (h1:s.heap.IsListIter i1 l1 k1) (h2:s.heap.IsListIter i2 l2 k2) (hl1:s.heap.IsList l1 xs) (hl2:s.heap.IsList l2 ys) (hend:xs[k1]?=none∨ys[k2]?=none)
  (hE:∀h' e,(∀c o,c≠z->c≠i1->c≠i2->s.heap.get? c=some o->h'.get? c=some o)->(∃o,h'.get? e=some o/\o.cls=.type "StopIteration")->E (.ref e) { s with heap:=h' }) :
  wpAny (model prog w) A (Builtin.«zip.__next__» ⟨[.ref z],[]⟩) Q E s:=by
 show wpAny _ _ (field (.ref z) 2>>=_) _ _ _;refine A0 (C2 hz rfl (x:=.bool false) rfl ?_);show wpAny _ _ (field (.ref z) 3>>=_) _ _ _;refine A0 (C2 hz rfl (x:=.ref TI) rfl ?_);refine A0 (E7 hTI rfl ?_);show wpAny _ _ (Builtin.SmallTypes.ownedTupleIsFree (.ref z)>>=_) _ _ _;refine A0 (qt0 hz ha λh₁ S F=>?_);simp only[Bool.false_eq_true,if_false];refine A0 ?_;simp only[List.forIn_toArray,List.forIn_cons,List.forIn_nil];refine A0 (A0 (C4 ?_));show wpAny _ _ (Builtin.SmallTypes.nextOf (.ref i1)>>=_) _ _ _;cases hx:xs[k1]? with
 | none =>
  refine A0 (X0 hh (h1.extBut F.extBut D.i1z) (hl1.extBut F.extBut D.l1z) hx λh₂ e J he=>?_);exact hE h₂ e (λc o c1 c3 _ x=>J _ _ c3 (F.extBut _ _ c1 x)) he
 | some x =>
  have hy:ys[k2]?=none:=by rcases hend with h|h;rw[hx] at h;cases h;exact h
  refine A0 (P2 (h1.extBut F.extBut D.i1z) (hl1.extBut F.extBut D.l1z) hx λh₂ O J=>A1 ?_);refine A1 ?_;refine A0 (A0 (C4 ?_));show wpAny _ _ (Builtin.SmallTypes.nextOf (.ref i2)>>=_) _ _ _;refine A0 (X0 hh ((h2.extBut F.extBut D.i2z).extBut J.extBut D.i12.symm) ((hl2.extBut F.extBut D.l2z).extBut J.extBut D.l2i1) hy λh₄ e M he=>?_);exact hE h₄ e (λc o c1 c3 c4 x=>M _ _ c4 (J.extBut _ _ c3 (F.extBut _ _ c1 x))) he
theorem nf0{TI TO a:Addr}{f:Bool}{oa:Obj}{k1 k2:Nat}{xs ys:Array Value}{x y:Value}{Q:Option Value->Shared->Prop}(D:ZipApart z TI TO i1 i2 l1 l2)
  (hz:IsZ s.heap z TI TO a f) (ha:s.heap.get? a=some oa) (hTI:IsPair s.heap TI (.ref i1) (.ref i2))
  (h1:s.heap.IsListIter i1 l1 k1) (h2:s.heap.IsListIter i2 l2 k2) (hl1:s.heap.IsList l1 xs) (hl2:s.heap.IsList l2 ys) (hx:xs[k1]?=some x) (hy:ys[k2]?=some y)
  (hQ:∀h',IsZ h' z TI TO a true->h'.IsListIter i1 l1 (k1+1)->h'.IsListIter i2 l2 (k2+1)->IsPair h' s.heap.objs.size x y->h'.objs.size=s.heap.objs.size+1 ->
   (∀c o,c≠z->c≠i1->c≠i2->s.heap.get? c=some o->h'.get? c=some o)->Q (some (.ref s.heap.objs.size)) { s with heap:=h' }) :
  wpAny (model prog w) A (pyNext (.ref z)) Q E s:=by
 have hT:s.TypeIs (.ref z) "zip" := ⟨_,hz,rfl⟩;unfold pyNext;exact A0 (L1 (K0 (name:=Str.ofString "__next__") hT E8
  (D7 E8 hT X1
   (jr0 D hz ha hTI h1 h2 hl1 hl2 hx hy λh' a1 a3 a4 a5 a6 a7=>A1 (hQ h' a1 a3 a4 a5 a6 a7)) (X2 _))))
theorem tv0{TI TO a:Addr}{f:Bool}{oa:Obj}{k1 k2:Nat}{xs ys:Array Value}{Q:Option Value->Shared->Prop}(hh:A.handled=none)(D:ZipApart z TI TO i1 i2 l1 l2)
  (hz:IsZ s.heap z TI TO a f) (ha:s.heap.get? a=some oa) (hTI:IsPair s.heap TI (.ref i1) (.ref i2))
  (h1:s.heap.IsListIter i1 l1 k1) (h2:s.heap.IsListIter i2 l2 k2) (hl1:s.heap.IsList l1 xs) (hl2:s.heap.IsList l2 ys) (hend:xs[k1]?=none∨ys[k2]?=none)
  (hQ:∀h',(∀c o,c≠z->c≠i1->c≠i2->s.heap.get? c=some o->h'.get? c=some o)->Q none { s with heap:=h' }):wpAny (model prog w) A (pyNext (.ref z)) Q E s:=by
 have hT:s.TypeIs (.ref z) "zip" := ⟨_,hz,rfl⟩;unfold pyNext;refine A0 (L1 (K0 (name:=Str.ofString "__next__") hT E8
  (D7 E8 hT X1 (ga0 hh D hz ha hTI h1 h2 hl1 hl2 hend λh' e hk he=>?_) (X2 _))))
 obtain⟨o,ho,hc⟩:=he;refine A0 (x8 (T := "StopIteration") (b:=true) ⟨o,ho,hc⟩ x9 ?_);exact A1 (hQ _ hk)
end
end ZipL
namespace L2
open Spec PyProof.Rows
section
variable{s:Shared}
theorem Inv.turnedL(I:Inv X pins σ H s)(hf:∀b∈fp,yu0 X pins H b)(k:∀b o,b∉fp->s.heap.get? b=some o->h'.get? b=some o):Inv X pins σ H { s with heap:=h',toks:=t' }:=by
 have F:∀b u,H b=some u->b∉fp:=λb u e z=>by rw[(hf b z).1] at e;cases e
 refine I.step (g':=s.gens) (d':=s.drawn) (ch:=fp) (λb hb=>⟨(hf b hb).2.2.2.1,(hf b hb).2.1,(hf b hb).2.2.2.2.1,(hf b hb).2.2.2.2.2⟩) (λb o _ _ hc e _=>k b o hc e) (λb o _ _ hc e _=>⟨o.slots,k b o hc e⟩) (λ_ _ _ _ n=>n)
  (λb o hc e=>⟨o,k b o hc e⟩) (λ_ _ e=>e) (λ_ _ _ e=>e) (λb ps e=>⟨#[],by rw[e];simp⟩) (λm hm=>?_) (λb u e=>?_) I.bare
 ·obtain⟨o,es,ep,ho,r⟩:=hm
  exact⟨o,es,ep,k _ o (λz=>(hf _ z).2.1 rfl) ho,r⟩
 ·refine(I.hok b u e).stay (λc v hc q=>k c v ?_ q) (λ_ q=>q) (λ_ _ q=>q) λ_ _ _ q=>q
  rcases hc with z|z
  ·rw[z];exact F b u e
  ·exact F c _ z
theorem Inv.turnedNew{t':Nat}{x y:V}{w:Value}(I:Inv X pins σ H s)(hf:∀b∈fp,yu0 X pins H b)(rx:RelV x u)(ry:RelV y w)(hlt:∀b∈fp,b<s.heap.objs.size)
  (hob:h'.get? s.heap.objs.size=some { cls:=.type "tuple",data:=.seq #[u,w] }) (k:∀b o,b∉fp->s.heap.get? b=some o->h'.get? b=some o) :
  Inv X pins σ (upd H s.heap.objs.size (.tup [x,y])) { s with heap:=h',toks:=t' }/\∀b∈fp,upd H s.heap.objs.size (.tup [x,y]) b=none:=by
 have ne:∀b∈fp,b≠s.heap.objs.size:=λb hb=>B6 (hlt b hb)
 have fr:∀b∈fp,upd H s.heap.objs.size (.tup [x,y]) b=none:=λb hb=>by rw[Z0 (ne b hb)];exact(hf b hb).1
 have I1:Inv X pins σ (upd H s.heap.objs.size (.tup [x,y])) { s with heap:=s.heap.push { cls:=.type "tuple",data:=.seq #[u,w] },toks:=t' } :=
  I.laid (λb o e=>A7 _ e) (A4 _) ⟨(by show 2<=sizeLine;decide),[u,w],.cons rx (.cons ry .nil),⟨_,B5 _ rfl,rfl,_,rfl,rfl⟩⟩
 refine⟨Inv.turnedL (s:={ s with heap:=s.heap.push { cls:=.type "tuple",data:=.seq #[u,w] },toks:=t' }) (t':=t') (fp:=fp) I1 (λb hb=>⟨fr b hb,(hf b hb).2⟩) λb o hb e=>?_,fr⟩;rcases Heap.get?_push_cases e with⟨rfl,rfl⟩|e
 ·exact hob
 ·exact k b o hb e
end
def Itz(K:W.Frag)(a b:Addr):It :=
 ⟨λi H=>∃xs ys x y,SqL K H a xs/\SqL K H b ys/\xs[i]?=some x/\ys[i]?=some y,
   λi H v H'=>∃t x y,v=.ref t/\H t=none/\H'=upd H t (.tup [x,y])/\(∀xs,SqL K H a xs->xs[i]?=some x)/\∀ys,SqL K H b ys->ys[i]?=some y,
   λi H=>∃xs ys,SqL K H a xs/\SqL K H b ys/\(xs.length<=i∨ys.length<=i)⟩
def ag0(K:W.Frag)(ta:TA):TI:=fun σ H R=>ta σ H λvs H1=>∃a b,vs=[.ref a,.ref b]/\(∃xs,SqL K H1 a xs)/\(∃ys,SqL K H1 b ys)/\R (Itz K a b) H1
theorem boot_zip:bootBuiltins "zip"=some (.type "zip"):=by decide +kernel
end L2
namespace DL
open Spec PyProof.Rows L2
section
variable{a:Expr}
theorem h90{t:Addr}{x y:V}{d e:D}(hn:¬B t)(ht:H t=some (.tup [x,y]))(r1:Rp K H B d x)(r2:Rp K H B e y):Rp K H B (.tup [d,e]) (.ref t):=by
 rw[X3];refine⟨t,[x,y],rfl,⟨hn,ht⟩,?_⟩;rw[o7];refine⟨_,_,rfl,r1,?_⟩;rw[o7];exact⟨_,_,rfl,r2,by rw[n6]⟩
end
mutual
theorem oq0(hB:∀a,B a->B' a∨(∃xs,H a=some (.lst xs))∨∃ks xs,H a=some (dOb ks xs)):∀(d:D) (v:V),tree d=true->Rp K H B' d v->Rp K H B d v
 | .non,v,_,r=>by rw[R8] at r ⊢;exact r
 | .bl _,v,_,r=>by rw[X7] at r ⊢;exact r
 | .int _,v,_,r=>by rw[j4] at r ⊢;exact r
 | .str _,v,_,r=>by rw[Y7] at r ⊢;exact r
 | .lst _,v,h,_=>by unfold tree at h;cases h
 | .dct _ _,v,h,_=>by unfold tree at h;cases h
 | .fn _ _,v,h,_=>by unfold tree at h;cases h
 | .tup ds,v,h,r=>by
  unfold tree at h;rw[X3] at r ⊢;obtain⟨a,xs,rfl,q,rs⟩:=r;refine⟨a,xs,rfl,?_,rk0 hB ds xs h rs⟩;obtain⟨n,q⟩:=q;refine⟨λz=>?_,q⟩;rcases hB a z with z|⟨ys,z⟩|⟨ks,ys,z⟩
  ·exact n z
  ·rw[z] at q;cases q
  ·rw[z] at q;cases ks<;>cases q
theorem rk0(hB:∀a,B a->B' a∨(∃xs,H a=some (.lst xs))∨∃ks xs,H a=some (dOb ks xs)):∀(ds:List D) (vs:List V),trees ds=true->Rps K H B' ds vs->Rps K H B ds vs
 | [],vs,_,r=>by rw[n6] at r ⊢;exact r
 | d::ds,vs,h,r=>by
  unfold trees at h;rw[Bool.and_eq_true] at h;rw[o7] at r ⊢;obtain⟨x,t,rfl,r1,r2⟩:=r;exact⟨x,t,rfl,oq0 hB d x h.1 r1,rk0 hB ds t h.2 r2⟩
end
theorem fj0{g:GE}(h:PD X e g):PD X e (ue0 g):=.mk λB δ pins s σ H Q I ⟨d,en,hq,k⟩=>by
 obtain⟨B',c1,c2,F⟩:=en.frz;unfold ue0 at hq;cases e1:g (frz δ) with
 | none=>rw[e1] at hq;cases hq
 | some x =>
  rw[e1] at hq
  by_cases hf:tree x=true
  ·simp only[Option.bind_some,if_pos hf] at hq
   cases hq;refine h B' (frz δ) pins s σ H Q I ⟨_,F,e1,λv H' s' r=>k v H' s' (oq0 (λa z=>?_) _ _ hf r)⟩;rcases c2 a z with q|⟨i,d',h1,h2⟩
   ·exact .inl q
   ·obtain⟨o,h3,a',e4,_,ro⟩:=Pd.get en.all h1
    rw[h2] at h3;cases h3;cases e4;cases d'<;>try exact ro.elim
    ·obtain⟨_,_,xs,e5,_⟩:=ro;exact .inr (.inl ⟨xs,s' _ _ e5⟩)
    ·obtain⟨xs,e5,_⟩:=ro;exact .inr (.inl ⟨xs,s' _ _ e5⟩)
    ·obtain⟨xs,e5,_⟩:=ro;exact .inr (.inr ⟨_,_,s' _ _ e5⟩)
  ·simp only[Option.bind_some,if_neg hf] at hq
   cases hq
end DL
namespace DL
open Spec PyProof.Rows L2
@[simp] def ze0(ga gb gc:GE)(f f':D->D->Option D):GE:=fun δ=>(ga δ).bind λx=>(gb δ).bind λy=>(f x y).bind λt=>(asB t).bind λk=>if k=true then (gc δ).bind λz=>f' y z else some (.bl false)
@[simp] def td0:D->D->Option D
 | .int n,.str x=>if -(2 ^ 62)<=n/\n<2 ^ 62/\x.length*n.toNat<=sizeLine then some (.str (m00 x n)) else none
 | _,_=>none
section
variable{a:Expr}{ga gc:Ds->Option D}
theorem mq0{r r':R2}{f f':D->D->Option D}(hf:Op2 K r f)(hf':Op2 K r' f'){σ:St}{Q:VK}(h:tD K B δ (ze0 ga gb gc f f') σ H Q):lu0 r r' (tD K B δ ga) (tD K B δ gb) (tD K B δ gc) σ H Q:=by
 obtain⟨d,en,h,k⟩:=h;unfold ze0 at h;cases e1:ga δ with
 | none=>rw[e1] at h;cases h
 | some x =>
  cases e2:gb δ with
  | none=>rw[e1,e2] at h;cases h
  | some y =>
   rw[e1,e2] at h;simp only[Option.bind_some] at h;cases e3:f x y with
   | none=>rw[e3] at h;cases h
   | some t =>
    rw[e3] at h;simp only[Option.bind_some] at h;cases e4:asB t with
    | none=>rw[e4] at h;cases h
    | some kb =>
     rw[e4] at h;simp only[Option.bind_some] at h;cases ps0 e4;refine⟨x,en,e1,λv1 H1 s1 r1=>⟨y,en.same s1,e2,λv2 H2 s2 r2=>?_⟩⟩;refine hf H2 B v1 v2 x y _ _ ((en.same s1).same s2).bad (r1.same s2) r2 e3 λv H3 s3 r3=>?_
     rw[X7] at r3;refine⟨kb,r3,?_⟩;cases kb with
     | false =>
      rw[if_neg B9] at h ⊢;cases h;exact k _ H3 ((s1.trans s2).trans s3) (by rw[X7])
     | true =>
      rw[if_pos rfl] at h ⊢;cases e5:gc δ with
      | none=>rw[e5] at h;cases h
      | some z =>
       rw[e5] at h;simp only[Option.bind_some] at h;refine⟨z,((en.same s1).same s2).same s3,e5,λv4 H4 s4 r4=>?_⟩;exact hf' H4 B v2 v4 y z d _ ((((en.same s1).same s2).same s3).same s4).bad ((r2.same s3).same s4) r4 h λv' H5 s5 r5=>k v' H5 ((((s1.trans s2).trans s3).trans s4).trans s5) r5
theorem re0{op op':CmpOp}{r r':R2}{f f':D->D->Option D}(ho:OpR X (compareOp op) r)(hf:Op2 X.K r f)(ho':OpR X (compareOp op') r')(hf':Op2 X.K r' f')(ha:PD X a ga)(hb:PD X b gb)(hc:PD X c gc)
  (hm:lastMarks [op,op'] [b,c]=false:=by with_unfolding_all rfl):PD X (.Compare a [op,op'] [b,c] pos) (ze0 ga gb gc f f') :=
 .mk λB δ=>(ky0 ho ho' (ha B δ) (hb B δ) (hc B δ) hm).imp fun σ H Q h=>mq0 hf hf' h
open Builtin Builtin.Str Builtin.Int in
theorem mh0{prog:Program}{w:World}{A:Around}{E:Value->Shared->Prop}{s:Shared}{x:Str}{n:Int}{t u:Tok}{Q:Value->Shared->Prop}(hr:(decide (n < -(2 ^ 63:Int))||decide (n ≥ 2 ^ 63))=false)
  (hb:¬n<1->(n==1||x.length==0)=false->¬((x.length:Int) > (2 ^ 63 - 1)/n)) (hl:¬n<1->(n==1||x.length==0)=false->tooLong (x.length*n.toNat)=false)
  (h:(if n<1 then Made.str Str.empty else if (n==1||x.length==0)=true then Made.val (.str x t) else Made.str ⟨(List.replicate n.toNat x.cps).foldl (·++·) #[]⟩).post Q s) :
  wpAny (model prog w) A (binaryOp .Mult (.int n u) (.str x t)) Q E s :=
 PySem.lm_binaryOp_repeat_right (T := "str") (U := "int") (by decide) (λs'=>L8 s' n u) (P1 s x t) PySem.F.fills_int_mul PySem.noFill_str_mul Bw0 PySem.lm_noRepeat_int PySem.repeat_str PySem.F.slot_int_index.lookup
  (call_gives Bw0 (L8 s n u) PySem.F.entry_int_mul (PySem.F.args_int_mul_2 _ _) (PySem.AutoIntG3.int___mul___int_str_0 n u x t)
   ⟨rfl,P1 _ x t,call_gives PySem.F.slot_str_mul (P1 s x t) PySem.F.entry_str_mul (PySem.F.args_str_mul_2 _ _) (gives_str_mul x n t u hr hb hl) h⟩)
def ir0:R2:=λx y H Q=>∃z n,y=.str z/\x=.int n/\-(2 ^ 62)<=n/\n<2 ^ 62/\z.length*n.toNat<=sizeLine/\Q (.str (zr0 z n)) H
theorem hf0:OpR X (binaryOp .Mult) ir0:=by
 intro pins s σ H x y v u Q I rx ry h;obtain⟨z,n,rfl,rfl,h1,h2,hz,q⟩:=h;obtain⟨t,rfl⟩:=ry;obtain⟨t',rfl⟩:=rx;have O:∀J k,EP X pins σ Q (.str (zr0 z n) J) { s with toks:=k }:=λJ k=>⟨.str _,H,I.tok k,⟨J,rfl⟩,q⟩
 have Z:(sizeLine:Nat)<2 ^ 40:=by decide
 have S:¬n<1->¬((z.length:Int) > (2 ^ 63 - 1)/n):=by
  intro hn;have Y:0<n:=by omega
  have:(z.length:Int)*n<=2 ^ 63 - 1:=by
   have e:n=(n.toNat:Int):=by omega
   rw[e];have:((z.length*n.toNat:Nat):Int)<=2 ^ 40:=by exact_mod_cast (by omega:z.length*n.toNat<=2 ^ 40)
   rw[Int.natCast_mul] at this;omega
  exact Int.not_lt.mpr ((B20 Y).mpr this)
 refine mh0 (by rw[decide_eq_false (by omega),decide_eq_false (by omega)];rfl) (λhn _=>S hn) (λ_ _=>?_) ?_
 ·show decide (z.length*n.toNat > sizeLine)=false
  exact N2 (by omega)
 ·by_cases hn:n<1
  ·rw[if_pos hn]
   have e:zr0 z n=Str.empty:=by
    unfold zr0;rw[show n.toNat=0 by omega];rfl
   refine⟨by decide,?_⟩;rw[← e];exact O _ _
  ·rw[if_neg hn]
   by_cases h3:(n==1||z.length==0)=true
   ·rw[if_pos h3]
    have e:zr0 z n=z:=by
     rw[Bool.or_eq_true] at h3;rcases h3 with h3|h3
     ·have:n=1:=O0 h3
      subst this;unfold zr0;show (⟨#[]++z.cps⟩:Str)=z;rw[Array.empty_append]
     ·have h3:z.length=0:=O0 h3
      have M:z.cps=#[]:=B30 h3;have:∀k:Nat,(List.replicate k (#[]:Array Nat)).foldl (·++·) #[]=#[]:=by
       intro k
       induction k with
       | zero=>rfl
       | succ k ih=>rw[List.replicate_succ,List.foldl_cons];exact ih
      unfold zr0;rw[M,this];cases z;simp at M;rw[M]
    have:=O t s.toks;rw[e] at this;exact this
   ·rw[if_neg h3]
    have U:∀(k:Nat) (F:Array Nat),((List.replicate k z.cps).foldl (·++·) F).size=F.size+k*z.cps.size:=by
     intro k
     induction k with
     | zero=>intro F;simp
     | succ k ih=>intro F;rw[List.replicate_succ,List.foldl_cons,ih,Array.size_append,Nat.succ_mul];omega
    refine⟨?_,O _ _⟩;show ((List.replicate n.toNat z.cps).foldl (·++·) #[]).size<=_;rw[U];have:z.length=z.cps.size:=rfl;rw[this,Nat.mul_comm] at hz
    simpa using hz
theorem jm0:Op2 K ir0 td0:=by
 intro H B x y dx dy d Q hb rx ry h k;cases dx<;>cases dy<;>simp only[td0] at h<;>try cases h
 split at h
 ·rename_i hz
  cases h;rw[Y7] at ry;rw[j4] at rx;subst rx ry;exact⟨_,_,rfl,rfl,hz.1,hz.2.1,hz.2.2,k _ H (Same.refl H) (by rw[Y7];rfl)⟩
 ·cases h
theorem g50(ha:PD X a ga)(hb:PD X b gb):PD X (.BinOp a .Mult b pos) (o2 ga gb td0):=xx0 hf0 jm0 ha hb
end
end DL
namespace ZipL
open Spec PyProof.Rows
abbrev ya0(h:Heap)(z TI TO:Addr)(v:Value)(f:Bool):Prop :=
 h.get? z=some { cls:=.type "zip",dict:=none,data:=.fields #[v,.bool f,.bool false,.ref TI,.ref TO],slots:=#[] }
section
variable{w:World}{s:Shared}
theorem dead{Q:Option Obj->Shared->Prop}(ho:s.heap.get? a=none)(h:Q none s):wpAny (model prog w) A (loadIfAlive a) Q E s:=by
 have h':Q (s.heap.get? a) s:=by rw[ho];exact h
 exact λ_ _ _=>h'
theorem sg0{TI TO:Addr}{f:Bool}{Q:Bool->Shared->Prop}(hz:IsZ s.heap z TI TO a f)(ha:s.heap.get? a=none)(hQ:Q true s):wpAny (model prog w) A (Builtin.SmallTypes.ownedTupleIsFree (.ref z)) Q E s:=by
 unfold Builtin.SmallTypes.ownedTupleIsFree;refine A0 (C2 hz rfl (x:=rawInt a) rfl ?_);show wpAny _ _ (loadIfAlive ((a:Int).toNat)>>=_) _ _ _;rw[Int.toNat_natCast];refine A0 (dead ha ?_);simp only[Option.isNone_none,if_true];exact A1 hQ
theorem m90{TI TO:Addr}{v0:Value}{f:Bool}{k1 k2:Nat}{xs ys:Array Value}{x y a b:Value}{Q:Value->Shared->Prop}(D:ZipApart z TI TO i1 i2 l1 l2)
  (hz:ya0 s.heap z TI TO v0 f) (hfree:∀Q':Bool->Shared->Prop,Q' true s->wpAny (model prog w) A (Builtin.SmallTypes.ownedTupleIsFree (.ref z)) Q' E s) (hTI:IsPair s.heap TI (.ref i1) (.ref i2)) (hTO:IsPair s.heap TO a b)
  (h1:s.heap.IsListIter i1 l1 k1) (h2:s.heap.IsListIter i2 l2 k2) (hl1:s.heap.IsList l1 xs) (hl2:s.heap.IsList l2 ys) (hx:xs[k1]?=some x) (hy:ys[k2]?=some y)
  (hQ:∀h',IsZ h' z TI TO s.heap.objs.size false->IsPair h' TO x y->h'.IsListIter i1 l1 (k1+1)->h'.IsListIter i2 l2 (k2+1)->IsPair h' s.heap.objs.size x y->h'.objs.size=s.heap.objs.size+1 ->
   (∀c o,c≠z->c≠TO->c≠i1->c≠i2->s.heap.get? c=some o->h'.get? c=some o)->Q (.ref s.heap.objs.size) { s with heap:=h' }) :
  wpAny (model prog w) A (Builtin.«zip.__next__» ⟨[.ref z],[]⟩) (λfin s'=>∃v,fin=.done (.ret v)/\Q v s') E s:=by
 show wpAny _ _ (field (.ref z) 2>>=_) _ _ _;refine A0 (C2 hz rfl (x:=.bool false) rfl ?_);show wpAny _ _ (field (.ref z) 3>>=_) _ _ _;refine A0 (C2 hz rfl (x:=.ref TI) rfl ?_);refine A0 (E7 hTI rfl ?_);show wpAny _ _ (Builtin.SmallTypes.ownedTupleIsFree (.ref z)>>=_) _ _ _;refine A0 (hfree _ ?_);simp only[if_true];refine A0 (D8 ?_);refine A0 (C2 hz rfl (x:=.ref TO) rfl ?_);refine A0 (L9 hz (by simp) λg1 J e1=>?_)
 replace J:ya0 g1 z TI TO .ellipsis f:=J
 refine A0 ?_;simp only[List.zipIdx_cons,List.zipIdx_nil,List.forIn_cons,List.forIn_nil];refine A0 (A0 (X9 ?_));show wpAny _ _ (Builtin.SmallTypes.nextOf (.ref i1)>>=_) _ _ _;refine A0 (P2 (h1.extBut e1.extBut D.i1z) (hl1.extBut e1.extBut D.l1z) hx λg2 Y e2=>A1 ?_);have S:IsPair g2 TO a b:=e2.extBut _ _ D.TOi1 (e1.extBut _ _ D.TOz hTO);refine A0 (E7 S rfl ?_);refine A0 (y3 S λg3 M e3=>?_)
 replace M:IsPair g3 TO x b:=M
 refine A0 (y4 (A1 ?_));refine A0 (A0 (X9 ?_));show wpAny _ _ (Builtin.SmallTypes.nextOf (.ref i2)>>=_) _ _ _;refine A0 (P2 (((h2.extBut e1.extBut D.i2z).extBut e2.extBut D.i12.symm).extBut e3.extBut D.TOi2.symm) (((hl2.extBut e1.extBut D.l2z).extBut e2.extBut D.l2i1).extBut e3.extBut D.l2TO) hy λg4 U e4=>A1 ?_);have O:IsPair g4 TO x b:=e4.extBut _ _ D.TOi2 M;refine A0 (E7 O rfl ?_);refine A0 (y3 O λg5 F e5=>?_)
 replace F:IsPair g5 TO x y:=F
 refine A0 (y4 (A1 (A1 ?_)));refine A0 (E7 F rfl ?_);refine A0 (x5 (hsz:=by show 2<=sizeLine;decide) ?_);have sz:g5.objs.size=s.heap.objs.size:=by rw[e5.1,e4.1,e3.1,e2.1,e1.1]
 have z5:ya0 g5 z TI TO .ellipsis f:=e5.extBut _ _ D.TOz.symm (e4.extBut _ _ D.i2z.symm (e3.extBut _ _ D.TOz.symm (e2.extBut _ _ D.i1z.symm J)));have keep:∀c o,c≠z->c≠TO->c≠i1->c≠i2->s.heap.get? c=some o->g5.get? c=some o:=λc o c1 c2 c3 c4 e=>e5.extBut _ _ c2 (e4.extBut _ _ c4 (e3.extBut _ _ c2 (e2.extBut _ _ c3 (e1.extBut _ _ c1 e))))
 have j1:g5.IsListIter i1 l1 (k1+1):=((Y.extBut e3.extBut D.TOi1.symm).extBut e4.extBut D.i12).extBut e5.extBut D.TOi1.symm;have j2:g5.IsListIter i2 l2 (k2+1):=U.extBut e5.extBut D.TOi2.symm;have lz:z<g5.objs.size:=A6 z5;show wpAny _ _ (Builtin.SmallTypes.ownedTupleHandOut (.ref z) (.ref g5.objs.size)>>=_) _ _ _;refine A0 ?_;unfold Builtin.SmallTypes.ownedTupleHandOut;have z6:ya0 (g5.push { cls:=.type "tuple",data:=.seq #[x,y] }) z TI TO .ellipsis f:=A7 _ z5;refine A0 (L9 z6 (by simp) λg7 z7 e7=>?_)
 replace z7:ya0 g7 z TI TO (rawInt g5.objs.size) f:=z7
 refine L9 z7 (by simp) λg8 z8 e8=>?_
 replace z8:IsZ g8 z TI TO g5.objs.size false:=z8
 have up:∀c o,c≠z->g5.get? c=some o->g8.get? c=some o:=λc o c1 e=>e8.extBut _ _ c1 (e7.extBut _ _ c1 (A7 _ e))
 have t8:IsPair g8 g5.objs.size x y:=e8.extBut _ _ (N3 lz) (e7.extBut _ _ (N3 lz) (B5 _ rfl));have s8:g8.objs.size=g5.objs.size+1:=by rw[e8.1,e7.1,Heap.size_push]
 rw[sz] at z8 t8 s8;refine A1 ⟨_,rfl,?_⟩;show Q (.ref g5.objs.size) _;rw[sz];exact hQ g8 z8 (up _ _ D.TOz F) (j1.at λo e=>up _ o D.i1z e) (j2.at λo e=>up _ o D.i2z e) t8 s8 λc o c1 c2 c3 c4 e=>up c o c1 (keep c o c1 c2 c3 c4 e)
theorem k60{TI TO:Addr}{v0:Value}{f:Bool}{k1 k2:Nat}{xs ys:Array Value}{a b:Value}{Q:Fin->Shared->Prop}(hh:A.handled=none)(D:ZipApart z TI TO i1 i2 l1 l2)
  (hz:ya0 s.heap z TI TO v0 f) (hfree:∀Q':Bool->Shared->Prop,Q' true s->wpAny (model prog w) A (Builtin.SmallTypes.ownedTupleIsFree (.ref z)) Q' E s) (hTI:IsPair s.heap TI (.ref i1) (.ref i2)) (hTO:IsPair s.heap TO a b)
  (h1:s.heap.IsListIter i1 l1 k1) (h2:s.heap.IsListIter i2 l2 k2) (hl1:s.heap.IsList l1 xs) (hl2:s.heap.IsList l2 ys) (hend:xs[k1]?=none∨ys[k2]?=none)
  (hE:∀h' e,(∀c o,c≠z->c≠TO->c≠i1->c≠i2->s.heap.get? c=some o->h'.get? c=some o)->(∃o,h'.get? e=some o/\o.cls=.type "StopIteration")->E (.ref e) { s with heap:=h' }) :
  wpAny (model prog w) A (Builtin.«zip.__next__» ⟨[.ref z],[]⟩) Q E s:=by
 show wpAny _ _ (field (.ref z) 2>>=_) _ _ _;refine A0 (C2 hz rfl (x:=.bool false) rfl ?_);show wpAny _ _ (field (.ref z) 3>>=_) _ _ _;refine A0 (C2 hz rfl (x:=.ref TI) rfl ?_);refine A0 (E7 hTI rfl ?_);show wpAny _ _ (Builtin.SmallTypes.ownedTupleIsFree (.ref z)>>=_) _ _ _;refine A0 (hfree _ ?_);simp only[if_true];refine A0 (D8 ?_);refine A0 (C2 hz rfl (x:=.ref TO) rfl ?_);refine A0 (L9 hz (by simp) λg1 M e1=>?_)
 replace M:ya0 g1 z TI TO .ellipsis f:=M
 refine A0 ?_;simp only[List.zipIdx_cons,List.zipIdx_nil,List.forIn_cons,List.forIn_nil];refine A0 (A0 (X9 ?_));show wpAny _ _ (Builtin.SmallTypes.nextOf (.ref i1)>>=_) _ _ _;cases hx:xs[k1]? with
 | none =>
  refine A0 (X0 hh (h1.extBut e1.extBut D.i1z) (hl1.extBut e1.extBut D.l1z) hx λg2 e e2 he=>?_);obtain⟨oe,F,J⟩:=he;have z2:ya0 g2 z TI TO .ellipsis f:=e2 _ _ D.i1z.symm M;have O:e≠z:=λx=>by subst x;rw[z2] at F;cases F;simp at J
  exact L9 z2 (by simp) λg3 _ e3=>hE g3 e (λc o c1 _ c3 _ x=>e3.extBut _ _ c1 (e2 _ _ c3 (e1.extBut _ _ c1 x))) ⟨oe,e3.extBut _ _ O F,J⟩
 | some x =>
  have hy:ys[k2]?=none:=by rcases hend with h|h;rw[hx] at h;cases h;exact h
  refine A0 (P2 (h1.extBut e1.extBut D.i1z) (hl1.extBut e1.extBut D.l1z) hx λg2 U e2=>A1 ?_);have S:IsPair g2 TO a b:=e2.extBut _ _ D.TOi1 (e1.extBut _ _ D.TOz hTO);refine A0 (E7 S rfl ?_);refine A0 (y3 S λg3 Y e3=>?_);refine A0 (y4 (A1 ?_));refine A0 (A0 (X9 ?_));show wpAny _ _ (Builtin.SmallTypes.nextOf (.ref i2)>>=_) _ _ _;refine A0 (X0 hh (((h2.extBut e1.extBut D.i2z).extBut e2.extBut D.i12.symm).extBut e3.extBut D.TOi2.symm) (((hl2.extBut e1.extBut D.l2z).extBut e2.extBut D.l2i1).extBut e3.extBut D.l2TO) hy λg4 e e4 he=>?_);obtain⟨oe,F,J⟩:=he;have z4:ya0 g4 z TI TO .ellipsis f:=e4 _ _ D.i2z.symm (e3.extBut _ _ D.TOz.symm (e2.extBut _ _ D.i1z.symm M));have O:e≠z:=λx=>by subst x;rw[z4] at F;cases F;simp at J
  exact L9 z4 (by simp) λg5 _ e5=>hE g5 e (λc o c1 c2 c3 c4 x=>e5.extBut _ _ c1 (e4 _ _ c4 (e3.extBut _ _ c2 (e2.extBut _ _ c3 (e1.extBut _ _ c1 x))))) ⟨oe,e5.extBut _ _ O F,J⟩
theorem s70{TI TO:Addr}{f:Bool}{Q:Bool->Shared->Prop}(hz:ya0 s.heap z TI TO .none f)(hQ:Q true s):wpAny (model prog w) A (Builtin.SmallTypes.ownedTupleIsFree (.ref z)) Q E s:=by
 unfold Builtin.SmallTypes.ownedTupleIsFree;exact A0 (C2 hz rfl (x:=.none) rfl (A1 hQ))
theorem e20{TI TO:Addr}{f:Bool}(hz:ya0 s.heap z TI TO v f)(h:Q (.ref z) s):wpAny (model prog w) A (pyIter (.ref z)) Q E s:=by
 have hT:s.TypeIs (.ref z) "zip" := ⟨_,hz,rfl⟩;refine wpAny_pyIter_slot hT F.slot_zip_iter (D7 F.slot_zip_iter hT F.entry_zip_iter ?_ (F.args_zip_iter_1 _));exact A1 ⟨_,rfl, "zip",_,hT,E8.lookup,h⟩
def ns0(h:Heap)(z TI TO:Addr):Prop:=∃v f,ya0 h z TI TO v f/\(v=.none∨∃a:Addr,v=rawInt a)
theorem nu0{TI TO:Addr}{k1 k2:Nat}{xs ys:Array Value}{x y a b:Value}{Q:Option Value->Shared->Prop}(D:ZipApart z TI TO i1 i2 l1 l2)
  (hz:ns0 s.heap z TI TO) (hTI:IsPair s.heap TI (.ref i1) (.ref i2)) (hTO:IsPair s.heap TO a b)
  (h1:s.heap.IsListIter i1 l1 k1) (h2:s.heap.IsListIter i2 l2 k2) (hl1:s.heap.IsList l1 xs) (hl2:s.heap.IsList l2 ys) (hx:xs[k1]?=some x) (hy:ys[k2]?=some y)
  (hQ:∀h',ns0 h' z TI TO->(∃p q,IsPair h' TO p q)->h'.IsListIter i1 l1 (k1+1)->h'.IsListIter i2 l2 (k2+1)->IsPair h' s.heap.objs.size x y ->
   (∀c o,c≠z->c≠TO->c≠i1->c≠i2->s.heap.get? c=some o->h'.get? c=some o)->Q (some (.ref s.heap.objs.size)) { s with heap:=h' }) :
  wpAny (model prog w) A (pyNext (.ref z)) Q E s:=by
 obtain⟨v,f,hz,hv⟩:=hz;have hT:s.TypeIs (.ref z) "zip" := ⟨_,hz,rfl⟩;have again:(∀(E':Value->Shared->Prop) (A':Around) (Q':Bool->Shared->Prop),Q' true s->wpAny (model prog w) A' (Builtin.SmallTypes.ownedTupleIsFree (.ref z)) Q' E' s)->wpAny (model prog w) A (pyNext (.ref z)) Q E s:=λhf=>by
  unfold pyNext;exact A0 (L1 (K0 (name:=Str.ofString "__next__") hT E8
   (D7 E8 hT X1
    (m90 D hz (λQ' q=>hf _ _ Q' q) hTI hTO h1 h2 hl1 hl2 hx hy λh' a1 a2 a3 a4 a5 a6 a7=>A1 (hQ h' ⟨_,_,a1,.inr ⟨_,rfl⟩⟩ ⟨_,_,a2⟩ a3 a4 a5 a7)) (X2 _))))
 rcases hv with rfl|⟨a0,rfl⟩
 ·exact again λE' A' Q' q=>s70 hz q
 ·cases e:s.heap.get? a0 with
  | none=>exact again λE' A' Q' q=>sg0 hz e q
  | some oa =>
   exact nf0 D hz e hTI h1 h2 hl1 hl2 hx hy λh' b1 b2 b3 b4 b5 b6=>hQ h' ⟨_,_,b1,.inr ⟨_,rfl⟩⟩ ⟨_,_,b6 _ _ D.TOz D.TOi1 D.TOi2 hTO⟩ b2 b3 b4 λc o c1 _ c3 c4 q=>b6 c o c1 c3 c4 q
theorem tm0{TI TO:Addr}{k1 k2:Nat}{xs ys:Array Value}{a b:Value}{Q:Option Value->Shared->Prop}(hh:A.handled=none)(D:ZipApart z TI TO i1 i2 l1 l2)
  (hz:ns0 s.heap z TI TO) (hTI:IsPair s.heap TI (.ref i1) (.ref i2)) (hTO:IsPair s.heap TO a b)
  (h1:s.heap.IsListIter i1 l1 k1) (h2:s.heap.IsListIter i2 l2 k2) (hl1:s.heap.IsList l1 xs) (hl2:s.heap.IsList l2 ys) (hend:xs[k1]?=none∨ys[k2]?=none)
  (hQ:∀h',(∀c o,c≠z->c≠TO->c≠i1->c≠i2->s.heap.get? c=some o->h'.get? c=some o)->Q none { s with heap:=h' }):wpAny (model prog w) A (pyNext (.ref z)) Q E s:=by
 obtain⟨v,f,hz,hv⟩:=hz;have hT:s.TypeIs (.ref z) "zip" := ⟨_,hz,rfl⟩;have again:(∀(E':Value->Shared->Prop) (A':Around) (Q':Bool->Shared->Prop),Q' true s->wpAny (model prog w) A' (Builtin.SmallTypes.ownedTupleIsFree (.ref z)) Q' E' s)->wpAny (model prog w) A (pyNext (.ref z)) Q E s:=λhf=>by
  unfold pyNext;refine A0 (L1 (K0 (name:=Str.ofString "__next__") hT E8
   (D7 E8 hT X1 (k60 hh D hz (λQ' q=>hf _ _ Q' q) hTI hTO h1 h2 hl1 hl2 hend λh' e hk he=>?_) (X2 _))))
  obtain⟨o,ho,hc⟩:=he;refine A0 (x8 (T := "StopIteration") (b:=true) ⟨o,ho,hc⟩ x9 ?_);exact A1 (hQ _ hk)
 rcases hv with rfl|⟨a0,rfl⟩
 ·exact again λE' A' Q' q=>s70 hz q
 ·cases e:s.heap.get? a0 with
  | none=>exact again λE' A' Q' q=>sg0 hz e q
  | some oa=>exact tv0 hh D hz e hTI h1 h2 hl1 hl2 hend λh' hk=>hQ h' λc o c1 _ c3 c4 q=>hk c o c1 c3 c4 q
end
end ZipL
namespace L2
open Spec PyProof.Rows
theorem lz0{P:Program}{w:World}{TI TO b:Addr}(D:ZipApart z TI TO i1 i2 a b):Turn P w K (.Name nx pos) (Itz K a b) [z,TI,TO,i1,i2] z
  (λi h=>ZipL.ns0 h z TI TO/\IsPair h TI (.ref i1) (.ref i2)/\(∃p q,IsPair h TO p q)/\h.IsListIter i1 a i/\h.IsListIter i2 b i) where
 mem:=by simp
 obj:=λi h st c hc=>by
  obtain⟨⟨v,f,hz,_⟩,F,⟨p,q,J⟩,⟨o1,e1,c1,d1⟩,⟨o2,e2,c2,d2⟩⟩:=st;simp only[List.mem_cons,List.not_mem_nil,or_false] at hc;rcases hc with rfl|rfl|rfl|rfl|rfl
  ·exact⟨_,hz,λv z=>nomatch z⟩
  ·exact⟨_,F,λv z=>nomatch z⟩
  ·exact⟨_,J,λv z=>nomatch z⟩
  ·exact⟨_,e1,λv z=>by rw[d1] at z;cases z⟩
  ·exact⟨_,e2,λv z=>by rw[d2] at z;cases z⟩
 keep:=λi h h' st k=>by
  obtain⟨⟨v,f,hz,hv⟩,F,⟨p,q,J⟩,h1,h2⟩:=st;exact⟨⟨v,f,k z (by simp) _ hz,hv⟩,k TI (by simp) _ F,⟨p,q,k TO (by simp) _ J⟩,h1.at λo e=>k i1 (by simp) o e,h2.at λo e=>k i2 (by simp) o e⟩
 item:=by
  intro X hP hw hK hc i pins s σ H E I hf st hg;subst hP hw hK;obtain⟨hz,F,⟨p,q,J⟩,h1,h2⟩:=st;obtain⟨xs,ys,x,y,O,M,hx,hy⟩:=hg;obtain⟨us,Y,p1,z1⟩:=I.list O;obtain⟨ws,S,p2,z2⟩:=I.list M;obtain⟨u,hu,ru⟩:=Y.get hx;obtain⟨w,hw,a6⟩:=S.get hy;refine ZipL.nu0 D hz F J h1 h2 p1.isList p2.isList (x:=u) (y:=w) (by simpa using hu) (by simpa using hw) λh' a1 a2 a3 a4 a5 hk=>?_
  refine⟨_,rfl,?_⟩;unfold letOwnedTupleGo;refine A1 ?_;have lt:∀{c o},s.heap.get? c=some o->c<s.heap.objs.size:=λe=>A6 e
  obtain⟨v0,f0,a0,_⟩:=id hz;have lz:=lt a0;have a8:=lt J;have a9:=lt F;obtain⟨o1,e1,_⟩:=id h1;obtain⟨o2,e2,_⟩:=id h2;have l1:=lt e1;have l2:=lt e2;obtain⟨I1,fr⟩:=I.turnedNew (h':=h') (t':=s.toks) (fp:=[z,TI,TO,i1,i2]) hf ru a6 (λc hc=>by
   simp only[List.mem_cons,List.not_mem_nil,or_false] at hc;rcases hc with rfl|rfl|rfl|rfl|rfl<;>assumption) a5 (λc o hc e=>by
   simp only[List.mem_cons,List.not_mem_nil,or_false,not_or] at hc;exact hk c o hc.1 hc.2.2.1 hc.2.2.2.1 hc.2.2.2.2 e)
  exact⟨.ref s.heap.objs.size,_,I1,rfl,⟨_,x,y,rfl,I.hok.fresh (A4 _),rfl,λys U=>by rw[I.list_inj U O];exact hx,λa7 U=>by rw[I.list_inj U M];exact hy⟩,
   ⟨a1,hk _ _ D.TIz D.TITO D.TIi1 D.TIi2 F,a2,a3,a4⟩,fr⟩
 done:=by
  intro X hP hw hK hc i pins s σ H E I hf st hg;subst hP hw hK;obtain⟨hz,F,⟨p,q,J⟩,h1,h2⟩:=st;obtain⟨xs,ys,O,M,Z⟩:=hg;obtain⟨us,Y,p1,z1⟩:=I.list O;obtain⟨ws,S,p2,z2⟩:=I.list M;have l1:=Y.length;have l2:=S.length;refine ZipL.tm0 (I.ok.hd hc) D hz F J h1 h2 p1.isList p2.isList (Z.imp (λh=>by simp;omega) λh=>by simp;omega) λh' hk=>⟨rfl,I.turnedL (t':=s.toks) (fp:=[z,TI,TO,i1,i2]) hf λc o hc e=>?_⟩
  simp only[List.mem_cons,List.not_mem_nil,or_false,not_or] at hc;exact hk c o hc.1 hc.2.2.1 hc.2.2.2.1 hc.2.2.2.2 e
 self:=λ_ _ _ _ _ st h=>by
  obtain⟨⟨v,f,hz,_⟩,_⟩:=st;exact ZipL.e20 hz h
theorem f40{a:Expr}{ta:TA}{p pos:Pos}(hg:Gl X "zip")(hm:X.mg "zip"=none)(ha:PA X [a,b] ta)(hs:starEach [a,b] X.env=[(false,eval a X.env),(false,eval b X.env)]:=by rfl)(hs2:starEach [b] X.env=[(false,eval b X.env)]:=by rfl) :
  PI X (.Name nx tpos) (.Call (.Name "zip" p) [a,b] [] pos) (ag0 X.K ta):=by
 intro pins s σ H R I h;refine Call_ (xg0 I hg hm boot_zip (S2 (thn (ha pos pins s σ H _ I h) λus s1 ⟨vs,H1,I1,r1,q1⟩=>?_) (by rw[hs,hs2]) (by rw[hs2];rfl)));obtain⟨qa,qb,e,⟨xs,h1⟩,⟨ys,h2⟩,q⟩:=q1;subst e;cases r1 with
 | cons r rr =>
  cases rr with
  | cons r' rr =>
   cases rr;obtain rfl:=r;obtain rfl:=r';obtain⟨us1,v1,p1,z1⟩:=I1.list h1;obtain⟨us2,v2,p2,z2⟩:=I1.list h2;have a1:qa<s1.heap.objs.size:=by obtain⟨_,e,_⟩:=p1.isList;exact A6 e
   have a2:qb<s1.heap.objs.size:=by obtain⟨_,e,_⟩:=p2.isList;exact A6 e
   refine call_zip_2 p1.isList p2.isList λh' hz F J hi1 hi2 M hk=>?_
   refine wpAny_pyIter_zip (s:={ s1 with heap:=h' }) hz ?_;refine⟨_,_,_,_,H1,rfl,I1.kept (t':=s1.toks) hk,lz0 (zipApart_new a1 a2),⟨⟨_,_,hz,.inl rfl⟩,F,⟨_,_,J⟩,hi1,hi2⟩,λb hb=>?_,q⟩;simp only[List.mem_cons,List.not_mem_nil,or_false] at hb;rcases hb with rfl|rfl|rfl|rfl|rfl
   ·exact I1.fpOk (E9 _ 4) (I1.hok.fresh (E9 _ 4))
   ·exact I1.fpOk (E9 _ 2) (I1.hok.fresh (E9 _ 2))
   ·exact I1.fpOk (E9 _ 3) (I1.hok.fresh (E9 _ 3))
   ·exact I1.fpOk (A4 _) (I1.hok.fresh (A4 _))
   ·exact I1.fpOk (E9 _ 1) (I1.hok.fresh (E9 _ 1))
end L2
namespace DL
open Spec PyProof.Rows L2
section
variable{a:Expr}
theorem ja0(hm:X.mg "zip"=none)(ha:PDA X [a,b] gA)(hg:Gl X "zip" := by rfl)(hs:starEach [a,b] X.env=[(false,eval a X.env),(false,eval b X.env)]:=by rfl)(hs2:starEach [b] X.env=[(false,eval b X.env)]:=by rfl) :
  PID X (.Name nx tpos) (.Call (.Name "zip" p) [a,b] [] pos) (rh0 gA):=.mk λB δ=>L2.PI.imp (f40 hg hm (ha B δ) hs hs2) fun σ H R ⟨items,en,e1,k⟩=>by
 unfold rh0 at e1;cases e2:gA δ with
 | none=>rw[e2] at e1;cases e1
 | some ds =>
  rw[e2] at e1;simp only[Option.bind_some] at e1;unfold ix0 at e1;split at e1<;>try cases e1
  rename_i ds es;refine⟨_,en,e2,λvs H' s' r=>?_⟩;rw[o7] at r;obtain⟨x,t,rfl,r1,r⟩:=r;rw[o7] at r;obtain⟨y,t,rfl,r2,r⟩:=r;rw[n6] at r;subst r;rw[X4] at r1 r2;obtain⟨q1,us,rfl,s1,t1⟩:=r1;obtain⟨q2,ws,rfl,s2,t2⟩:=r2;have F:((ds.zip es).map λp=>D.tup [p.1,p.2]).length=min us.length ws.length:=by rw[List.length_map,List.length_zip,t1.length,t2.length]
  refine⟨q1,q2,rfl,⟨us,s1.to⟩,⟨ws,s2.to⟩,k _ H' s' ⟨λi H2 g2 hi=>?_,λi H2 v H3 g2 y hi=>?_,λi H2 g2 hi=>?_⟩⟩
  ·rw[F] at hi
   have h1:i<us.length:=by omega
   have h2:i<ws.length:=by omega
   exact⟨us,ws,us[i],ws[i],(s1.mono g2).to,(s2.mono g2).to,by simp[h1],by simp[h2]⟩
  ·obtain⟨t,x,y,rfl,ht,rfl,hx,hy⟩:=y
   rw[List.length_map,List.length_zip] at hi;have h1:i<ds.length:=by omega
   have h2:i<es.length:=by omega
   obtain⟨x',e4,rx⟩:=t1.get (i:=i) (D5 h1);obtain⟨y',e5,ry⟩:=t2.get (i:=i) (D5 h2);have ex:=hx us (s1.mono g2).to;have ey:=hy ws (s2.mono g2).to;rw[e4] at ex;rw[e5] at ey;cases ex;cases ey;refine⟨Z7 ht,.tup [ds[i],es[i]],by rw[List.getElem?_map,show (ds.zip es)[i]?=some (ds[i],es[i]) from List.getElem?_zip_eq_some.mpr ⟨D5 h1,D5 h2⟩];rfl,λB' gB hb=>?_⟩;exact h90 (λz=>hb t z ht) Z8 (rx.mono gB) (ry.mono gB)
  ·rw[F] at hi
   exact⟨us,ws,(s1.mono g2).to,(s2.mono g2).to,by omega⟩
end
end DL
namespace L2
open Spec PyProof.Rows
theorem jt0{s:Shared}{d b:Addr}{k:List Key}{v:V}{r:Value}{Q:Unit->Shared->Prop}(hu:A.units+1<cLine)(I:Inv X pins σ H s)(e:H d=some (.dT kvs))(eb:H b=some (.tup (k.map kV)))(l:kvs.length<sizeLine)(rv:RelV v r)
  (h:∀h' tk,Inv X pins σ (upd H d (.dT (putK kvs k v))) { s with heap:=h',toks:=tk }->Heap.SameBut d s.heap h'->Q () { s with heap:=h',toks:=tk }) :
  wpAny (model X.prog X.w) A.in1 (dictSet d (.ref b) r) Q E s:=by
 obtain⟨z,hd,xs,F,dd⟩:=mf0 I.hok e;have hz:xs.length<=sizeLine:=by rw[← Paired.length F];exact z
 have hl:(putK kvs k v).length<=sizeLine:=by have:=zf0 kvs k v;omega
 refine wpAny_dictSet_heap (hsz:=hz) (knd:=tupleKind (T8 X.prog X.w)) (x0 hu) (we0 I.hok eb) dd λh' J hs=>h _ _ ?_ hs
 obtain⟨q,es,ep,hq,h2,h3,h4,_,h5⟩:=J;refine vc0 I (by rw[e];exact True.intro) hs ⟨q,hq⟩ ⟨hl,hd,_,(F.put k eb rv).keeps λc ys ec=>?_,q,es,ep,hq,h2,h3,h4,h5⟩;rw[Z0 (vd0 ec e (λz=>nomatch z))];exact ec
structure PKV where
 p:Addr
 b:Addr
 k:List Key
 v:V
def PKV.ok(H:Hp)(x:PKV):Prop:=H x.p=some (.tup [.ref x.b,x.v])/\H x.b=some (.tup (x.k.map kV))
def putAll(kvs:List (List Key×V))(ps:List PKV):List (List Key×V):=ps.foldl (λacc x=>putK acc x.k x.v) kvs
theorem w40:plainId "dict.update.loop"=true:=by decide +kernel
theorem qj0:entryFor table "dict.update.loop"=some Builtin.«dict.update.loop»:=entryFor_of_fast (by kernel_rfl)
theorem lq0{l d:Addr}(hh:A.handled=none)(hu:A.units+1<cLine){R:Result->Shared->Prop}{ps:List PKV}(n:Nat):∀(i:Nat) (s:Shared) (H:Hp) (kvs:List (List Key×V)),ps.length - i=n->i<=ps.length->Inv X pins σ H s->yu0 X pins H it->it≠d->it≠l->s.heap.IsListIter it l i ->
  SqL X.K H l (ps.map λx=>V.ref x.p)->(∀x∈ps,x.ok H)->H d=some (.dT kvs)->kvs.length+(ps.length - i)<=sizeLine ->
  (∀s',Inv X pins σ (upd H d (.dT (putAll kvs (ps.drop i)))) s'->R (.ok (.ret .none)) s') ->
  wpAny (model X.prog X.w) A.in1 (Builtin.«dict.update.loop» ⟨[.ref d,.ref it,rawInt i,.none],[]⟩) (λfin s'=>match fin with|.done f=>R (.ok f) s'|.again c'=>c'.quiet=true/\codeAny (model X.prog X.w) A c' R s') (λe s'=>R (.error e) s') s:=by
 induction n with
 | zero =>
  intro i s H kvs hn hi I hf F S M hl hp hd hz hR;obtain⟨its,rv,pl,_⟩:=I.list hl;have U:=rv.length;rw[List.length_map] at U;unfold Builtin.«dict.update.loop»;refine A0 (wpAny_pyNext_list_end hh M pl.isList (by simp;omega) λh' hk=>?_);have I1:Inv X pins σ H { s with heap:=h' }:=I.turnedL (t':=s.toks) (fp:=[it]) (λb hb=>by rw[List.mem_singleton.mp hb];exact hf) λb o hb e=>hk _ _ (λz=>hb (by simp[z])) e
  have e:ps.drop i=[]:=by rw[List.drop_eq_nil_iff];omega
  rw[e] at hR;have:=hR _ (show Inv X pins σ (upd H d (.dT (putAll kvs []))) { s with heap:=h' } from by
   rw[show upd H d (.dT (putAll kvs []))=H from by funext c;by_cases q:c=d<;>simp[upd,q,putAll,hd]];exact I1)
  exact A0 (A1 (A1 this))
 | succ n ih =>
  intro i s H kvs hn hi I hf F S M hl hp hd hz hR;obtain⟨its,rv,pl,_⟩:=I.list hl;have J:i<ps.length:=by omega
  obtain⟨x,hx⟩:∃x,ps[i]?=some x:=⟨ps[i],by simp[J]⟩;have a0:x∈ps:=o0 hx;obtain⟨a2,a1⟩:=hp x a0;obtain⟨u,a5,ru⟩:=rv.get (show (ps.map λx=>V.ref x.p)[i]?=some (.ref x.p) by rw[List.getElem?_map,hx];rfl);cases (show u=Value.ref x.p from ru);unfold Builtin.«dict.update.loop»;refine A0 (Ae0 M pl.isList (by simpa using a5) λh' Y hs=>?_);have I1:Inv X pins σ H { s with heap:=h' }:=I.turnedL (t':=s.toks) (fp:=[it]) (λb hb=>by rw[List.mem_singleton.mp hb];exact hf) λb o hb e=>hs.extBut _ _ (λz=>hb (by simp[z])) e
  obtain⟨a7,a6,ip,_⟩:=I1.tuple (SqT.of a2);cases a6 with
  | cons r1 rr =>
   cases rr with
   | cons r2 rr =>
    cases rr;cases r1;obtain⟨o,ho,hc,nn,Z⟩:=id ip;rename_i rv0;refine A0 (C4 ?_);refine A0 (wpAny_tryCatch ?_);unfold Builtin.Dict.pairItems;refine A0 (N9 (show Shared.TypeIs _ (.ref x.p) "tuple" from ⟨o,ho,hc⟩) ?_);rw[if_pos (by decide)];refine A0 (E7 ho Z (A1 ?_));show wpAny _ _ (holding [.ref x.b,rv0] (dictSet d (.ref x.b) rv0)) _ _ _;refine C4 (jt0 (A:=A) hu I1 hd a1 (by omega) r2 λh2 tk I2 a4=>?_);have O:∀(c:Addr) (us:List V),H c=some (.tup us)->upd H d (.dT (putK kvs x.k x.v)) c=some (.tup us):=λc us ec=>by
     rw[Z0 (vd0 ec hd (λz=>nomatch z))];exact ec
    have a3:((i:Int)+1)=((i+1:Nat):Int):=by push_cast;rfl
    refine A1 ⟨plainId_quiet w40 _,?_⟩;rw[a3];refine i5 qj0 ?_;rw[Around.under_plainId w40 _];have a8:l≠d∨True:=.inr trivial;refine ih (i+1) _ (upd H d (.dT (putK kvs x.k x.v))) (putK kvs x.k x.v) (by omega) (by omega) I2 ⟨by rw[Z0 F];exact hf.1,hf.2⟩ F S (Y.extBut a4.extBut F) ?_ (λy hy=>⟨O _ _ (hp y hy).1,O _ _ (hp y hy).2⟩) Z8 (by have:=zf0 kvs x.k x.v;omega) λs' I'=>hR s' ?_
    ·rcases hl with (hl|⟨o',hl⟩)|hl
     ·exact .inl (.inl (by rw[Z0 (vd0 hl hd (λz=>nomatch z))];exact hl))
     ·exact .inl (.inr ⟨o',by rw[Z0 (vd0 hl hd (λz=>nomatch z))];exact hl⟩)
     ·exact .inr hl
    ·have e1:upd (upd H d (.dT (putK kvs x.k x.v))) d (.dT (putAll (putK kvs x.k x.v) (ps.drop (i+1))))=upd H d (.dT (putAll kvs (ps.drop i))):=by
      have e2:ps.drop i=x::ps.drop (i+1):=by
       rw[List.drop_eq_getElem_cons J];have:ps[i]=x:=by
        have:=hx;rw[List.getElem?_eq_getElem J] at this;exact B1 this
       rw[this]
      rw[e2]
      funext c
      by_cases q:c=d<;>simp[upd,q,putAll]
     rw[← e1];exact I'
theorem ke0:typeLookup (.type "list") "keys"=pure none:=by rw[typeLookup_type,builtinLookup_eq_fast];kernel_rfl
theorem ll0{prog:Program}{w:World}{A:Around}{E:Value->Shared->Prop}{s:Shared}{a:Addr}{o:Obj}{xs:Array Value}{k:Nat}{Q:Option Value->Shared->Prop}
  (hx:s.heap.get? a=some o) (hc:o.cls=.type "list") (hdat:o.data=.seq xs k) (hd:o.dict=none) (hA:A.handled=none)
  (h:∀h' tk,(∀b ob,s.heap.get? b=some ob->h'.get? b=some ob)->Q none { s with heap:=h',toks:=tk }) :
  wpAny (model prog w) A (getAttr? (.ref a) "keys") Q E s:=by
 obtain⟨c,dct,O,sl⟩:=o;simp only at hc hdat hd;subst hc hdat hd;obtain⟨hp,g,d,tk,os⟩:=s;have hT:∀M,(⟨hp,g,d,M,os⟩:Shared).TypeIs (.ref a) "list" := λ_=>⟨_,hx,rfl⟩
 have f1:=sub_AttributeError;have f3:=PySem.F.slot_list_getattribute.lookup;have f4:=PySem.F.slot_list_getattribute.bind (.ref a);have f5:=am_list_getattr_none;unfold getAttr? getAttrBy? getAttrBy
 repeat (any_goals (first|assumption|exact hT _|((with_reducible show wpAny _ _ (call (Value.builtin "list.__getattribute__") _ _) _ _ _);refine P5 PySem.F.slot_list_getattribute (hT _) am_entry_list_getattribute (PySem.F.args_list_getattribute_2 _ _) (meets_getattribute_miss_list a xs k sl "keys" _ ke0 (by decide +kernel)) ⟨hx,hA,λh' M e J=>?_⟩)|wp_step))
 obtain⟨t',u',he⟩:=J.there;show wpAny _ _ (getattributeRaised _ _ _ _ _ _ _) _ _ _;unfold getattributeRaised
 repeat (any_goals (first|assumption|wp_step))
 exact h _ _ J.keeps
def c70(K:W.Frag):List V->Hp->VK->Prop:=λvs H Q=>∃l ps,vs=[.ref l]/\SqL K H l (ps.map λx:PKV=>V.ref x.p)/\(∀x∈ps,x.ok H)/\ps.length<=sizeLine/\∀d,H d=none->Q (.ref d) (upd H d (.dT (putAll [] ps)))
theorem mi0(hu:X.A.units+2<cLine)(hcalm:X.calm=true:=by rfl):CallR X (.type "dict") (c70 X.K):=by
 intro pins s σ H vs us Q I r h;obtain⟨l,ps,rfl,hl,hp,hz,k⟩:=h;cases r with
 | cons r rr =>
  cases rr;obtain rfl:=r;have hb:sysModules<s.heap.objs.size:=w8 (by decide) ((I.mod.glob.keeps I.bk).lt:mainGlobals<s.heap.objs.size);have hf:H s.heap.objs.size=none:=I.hok.fresh (A4 _);refine callType_codes (Q₁:=λobj s₁=>obj=.ref s.heap.objs.size/\s₁={ s with heap:=s.heap.push { cls:=.type "dict",data:=.dict #[] } }) PySem.F.kt_called_dict (PySem.F.kt_typeCall_dict_1 _) PySem.F.entry_dict_init (kt_code_dict_new _ ⟨rfl,rfl⟩) ?_;rintro obj s₁ ⟨rfl,rfl⟩;have I1:Inv X pins σ (upd H s.heap.objs.size (.dT [])) { s with heap:=s.heap.push { cls:=.type "dict",data:=.dict #[] } }:=I.laid (a:=s.heap.objs.size) (o:=.dT []) (t':=s.toks) (λ_ _ q=>A7 _ q) (A4 _) (uf0 s.heap hb);have hT:Shared.TypeIs { s with heap:=s.heap.push { cls:=.type "dict",data:=.dict #[] } } (.ref s.heap.objs.size) "dict" := ⟨_,B5 _ rfl,rfl⟩;have J:∀(c:Addr) (o:HO),H c=some o->upd H s.heap.objs.size (.dT []) c=some o:=λc o e=>by rw[Z0 (V9 e hf)];exact e
  have O:SqL X.K (upd H s.heap.objs.size (.dT [])) l (ps.map λx:PKV=>V.ref x.p):=by
   rcases hl with (hl|⟨o',hl⟩)|hl
   ·exact .inl (.inl (J _ _ hl))
   ·exact .inl (.inr ⟨o',J _ _ hl⟩)
   ·exact .inr hl
  obtain⟨its,rv,⟨ol,nl,Y,U,a4,a0⟩,_⟩:=I1.list O;refine⟨hT,PySem.F.args_dict_init_2 _ _,?_⟩;unfold Builtin.«dict.__init__»;refine A0 ?_;unfold Builtin.Dict.selfAndRest;refine A0 (wpAny_notOrdered_dict hT ?_);show wpAny _ _ (pure (s.heap.objs.size,[Value.ref l])) _ _ _;refine A1 ?_;show wpAny _ _ (Builtin.Dict.updateFrom "dict.__init__" s.heap.objs.size (.ref l) [] .none) _ _ _;unfold Builtin.Dict.updateFrom;refine A0 (N9 (show Shared.TypeIs _ (.ref l) "list" from ⟨ol,Y,U⟩) ?_);rw[if_pos (by decide)];refine A0 (ll0 Y U a0 a4 (I.ok.hd hcalm) λh1 M k1=>?_);simp only[Option.isNone_none,if_true];have I2:Inv X pins σ (upd H s.heap.objs.size (.dT [])) { s with heap:=h1,toks:=M }:=I1.kept (t':=M) k1;obtain⟨a5,a8,S,_⟩:=I2.list O;refine A0 (D8 (A0 (m4 (s:={ s with heap:=h1,toks:=M }) S.isList ?_)));refine A1 ⟨plainId_quiet w40 _,i5 qj0 ?_⟩;rw[Around.under_plainId w40 _];have I3:Inv X pins σ (upd H s.heap.objs.size (.dT [])) { s with heap:=h1.push { cls:=.type "list_iterator",data:=.fields #[.ref l,.int 0 0] },toks:=M }:=I2.kept (t':=M) λb o e=>A7 _ e
  have a2:s.heap.objs.size<h1.objs.size:=A6 (k1 _ _ (B5 _ rfl));have a1:h1.objs.size≠l:=by
   obtain⟨a6,a7,Z,_⟩:=S;exact N3 (A6 Z)
  have a3:upd H s.heap.objs.size (.dT []) h1.objs.size=none:=I2.hok.fresh (A4 _);refine lq0 (X:=X) (pins:=pins) (σ:=σ) (A:=X.A.in1) (it:=h1.objs.size) (l:=l) (d:=s.heap.objs.size) (ps:=ps) (I.ok.hd hcalm) (show X.A.units+1+1<cLine by omega) ps.length 0 _ _ [] (by omega) (K2 _) I3 (I2.fpOk (A4 _) a3) (N3 a2) a1 ?_ O (λx hx=>⟨J _ _ (hp x hx).1,J _ _ (hp x hx).2⟩) Z8 (by simpa using hz) λs' I'=>⟨rfl,?_⟩
  ·exact⟨_,B5 _ rfl,rfl,rfl⟩
  ·refine⟨.ref s.heap.objs.size,_,I',rfl,?_⟩
   have e:upd (upd H s.heap.objs.size (.dT [])) s.heap.objs.size (.dT (putAll [] (ps.drop 0)))=upd H s.heap.objs.size (.dT (putAll [] ps)):=by
    funext c
    by_cases q:c=s.heap.objs.size<;>simp[upd,q]
   rw[e];exact k _ hf
end L2
namespace DL
open Spec PyProof.Rows L2
def U5:List (List T5)->List D->List D->Option (List (List T5)×List D)
 | ks,vs,[]=>some (ks,vs)
 | ks,vs,.tup [a,b]::r=>(G6 a).bind λk=>U5 (S9 ks k) (M8 ks vs k b) r
 | _,_,_=>none
def p50:List D->Option D
 | [.lst ds]=>if ds.length<=sizeLine then (U5 [] [] ds).map λr=>.dct (.inr r.1) r.2 else none
 | _=>none
theorem px0{ks:List (List T5)}{vs:List D}{d:D}{r:List (List T5)×List D}(e:U5 ks vs (d::ds)=some r):∃a b k,d=.tup [a,b]/\G6 a=some k/\U5 (S9 ks k) (M8 ks vs k b) ds=some r:=by
 cases d with
 | tup l =>
  match l,e with
  | [],e=>simp[U5] at e
  | [_],e=>simp[U5] at e
  | [a,b],e =>
   unfold U5 at e;cases h:G6 a with
   | none=>rw[h] at e;cases e
   | some k=>rw[h] at e;exact⟨a,b,k,rfl,h,e⟩
  | _::_::_::_,e=>simp[U5] at e
 | non=>simp[U5] at e
 | bl _=>simp[U5] at e
 | int _=>simp[U5] at e
 | str _=>simp[U5] at e
 | lst _=>simp[U5] at e
 | dct _ _=>simp[U5] at e
 | fn _ _=>simp[U5] at e
theorem ul0:∀{ds:List D} {xs:List V} {ks:List (List T5)} {vs:List D} {ws:List V} {r:List (List T5)×List D},Rps K H B ds xs->Rps K H B vs ws->ks.length=ws.length->U5 ks vs ds=some r ->
  ∃ps:List PKV,xs=ps.map (λx=>V.ref x.p)/\(∀x∈ps,x.ok H)/\∃ws',putAll (ks.zip ws) ps=r.1.zip ws'/\r.1.length=ws'.length/\Rps K H B r.2 ws'
 | [],xs,ks,vs,ws,r,h1,h2,hl,e=>by
  unfold U5 at e;cases e;rw[n6] at h1;exact⟨[],h1,(λx hx=>by cases hx),ws,rfl,hl,h2⟩
 | d::ds,xs,ks,vs,ws,r,h1,h2,hl,e=>by
  rw[o7] at h1;obtain⟨x,t,rfl,hx,ht⟩:=h1;obtain⟨a,b,k,rfl,e1,e⟩:=px0 e;rw[X3] at hx;obtain⟨p,ys,rfl,hq,F⟩:=hx;rw[o7] at F;obtain⟨y1,t1,rfl,Y,F⟩:=F;rw[o7] at F;obtain⟨y2,t2,rfl,J,F⟩:=F;rw[n6] at F;subst F;obtain⟨kb,rfl,S⟩:=ur0 e1 Y;obtain⟨zs,M,U,O,Z⟩:=n90 (q:=k) (v:=y2) hl;have rr:Rps K H B (M8 ks vs k b) zs:=by
   unfold M8;cases hk:N8 ks k with
   | true=>rw[if_pos rfl,O hk];exact xq0 J h2
   | false=>rw[if_neg (by simp),Z hk];exact Rps.snoc h2 J
  obtain⟨ps,q1,q2,ws',q3,q4,q5⟩:=ul0 ht rr U e;refine⟨⟨p,kb,k,y2⟩::ps,by rw[q1];rfl,λx hx=>?_,ws',?_,q4,q5⟩
  ·rcases B4.mp hx with rfl|hx
   ·exact⟨hq.2,S⟩
   ·exact q2 x hx
  ·show putAll (putK (ks.zip ws) k y2) ps=_
   rw[M];exact q3
theorem kn0(hu:X.A.units+2<cLine)(hcalm:X.calm=true)(hm:X.mg "dict"=none)(hv:bootBuiltins "dict"=some (.type "dict"))(ha:PD X e g)(hg:Gl X "dict" := by rfl)
  (he:starEach [e] X.env=(false,eval e X.env)::starEach [] X.env:=by rfl) (hpl:(backTo pos (starEach [] X.env)).any (·.1)=false:=by rfl) :
  PDF X (.Call (.Name "dict" p) [e] [] pos) (oA (z9 g v7) p50):=.mk λB δ=>(v40 (mi0 hu hcalm) hg hm hv (J5 (ha B δ) yj0 he) (by decide) (by decide) he hpl).imp fun σ H Q ⟨d,en,h,k⟩=>by
 unfold oA z9 v7 at h;cases e1:g δ with
 | none=>rw[e1] at h;cases h
 | some x =>
  rw[e1] at h;simp only[Option.bind_some,Option.map_some] at h;refine⟨x,en,e1,λv H1 s1 r1=>?_⟩;unfold p50 at h;split at h
  ·rename_i ds he1
   injection he1 with he1
   subst he1;split at h
   ·rename_i hz
    cases e2:U5 [] [] ds with
    | none=>rw[e2] at h;cases h
    | some r =>
     rw[e2] at h;cases h;rw[X4] at r1;obtain⟨q,xs,rfl,hq,rr⟩:=r1;obtain⟨ps,q1,q2,ws,q3,q4,q5⟩:=ul0 rr (ks:=[]) (vs:=[]) (ws:=[]) (by rw[n6]) rfl e2;refine⟨q,ps,rfl,by rw[← q1];exact hq.to,q2,by have:=rr.length;rw[q1,List.length_map] at this;omega,λl F=>?_⟩;have q3:putAll [] ps=r.1.zip ws:=q3;rw[q3];exact k l _ (s1.free F) (s1.trans (Z7 F)) ⟨ws,Z8,q4,q5.mono (Gr.fresh F)⟩
   ·cases h
  ·cases h
end DL
namespace L2
open Spec PyProof.Rows
theorem mx0{s:Shared}{d b:Addr}{k:List Key}{v:V}{r:Value}{Q:Unit->Shared->Prop}(hu:A.units<cLine)(I:Inv X pins σ H s)(e:H d=some (.dT kvs))(eb:H b=some (.tup (k.map kV)))(l:kvs.length<sizeLine)(rv:RelV v r)
  (h:∀h' tk,Inv X pins σ (upd H d (.dT (putK kvs k v))) { s with heap:=h',toks:=tk }->Q () { s with heap:=h',toks:=tk }) :
  wpAny (model X.prog X.w) A (dictSet d (.ref b) r) Q E s:=by
 obtain⟨z,hd,xs,F,dd⟩:=mf0 I.hok e;have hz:xs.length<=sizeLine:=by rw[← Paired.length F];exact z
 have hl:(putK kvs k v).length<=sizeLine:=by have:=zf0 kvs k v;omega
 refine wpAny_dictSet_heap (hsz:=hz) (knd:=tupleKind (T8 X.prog X.w)) (show A.units<cLine from hu) (we0 I.hok eb) dd λh' J hs=>h _ _ ?_
 obtain⟨q,es,ep,hq,h2,h3,h4,_,h5⟩:=J;refine vc0 I (by rw[e];exact True.intro) hs ⟨q,hq⟩ ⟨hl,hd,_,(F.put k eb rv).keeps λc ys ec=>?_,q,es,ep,hq,h2,h3,h4,h5⟩;rw[Z0 (vd0 ec e (λz=>nomatch z))];exact ec
end L2
namespace DL
open Spec PyProof.Rows L2
def up0(gk gv:GE):GE:=fun δ=>(gk δ).bind λa=>(G6 a).bind λk=>(gv δ).map λb=>.dct (.inr [k]) [b]
section
variable{σ:St}
theorem Env.fresh{p:Addr}{o:HO}(e:Env K H B σ δ)(hp:H p=none)(no:∀ob u,o≠.frz ob u:=by exact λ_ _ z=>nomatch z)(nt:∀xs,o≠.tup xs:=by exact λ_ z=>nomatch z):Env K (upd H p o) (λa=>B a∨a=p) σ δ:=by
 refine⟨Pd.imp (λv s h=>?_) e.all,λa z=>?_,e.own⟩
 ·cases s with
  | un=>trivial
  | ex c n=>obtain⟨u,q,r⟩:=h;exact⟨u,q,r.mono (Gr.fresh hp)⟩
  | sh d=>obtain⟨u,q,r⟩:=h;exact⟨u,q,r.mono (Gr.fresh hp)⟩
  | ow d =>
   obtain⟨a,q,hb,r⟩:=h;exact⟨a,q,.inl hb,r.mono (λo ho=>by rw[Z0 (V9 ho hp)];exact ho) (Gr.fresh hp)⟩
 ·rcases z with z|z
  ·have:=e.bad a z
   by_cases q:a=p
   ·rw[q,Z8];exact .of rfl no nt
   ·rw[Z0 q];exact this
  ·rw[z,Z8];exact .of rfl no nt
end
section
variable{ke ve:Expr}{gk gv:Ds->Option D}
theorem lp0(hu:X.A.units<cLine)(hk:PD X ke gk)(hv:PD X ve gv):PDF X (.Dict [some ke] [ve] pos) (up0 gk gv):=.mk λB δ pins s σ H Q I ⟨d,en,h,k⟩=>by
 unfold up0 at h;cases e1:gk δ with
 | none=>rw[e1] at h;cases h
 | some a =>
  rw[e1] at h;simp only[Option.bind_some] at h;cases e2:G6 a with
  | none=>rw[e2] at h;cases h
  | some key =>
   rw[e2] at h;simp only[Option.bind_some] at h;cases e3:gv δ with
   | none=>rw[e3] at h;cases h
   | some b =>
    rw[e3] at h;cases h;have hb:sysModules<s.heap.objs.size:=w8 (by decide) ((I.mod.glob.keeps I.bk).lt:mainGlobals<s.heap.objs.size);have hp:H s.heap.objs.size=none:=I.hok.fresh (A4 _);have I1:Inv X pins σ (upd H s.heap.objs.size (.dT [])) { s with heap:=s.heap.push { cls:=.type "dict",data:=.dict #[] } }:=I.laid (a:=s.heap.objs.size) (o:=.dT []) (t':=s.toks) (λ_ _ q=>A7 _ q) (A4 _) (uf0 s.heap hb);have F:Env X.K (upd H s.heap.objs.size (.dT [])) (λa=>B a∨a=s.heap.objs.size) σ δ:=en.fresh hp;have pp:=j90 (pos:=pos) (hk (λa=>B a∨a=s.heap.objs.size) δ) (hv (λa=>B a∨a=s.heap.objs.size) δ) (gu0 (X:=X) (pos:=pos));rw[arm_eval_Dict,zip_pairTrees [some ke] [ve] X.env pos rfl rfl,dictDisplay_pairs (pairTrees [some ke] [ve] X.env pos) (λz=>by have hn:=pairTrees_length [some ke] [ve] X.env pos rfl rfl;rw[z] at hn;cases hn) (by rw[pairTrees_length [some ke] [ve] X.env pos rfl rfl];simp)];refine A0 (m3 (A0 ?_));unfold subDict;refine A0 (wpAny_alloc ?_);refine A0 (C4 ?_);rw[if_pos (by rw[pairTrees_length [some ke] [ve] X.env pos rfl rfl];simp)];refine A0 (thn (pp pins _ σ _ (λps H2=>∃v1 v2,ps=[(v1,v2)]/\Rp X.K H2 (λa=>B a∨a=s.heap.objs.size) a v1/\Rp X.K H2 (λa=>B a∨a=s.heap.objs.size) b v2/\Same (upd H s.heap.objs.size (.dT [])) H2) I1
     ⟨a,F,e1,λv1 H1 s1 r1=>⟨b,F.same s1,e3,λv2 H2 s2 r2=>⟨v1,v2,rfl,r1.same s2,r2,s1.trans s2⟩⟩⟩) λvs s2 ⟨ps,H2,I2,U,v1,v2,O,r1,r2,sm⟩=>?_)
    subst O;cases U with
    | @cons _ q _ _ rh rt =>
     cases rt;obtain⟨q1,q2⟩:=q;obtain⟨kb,rfl,M⟩:=ur0 e2 r1;obtain⟨J,S⟩:=rh;cases (show q1=Value.ref kb from J);refine C4 ?_;refine A0 ?_;simp only[List.forIn_cons,List.forIn_nil];refine A0 (A0 (mx0 hu I2 (sm _ _ Z8) M (by decide) S λh' tk I3=>A1 ?_));refine A1 (A1 (A1 (A1 ⟨.ref s.heap.objs.size,_,I3,rfl,?_⟩)));refine k s.heap.objs.size _ hp (λc o e=>?_) ⟨[v2],Z8,rfl,?_⟩
     ·have hc:c≠s.heap.objs.size:=V9 e hp
      rw[Z0 hc];exact sm c o (by rw[Z0 hc];exact e)
     ·have:=r2.mono (Gr.own (H:=H2) (B:=λa=>B a∨a=s.heap.objs.size) (a:=s.heap.objs.size) (o:=.dT (putK [] key v2)) (.inr rfl))
      rw[o7];exact⟨v2,[],rfl,this,by rw[n6]⟩
end
end DL
namespace L2
open Spec PyProof.Rows
theorem down(n:Nat):sliceRange ((n:Int) - 1) (-1) (-1)=(List.range n).reverse:=by
 unfold sliceRange;simp only[];rw[if_neg (by decide)];have hc:(if (n:Int) - 1 > -1 then ((n:Int) - 1 - -1 - -1 - 1)/(- -1) else 0).toNat=n:=by
  split
  ·rw[show ((n:Int) - 1 - -1 - -1 - 1)=(n:Int) from by omega,show (- -1:Int)=1 from rfl,Int.ediv_one,Int.toNat_natCast]
  ·omega
 rw[hc];apply Y1;intro j
 by_cases hj:j<n
 ·rw[List.getElem?_map,List.getElem?_range hj,List.getElem?_reverse (by simpa using hj),List.length_range,List.getElem?_range (by omega)]
  show some (((n:Int) - 1+-1*(j:Int)).toNat)=_;congr 1;omega
 ·rw[List.getElem?_eq_none (by simp;omega),List.getElem?_eq_none (by simp;omega)]
theorem q90(its:List Value):∀l:List Nat,(∀j∈l,j<its.length)->l.filterMap (λx=>its.toArray[x]?)=l.map λj=>its.getD j .none
 | [],_=>rfl
 | j::l,h=>by
  have hj:=h j A5;rw[List.filterMap_cons,List.map_cons,q90 its l λq hq=>h q (B0 _ hq)];simp[hj]
theorem i70(its:List Value):slicePick its.toArray none none (some (-1))=its.reverse.toArray:=by
 unfold slicePick;have h:sliceBounds none none (some (-1)) its.toArray.size=(((its.toArray.size:Nat):Int) - 1,-1,-1):=by
  unfold sliceBounds;rfl
 rw[h];simp only[down];congr 1;rw[List.size_toArray,q90 its _ (by simp),← List.map_reverse.symm];congr 1;apply Y1;intro j
 by_cases hj:j<its.length
 ·simp[hj]
 ·rw[List.getElem?_eq_none (by simp;omega),List.getElem?_eq_none (by omega)]
section
variable{st:Expr}{ts:TO}
def Z20(K:W.Frag)(te:TE)(ts:TO):TE:=fun σ H Q=>te σ H λx H1=>ts σ H1 λo H2=>o=some (-1)/\∃a xs,x=.ref a/\SqL K H2 a xs/\∀p,H2 p=none->Q (.ref p) (upd H2 p (.lst xs.reverse))
theorem db0(he:PE X e te)(hs:PO X (some st) ts):PE X (.Subscript e (.Slice none none (some st) p2) pos) (Z20 X.K te ts):=by
 intro pins s σ H Q I h;refine Subscript_ (thn (he pins s σ H _ I h) λv s1 ⟨x,H1,I1,r1,q1⟩=>?_);refine wpAny_Slice ?_;rw[evalPart_none];refine A1 ?_;refine A1 ?_;refine thn (hs pins s1 σ H1 _ I1 q1) λvt s2 ⟨o,H2,I2,pt,q2⟩=>?_
 obtain⟨rfl,a,xs,rfl,hx,q⟩:=q2;cases r1;have I4:Inv X pins σ H2 { s2 with heap:=s2.heap.push { cls:=.type "slice",data:=.fields #[.none,.none,vt] } }:=I2.kept (t':=s2.toks) λb ob q=>A7 _ q
 obtain⟨its,r,ht,hz⟩:=I4.list hx;have F:=r.length;show wpAny (model X.prog X.w) X.A (subscriptTail e (.Slice none none (some st) p2) (.ref a) (.ref s2.heap.objs.size)) (EP X pins σ Q) X.xe { s2 with heap:=s2.heap.push { cls:=.type "slice",data:=.fields #[.none,.none,vt] } };refine tail_any (ops:=[.ref a,.ref s2.heap.objs.size]) ht.isList.typeIs v3.lookup ?_ (by with_unfolding_all rfl);refine Ar0 ht.isList (Heap.IsSliceOf.new ..) .none .none pt (by decide) ?_ (by rw[List.size_toArray]<;>omega);rw[i70];refine⟨.ref (s2.heap.push { cls:=.type "slice",data:=.fields #[.none,.none,vt] }).objs.size,_,I4.laid (t':=s2.toks) (o:=.lst xs.reverse) (λb ob q=>A7 _ q) (A4 _) ?_,rfl,q _ (I4.hok.fresh (A4 _))⟩;exact⟨by rw[List.length_reverse];exact hz,_,0,r.reverse,B5 _ rfl⟩
end
end L2
namespace DL
open Spec PyProof.Rows L2
def pj0(g:GE):GE:=fun δ=>(g δ).bind λd=>match d with
 | .lst l=>some (.lst l.reverse)
 | _=>none
section
variable{st:Expr}{g:GE}{gs:Ds->Option (Option Int)}
theorem ol0:∀{ds:List D} {xs:List V},Rps K H B ds xs->Rps K H B ds.reverse xs.reverse
 | [],xs,h=>by rw[n6] at h;subst h;rw[List.reverse_nil,n6];rfl
 | d::ds,xs,h=>by
  rw[o7] at h;obtain⟨x,r,rfl,h1,h2⟩:=h;rw[List.reverse_cons,List.reverse_cons];exact(ol0 h2).append (by rw[o7];exact⟨x,[],rfl,h1,by rw[n6]⟩)
theorem dr0(he:PD X e g)(hs:PDO X (some st) gs)(hm:∀δ,gs δ=some (some (-1)):=by intro _;rfl):PD X (.Subscript e (.Slice none none (some st) p2) pos) (pj0 g):=.mk λB δ =>
 (db0 (he B δ) (hs B δ)).imp fun σ H Q ⟨d,en,h,k⟩=>by
  unfold pj0 at h;cases e1:g δ with
  | none=>rw[e1] at h;cases h
  | some x =>
   rw[e1,Option.bind_some] at h;split at h
   ·rename_i l
    cases h;refine⟨_,en,e1,λv H1 s1 r1=>⟨_,en.same s1,hm δ,λH2 s2=>⟨rfl,?_⟩⟩⟩
    replace r1:=r1.same s2
    have hb:=((en.same s1).same s2).bad;rw[X4] at r1;obtain⟨a,xs,rfl,q,r⟩:=r1;exact⟨a,xs,rfl,q.to,λp hp=>k _ _ ((s1.trans s2).trans (Z7 hp)) (yh0 hb hp (ol0 r))⟩
   ·cases h
end
end DL
namespace SoT
open PyProof.Rows
section
variable{P:Program}{w:World}{s:Shared}{b:Array Keyed}{κ:SortKind}{cmp:Keyed->Keyed->Bool}
structure Go(b:Array Keyed)(κ:SortKind)(st:SortSt):Prop where
 kd:kindOf st=κ
 pm:(arrOf st).Perm b
 pe:pendingOf st=#[]
 fa:failedOf st=none
structure Cp(P:Program)(w:World)(A:Around)(E:Value->Shared->Prop)(s:Shared)(b:Array Keyed)(κ:SortKind)(cmp:Keyed->Keyed->Bool):Prop where
 ask:∀(st:SortSt) (i j:Nat) (x y:Keyed) (Q:Option Bool->SortSt->Prop),Go b κ st->(arrOf st)[i]?=some x->(arrOf st)[j]?=some y->Q (some (cmp x y)) st->wpS (model P w) A E s (ltAt' i j) Q st
 nd:b.toList.Nodup
 tr:∀x∈b.toList,∀y∈b.toList,∀z∈b.toList,cmp x y=true->cmp y z=true->cmp x z=true
 to:∀x∈b.toList,∀y∈b.toList,x≠y->cmp y x=false->cmp x y=true
theorem Go.sz{st:SortSt}(h:Go b κ st):(arrOf st).size=b.size:=h.pm.size_eq
theorem Go.mem{st:SortSt}(h:Go b κ st){x:Keyed}(e:(arrOf st)[i]?=some x):x∈b.toList/\i<b.size:=by
 obtain⟨hi,rfl⟩:=Y2.mp e;exact⟨(M1.mp h.pm).mem_iff.mp (by simp),by rw[← h.sz];exact hi⟩
def Up(cmp:Keyed->Keyed->Bool)(xs:Array Keyed)(n:Nat):Prop:=∀i j x y,i<j->j<n->xs[i]?=some x->xs[j]?=some y->cmp x y=true
variable(C:Cp P w A E s b κ cmp)
include C
end
def PairAt(h:Heap)(v:Value)(q:Int×Int):Prop:=∃a o n t u,v=.ref a/\h.get? a=some o/\o.cls=.type "tuple"/\o.data=.seq #[.int q.1 t,.int q.2 u] n
theorem PairAt.one{h:Heap}{r:Int×Int}(x:PairAt h v q)(y:PairAt h v r):q=r:=by
 obtain⟨a,o,n,t,u,e,e1,_,e2⟩:=x;obtain⟨a',o',n',t',u',f,f1,_,f2⟩:=y;rw[e] at f;cases f;rw[e1] at f1;cases f1;rw[e2] at f2;injection f2 with f2 _
 have f3:=D1 Array.toList f2;simp only at f3;injection f3 with g1 g2
 injection g1 with g1 _
 injection g2 with g2 _
 injection g2 with g2 _
 exact L7 g1 g2
def lt2(a b:Int×Int):Bool:=decide (a.1<b.1∨(a.1=b.1/\a.2<b.2))
theorem xn0{a b:Int×Int}:lt2 a b=true↔(a.1<b.1∨(a.1=b.1/\a.2<b.2)):=by unfold lt2;exact decide_eq_true_iff
open Classical in
def pk(h:Heap)(v:Value):Int×Int:=if e:∃q,PairAt h v q then e.choose else (0,0)
theorem xt0{h:Heap}(x:PairAt h v q):pk h v=q:=by
 unfold pk;have e:∃q,PairAt h v q:=⟨q,x⟩;rw[dif_pos e];exact e.choose_spec.one x
section
variable{P:Program}{w:World}{s:Shared}
theorem l90(f:Bool)(x y:Value):keyLt' (tuples' f) x y=(do
  let xs ← Builtin.List.listItems x;let ys ← Builtin.List.listItems y
  for ((p,q),i) in (xs.toList.zip ys.toList).zipIdx do
   if !(← eqBool p q) then return ← oneLt' (f&&i==0) p q
  return decide (xs.size<ys.size)):=rfl
theorem uh0{f:Bool}{a c:Int}{t u:Tok}{Q:Bool->Shared->Prop}(h:Q (decide (a<c)) s):wpAny (model P w) A (oneLt' f (.int a t) (.int c u)) Q E s:=by
 cases f with
 | true=>exact oneLt_int h
 | false =>
  rw[oneLt'_eq];rw[if_neg (by simp)];refine A0 (wpAny_richCompare_same (L8 s a t) (L8 s c u) slot_int_lt (call_int_lt ⟨(λz=>nomatch z),?_⟩));exact L5 h
theorem ui0{f:Bool}{x:Value}{r:Int×Int}{Q:Bool->Shared->Prop}(hx:PairAt s.heap x q)(hy:PairAt s.heap y r)(h:Q (lt2 q r) s):wpAny (model P w) A (keyLt' (tuples' f) x y) Q E s:=by
 obtain⟨a,o,n,t,u,rfl,e1,_,e2⟩:=hx;obtain⟨a',o',n',t',u',rfl,f1,_,f2⟩:=hy;rw[l90];refine A0 (Y3 e1 e2 (A0 (Y3 f1 f2 ?_)));simp only[List.zip_cons_cons,List.zip_nil_right,List.zipIdx_cons,List.zipIdx_nil,List.forIn_cons,List.forIn_nil];refine A0 (A0 (A0 (i6 ?_)))
 by_cases e:q.1=r.1
 ·rw[show (q.1==r.1)=true by simpa using e]
  rw[if_neg (by simp)];refine A1 (A0 (A0 (i6 ?_)))
  by_cases e':q.2=r.2
  ·rw[show (q.2==r.2)=true by simpa using e']
   rw[if_neg (by simp)];refine A1 (A1 (A1 ?_));have:lt2 q r=false:=by unfold lt2;rw[e,e'];simp
   rw[this] at h;exact h
  ·rw[show (q.2==r.2)=false by simpa using e']
   rw[if_pos (by rfl)];refine A0 (uh0 (A1 (A1 (A1 ?_))));have:lt2 q r=decide (q.2<r.2):=by unfold lt2;rw[e];simp
   rw[this] at h;exact h
 ·rw[show (q.1==r.1)=false by simpa using e]
  rw[if_pos (by rfl)];refine A0 (uh0 (A1 (A1 (A1 ?_))));have:lt2 q r=decide (q.1<r.1):=by unfold lt2;simp[e]
  rw[this] at h;exact h
end
structure Prs(h:Heap)(vs:List Value):Prop where
 all:∀v∈vs,∃q,PairAt h v q
 nd:(vs.map (pk h)).Nodup
def xa0(h:Heap)(x y:Keyed):Bool:=lt2 (pk h x.1) (pk h y.1)
section
variable{P:Program}{w:World}{s:Shared}
theorem ax0{b:Array Keyed}{f:Bool}(hb:∀x∈b.toList,∃q,PairAt s.heap x.1 q)(st:SortSt)(i j:Nat)(x y:Keyed)(Q:Option Bool->SortSt->Prop)(hg:Go b (tuples' f) st)(ei:(arrOf st)[i]?=some x)(ej:(arrOf st)[j]?=some y)(k:Q (some (xa0 s.heap x y)) st):wpS (model P w) A E s (ltAt' i j) Q st:=by
 obtain⟨q,hq⟩:=hb x (hg.mem ei).1;obtain⟨r,hr⟩:=hb y (hg.mem ej).1;unfold xa0 at k;rw[xt0 hq,xt0 hr] at k;rw[ltAt'_eq];refine A3 (D2 ?_);show wpS _ _ _ _ (elem' (arrOf st) i>>=λx=>elem' (arrOf st) j>>=λy=>lt' x y) Q st;rw[elem'_eq,elem'_eq,ei,ej];refine A3 (A2 (A3 (A2 ?_)));rw[lt'_eq];refine A3 (D2 ?_);rw[hg.kd];exact A3 (L3 (L1 (ui0 hq hr ⟨rfl,A2 k⟩)))
theorem cpP(hv:Prs s.heap vs)(f:Bool):Cp P w A E s (pairsOf vs) (tuples' f) (xa0 s.heap):=by
 have el:∀x∈(pairsOf vs).toList,x.1∈vs/\x=(x.1,x.1):=λx hx=>by
  rw[pairsOf_toList] at hx;obtain⟨i,hi,e⟩:=E5.mp hx;rw[List.getElem_zip] at e;have e1:x.1=vs[i]'(by rw[List.length_zip] at hi;omega):=by rw[← e]
  rw[e1];exact⟨C8 _,e.symm⟩
 have hb:∀x∈(pairsOf vs).toList,∃q,PairAt s.heap x.1 q:=λx hx=>hv.all _ (el x hx).1
 have J:vs.Nodup:=by
  refine D6.mpr λi j hi hj F e=>?_
  have:=D6.mp hv.nd i j (by simpa using hi) (by simpa using hj) F;rw[List.getElem_map,List.getElem_map,e] at this;exact this rfl
 refine⟨ax0 hb,?_,λx _ y _ z _ h1 h2=>?_,λx hx y hy O h=>?_⟩
 ·rw[pairsOf_toList]
  refine D6.mpr λi j hi hj F e=>?_
  rw[List.getElem_zip,List.getElem_zip] at e;have e1:=D1 Prod.fst e;simp only[List.length_zip] at hi hj;exact D6.mp J i j (by omega) (by omega) F e1
 ·unfold xa0 at *
  rw[xn0] at *;omega
 ·unfold xa0 at *
  have M:pk s.heap x.1≠pk s.heap y.1:=λe=>by
   apply O;obtain⟨mx,ex⟩:=el x hx;obtain⟨my,ey⟩:=el y hy;obtain⟨i,hi,e1⟩:=E5.mp mx;obtain⟨j,hj,e2⟩:=E5.mp my;have F:i=j:=by
    rcases Nat.lt_trichotomy i j with q|q|q
    ·have:=D6.mp hv.nd i j (by simpa using hi) (by simpa using hj) q
     rw[List.getElem_map,List.getElem_map,e1,e2] at this;exact absurd e this
    ·exact q
    ·have:=D6.mp hv.nd j i (by simpa using hj) (by simpa using hi) q
     rw[List.getElem_map,List.getElem_map,e1,e2] at this;exact absurd e.symm this
   subst F;rw[ex,ey,← e1,← e2]
  rw[xn0];have h':¬((pk s.heap y.1).1<(pk s.heap x.1).1∨((pk s.heap y.1).1=(pk s.heap x.1).1/\(pk s.heap y.1).2<(pk s.heap x.1).2)):=λz=>by
   rw[xn0.mpr z] at h;cases h
  have:(pk s.heap x.1).1≠(pk s.heap y.1).1∨(pk s.heap x.1).2≠(pk s.heap y.1).2:=by
   by_cases q1:(pk s.heap x.1).1=(pk s.heap y.1).1
   ·exact .inr λq2=>M (L7 q1 q2)
   ·exact .inl q1
  omega
theorem cc0{Q:Option Value->Shared->Prop}(hv:PairAt s.heap v q)(h:∀t,Q (some (.int q.1 t)) s):wpAny (model P w) A (firstOfTuple' v) Q E s:=by
 obtain⟨a,o,n,t,u,rfl,e1,e2,e3⟩:=hv;show wpAny _ _ (typeOf (.ref a)>>=λT=>if (T != .type "tuple")=true then pure none else do return (← Builtin.List.listItems (.ref a))[0]?) _ _ _;refine A0 (N9 (T := "tuple") ⟨o,e1,e2⟩ ?_);rw[if_neg (by simp)];exact A0 (Y3 e1 e3 (A1 (h t)))
theorem firstsP:∀{vs:List Value} {Q:List (Option Value)->Shared->Prop},(∀v∈vs,∃q,PairAt s.heap v q)->(∀(fs:List Value) (ns:List Int),IntsAre fs ns->fs.length=vs.length->Q (fs.map some) s)->wpAny (model P w) A (vs.mapM firstOfTuple') Q E s
 | [],Q,_,h=>by
  rw[List.mapM_nil];exact A1 (h [] [] .nil rfl)
 | v::vs,Q,hv,h=>by
  rw[List.mapM_cons];obtain⟨q,hq⟩:=hv v A5;refine A0 (cc0 hq λt=>A0 (firstsP (λu hu=>hv u (B0 _ hu)) λfs ns a c=>A1 ?_));exact h (.int q.1 t::fs) (q.1::ns) (.cons q.1 t a) (by rw[List.length_cons,List.length_cons,c])
theorem co0{v₁ v₂:Value}{r:List Value}{Q:SortKind->Shared->Prop}(hv:∀v∈v₁::v₂::r,∃q,PairAt s.heap v q)(h:Q (tuples' true) s):wpAny (model P w) A (keyKind' (v₁::v₂::r).toArray) Q E s:=by
 rw[keyKind'_eq,List.mapM_toArray];refine A0 ?_;rw[map_eq_pure_bind];refine A0 (firstsP hv λfs ns a c=>A1 ?_);have h1:((fs.map some).toArray.all λx=>x.isSome)=true:=by simp
 rw[if_pos h1];have h2:(fs.map some).toArray.filterMap id=fs.toArray:=by
  simp
 refine A0 (D8 ?_);rw[h2,oneTypeOnly'_eq,List.mapM_toArray,mapM_typeOf_ints a];simp only[map_pure,pure_bind];obtain⟨f0,fr,rfl⟩:∃f0 fr,fs=f0::fr:=by
  cases fs with
  | nil=>simp at c
  | cons f0 fr=>exact⟨f0,fr,rfl⟩
 have h3:((f0::fr).map λ_=>Value.type "int").toArray[0]?=some (.type "int"):=by simp
 rw[h3];have h4:(((f0::fr).map λ_=>Value.type "int").toArray.all λx=>x==Value.type "int")=true:=by
  simp only[List.all_toArray,List.all_map,List.all_eq_true];exact λ_ _=>rfl
 simp only[h4,if_true,pure_bind];exact A1 h
end
section
variable{P:Program}{w:World}{s:Shared}
theorem PairAt.to{h:Heap}(x:PairAt h v q)(k:∀a o,h.get? a=some o->o.cls=.type "tuple"->h'.get? a=some o):PairAt h' v q:=by
 obtain⟨a,o,n,t,u,e,e1,e2,e3⟩:=x;exact⟨a,o,n,t,u,e,k a o e1 e2,e2,e3⟩
theorem Prs.to{h:Heap}(x:Prs h vs)(k:∀a o,h.get? a=some o->o.cls=.type "tuple"->h'.get? a=some o):Prs h' vs/\∀v∈vs,pk h' v=pk h v:=by
 have e:∀v∈vs,pk h' v=pk h v:=λv hv=>by
  obtain⟨q,hq⟩:=x.all v hv;rw[xt0 hq,xt0 (hq.to k)]
 refine⟨⟨λv hv=>?_,?_⟩,e⟩
 ·obtain⟨q,hq⟩:=x.all v hv
  exact⟨q,hq.to k⟩
 ·rw[List.map_congr_left e]
  exact x.nd
end
end SoT
namespace SoT
def le2(a b:Int×Int):Bool:=!lt2 b a
def srt(ps:List (Int×Int)):List (Int×Int):=ps.mergeSort le2
theorem yi0{a b:Int×Int}:le2 a b=true↔¬(b.1<a.1∨(b.1=a.1/\b.2<a.2)):=by
 unfold le2 lt2;rw[Bool.not_eq_true',decide_eq_false_iff_not]
theorem eh0(a b c:Int×Int)(h1:le2 a b=true)(h2:le2 b c=true):le2 a c=true:=by rw[yi0] at *;omega
theorem c60(a b:Int×Int):(le2 a b||le2 b a)=true:=by rw[Bool.or_eq_true,yi0,yi0];omega
theorem dq0{a b:Int×Int}(h1:le2 a b=true)(h2:le2 b a=true):a=b:=by
 rw[yi0] at *;exact L7 (by omega) (by omega)
theorem oy0:∀{l m:List (Int×Int)},l.Perm m->l.Pairwise (λa b=>le2 a b=true)->m.Pairwise (λa b=>le2 a b=true)->l=m
 | [],m,h,_,_=>by rw[List.nil_perm.mp h]
 | a::l,[],h,_,_=>by exact absurd (List.perm_nil.mp h) (by simp)
 | a::l,b::m,h,h1,h2=>by
  have self:∀x:Int×Int,le2 x x=true:=λx=>by rw[yi0];omega
  have F:le2 a b=true:=by
   rcases B4.mp (h.mem_iff.mpr (A5 (a:=b) (l:=m))) with e|e
   ·rw[e];exact self a
   ·exact P8 h1 e
  have J:le2 b a=true:=by
   rcases B4.mp (h.mem_iff.mp (A5 (a:=a) (l:=l))) with e|e
   ·rw[e];exact self b
   ·exact P8 h2 e
  have e:=dq0 F J;subst e;rw[oy0 (List.Perm.cons_inv h) (d3.mp h1).2 (d3.mp h2).2]
theorem u40(ps:List (Int×Int)):(srt ps).Perm ps:=List.mergeSort_perm ps le2
theorem e90(ps:List (Int×Int)):(srt ps).Pairwise (λa b=>le2 a b=true):=List.pairwise_mergeSort eh0 c60 ps
theorem d10{l ps:List (Int×Int)}(hp:l.Perm ps)(h:l.Pairwise (λa b=>lt2 a b=true)):l=srt ps :=
 oy0 (hp.trans (u40 ps).symm) (h.imp λ{a b} z=>by rw[xn0] at z;rw[yi0];omega) (e90 ps)
end SoT
namespace L2
open Spec PyProof.Rows SoT
def PrV(H:Hp):List V->List (Int×Int)->Prop
 | [],[]=>True
 | v::vs,q::qs=>(∃a,v=.ref a/\H a=some (.tup [.int q.1,.int q.2]))/\PrV H vs qs
 | _,_=>False
section
variable{s:Shared}
theorem nc0(I:Inv X pins σ H s)(h:H a=some (.tup [.int q.1,.int q.2])):PairAt s.heap (.ref a) q:=by
 obtain⟨its,rv,⟨o,e1,e2,n,e3⟩,_⟩:=I.tuple (X:=X) (xs:=[.int q.1,.int q.2]) (.inl (.inl h));cases rv with
 | cons r1 rv =>
  cases rv with
  | cons r2 rv =>
   cases rv;obtain⟨t,rfl⟩:=r1;obtain⟨u,rfl⟩:=r2;exact⟨a,o,n,t,u,rfl,e1,e2,e3⟩
theorem lk0(I:Inv X pins σ H s):∀{ys:List V} {its:List Value} {ps:List (Int×Int)},Vals ys its->PrV H ys ps->its.map (pk s.heap)=ps/\(∀v∈its,∃q,PairAt s.heap v q)/\∀v∈its,∃a,v=.ref a/\V.ref a∈ys/\H a=some (.tup [.int (pk s.heap v).1,.int (pk s.heap v).2])
 | [],_,[],.nil,_=>⟨rfl,(λv h=>by cases h),(λv h=>by cases h)⟩
 | [],_,_::_,.nil,h=>h.elim
 | y::ys,_,[],.cons _ _,h=>h.elim
 | y::ys,_,q::ps,.cons r rv,h=>by
  obtain⟨⟨a,rfl,ha⟩,h2⟩:=h;cases (show _=Value.ref a from r);obtain⟨i1,i2,i3⟩:=lk0 I rv h2;have e:=xt0 (nc0 I ha);refine⟨by rw[List.map_cons,i1,e],λv hv=>?_,λv hv=>?_⟩
  ·rcases B4.mp hv with rfl|hv
   ·exact⟨q,nc0 I ha⟩
   ·exact i2 v hv
  ·rcases B4.mp hv with rfl|hv
   ·exact⟨a,rfl,A5,by rw[e];exact ha⟩
   ·obtain⟨b,e1,e2,e3⟩:=i3 v hv
    exact⟨b,e1,B0 _ e2,e3⟩
theorem po0{h:Heap}{ys:List V}:∀{vs:List Value},(∀v∈vs,∃a,v=.ref a/\V.ref a∈ys/\H a=some (.tup [.int (pk h v).1,.int (pk h v).2]))->∃zs,Vals zs vs/\PrV H zs (vs.map (pk h))/\∀z∈zs,z∈ys
 | [],_=>⟨[],.nil,trivial,λz hz=>by cases hz⟩
 | v::vs,hv=>by
  obtain⟨a,rfl,m,e⟩:=hv v A5;obtain⟨zs,z1,z2,z3⟩:=po0 (vs:=vs) λu hu=>hv u (B0 _ hu)
  exact⟨.ref a::zs,.cons rfl z1,⟨⟨a,rfl,e⟩,z2⟩,λz hz=>by
   rcases B4.mp hz with rfl|hz
   ·exact m
   ·exact z3 z hz⟩
end
end L2
namespace DL
open Spec PyProof.Rows L2 SoT
def pD(q:Int×Int):D:=.tup [.int q.1,.int q.2]
def v00:List D->Option (List (Int×Int))
 | []=>some []
 | .tup [.int i,.int j]::ds=>(v00 ds).map λr=>(i,j)::r
 | _=>none
theorem ou0:∀ps:List (Int×Int),v00 (ps.map pD)=some ps
 | []=>rfl
 | q::ps=>by show (v00 (ps.map pD)).map _=_;rw[ou0 ps];rfl
theorem lv0:∀{ds:List D} {ys:List V} {ps:List (Int×Int)},Rps K H B ds ys->v00 ds=some ps->PrV H ys ps/\∀y∈ys,∃a,y=.ref a/\¬B a
 | [],ys,ps,r,h=>by
  rw[n6] at r;subst r;cases h;exact⟨trivial,λy hy=>by cases hy⟩
 | d::ds,ys,ps,r,h=>by
  rw[o7] at r;obtain⟨x,t,rfl,r1,r2⟩:=r;unfold v00 at h;split at h
  ·rename_i e;cases e
  ·rename_i i j ds' e
   injection e with e1 e2
   subst e1;subst e2;obtain⟨rs,e3,rfl⟩:=P7.mp h;obtain⟨i1,i2⟩:=lv0 r2 e3;rw[X3] at r1;obtain⟨a,xs,rfl,hq,rr⟩:=r1;rw[o7] at rr;obtain⟨x1,t1,rfl,q1,rr⟩:=rr;rw[o7] at rr;obtain⟨x2,t2,rfl,q2,rr⟩:=rr;rw[n6] at rr;subst rr;rw[j4] at q1 q2;subst q1;subst q2;exact⟨⟨⟨a,rfl,hq.2⟩,i1⟩,λy hy=>by
    rcases B4.mp hy with rfl|hy
    ·exact⟨a,rfl,hq.1⟩
    ·exact i2 y hy⟩
  ·cases h
theorem ph0:∀{zs:List V} {qs:List (Int×Int)} {a:Addr},PrV H zs qs->V.ref a∈zs->H a≠none
 | [],_,_,_,hz=>by cases hz
 | _::_,[],_,h,_=>h.elim
 | z::zs,q::qs,a,h,hz=>by
  obtain⟨⟨b,e,hb⟩,h2⟩:=h;rcases B4.mp hz with e2|hz
  ·rw[e] at e2
   cases e2;rw[hb];exact λz=>nomatch z
  ·exact ph0 h2 hz
theorem k90:∀{zs:List V} {qs:List (Int×Int)},PrV H zs qs->(∀z∈zs,∃a,z=.ref a/\¬B a)->Rps K H B (qs.map pD) zs
 | [],[],_,_=>by rw[List.map_nil,n6]
 | [],_::_,h,_=>h.elim
 | _::_,[],h,_=>h.elim
 | z::zs,q::qs,h,hb=>by
  obtain⟨⟨a,rfl,ha⟩,h2⟩:=h;rw[List.map_cons,o7];refine⟨_,_,rfl,?_,k90 h2 λy hy=>hb y (B0 _ hy)⟩;obtain⟨b,e,nb⟩:=hb _ A5;cases e;unfold pD;rw[X3];refine⟨a,_,rfl,⟨nb,ha⟩,?_⟩;rw[o7];refine⟨_,_,rfl,by rw[j4],?_⟩;rw[o7];exact⟨_,_,rfl,by rw[j4],by rw[n6]⟩
end DL
namespace SoT
open PyProof.Rows
def Q7:Bool->Keyed->Array Keyed->Nat->Nat->Nat->StateT SortSt Sem (Option Nat):=sortPriv% PySem.Builtin.gallop
def u30:Array Keyed->Array Keyed->StateT SortSt Sem (Array Keyed):=sortPriv% PySem.Builtin.mergeLo
def ub0:Array Keyed->Array Keyed->StateT SortSt Sem (Array Keyed):=sortPriv% PySem.Builtin.mergeHi
theorem ng0(left:Bool)(key:Keyed)(arr:Array Keyed)(base n hint:Nat):Q7 left key arr base n hint=(do
 let beyond (i:Nat):StateT SortSt Sem (Option Bool):=do
  let x ← elem' arr (base+i)
  if left then lt' x key else return (← lt' key x).map (!·)
 let mut lastofs:=0
 let mut ofs:=1
 let mut lo:=0
 let mut hi:=0
 let some right ← beyond hint|return none
 if right then
  let maxofs:=n - hint
  for _ in [0:n] do
   if ofs ≥ maxofs then break
   let some more ← beyond (hint+ofs)|return none
   if !more then break
   lastofs:=ofs
   ofs:=2*ofs+1
  lo:=hint+lastofs+1
  hi:=hint+min ofs maxofs
 else
  let maxofs:=hint+1
  for _ in [0:n] do
   if ofs ≥ maxofs then break
   let some found ← beyond (hint - ofs)|return none
   if found then break
   lastofs:=ofs
   ofs:=2*ofs+1
  lo:=hint+1 - min ofs maxofs
  hi:=hint - lastofs
 for _ in [0:n] do
  if lo ≥ hi then break
  let m:=lo+(hi - lo)/2
  let some more ← beyond m|return none
  if more then lo:=m+1 else hi:=m
 return some hi):=rfl
section
variable{P:Program}{w:World}{s:Shared}{b:Array Keyed}{κ:SortKind}{cmp:Keyed->Keyed->Bool}
structure Gn(b:Array Keyed)(κ:SortKind)(st:SortSt):Prop where
 kd:kindOf st=κ
 pm:(arrOf st).Perm b
 fa:failedOf st=none
structure Cn(P:Program)(w:World)(A:Around)(E:Value->Shared->Prop)(s:Shared)(b:Array Keyed)(κ:SortKind)(cmp:Keyed->Keyed->Bool):Prop where
 ask:∀(st:SortSt) (x y:Keyed) (Q:Option Bool->SortSt->Prop),kindOf st=κ->x∈b.toList->y∈b.toList->Q (some (cmp x y)) st->wpS (model P w) A E s (lt' x y) Q st
 nd:b.toList.Nodup
 tr:∀x∈b.toList,∀y∈b.toList,∀z∈b.toList,cmp x y=true->cmp y z=true->cmp x z=true
 to:∀x∈b.toList,∀y∈b.toList,x≠y->cmp y x=false->cmp x y=true
 as:∀x∈b.toList,∀y∈b.toList,cmp x y=true->cmp y x=false
def bey(left:Bool)(key:Keyed)(arr:Array Keyed)(base i:Nat):StateT SortSt Sem (Option Bool):=do
 let x ← elem' arr (base+i)
 if left then lt' x key else return (← lt' key x).map (!·)
theorem eg0(C:Cn P w A E s b κ cmp){st:SortSt}(hk:kindOf st=κ)(left:Bool){key x:Keyed}{arr:Array Keyed}{base:Nat}(h:arr[base+i]?=some x)(mx:x∈b.toList)(mk:key∈b.toList)(hn:x≠key){Q:Option Bool->SortSt->Prop}(k:Q (some (cmp x key)) st):wpS (model P w) A E s (bey left key arr base i) Q st:=by
 unfold bey;rw[elem'_eq,h];refine A3 (A2 ?_);cases left with
 | true=>exact C.ask _ _ _ _ hk mx mk k
 | false =>
  refine A3 (C.ask _ _ _ _ hk mk mx (A2 ?_));show Q (some (!cmp key x)) st;have:(!cmp key x)=cmp x key:=by
   cases e:cmp key x with
   | true=>rw[C.as _ mk _ mx e];rfl
   | false=>rw[C.to _ mx _ mk hn e];rfl
  rw[this];exact k
structure Sr(P:Program)(w:World)(A:Around)(E:Value->Shared->Prop)(s:Shared)(B:Nat->StateT SortSt Sem (Option Bool))(pos:Nat->Bool)(n:Nat)(st:SortSt):Prop where
 ask:∀i,i<n->∀Q:Option Bool->SortSt->Prop,Q (some (pos i)) st->wpS (model P w) A E s (B i) Q st
 mono:∀i j,i<=j->j<n->pos j=true->pos i=true
theorem bin{B:Nat->StateT SortSt Sem (Option Bool)}{pos:Nat->Bool}{st:SortSt}(S:Sr P w A E s B pos n st){lo hi:Nat}(h1:lo<=hi)(h2:hi<=n)(h3:∀i,i<lo->pos i=true)(h4:∀i,hi<=i->i<n->pos i=false) :
  wpS (model P w) A E s (forIn [:n] ((none,lo,hi):Option (Option Nat)×Nat×Nat) λx __s =>
    if __s.snd.fst ≥ __s.snd.snd then pure (ForInStep.done (none,__s.snd.fst,__s.snd.snd))
    else do
     let __x ← B (__s.snd.fst+(__s.snd.snd - __s.snd.fst)/2)
     match __x with
     | some more=>if more=true then pure (ForInStep.yield (none,__s.snd.fst+(__s.snd.snd - __s.snd.fst)/2+1,__s.snd.snd)) else pure (ForInStep.yield (none,__s.snd.fst,__s.snd.fst+(__s.snd.snd - __s.snd.fst)/2))
     | x=>pure (ForInStep.done (some none,__s.snd.fst,__s.snd.snd))) (λc t=>t=st/\∃r,c=(none,r,r)/\r<=n/\(∀i,i<r->pos i=true)/\∀i,r<=i->i<n->pos i=false) st:=by
 refine(C0 (I:=λx c t=>t=st/\∃lo hi,c=(none,lo,hi)/\lo<=hi/\hi<=n/\hi - lo<=n - x/\(∀i,i<lo->pos i=true)/\∀i,hi<=i->i<n->pos i=false)
  (Q:=λc t=>t=st/\∃r,c=(none,r,r)/\r<=n/\(∀i,i<r->pos i=true)/\∀i,r<=i->i<n->pos i=false) (λx c t _ hx hI=>?_) (λc t hI=>?_) ⟨rfl,lo,hi,rfl,h1,h2,by omega,h3,h4⟩)
 ·obtain⟨e1,lo,hi,e2,a1,a2,a3,a4,a5⟩:=hI
  subst e1;subst e2;dsimp only
  by_cases hge:lo ≥ hi
  ·rw[if_pos hge]
   have:lo=hi:=by omega
   subst this;exact A2 ⟨rfl,lo,rfl,a2,a4,a5⟩
  ·rw[if_neg hge]
   refine A3 (S.ask _ (by omega) _ ?_);dsimp only;cases hp:pos (lo+(hi - lo)/2) with
   | true =>
    rw[if_pos rfl];exact A2 ⟨rfl,_,_,rfl,by omega,a2,by omega,λi F=>S.mono i _ (by omega) (by omega) hp,a5⟩
   | false =>
    rw[if_neg (by simp)];refine A2 ⟨rfl,_,_,rfl,by omega,by omega,by omega,a4,λi F hn=>?_⟩;cases hq:pos i with
    | false=>rfl
    | true=>rw[S.mono _ i F hn hq] at hp;cases hp
 ·obtain⟨e1,lo,hi,e2,a1,a2,a3,a4,a5⟩:=hI
  subst e1;subst e2;have:lo=hi:=by omega
  subst this;exact⟨rfl,lo,rfl,a2,a4,a5⟩
theorem gal{left:Bool}{key:Keyed}{arr:Array Keyed}{base hint:Nat}{pos:Nat->Bool}{st:SortSt}(S:Sr P w A E s (bey left key arr base) pos n st)(hh:hint<n){Q:Option Nat->SortSt->Prop}
  (k:∀r,r<=n->(∀i,i<r->pos i=true)->(∀i,r<=i->i<n->pos i=false)->Q (some r) st):wpS (model P w) A E s (Q7 left key arr base n hint) Q st:=by
 rw[ng0];have J:∀i j,i<=j->j<n->pos i=false->pos j=false:=λi j h1 h2 h3=>by
  cases hq:pos j with
  | false=>rfl
  | true=>rw[S.mono i j h1 h2 hq] at h3;cases h3
 refine A3 (S.ask hint hh _ ?_);dsimp only;cases hp:pos hint with
 | true =>
  rw[if_pos rfl];refine A3 (B3 (C0 (I:=λx c t=>t=st/\∃lo F,c=(none,lo,F)/\lo<F/\hint+lo<n/\pos (hint+lo)=true/\x+1<=F)
   (Q:=λc t=>t=st/\∃lo F,c=(none,lo,F)/\lo<F/\hint+lo<n/\pos (hint+lo)=true/\(n - hint<=F∨(hint+F<n/\pos (hint+F)=false))) (λx c t _ hx hI=>?_) (λc t hI=>?_) ⟨rfl,0,1,rfl,by omega,by omega,hp,by omega⟩) λc t hI=>?_)
  ·obtain⟨e1,lo,F,e2,a1,a2,a3,a4⟩:=hI
   subst e1;subst e2;dsimp only
   by_cases hge:F ≥ n - hint
   ·rw[if_pos hge]
    exact A2 ⟨rfl,lo,F,rfl,a1,a2,a3,.inl hge⟩
   ·rw[if_neg hge]
    refine A3 (S.ask (hint+F) (by omega) _ ?_);dsimp only;cases hq:pos (hint+F) with
    | false=>exact A2 ⟨rfl,lo,F,rfl,a1,a2,a3,.inr ⟨by omega,hq⟩⟩
    | true=>exact A2 ⟨rfl,F,2*F+1,rfl,by omega,by omega,hq,by omega⟩
  ·obtain⟨e1,lo,F,e2,a1,a2,a3,a4⟩:=hI
   exact⟨e1,lo,F,e2,a1,a2,a3,.inl (by omega)⟩
  ·obtain⟨e1,lo,F,e2,a1,a2,a3,a4⟩:=hI
   subst e1;subst e2;dsimp only;refine A3 (B3 (bin S (lo:=hint+lo+1) (hi:=hint+min F (n - hint)) (by omega) (by omega) (λi hi=>S.mono i _ (by omega) a2 a3) (λi h1 h2=>by
    rcases a4 with a4|⟨a4,a5⟩
    ·omega
    ·exact J _ i (by omega) h2 a5)) λc t hI=>?_)
   obtain⟨e1,r,e2,b2,b4,b5⟩:=hI;subst e1;subst e2;exact A2 (k r b2 b4 b5)
 | false =>
  rw[if_neg (by simp)];refine A3 (B3 (C0 (I:=λx c t=>t=st/\∃lo F,c=(none,lo,F)/\lo<F/\lo<=hint/\pos (hint - lo)=false/\x+1<=F)
   (Q:=λc t=>t=st/\∃lo F,c=(none,lo,F)/\lo<F/\lo<=hint/\pos (hint - lo)=false/\(hint+1<=F∨(F<=hint/\pos (hint - F)=true))) (λx c t _ hx hI=>?_) (λc t hI=>?_) ⟨rfl,0,1,rfl,by omega,by omega,hp,by omega⟩) λc t hI=>?_)
  ·obtain⟨e1,lo,F,e2,a1,a2,a3,a4⟩:=hI
   subst e1;subst e2;dsimp only
   by_cases hge:F ≥ hint+1
   ·rw[if_pos hge]
    exact A2 ⟨rfl,lo,F,rfl,a1,a2,a3,.inl hge⟩
   ·rw[if_neg hge]
    refine A3 (S.ask (hint - F) (by omega) _ ?_);dsimp only;cases hq:pos (hint - F) with
    | true=>exact A2 ⟨rfl,lo,F,rfl,a1,a2,a3,.inr ⟨by omega,hq⟩⟩
    | false=>exact A2 ⟨rfl,F,2*F+1,rfl,by omega,by omega,hq,by omega⟩
  ·obtain⟨e1,lo,F,e2,a1,a2,a3,a4⟩:=hI
   exact⟨e1,lo,F,e2,a1,a2,a3,.inl (by omega)⟩
  ·obtain⟨e1,lo,F,e2,a1,a2,a3,a4⟩:=hI
   subst e1;subst e2;dsimp only;refine A3 (B3 (bin S (lo:=hint+1 - min F (hint+1)) (hi:=hint - lo) (by omega) (by omega) (λi hi=>by
    rcases a4 with a4|⟨a4,a5⟩
    ·omega
    ·exact S.mono i _ (by omega) (by omega) a5) (λi h1 h2=>J _ i h1 h2 a3)) λc t hI=>?_)
   obtain⟨e1,r,e2,b2,b4,b5⟩:=hI;subst e1;subst e2;exact A2 (k r b2 b4 b5)
end
def z00(st:SortSt)(g:Nat):SortSt:=SortSt.mk' (kindOf st) (arrOf st) (pendingOf st) g (failedOf st)
theorem o40(a b:Array Keyed):u30 a b=(do
 rule "list.sort.merge-lo"
 let total:=a.size+b.size
 let done (out:Array Keyed) (ia ib:Nat):=out++a.extract ia a.size++b.extract ib b.size
 let lastOfA (out:Array Keyed) (ia ib:Nat):=out++b.extract ib b.size++a.extract ia a.size
 let mut out:Array Keyed:=#[← elem' b 0]
 let mut ia:=0
 let mut ib:=1
 if ib==b.size then return done out ia ib
 if ia+1==a.size then return lastOfA out ia ib
 let mut minGallop:=gallopOf (← get)
 for _ in [0:total] do
  let mut acount:=0
  let mut bcount:=0
  for _ in [0:total] do
   let some bWins ← lt' (← elem' b ib) (← elem' a ia)|return done out ia ib
   if bWins then
    out:=out.push (← elem' b ib);ib:=ib+1;bcount:=bcount+1;acount:=0
    if ib==b.size then return done out ia ib
    if bcount ≥ minGallop then break
   else
    out:=out.push (← elem' a ia);ia:=ia+1;acount:=acount+1;bcount:=0
    if ia+1==a.size then return lastOfA out ia ib
    if acount ≥ minGallop then break
  rule "list.sort.gallop"
  minGallop:=minGallop+1
  for _ in [0:total] do
   if minGallop > 1 then minGallop:=minGallop - 1
   modify λs=>z00 s minGallop
   let some k ← Q7 false (← elem' b ib) a ia (a.size - ia) 0|return done out ia ib
   acount:=k
   if k > 0 then
    out:=out++a.extract ia (ia+k);ia:=ia+k
    if ia+1==a.size then return lastOfA out ia ib
    if ia==a.size then return done out ia ib
   out:=out.push (← elem' b ib);ib:=ib+1
   if ib==b.size then return done out ia ib
   let some k ← Q7 true (← elem' a ia) b ib (b.size - ib) 0|return done out ia ib
   bcount:=k
   if k > 0 then
    out:=out++b.extract ib (ib+k);ib:=ib+k
    if ib==b.size then return done out ia ib
   out:=out.push (← elem' a ia);ia:=ia+1
   if ia+1==a.size then return lastOfA out ia ib
   if acount<7&&bcount<7 then break
  minGallop:=minGallop+1
  modify λs=>z00 s minGallop
 unsupported "internal:list.sort.merge-bound"):=rfl
section
variable{P:Program}{w:World}{s:Shared}{b:Array Keyed}{κ:SortKind}{cmp:Keyed->Keyed->Bool}
structure Mg(b:Array Keyed)(cmp:Keyed->Keyed->Bool)(T out la lb:List Keyed):Prop where
 pm:(out++(la++lb)).Perm T
 sa:(out++la).Pairwise λx y=>cmp x y=true
 sb:(out++lb).Pairwise λx y=>cmp x y=true
 me:∀x∈T,x∈b.toList
 nd:T.Nodup
theorem Mg.flip{T out la lb:List Keyed}(h:Mg b cmp T out la lb):Mg b cmp T out lb la:=⟨(List.perm_append_comm.append_left _).trans h.pm,h.sb,h.sa,h.me,h.nd⟩
theorem Mg.ma{T out la lb:List Keyed}(h:Mg b cmp T out la lb){x:Keyed}(hx:x∈la):x∈b.toList:=h.me x (h.pm.mem_iff.mp (C7 _ (G0 _ hx)))
theorem Mg.mb{T out la lb:List Keyed}(h:Mg b cmp T out la lb){x:Keyed}(hx:x∈lb):x∈b.toList:=h.me x (h.pm.mem_iff.mp (C7 _ (C7 _ hx)))
theorem Mg.move(tr:∀x∈b.toList,∀y∈b.toList,∀z∈b.toList,cmp x y=true->cmp y z=true->cmp x z=true){T out l1 l2 lb:List Keyed}{y:Keyed}(h:Mg b cmp T out (l1++l2) (y::lb))(hl:∀x∈l1,cmp x y=true):Mg b cmp T (out++l1) l2 (y::lb):=by
 refine⟨?_,?_,?_,h.me,h.nd⟩
 ·have:=h.pm
  rw[List.append_assoc] at this ⊢;exact this
 ·have:=h.sa
  rw[List.append_assoc];exact this
 ·have h1:=h.sa
  have h2:=h.sb;rw[List.pairwise_append] at h1 h2;rw[List.pairwise_append];obtain⟨o1,o2,o3⟩:=h1;obtain⟨p1,p2,p3⟩:=h2;rw[List.pairwise_append] at o2;refine⟨N0.mpr ⟨o1,o2.1,λx hx z hz=>o3 x hx z (G0 _ hz)⟩,p2,λx hx z hz=>?_⟩;rcases B8.mp hx with hx|hx
  ·exact p3 x hx z hz
  ·rcases B4.mp hz with rfl|F
   ·exact hl x hx
   ·exact tr x (h.ma (G0 _ hx)) y (h.mb A5) z (h.mb hz) (hl x hx) (P8 p2 F)
structure Md(cmp:Keyed->Keyed->Bool)(T out:List Keyed):Prop where
 pm:out.Perm T
 so:out.Pairwise λx y=>cmp x y=true
theorem Mg.endA{T out la:List Keyed}(h:Mg b cmp T out la []):Md cmp T (out++la):=⟨by have:=h.pm;rwa [List.append_nil] at this,h.sa⟩
theorem Mg.endB{T out lb:List Keyed}(h:Mg b cmp T out [] lb):Md cmp T (out++lb):=⟨h.pm,h.sb⟩
theorem Mg.last{T out lb:List Keyed}{x:Keyed}(h:Mg b cmp T out [x] lb)(hx:∀z∈lb,cmp z x=true):Md cmp T (out++lb++[x]):=by
 refine⟨?_,?_⟩
 ·have:=h.flip.pm
  rw[List.append_assoc];exact this
 ·rw[List.pairwise_append]
  refine⟨h.sb,List.pairwise_singleton _ _,λy hy z hz=>?_⟩;rw[List.mem_singleton] at hz;subst hz;rcases B8.mp hy with hy|hy
  ·have:=h.sa
   rw[List.pairwise_append] at this;exact this.2.2 y hy z (d4.mpr rfl)
  ·exact hx y hy
theorem Mg.ne{T out la lb:List Keyed}(h:Mg b cmp T out la lb){x y:Keyed}(hx:x∈la)(hy:y∈lb):x≠y:=by
 have:=h.pm.nodup_iff.mpr h.nd;rw[List.nodup_append] at this;have:=this.2.1;rw[List.nodup_append] at this;exact this.2.2 x hx y hy
theorem tt0(C:Cn P w A E s b κ cmp){st:SortSt}(hk:kindOf st=κ){left:Bool}{key:Keyed}{arr:Array Keyed}{base hint:Nat}(mk:key∈b.toList)(l:List Keyed)(hl:∀i,i<n->arr[base+i]?=l[i]?)(hn:l.length=n)(ml:∀x∈l,x∈b.toList/\x≠key)(sl:l.Pairwise λx y=>cmp x y=true)(hh:hint<n){Q:Option Nat->SortSt->Prop}
  (k:∀l1 l2,l=l1++l2->(∀x∈l1,cmp x key=true)->(∀x∈l2,cmp key x=true)->Q (some l1.length) st):wpS (model P w) A E s (Q7 left key arr base n hint) Q st:=by
 subst hn;refine gal (pos:=λi=>match l[i]? with|some x=>cmp x key|none=>false) ⟨λi hi Q' hQ=>?_,λi j F hj hp=>?_⟩ hh λr hr h1 h2=>?_
 ·have e:l[i]?=some l[i]:=C3 l i hi
  have m:=ml l[i] (C8 hi);refine eg0 C hk left (x:=l[i]) ((hl i hi).trans e) m.1 mk m.2 ?_;simp only[e] at hQ;exact hQ
 ·have e1:l[i]?=some l[i]:=C3 l i (by omega)
  have e2:l[j]?=some l[j]:=C3 l j hj;simp only[e1,e2] at hp ⊢
  by_cases hij':i=j
  ·subst hij';exact hp
  ·exact C.tr _ (ml _ (C8 (by omega))).1 _ (ml _ (C8 hj)).1 _ mk (D6.mp sl i j (by omega) hj (by omega)) hp
 ·have:=k (l.take r) (l.drop r) (List.take_append_drop r l).symm (λx hx=>?_) (λx hx=>?_)
  ·rw[List.length_take,Nat.min_eq_left hr] at this
   exact this
  ·obtain⟨i,hi,e⟩:=E5.mp hx
   rw[List.getElem_take] at e;rw[List.length_take] at hi;have:=h1 i (by omega);simp only[getElem?_pos l i (show i<l.length by omega),e] at this;exact this
  ·obtain⟨i,hi,e⟩:=E5.mp hx
   rw[List.getElem_drop] at e;rw[List.length_drop] at hi;have:=h2 (r+i) (by omega) (by omega);simp only[getElem?_pos l (r+i) (show r+i<l.length by omega),e] at this;have m:=ml x (e▸C8 _);exact C.to _ mk _ m.1 (λz=>m.2 z.symm) this
structure Sm(st t:SortSt):Prop where
 kd:kindOf t=kindOf st
 ar:arrOf t=arrOf st
 pe:pendingOf t=pendingOf st
 fa:failedOf t=failedOf st
theorem Sm.refl(st:SortSt):Sm st st:=⟨rfl,rfl,rfl,rfl⟩
theorem Sm.gal{st t:SortSt}(h:Sm st t)(g:Nat):Sm st (z00 t g):=⟨h.kd,h.ar,h.pe,h.fa⟩
theorem V1{a:Array Keyed}(h:i<a.size):a.toList.drop i=a[i]::a.toList.drop (i+1):=by
 rw[List.drop_eq_getElem_cons (by simpa using h)];simp
abbrev St7:=Option (Array Keyed)×Array Keyed×Nat×Nat×Nat×Nat×Nat
def loD(a y out:Array Keyed)(ia ib:Nat):Array Keyed:=out++a.extract ia a.size++y.extract ib y.size
def loL(a y out:Array Keyed)(ia ib:Nat):Array Keyed:=out++y.extract ib y.size++a.extract ia a.size
def lo3(a y:Array Keyed)(mg ac bc:Nat)(out:Array Keyed)(ia ib:Nat):StateT SortSt Sem (ForInStep St7):=do
 let x ← elem' a ia
 if (ia+1+1==a.size)=true then pure (.done (some (loL a y (out.push x) (ia+1) ib),out.push x,ia+1,ib,mg,ac,bc))
 else if (decide (ac<7)&&decide (bc<7))=true then pure (.done (none,out.push x,ia+1,ib,mg,ac,bc))
 else pure (.yield (none,out.push x,ia+1,ib,mg,ac,bc))
def lo2(a y:Array Keyed)(mg ac bc:Nat)(out:Array Keyed)(ia ib:Nat):StateT SortSt Sem (ForInStep St7):=do
 let x ← elem' y ib
 if (ib+1==y.size)=true then pure (.done (some (loD a y (out.push x) ia (ib+1)),out.push x,ia,ib+1,mg,ac,bc))
 else do
  let z ← elem' a ia
  let __x ← Q7 true z y (ib+1) (y.size - (ib+1)) 0
  match __x with
  | some k =>
   if k > 0 then
    if (ib+1+k==y.size)=true then pure (.done (some (loD a y (out.push x++y.extract (ib+1) (ib+1+k)) ia (ib+1+k)),out.push x++y.extract (ib+1) (ib+1+k),ia,ib+1+k,mg,ac,k))
    else lo3 a y mg ac k (out.push x++y.extract (ib+1) (ib+1+k)) ia (ib+1+k)
   else lo3 a y mg ac k (out.push x) ia (ib+1)
  | x'=>pure (.done (some (loD a y (out.push x) ia (ib+1)),out.push x,ia,ib+1,mg,ac,bc))
def lo1(a y:Array Keyed)(mg ac bc:Nat)(out:Array Keyed)(ia ib:Nat):StateT SortSt Sem (ForInStep St7):=do
 modify λs=>z00 s mg
 let x ← elem' y ib
 let __x ← Q7 false x a ia (a.size - ia) 0
 match __x with
 | some k =>
  if k > 0 then
   if (ia+k+1==a.size)=true then pure (.done (some (loL a y (out++a.extract ia (ia+k)) (ia+k) ib),out++a.extract ia (ia+k),ia+k,ib,mg,k,bc))
   else if (ia+k==a.size)=true then pure (.done (some (loD a y (out++a.extract ia (ia+k)) (ia+k) ib),out++a.extract ia (ia+k),ia+k,ib,mg,k,bc))
   else lo2 a y mg k bc (out++a.extract ia (ia+k)) (ia+k) ib
  else lo2 a y mg k bc out ia ib
 | x'=>pure (.done (some (loD a y out ia ib),out,ia,ib,mg,ac,bc))
structure Lo(b:Array Keyed)(cmp:Keyed->Keyed->Bool)(a y:Array Keyed)(n:Nat)(out:Array Keyed)(ia ib:Nat):Prop where
 mg:Mg b cmp (a.toList++y.toList) out.toList (a.toList.drop ia) (y.toList.drop ib)
 ia:ia+1<a.size
 ib:ib<y.size
 n:n<=out.size
def Oc(b:Array Keyed)(cmp:Keyed->Keyed->Bool)(a y:Array Keyed)(n:Nat)(o:Option (Array Keyed))(out:Array Keyed)(ia ib:Nat):Prop :=
 match o with
 | some r=>Md cmp (a.toList++y.toList) r.toList
 | none=>Lo b cmp a y n out ia ib
def Oc7(b:Array Keyed)(cmp:Keyed->Keyed->Bool)(a y:Array Keyed)(n:Nat)(st:SortSt)(r:ForInStep St7)(t:SortSt):Prop :=
 Sm st t/\match r with
 | .done c=>Oc b cmp a y n c.1 c.2.1 c.2.2.1 c.2.2.2.1
 | .yield c=>c.1=none/\Lo b cmp a y n c.2.1 c.2.2.1 c.2.2.2.1
section
variable{a y:Array Keyed}(C:Cn P w A E s b κ cmp){st t:SortSt}(hk:kindOf st=κ)(hl:∀z∈y.toList,∀x,a[a.size - 1]?=some x->cmp z x=true)
theorem U6(h:¬(m==n)=true):m≠n:=λz=>h (by rw[z];exact beq_self_eq_true n)
theorem if0(c:Array Keyed)(i k:Nat):(c.extract i (i+k)).toList=(c.toList.drop i).take k:=by
 rw[Array.toList_extract];simp
theorem kp0(c:Array Keyed)(i:Nat):(c.extract i c.size).toList=c.toList.drop i:=by
 rw[Array.toList_extract];simp;rw[List.take_of_length_le (by simp)]
theorem h20{c out:Array Keyed}{l1 l2:List Keyed}(h:c.toList.drop i=l1++l2):(out++c.extract i (i+l1.length)).toList=out.toList++l1/\c.toList.drop (i+l1.length)=l2:=by
 refine⟨?_,?_⟩
 ·rw[Array.toList_append,if0,h,List.take_left]
 ·rw[← List.drop_drop,h,List.drop_left]
theorem c30{out:Array Keyed}:(loD a y out ia ib).toList=out.toList++a.toList.drop ia++y.toList.drop ib:=by
 unfold loD;simp only[Array.toList_append,kp0]
theorem d90{out:Array Keyed}:(loL a y out ia ib).toList=out.toList++y.toList.drop ib++a.toList.drop ia:=by
 unfold loL;simp only[Array.toList_append,kp0]
include hl in
theorem rc0{out:Array Keyed}(M:Mg b cmp (a.toList++y.toList) out.toList (a.toList.drop ia) (y.toList.drop ib))(h:ia+1=a.size):Md cmp (a.toList++y.toList) (loL a y out ia ib).toList:=by
 rw[d90];have e:=V1 (a:=a) (i:=ia) (by omega);rw[List.drop_eq_nil_of_le (i:=ia+1) (by simp;omega)] at e;rw[e] at M ⊢;refine M.last λz hz=>hl z (y6 hz) _ ?_
 rw[show a.size - 1=ia by omega];exact C3 a ia (by omega)
theorem qb0{out:Array Keyed}(M:Mg b cmp (a.toList++y.toList) out.toList (a.toList.drop ia) (y.toList.drop ib))(h:ia=a.size∨ib=y.size):Md cmp (a.toList++y.toList) (loD a y out ia ib).toList:=by
 rw[c30];rcases h with h|h
 ·rw[List.drop_eq_nil_of_le (as:=a.toList) (i:=ia) (by simp;omega)] at M ⊢
  rw[List.append_nil];exact M.endB
 ·rw[List.drop_eq_nil_of_le (as:=y.toList) (i:=ib) (by simp;omega)] at M ⊢
  rw[List.append_nil];exact M.endA
include hl C in
theorem kr0{mg:Nat}{out:Array Keyed}(hs:Sm st t)(L:Lo b cmp a y n out ia ib)(hc:∀z,y[ib]?=some z->cmp (a[ia]'(by have:=L.ia;omega)) z=true):wpS (model P w) A E s (lo3 a y mg ac bc out ia ib) (Oc7 b cmp a y (n+1) st) t:=by
 have h1:=L.ia;have h2:=L.ib;have M:=L.mg;rw[V1 (a:=a) (i:=ia) (by omega),V1 (a:=y) (i:=ib) (by omega)] at M;have M2:=Mg.move C.tr (l1:=[a[ia]]) (l2:=a.toList.drop (ia+1)) M λx hx=>by
  rw[List.mem_singleton] at hx;subst hx;exact hc _ (C3 y ib h2)
 rw[← V1 (a:=y) (i:=ib) h2,← Array.toList_push] at M2;unfold lo3;rw[elem'_eq,getElem?_pos a ia (by omega)];refine A3 (A2 ?_);split
 ·rename_i e
  exact A2 ⟨hs,rc0 hl M2 (by simpa using e)⟩
 ·rename_i e
  have L2:Lo b cmp a y (n+1) (out.push a[ia]) (ia+1) ib:=⟨M2,by have:=U6 e;omega,h2,by rw[Array.size_push];have:=L.n;omega⟩;split
  ·exact A2 ⟨hs,L2⟩
  ·exact A2 ⟨hs,rfl,L2⟩
include hl C hk in
theorem k80{mg:Nat}{out:Array Keyed}(hs:Sm st t)(L:Lo b cmp a y n out ia ib)(hc:∀z,a[ia]?=some z->cmp (y[ib]'L.ib) z=true):wpS (model P w) A E s (lo2 a y mg ac bc out ia ib) (Oc7 b cmp a y (n+1) st) t:=by
 have h1:=L.ia;have h2:=L.ib;have M:=L.mg;have J:ia<a.size:=by omega
 rw[V1 (a:=a) (i:=ia) (by omega),V1 (a:=y) (i:=ib) (by omega)] at M;have M2:=(Mg.move C.tr (l1:=[y[ib]]) (l2:=y.toList.drop (ib+1)) M.flip λx hx=>by
  rw[List.mem_singleton] at hx;subst hx;exact hc _ (C3 a ia (by omega))).flip
 have mk:a[ia]∈b.toList:=M.ma A5;rw[← Array.toList_push] at M2;unfold lo2;rw[elem'_eq,getElem?_pos y ib h2];refine A3 (A2 ?_);split
 ·rename_i e
  rw[← V1 (a:=a) (i:=ia) J] at M2;exact A2 ⟨hs,qb0 M2 (.inr (by simpa using e))⟩
 ·rename_i e
  have e':ib+1<y.size:=by have:=U6 e;omega
  rw[elem'_eq,getElem?_pos a ia J];refine A3 (A2 (A3 (tt0 C (hs.kd.trans hk) mk (y.toList.drop (ib+1)) (λi hi=>?_) (by simp) (λx hx=>⟨M2.mb hx,λz=>M2.ne A5 hx z.symm⟩) (by have:=M2.sb;rw[List.pairwise_append] at this;exact this.2.1) (by omega) λl1 l2 h hb ha=>?_)))
  ·rw[List.getElem?_drop]
   simp
  ·dsimp only
   obtain⟨x1,x2⟩:=h20 (out:=out.push y[ib]) h;rw[h] at M2;have M3:=(Mg.move C.tr M2.flip hb).flip;rw[← x1,← x2,← V1 (a:=a) (i:=ia) J] at M3;split
   ·rename_i hz
    split
    ·rename_i e2
     exact A2 ⟨hs,qb0 M3 (.inr (by simpa using e2))⟩
    ·rename_i e2
     have O:(y.toList.drop (ib+1)).length=(l1++l2).length:=by rw[h]
     rw[List.length_drop,List.length_append,Array.length_toList] at O;have e3:ib+1+l1.length<y.size:=by have:=U6 e2;omega
     refine kr0 C hl hs ⟨M3,h1,e3,by rw[← Array.length_toList,x1,List.length_append,Array.length_toList,Array.size_push];have:=L.n;omega⟩ λz F=>ha z ?_
     rw[← x2,V1 (a:=y) e3];rw[getElem?_pos y _ e3] at F;cases F;exact A5
   ·rename_i hz
    have:l1=[]:=L4 (by omega);subst this;rw[List.nil_append] at h;rw[List.nil_append,← h,← V1 (a:=a) (i:=ia) J] at M2;refine kr0 C hl hs ⟨M2,h1,e',by rw[Array.size_push];have:=L.n;omega⟩ λz F=>ha z ?_
    rw[← h,V1 (a:=y) e'];rw[getElem?_pos y _ e'] at F;cases F;exact A5
include hl C hk in
theorem l00{mg:Nat}{out:Array Keyed}(hs:Sm st t)(L:Lo b cmp a y n out ia ib):wpS (model P w) A E s (lo1 a y mg ac bc out ia ib) (Oc7 b cmp a y (n+1) st) t:=by
 have h1:=L.ia;have h2:=L.ib;have M:=L.mg;rw[V1 (a:=y) (i:=ib) (by omega)] at M;have mk:y[ib]∈b.toList:=M.mb A5;unfold lo1;refine A3 (D4 ?_);have hs:=hs.gal mg;rw[elem'_eq,getElem?_pos y ib h2];refine A3 (A2 (A3 (tt0 C (hs.kd.trans hk) mk (a.toList.drop ia) (λi hi=>?_) (by simp) (λx hx=>⟨M.ma hx,M.ne hx A5⟩) (by have:=M.sa;rw[List.pairwise_append] at this;exact this.2.1) (by omega) λl1 l2 h hb ha=>?_)))
 ·rw[List.getElem?_drop]
  simp
 ·dsimp only
  obtain⟨x1,x2⟩:=h20 (out:=out) h;have M0:=M;rw[h] at M;have M3:=Mg.move C.tr M hb;rw[← x1,← x2,← V1 (a:=y) h2] at M3;have J:(a.toList.drop ia).length=(l1++l2).length:=by rw[h]
  rw[List.length_drop,List.length_append,Array.length_toList] at J;split
  ·rename_i hz
   split
   ·rename_i e2
    exact A2 ⟨hs,rc0 hl M3 (by simpa using e2)⟩
   ·split
    ·rename_i e2
     exact A2 ⟨hs,qb0 M3 (.inl (by simpa using e2))⟩
    ·rename_i e1 e2
     have e3:ia+l1.length+1<a.size:=by
      have:=U6 e2;have:=U6 e1;omega
     refine k80 C hk hl hs ⟨M3,e3,h2,by rw[← Array.length_toList,x1,List.length_append,Array.length_toList];have:=L.n;omega⟩ λz F=>ha z ?_
     rw[← x2,V1 (a:=a) (i:=ia+l1.length) (by omega)];rw[getElem?_pos a _ (by omega)] at F;cases F;exact A5
  ·rename_i hz
   have:l1=[]:=L4 (by omega);subst this;rw[List.nil_append] at h;refine k80 C hk hl hs L λz F=>ha z ?_
   rw[← h,V1 (a:=a) (i:=ia) (by omega)];rw[getElem?_pos a _ (by omega)] at F;cases F;exact A5
theorem Lo.le{out:Array Keyed}(h:Lo b cmp a y n out ia ib)(k:m<=n):Lo b cmp a y m out ia ib:=⟨h.mg,h.ia,h.ib,B7 k h.n⟩
theorem Lo.lt{out:Array Keyed}(h:Lo b cmp a y n out ia ib):n<a.size+y.size:=by
 have h1:=h.mg.pm.length_eq;have h2:=h.ia;have h3:=h.ib;have h4:=h.n;simp only[List.length_append,List.length_drop,Array.length_toList] at h1;omega
include hl C hk in
theorem mergeLo(h0:0<y.size)(h1:0<a.size)(M:Mg b cmp (a.toList++y.toList) [y[0]] a.toList (y.toList.drop 1)){Q:Array Keyed->SortSt->Prop}
  (k:∀r t,Sm st t->Md cmp (a.toList++y.toList) r.toList->Q r t):wpS (model P w) A E s (u30 a y) Q st:=by
 rw[o40];refine A3 (L3 (D8 ⟨rfl,?_⟩));rw[elem'_eq,getElem?_pos y 0 h0];refine A3 (A2 ?_);dsimp only;have M':Mg b cmp (a.toList++y.toList) (#[y[0]]:Array Keyed).toList (a.toList.drop 0) (y.toList.drop 1):=M
 by_cases e1:(1==y.size)=true
 ·rw[if_pos e1]
  exact A2 (k _ _ (Sm.refl st) (qb0 (ia:=0) (ib:=1) M' (.inr (by simpa using e1))))
 rw[if_neg e1]
 by_cases e2:(0+1==a.size)=true
 ·rw[if_pos e2]
  exact A2 (k _ _ (Sm.refl st) (rc0 hl (ia:=0) (ib:=1) M' (by simpa using e2)))
 rw[if_neg e2];have L0:Lo b cmp a y (1+0) #[y[0]] 0 1:=⟨M',by have:=U6 e2;omega,by have:=U6 e1;omega,A4 1⟩;refine A3 (D2 ?_);refine A3 (B3 (C0 (I:=λx c t=>Sm st t/\c.1=none/\Lo b cmp a y (1+x) c.2.1 c.2.2.1 c.2.2.2.1)
  (Q:=λc t=>Sm st t/\∃r,c.1=some r/\Md cmp (a.toList++y.toList) r.toList) (λx c t _ hx hI=>?_) (λc t hI=>?_) ⟨Sm.refl st,rfl,L0⟩) λc t hI=>?_)
 ·obtain⟨hs,_,L⟩:=hI
  refine A3 (B3 (C0 (I:=λx' c t=>Sm st t/\c.1=none/\Lo b cmp a y (1+x+x') c.2.1 c.2.2.1 c.2.2.2.1)
   (Q:=λc t=>Sm st t/\Oc b cmp a y (1+x) c.1 c.2.1 c.2.2.1 c.2.2.2.1) (λx' c' t _ S hI=>?_) (λc t hI=>?_) ⟨hs,rfl,L⟩) λc' t hI=>?_)
  ·obtain⟨o,F,ia,ib,ac,bc⟩:=c'
   obtain⟨hs,_,L⟩:=hI;have L:Lo b cmp a y (1+x+x') F ia ib:=L;dsimp only;have h1:=L.ia;have h2:=L.ib;have M:=L.mg;have J:ia<a.size:=by omega
   rw[V1 (a:=a) (i:=ia) J,V1 (a:=y) (i:=ib) h2] at M;have m1:a[ia]∈b.toList:=M.ma A5;have m2:y[ib]∈b.toList:=M.mb A5;rw[elem'_eq,getElem?_pos y ib h2,elem'_eq,getElem?_pos a ia J];refine A3 (A2 (A3 (A2 (A3 (C.ask _ _ _ _ (hs.kd.trans hk) m2 m1 ?_)))));dsimp only;cases hc:cmp y[ib] a[ia] with
   | true =>
    have M2:=(Mg.move C.tr (l1:=[y[ib]]) (l2:=y.toList.drop (ib+1)) M.flip λx hx=>by
     rw[List.mem_singleton] at hx;subst hx;exact hc).flip
    rw[← V1 (a:=a) (i:=ia) J,← Array.toList_push] at M2;rw[if_pos rfl];refine A3 (A2 ?_)
    by_cases e:(ib+1==y.size)=true
    ·rw[if_pos e]
     exact A2 ⟨hs,qb0 M2 (.inr (by simpa using e))⟩
    ·rw[if_neg e]
     have L2:Lo b cmp a y (1+x+(x'+1)) (F.push y[ib]) ia (ib+1):=⟨M2,h1,by have:=U6 e;omega,by rw[Array.size_push];have:=L.n;omega⟩
     by_cases g:bc+1 ≥ c.2.2.2.2
     ·rw[if_pos g]
      exact A2 ⟨hs,L2.le (by omega)⟩
     ·rw[if_neg g]
      exact A2 ⟨hs,rfl,L2⟩
   | false =>
    have M2:=Mg.move C.tr (l1:=[a[ia]]) (l2:=a.toList.drop (ia+1)) M λx hx=>by
     rw[List.mem_singleton] at hx;subst hx;exact C.to _ m1 _ m2 (M.ne A5 A5) hc
    rw[← V1 (a:=y) (i:=ib) h2,← Array.toList_push] at M2;rw[if_neg (by decide)];refine A3 (A2 ?_)
    by_cases e:(ia+1+1==a.size)=true
    ·rw[if_pos e]
     exact A2 ⟨hs,rc0 hl M2 (by simpa using e)⟩
    ·rw[if_neg e]
     have L2:Lo b cmp a y (1+x+(x'+1)) (F.push a[ia]) (ia+1) ib:=⟨M2,by have:=U6 e;omega,h2,by rw[Array.size_push];have:=L.n;omega⟩
     by_cases g:ac+1 ≥ c.2.2.2.2
     ·rw[if_pos g]
      exact A2 ⟨hs,L2.le (by omega)⟩
     ·rw[if_neg g]
      exact A2 ⟨hs,rfl,L2⟩
  ·obtain⟨o,F,ia,ib,ac,bc⟩:=c
   obtain⟨hs,e,L⟩:=hI;cases e;exact⟨hs,L.le (by omega)⟩
  ·obtain⟨o,F,ia,ib,ac,bc⟩:=c'
   obtain⟨hs,O⟩:=hI;cases o with
   | some r=>exact A2 ⟨hs,r,rfl,O⟩
   | none =>
    have L:Lo b cmp a y (1+x) F ia ib:=O;dsimp only;refine A3 (L3 (D8 ⟨rfl,?_⟩));refine A3 (B3 (C0 (I:=λx' c t=>Sm st t/\c.1=none/\Lo b cmp a y (1+x+x') c.2.1 c.2.2.1 c.2.2.2.1)
     (Q:=λc t=>Sm st t/\Oc b cmp a y (1+x+1) c.1 c.2.1 c.2.2.1 c.2.2.2.1) (λx' c' t _ S hI=>?_) (λc t hI=>?_) ⟨hs,rfl,L⟩) λc' t hI=>?_)
    ·obtain⟨o,F,ia,ib,mg,ac,bc⟩:=c'
     obtain⟨hs,_,L⟩:=hI;have go:∀(mg:Nat) (r:ForInStep St7) (t':SortSt),Oc7 b cmp a y (1+x+x'+1) st r t'->match r with|.done c=>Sm st t'/\Oc b cmp a y (1+x+1) c.1 c.2.1 c.2.2.1 c.2.2.2.1|.yield c=>Sm st t'/\c.1=none/\Lo b cmp a y (1+x+(x'+1)) c.2.1 c.2.2.1 c.2.2.2.1:=λmg r t' h=>by
      cases r with
      | yield c=>exact⟨h.1,h.2⟩
      | done c =>
       obtain⟨o,F,ia,ib,mg,ac,bc⟩:=c;refine⟨h.1,?_⟩;cases o with
       | some r=>exact h.2
       | none=>exact Lo.le h.2 (by omega)
     dsimp only
     by_cases hg:mg > 1
     ·rw[if_pos hg]
      show wpS (model P w) A E s (lo1 a y (mg - 1) ac bc F ia ib) _ t;refine B3 (l00 C hk hl (mg:=mg - 1) (ac:=ac) (bc:=bc) hs L) λr t' h=>?_
      have:=go mg r t' h;cases r<;>exact this
     ·rw[if_neg hg]
      show wpS (model P w) A E s (lo1 a y mg ac bc F ia ib) _ t;refine B3 (l00 C hk hl (mg:=mg) (ac:=ac) (bc:=bc) hs L) λr t' h=>?_
      have:=go mg r t' h;cases r<;>exact this
    ·obtain⟨o,F,ia,ib,mg,ac,bc⟩:=c
     obtain⟨hs,e,L⟩:=hI;cases e;exact⟨hs,L.le (by omega)⟩
    ·obtain⟨o,F,ia,ib,mg,ac,bc⟩:=c'
     obtain⟨hs,O⟩:=hI;cases o with
     | some r=>exact A2 ⟨hs,r,rfl,O⟩
     | none=>exact A3 (D4 (A2 ⟨hs.gal _,rfl,O⟩))
 ·exact absurd hI.2.2.lt (by omega)
 ·obtain⟨o,F,ia,ib,mg⟩:=c
  obtain⟨hs,r,e,O⟩:=hI;cases e;exact A2 (k _ _ hs O)
end
end
theorem oa0(a b:Array Keyed):ub0 a b=(do
 rule "list.sort.merge-hi"
 let total:=a.size+b.size
 let done (out:Array Keyed) (na nb:Nat):=a.extract 0 na++b.extract 0 nb++out.reverse
 let firstOfB (out:Array Keyed) (na nb:Nat):=b.extract 0 nb++a.extract 0 na++out.reverse
 let mut na:=a.size - 1
 let mut nb:=b.size
 let mut out:Array Keyed:=#[← elem' a na]
 if na==0 then return done out na nb
 if nb==1 then return firstOfB out na nb
 let mut minGallop:=gallopOf (← get)
 for _ in [0:total] do
  let mut acount:=0
  let mut bcount:=0
  for _ in [0:total] do
   let some aWins ← lt' (← elem' b (nb - 1)) (← elem' a (na - 1))|return done out na nb
   if aWins then
    na:=na - 1;out:=out.push (← elem' a na);acount:=acount+1;bcount:=0
    if na==0 then return done out na nb
    if acount ≥ minGallop then break
   else
    nb:=nb - 1;out:=out.push (← elem' b nb);bcount:=bcount+1;acount:=0
    if nb==1 then return firstOfB out na nb
    if bcount ≥ minGallop then break
  rule "list.sort.gallop"
  minGallop:=minGallop+1
  for _ in [0:total] do
   if minGallop > 1 then minGallop:=minGallop - 1
   modify λs=>z00 s minGallop
   let some at_ ← Q7 false (← elem' b (nb - 1)) a 0 na (na - 1)|return done out na nb
   let k:=na - at_
   acount:=k
   if k > 0 then
    out:=out++(a.extract at_ na).reverse;na:=at_
    if na==0 then return done out na nb
   nb:=nb - 1;out:=out.push (← elem' b nb)
   if nb==1 then return firstOfB out na nb
   let some at_ ← Q7 true (← elem' a (na - 1)) b 0 nb (nb - 1)|return done out na nb
   let k:=nb - at_
   bcount:=k
   if k > 0 then
    out:=out++(b.extract at_ nb).reverse;nb:=at_
    if nb==1 then return firstOfB out na nb
    if nb==0 then return done out na nb
   na:=na - 1;out:=out.push (← elem' a na)
   if na==0 then return done out na nb
   if acount<7&&bcount<7 then break
  minGallop:=minGallop+1
  modify λs=>z00 s minGallop
 unsupported "internal:list.sort.merge-bound"):=rfl
section
variable{P:Program}{w:World}{s:Shared}{b:Array Keyed}{κ:SortKind}{cmp:Keyed->Keyed->Bool}
def vm(cmp:Keyed->Keyed->Bool)(x y:Keyed):Bool:=cmp y x
def rt(c:Array Keyed)(n:Nat):List Keyed:=(c.toList.take n).reverse
theorem S7{c:Array Keyed}(h:0<n)(h':n<=c.size):rt c n=c[n - 1]::rt c (n - 1):=by
 obtain⟨m,rfl⟩:∃m,n=m+1:=⟨n - 1,by omega⟩;unfold rt;rw[List.take_succ,List.reverse_append];simp[show m<c.size by omega]
theorem d40{c:Array Keyed}{x:Keyed}(h:x∈rt c n):x∈c.toList:=d5 (N1.mp h)
theorem iz0{c out:Array Keyed}{l1 l2:List Keyed}(h:c.toList.take n=l1++l2)(hn:n<=c.size):(out++(c.extract l1.length n).reverse).toList=out.toList++l2.reverse/\rt c l1.length=l1.reverse/\l1.length+l2.length=n/\rt c n=l2.reverse++l1.reverse:=by
 have e:=D1 List.length h;rw[List.length_take,List.length_append,Array.length_toList] at e;refine⟨?_,?_,by omega,?_⟩
 ·rw[Array.toList_append,Array.toList_reverse,Array.toList_extract]
  simp only[List.extract_eq_take_drop];rw[← List.drop_take,h,List.drop_left]
 ·unfold rt
  have:c.toList.take l1.length=(c.toList.take n).take l1.length:=by rw[List.take_take,Nat.min_eq_left (by omega)]
  rw[this,h,List.take_left]
 ·unfold rt
  rw[h,List.reverse_append]
theorem Md.rev{T r:List Keyed}(h:Md (vm cmp) T r.reverse):Md cmp T r:=⟨r.reverse_perm.symm.trans h.pm,P9.mp h.so⟩
def hiD(a y out:Array Keyed)(na nb:Nat):Array Keyed:=a.extract 0 na++y.extract 0 nb++out.reverse
def hiF(a y out:Array Keyed)(na nb:Nat):Array Keyed:=y.extract 0 nb++a.extract 0 na++out.reverse
abbrev Sv7:=Option (Array Keyed)×Nat×Nat×Array Keyed×Nat×Nat×Nat
def hi3(a y:Array Keyed)(mg ac bc:Nat)(out:Array Keyed)(na nb:Nat):StateT SortSt Sem (ForInStep Sv7):=do
 let x ← elem' a (na - 1)
 if (na - 1==0)=true then pure (.done (some (hiD a y (out.push x) (na - 1) nb),na - 1,nb,out.push x,mg,ac,bc))
 else if (decide (ac<7)&&decide (bc<7))=true then pure (.done (none,na - 1,nb,out.push x,mg,ac,bc))
 else pure (.yield (none,na - 1,nb,out.push x,mg,ac,bc))
def hi2(a y:Array Keyed)(mg ac bc:Nat)(out:Array Keyed)(na nb:Nat):StateT SortSt Sem (ForInStep Sv7):=do
 let x ← elem' y (nb - 1)
 if (nb - 1==1)=true then pure (.done (some (hiF a y (out.push x) na (nb - 1)),na,nb - 1,out.push x,mg,ac,bc))
 else do
  let z ← elem' a (na - 1)
  let __x ← Q7 true z y 0 (nb - 1) (nb - 1 - 1)
  match __x with
  | some k =>
   if nb - 1 - k > 0 then
    if (k==1)=true then pure (.done (some (hiF a y (out.push x++(y.extract k (nb - 1)).reverse) na k),na,k,out.push x++(y.extract k (nb - 1)).reverse,mg,ac,nb - 1 - k))
    else if (k==0)=true then pure (.done (some (hiD a y (out.push x++(y.extract k (nb - 1)).reverse) na k),na,k,out.push x++(y.extract k (nb - 1)).reverse,mg,ac,nb - 1 - k))
    else hi3 a y mg ac (nb - 1 - k) (out.push x++(y.extract k (nb - 1)).reverse) na k
   else hi3 a y mg ac (nb - 1 - k) (out.push x) na (nb - 1)
  | x'=>pure (.done (some (hiD a y (out.push x) na (nb - 1)),na,nb - 1,out.push x,mg,ac,bc))
def hi1(a y:Array Keyed)(mg ac bc:Nat)(out:Array Keyed)(na nb:Nat):StateT SortSt Sem (ForInStep Sv7):=do
 modify λs=>z00 s mg
 let x ← elem' y (nb - 1)
 let __x ← Q7 false x a 0 na (na - 1)
 match __x with
 | some k =>
  if na - k > 0 then
   if (k==0)=true then pure (.done (some (hiD a y (out++(a.extract k na).reverse) k nb),k,nb,out++(a.extract k na).reverse,mg,na - k,bc))
   else hi2 a y mg (na - k) bc (out++(a.extract k na).reverse) k nb
  else hi2 a y mg (na - k) bc out na nb
 | x'=>pure (.done (some (hiD a y out na nb),na,nb,out,mg,ac,bc))
structure Hi(b:Array Keyed)(cmp:Keyed->Keyed->Bool)(a y:Array Keyed)(n:Nat)(out:Array Keyed)(na nb:Nat):Prop where
 mg:Mg b (vm cmp) (a.toList++y.toList) out.toList (rt a na) (rt y nb)
 na':na<=a.size
 nb':nb<=y.size
 na:0<na
 nb:1<nb
 n:n<=out.size
def Ov(b:Array Keyed)(cmp:Keyed->Keyed->Bool)(a y:Array Keyed)(n:Nat)(o:Option (Array Keyed))(out:Array Keyed)(na nb:Nat):Prop :=
 match o with
 | some r=>Md cmp (a.toList++y.toList) r.toList
 | none=>Hi b cmp a y n out na nb
def Ov7(b:Array Keyed)(cmp:Keyed->Keyed->Bool)(a y:Array Keyed)(n:Nat)(st:SortSt)(r:ForInStep Sv7)(t:SortSt):Prop :=
 Sm st t/\match r with
 | .done c=>Ov b cmp a y n c.1 c.2.2.2.1 c.2.1 c.2.2.1
 | .yield c=>c.1=none/\Hi b cmp a y n c.2.2.2.1 c.2.1 c.2.2.1
variable{a y:Array Keyed}(C:Cn P w A E s b κ cmp){st t:SortSt}(hk:kindOf st=κ)(hl:∀z∈a.toList,∀x,y[0]?=some x->cmp x z=true)
include C in
theorem vtr:∀x∈b.toList,∀y∈b.toList,∀z∈b.toList,vm cmp x y=true->vm cmp y z=true->vm cmp x z=true:=λx hx y hy z hz h1 h2=>C.tr z hz y hy x hx h2 h1
theorem d80{out:Array Keyed}{nb:Nat}:(hiD a y out na nb).toList.reverse=out.toList++rt y nb++rt a na:=by
 unfold hiD rt;simp
theorem cf0{out:Array Keyed}{nb:Nat}:(hiF a y out na nb).toList.reverse=out.toList++rt a na++rt y nb:=by
 unfold hiF rt;simp
include hl in
theorem uy0{out:Array Keyed}{nb:Nat}(M:Mg b (vm cmp) (a.toList++y.toList) out.toList (rt a na) (rt y nb))(h:nb=1)(hy:0<y.size):Md cmp (a.toList++y.toList) (hiF a y out na nb).toList:=by
 refine Md.rev ?_;rw[cf0];subst h;have e:=S7 (c:=y) (n:=1) (by omega) (by omega);rw[show rt y (1 - 1)=[] from rfl] at e;rw[e] at M ⊢;exact M.flip.last λz hz=>hl z (d40 hz) _ (C3 y 0 hy)
theorem p30{out:Array Keyed}{nb:Nat}(M:Mg b (vm cmp) (a.toList++y.toList) out.toList (rt a na) (rt y nb))(h:na=0∨nb=0):Md cmp (a.toList++y.toList) (hiD a y out na nb).toList:=by
 refine Md.rev ?_;rw[d80];rcases h with rfl|rfl
 ·rw[show rt a 0=[] from rfl] at M ⊢
  rw[List.append_nil];exact M.endB
 ·rw[show rt y 0=[] from rfl] at M ⊢
  rw[List.append_nil];exact M.endA
include C in
theorem my0{mg:Nat}{out:Array Keyed}{nb:Nat}(hs:Sm st t)(L:Hi b cmp a y n out na nb)(hc:∀x z,a[na - 1]?=some x->y[nb - 1]?=some z->cmp z x=true):wpS (model P w) A E s (hi3 a y mg ac bc out na nb) (Ov7 b cmp a y (n+1) st) t:=by
 have h1:=L.na;have J:=L.na';have h2:=L.nb;have F:=L.nb';have M:=L.mg;rw[S7 (c:=a) h1 J,S7 (c:=y) (n:=nb) (by omega) F] at M;have M2:=Mg.move (vtr C) (l1:=[a[na - 1]]) (l2:=rt a (na - 1)) M λx hx=>by
  rw[List.mem_singleton] at hx;subst hx;exact hc _ _ (C3 a (na - 1) (by omega)) (C3 y (nb - 1) (by omega))
 rw[← S7 (c:=y) (n:=nb) (by omega) F,← Array.toList_push] at M2;unfold hi3;rw[elem'_eq,getElem?_pos a (na - 1) (by omega)];refine A3 (A2 ?_);split
 ·rename_i e
  exact A2 ⟨hs,p30 M2 (.inl (by simpa using e))⟩
 ·rename_i e
  have L2:Hi b cmp a y (n+1) (out.push a[na - 1]) (na - 1) nb:=⟨M2,by omega,F,by have:=U6 e;omega,h2,by rw[Array.size_push];have:=L.n;omega⟩;split
  ·exact A2 ⟨hs,L2⟩
  ·exact A2 ⟨hs,rfl,L2⟩
include hl C hk in
theorem k50{mg:Nat}{out:Array Keyed}{nb:Nat}(hs:Sm st t)(L:Hi b cmp a y n out na nb)(hc:∀x z,a[na - 1]?=some x->y[nb - 1]?=some z->cmp x z=true):wpS (model P w) A E s (hi2 a y mg ac bc out na nb) (Ov7 b cmp a y (n+1) st) t:=by
 have h1:=L.na;have F:=L.na';have h2:=L.nb;have O:=L.nb';have M:=L.mg;rw[S7 (c:=a) h1 F,S7 (c:=y) (n:=nb) (by omega) O] at M;have M2:=(Mg.move (vtr C) (l1:=[y[nb - 1]]) (l2:=rt y (nb - 1)) M.flip λx hx=>by
  rw[List.mem_singleton] at hx;subst hx;exact hc _ _ (C3 a (na - 1) (by omega)) (C3 y (nb - 1) (by omega))).flip
 have mk:a[na - 1]∈b.toList:=M.ma A5;rw[← Array.toList_push] at M2;unfold hi2;rw[elem'_eq,getElem?_pos y (nb - 1) (by omega)];refine A3 (A2 ?_);split
 ·rename_i e
  rw[← S7 (c:=a) h1 F] at M2;exact A2 ⟨hs,uy0 hl M2 (by simpa using e) (by omega)⟩
 ·rename_i e
  have e':=U6 e;rw[elem'_eq,getElem?_pos a (na - 1) (by omega)];refine A3 (A2 (A3 (tt0 C (hs.kd.trans hk) mk (y.toList.take (nb - 1)) (λi hi=>?_) (by rw[List.length_take,Array.length_toList];omega) (λx hx=>?_) ?_ (by omega) λl1 l2 h hb ha=>?_)))
  ·rw[Nat.zero_add,List.getElem?_take_of_lt hi]
   simp
  ·have hx:x∈rt y (nb - 1):=N1.mpr hx
   exact⟨M2.mb hx,λz=>M2.ne A5 hx z.symm⟩
  ·have:=M2.sb
   rw[List.pairwise_append] at this;exact P9.mp this.2.1
  ·dsimp only
   obtain⟨x1,x2,x3,x4⟩:=iz0 (out:=out.push y[nb - 1]) h (by omega);rw[x4] at M2;have M3:=(Mg.move (vtr C) M2.flip λx hx=>ha x (N1.mp hx)).flip;rw[← x1,← x2,← S7 (c:=a) h1 F] at M3;split
   ·rename_i hz
    split
    ·rename_i e2
     exact A2 ⟨hs,uy0 hl M3 (by simpa using e2) (by omega)⟩
    ·split
     ·rename_i e2
      exact A2 ⟨hs,p30 M3 (.inr (by simpa using e2))⟩
     ·rename_i e2 e3
      have e2:=U6 e2;have e3:=U6 e3;refine my0 C hs ⟨M3,F,by omega,h1,by omega,by rw[← Array.length_toList,x1,List.length_append,Array.length_toList,Array.size_push];have:=L.n;omega⟩ λx z hx J=>?_
      rw[getElem?_pos a (na - 1) (by omega)] at hx;cases hx;refine hb z ?_;rw[getElem?_pos y _ (by omega)] at J;cases J;rw[← List.mem_reverse,← x2,S7 (by omega) (by omega)];exact A5
   ·rename_i hz
    have:l2=[]:=L4 (by omega);subst this;rw[← x4,← S7 (c:=a) h1 F] at M2;refine my0 C hs ⟨M2,F,by omega,h1,by omega,by rw[Array.size_push];have:=L.n;omega⟩ λx z hx J=>?_
    rw[getElem?_pos a (na - 1) (by omega)] at hx;cases hx;refine hb z ?_;rw[getElem?_pos y _ (by omega)] at J;cases J;rw[← List.mem_reverse,← x2,show l1.length=nb - 1 from x3,S7 (by omega) (by omega)];exact A5
include hl C hk in
theorem mr0{mg:Nat}{out:Array Keyed}{nb:Nat}(hs:Sm st t)(L:Hi b cmp a y n out na nb):wpS (model P w) A E s (hi1 a y mg ac bc out na nb) (Ov7 b cmp a y (n+1) st) t:=by
 have h1:=L.na;have O:=L.na';have h2:=L.nb;have J:=L.nb';have M:=L.mg;rw[S7 (c:=y) (n:=nb) (by omega) J] at M;have mk:y[nb - 1]∈b.toList:=M.mb A5;unfold hi1;refine A3 (D4 ?_);have hs:=hs.gal mg;rw[elem'_eq,getElem?_pos y (nb - 1) (by omega)];refine A3 (A2 (A3 (tt0 C (hs.kd.trans hk) mk (a.toList.take na) (λi hi=>?_) (by rw[List.length_take,Array.length_toList];omega) (λx hx=>?_) ?_ (by omega) λl1 l2 h hb ha=>?_)))
 ·rw[Nat.zero_add,List.getElem?_take_of_lt hi]
  simp
 ·have hx:x∈rt a na:=N1.mpr hx
  exact⟨M.ma hx,M.ne hx A5⟩
 ·have:=M.sa
  rw[List.pairwise_append] at this;exact P9.mp this.2.1
 ·dsimp only
  obtain⟨x1,x2,x3,x4⟩:=iz0 (out:=out) h (by omega);rw[x4] at M;have M3:=Mg.move (vtr C) M λx hx=>ha x (N1.mp hx)
  rw[← x1,← x2,← S7 (c:=y) (n:=nb) (by omega) J] at M3;split
  ·rename_i hz
   split
   ·rename_i e2
    exact A2 ⟨hs,p30 M3 (.inl (by simpa using e2))⟩
   ·rename_i e2
    have e2:=U6 e2;refine k50 C hk hl hs ⟨M3,by omega,J,by omega,h2,by rw[← Array.length_toList,x1,List.length_append,Array.length_toList];have:=L.n;omega⟩ λx z hx F=>?_
    rw[getElem?_pos y (nb - 1) (by omega)] at F;cases F;refine hb x ?_;rw[getElem?_pos a _ (by omega)] at hx;cases hx;rw[← List.mem_reverse,← x2,S7 (by omega) (by omega)];exact A5
  ·rename_i hz
   have:l2=[]:=L4 (by omega);subst this;refine k50 C hk hl hs L λx z hx F=>?_
   rw[getElem?_pos y (nb - 1) (by omega)] at F;cases F;refine hb x ?_;rw[getElem?_pos a _ (by omega)] at hx;cases hx;rw[← List.mem_reverse,← x2,show l1.length=na from x3,S7 (by omega) (by omega)];exact A5
theorem Hi.le{out:Array Keyed}{nb:Nat}(h:Hi b cmp a y n out na nb)(k:m<=n):Hi b cmp a y m out na nb:=⟨h.mg,h.na',h.nb',h.na,h.nb,B7 k h.n⟩
theorem Hi.lt{out:Array Keyed}{nb:Nat}(h:Hi b cmp a y n out na nb):n<a.size+y.size:=by
 have h1:=h.mg.pm.length_eq;have h2:=h.na;have F:=h.na';have h3:=h.nb;have h4:=h.n;unfold rt at h1;simp only[List.length_append,List.length_reverse,List.length_take,Array.length_toList] at h1;omega
include hl C hk in
theorem mergeHi(h0:0<y.size)(h1:0<a.size)(M:Mg b (vm cmp) (a.toList++y.toList) [a[a.size - 1]] (rt a (a.size - 1)) (rt y y.size)){Q:Array Keyed->SortSt->Prop}
  (k:∀r t,Sm st t->Md cmp (a.toList++y.toList) r.toList->Q r t):wpS (model P w) A E s (ub0 a y) Q st:=by
 rw[oa0];refine A3 (L3 (D8 ⟨rfl,?_⟩));dsimp only;rw[elem'_eq,getElem?_pos a (a.size - 1) (by omega)];refine A3 (A2 ?_);have M':Mg b (vm cmp) (a.toList++y.toList) (#[a[a.size - 1]]:Array Keyed).toList (rt a (a.size - 1)) (rt y y.size):=M
 by_cases e1:(a.size - 1==0)=true
 ·rw[if_pos e1]
  exact A2 (k _ _ (Sm.refl st) (p30 (nb:=y.size) M' (.inl (by simpa using e1))))
 rw[if_neg e1]
 by_cases e2:(y.size==1)=true
 ·rw[if_pos e2]
  exact A2 (k _ _ (Sm.refl st) (uy0 hl (nb:=y.size) M' (by simpa using e2) h0))
 rw[if_neg e2];have L0:Hi b cmp a y (1+0) #[a[a.size - 1]] (a.size - 1) y.size:=⟨M',by omega,A4 _,by have:=U6 e1;omega,by have:=U6 e2;omega,A4 1⟩;refine A3 (D2 ?_);refine A3 (B3 (C0 (I:=λx c t=>Sm st t/\c.1=none/\Hi b cmp a y (1+x) c.2.2.2.1 c.2.1 c.2.2.1)
  (Q:=λc t=>Sm st t/\∃r,c.1=some r/\Md cmp (a.toList++y.toList) r.toList) (λx c t _ hx hI=>?_) (λc t hI=>?_) ⟨Sm.refl st,rfl,L0⟩) λc t hI=>?_)
 ·obtain⟨hs,_,L⟩:=hI
  refine A3 (B3 (C0 (I:=λx' c t=>Sm st t/\c.1=none/\Hi b cmp a y (1+x+x') c.2.2.2.1 c.2.1 c.2.2.1)
   (Q:=λc t=>Sm st t/\Ov b cmp a y (1+x) c.1 c.2.2.2.1 c.2.1 c.2.2.1) (λx' c' t _ U hI=>?_) (λc t hI=>?_) ⟨hs,rfl,L⟩) λc' t hI=>?_)
  ·obtain⟨o,na,nb,F,ac,bc⟩:=c'
   obtain⟨hs,_,L⟩:=hI;have L:Hi b cmp a y (1+x+x') F na nb:=L;dsimp only;have h1:=L.na;have S:=L.na';have h2:=L.nb;have J:=L.nb';have M:=L.mg;rw[S7 (c:=a) h1 S,S7 (c:=y) (n:=nb) (by omega) J] at M;have m1:a[na - 1]∈b.toList:=M.ma A5;have m2:y[nb - 1]∈b.toList:=M.mb A5;rw[elem'_eq,getElem?_pos y (nb - 1) (by omega),elem'_eq,getElem?_pos a (na - 1) (by omega)];refine A3 (A2 (A3 (A2 (A3 (C.ask _ _ _ _ (hs.kd.trans hk) m2 m1 ?_)))));dsimp only;cases hc:cmp y[nb - 1] a[na - 1] with
   | true =>
    have M2:=Mg.move (vtr C) (l1:=[a[na - 1]]) (l2:=rt a (na - 1)) M λx hx=>by
     rw[List.mem_singleton] at hx;subst hx;exact hc
    rw[← S7 (c:=y) (n:=nb) (by omega) J,← Array.toList_push] at M2;rw[if_pos rfl];refine A3 (A2 ?_)
    by_cases e:(na - 1==0)=true
    ·rw[if_pos e]
     exact A2 ⟨hs,p30 M2 (.inl (by simpa using e))⟩
    ·rw[if_neg e]
     have L2:Hi b cmp a y (1+x+(x'+1)) (F.push a[na - 1]) (na - 1) nb:=⟨M2,by omega,J,by have:=U6 e;omega,h2,by rw[Array.size_push];have:=L.n;omega⟩
     by_cases g:ac+1 ≥ c.2.2.2.2
     ·rw[if_pos g]
      exact A2 ⟨hs,L2.le (by omega)⟩
     ·rw[if_neg g]
      exact A2 ⟨hs,rfl,L2⟩
   | false =>
    have M2:=(Mg.move (vtr C) (l1:=[y[nb - 1]]) (l2:=rt y (nb - 1)) M.flip λx hx=>by
     rw[List.mem_singleton] at hx;subst hx;exact C.to _ m1 _ m2 (M.ne A5 A5) hc).flip
    rw[← S7 (c:=a) h1 S,← Array.toList_push] at M2;rw[if_neg (by decide)];refine A3 (A2 ?_)
    by_cases e:(nb - 1==1)=true
    ·rw[if_pos e]
     exact A2 ⟨hs,uy0 hl M2 (by simpa using e) (by omega)⟩
    ·rw[if_neg e]
     have L2:Hi b cmp a y (1+x+(x'+1)) (F.push y[nb - 1]) na (nb - 1):=⟨M2,S,by omega,h1,by have:=U6 e;omega,by rw[Array.size_push];have:=L.n;omega⟩
     by_cases g:bc+1 ≥ c.2.2.2.2
     ·rw[if_pos g]
      exact A2 ⟨hs,L2.le (by omega)⟩
     ·rw[if_neg g]
      exact A2 ⟨hs,rfl,L2⟩
  ·obtain⟨o,na,nb,F,ac,bc⟩:=c
   obtain⟨hs,e,L⟩:=hI;cases e;exact⟨hs,L.le (by omega)⟩
  ·obtain⟨o,na,nb,F,ac,bc⟩:=c'
   obtain⟨hs,O⟩:=hI;cases o with
   | some r=>exact A2 ⟨hs,r,rfl,O⟩
   | none =>
    have L:Hi b cmp a y (1+x) F na nb:=O;dsimp only;refine A3 (L3 (D8 ⟨rfl,?_⟩));refine A3 (B3 (C0 (I:=λx' c t=>Sm st t/\c.1=none/\Hi b cmp a y (1+x+x') c.2.2.2.1 c.2.1 c.2.2.1)
     (Q:=λc t=>Sm st t/\Ov b cmp a y (1+x+1) c.1 c.2.2.2.1 c.2.1 c.2.2.1) (λx' c' t _ U hI=>?_) (λc t hI=>?_) ⟨hs,rfl,L⟩) λc' t hI=>?_)
    ·obtain⟨o,na,nb,F,mg,ac,bc⟩:=c'
     obtain⟨hs,_,L⟩:=hI;have go:∀(r:ForInStep Sv7) (t':SortSt),Ov7 b cmp a y (1+x+x'+1) st r t'->match r with|.done c=>Sm st t'/\Ov b cmp a y (1+x+1) c.1 c.2.2.2.1 c.2.1 c.2.2.1|.yield c=>Sm st t'/\c.1=none/\Hi b cmp a y (1+x+(x'+1)) c.2.2.2.1 c.2.1 c.2.2.1:=λr t' h=>by
      cases r with
      | yield c=>exact⟨h.1,h.2⟩
      | done c =>
       obtain⟨o,na,nb,F,mg,ac,bc⟩:=c;refine⟨h.1,?_⟩;cases o with
       | some r=>exact h.2
       | none=>exact Hi.le h.2 (by omega)
     dsimp only
     by_cases hg:mg > 1
     ·rw[if_pos hg]
      show wpS (model P w) A E s (hi1 a y (mg - 1) ac bc F na nb) _ t;refine B3 (mr0 C hk hl (mg:=mg - 1) (ac:=ac) (bc:=bc) hs L) λr t' h=>?_
      have:=go r t' h;cases r<;>exact this
     ·rw[if_neg hg]
      show wpS (model P w) A E s (hi1 a y mg ac bc F na nb) _ t;refine B3 (mr0 C hk hl (mg:=mg) (ac:=ac) (bc:=bc) hs L) λr t' h=>?_
      have:=go r t' h;cases r<;>exact this
    ·obtain⟨o,na,nb,F,mg,ac,bc⟩:=c
     obtain⟨hs,e,L⟩:=hI;cases e;exact⟨hs,L.le (by omega)⟩
    ·obtain⟨o,na,nb,F,mg,ac,bc⟩:=c'
     obtain⟨hs,O⟩:=hI;cases o with
     | some r=>exact A2 ⟨hs,r,rfl,O⟩
     | none=>exact A3 (D4 (A2 ⟨hs.gal _,rfl,O⟩))
 ·exact absurd hI.2.2.lt (by omega)
 ·obtain⟨o,na,nb,F,mg⟩:=c
  obtain⟨hs,r,e,O⟩:=hI;cases e;exact A2 (k _ _ hs O)
end
theorem o20(i:Nat):mergeAt' i=(do
 let s ← get
 let (some (sa,na,power),some (sb,nb,_)):=((pendingOf s)[i]?,(pendingOf s)[i+1]?)|unsupported "internal:list.sort.pending"
 set (setPending s (((pendingOf s).setIfInBounds i (sa,na+nb,power)).eraseIdxIfInBounds (i+1)))
 let some k ← Q7 false (← elem' (arrOf s) sb) (arrOf s) sa na 0|return false
 let (sa,na):=(sa+k,na - k)
 if na==0 then return true
 let some nb ← Q7 true (← elem' (arrOf s) (sa+na - 1)) (arrOf s) sb nb (nb - 1)|return false
 if nb==0 then return true
 let x:=(arrOf s).extract sa sb
 let y:=(arrOf s).extract sb (sb+nb)
 let merged ← if na<=nb then u30 x y else ub0 x y
 modify λs=>setArr s (merged.toList.zipIdx.foldl (λa (p,j)=>a.setIfInBounds (sa+j) p) (arrOf s))
 return (failedOf (← get)).isNone):=rfl
theorem he0{M:Model}{s:Shared}{σ:Type}{u:σ}{Q:PUnit->σ->Prop}{st:σ}(h:Q ⟨⟩ u):wpS M A E s (set u:StateT σ Sem PUnit) Q st:=by
 unfold wpS;rw[StateT.run_set];exact A1 ⟨rfl,h⟩
theorem put{sa:Nat}:∀(r:List Keyed) (n:Nat) (arr:Array Keyed) (Pr o S:List Keyed),arr.toList=Pr++o++S->o.length=r.length->Pr.length=sa+n->((r.zipIdx n).foldl (λa (p,j)=>a.setIfInBounds (sa+j) p) arr).toList=Pr++r++S
 | [],n,arr,Pr,o,S,h,ho,hp=>by
  rw[List.length_nil] at ho;rw[List.eq_nil_of_length_eq_zero ho] at h;exact h
 | p::r,n,arr,Pr,[],S,h,ho,hp=>by simp at ho
 | p::r,n,arr,Pr,q::o,S,h,ho,hp=>by
  rw[List.zipIdx_cons,List.foldl_cons];have e:(arr.setIfInBounds (sa+n) p).toList=(Pr++[p])++o++S:=by
   rw[Array.toList_setIfInBounds,h,← hp];simp
  rw[put r (n+1) _ (Pr++[p]) o S e (by simpa using ho) (by simp;omega)];simp
section
variable{P:Program}{w:World}{s:Shared}{b:Array Keyed}{κ:SortKind}{cmp:Keyed->Keyed->Bool}(C:Cn P w A E s b κ cmp){st:SortSt}
def Asc(cmp:Keyed->Keyed->Bool)(l:List Keyed):Prop:=l.Pairwise λx y=>cmp x y=true
theorem seg_at{arr:Array Keyed}{L0 l S:List Keyed}(h:arr.toList=L0++l++S)(hi:i<l.length):arr[L0.length+i]?=l[i]?:=by
 rw[← Array.getElem?_toList,h,List.append_assoc,List.getElem?_append_right (by omega),Nat.add_sub_cancel_left,List.getElem?_append_left hi]
theorem la0{arr:Array Keyed}{L0 l S:List Keyed}(h:arr.toList=L0++l++S)(hi:i=L0.length)(hj:j=i+l.length):(arr.extract i j).toList=l:=by
 subst hj;rw[if0,h,hi,List.append_assoc,List.drop_left,List.take_left]
include C in
theorem kb0(hg:Gn b κ st){sa pw sb nb pq:Nat}{L0 la lb S:List Keyed}(e1:(pendingOf st)[i]?=some (sa,na,pw))(e2:(pendingOf st)[i+1]?=some (sb,nb,pq))(h:(arrOf st).toList=L0++la++lb++S)
  (h0:sa=L0.length) (h1:na=la.length) (h2:sb=sa+na) (h3:nb=lb.length) (p1:0<na) (p2:0<nb) (s1:Asc cmp la) (s2:Asc cmp lb) {Q:Bool->SortSt->Prop}
  (k:∀t m,Gn b κ t->pendingOf t=((pendingOf st).setIfInBounds i (sa,na+nb,pw)).eraseIdxIfInBounds (i+1)->(arrOf t).toList=L0++m++S->m.length=na+nb->Asc cmp m->Q true t):wpS (model P w) A E s (mergeAt' i) Q st:=by
 rw[o20];refine A3 (D2 ?_);rw[e1,e2];dsimp only;refine A3 (he0 ?_);obtain⟨u,hu⟩:∃u,u=setPending st (((pendingOf st).setIfInBounds i (sa,na+nb,pw)).eraseIdxIfInBounds (i+1)):=⟨_,rfl⟩;rw[← hu];have uk:kindOf u=κ:=by rw[hu];exact hg.kd
 have ua:arrOf u=arrOf st:=by rw[hu]
 have uf:failedOf u=none:=by rw[hu];exact hg.fa
 have up:pendingOf u=((pendingOf st).setIfInBounds i (sa,na+nb,pw)).eraseIdxIfInBounds (i+1):=by rw[hu]
 have hT:∀x∈L0++la++lb++S,x∈b.toList:=λx hx=>(M1.mp hg.pm).mem_iff.mp (by rw[h];exact hx)
 have hN:(L0++la++lb++S).Nodup:=by
  rw[← h];exact(M1.mp hg.pm).nodup_iff.mpr C.nd
 have ma:∀x∈la,x∈b.toList:=λx hx=>hT x (by simp[hx])
 have mb:∀x∈lb,x∈b.toList:=λx hx=>hT x (by simp[hx])
 have a8:(la++lb).Nodup:=by
  refine C30 ?_ hN;rw[List.append_assoc L0 la lb];exact(C40 L0 (la++lb)).trans (C50 _ S)
 have ne:∀x∈la,∀y∈lb,x≠y:=λx hx y hy=>(List.nodup_append.mp a8).2.2 x hx y hy
 obtain⟨b0,a5,eb⟩:∃b0 a5,lb=b0::a5:=by
  cases lb with
  | nil=>simp at h3;omega
  | cons x l=>exact⟨x,l,rfl⟩
 have b5:(arrOf st)[sb]?=some b0:=by
  have:=seg_at (arr:=arrOf st) (L0:=L0++la) (l:=lb) (S:=S) h (i:=0) (by omega);rw[List.length_append,Nat.add_zero,← h0,← h1,← h2,eb] at this;exact this
 have J:b0∈lb:=by rw[eb];exact A5
 rw[elem'_eq,b5];refine A3 (A2 (A3 (tt0 C uk (mb b0 J) la (λi hi=>?_) h1.symm (λx hx=>⟨ma x hx,ne x hx b0 J⟩) s1 p1 λl1 l2 hl hb ha=>?_)))
 ·have:=seg_at (arr:=arrOf st) (L0:=L0) (l:=la) (S:=lb++S) (by rw[h];simp) (i:=i) (by omega)
  rw[← h0] at this;exact this
 dsimp only;have b3:na=l1.length+l2.length:=by rw[h1,hl,List.length_append]
 have a3:Asc cmp (la++lb)->Q true u:=λz=>k _ (la++lb) ⟨uk,by rw[ua];exact hg.pm,uf⟩ up (by rw[ua,h];simp) (by rw[List.length_append,h1,h3]) z
 by_cases z1:(na - l1.length==0)=true
 ·rw[if_pos z1]
  have c0:na - l1.length=0:=by simpa using z1
  have:l2=[]:=L4 (by omega);subst this;rw[List.append_nil] at hl;subst hl;refine A2 (a3 ?_);refine N0.mpr ⟨s1,s2,λx hx y hy=>?_⟩;rw[eb] at hy;rcases B4.mp hy with rfl|a1
  ·exact hb x hx
  ·rw[eb] at s2
   exact C.tr x (ma x hx) b0 (mb b0 J) y (mb y (by rw[eb];exact hy)) (hb x hx) (P8 s2 a1)
 rw[if_neg z1];have c1:=U6 z1;have x2:l2≠[]:=λz=>by rw[z,List.length_nil] at b3;omega
 have ml:l2.getLast x2∈l2:=List.getLast_mem x2;have F:∀x∈l2,x∈la:=λx hx=>by rw[hl];exact C7 _ hx
 have b1:∀x∈l1,x∈la:=λx hx=>by rw[hl];exact G0 _ hx
 have a4:(arrOf st)[sa+l1.length+(na - l1.length) - 1]?=some (l2.getLast x2):=by
  have:=seg_at (arr:=arrOf st) (L0:=L0++l1) (l:=l2) (S:=lb++S) (by rw[h,hl];simp) (i:=l2.length - 1) (by omega);rw[List.length_append,← h0,List.getElem?_eq_getElem (by omega),← List.getLast_eq_getElem x2] at this;rw[← this];congr 1;omega
 have o1:Asc cmp l1/\Asc cmp l2/\∀x∈l1,∀y∈l2,cmp x y=true:=by
  have:=s1;rw[hl] at this;exact N0.mp this
 rw[elem'_eq,a4];refine A3 (A2 (A3 (tt0 C uk (ma _ (F _ ml)) lb (λi hi=>?_) h3.symm (λx hx=>⟨mb x hx,λz=>ne _ (F _ ml) x hx z.symm⟩) s2 (by omega) λm1 m2 hm a6 U=>?_)))
 ·have:=seg_at (arr:=arrOf st) (L0:=L0++la) (l:=lb) (S:=S) h (i:=i) (by omega)
  rw[List.length_append,← h0,← h1,← h2] at this;exact this
 dsimp only;have b9:nb=m1.length+m2.length:=by rw[h3,hm,List.length_append]
 have b4:cmp b0 (l2.getLast x2)=true:=ha _ ml
 by_cases z2:(m1.length==0)=true
 ·exfalso
  have:m1=[]:=L4 (by simpa using z2);subst this;have:=U b0 (by rw[List.nil_append] at hm;rw[← hm];exact J);rw[C.as _ (mb b0 J) _ (ma _ (F _ ml)) b4] at this;cases this
 rw[if_neg z2];have b6:=U6 z2;have o2:Asc cmp m1/\Asc cmp m2/\∀x∈m1,∀y∈m2,cmp x y=true:=by
  have:=s2;rw[hm] at this;exact N0.mp this
 have a0:∀x∈m1,x∈lb:=λx hx=>by rw[hm];exact G0 _ hx
 have a2:∀x∈m2,x∈lb:=λx hx=>by rw[hm];exact C7 _ hx
 obtain⟨O,em⟩:∃O,m1=b0::O:=by
  cases m1 with
  | nil=>exact absurd rfl b6
  | cons x l =>
   rw[eb] at hm;injection hm with hm _
   exact⟨l,by rw[hm]⟩
 have ex:((arrOf st).extract (sa+l1.length) sb).toList=l2:=la0 (L0:=L0++l1) (S:=lb++S) (by rw[h,hl];simp) (by rw[List.length_append,h0]) (by omega);have ey:((arrOf st).extract sb (sb+m1.length)).toList=m1:=la0 (L0:=L0++la) (S:=m2++S) (by rw[h,hm];simp) (by rw[List.length_append,h2,h0,h1]) rfl;obtain⟨X,eX⟩:∃X,X=(arrOf st).extract (sa+l1.length) sb:=⟨_,rfl⟩;obtain⟨Y,eY⟩:∃Y,Y=(arrOf st).extract sb (sb+m1.length):=⟨_,rfl⟩;rw[← eX] at ex ⊢;rw[← eY] at ey ⊢;have sX:X.size=l2.length:=by rw[← ex,Array.length_toList]
 have sY:Y.size=m1.length:=by rw[← ey,Array.length_toList]
 have bl:∀x∈l1,∀y∈lb,cmp x y=true:=λx hx y hy=>by
  rw[eb] at hy;rcases B4.mp hy with rfl|a1
  ·exact hb x hx
  ·rw[eb] at s2
   exact C.tr x (ma x (b1 x hx)) b0 (mb b0 J) y (mb y (by rw[eb];exact hy)) (hb x hx) (P8 s2 a1)
 have b2:∀x∈l2,∀y∈m2,cmp x y=true:=λx hx y hy=>by
  rw[← List.dropLast_concat_getLast x2] at hx;rcases B8.mp hx with M|M
  ·have o:=o1.2.1
   rw[← List.dropLast_concat_getLast x2] at o;have:=(N0.mp o).2.2 x M _ (d4.mpr rfl);exact C.tr x (ma x (F x (List.dropLast_subset l2 M))) _ (ma _ (F _ ml)) y (mb y (a2 y hy)) this (U y hy)
  ·rw[List.mem_singleton] at M
   subst M;exact U y hy
 have a9:∀(r:Array Keyed) (t:SortSt),Sm u t->Md cmp (X.toList++Y.toList) r.toList->wpS (model P w) A E s (do
   modify λs=>setArr s (List.foldl (λa x=>a.setIfInBounds (sa+l1.length+x.snd) x.fst) (arrOf s) r.toList.zipIdx)
   let __do_lift ← get
   pure (failedOf __do_lift).isNone) Q t:=λr t hs hr=>by
  refine A3 (D4 (A3 (D2 (A2 ?_))));rw[ex,ey] at hr;have a7:r.toList.length=l2.length+m1.length:=by rw[hr.pm.length_eq,List.length_append]
  have Z:∀x,x∈r.toList->x∈l2∨x∈m1:=λx hx=>B8.mp (hr.pm.mem_iff.mp hx)
  have ep:=put (sa:=sa+l1.length) r.toList 0 (arrOf t) (L0++l1) (l2++m1) (m2++S) (by rw[hs.ar,ua,h,hl,hm];simp) (by rw[a7,List.length_append]) (by rw[List.length_append,h0];rfl);have ef:(failedOf (setArr t (List.foldl (λa x=>a.setIfInBounds (sa+l1.length+x.snd) x.fst) (arrOf t) r.toList.zipIdx))).isNone=true:=by
   show (failedOf t).isNone=true;rw[hs.fa,uf];rfl
  show Q (failedOf (setArr t (List.foldl (λa x=>a.setIfInBounds (sa+l1.length+x.snd) x.fst) (arrOf t) r.toList.zipIdx))).isNone _;rw[ef];refine k _ (l1++r.toList++m2) ⟨hs.kd.trans uk,?_,hs.fa.trans uf⟩ (hs.pe.trans up) ?_ ?_ ?_
  ·refine Array.Perm.trans ?_ hg.pm
   rw[Array.perm_iff_toList_perm];show (List.foldl (λa x=>a.setIfInBounds (sa+l1.length+x.snd) x.fst) (arrOf t) r.toList.zipIdx).toList.Perm _;refine(List.Perm.of_eq ep).trans ?_;rw[h,hl,hm];have:=(hr.pm.append_left (L0++l1)).append_right (m2++S);refine this.trans (List.Perm.of_eq (by simp))
  ·refine ep.trans (by simp)
  ·rw[List.length_append,List.length_append,a7];omega
  ·refine N0.mpr ⟨N0.mpr ⟨o1.1,hr.so,λx hx y hy=>?_⟩,o2.2.1,λx hx y hy=>?_⟩
   ·rcases Z y hy with q|q
    ·exact o1.2.2 x hx y q
    ·exact bl x hx y (a0 y q)
   ·rcases B8.mp hx with q|q
    ·exact bl x q y (a2 y hy)
    ·rcases Z x q with q|q
     ·exact b2 x q y hy
     ·exact o2.2.2 x q y hy
 have mT:∀x∈X.toList++Y.toList,x∈b.toList:=λx hx=>by
  rw[ex,ey] at hx;rcases B8.mp hx with q|q
  ·exact ma x (F x q)
  ·exact mb x (a0 x q)
 have nT:(X.toList++Y.toList).Nodup:=by
  rw[ex,ey];refine C30 ?_ a8;rw[hl,hm];exact(C40 l1 l2).append (C50 m1 m2)
 have y0:Y[0]'(by omega)=b0:=by
  have:Y.toList[0]?=some b0:=by rw[ey,em];rfl
  rw[Array.getElem?_toList,getElem?_pos Y 0 (by omega)] at this;injection this
 have xl:X[X.size - 1]'(by omega)=l2.getLast x2:=by
  have:X.toList[X.size - 1]?=some (l2.getLast x2):=by rw[ex,sX,List.getElem?_eq_getElem (by omega),← List.getLast_eq_getElem x2]
  rw[Array.getElem?_toList,getElem?_pos X _ (by omega)] at this;injection this
 by_cases hle:na - l1.length<=m1.length
 ·rw[if_pos hle]
  refine A3 (mergeLo C uk ?_ (by omega) (by omega) ⟨?_,?_,?_,mT,nT⟩ a9)
  ·intro z hz x hx
   rw[getElem?_pos X _ (by omega),xl] at hx;cases hx;rw[ey] at hz;exact a6 z hz
  ·rw[y0,ex,ey,em]
   show (b0::(l2++O)).Perm (l2++b0::O);exact List.perm_middle.symm
  ·rw[y0,ex]
   exact d3.mpr ⟨λx hx=>ha x hx,o1.2.1⟩
  ·rw[y0,ey,em]
   rw[em] at o2;exact o2.1
 ·rw[if_neg hle]
  refine A3 (mergeHi C uk ?_ (by omega) (by omega) ⟨?_,?_,?_,mT,nT⟩ a9)
  ·intro z hz x hx
   rw[getElem?_pos Y _ (by omega),y0] at hx;cases hx;rw[ex] at hz;exact ha z hz
  ·have:[X[X.size - 1]]++(rt X (X.size - 1)++rt Y Y.size)=rt X X.size++rt Y Y.size:=by
    rw[S7 (c:=X) (n:=X.size) (by omega) (A4 _)];rfl
   rw[this];unfold rt;rw[List.take_of_length_le (by simp),List.take_of_length_le (by simp)];exact(C70 _).append (C70 _)
  ·have:[X[X.size - 1]]++rt X (X.size - 1)=rt X X.size:=by
    rw[S7 (c:=X) (n:=X.size) (by omega) (A4 _)];rfl
   rw[this];unfold rt;rw[List.take_of_length_le (by simp),ex];exact P9.mpr o1.2.1
  ·rw[xl]
   unfold rt;rw[List.take_of_length_le (by simp),ey];refine d3.mpr ⟨λx hx=>a6 x (N1.mp hx),P9.mpr o2.1⟩
end
section
variable{P:Program}{w:World}{s:Shared}{b:Array Keyed}{κ:SortKind}{cmp:Keyed->Keyed->Bool}
structure Ro(b:Array Keyed)(κ:SortKind)(st:SortSt)(o:Nat)(t:SortSt):Prop where
 kd:kindOf t=κ
 pm:(arrOf t).Perm b
 fa:failedOf t=none
 pe:pendingOf t=pendingOf st
 ke:∀i,i<o->(arrOf t)[i]?=(arrOf st)[i]?
theorem Ro.sz{st t:SortSt}{o:Nat}(h:Ro b κ st o t):(arrOf t).size=b.size:=h.pm.size_eq
theorem Ro.el{st t:SortSt}{o:Nat}(h:Ro b κ st o t)(hi:i<b.size):∃x,(arrOf t)[i]?=some x/\x∈b.toList:=by
 have F:i<(arrOf t).size:=by rw[h.sz];exact hi
 exact⟨(arrOf t)[i],C3 _ i F,(M1.mp h.pm).mem_iff.mp (by simp)⟩
theorem Ro.mem{st t:SortSt}{o:Nat}(h:Ro b κ st o t){x:Keyed}(e:(arrOf t)[i]?=some x):x∈b.toList:=by
 obtain⟨hi,rfl⟩:=Y2.mp e;exact(M1.mp h.pm).mem_iff.mp (by simp)
theorem Ro.ne{st t:SortSt}{o:Nat}(h:Ro b κ st o t)(hn:b.toList.Nodup){x y:Keyed}(e1:(arrOf t)[i]?=some x)(e2:(arrOf t)[j]?=some y)(hij:i<j):x≠y:=by
 have F:(arrOf t).toList.Nodup:=(M1.mp h.pm).nodup_iff.mpr hn;obtain⟨h1,rfl⟩:=Y2.mp e1;obtain⟨h2,rfl⟩:=Y2.mp e2;have:=D6.mp F i j (by simpa using h1) (by simpa using h2) hij
 simpa using this
def UpO(cmp:Keyed->Keyed->Bool)(xs:Array Keyed)(o n:Nat):Prop:=∀i j x y,i<j->j<n->xs[o+i]?=some x->xs[o+j]?=some y->cmp x y=true
def DnO(cmp:Keyed->Keyed->Bool)(xs:Array Keyed)(o n:Nat):Prop:=∀i j x y,i<j->j<n->xs[o+i]?=some x->xs[o+j]?=some y->cmp y x=true
variable(C:Cn P w A E s b κ cmp){st:SortSt}{o:Nat}
include C
theorem vm0{t:SortSt}(hr:Ro b κ st o t){x y:Keyed}(ei:(arrOf t)[i]?=some x)(ej:(arrOf t)[j]?=some y){Q:Option Bool->SortSt->Prop}(k:Q (some (cmp x y)) t):wpS (model P w) A E s (ltAt' i j) Q t:=by
 rw[ltAt'_eq];refine A3 (D2 ?_);show wpS _ _ _ _ (elem' (arrOf t) i>>=λx=>elem' (arrOf t) j>>=λy=>lt' x y) Q t;rw[elem'_eq,elem'_eq,ei,ej];exact A3 (A2 (A3 (A2 (C.ask _ _ _ _ hr.kd (hr.mem ei) (hr.mem ej) k))))
theorem qk0{t:SortSt}(hr:Ro b κ st o t)(h1:1<=n)(h:UpO cmp (arrOf t) o n){u v:Keyed}(eu:(arrOf t)[o+n - 1]?=some u)(ev:(arrOf t)[o+n]?=some v)(huv:cmp u v=true):UpO cmp (arrOf t) o (n+1):=λi j x y F hj ex ey=>by
 by_cases hjn:j<n
 ·exact h i j x y F hjn ex ey
 ·have:j=n:=by omega
  subst this;rw[ev] at ey;cases ey;rw[show o+j - 1=o+(j - 1) by omega] at eu
  by_cases hi:i=j - 1
  ·subst hi;rw[eu] at ex;cases ex;exact huv
  ·exact C.tr x (hr.mem ex) u (hr.mem eu) v (hr.mem ev) (h i (j - 1) x u (by omega) (by omega) ex eu) huv
theorem ia0{t:SortSt}(hr:Ro b κ st o t)(h1:1<=n)(h:DnO cmp (arrOf t) o n){u v:Keyed}(eu:(arrOf t)[o+n - 1]?=some u)(ev:(arrOf t)[o+n]?=some v)(huv:cmp v u=true):DnO cmp (arrOf t) o (n+1):=λi j x y F hj ex ey=>by
 by_cases hjn:j<n
 ·exact h i j x y F hjn ex ey
 ·have:j=n:=by omega
  subst this;rw[ev] at ey;cases ey;rw[show o+j - 1=o+(j - 1) by omega] at eu
  by_cases hi:i=j - 1
  ·subst hi;rw[eu] at ex;cases ex;exact huv
  ·exact C.tr v (hr.mem ev) u (hr.mem eu) x (hr.mem ex) huv (h i (j - 1) x u (by omega) (by omega) ex eu)
theorem Z70{t:SortSt}(hr:Ro b κ st o t)(hm:o+m<=b.size)(h1:1<=m){Q:Option Nat->SortSt->Prop}
  (k:∀r t,Ro b κ st o t->1<=r->r<=m->UpO cmp (arrOf t) o r->Q (some r) t):wpS (model P w) A E s (countRun' o m) Q t:=by
 rw[countRun'_eq];dsimp only;refine A3 (B3 (C0 (I:=λx c t'=>t'=t/\c=(none,x)/\UpO cmp (arrOf t) o x)
  (Q:=λc t'=>t'=t/\∃n,c=(none,n)/\1<=n/\n<=m/\UpO cmp (arrOf t) o n/\(n=m∨∃u v,(arrOf t)[o+n - 1]?=some u/\(arrOf t)[o+n]?=some v/\cmp v u=true)) (λx c t' J M hI=>?_) (λc t' hI=>?_) ⟨rfl,rfl,λi j x y a c _ _=>by omega⟩) λc t' hI=>?_)
 ·obtain⟨e1,e2,F⟩:=hI
  subst e1;subst e2;obtain⟨v,ev,mv⟩:=hr.el (i:=o+x) (by omega);obtain⟨u,eu,mu⟩:=hr.el (i:=o+x - 1) (by omega);refine A3 (vm0 C hr ev eu ?_);cases hc:cmp v u with
  | true=>exact A2 ⟨rfl,x,rfl,J,by omega,F,.inr ⟨u,v,eu,ev,hc⟩⟩
  | false=>exact A2 ⟨rfl,rfl,qk0 C hr (by omega) F eu ev (C.to u mu v mv (hr.ne C.nd eu ev (by omega)) hc)⟩
 ·obtain⟨e1,e2,F⟩:=hI
  subst e1;subst e2;have e:max 1 m=m:=by omega
  rw[e] at F ⊢;exact⟨rfl,m,rfl,h1,A4 _,F,.inl rfl⟩
 obtain⟨e1,n,e2,n1,n2,hu,Y⟩:=hI;subst e1;subst e2;dsimp only
 by_cases hnm:n=m
 ·rw[if_pos (by rw[hnm];simp)]
  exact A2 (k n _ hr n1 n2 hu)
 rw[if_neg (by simpa using hnm)];obtain⟨u,v,eu,ev,hc⟩:=Y.resolve_left hnm
 by_cases hg1:n > 1
 ·rw[if_pos hg1]
  obtain⟨x,ex,mx⟩:=hr.el (i:=o) (by omega);refine A3 (vm0 C hr ex eu ?_);rw[hu 0 (n - 1) x u (by omega) (by omega) ex (by rw[← eu];congr 1;omega)];exact A2 (k n _ hr n1 n2 hu)
 rw[if_neg hg1];have:n=1:=by omega
 subst this;refine A3 (L3 (D8 ⟨rfl,?_⟩));have d2:DnO cmp (arrOf t') o (1+1):=λi j x y U hj ex ey=>by
  have hi:i=0:=by omega
  have a1:j=1:=by omega
  subst hi;subst a1;rw[show o+1 - 1=o+0 by omega,ex] at eu;rw[ey] at ev;cases eu;cases ev;exact hc
 refine A3 (B3 (C0 (I:=λx c t=>t=t'/\c=(none,x,0)/\DnO cmp (arrOf t') o x)
  (Q:=λc t=>t=t'/\∃n,c=(none,n,0)/\2<=n/\n<=m/\DnO cmp (arrOf t') o n) (λx c t J M hI=>?_) (λc t hI=>?_) ⟨rfl,rfl,d2⟩) λc t hI=>?_)
 ·obtain⟨e1,e2,F⟩:=hI
  subst e1;subst e2;obtain⟨v,ev,mv⟩:=hr.el (i:=o+x) (by omega);obtain⟨u,eu,mu⟩:=hr.el (i:=o+x - 1) (by omega);refine A3 (vm0 C hr ev eu ?_);cases hc:cmp v u with
  | true =>
   dsimp only;rw[if_pos rfl,if_neg (by omega)];exact A2 ⟨rfl,rfl,ia0 C hr (by omega) F eu ev hc⟩
  | false =>
   dsimp only;rw[if_neg (by simp)];refine A3 (vm0 C hr eu ev ?_);rw[C.to u mu v mv (hr.ne C.nd eu ev (by omega)) hc];exact A2 ⟨rfl,x,rfl,by omega,by omega,F⟩
 ·obtain⟨e1,e2,F⟩:=hI
  subst e1;subst e2;have e:max (1+1) m=m:=by omega
  rw[e] at F ⊢;exact⟨rfl,m,rfl,by omega,A4 _,F⟩
 obtain⟨e1,n,e2,n1,n2,hd⟩:=hI;subst e1;subst e2;dsimp only;rw[if_neg (by omega),reverseSlice'_eq];refine A3 (D4 ?_);have Z:o+n<=(arrOf t).size:=by rw[hr.sz];omega
 have O:∀i,(mirror (arrOf t) o (o+n) ((o+n - o)/2))[i]?=if o<=i/\i<o+n then (arrOf t)[o+(o+n) - 1 - i]? else (arrOf t)[i]?:=λi=>by
  rw[getElem?_mirror_all Z]
 have g2:Ro b κ st o (setArr t (mirror (arrOf t) o (o+n) ((o+n - o)/2))):=⟨hr.kd,(mirror_perm _ _ _ _).trans hr.pm,hr.fa,hr.pe,λi hi=>by
  show (mirror (arrOf t) o (o+n) ((o+n - o)/2))[i]?=_;rw[O,if_neg (by omega)];exact hr.ke i hi⟩
 obtain⟨t2,S⟩:∃t2,t2=setArr t (mirror (arrOf t) o (o+n) ((o+n - o)/2)):=⟨_,rfl⟩;show wpS _ _ _ _ _ _ (setArr t (mirror (arrOf t) o (o+n) ((o+n - o)/2)));rw[← S] at g2 ⊢;have a0:UpO cmp (arrOf t2) o n:=λi j x y U hj ex ey=>by
  rw[S] at ex ey;have ex:(mirror (arrOf t) o (o+n) ((o+n - o)/2))[o+i]?=some x:=ex;have ey:(mirror (arrOf t) o (o+n) ((o+n - o)/2))[o+j]?=some y:=ey;rw[O,if_pos (by omega)] at ex ey;exact hd (n - 1 - j) (n - 1 - i) y x (by omega) (by omega) (by rw[← ey];congr 1;omega) (by rw[← ex];congr 1;omega)
 refine A3 (B3 (C0 (I:=λx c t'=>t'=t2/\c=(none,x)/\UpO cmp (arrOf t2) o x)
  (Q:=λc t'=>t'=t2/\∃n,c=(none,n)/\1<=n/\n<=m/\UpO cmp (arrOf t2) o n) (λx c t' J M hI=>?_) (λc t' hI=>?_) ⟨rfl,rfl,a0⟩) λc t' hI=>?_)
 ·obtain⟨e1,e2,F⟩:=hI
  subst e1;subst e2;obtain⟨v,ev,mv⟩:=g2.el (i:=o+x) (by omega);obtain⟨u,eu,mu⟩:=g2.el (i:=o+x - 1) (by omega);refine A3 (vm0 C g2 ev eu ?_);cases hc:cmp v u with
  | true=>exact A2 ⟨rfl,x,rfl,by omega,by omega,F⟩
  | false=>exact A2 ⟨rfl,rfl,qk0 C g2 (by omega) F eu ev (C.to u mu v mv (g2.ne C.nd eu ev (by omega)) hc)⟩
 ·obtain⟨e1,e2,F⟩:=hI
  subst e1;subst e2;have e:max n m=m:=by omega
  rw[e] at F ⊢;exact⟨rfl,m,rfl,h1,A4 _,F⟩
 obtain⟨e1,n,e2,n1,n2,hu⟩:=hI;subst e1;subst e2;exact A2 (k n _ g2 n1 n2 hu)
theorem ac0{a:Nat}{t:SortSt}(hr:Ro b κ st o t)(hn:o+n<=b.size)(ha:a<=n)(hu:UpO cmp (arrOf t) o a){Q:Bool->SortSt->Prop}
  (k:∀t,Ro b κ st o t->UpO cmp (arrOf t) o n->Q true t):wpS (model P w) A E s (binarySort' o n a) Q t:=by
 rw[binarySort'_eq];refine A3 (B3 (C0 (I:=λx c t=>c=(none,())/\Ro b κ st o t/\UpO cmp (arrOf t) o (min x n)) (Q:=λc t=>c=(none,())/\Ro b κ st o t/\UpO cmp (arrOf t) o n) (λx c t Y a1 hI=>?_) (λc t hI=>?_) ⟨rfl,hr,?_⟩) λc t hI=>?_)
 ·obtain⟨e1,g2,u2⟩:=hI
  subst e1;have ex:min x n=x:=by omega
  rw[ex] at u2;have hx:o+x<b.size:=by omega
  obtain⟨v,ev,mv⟩:=g2.el hx;refine A3 (B3 (C0 (I:=λy c t2=>t2=t/\∃l r,c=(none,l,r)/\l<=r/\r<=x/\r - l<=x - y/\(∀i z,i<l->(arrOf t)[o+i]?=some z->cmp z v=true)/\∀i z,r<=i->i<x->(arrOf t)[o+i]?=some z->cmp v z=true)
   (Q:=λc t2=>t2=t/\∃l r,c=(none,l,r)/\l<=x/\(∀i z,i<l->(arrOf t)[o+i]?=some z->cmp z v=true)/\∀i z,l<=i->i<x->(arrOf t)[o+i]?=some z->cmp v z=true) (λy c t2 _ a0 hJ=>?_) (λc t2 hJ=>?_)
   ⟨rfl,0,x,rfl,by omega,by omega,by omega,λi z hi=>by omega,λi z h1 h2=>by omega⟩) λc t2 hJ=>?_)
  ·obtain⟨e1,l,r,e2,S,F,hm,lo,hi⟩:=hJ
   subst e1;subst e2;dsimp only
   by_cases hge:l ≥ r
   ·rw[if_pos hge]
    have:l=r:=by omega
    subst this;exact A2 ⟨rfl,l,l,rfl,F,lo,hi⟩
   ·rw[if_neg hge]
    obtain⟨u,eu,mu⟩:=g2.el (i:=o+(l+r)/2) (by omega);refine A3 (vm0 C g2 ev eu ?_);cases hc:cmp v u with
    | true =>
     refine A2 ⟨rfl,l,(l+r)/2,rfl,by omega,by omega,by omega,lo,λi z h1 h2 ez=>?_⟩
     by_cases q:i=(l+r)/2
     ·subst q;rw[eu] at ez;cases ez;exact hc
     ·exact C.tr v mv u mu z (g2.mem ez) hc (u2 _ i u z (by omega) (by omega) eu ez)
    | false =>
     have O:=C.to u mu v mv (g2.ne C.nd eu ev (by omega)) hc;refine A2 ⟨rfl,(l+r)/2+1,r,rfl,by omega,by omega,by omega,λi z h1 ez=>?_,hi⟩
     by_cases q:i=(l+r)/2
     ·subst q;rw[eu] at ez;cases ez;exact O
     ·exact C.tr z (g2.mem ez) u mu v mv (u2 i _ z u (by omega) (by omega) ez eu) O
  ·obtain⟨e1,l,r,e2,S,F,hm,lo,hi⟩:=hJ
   subst e1;subst e2;have:l=r:=by omega
   subst this;exact⟨rfl,l,l,rfl,F,lo,hi⟩
  ·obtain⟨e1,l,r,e2,Z,lo,hi⟩:=hJ
   subst e1;subst e2;show wpS _ _ _ _ (do moveDown' (o+x) (o+l);pure (ForInStep.yield (none,()))) _ _;rw[moveDown'_eq];have U:o+x<(arrOf t2).size:=by rw[g2.sz];exact hx
   have M:∀i,(bubble (arrOf t2) (o+x) (o+x - (o+l)))[i]?=if i=o+l then some v else if o+l<i/\i<=o+x then (arrOf t2)[i - 1]? else (arrOf t2)[i]?:=λi=>by
    rw[getElem?_bubble U _ (by omega),show o+x - (o+x - (o+l))=o+l by omega,ev]
   refine A3 (D4 (A2 ⟨rfl,⟨g2.kd,(bubble_perm _ _ _).trans g2.pm,g2.fa,g2.pe,λi hi=>?_⟩,?_⟩))
   ·show (bubble (arrOf t2) (o+x) (o+x - (o+l)))[i]?=_
    rw[M,if_neg (by omega),if_neg (by omega)];exact g2.ke i hi
   have e3:min (x+1) n=x+1:=by omega
   rw[e3];intro i j y z J hj ey ez;have ey:(bubble (arrOf t2) (o+x) (o+x - (o+l)))[o+i]?=some y:=ey;have ez:(bubble (arrOf t2) (o+x) (o+x - (o+l)))[o+j]?=some z:=ez;rw[M] at ey ez
   by_cases q1:j=l
   ·rw[if_pos (by omega)] at ez
    rw[if_neg (by omega),if_neg (by omega)] at ey;cases ez;exact lo i y (by omega) ey
   ·rw[if_neg (by omega)] at ez
    by_cases q2:i=l
    ·rw[if_pos (by omega)] at ey
     rw[if_pos ⟨by omega,by omega⟩,show o+j - 1=o+(j - 1) by omega] at ez;cases ey;exact hi (j - 1) z (by omega) (by omega) ez
    ·rw[if_neg (by omega)] at ey
     by_cases q3:l<i
     ·rw[if_pos ⟨by omega,by omega⟩,show o+i - 1=o+(i - 1) by omega] at ey
      rw[if_pos ⟨by omega,by omega⟩,show o+j - 1=o+(j - 1) by omega] at ez;exact u2 (i - 1) (j - 1) y z (by omega) (by omega) ey ez
     ·rw[if_neg (by omega)] at ey
      by_cases q4:l<j
      ·rw[if_pos ⟨by omega,by omega⟩,show o+j - 1=o+(j - 1) by omega] at ez
       exact u2 i (j - 1) y z (by omega) (by omega) ey ez
      ·rw[if_neg (by omega)] at ez
       exact u2 i j y z J (by omega) ey ez
 ·obtain⟨hc,g2,u2⟩:=hI
  refine⟨hc,g2,?_⟩
  rwa [show min (max (max a 1) n) n=n by omega] at u2
 ·intro i j x y J hj ex ey
  exact hu i j x y J (by omega) ex ey
 ·obtain⟨e1,g2,u2⟩:=hI
  subst e1;exact A2 (k t g2 u2)
end
def Rn(cmp:Keyed->Keyed->Bool):Nat->List (Nat×Nat×Nat)->List (List Keyed)->Prop
 | _,[],[]=>True
 | o,p::ps,r::rs=>p.1=o/\p.2.1=r.length/\0<r.length/\Asc cmp r/\Rn cmp (o+r.length) ps rs
 | _,_,_=>False
section
variable{cmp:Keyed->Keyed->Bool}
theorem d70{p:Prop}[Decidable p]{k:Nat}(h1:m+1<k)(h2:n+1<k):(if p then m else n)+1<k:=by split<;>assumption
theorem rz0:∀{ps:List (Nat×Nat×Nat)} {rs:List (List Keyed)} {o:Nat},Rn cmp o ps rs->ps.length=rs.length/\ps.length<=rs.flatten.length
 | [],[],_,_=>⟨rfl,K2 _⟩
 | p::ps,r::rs,o,h=>by
  obtain⟨_,_,h3,_,h5⟩:=h;obtain⟨i1,i2⟩:=rz0 h5;refine⟨by rw[List.length_cons,List.length_cons,i1],?_⟩;rw[List.flatten_cons,List.length_append,List.length_cons];omega
 | [],_::_,_,h=>h.elim
 | _::_,[],_,h=>h.elim
theorem ms0:∀{i:Nat} {ps:List (Nat×Nat×Nat)} {rs:List (List Keyed)} {o:Nat},Rn cmp o ps rs->i+1<ps.length ->
  ∃ps1 sa na pw sb nb pq ps2 rs1 la lb rs2,ps=ps1++(sa,na,pw)::(sb,nb,pq)::ps2/\ps1.length=i/\rs=rs1++la::lb::rs2/\sa=o+rs1.flatten.length/\na=la.length/\sb=sa+na/\nb=lb.length/\0<na/\0<nb/\Asc cmp la/\Asc cmp lb /\
   ∀m:List Keyed,Asc cmp m->m.length=na+nb->Rn cmp o (ps1++(sa,na+nb,pw)::ps2) (rs1++m::rs2)
 | 0,(sa,na,pw)::(sb,nb,pq)::ps,la::lb::rs,o,h,_=>by
  obtain⟨h1,h2,h3,h4,g1,g2,g3,g4,g5⟩:=h;dsimp only at h1 h2 g1 g2;subst h1;subst h2;subst g1;subst g2;refine⟨[],_,_,pw,_,_,pq,ps,[],la,lb,rs,rfl,rfl,rfl,rfl,rfl,rfl,rfl,h3,g3,h4,g4,λm hm hl=>?_⟩;refine⟨rfl,hl.symm,by omega,hm,?_⟩;rw[hl,← Nat.add_assoc];exact g5
 | i+1,p::ps,r::rs,o,h,hi=>by
  obtain⟨h1,h2,h3,h4,h5⟩:=h;obtain⟨ps1,sa,na,pw,sb,nb,pq,ps2,rs1,la,lb,rs2,e1,e2,e3,e4,e5,e6,e7,e8,e9,f1,f2,k⟩:=ms0 (i:=i) h5 (by simpa using hi);subst e1;subst e3;refine⟨p::ps1,sa,na,pw,sb,nb,pq,ps2,r::rs1,la,lb,rs2,rfl,by rw[List.length_cons,e2],rfl,?_,e5,e6,e7,e8,e9,f1,f2,λm hm hl=>⟨h1,h2,h3,h4,k m hm hl⟩⟩;rw[e4,List.flatten_cons,List.length_append];omega
 | _,[],[],_,_,hi=>by simp at hi
 | _,[_],_,_,_,hi=>by simp at hi
 | _,[],_::_,_,h,_=>h.elim
 | _,_::_,[],_,h,_=>h.elim
 | 0,_::_::_,[_],_,h,_=>h.2.2.2.2.elim
theorem io0:∀{ps:List (Nat×Nat×Nat)} {rs:List (List Keyed)} {o:Nat} (k pw:Nat),Rn cmp o ps rs->Rn cmp o (ps.modify k λq=>(q.1,q.2.1,pw)) rs
 | [],_,_,k,pw,h=>by rw[List.modify_nil];exact h
 | p::ps,r::rs,o,0,pw,h=>h
 | p::ps,r::rs,o,k+1,pw,h=>⟨h.1,h.2.1,h.2.2.1,h.2.2.2.1,io0 k pw h.2.2.2.2⟩
 | _::_,[],_,_,_,h=>h.elim
theorem ov0:∀{ps:List (Nat×Nat×Nat)} {rs:List (List Keyed)} {o:Nat} {r:List Keyed} {pw:Nat},Rn cmp o ps rs->0<r.length->Asc cmp r->Rn cmp o (ps++[(o+rs.flatten.length,r.length,pw)]) (rs++[r])
 | [],[],o,r,pw,_,h1,h2=>⟨rfl,rfl,h1,h2,trivial⟩
 | p::ps,q::rs,o,r,pw,h,h1,h2=>by
  have:=ov0 (pw:=pw) h.2.2.2.2 h1 h2;refine⟨h.1,h.2.1,h.2.2.1,h.2.2.2.1,?_⟩;rw[List.flatten_cons,List.length_append,← Nat.add_assoc];exact this
 | [],_::_,_,_,_,h,_,_=>h.elim
 | _::_,[],_,_,_,h,_,_=>h.elim
end
section
variable{P:Program}{w:World}{s:Shared}{b:Array Keyed}{κ:SortKind}{cmp:Keyed->Keyed->Bool}
structure Sv(b:Array Keyed)(κ:SortKind)(cmp:Keyed->Keyed->Bool)(rest:List Keyed)(lo:Nat)(t:SortSt):Prop where
 gn:Gn b κ t
 rn:∃rs,(arrOf t).toList=rs.flatten++rest/\rs.flatten.length=lo/\Rn cmp 0 (pendingOf t).toList rs
variable(C:Cn P w A E s b κ cmp)
include C
theorem v60{rest:List Keyed}{lo:Nat}{t:SortSt}(h:Sv b κ cmp rest lo t)(hi:i+1<(pendingOf t).size){Q:Bool->SortSt->Prop}
  (k:∀t',Sv b κ cmp rest lo t'->(pendingOf t').size+1=(pendingOf t).size->Q true t'):wpS (model P w) A E s (mergeAt' i) Q t:=by
 obtain⟨rs,e1,e2,e3⟩:=h.rn;obtain⟨M,sa,na,pw,sb,nb,pq,O,J,la,lb,F,f1,f2,f3,f4,f5,f6,f7,f8,f9,g1,g2,kk⟩:=ms0 e3 (by simpa using hi);rw[Nat.zero_add] at f4;subst f3;have q1:(pendingOf t)[i]?=some (sa,na,pw):=by
  rw[← Array.getElem?_toList,f1,← f2];simp
 have q2:(pendingOf t)[i+1]?=some (sb,nb,pq):=by
  rw[← Array.getElem?_toList,f1,← f2,List.getElem?_append_right (by omega),Nat.add_sub_cancel_left];rfl
 refine kb0 C h.gn q1 q2 (L0:=J.flatten) (la:=la) (lb:=lb) (S:=F.flatten++rest) (by rw[e1];simp) f4 f5 f6 f7 f8 f9 g1 g2 λt' m gn pe ar ml ma=>?_
 have pl:(pendingOf t').toList=M++(sa,na+nb,pw)::O:=by
  rw[pe,Array.toList_eraseIdxIfInBounds,Array.toList_setIfInBounds,f1,← f2];simp only[List.set_append_right _ _ (A4 _),Nat.sub_self,List.set_cons_zero];rw[List.eraseIdx_append_of_length_le (by omega),Nat.add_sub_cancel_left];rfl
 refine k t' ⟨gn,J++m::F,by rw[ar];simp,?_,by rw[pl];exact kk m ma ml⟩ ?_
 ·rw[← e2]
  simp only[List.flatten_append,List.flatten_cons,List.length_append];omega
 ·rw[← Array.length_toList,pl,← Array.length_toList,f1]
  simp only[List.length_append,List.length_cons];omega
theorem bh0{st:SortSt}{Q:Unit->SortSt->Prop}(hk:kindOf st=κ)(hp:(arrOf st).Perm b)(hf:failedOf st=none)(he:pendingOf st=#[])(h2:2<=b.size)
  (k:∀t,(arrOf t).Perm b->failedOf t=none->Up cmp (arrOf t) b.size->Q () t):wpS (model P w) A E s sortRuns' Q st:=by
 rw[sortRuns'_eq];refine A3 (D2 ?_);dsimp only;rw[show (arrOf st).size=b.size from hp.size_eq];have S0:Sv b κ cmp (arrOf st).toList 0 st:=⟨⟨hk,hp,hf⟩,[],rfl,rfl,by rw[he];trivial⟩;refine A3 (B3 (C0 (I:=λx c t=>∃lo rest,c=(none,lo)/\x<=lo/\lo<=b.size/\Sv b κ cmp rest lo t)
  (Q:=λc t=>c=(none,b.size)/\∃rest,Sv b κ cmp rest b.size t) (λx c t _ hx hI=>?_) (λc t hI=>?_) ⟨0,_,rfl,A4 0,K2 _,S0⟩) λc t hI=>?_)
 ·obtain⟨lo,rest,e1,a4,a6,S⟩:=hI
  subst e1;dsimp only
  by_cases hge:lo ≥ b.size
  ·rw[if_pos hge]
   have:lo=b.size:=by omega
   subst this;exact A2 ⟨rfl,rest,S⟩
  rw[if_neg hge];have hr:Ro b κ t lo t:=⟨S.gn.kd,S.gn.pm,S.gn.fa,rfl,λi _=>rfl⟩;refine A3 (Z70 C hr (m:=b.size - lo) (by omega) (by omega) λJ t2 a1 r1 r2 u2=>?_);dsimp only;have O:∀(n:Nat) (t3:SortSt),Ro b κ t lo t3->UpO cmp (arrOf t3) lo n->1<=n->lo+n<=b.size->∃r F,Sv b κ cmp (r++F) lo t3/\r.length=n/\Asc cmp r:=λn t3 M u3 n1 n2=>by
   obtain⟨rs,e1,e2,e3⟩:=S.rn;have a2:(arrOf t3).toList.length=b.size:=by rw[Array.length_toList];exact M.sz
   have a3:(arrOf t3).toList.take lo=rs.flatten:=by
    refine Y1 λi=>?_
    by_cases hi:i<lo
    ·rw[List.getElem?_take_of_lt hi,Array.getElem?_toList,M.ke i hi,← Array.getElem?_toList,e1,List.getElem?_append_left (by omega)]
    ·rw[List.getElem?_eq_none (by rw[List.length_take];omega),List.getElem?_eq_none (by omega)]
   refine⟨((arrOf t3).toList.drop lo).take n,((arrOf t3).toList.drop lo).drop n,⟨⟨M.kd,M.pm,M.fa⟩,rs,?_,e2,by rw[M.pe];exact e3⟩,?_,?_⟩
   ·rw[List.take_append_drop,← a3,List.take_append_drop]
   ·rw[List.length_take,List.length_drop,a2];omega
   ·refine D6.mpr λi j hi hj U=>?_
    rw[List.length_take,List.length_drop,a2] at hi hj;have ei:(arrOf t3)[lo+i]?=some (((arrOf t3).toList.drop lo).take n)[i]:=by
     rw[List.getElem_take,List.getElem_drop,← Array.getElem?_toList];exact C3 (arrOf t3).toList (lo+i) _
    have ej:(arrOf t3)[lo+j]?=some (((arrOf t3).toList.drop lo).take n)[j]:=by
     rw[List.getElem_take,List.getElem_drop,← Array.getElem?_toList];exact C3 (arrOf t3).toList (lo+j) _
    exact u3 i j _ _ U (by omega) ei ej
  have push:∀(n:Nat) (t4:SortSt) (r F:List Keyed),Sv b κ cmp (r++F) lo t4->r.length=n->Asc cmp r->1<=n->Sv b κ cmp F (lo+n) (setPending t4 ((pendingOf t4).push (lo,n,0))):=λn t4 r F S4 hl ha n1=>by
   obtain⟨rs,e1,e2,e3⟩:=S4.rn;refine⟨⟨S4.gn.kd,S4.gn.pm,S4.gn.fa⟩,rs++[r],?_,?_,?_⟩
   ·show (arrOf t4).toList=_
    rw[e1];simp
   ·rw[← e2,← hl];simp
   ·show Rn cmp 0 ((pendingOf t4).push (lo,n,0)).toList _
    rw[Array.toList_push];have:=ov0 (pw:=0) e3 (r:=r) (by omega) ha;rw[Nat.zero_add,e2,hl] at this;exact this
  have a0:∀(rest:List Keyed) (t4:SortSt) (i pw:Nat),Sv b κ cmp rest lo t4->Sv b κ cmp rest lo (setPending t4 ((pendingOf t4).modify i λx=>(x.1,x.2.1,pw))):=λrest t4 i pw S4=>by
   obtain⟨rs,e1,e2,e3⟩:=S4.rn;refine⟨⟨S4.gn.kd,S4.gn.pm,S4.gn.fa⟩,rs,e1,e2,?_⟩;show Rn cmp 0 ((pendingOf t4).modify i λx=>(x.1,x.2.1,pw)).toList _;rw[Array.toList_modify];exact io0 i pw e3
  by_cases hlt:J<minRun' b.size b.size 0
  ·rw[if_pos hlt]
   refine A3 (L3 (D8 ⟨rfl,?_⟩));refine A3 (ac0 C a1 (by omega) (by omega) u2 λt3 M u3=>?_);simp only[Bool.not_true,Bool.false_eq_true,if_false];obtain⟨n,hn⟩:∃n,n=min (b.size - lo) (minRun' b.size b.size 0):=⟨_,rfl⟩;rw[← hn] at u3 ⊢;have n1:1<=n:=by omega
   have n2:lo+n<=b.size:=by omega
   clear hn;obtain⟨r,F,S3,hl,ha⟩:=O n t3 M u3 n1 n2;refine A3 (D2 ?_);cases hb:(pendingOf t3).back? with
   | none=>exact A3 (D4 (A2 ⟨lo+n,F,rfl,by omega,by omega,push n t3 r F S3 hl ha n1⟩))
   | some q =>
    obtain⟨s1,n3,pw⟩:=q;dsimp only;refine A3 (B3 (C0 (I:=λx c t=>c=(none,())/\Sv b κ cmp (r++F) lo t) (Q:=λc t=>c=(none,())/\Sv b κ cmp (r++F) lo t) (λx c t _ _ hJ=>?_) (λ_ _ hJ=>hJ) ⟨rfl,S3⟩) λc t hJ=>?_)
    ·obtain⟨e1,S4⟩:=hJ
     subst e1;refine A3 (D2 ?_)
     by_cases h1:(pendingOf t).size > 1
     ·rw[if_pos h1]
      cases hq:(pendingOf t)[(pendingOf t).size - 2]? with
      | none=>exact A2 ⟨rfl,S4⟩
      | some q =>
       obtain⟨q1,q2,Z⟩:=q;dsimp only;split
       ·exact A2 ⟨rfl,S4⟩
       ·exact A3 (v60 C S4 (by omega) λt' S' _=>A2 ⟨rfl,S'⟩)
     ·rw[if_neg h1]
      exact A2 ⟨rfl,S4⟩
    ·obtain⟨e1,S4⟩:=hJ
     subst e1;exact A3 (D4 (A3 (D4 (A2 ⟨lo+n,F,rfl,by omega,by omega,push n _ r F (a0 _ _ _ _ S4) hl ha n1⟩))))
  ·rw[if_neg hlt]
   have n1:=r1;have n2:lo+J<=b.size:=by omega
   obtain⟨r,F,S3,hl,ha⟩:=O J t2 a1 u2 n1 n2;refine A3 (D2 ?_);cases hb:(pendingOf t2).back? with
   | none=>exact A3 (D4 (A2 ⟨lo+J,F,rfl,by omega,by omega,push J t2 r F S3 hl ha n1⟩))
   | some q =>
    obtain⟨s1,n3,pw⟩:=q;dsimp only;refine A3 (B3 (C0 (I:=λx c t=>c=(none,())/\Sv b κ cmp (r++F) lo t) (Q:=λc t=>c=(none,())/\Sv b κ cmp (r++F) lo t) (λx c t _ _ hJ=>?_) (λ_ _ hJ=>hJ) ⟨rfl,S3⟩) λc t hJ=>?_)
    ·obtain⟨e1,S4⟩:=hJ
     subst e1;refine A3 (D2 ?_)
     by_cases h1:(pendingOf t).size > 1
     ·rw[if_pos h1]
      cases hq:(pendingOf t)[(pendingOf t).size - 2]? with
      | none=>exact A2 ⟨rfl,S4⟩
      | some q =>
       obtain⟨q1,q2,Z⟩:=q;dsimp only;split
       ·exact A2 ⟨rfl,S4⟩
       ·exact A3 (v60 C S4 (by omega) λt' S' _=>A2 ⟨rfl,S'⟩)
     ·rw[if_neg h1]
      exact A2 ⟨rfl,S4⟩
    ·obtain⟨e1,S4⟩:=hJ
     subst e1;exact A3 (D4 (A3 (D4 (A2 ⟨lo+J,F,rfl,by omega,by omega,push J _ r F (a0 _ _ _ _ S4) hl ha n1⟩))))
 ·obtain⟨lo,rest,e1,a4,a6,S⟩:=hI
  have:lo=b.size:=by omega
  subst this;exact⟨e1,rest,S⟩
 ·obtain⟨e1,rest,S⟩:=hI
  subst e1;dsimp only;have a9:(pendingOf t).size<=b.size:=by
   obtain⟨rs,e1,e2,e3⟩:=S.rn;have:=rz0 e3;rw[Array.length_toList,e2] at this;exact this.2
  refine A3 (B3 (C0 (I:=λx c t=>c=(none,())/\Sv b κ cmp rest b.size t/\(pendingOf t).size<=max 1 (b.size - x))
   (Q:=λc t=>c=(none,())/\Sv b κ cmp rest b.size t/\(pendingOf t).size<=1) (λx c t _ hx hI=>?_) (λc t hI=>?_) ⟨rfl,S,by omega⟩) λc t hI=>?_)
  ·obtain⟨e1,S,hz⟩:=hI
   subst e1;refine A3 (D2 ?_)
   by_cases hle:(pendingOf t).size<=1
   ·rw[if_pos hle]
    exact A2 ⟨rfl,S,hle⟩
   rw[if_neg hle];refine A3 (v60 C S ?_ λt' S' a8=>?_)
   ·exact d70 (by omega) (by omega)
   ·exact A2 ⟨rfl,S',by omega⟩
  ·obtain⟨e1,S,hz⟩:=hI
   exact⟨e1,S,by omega⟩
  ·obtain⟨e1,S,hz⟩:=hI
   subst e1;refine A2 (k t S.gn.pm S.gn.fa ?_);obtain⟨rs,e1,e2,e3⟩:=S.rn;have hl:=(rz0 e3).1;rw[Array.length_toList] at hl;have Y:rest=[]:=by
    have:=D1 List.length e1;rw[List.length_append,e2,Array.length_toList,S.gn.pm.size_eq] at this;exact L4 (by omega)
   subst Y;rw[List.append_nil] at e1;have ha:Asc cmp (arrOf t).toList:=by
    match rs,e1,e3,hl with
    | [],e1,_,_=>rw[e1];exact List.Pairwise.nil
    | [r],e1,e3,_ =>
     rw[e1]
     match hq:(pendingOf t).toList,e3 with
     | p::ps,e3=>simpa using e3.2.2.2.1
     | [],e3=>exact e3.elim
    | _::_::_,_,_,hl=>simp at hl;omega
   intro i j x y U hj ex ey;rw[← Array.getElem?_toList] at ex ey;obtain⟨a5,rfl⟩:=H0.mp ex;obtain⟨a7,rfl⟩:=H0.mp ey;exact D6.mp ha i j a5 a7 U
end
section
variable{P:Program}{w:World}{s:Shared}
theorem cnP(hv:Prs s.heap vs)(f:Bool):Cn P w A E s (pairsOf vs) (tuples' f) (xa0 s.heap):=by
 have C:=cpP (P:=P) (w:=w) (A:=A) (E:=E) hv f;refine⟨λst x y Q hk hx hy k=>?_,C.nd,C.tr,C.to,λx _ y _ h=>?_⟩
 ·have el:∀x∈(pairsOf vs).toList,x.1∈vs:=λx hx=>by
   rw[pairsOf_toList] at hx;obtain⟨i,hi,e⟩:=E5.mp hx;rw[List.getElem_zip] at e;rw[← e];exact C8 _
  obtain⟨q,hq⟩:=hv.all _ (el x hx);obtain⟨r,hr⟩:=hv.all _ (el y hy);unfold xa0 at k;rw[xt0 hq,xt0 hr] at k;rw[lt'_eq];refine A3 (D2 ?_);rw[hk];exact A3 (L3 (L1 (ui0 hq hr ⟨rfl,A2 k⟩)))
 ·unfold xa0 at *
  cases e:lt2 (pk s.heap y.1) (pk s.heap x.1) with
  | false=>rfl
  | true=>rw[xn0] at *;omega
theorem er0{F:Fin->Shared->Prop}(ho:s.heap.get? a=some (seqObj "list" vs.toArray n))(hv:Prs s.heap vs)(h64:vs.length<=sizeLine)
  (h:∀out:Array Value,out.toList.Perm vs->(out.toList.map (pk s.heap)).Pairwise (λx y=>lt2 x y=true)->F (.done (.ret .none)) { s with heap:=sortedHeap s.heap a vs out }) :
  wpAny (model P w) A (Builtin.«list.sort» ⟨[.ref a],[]⟩) F E s:=by
 rw[list_sort_plain];have la:a<s.heap.objs.size:=A6 ho;obtain⟨ep,hu⟩:∃ep,(s.heap.update a (Obj.mapSeq λ_=>#[])).get? a=some (seqObj "list" #[] ep):=⟨_,get?_update_seq ho (λ_=>#[])⟩;refine A0 (Y3 ho rfl (A0 (listUpdate_at ho rfl (A0 (seqEpoch_at hu rfl (A0 (x5 (A0 (wpAny_newList (C4 ?_))))))))));obtain⟨g,J⟩:∃g,g=((s.heap.update a (Obj.mapSeq λ_=>#[])).push (seqObj "tuple" vs.toArray 0)).push (seqObj "list" #[] 0):=⟨_,rfl⟩;have a4:a≠(s.heap.update a (Obj.mapSeq λ_=>#[])).objs.size:=by rw[Heap.size_update];exact B6 la
 have h6:g.get? a=some (seqObj "list" #[] ep):=by
  rw[J,Heap.get?_push_ne _ _ _ (by rw[size_push',Heap.size_update];exact B6 (Nat.lt_succ_of_lt la)),Heap.get?_push_ne _ _ _ a4];exact hu
 have kp:∀c o,s.heap.get? c=some o->o.cls=.type "tuple"->g.get? c=some o:=λc o e1 e2=>by
  have a8:c≠a:=λz=>by
   subst z;rw[ho] at e1;cases e1;have e3:Value.type "list"=Value.type "tuple" := e2;injection e3 with e3
   exact absurd e3 (by decide)
  rw[J];exact A7 _ (A7 _ (by rw[Heap.get?_update_ne _ _ _ _ a8];exact e1))
 obtain⟨O,U⟩:=hv.to kp;show wpAny (model P w) A _ F E { s with heap:=((s.heap.update a (Obj.mapSeq λ_=>#[])).push (seqObj "tuple" vs.toArray 0)).push (seqObj "list" #[] 0) };rw[← J];dsimp only;have a7:vs.toArray.size=vs.length:=by simp
 have Z:∀out:Array Value,out.toList.Perm vs->(out.toList.map (pk s.heap)).Pairwise (λx y=>lt2 x y=true)->F (.done (.ret .none)) { s with heap:=g.update a (Obj.mapSeq λ_=>out) }:=λout p1 p2=>by
  rw[J];exact h out p1 p2
 by_cases h2:vs.toArray.size<2
 ·rw[if_pos h2,if_pos h2]
  refine A0 (A1 ?_);rw[StateT.run_pure];refine A0 (A1 ?_);dsimp only;refine A0 (seqEpoch_at h6 rfl (A0 (listUpdate_at h6 rfl ?_ (hsz2:=by rw[Array.size_map];show (pairsOf vs).size<=_;rw[pairsOf_size];exact C90 h64))));simp only[bne_self_eq_false,Bool.false_eq_true,if_false];have e0:((vs.toArray.zip vs.toArray).map (·.2)).toList=vs:=by
   have:=d6 (A4 vs.length)
   simpa using this
  refine A1 (Z _ (by rw[e0]) ?_);rw[e0];refine D6.mpr λi j hi hj S=>?_
  rw[List.length_map] at hi hj;omega
 ·rw[if_neg h2,if_neg h2]
  obtain⟨v₁,v₂,r,rfl⟩:∃v₁ v₂ r,vs=v₁::v₂::r:=by
   match vs,a7,h2 with
   | [],_,h2=>simp at h2
   | [_],_,h2=>simp at h2
   | v₁::v₂::r,_,_=>exact⟨v₁,v₂,r,rfl⟩
  refine A0 (co0 (s:={ s with heap:=g }) O.all ?_);have C:=cnP (P:=P) (w:=w) (A:=A) (E:=E) (s:={ s with heap:=g }) O true;refine A0 (E2 (bh0 C (st:=SortSt.mk' (tuples' true) ((v₁::v₂::r).toArray.zip (v₁::v₂::r).toArray) #[] 7 none)
   (Q:=λ_ t=>(arrOf t).Perm (pairsOf (v₁::v₂::r))/\failedOf t=none/\Up (xa0 g) (arrOf t) (pairsOf (v₁::v₂::r)).size)
   rfl (Array.Perm.refl _) rfl rfl (by rw[pairsOf_size];simp) λt a1 a2 a3=>⟨a1,a2,a3⟩) ?_ λ_ _ e=>e)
  rintro⟨⟨⟩,t⟩ s' ⟨es,hp,hf,a6⟩;subst es;dsimp only;refine A0 (seqEpoch_at h6 rfl (A0 (listUpdate_at h6 rfl ?_ (hsz2:=by refine B7 (P6 ((Array.size_map ..).trans (hp.size_eq.trans (pairsOf_size _)))) ?_;exact C90 h64))));rw[hf];simp only[bne_self_eq_false,Bool.false_eq_true,if_false];have Y:(arrOf t).toList.Perm ((v₁::v₂::r).zip (v₁::v₂::r)):=by
   have:=M1.mp hp
   rwa [pairsOf_toList] at this
  have M:∀x∈(arrOf t).toList,x.1=x.2/\x.2∈v₁::v₂::r:=λx hx=>by
   have hm:=Y.mem_iff.mp hx;obtain⟨i,hi,e⟩:=E5.mp hm;rw[List.getElem_zip] at e;rw[← e];exact⟨rfl,C8 _⟩
  have e2:((arrOf t).map (·.2)).toList=(arrOf t).toList.map (·.2):=by simp
  refine A1 (Z _ ?_ ?_)
  ·rw[e2]
   have:=Y.map Prod.snd
   rwa [d6 (A4 _)] at this
  ·rw[e2,List.map_map]
   refine D6.mpr λi j hi hj S=>?_
   rw[List.length_map] at hi hj;rw[List.getElem_map,List.getElem_map];have a5:i<(arrOf t).size:=by simpa using hi
   have a0:j<(arrOf t).size:=by simpa using hj
   have:=a6 i j (arrOf t)[i] (arrOf t)[j] S (by rw[← hp.size_eq];exact a0) (C3 _ i a5) (C3 _ j a0);have m1:=M (arrOf t)[i] (by simp);have m2:=M (arrOf t)[j] (by simp);unfold xa0 at this;rw[m1.1,m2.1,U _ m1.2,U _ m2.2] at this
   simpa using this
theorem jv0{l:Addr}{Q:Value->Shared->Prop}(hl:s.heap.IsList l vs.toArray)(hv:Prs s.heap vs)(h64:vs.length<=sizeLine)
  (h:∀out:Array Value,out.toList.Perm vs->(out.toList.map (pk s.heap)).Pairwise (λx y=>lt2 x y=true)->Q (.ref (s.heap.objs.size+1)) { s with heap:=sortedAll s.heap vs out }) :
  wpAny (model P w) A (call (.builtin "sorted") [.ref l]) Q E s:=by
 refine Calls.call_function_entry kind_sorted plain_sorted entry_sorted (args_sorted1 _) ?_;unfold Builtin.«sorted»;refine A0 (m:=checkCount "sorted" 1 1 _) (A1 (A0 (collect_list hl (A0 (wpAny_newList ?_)))));have J:((s.heap.push (seqObj "list" #[] 0)).update s.heap.objs.size (Obj.mapSeq (·++vs.toArray))).objs.size=s.heap.objs.size+1:=by rw[Heap.size_update,size_push']
 obtain⟨g,hg⟩:∃g,g=((s.heap.push (seqObj "list" #[] 0)).update s.heap.objs.size (Obj.mapSeq (·++vs.toArray))).push (seqObj "list" vs.toArray 0):=⟨_,rfl⟩;have F:g.get? (s.heap.objs.size+1)=some (seqObj "list" vs.toArray 0):=by
  rw[← J,hg];exact B5 _ rfl
 have kp:∀c o,s.heap.get? c=some o->o.cls=.type "tuple"->g.get? c=some o:=λc o e1 _=>by
  have lc:=A6 e1;rw[hg];refine A7 _ ?_;rw[Heap.get?_update_ne _ _ _ _ (B6 lc)];exact A7 _ e1
 obtain⟨M,O⟩:=hv.to kp;show wpAny _ _ _ _ _ { s with heap:=((s.heap.push (seqObj "list" #[] 0)).update s.heap.objs.size (Obj.mapSeq (·++vs.toArray))).push (seqObj "list" vs.toArray 0) };rw[J,← hg];refine A0 (C4 (D7 slot_list_sort ⟨_,F,rfl⟩ entry_list_sort (er0 (s:={ s with heap:=g }) F M h64 λout p1 p2=>⟨_,rfl,?_⟩) (args_list_sort _)));refine A1 ⟨_,rfl,?_⟩;have p3:(out.toList.map (pk s.heap)).Pairwise (λx y=>lt2 x y=true):=by
  rw[← List.map_congr_left λv hv=>O v (p1.mem_iff.mp hv)];exact p2
 have:=h out p1 p3;unfold sortedAll at this;rw[hg];exact this
end
end SoT
namespace L2
open Spec PyProof.Rows SoT
section
variable{s:Shared}
theorem nm0:CallR X (.builtin "sorted") (λxs H Q=>∃(p:Addr) (ys:List V) (ps:List (Int×Int)),xs=[.ref p]/\SqL X.K H p ys/\PrV H ys ps/\ps.Nodup/\∀l zs,H l=none->PrV H zs (srt ps)->(∀z∈zs,z∈ys)->Q (.ref l) (upd H l (.lst zs))):=by
 intro pins s σ H xs us Q I r h;obtain⟨p,ys,ps,rfl,hq,hp,hn,k⟩:=h;obtain⟨u,rfl,rx⟩:=vals1 r;cases rx;obtain⟨its,rv,pl,hz⟩:=I.list hq;obtain⟨i1,i2,i3⟩:=lk0 I rv hp;have hl:its.length=ps.length:=by rw[← i1,List.length_map]
 refine jv0 pl.isList ⟨i2,by rw[i1];exact hn⟩ (by rw[rv.length] at hz;exact hz) λF p1 p2=>?_
 have hs:F.toList.map (pk s.heap)=srt ps:=by
  refine d10 ?_ p2;have:=p1.map (pk s.heap)
  rwa [i1] at this
 obtain⟨zs,z1,z2,z3⟩:=po0 (H:=H) (h:=s.heap) (ys:=ys) (vs:=F.toList) λv hv=>i3 v (p1.mem_iff.mp hv)
 rw[hs] at z2;obtain⟨e,he⟩:=sortedAll_at s.heap its F;have J:H (s.heap.objs.size+1)=none:=I.hok.fresh (Nat.le_succ _);refine⟨.ref (s.heap.objs.size+1),_,I.laid (t':=s.toks) (a:=s.heap.objs.size+1) (o:=.lst zs) (λb o hb=>sortedAll_old hb) (Nat.le_succ _) ⟨?_,F.toList,e,z1,he⟩,rfl,k _ zs J z2 z3⟩;rw[z1.length,p1.length_eq];rw[rv.length] at hz;exact hz
end
end L2
namespace DL
open Spec PyProof.Rows L2 SoT
def wu0:List D->Option D
 | [.lst ds]=>(v00 ds).bind λps=>if ps.Nodup then some (.lst ((srt ps).map pD)) else none
 | _=>none
theorem jx0{ps:List (Int×Int)}(h1:ps.Nodup):wu0 [.lst (ps.map pD)]=some (.lst ((srt ps).map pD)):=by
 show (v00 (ps.map pD)).bind _=_;rw[ou0,Option.bind_some,if_pos h1]
theorem k30(hm:X.mg "sorted"=none)(hv:bootBuiltins "sorted"=some (.builtin "sorted"))(ha:PD X e g)(hg:Gl X "sorted" := by rfl)
  (he:starEach [e] X.env=(false,eval e X.env)::starEach [] X.env:=by rfl) (hpl:(backTo pos (starEach [] X.env)).any (·.1)=false:=by rfl) :
  PDF X (.Call (.Name "sorted" p) [e] [] pos) (oA (z9 g v7) wu0):=.mk λB δ=>(u50 nm0 hg hm hv (J5 (ha B δ) yj0 he) (by decide) (by decide) he hpl).imp fun σ H Q ⟨d,en,h,k⟩=>by
 unfold oA z9 v7 at h;cases e1:g δ with
 | none=>rw[e1] at h;cases h
 | some x =>
  rw[e1] at h;simp only[Option.bind_some,Option.map_some] at h;refine⟨x,en,e1,λv H1 s1 r1=>?_⟩;unfold wu0 at h;split at h
  ·rename_i ds he1
   injection he1 with he1
   subst he1;cases e2:v00 ds with
   | none=>rw[e2] at h;cases h
   | some ps =>
    rw[e2] at h;simp only[Option.bind_some] at h;split at h
    ·rename_i hz
     cases h;rw[X4] at r1;obtain⟨q,ys,rfl,hq,rr⟩:=r1;obtain⟨v1,v2⟩:=lv0 rr e2;refine⟨q,ys,ps,rfl,hq.to,v1,hz,λl zs F J M=>?_⟩;refine k l _ (s1.free F) (s1.trans (Z7 F)) ⟨zs,Z8,?_⟩;refine Rps.same (Z7 F) (k90 J λz hz=>?_);obtain⟨a,rfl,nb⟩:=v2 z (M z hz);refine⟨a,rfl,λq=>q.elim nb λq=>?_⟩;subst q;exact ph0 J hz F
    ·cases h
  ·cases h
end DL
namespace DL
open Spec PyProof.Rows L2
def u80(i j:Nat)(gx:GX)(f:List D->Option D):GX:=fun δ=>(gv i δ).bind λ_=>(gv j δ).bind λ_=>(gx δ).bind λr=>(gv i r.2).bind λa=>(gv j r.2).bind λb=>(f [a,b,r.1]).map λd=>(d,r.2)
section
variable{py:Pos}
theorem f80{k:Nat}{ps:List Str}{z x y:Str}{f:List D->Option D}(i j:Nat)(C:FnD X.prog X.w X.K X.mg X.base z k ps f)(hr:Room m X.A)(hk:k<=m)(h:PX X e gx)
  (hN:X.N[i]?=some x:=by rfl) (hv:Vis X.env.scope x:=by first|exact Or.inl rfl|exact Or.inr (Or.inl rfl)|exact Or.inr (Or.inr rfl)) (hd:(x==("__debug__" : Str))=false:=by decide) (hcd:(x==("__classdict__" : Str))=false:=by decide)
  (hN2:X.N[j]?=some y:=by rfl) (hv2:Vis X.env.scope y:=by first|exact Or.inl rfl|exact Or.inr (Or.inl rfl)|exact Or.inr (Or.inr rfl)) (hd2:(y==("__debug__" : Str))=false:=by decide) (hcd2:(y==("__classdict__" : Str))=false:=by decide)
  (hg:Gl X z:=by rfl) (hdb:(z==("__debug__" : Str))=false:=by decide)
  (he1:starEach [.Name x px,.Name y py,e] X.env=(false,eval (.Name x px) X.env)::starEach [.Name y py,e] X.env:=by rfl) (he2:starEach [.Name y py,e] X.env=(false,eval (.Name y py) X.env)::starEach [e] X.env:=by rfl) (he3:starEach [e] X.env=(false,eval e X.env)::starEach [] X.env:=by rfl)
  (hpl:(backTo pos (starEach [.Name y py,e] X.env)).any (·.1)=false:=by rfl):PX X (.Call (.Name z p) [.Name x px,.Name y py,e] [] pos) (u80 i j gx f):=.mk λH₀ B₀ δ pins s σ H Q I ⟨r,en,e1,k⟩=>by
 obtain⟨fa,fd,F,hm,kp,hb⟩:=C;unfold u80 at e1;obtain⟨B,b1,b2,env⟩:=en.ex;cases a1:gv i δ with
 | none=>rw[a1] at e1;cases e1
 | some d1 =>
 cases a2:gv j δ with
 | none=>rw[a1,a2] at e1;cases e1
 | some d2 =>
 cases a3:gx δ with
 | none=>rw[a1,a2,a3] at e1;cases e1
 | some r' =>
 rw[a1,a2,a3] at e1;simp only[Option.bind_some] at e1;cases a4:gv i r'.2 with
 | none=>rw[a4] at e1;cases e1
 | some c1 =>
 cases a5:gv j r'.2 with
 | none=>rw[a4,a5] at e1;cases e1
 | some c2 =>
 rw[a4,a5] at e1;simp only[Option.bind_some] at e1;cases a6:f [c1,c2,r'.1] with
 | none=>rw[a6] at e1;cases e1
 | some d =>
 rw[a6] at e1;cases e1;obtain⟨v1,s1,_⟩:=env.get (uj0 a1);obtain⟨v2,s2,_⟩:=env.get (uj0 a2);refine tc0 (E:=E0) F (hr.mono hk) hg hm kp hb .nil m70 (J5 (y30 (i:=i) hN hv hd hcd) (J5 (y30 (i:=j) hN2 hv2 hd2 hcd2) (J5 (h H₀ B₀ δ) yj0 he3) he2) he1) hdb he1 hpl pins s σ H Q I
  ⟨v1,s1,v2,s2,r',en,a3,λv H1 ev=>?_⟩
 obtain⟨B2,q1,q2,J,rv⟩:=ev.ex;obtain⟨w1,t1,r1⟩:=J.get (uj0 a4);obtain⟨w2,t2,r2⟩:=J.get (uj0 a5);rw[s1] at t1;rw[s2] at t2;cases t1;cases t2;show spD X.K f [v1,v2,v] H1 Q E0;refine⟨B2,[c1,c2,r'.1],d,J.bad,?_,a6,λv' H' s' M=>k v' H' (EnvV.mk' (ev.s.grow s') q1 q2 (J.same s') M)⟩;rw[o7];refine⟨_,_,rfl,r1,?_⟩;rw[o7];refine⟨_,_,rfl,r2,?_⟩;rw[o7];exact⟨_,_,rfl,rv,by rw[n6]⟩
end
end DL
namespace RawD
open PyProof.Rows PySem.W
def At(d:Addr)(es:Array DictEntry)(ep:Nat)(h:Heap):Prop:=∃o,h.get? d=some o/\o.ExactDict/\o.data=.dict es ep
section
variable{P:Program}{w:World}{s:Shared}{d:Addr}{es:Array DictEntry}{ep:Nat}
theorem At.ty(x:At d es ep s.heap):s.TypeIs (.ref d) "dict" := by obtain⟨o,e,c,_⟩:=x;exact⟨o,e,c.1⟩
theorem At.lt{h:Heap}(x:At d es ep h):d<h.objs.size:=by obtain⟨o,e,_⟩:=x;exact A6 e
theorem At.to{h:Heap}(x:At d es ep h)(k:∀o,h.get? d=some o->h'.get? d=some o):At d es ep h':=by obtain⟨o,e,r⟩:=x;exact⟨o,k o e,r⟩
theorem bc0{Q:Value->Shared->Prop}(lo:(d==sysModules)=false)(x:At d es ep s.heap)
  (k:Q (.ref s.heap.objs.size) { s with heap:=s.heap.push { cls:=.type "dict_keyiterator",data:=.fields #[.ref d,.int 0 0,.int es.size 0,.int ep 0] } }):wpAny (model P w) A (pyIter (.ref d)) Q E s:=by
 have ty:=x.ty;obtain⟨o,e,c,da⟩:=x;refine wpAny_pyIter_slot ty F.slot_dict_iter (D7 F.slot_dict_iter ty F.entry_dict_iter ?_ (F.args_dict_iter_1 _));unfold Builtin.«dict.__iter__»;refine A0 ?_;unfold Builtin.Dict.dictSlotNone;refine A0 (wpAny_notOrdered_dict ty ?_);show wpAny _ _ (pure (Value.ref d)) _ _ s;refine A1 ?_;show wpAny _ _ (Builtin.Dict.showsAll d>>=_) _ _ s;unfold Builtin.Dict.showsAll;rw[if_neg (by rw[lo];decide)];refine A0 (A1 (A0 (z0 e da (A0 (A00 e da (A0 (E4 (A1 ⟨_,rfl, "dict_keyiterator",_,⟨_,B5 _ rfl,rfl⟩,Q1.lookup,?_⟩))))))))
 simpa [rawInt] using k
theorem a00{Q:Option Value->Shared->Prop}(hi:s.heap.IsKeyIter it d i es.size ep)(x:At d es ep s.heap)(hl:i<es.size)
  (k:∀h',h'.IsKeyIter it d (i+1) es.size ep->Heap.SameBut it s.heap h'->Q (some es[i].key) { s with heap:=h' }):wpAny (model P w) A (pyNext (.ref it)) Q E s:=by
 have ti:=hi.typeIs;obtain⟨u,eu,cu,du⟩:=hi;obtain⟨o,e,c,da⟩:=x;unfold pyNext;refine A0 (L1 (K0 (name:=Str.ofString "__next__") ti Q1 (D7 Q1 ti Cc0 ?_ (Cd0 _))));refine A0 (A1 (A0 (A0 ?_)));refine A0 (g9 ti (A1 (A0 (wpAny_fieldsOf eu du ?_))));simp only[show Builtin.Dict_items.ownsTuple "dict_keyiterator"=false from by decide,Bool.false_eq_true,if_false];show wpAny _ _ (if (Value.ref d==.none)=true then _ else _) _ _ s;rw[if_neg (show ¬(Value.ref d==.none)=true by simp)];refine A0 (A1 (A0 (z0 e da ?_)));rw[if_neg (by simp)];refine A0 (A1 (A0 (A00 e da ?_)));rw[if_neg (by simp)];refine A1 ?_;simp only[show ¬(i:Int)<0 by omega,if_false,Int.toNat_natCast,Array.getElem?_eq_getElem hl];refine A0 (A0 (g9 ti (A1 (A0 (wpAny_isOneOf_keyiter ti ?_)))));show wpAny _ _ (setField (.ref it) 1 (rawInt ((i:Int)+1))>>=_) _ _ s;refine A0 (wpAny_setField eu du (by simp) ?_);have F:(s.heap.update it (Obj.mapFields (·.setIfInBounds 1 (rawInt ((i:Int)+1))))).IsKeyIter it d (i+1) es.size ep :=
  ⟨_,Heap.get?_update_self _ eu (Obj.isFreed_of_fields (Obj.data_mapFields du _)),(Obj.cls_mapFields ..).trans cu,by rw[Obj.data_mapFields du];simp[rawInt]⟩
 refine A0 (C4 (A0 (wpAny_isOneOf_keyiter (s:={ s with heap:=s.heap.update it (Obj.mapFields (·.setIfInBounds 1 (rawInt ((i:Int)+1)))) }) F.typeIs ?_)));show wpAny _ _ (pure es[i].key) _ _ _;exact A1 (A1 ⟨_,rfl,A1 (k _ F (Heap.SameBut.update ..))⟩)
theorem aa0{Q:Option Value->Shared->Prop}(hh:A.handled=none)(hi:s.heap.IsKeyIter it d i es.size ep)(x:At d es ep s.heap)(hl:es.size<=i)
  (k:∀h',Heap.ExtBut it s.heap h'->Q none { s with heap:=h' }):wpAny (model P w) A (pyNext (.ref it)) Q E s:=by
 have ti:=hi.typeIs;obtain⟨u,eu,cu,du⟩:=hi;obtain⟨o,e,c,da⟩:=x;unfold pyNext;refine A0 (L1 (K0 (name:=Str.ofString "__next__") ti Q1 (D7 Q1 ti Cc0 ?_ (Cd0 _))));refine A0 (A1 (A0 (A0 ?_)));refine A0 (g9 ti (A1 (A0 (wpAny_fieldsOf eu du ?_))));simp only[show Builtin.Dict_items.ownsTuple "dict_keyiterator"=false from by decide,Bool.false_eq_true,if_false];show wpAny _ _ (if (Value.ref d==.none)=true then _ else _) _ _ s;rw[if_neg (show ¬(Value.ref d==.none)=true by simp)];refine A0 (A1 (A0 (z0 e da ?_)));rw[if_neg (by simp)];refine A0 (A1 (A0 (A00 e da ?_)));rw[if_neg (by simp)];refine A1 ?_;simp only[show ¬(i:Int)<0 by omega,if_false,Int.toNat_natCast,Array.getElem?_eq_none hl];refine A0 (A0 (g9 ti (A1 ?_)));show wpAny _ _ (setField (.ref it) 0 .none>>=_) _ _ s;refine A0 (wpAny_setField eu du (by simp) ?_);show wpAny _ _ (newExc (.type "StopIteration") []>>=_) _ _ _;refine A0 ?_;simp only[newExc,newTuple];refine A0 (E4 (A0 (m:=firstArgMember _ _) (wpAny_of_eq (a:=Value.none) (by first|rfl|(simp only[firstArgMember];rfl)) (E4 ?_ (by size_fits)))) (by size_fits));simp only[raiseNew];refine A0 (wpAny_handled ?_);rw[show A.in1.handled=none from hh];refine A0 (A1 (wpAny_throw ?_));refine A0 (x8 (b:=true) (T := "StopIteration") ⟨_,B5 _ rfl,rfl⟩ x9 (A1 (k _ ?_)));exact((Heap.SameBut.update ..).extBut.push _).push _
theorem b90(hh:A.handled=none)(ne:d≠it):Walks P w A it [it,d] [it] es.size (λi v=>∃e,es[i]?=some e/\v=e.key) (λi h=>h.IsKeyIter it d i es.size ep/\At d es ep h) where
 sub:=λb hb=>by simp at hb;simp[hb]
 frame:=λ_ _ _ st hk=>⟨st.1.at λo e=>hk it (by simp) o e,st.2.to λo e=>hk d (by simp) o e⟩
 item:=λi s Q E hi st hQ=>a00 st.1 st.2 hi λh' J sb=>hQ _ h' s.toks ⟨es[i],C3 es i hi,rfl⟩ ⟨J,st.2.to λo e=>sb.extBut d o ne e⟩ λb o hb e=>sb.extBut b o (λh=>hb (by simp[h])) e
 done:=λs Q E st hQ=>aa0 hh st.1 st.2 (A4 _) λh' F=>hQ h' s.toks λb o hb e=>F b o (λh=>hb (by simp[h])) e
 self:=λ_ _ _ _ st hQ=>wpAny_pyIter_keyiter st.1 hQ
theorem src(lo:(d==sysModules)=false):KdlSrc P w "dict" d d es.size (λi v=>∃e,es[i]?=some e/\v=e.key) (At d es ep) where
 type:=λ_ x=>x.ty
 there:=λ_ x=>⟨x.lt,x.lt⟩
 keep:=λ_ _ x hk=>x.to λo e=>hk d (.inl rfl) o e
 notList:=by decide
 notTuple:=by decide
 hint:=λ_ _ _ _ x hq=>kdl_hint_dict x.ty hq
 iter:=λ_ _ hh x=>⟨_,_,(λ_ _ hq=>bc0 lo x hq),b90 hh (B6 x.lt),⟨⟨_,B5 _ rfl,rfl,rfl⟩,x.to λo e=>A7 _ e⟩⟩
end
end RawD
namespace L2
open Spec PyProof.Rows
def KyV(H:Hp):List (List Key)->List V->Prop
 | [],[]=>True
 | k::ks,v::vs=>(∃b,v=.ref b/\H b=some (.tup (k.map kV)))/\KyV H ks vs
 | _,_=>False
theorem mg0(hc:X.calm=true:=by rfl):CallR X (.type "list") (λxs H Q=>∃(d:Addr) (kvs:List (List Key×V)),xs=[.ref d]/\H d=some (.dT kvs)/\∀l ys,H l=none->KyV H (kvs.map (·.1)) ys->Q (.ref l) (upd H l (.lst ys))):=by
 intro pins s σ H xs us Q I r h;obtain⟨d,kvs,rfl,e,k⟩:=h;obtain⟨u,rfl,rx⟩:=vals1 r;cases rx;obtain⟨z,hd,zs,O,o,es,ep,h1,h2,h3,h4,h5⟩:=(show ObjOk X.prog X.w H s.heap d (.dT kvs) from I.hok d _ e);have hl:=O.length;have M:es.size=kvs.length:=by rw[← Array.length_toList,h4,List.length_map,hl]
 have ky:∀{a:List (List Key×V)} {b:List (List Key×Addr×Value)},Paired (λ(p:List Key×V) (q:List Key×Addr×Value)=>p.1=q.1/\H q.2.1=some (.tup (p.1.map kV))/\RelV p.2 q.2.2) a b->KyV H (a.map (·.1)) (b.map λq=>V.ref q.2.1):=by
  intro a b q
  induction q with
  | nil=>trivial
  | cons q t ih=>exact⟨⟨_,rfl,q.2.1⟩,ih⟩
 refine W.kdl_call (RawD.src (es:=es) (ep:=ep) hd) (I.ok.hd hc) ⟨o,h1,h2,h3⟩ (by rw[M];exact z) λh' tk F c' hk hS J=>?_
 have hv:Vals (zs.map λq=>V.ref q.2.1) F.toList:=by
  have e1:F.toList=zs.map λq=>Value.ref q.2.1:=by
   refine Y1 λi=>?_
   cases hq:F.toList[i]? with
   | none =>
    rw[List.getElem?_eq_none_iff,Array.length_toList,J.1,M] at hq;rw[List.getElem?_eq_none (by rw[List.length_map];omega)]
   | some v =>
    obtain⟨en,e2,e3⟩:=J.2 i v (by rw[← Array.getElem?_toList];exact hq);rw[← Array.getElem?_toList,h4,List.getElem?_map] at e2;rw[List.getElem?_map];cases hz:zs[i]? with
    | none=>rw[hz] at e2;cases e2
    | some q=>rw[hz] at e2;cases e2;rw[e3];rfl
  rw[e1];have:∀l:List (List Key×Addr×Value),Vals (l.map λq=>V.ref q.2.1) (l.map λq=>Value.ref q.2.1):=λl=>by
   induction l with
   | nil=>exact .nil
   | cons q l ih=>exact .cons rfl ih
  exact this zs
 refine⟨.ref s.heap.objs.size,_,I.laid (t':=tk) hk (A4 _) (show ObjOk X.prog X.w _ h' _ (.lst _) from ⟨?_,F.toList,c',hv,hS⟩),rfl,k _ _ (I.hok.fresh (A4 _)) (ky O)⟩;rw[List.length_map,← hl];exact z
end L2
namespace DL
open Spec PyProof.Rows L2
def kD:T5->D
 | .inl i=>.int i
 | .inr x=>.str x
def ktD(k:List T5):D:=.tup (k.map kD)
def wz0:List D->Option D
 | [.dct (.inr ks) _]=>some (.lst (ks.map ktD))
 | _=>none
theorem pp0:∀k:List T5,Rps K H B (k.map kD) (k.map kV)
 | []=>by rw[List.map_nil,List.map_nil,n6]
 | .inl i::k=>by rw[List.map_cons,List.map_cons,o7];exact⟨_,_,rfl,by unfold kD;rw[j4];rfl,pp0 k⟩
 | .inr i::k=>by rw[List.map_cons,List.map_cons,o7];exact⟨_,_,rfl,by unfold kD;rw[Y7];rfl,pp0 k⟩
theorem l40(hb:∀a,B a->NB (H a)):∀{ks:List (List T5)} {ys:List V},KyV H ks ys->Rps K H B (ks.map ktD) ys
 | [],[],_=>by rw[List.map_nil,n6]
 | [],_::_,h=>h.elim
 | _::_,[],h=>h.elim
 | k::ks,y::ys,h=>by
  obtain⟨⟨b,rfl,e⟩,h2⟩:=h;rw[List.map_cons,o7];refine⟨_,_,rfl,?_,l40 hb h2⟩;unfold ktD;rw[X3];exact⟨b,_,rfl,⟨λz=>(hb b z).nt _ e,e⟩,pp0 k⟩
theorem ib0:FnR K (λxs H Q=>∃(d:Addr) (kvs:List (List Key×V)),xs=[.ref d]/\H d=some (.dT kvs)/\∀l ys,H l=none->KyV H (kvs.map (·.1)) ys->Q (.ref l) (upd H l (.lst ys))) wz0:=by
 intro H B xs ds d Q hb r h k;unfold wz0 at h;split at h
 ·cases h
  obtain⟨v,rfl,r1⟩:=O4 r;rw[ot0] at r1;obtain⟨p,ys,rfl,_,hp,hl,rr⟩:=r1;refine⟨p,_,rfl,hp,λl zs F hk=>k _ _ (Z7 F) ?_⟩;rw[List.map_fst_zip (P6 hl)] at hk;exact yh0 hb F (l40 hb hk)
 ·cases h
end DL
namespace W
open DL
def hasAll(x s:Str):Bool:=x.cps.toList.all λc=>decide (c∈s.cps.toList)
def nameS:Str := "0123456789abcdefghijklmnopqrstuvwxyz"
def rd0:Str := " 0123456789abcdefghijklmnopqrstuvwxyz"
def isName(x:Str):Bool:=(decide ((x.length:Int)<=8)&&hasAll x nameS)&&decide (0<(x.length:Int))
def isWord(x:Str):Bool:=decide ((x.length:Int)<=20)&&hasAll x rd0
def marks(x:D)(m:Str):Bool:=match x with
 | .str y=>decide (y=m)
 | _=>false
def ta0:D->Bool
 | .non=>true
 | .int _=>true
 | .tup [x,.int i]=>marks x "at"&&decide (0<=i)
 | _=>false
def az0:D->Str
 | .tup (.str n::_)=>n
 | _ => ""
inductive Pt where
 | text (w:Str)|row (vs:List D)|table (ps:List (Str×D))|rcd (c:Str) (ps:List (Str×D))
variable{ps qs:List W.Pt}
def pr(p:Str×D):D:=.tup [.str p.1,p.2]
def Pt.d:Pt->D
 | .text w=>.tup [.str "text",.str w]
 | .row vs=>.tup [.str "row",.tup vs]
 | .table ps=>.tup [.str "table",.tup (ps.map pr)]
 | .rcd c ps=>.tup [.str "record",.str c,.tup (ps.map pr)]
def Pt.vals:Pt->List D
 | .text _=>[]
 | .row vs=>vs
 | .table ps=>ps.map (·.2)
 | .rcd _ ps=>ps.map (·.2)
def Pt.pnames:Pt->List Str
 | .text _=>[]
 | .row _=>[]
 | .table ps=>ps.map (·.1)
 | .rcd _ ps=>ps.map (·.1)
def Pt.cls:Pt->List Str
 | .rcd c _=>[c]
 | _=>[]
def Pt.all(p:Pt):List Str:=p.pnames++p.cls
def lk:D->Option Int
 | .tup [_,.int i]=>some i
 | _=>none
structure PsOk(ps:List (Str×D)):Prop where
 len:ps.length<=12
 names:∀p∈ps,isName p.1=true
 vals:∀p∈ps,ta0 p.2=true
 nd:(ps.map (·.1)).Nodup
def Pt.Ok:Pt->Prop
 | .text w=>isWord w=true
 | .row vs=>vs.length<=12/\∀v∈vs,ta0 v=true
 | .table ps=>PsOk ps
 | .rcd c ps=>isName c=true/\PsOk ps
theorem nh0{n:Str}(h:isName n=true):n.length<=8:=by
 unfold isName at h;simp only[Bool.and_eq_true,decide_eq_true_eq] at h;omega
theorem qy0(ps:List (Str×D)):V5 (gN 0) noT (o2 (gv 0) (gc (.int 1)) ixD) [.un] (ps.map pr)=some (ps.map (·.2)):=by
 rw[Q3 (λd=>match d with|.tup [_,v]=>v|_=>.non) (λd hd=>by
  obtain⟨p,hp,rfl⟩:=A8.mp hd;exact⟨[.sh (pr p)],rfl,rfl,rfl⟩),List.map_map]
 rfl
theorem pb0(ps:List (Str×D)):V5 (gN 0) noT (o2 (gv 0) (gc (.int 0)) ixD) [.un] (ps.map pr)=some ((ps.map (·.1)).map .str):=by
 rw[Q3 (λd=>.str (az0 d)) (λd hd=>by
  obtain⟨p,hp,rfl⟩:=A8.mp hd;exact⟨[.sh (pr p)],rfl,rfl,rfl⟩),List.map_map,List.map_map]
 rfl
def Pt.few(p:Pt):Prop:=p.vals.length<=sizeLine
theorem sb0{v:D}(h:ta0 v=true):v=.non∨(∃i,v=.int i)∨∃i,v=.tup [.str "at",.int i]/\0<=i:=by
 cases v with
 | non=>exact .inl rfl
 | int i=>exact .inr (.inl ⟨i,rfl⟩)
 | tup xs =>
  match xs,h with
  | [x,.int i],h =>
   simp only[ta0,Bool.and_eq_true,decide_eq_true_eq] at h;cases x<;>simp[marks] at h
   exact .inr (.inr ⟨i,by rw[h.1],h.2⟩)
 | _=>cases h
def V6:Str := "abcdefghijklmnopqrstuvwxyz0123456789"
def cg(i:Int):Nat:=V6.cps.toList.getD i.toNat 0
theorem n60(i:Int)(h0:0<=i)(h1:i<36):ixD (.str V6) (.int i)=some (.str ⟨#[cg i]⟩):=by
 have hl:V6.cps.toList.length=36:=by decide +kernel
 have hz:V6.length<=sizeLine:=by decide +kernel
 have:=J0 (xs:=V6.cps.toList) (i:=i) h0 (by rw[hl];omega) 0;simp only[ixD,if_pos hz,this,Option.map_some];rfl
theorem ki0(i:Int)(h0:0<=i)(h1:i<36):cg i∈nameS.cps.toList:=by
 have h:∀n:Nat,n<36->V6.cps.toList.getD n 0∈nameS.cps.toList:=by decide +kernel
 exact h i.toNat (by omega)
theorem dt0(i j:Int)(h0:0<=i)(h1:i<36)(h2:0<=j)(h3:j<36)(e:cg i=cg j):i=j:=by
 have h:∀n:Nat,n<36->∀m:Nat,m<36->V6.cps.toList.getD n 0=V6.cps.toList.getD m 0->n=m:=by decide +kernel
 have:=h i.toNat (by omega) j.toNat (by omega) e;omega
def ones(l:List Nat):List Str:=l.map λc=>⟨#[c]⟩
def strOf(l:List Nat):Str:=⟨l.toArray⟩
theorem join_ones(l:List Nat):Txt.join "" (ones l)=strOf l:=by
 have key:∀(l:List Nat) (F:List Nat),(ones l).foldl (λa p=>a++("" : Str).cps++p.cps) F.toArray=(F++l).toArray:=by
  intro l
  induction l with
  | nil=>intro F;simp[ones]
  | cons c l ih =>
   intro F;show (ones l).foldl _ (F.toArray++("" : Str).cps++#[c])=_;have e:F.toArray++("" : Str).cps++#[c]=(F++[c]).toArray:=by
    have:("" : Str).cps=#[]:=rfl;rw[this];simp
   rw[e,ih];simp
 cases l with
 | nil=>rfl
 | cons c l =>
  show (⟨_⟩:Str)=_;unfold strOf;congr 1;exact key l [c]
theorem s80:∀l:List Nat,((ones l).map (·.length)).sum=l.length
 | []=>rfl
 | c::l=>by
  show 1+((ones l).map (·.length)).sum=l.length+1;rw[s80 l];omega
theorem sj0(l:List Nat)(h1:0<l.length)(h2:l.length<=8)(h3:∀c∈l,c∈nameS.cps.toList):isName (strOf l)=true:=by
 unfold isName hasAll;have e:(strOf l).length=l.length:=by show l.toArray.size=_;simp
 have e2:(strOf l).cps.toList=l:=by simp[strOf]
 rw[e,e2];simp only[Bool.and_eq_true,decide_eq_true_eq,List.all_eq_true];exact⟨⟨by omega,λc hc=>by simpa using h3 c hc⟩,by omega⟩
theorem sk0{l m:List Nat}(h:strOf l=strOf m):l=m:=by
 unfold strOf at h;injection h with h
 simpa using D1 Array.toList h
end W
variable{ps qs:List W.Pt}
namespace Fa
open DL
def wj0:GS:=(v8 (ifD (zv0 (ob (o2 (o2 (gv 0) (gc (.int 0)) ixD) (gc (.str "text")) eqD)) (ob (o2 (o2 (gv 0) (gc (.int 0)) ixD) (gc (.str "row")) eqD)))
 (v8 (zt0 (X5 v7))
 p7)
 p7)
 (v8 (zt0 (V4 1 [] (tupI (o2 (gv 0) (unG zw0 (gc (.int 1))) ixD)) (gN 0) noT (o2 (gv 0) (gc (.int 0)) ixD)))
 p7))
def q00:List Str:=["part"]
def K1:List D->Option D:=mkN 1 q00 wj0
def ly0:GS:=(v8 (ifD (ob (o2 (o2 (gv 0) (gc (.int 0)) ixD) (gc (.str "text")) eqD))
 (v8 (j6 (Y6 (z9 (gc (.str "text")) (z9 (o2 (gv 0) (gc (.int 1)) ixD) v7))))
 p7)
 p7)
 (v8 (ifD (ob (o2 (o2 (gv 0) (gc (.int 0)) ixD) (gc (.str "row")) eqD))
 (v8 (j6 (Y6 (z9 (gc (.str "row")) (z9 (oA (z9 (o2 (gv 0) (gc (.int 1)) ixD) v7) Y5) v7))))
 p7)
 p7)
 (v8 (ifD (ob (o2 (o2 (gv 0) (gc (.int 0)) ixD) (gc (.str "table")) eqD))
 (v8 (j6 (Y6 (z9 (gc (.str "table")) (z9 (oA (z9 (oA (z9 (gv 0) v7) K1) v7) P0) v7))))
 p7)
 p7)
 (v8 (j6 (Y6 (z9 (gc (.str "record")) (z9 (o2 (gv 0) (gc (.int 1)) ixD) (z9 (oA (z9 (oA (z9 (gv 0) v7) K1) v7) P0) v7)))))
 p7))))
def d00:List Str:=["part"]
def z20:List D->Option D:=mkF 1 d00 ly0
def qw0:GS:=(v8 (ifD (ob (o2 (o2 (gv 0) (gc (.int 0)) ixD) (gc (.str "text")) eqD))
 (v8 (zt0 (X5 v7))
 p7)
 p7)
 (v8 (ifD (ob (o2 (o2 (gv 0) (gc (.int 0)) ixD) (gc (.str "row")) eqD))
 (v8 (zt0 (oA (z9 (o2 (gv 0) (gc (.int 1)) ixD) v7) yt0))
 p7)
 p7)
 (v8 (zt0 (V4 1 [] (tupI (o2 (gv 0) (unG zw0 (gc (.int 1))) ixD)) (gN 0) noT (o2 (gv 0) (gc (.int 1)) ixD)))
 p7)))
def ji0:List Str:=["part"]
def m_values:List D->Option D:=mkN 1 ji0 qw0
def vu0:GS:=(v8 (j6 (za0 (M9 isTup (o2 (gv 0) (gc (.int 0)) ixD)) (M9 isTup (o2 (gv 0) (gc (.int 1)) ixD))))
 p7)
def vz0:List Str:=["both"]
def M4:List D->Option D:=mkF 1 vz0 vu0
def w80:GS:=(v8 (j6 (Y6 (z9 (o2 (o2 (gv 0) (gc (.int 0)) ixD) (gc (.int 1)) ixD) (z9 (o2 (o2 (gv 0) (gc (.int 1)) ixD) (gc (.int 1)) ixD) v7))))
 p7)
def ss0:List Str:=["both"]
def R6:List D->Option D:=mkF 1 ss0 w80
def u00:GS:=(v8 (j6 (za0 (ze0 (gc (.int 0)) (o2 (gv 2) (gc (.int 0)) ixD) (oA (z9 (gv 0) v7) Y5) leD ltD) (ze0 (gc (.int 0)) (o2 (gv 2) (gc (.int 1)) ixD) (oA (z9 (gv 1) v7) Y5) leD ltD)))
 p7)
def pz0:List Str:=["one", "other", "pair"]
def N7:List D->Option D:=mkF 3 pz0 u00
def vs0:GS:=(v8 (ifD (ob (o2 (oA (z9 (o2 (gv 0) (o2 (gv 2) (gc (.int 0)) ixD) ixD) v7) z20) (oA (z9 (o2 (gv 1) (o2 (gv 2) (gc (.int 1)) ixD) ixD) v7) z20) O2))
 (v8 (j6 (gc (.bl false)))
 p7)
 p7)
 (v8 (R7 (rh0 (z9 (oA (z9 (o2 (gv 0) (o2 (gv 2) (gc (.int 0)) ixD) ixD) v7) m_values) (z9 (oA (z9 (o2 (gv 1) (o2 (gv 2) (gc (.int 1)) ixD) ixD) v7) m_values) v7))) (gN 4)
 (v8 (ifD (ob (oA (z9 (gv 4) v7) M4))
 (v8 (ifD (ob (o2 (oA (z9 (gv 4) v7) R6) (gv 3) (T6 true)))
 (v8 (j6 (gc (.bl false)))
 p7)
 p7)
 p7)
 (v8 (ifD (ob (o2 (o2 (gv 4) (gc (.int 0)) ixD) (o2 (gv 4) (gc (.int 1)) ixD) O2))
 (v8 (j6 (gc (.bl false)))
 p7)
 p7)
 p7))
 p7))
 (v8 (j6 (gc (.bl true)))
 p7)))
def oi0:List Str:=["one", "other", "pair", "listed", "both"]
def N6:List D->Option D:=mkF 4 oi0 vs0
def wn0:GS:=(v8 (m5 (gN 3) (oA (z9 (V4 1 [] (z90 (gv 2)) (gN 0) noT (Y6 (z9 (gv 0) (z9 (gc (.bl true)) v7)))) v7) p50))
 (v8 (j6 (oA (z9 (V4 1 [0,1,3] (z90 (gv 2)) (gN 0) noT (za0 (oA (z9 (gv 1) (z9 (gv 2) (z9 (gv 0) v7))) N7) (oA (z9 (gv 1) (z9 (gv 2) (z9 (gv 0) (z9 (gv 3) v7)))) N6))) v7) kw0))
 p7))
def pk0:List Str:=["one", "other", "pairs", "listed"]
def Q9:List D->Option D:=mkF 3 pk0 wn0
def xm0:GS:=(v8 (ifD (ob (o2 (gv 1) (oA (z9 (gv 0) v7) Y5) ltD))
 (v8 (j6 (o2 (gv 0) (gv 1) ixD))
 p7)
 p7)
 (v8 (j6 (gc (.int 0)))
 p7))
def tu0:List Str:=["_law_script", "_law_k"]
def j7:List D->Option D:=mkF 2 tu0 xm0
def vr0:GS:=(v8 (m5 (gN 2) (gc (.str "abcdefghijklmnopqrstuvwxyz0123456789")))
 (v8 (m5 (gN 3) (o2 (gc (.int 1)) (o2 (gv 0) (gc (.int 8)) m8) n8))
 (v8 (m5 (gN 0) (o2 (gv 0) (gc (.int 8)) d9))
 (v8 (M5 4 (X5 v7))
 (v8 (R7 (V8 (z9 (gv 3) v7)) (gN 5)
 (v8 (V2 (T9 4 (o2 (gv 0) (gc (.int 36)) m8)))
 (v8 (m5 (gN 0) (o2 (gv 0) (gc (.int 36)) d9))
 p7)))
 (v8 (m5 (gN 6) (xr0 (v90 (gc (.str "")) (z9 (V4 1 [2] (z90 (gv 4)) (gN 0) noT (o2 (gv 1) (gv 0) ixD)) v7))))
 (v8 (ifD (ob (o2 (o2 (o2 (gv 1) (gc (.int 8)) d9) (gc (.int 3)) m8) (gc (.int 1)) eqD))
 (v8 (zt0 (V4 1 [6] (nj0 (z9 (gc (.int 1)) (z9 (gc (.int 9)) v7))) (gN 0) noT (U9 (o2 (gc (.int 8)) (gv 1) td0) U8 (someO (gv 0)))))
 p7)
 p7)
 (v8 (m5 (gN 7) (o2 (gv 1) (gv 3) m8))
 (v8 (M5 8 (X5 v7))
 (v8 (R7 (V8 (z9 (gc (.int 8)) v7)) (gN 5)
 (v8 (m5 (gN 9) (o2 (gv 2) (o2 (o2 (xr0 (o2 (gv 4) (gv 7) ixD)) (o2 (gc (.int 4)) (gv 5) W9) n8) (gc (.int 36)) m8) ixD))
 (v8 (V2 (T9 8 (o2 (o2 (U9 (gv 6) U8 (someO (gv 7))) (gv 9) n8) (U9 (gv 6) (someO (o2 (gv 7) (gc (.int 1)) n8)) U8) n8)))
 p7)))
 (v8 (q80 8)
 p7)))))))))))
def o90:List Str:=["_law_cell", "_law_turn", "_law_signs", "_law_size", "_law_places", "_law_k", "_law_word", "_law_at", "_law_found", "_law_sign"]
def J6:List D->Option D:=mkN 2 o90 vr0
def t30:GS:=(v8 (j6 (o2 (o2 (o2 (o2 (gv 0) (gc (.int 2147483647)) m8) (gc (.int 1)) n8) (o2 (gc (.int 48271)) (o2 (gc (.int 7)) (gv 1) W9) n8) W9) (gc (.int 2147483647)) m8))
 p7)
def m50:List Str:=["_law_cell", "_law_k"]
def X6:List D->Option D:=mkF 2 m50 t30
def wr0:GS:=(v8 (m5 (gN 2) (o2 (gv 0) (gc (.int 10)) m8))
 (v8 (ifD (ob (o2 (gv 2) (gc (.int 6)) ltD))
 (v8 (j6 (Y6 (z9 (gc (.str "at")) (z9 (o2 (o2 (gv 0) (gc (.int 10)) d9) (gv 1) m8) v7))))
 p7)
 p7)
 (v8 (ifD (ob (o2 (gv 2) (gc (.int 6)) eqD))
 (v8 (j6 (gc .non))
 p7)
 p7)
 (v8 (ifD (ob (o2 (gv 2) (gc (.int 9)) ltD))
 (v8 (j6 (o2 (o2 (o2 (gv 0) (gc (.int 10)) d9) (gc (.int 3)) m8) (gc (.int 1)) jd0))
 p7)
 p7)
 (v8 (j6 (o2 (o2 (o2 (o2 (gv 0) (gc (.int 10)) d9) (gc (.int 7)) p20) (o2 (gc (.int 10)) (gc (.int 60)) p20) m8) (o2 (gc (.int 1)) (o2 (gc (.int 2)) (o2 (o2 (gv 0) (gc (.int 20)) d9) (gc (.int 2)) m8) W9) jd0) W9))
 p7)))))
def q40:List Str:=["_law_number", "_law_many", "_law_kind"]
def T3:List D->Option D:=mkF 2 q40 wr0
def w70:GS:=(v8 (M5 3 (X5 v7))
 (v8 (R7 (V8 (z9 (gv 1) v7)) (gN 4)
 (v8 (m5 (gN 0) (o2 (o2 (gv 0) (gc (.int 48271)) W9) (gc (.int 2147483647)) m8))
 (v8 (V2 (T9 3 (oA (z9 (gv 0) (z9 (gv 2) v7)) T3)))
 p7)))
 (v8 (q80 3)
 p7)))
def su0:List Str:=["_law_number", "_law_count", "_law_many", "_law_found", "_law_k"]
def O6:List D->Option D:=mkN 3 su0 w70
def vw0:GS:=(v8 (m5 (gN 3) (o2 (gv 0) (gc (.int 8)) m8))
 (v8 (ifD (ob (o2 (gv 3) (gc (.int 0)) eqD))
 (v8 (j6 (Y6 (z9 (gc (.str "text")) (z9 (o2 (X5 (z9 (gc (.str "")) (z9 (gc (.str "a")) (z9 (gc (.str " a")) (z9 (o2 (o2 (gv 2) (gc (.int 0)) ixD) (gc (.str " 0")) n8) v7))))) (o2 (o2 (gv 0) (gc (.int 16)) d9) (gc (.int 4)) m8) ixD) v7))))
 p7)
 p7)
 (v8 (ifD (ob (o2 (gv 3) (gc (.int 4)) ltD))
 (v8 (j6 (Y6 (z9 (gc (.str "row")) (z9 (oA (z9 (gv 1) v7) P0) v7))))
 p7)
 p7)
 (v8 (m5 (gN 4) (o2 (o2 (o2 (gv 0) (gc (.int 8)) d9) (gc (.int 2)) m8) (gc (.int 3)) W9))
 (v8 (m5 (gN 5) (oA (z9 (V4 1 [1,2,4] (V8 (z9 (oA (z9 (gv 1) v7) Y5) v7)) (gN 0) noT (Y6 (z9 (o2 (gv 2) (o2 (o2 (gv 3) (gv 0) n8) (gc (.int 8)) m8) ixD) (z9 (o2 (gv 1) (gv 0) ixD) v7)))) v7) P0))
 (v8 (ifD (ob (o2 (gv 3) (gc (.int 6)) ltD))
 (v8 (j6 (Y6 (z9 (gc (.str "table")) (z9 (gv 5) v7))))
 p7)
 p7)
 (v8 (j6 (Y6 (z9 (gc (.str "record")) (z9 (o2 (gv 2) (o2 (o2 (gv 0) (gc (.int 16)) d9) (gc (.int 2)) m8) ixD) (z9 (gv 5) v7)))))
 p7)))))))
def o10:List Str:=["_law_number", "_law_some", "_law_pool_here", "_law_kind", "_law_start", "_law_pairs_here"]
def J7:List D->Option D:=mkF 3 o10 vw0
def uz0:GS:=(v8 (M5 3 (X5 v7))
 (v8 (R7 (V8 (z9 (gv 1) v7)) (gN 4)
 (v8 (m5 (gN 5) (oA (z9 (o2 (o2 (gv 0) (o2 (gv 4) (oA (z9 (gv 0) v7) Y5) m8) ixD) (o2 (gv 4) (o2 (gv 4) (oA (z9 (gv 0) v7) Y5) d9) W9) n8) (z9 (gv 4) v7)) X6))
 (v8 (m5 (gN 6) (o2 (X5 (z9 (gc (.int 0)) (z9 (gc (.int 1)) (z9 (gc (.int 2)) (z9 (gc (.int 2)) (z9 (gc (.int 3)) (z9 (gc (.int 2)) (z9 (gc (.int 3)) (z9 (gc (.int 1)) v7))))))))) (o2 (o2 (gv 5) (gc (.int 32)) d9) (gc (.int 8)) m8) ixD))
 (v8 (ifD (ob (o2 (o2 (o2 (gv 5) (gc (.int 256)) d9) (gc (.int 16)) m8) (gc (.int 3)) eqD))
 (v8 (m5 (gN 6) (o2 (X5 (z9 (gc (.int 8)) (z9 (gc (.int 12)) v7))) (oA (z9 (o2 (o2 (gv 5) (gc (.int 8)) m8) (gc (.int 4)) ltD) v7) intOfD) ixD))
 p7)
 p7)
 (v8 (m5 (gN 7) (oA (z9 (o2 (o2 (gv 5) (gc (.int 8)) d9) (gc (.int 1)) n8) (z9 (gv 6) (z9 (gv 1) v7))) O6))
 (v8 (V2 (T9 3 (oA (z9 (gv 5) (z9 (gv 7) (z9 (gv 2) v7))) J7)))
 p7))))))
 (v8 (j6 (to0 (oA (z9 (gv 3) v7) P0)))
 p7)))
def md0:List Str:=["_law_cells", "_law_many", "_law_pool_here", "_law_parts", "_law_k", "_law_number", "_law_count", "_law_some"]
def z30:List D->Option D:=mkF 3 md0 uz0
def vp0:GS:=(v8 (ifD (ob (o2 (o2 (gv 0) (gc (.int 0)) ixD) (gc (.str "text")) eqD))
 (v8 (zt0 (X5 v7))
 p7)
 p7)
 (v8 (ifD (ob (o2 (o2 (gv 0) (gc (.int 0)) ixD) (gc (.str "row")) eqD))
 (v8 (zt0 (oA (z9 (o2 (gv 0) (gc (.int 1)) ixD) v7) yt0))
 p7)
 p7)
 (v8 (zt0 (V4 2 [] (tupI (o2 (gv 0) (unG zw0 (gc (.int 1))) ixD)) (tf0 0 1) noT (gv 1)))
 p7)))
def o30:List Str:=["_law_part_here"]
def Z6:List D->Option D:=mkN 1 o30 vp0
def u10:GS:=(v8 (ifD (ob (o2 (o2 (gv 0) (gc (.int 0)) ixD) (gc (.str "row")) eqD))
 (v8 (j6 (Y6 (z9 (gc (.str "row")) (z9 (oA (z9 (o2 (gv 0) (gc (.int 1)) ixD) v7) Y5) v7))))
 p7)
 p7)
 (v8 (ifD (ob (o2 (o2 (gv 0) (gc (.int 0)) ixD) (gc (.str "text")) eqD))
 (v8 (j6 (gv 0))
 p7)
 p7)
 (v8 (j6 (o2 (U9 (gv 0) U8 (someO (unG zw0 (gc (.int 1))))) (Y6 (z9 (oA (z9 (V4 2 [] (tupI (o2 (gv 0) (unG zw0 (gc (.int 1))) ixD)) (tf0 0 1) noT (gv 0)) v7) P0) v7)) n8))
 p7)))
def o60:List Str:=["_law_part_here"]
def Q0:List D->Option D:=mkF 1 o60 u10
def vt0:GS:=(v8 (ifD (ob (o2 (o2 (gv 0) (gc (.int 0)) ixD) (gc (.str "text")) eqD))
 (v8 (j6 (gv 0))
 p7)
 p7)
 (v8 (ifD (ob (o2 (o2 (gv 0) (gc (.int 0)) ixD) (gc (.str "row")) eqD))
 (v8 (j6 (Y6 (z9 (gc (.str "row")) (z9 (oA (z9 (gv 1) v7) P0) v7))))
 p7)
 p7)
 (v8 (j6 (o2 (U9 (gv 0) U8 (someO (unG zw0 (gc (.int 1))))) (Y6 (z9 (oA (z9 (V4 1 [0,1] (V8 (z9 (oA (z9 (gv 1) v7) Y5) v7)) (gN 0) noT (Y6 (z9 (o2 (o2 (o2 (gv 1) (unG zw0 (gc (.int 1))) ixD) (gv 0) ixD) (gc (.int 0)) ixD) (z9 (o2 (gv 2) (gv 0) ixD) v7)))) v7) P0) v7)) n8))
 p7)))
def o00:List Str:=["_law_part_here", "_law_some"]
def W8:List D->Option D:=mkF 2 o00 vt0
def xj0:GS:=(v8 (m5 (gN 2) (o2 (gv 1) (oA (z9 (gv 0) v7) Y5) m8))
 (v8 (M5 3 (oA (z9 (o2 (gv 0) (gv 2) ixD) v7) Z6))
 (v8 (ifD (t80 (ob (o2 (gv 3) (X5 v7) J8)))
 (v8 (j6 (gv 0))
 p7)
 p7)
 (v8 (m5 (gN 4) (o2 (o2 (gv 1) (gc (.int 60)) d9) (xr0 (oA (z9 (gv 3) v7) Y5)) m8))
 (v8 (zx0 (ye0 (oA (z9 (o2 (o2 (gv 1) (gc (.int 240)) d9) (gc (.int 1000000)) m8) (z9 (oA (z9 (gv 0) v7) Y5) v7)) T3)) (setAt 3 (gv 4)))
 (v8 (j6 (to0 (o2 (o2 (U9 (gv 0) U8 (someO (gv 2))) (Y6 (z9 (oA (z9 (o2 (gv 0) (gv 2) ixD) (z9 (gv 3) v7)) W8) v7)) n8) (U9 (gv 0) (someO (o2 (gv 2) (gc (.int 1)) n8)) U8) n8)))
 p7))))))
def tx0:List Str:=["_law_web_here", "_law_cell", "_law_k", "_law_some", "_law_at"]
def S5:List D->Option D:=mkF 2 tx0 xj0
def v30:GS:=(v8 (M5 3 (X5 v7))
 (v8 (m5 (gN 4) (oA (z9 (o2 (gv 0) (o2 (gv 2) (gc (.int 0)) ixD) ixD) v7) Z6))
 (v8 (m5 (gN 5) (oA (z9 (o2 (gv 1) (o2 (gv 2) (gc (.int 1)) ixD) ixD) v7) Z6))
 (v8 (ifD (ob (o2 (oA (z9 (o2 (gv 0) (o2 (gv 2) (gc (.int 0)) ixD) ixD) v7) Q0) (oA (z9 (o2 (gv 1) (o2 (gv 2) (gc (.int 1)) ixD) ixD) v7) Q0) O2))
 (v8 (j6 (gc .non))
 p7)
 p7)
 (v8 (R7 (V8 (z9 (oA (z9 (gv 4) v7) Y5) v7)) (gN 6)
 (v8 (ifD (xz0 (ob (M9 isTup (o2 (gv 4) (gv 6) ixD))) (ob (M9 isTup (o2 (gv 5) (gv 6) ixD))))
 (v8 (V2 (T9 3 (Y6 (z9 (o2 (o2 (gv 4) (gv 6) ixD) (gc (.int 1)) ixD) (z9 (o2 (o2 (gv 5) (gv 6) ixD) (gc (.int 1)) ixD) v7)))))
 p7)
 (v8 (ifD (ob (o2 (o2 (gv 4) (gv 6) ixD) (o2 (gv 5) (gv 6) ixD) O2))
 (v8 (j6 (gc .non))
 p7)
 p7)
 p7))
 p7))
 (v8 (j6 (to0 (gv 3)))
 p7))))))
def pl0:List Str:=["_law_one", "_law_other", "_law_pair", "_law_found", "_law_first", "_law_second", "_law_k"]
def Z4:List D->Option D:=mkF 3 pl0 v30
end Fa
namespace Pn
open Fa
open DL W
theorem zk0(p:Pt)(h:p.few):m_values [p.d]=some (.lst p.vals):=by
 cases p with
 | text w=>kernel_rfl
 | row vs =>
  refine K9 rfl (u9 (δ':=[.sh (Pt.row vs).d]) (by rw[Z2 (by kernel_rfl)];rfl) (J1 (by rw[U0 (by kernel_rfl)];rfl)))
 | table ps =>
  refine K9 rfl (u9 (δ':=[.sh (Pt.table ps).d]) (by rw[Z2 (by kernel_rfl)];rfl) (u9 (δ':=[.sh (Pt.table ps).d]) (by rw[Z2 (by kernel_rfl)];rfl) (J1 (zy0 ?_))));exact U7 (items:=ps.map pr) rfl (by have:(ps.map (·.2)).length<=sizeLine:=h;simpa using this) (qy0 ps)
 | rcd c ps =>
  refine K9 rfl (u9 (δ':=[.sh (Pt.rcd c ps).d]) (by rw[Z2 (by kernel_rfl)];rfl) (u9 (δ':=[.sh (Pt.rcd c ps).d]) (by rw[Z2 (by kernel_rfl)];rfl) (J1 (zy0 ?_))));exact U7 (items:=ps.map pr) rfl (by have:(ps.map (·.2)).length<=sizeLine:=h;simpa using this) (qy0 ps)
theorem sy0(p:Pt)(h:p.few):K1 [p.d]=some (.lst (p.pnames.map .str)):=by
 cases p with
 | text w=>kernel_rfl
 | row vs=>kernel_rfl
 | table ps =>
  refine K9 rfl (u9 (δ':=[.sh (Pt.table ps).d]) (by rw[Z2 (by kernel_rfl)];rfl) (J1 (zy0 ?_)));exact U7 (items:=ps.map pr) rfl (by have:(ps.map (·.2)).length<=sizeLine:=h;simpa using this) (pb0 ps)
 | rcd c ps =>
  refine K9 rfl (u9 (δ':=[.sh (Pt.rcd c ps).d]) (by rw[Z2 (by kernel_rfl)];rfl) (J1 (zy0 ?_)));exact U7 (items:=ps.map pr) rfl (by have:(ps.map (·.2)).length<=sizeLine:=h;simpa using this) (pb0 ps)
def hd:Pt->D
 | .text w=>.tup [.str "text",.str w]
 | .row vs=>.tup [.str "row",.int vs.length]
 | .table ps=>.tup [.str "table",.tup ((ps.map (·.1)).map .str)]
 | .rcd c ps=>.tup [.str "record",.str c,.tup ((ps.map (·.1)).map .str)]
def put:Pt->List D->Pt
 | .text w,_=>.text w
 | .row _,vs=>.row vs
 | .table ps,vs=>.table ((ps.map (·.1)).zip vs)
 | .rcd c ps,vs=>.rcd c ((ps.map (·.1)).zip vs)
theorem vj0(p:Pt)(h:p.few):z20 [p.d]=some (hd p):=by
 have e:=sy0 p h;cases p with
 | text w=>kernel_rfl
 | row vs=>kernel_rfl
 | table ps =>
  refine j5 rfl (u9 (δ':=[.sh (Pt.table ps).d]) (by rw[Z2 (by kernel_rfl)];rfl) (u9 (δ':=[.sh (Pt.table ps).d]) (by rw[Z2 (by kernel_rfl)];rfl) (o8 ?_)));rw[U0 (by kernel_rfl)];refine o8 (Z9 (W5 (cons_of rfl (cons_of (d:=.tup ((ps.map (·.1)).map .str)) ?_ rfl)) (by show 2<=sizeLine;decide)));rw[m7 (cons_of (by rw[m7 (ds:=[(Pt.table ps).d]) rfl];exact e) rfl)];rfl
 | rcd c ps =>
  refine j5 rfl (u9 (δ':=[.sh (Pt.rcd c ps).d]) (by rw[Z2 (by kernel_rfl)];rfl) (u9 (δ':=[.sh (Pt.rcd c ps).d]) (by rw[Z2 (by kernel_rfl)];rfl) (u9 (δ':=[.sh (Pt.rcd c ps).d]) (by rw[Z2 (by kernel_rfl)];rfl) ?_)));refine o8 (Z9 (W5 (cons_of rfl (cons_of (d:=.str c) rfl (cons_of (d:=.tup ((ps.map (·.1)).map .str)) ?_ rfl))) (by show 3<=sizeLine;decide)));rw[m7 (cons_of (by rw[m7 (ds:=[(Pt.rcd c ps).d]) rfl];exact e) rfl)];rfl
theorem i40(h:∀d∈l,lean d n=true):leans l n=true:=by
 induction l with
 | nil=>unfold leans;rfl
 | cons d l ih =>
  unfold leans;rw[h d A5,ih λe he=>h e (B0 _ he)];rfl
theorem ys0(s:Str)(n:Nat):lean (.str s) n=true:=by unfold lean;rfl
theorem yk0(h:∀d∈l,lean d n=true):lean (.tup l) (n+1)=true:=by unfold lean;exact i40 h
mutual
theorem uc0:∀(d:D) (n:Nat),lean d n=true->deq d d=true
 | .non,_,_=>by unfold deq;rfl
 | .bl b,_,_=>by unfold deq;simp
 | .int b,_,_=>by unfold deq;simp
 | .str b,_,_=>by unfold deq;simp
 | .tup ds,0,h=>by unfold lean at h;cases h
 | .tup ds,n+1,h=>by unfold lean at h;unfold deq;exact v50 ds n h
 | .lst ds,0,h=>by unfold lean at h;cases h
 | .lst ds,n+1,h=>by unfold lean at h;unfold deq;exact v50 ds n h
 | .dct _ _,n,h=>by unfold lean at h;cases h
 | .fn _ _,n,h=>by unfold lean at h;cases h
theorem v50:∀(ds:List D) (n:Nat),leans ds n=true->K3 ds ds=true
 | [],_,_=>by unfold K3;rfl
 | d::ds,n,h=>by
  unfold leans at h;rw[Bool.and_eq_true] at h;unfold K3;rw[uc0 d n h.1,v50 ds n h.2];rfl
end
mutual
def nb:D->Bool
 | .bl _=>false
 | .dct _ _=>false
 | .fn _ _=>false
 | .tup xs=>nbs xs
 | .lst xs=>nbs xs
 | _=>true
def nbs:List D->Bool
 | []=>true
 | x::xs=>nb x&&nbs xs
end
mutual
theorem ln0:∀(d e:D),nb d=true->nb e=true->deq d e=true->d=e
 | .non,e,_,h2,h=>by cases e<;>unfold deq at h<;>first|rfl|(cases h)
 | .bl b,e,h1,_,_=>by unfold nb at h1;cases h1
 | .int i,e,_,h2,h=>by
  cases e<;>unfold deq at h<;>first|(cases h;done)|(unfold nb at h2;cases h2;done)|(rw[beq_iff_eq] at h;rw[h])
 | .str x,e,_,h2,h=>by cases e<;>unfold deq at h<;>first|(cases h;done)|(rw[beq_iff_eq] at h;rw[h])
 | .tup xs,e,h1,h2,h=>by
  cases e<;>unfold deq at h<;>try (cases h;done)
  unfold nb at h1 h2;rw[tj0 _ _ h1 h2 h]
 | .lst xs,e,h1,h2,h=>by
  cases e<;>unfold deq at h<;>try (cases h;done)
  unfold nb at h1 h2;rw[tj0 _ _ h1 h2 h]
 | .dct _ _,e,h1,_,_=>by unfold nb at h1;cases h1
 | .fn _ _,e,h1,_,_=>by unfold nb at h1;cases h1
theorem tj0:∀(ds es:List D),nbs ds=true->nbs es=true->K3 ds es=true->ds=es
 | [],[],_,_,_=>rfl
 | [],_::_,_,_,h=>by unfold K3 at h;cases h
 | _::_,[],_,_,h=>by unfold K3 at h;cases h
 | d::ds,e::es,h1,h2,h=>by
  unfold nbs at h1 h2;unfold K3 at h;rw[Bool.and_eq_true] at h1 h2 h;rw[ln0 d e h1.1 h2.1 h.1,tj0 ds es h1.2 h2.2 h.2]
end
theorem dh0(h:∀d∈l,nb d=true):nbs l=true:=by
 induction l with
 | nil=>unfold nbs;rfl
 | cons d l ih =>
  unfold nbs;rw[h d A5,ih λe he=>h e (B0 _ he)];rfl
structure Pl(d:D):Prop where
 le:lean d 50=true
 nb:nb d=true
theorem es0{d:D}(h:lean d 50=true):J8 d d=some (.bl true):=by
 unfold J8;rw[if_pos ⟨h,h⟩,uc0 d 50 h]
theorem kx0{d:D}(h:lean d 50=true):O2 d d=some (.bl false):=by
 unfold O2;rw[if_pos ⟨h,h⟩,uc0 d 50 h];rfl
theorem jb0{d e:D}(h1:Pl d)(h2:Pl e)(n:d≠e):O2 d e=some (.bl true):=by
 unfold O2;rw[if_pos ⟨h1.le,h2.le⟩];cases q:deq d e with
 | false=>rfl
 | true=>exact absurd (ln0 d e h1.nb h2.nb q) n
theorem wh0(s:Str):nb (.str s)=true:=by unfold nb;rfl
theorem ea0(i:Int):nb (.int i)=true:=by unfold nb;rfl
theorem wm0(h:∀d∈l,nb d=true):nb (.tup l)=true:=by unfold nb;exact dh0 h
theorem vl0(p:Pt):Pl (hd p):=by
 have ls:∀(ns:List Str) (n:Nat),lean (.tup (ns.map .str)) (n+1)=true:=λns n=>yk0 λd hd=>by
  obtain⟨q,_,rfl⟩:=A8.mp hd;exact ys0 _ _
 have nn:∀(ns:List Str),nb (.tup (ns.map .str))=true:=λns=>wm0 λd hd=>by
  obtain⟨q,_,rfl⟩:=A8.mp hd;exact wh0 _
 have li:∀(i:Int) (n:Nat),lean (.int i) n=true:=λi n=>by unfold lean;rfl
 cases p with
 | text w=>exact⟨yk0 λd hd=>by simp only[List.mem_cons,List.not_mem_nil,or_false] at hd;rcases hd with rfl|rfl<;>exact ys0 _ _,wm0 λd hd=>by simp only[List.mem_cons,List.not_mem_nil,or_false] at hd;rcases hd with rfl|rfl<;>exact wh0 _⟩
 | row w=>exact⟨yk0 λd hd=>by simp only[List.mem_cons,List.not_mem_nil,or_false] at hd;rcases hd with rfl|rfl<;>first|exact ys0 _ _|exact li _ _,wm0 λd hd=>by simp only[List.mem_cons,List.not_mem_nil,or_false] at hd;rcases hd with rfl|rfl<;>first|exact wh0 _|exact ea0 _⟩
 | table w=>exact⟨yk0 λd hd=>by simp only[List.mem_cons,List.not_mem_nil,or_false] at hd;rcases hd with rfl|rfl<;>first|exact ys0 _ _|exact ls _ _,wm0 λd hd=>by simp only[List.mem_cons,List.not_mem_nil,or_false] at hd;rcases hd with rfl|rfl<;>first|exact wh0 _|exact nn _⟩
 | rcd c w=>exact⟨yk0 λd hd=>by simp only[List.mem_cons,List.not_mem_nil,or_false] at hd;rcases hd with rfl|rfl|rfl<;>first|exact ys0 _ _|exact ls _ _,wm0 λd hd=>by simp only[List.mem_cons,List.not_mem_nil,or_false] at hd;rcases hd with rfl|rfl|rfl<;>first|exact wh0 _|exact nn _⟩
end Pn
namespace W
open DL StrLaws Builtin.Str
theorem zn0(l:List Nat):(strOf l).cps.toList=l:=by simp[strOf]
theorem G8(l:List Nat):(strOf l).length=l.length:=by show l.toArray.size=_;simp
theorem jg0(x:PySem.Str):strOf x.cps.toList=x:=by cases x;simp[strOf]
end W
namespace Gw
open Fa
open DL W StrLaws
theorem mul_r(i j:Int)(h:-(2 ^ 64)<j/\j<2 ^ 64):W9 (.int i) (.int j)=some (.int (i*j)):=by simp only[W9];rw[if_pos (.inr h)]
theorem nl0(i j:Int)(h:-(2 ^ 64)<i/\i<2 ^ 64):W9 (.int i) (.int j)=some (.int (i*j)):=by simp only[W9];rw[if_pos (.inl h)]
theorem N5(i j:Int)(h:0<j):m8 (.int i) (.int j)=some (.int (i%j)):=by simp only[m8,ii];rw[if_pos h]
theorem y20(i j:Int)(h:0<j/\j<1073741824):d9 (.int i) (.int j)=some (.int (i/j)):=by simp only[d9,ii];rw[if_pos h]
theorem v20{g:GE}{d:D}(h1:owL i δ=some l)(h2:g δ=some d)(h3:l.length<sizeLine):V2 (T9 i g) δ=some (.nx (δ.set i (.ow (.lst (l++[d]))))):=by
 unfold V2 T9;rw[h1,h2];simp only[Option.bind_some];rw[if_pos h3];rfl
theorem J4(ns:List Int)(k:Int)(h0:0<=k):∃z,j7 [.lst (ns.map .int),.int k]=some (.int z):=by
 by_cases h:k<ns.length
 ·have F:k.toNat<ns.length:=by omega
  refine⟨ns[k.toNat],j5 rfl (o8 ?_)⟩;rw[U0 (by
   show some (decide (k<(((ns.map D.int).length:Nat):Int)))=_;rw[decide_eq_true (by rw[List.length_map];exact h)])]
  refine o8 (Z9 ?_);show atI (ns.map D.int) k=_;rw[J0 h0 (by rw[List.length_map];exact h) .non];simp[List.getD_eq_getElem?_getD,F]
 ·refine⟨0,j5 rfl (u9 (δ':=[.sh (.lst (ns.map .int)),.sh (.int k)]) ?_ rfl)⟩
  rw[Z2 (by
   show some (decide (k<(((ns.map D.int).length:Nat):Int)))=_;rw[decide_eq_false (by rw[List.length_map];exact h)])]
  rfl
theorem j00(l:List Nat)(n:Nat):m00 (strOf l) (n:Int)=strOf (List.replicate n l).flatten:=by
 have key:∀(k:Nat) (F:Array Nat),(List.replicate k l.toArray).foldl (·++·) F=F++(List.replicate k l).flatten.toArray:=by
  intro k
  induction k with
  | zero=>intro F;simp
  | succ k ih=>intro F;rw[List.replicate_succ,List.foldl_cons,ih,List.replicate_succ,List.flatten_cons];simp
 unfold m00;show (⟨(List.replicate ((n:Int)).toNat l.toArray).foldl (·++·) #[]⟩:Str)=⟨_⟩;rw[Int.toNat_natCast,key];simp
theorem lw0(l:List Nat)(k:Int)(h0:0<=k)(h1:k<=l.length):Txt.slice (strOf l) none (some k)=strOf (l.take k.toNat):=by
 show sliceText _ _ _=_;rw[sliceText_to ⟨h0,by rw[zn0];exact h1⟩,zn0];simp[strOf]
theorem ca0(l:List Nat)(k:Int)(h0:0<=k)(h1:k<=l.length):Txt.slice (strOf l) (some k) none=strOf (l.drop k.toNat):=by
 show sliceText _ _ _=_;rw[sliceText_from ⟨h0,by rw[zn0];exact h1⟩,zn0];unfold strOf;congr 2;rw[List.take_of_length_le];rw[List.length_drop];omega
theorem cp0(a b:List Nat):strOf a++strOf b=strOf (a++b):=by
 show (⟨_⟩:Str)=⟨_⟩;simp[strOf]
theorem nn0(a b:List Nat)(h:a.length+b.length<=sizeLine):n8 (.str (strOf a)) (.str (strOf b))=some (.str (strOf (a++b))):=by
 simp only[n8];rw[if_pos (by rw[G8,G8];exact h),cp0]
structure Pool(nm:List Str):Prop where
 len:nm.length=8
 names:∀s∈nm,isName s=true
 nd:nm.Nodup
def PB:GS:=(v8 (V2 (T9 4 (o2 (gv 0) (gc (.int 36)) m8)))
 (v8 (m5 (gN 0) (o2 (gv 0) (gc (.int 36)) d9))
 p7))
def PC:GS:=(v8 (m5 (gN 9) (o2 (gv 2) (o2 (o2 (xr0 (o2 (gv 4) (gv 7) ixD)) (o2 (gc (.int 4)) (gv 5) W9) n8) (gc (.int 36)) m8) ixD))
 (v8 (V2 (T9 8 (o2 (o2 (U9 (gv 6) U8 (someO (gv 7))) (gv 9) n8) (U9 (gv 6) (someO (o2 (gv 7) (gc (.int 1)) n8)) U8) n8)))
 p7))
theorem tb0(c t:Int):∃nm,J6 [.int c,.int t]=some (.lst (nm.map .str))/\Pool nm:=by
 have z:(1000:Nat)<=sizeLine:=by decide
 obtain⟨n,hn⟩:∃n:Nat,(n:Int)=1+c%8:=⟨(1+c%8).toNat,by omega⟩;obtain⟨δ',l1,l2⟩:=Q8 (f:=gN 5) (G:=PB) (λi δ=>∃(c':Int) (l:List Int) (s5:Sl),δ=[.sh (.int c'),.sh (.int t),.sh (.str V6),.sh (.int (n:Int)),.ow (.lst (l.map .int)),s5,.un,.un,.un,.un]/\l.length=i/\∀x∈l,0<=x/\x<36) (Y4 0 (n:Int)) 0
  [.sh (.int (c/8)),.sh (.int t),.sh (.str V6),.sh (.int (n:Int)),.ow (.lst []),.un,.un,.un,.un,.un] (by
   rintro j d δ hj ⟨c',l,s5,rfl,hl,hx⟩;obtain⟨S,rfl⟩:=z70 hj;rw[Int.toNat_natCast] at S;refine⟨_,[.sh (.int (c'/36)),.sh (.int t),.sh (.str V6),.sh (.int (n:Int)),.ow (.lst ((l++[c'%36]).map .int)),.sh (.int (j:Int)),.un,.un,.un,.un],rfl,?_,c'/36,l++[c'%36],_,rfl,by simp[hl],λx a0=>?_⟩
   ·refine u9 (v20 (l:=l.map .int) (d:=.int (c'%36)) rfl rfl (by rw[List.length_map];omega)) ?_
    rw[List.map_append];rfl
   ·rcases B8.mp a0 with q|q
    ·exact hx x q
    ·rw[List.mem_singleton.mp q];omega) ⟨_,[],_,rfl,rfl,λx hx=>by cases hx⟩
 obtain⟨c',pl,s5,rfl,Z,M⟩:=l2;rw[yg0,Int.toNat_natCast,Nat.zero_add] at Z;obtain⟨w,hw⟩:∃w:List Nat,w=pl.map cg:=⟨_,rfl⟩;have wl:w.length=n:=by rw[hw,List.length_map,Z]
 have wm:∀x∈w,x∈nameS.cps.toList:=λx hx=>by
  rw[hw] at hx;obtain⟨i,hi,rfl⟩:=A8.mp hx;exact ki0 i (M i hi).1 (M i hi).2
 have U:∀(G:GS) (r:Option Res),G [.sh (.int c'),.sh (.int t),.sh (.str V6),.sh (.int (n:Int)),.ow (.lst (pl.map .int)),s5,.sh (.str (strOf w)),.un,.un,.un]=r ->
   (v8 (m5 (gN 2) (gc (.str "abcdefghijklmnopqrstuvwxyz0123456789")))
    (v8 (m5 (gN 3) (o2 (gc (.int 1)) (o2 (gv 0) (gc (.int 8)) m8) n8))
    (v8 (m5 (gN 0) (o2 (gv 0) (gc (.int 8)) d9))
    (v8 (M5 4 (X5 v7))
    (v8 (R7 (V8 (z9 (gv 3) v7)) (gN 5) PB)
    (v8 (m5 (gN 6) (xr0 (v90 (gc (.str "")) (z9 (V4 1 [2] (z90 (gv 4)) (gN 0) noT (o2 (gv 1) (gv 0) ixD)) v7)))) G)))))) [.sh (.int c),.sh (.int t),.un,.un,.un,.un,.un,.un,.un,.un]=r:=λG r hG=>by
  refine u9 (d8 (d:=.str V6) rfl) (u9 (d8 (d:=.int (n:Int)) (by rw[hn];rfl)) (u9 (d8 (d:=.int (c/8)) rfl) (u9 (δ':=[.sh (.int (c/8)),.sh (.int t),.sh (.str V6),.sh (.int (n:Int)),.ow (.lst []),.un,.un,.un,.un,.un]) rfl (u9 (T7 (items:=Y4 0 (n:Int)) (Q6 (cons_of rfl rfl) (by omega) (by omega)) l1) (u9 (d8 (d:=.str (strOf w)) ?_) hG)))));show Option.bind _ _=_;rw[gk0 (x:=.str "") (ds:=[.lst ((ones w).map .str)]) rfl (cons_of (U7 (items:=pl.map .int) rfl (by rw[List.length_map];omega) (by
   rw[Q3 (λd=>match d with|.int i=>.str ⟨#[cg i]⟩|_=>.non) (λd hd=>by
    obtain⟨i,hi,rfl⟩:=A8.mp hd;refine⟨[.sh (.int i),.sh (.str V6)],rfl,rfl,?_⟩;rw[o4 (x:=.str V6) (y:=.int i) rfl rfl];exact n60 i (M i hi).1 (M i hi).2)]
   rw[hw];unfold ones;rw[List.map_map,List.map_map,List.map_map];rfl)) rfl)]
  have e1:=strs_map id (ones w);have a1:wy0 ((ones w).map D.str)=some (ones w):=by simpa using e1
  simp only[ra0];rw[a1,Option.bind_some,s80,join_ones,if_pos (by
   have:("" : PySem.Str).length=0:=by decide +kernel
   rw[this];omega)]
  rfl
 by_cases hb:t/8%3=1
 ·refine⟨(List.range 8).map λk=>strOf ((List.replicate 8 w).flatten.take (k+1)),K9 rfl (U _ _ (J1 ?_)),by simp,λs hs=>?_,?_⟩
  ·rw[U0 (by show some (decide (t/8%3=1))=_;rw[decide_eq_true hb])]
   refine J1 (zy0 (U7 (items:=(List.range 8).map λ(k:Nat)=>D.int ((k:Int)+1)) rfl (by simp;omega) ?_));rw[Q3 (λd=>match d with|.int i=>.str (strOf ((List.replicate 8 w).flatten.take i.toNat))|_=>.non) (λd hd=>by
    obtain⟨k,hk,rfl⟩:=A8.mp hd;have hk:=D3.mp hk;refine⟨[.sh (.int ((k:Int)+1)),.sh (.str (strOf w))],rfl,rfl,?_⟩;have hm:o2 (gc (.int 8)) (gv 1) td0 [.sh (.int ((k:Int)+1)),.sh (.str (strOf w))]=some (.str (strOf (List.replicate 8 w).flatten)):=by
     rw[o4 (x:=.int 8) (y:=.str (strOf w)) rfl rfl];simp only[td0];rw[if_pos ⟨by decide,by decide,by rw[G8,wl];show n*8<=_;omega⟩];exact D1 (λs=>some (D.str s)) (j00 w 8)
    have J:(List.replicate 8 w).flatten.length=8*n:=by simp[wl];omega
    unfold U9;rw[hm];show slA (.str (strOf (List.replicate 8 w).flatten)) none (some ((k:Int)+1))=_;simp only[slA];rw[if_pos (by rw[G8,J];omega),lw0 _ _ (by omega) (by rw[J];omega)])]
   rw[List.map_map,List.map_map];rfl
  ·obtain⟨k,hk,rfl⟩:=A8.mp hs
   have hk:=D3.mp hk;have J:(List.replicate 8 w).flatten.length=8*n:=by simp[wl];omega
   refine sj0 _ (by rw[List.length_take,J];omega) (by rw[List.length_take];omega) λx hx=>?_
   have:=d5 hx;obtain⟨l,hl,hx⟩:=List.mem_flatten.mp this;rw[(List.mem_replicate.mp hl).2] at hx;exact wm x hx
  ·refine A10.mpr (Q2.mpr (A20 ?_ (A30 (n:=8))))
   intro a b ha Y a7 e;have ha:=D3.mp ha;have Y:=D3.mp Y;have e:=D1 List.length (sk0 e);have J:(List.replicate 8 w).flatten.length=8*n:=by simp[wl];omega
   rw[List.length_take,List.length_take,J] at e;omega
 ·obtain⟨a,ha⟩:∃a:Nat,(a:Int)=t%(n:Int):=⟨(t%(n:Int)).toNat,by have:=C9 t (by omega:(n:Int)≠0);omega⟩
  have a2:a<n:=by have:=D0 t (by omega:(0:Int)<n);omega
  obtain⟨p,hp⟩:∃p,p=pl.getD a 0:=⟨_,rfl⟩;have a6:0<=p/\p<36:=by
   have O:a<pl.length:=by omega
   have:p=pl[a]:=by rw[hp];simp[List.getD_eq_getElem?_getD,O]
   rw[this];exact M _ (C8 O)
  let F:Nat->List Nat:=λk=>w.take a++cg ((p+4*(k:Int))%36)::w.drop (a+1)
  have Fl:∀k,(F k).length=n:=λk=>by
   show (w.take a++cg ((p+4*(k:Int))%36)::w.drop (a+1)).length=n;rw[List.length_append,List.length_cons,List.length_take,List.length_drop];omega
  obtain⟨a3,m1,m2⟩:=Q8 (f:=gN 5) (G:=PC) (λi δ=>∃(s5 s9:Sl),δ=[.sh (.int c'),.sh (.int t),.sh (.str V6),.sh (.int (n:Int)),.ow (.lst (pl.map .int)),s5,.sh (.str (strOf w)),.sh (.int (a:Int)),.ow (.lst (((List.range i).map λk=>strOf (F k)).map .str)),s9]) (Y4 0 8) 0
   [.sh (.int c'),.sh (.int t),.sh (.str V6),.sh (.int (n:Int)),.ow (.lst (pl.map .int)),s5,.sh (.str (strOf w)),.sh (.int (a:Int)),.ow (.lst []),.un] (by
    rintro j d δ hj ⟨s5,s9,rfl⟩;obtain⟨S,rfl⟩:=z70 hj;have S:j<8:=S;rw[Nat.zero_add];refine⟨_,[.sh (.int c'),.sh (.int t),.sh (.str V6),.sh (.int (n:Int)),.ow (.lst (pl.map .int)),.sh (.int (j:Int)),.sh (.str (strOf w)),.sh (.int (a:Int)),.ow (.lst (((List.range (j+1)).map λk=>strOf (F k)).map .str)),.sh (.str ⟨#[cg ((p+4*(j:Int))%36)]⟩)],rfl,?_,_,_,rfl⟩;refine u9 (d8 (d:=.str ⟨#[cg ((p+4*(j:Int))%36)]⟩) ?_) ?_
    ·rw[o4 (x:=.str V6) (y:=.int ((p+4*(j:Int))%36)) rfl (by
      rw[o4 (x:=.int (p+4*(j:Int))) (y:=.int 36) (by
       rw[o4 (x:=.int p) (y:=.int (4*(j:Int))) (by
        have q:o2 (gv 4) (gv 7) ixD (frz [.sh (.int c'),.sh (.int t),.sh (.str V6),.sh (.int (n:Int)),.ow (.lst (pl.map .int)),.sh (.int (j:Int)),.sh (.str (strOf w)),.sh (.int (a:Int)),.ow (.lst (((List.range j).map λk=>strOf (F k)).map .str)),s9])=some (.int p):=by
         rw[o4 (x:=.lst (pl.map .int)) (y:=.int (a:Int)) rfl rfl];show atI (pl.map D.int) (a:Int)=_;have O:a<pl.length:=by omega
         rw[J0 (by omega) (by rw[List.length_map];omega) .non,hp];simp[List.getD_eq_getElem?_getD,O]
        show Option.bind _ _=_;exact(D1 (λo=>Option.bind o _) q).trans rfl) (by rw[o4 (x:=.int 4) (y:=.int (j:Int)) rfl rfl];exact mul_r _ _ (by omega))]
       rfl) rfl]
      rfl)]
     exact n60 _ (by omega) (by omega)
    ·refine u9 (v20 (l:=((List.range j).map λk=>strOf (F k)).map .str) (d:=.str (strOf (F j))) rfl ?_ (by simp;omega)) ?_
     ·have t1:U9 (gv 6) U8 (someO (gv 7)) [.sh (.int c'),.sh (.int t),.sh (.str V6),.sh (.int (n:Int)),.ow (.lst (pl.map .int)),.sh (.int (j:Int)),.sh (.str (strOf w)),.sh (.int (a:Int)),.ow (.lst (((List.range j).map λk=>strOf (F k)).map .str)),.sh (.str ⟨#[cg ((p+4*(j:Int))%36)]⟩)]=some (.str (strOf (w.take a))):=by
       show slA (.str (strOf w)) none (some (a:Int))=_;simp only[slA];rw[if_pos (by rw[G8,wl];omega),lw0 _ _ (by omega) (by omega),Int.toNat_natCast]
      have t2:U9 (gv 6) (someO (o2 (gv 7) (gc (.int 1)) n8)) U8 [.sh (.int c'),.sh (.int t),.sh (.str V6),.sh (.int (n:Int)),.ow (.lst (pl.map .int)),.sh (.int (j:Int)),.sh (.str (strOf w)),.sh (.int (a:Int)),.ow (.lst (((List.range j).map λk=>strOf (F k)).map .str)),.sh (.str ⟨#[cg ((p+4*(j:Int))%36)]⟩)]=some (.str (strOf (w.drop (a+1)))):=by
       show slA (.str (strOf w)) (some ((a:Int)+1)) none=_;simp only[slA];rw[if_pos (by rw[G8,wl];omega),ca0 _ _ (by omega) (by omega),show ((a:Int)+1).toNat=a+1 by omega]
      change o2 _ _ _ [.sh (.int c'),.sh (.int t),.sh (.str V6),.sh (.int (n:Int)),.ow (.lst (pl.map .int)),.sh (.int (j:Int)),.sh (.str (strOf w)),.sh (.int (a:Int)),.ow (.lst (((List.range j).map λk=>strOf (F k)).map .str)),.sh (.str ⟨#[cg ((p+4*(j:Int))%36)]⟩)]=_
      rw[o4 (x:=.str (strOf (w.take a++[cg ((p+4*(j:Int))%36)]))) (y:=.str (strOf (w.drop (a+1)))) (by
       rw[o4 t1 rfl];exact nn0 _ [cg ((p+4*(j:Int))%36)] (by rw[List.length_take];simp;omega)) t2]
      rw[nn0 _ _ (by rw[List.length_append,List.length_take,List.length_drop];simp;omega)];show some (D.str (strOf _))=some (D.str (strOf (w.take a++cg ((p+4*(j:Int))%36)::w.drop (a+1))));rw[List.append_assoc];rfl
     ·rw[List.range_succ,List.map_append,List.map_append]
      rfl) ⟨_,_,rfl⟩
  obtain⟨a4,s9,rfl⟩:=m2;refine⟨(List.range 8).map λk=>strOf (F k),K9 rfl (U _ _ (u9 (δ':=[.sh (.int c'),.sh (.int t),.sh (.str V6),.sh (.int (n:Int)),.ow (.lst (pl.map .int)),s5,.sh (.str (strOf w)),.un,.un,.un]) ?_ (u9 (d8 (d:=.int (a:Int)) ?_) (u9 (δ':=[.sh (.int c'),.sh (.int t),.sh (.str V6),.sh (.int (n:Int)),.ow (.lst (pl.map .int)),s5,.sh (.str (strOf w)),.sh (.int (a:Int)),.ow (.lst []),.un]) rfl (u9 (T7 (items:=Y4 0 8) rfl m1) (J1 rfl)))))),by simp,λs hs=>?_,?_⟩
  ·rw[Z2 (by show some (decide (t/8%3=1))=_;rw[decide_eq_false hb])];rfl
  ·rw[o4 (x:=.int t) (y:=.int (n:Int)) rfl rfl,N5 _ _ (by omega),ha]
  ·obtain⟨k,hk,rfl⟩:=A8.mp hs
   refine sj0 _ (by rw[Fl];omega) (by rw[Fl];omega) λx hx=>?_
   rcases B8.mp hx with q|q
   ·exact wm x (d5 q)
   ·rcases B4.mp q with q|q
    ·rw[q];exact ki0 _ (by omega) (by omega)
    ·exact wm x (y6 q)
  ·refine A10.mpr (Q2.mpr (A20 ?_ (A30 (n:=8))))
   intro x y hx hy a5 e;have hx:=D3.mp hx;have hy:=D3.mp hy;have e:w.take a++cg ((p+4*(x:Int))%36)::w.drop (a+1)=w.take a++cg ((p+4*(y:Int))%36)::w.drop (a+1):=sk0 e;have e:=List.append_cancel_left e;injection e with e _
   have:=dt0 _ _ (by omega) (by omega) (by omega) (by omega) e;omega
end Gw
namespace Gw
open Fa
open DL W
theorem xb0(c k:Int)(hk:0<=k/\k<=1000000):∃x,0<=x/\x<2147483647/\X6 [.int c,.int k]=some (.int x):=by
 refine⟨(c%2147483647+1)*(48271+7*k)%2147483647,C9 _ (by decide),D0 _ (by decide),j5 rfl (o8 (Z9 ?_))⟩;rw[o4 (x:=.int ((c%2147483647+1)*(48271+7*k))) (y:=.int 2147483647) (by
  rw[o4 (x:=.int (c%2147483647+1)) (y:=.int (48271+7*k)) rfl (by
   rw[o4 (x:=.int 48271) (y:=.int (7*k)) rfl (by rw[o4 (x:=.int 7) (y:=.int k) rfl rfl];exact mul_r _ _ (by omega))];rfl)]
  exact mul_r _ _ (by omega)) rfl]
 rfl
structure Vk(v:D)(m:Int):Prop where
 ok:ta0 v=true
 bd:∀i,v=.int i->i.natAbs<10 ^ 60
 lk:∀k,lk v=some k->k<m
theorem cs0:p20 (.int 10) (.int 60)=some (.int (10 ^ 60)):=by kernel_rfl
theorem p70(x m:Int)(hx:0<=x/\x<2 ^ 40)(hm:0<m):∃v,T3 [.int x,.int m]=some v/\Vk v m:=by
 have z:(100:Nat)<=sizeLine:=by decide
 have s0:m5 (gN 2) (o2 (gv 0) (gc (.int 10)) m8) [.sh (.int x),.sh (.int m),.un]=some (.nx [.sh (.int x),.sh (.int m),.sh (.int (x%10))]):=rfl;have el:∀k:Int,ob (o2 (gv 2) (gc (.int k)) ltD) [.sh (.int x),.sh (.int m),.sh (.int (x%10))]=some (decide (x%10<k)):=λk=>rfl
 have ee:∀k:Int,ob (o2 (gv 2) (gc (.int k)) eqD) [.sh (.int x),.sh (.int m),.sh (.int (x%10))]=some (decide (x%10=k)):=λk=>rfl
 have nl:∀(k:Int) (A:GS),¬x%10<k->ifD (ob (o2 (gv 2) (gc (.int k)) ltD)) A p7 [.sh (.int x),.sh (.int m),.sh (.int (x%10))]=some (.nx [.sh (.int x),.sh (.int m),.sh (.int (x%10))]):=λk A h=>by
  rw[Z2 (by rw[el,decide_eq_false h])];rfl
 have ne:∀(k:Int) (A:GS),¬x%10=k->ifD (ob (o2 (gv 2) (gc (.int k)) eqD)) A p7 [.sh (.int x),.sh (.int m),.sh (.int (x%10))]=some (.nx [.sh (.int x),.sh (.int m),.sh (.int (x%10))]):=λk A h=>by
  rw[Z2 (by rw[ee,decide_eq_false h])];rfl
 by_cases h6:x%10<6
 ·have M:0<=x/10%m:=C9 _ (by omega)
  have S:x/10%m<m:=D0 _ hm;refine⟨.tup [.str "at",.int (x/10%m)],j5 rfl (u9 s0 (o8 ?_)),by simp[ta0,marks,M],(λi hi=>by cases hi),λk hk=>?_⟩
  ·rw[U0 (by rw[el,decide_eq_true h6])]
   exact o8 (Z9 (W5 (cons_of rfl (cons_of (d:=.int (x/10%m)) (by
    rw[o4 (x:=.int (x/10)) (y:=.int m) rfl rfl];exact N5 _ _ hm) rfl)) (by show 2<=sizeLine;omega)))
  ·have:=B1 hk
   omega
 by_cases e6:x%10=6
 ·refine⟨.non,j5 rfl (u9 s0 (u9 (nl 6 _ h6) (o8 ?_))),rfl,(λi hi=>by cases hi),λk hk=>by cases hk⟩
  rw[U0 (by rw[ee,decide_eq_true e6])];rfl
 have F:(10:Nat) ^ 60=1000000000000000000000000000000000000000000000000000000000000:=by decide
 by_cases h9:x%10<9
 ·refine⟨.int (x/10%3 - 1),j5 rfl (u9 s0 (u9 (nl 6 _ h6) (u9 (ne 6 _ e6) (o8 ?_)))),rfl,(λi hi=>?_),λk hk=>by cases hk⟩
  ·rw[U0 (by rw[el,decide_eq_true h9])];rfl
  ·injection hi with hi
   rw[F];omega
 ·obtain⟨b,hb⟩:∃b:Int,b=(x/10) ^ 7%10 ^ 60:=⟨_,rfl⟩
  have J:(10:Int) ^ 60=1000000000000000000000000000000000000000000000000000000000000:=by decide
  have b0:0<=b:=by rw[hb];exact C9 _ (by decide)
  have b1:b<10 ^ 60:=by rw[hb];exact D0 _ (by decide)
  obtain⟨q,hq,O⟩:∃q:Int,q=1 - 2*(x/20%2)/\(q=1∨q=-1):=⟨_,rfl,by omega⟩;refine⟨.int (b*q),j5 rfl (u9 s0 (u9 (nl 6 _ h6) (u9 (ne 6 _ e6) (u9 (nl 9 _ h9) (o8 (Z9 ?_)))))),rfl,(λi hi=>?_),λk hk=>by cases hk⟩
  ·rw[o4 (x:=.int b) (y:=.int q) (by
    rw[o4 (x:=.int ((x/10) ^ 7)) (y:=.int (10 ^ 60)) (by
     rw[o4 (x:=.int (x/10)) (y:=.int 7) rfl rfl];simp only[p20,ii];rw[if_pos ⟨by decide,by decide,by omega⟩];rfl) (by rw[o4 (x:=.int 10) (y:=.int 60) rfl rfl];exact cs0)]
    rw[N5 _ _ (by decide),hb]) (by
    rw[o4 (x:=.int 1) (y:=.int (2*(x/20%2))) rfl (by rw[o4 (x:=.int 2) (y:=.int (x/20%2)) rfl rfl];exact mul_r _ _ (by omega)),hq];rfl)]
   exact mul_r _ _ (by omega)
  ·injection hi with hi
   rw[← hi,F];rw[J] at b1;rcases O with rfl|rfl
   ·rw[Int.mul_one];omega
   ·rw[Int.mul_neg,Int.mul_one,Int.natAbs_neg];omega
def VB:GS:=(v8 (m5 (gN 0) (o2 (o2 (gv 0) (gc (.int 48271)) W9) (gc (.int 2147483647)) m8))
 (v8 (V2 (T9 3 (oA (z9 (gv 0) (z9 (gv 2) v7)) T3)))
 p7))
theorem zk0(x:Int)(c:Nat)(m:Int)(hc:c<=1000)(hm:0<m):∃vs,O6 [.int x,.int (c:Int),.int m]=some (.lst vs)/\vs.length=c/\∀v∈vs,Vk v m:=by
 have z:(10000:Nat)<=sizeLine:=by decide
 obtain⟨δ',l1,l2⟩:=Q8 (f:=gN 4) (G:=VB) (λi δ=>∃(x':Int) (vs:List D) (s4:Sl),δ=[.sh (.int x'),.sh (.int (c:Int)),.sh (.int m),.ow (.lst vs),s4]/\vs.length=i/\∀v∈vs,Vk v m) (Y4 0 (c:Int)) 0
  [.sh (.int x),.sh (.int (c:Int)),.sh (.int m),.ow (.lst []),.un] (by
   rintro j d δ hj ⟨x',vs,s4,rfl,hl,hv⟩;obtain⟨M,rfl⟩:=z70 hj;rw[Int.toNat_natCast] at M;obtain⟨v,F,J⟩:=p70 (x'*48271%2147483647) m ⟨C9 _ (by decide),by have:=D0 (x'*48271) (by decide:(0:Int)<2147483647);omega⟩ hm;refine⟨_,[.sh (.int (x'*48271%2147483647)),.sh (.int (c:Int)),.sh (.int m),.ow (.lst (vs++[v])),.sh (.int (j:Int))],rfl,?_,_,vs++[v],_,rfl,by simp[hl],λu hu=>?_⟩
   ·refine u9 (d8 (d:=.int (x'*48271%2147483647)) (by
     rw[o4 (x:=.int (x'*48271)) (y:=.int 2147483647) (by rw[o4 (x:=.int x') (y:=.int 48271) rfl rfl];exact mul_r _ _ (by omega)) rfl];rfl)) ?_
    refine u9 (v20 (l:=vs) (d:=v) rfl (by rw[m7 (ds:=[.int (x'*48271%2147483647),.int m]) rfl];exact F) (by omega)) rfl
   ·rcases B8.mp hu with q|q
    ·exact hv u q
    ·rw[List.mem_singleton.mp q];exact J) ⟨_,[],_,rfl,rfl,λv hv=>by cases hv⟩
 obtain⟨x',vs,s4,rfl,hl,hv⟩:=l2;rw[yg0,Int.toNat_natCast,Nat.zero_add] at hl;exact⟨vs,K9 rfl (u9 (δ':=[.sh (.int x),.sh (.int (c:Int)),.sh (.int m),.ow (.lst []),.un]) rfl (u9 (T7 (items:=Y4 0 (c:Int)) (Q6 (cons_of rfl rfl) (by omega) (by omega)) l1) (J1 rfl))),hl,hv⟩
structure Gd(p:Pt)(m:Int)(nm:List Str):Prop where
 ok:p.Ok
 vk:∀v∈p.vals,Vk v m
 nms:∀s∈p.all,s∈nm
theorem w_a:isWord ("" : Str)=true/\isWord ("a" : Str)=true/\isWord (" a" : Str)=true:=by decide +kernel
theorem s_0:((" 0" : Str))=strOf [32,48]:=by decide +kernel
theorem lr0(l:List Nat)(h2:l.length<=20)(h3:∀c∈l,c∈rd0.cps.toList):isWord (strOf l)=true:=by
 unfold isWord hasAll;rw[G8,zn0];simp only[Bool.and_eq_true,decide_eq_true_eq,List.all_eq_true];exact⟨by omega,λc hc=>by simpa using h3 c hc⟩
theorem lg0:∀c∈nameS.cps.toList,c∈rd0.cps.toList:=by decide +kernel
theorem fn0:∀c∈([32,48]:List Nat),c∈rd0.cps.toList:=by decide +kernel
theorem name_mem{s:Str}(h:isName s=true):∀c∈s.cps.toList,c∈nameS.cps.toList:=by
 unfold isName hasAll at h;simp only[Bool.and_eq_true,decide_eq_true_eq,List.all_eq_true] at h;intro c hc;have:=h.1.2 c hc
 simpa using this
theorem rb0(nm:List Str)(hp:Pool nm)(i:Int)(h0:0<=i)(h1:i<8):ixD (.lst (nm.map .str)) (.int i)=some (.str (nm.getD i.toNat ""))/\nm.getD i.toNat ""∈nm:=by
 have hl:=hp.len;have F:i.toNat<nm.length:=by omega
 refine⟨?_,?_⟩
 ·show atI (nm.map D.str) i=_
  rw[J0 h0 (by rw[List.length_map];omega) .non];simp[List.getD_eq_getElem?_getD,F]
 ·rw[show nm.getD i.toNat ""=nm[i.toNat] by simp[List.getD_eq_getElem?_getD,F]]
  exact C8 F
theorem gz0(x m:Int)(vs:List D)(nm:List Str)(hp:Pool nm)(hv:∀v∈vs,Vk v m)(hl:vs.length<=12)(hl8:¬x%8<4->vs.length<=8):∃p:Pt,J7 [.int x,.lst vs,.lst (nm.map .str)]=some p.d/\Gd p m nm:=by
 have z:(100:Nat)<=sizeLine:=by decide
 have a6:=hp.len;have s0:m5 (gN 3) (o2 (gv 0) (gc (.int 8)) m8) [.sh (.int x),.sh (.lst vs),.sh (.lst (nm.map .str)),.un,.un,.un]=some (.nx [.sh (.int x),.sh (.lst vs),.sh (.lst (nm.map .str)),.sh (.int (x%8)),.un,.un]):=rfl
 by_cases h0:x%8=0
 ·obtain⟨w,hw,S⟩:∃w:Str,o2 (X5 (z9 (gc (.str "")) (z9 (gc (.str "a")) (z9 (gc (.str " a")) (z9 (o2 (o2 (gv 2) (gc (.int 0)) ixD) (gc (.str " 0")) n8) v7))))) (o2 (o2 (gv 0) (gc (.int 16)) d9) (gc (.int 4)) m8) ixD [.sh (.int x),.sh (.lst vs),.sh (.lst (nm.map .str)),.sh (.int (x%8)),.un,.un]=some (.str w)/\isWord w=true:=by
   obtain⟨a1,a2⟩:=rb0 nm hp 0 (by omega) (by omega);obtain⟨s,hs⟩:∃s,s=nm.getD (0:Int).toNat "" := ⟨_,rfl⟩;rw[← hs] at a1 a2;have hn:=hp.names s a2;have a0:=nh0 hn;have es:s=strOf s.cps.toList:=(jg0 s).symm;have a3:s.cps.toList.length<=8:=by
    have:s.length=s.cps.toList.length:=by show s.cps.size=_;simp
    omega
   rw[o4 (x:=.lst [.str "",.str "a",.str " a",.str (strOf (s.cps.toList++[32,48]))]) (y:=.int (x/16%4)) (y60 (cons_of rfl (cons_of rfl (cons_of rfl (cons_of (d:=.str (strOf (s.cps.toList++[32,48]))) (by
    rw[o4 (x:=.str s) (y:=.str " 0") (by rw[o4 (x:=.lst (nm.map .str)) (y:=.int 0) rfl rfl];exact a1) rfl];have e:n8 (.str (strOf s.cps.toList)) (.str (strOf [32,48]))=some (.str (strOf (s.cps.toList++[32,48]))):=nn0 _ _ (by simp only[List.length_cons,List.length_nil];omega);rw[← es,← s_0] at e;exact e) rfl)))) (by show 4<=sizeLine;omega)) rfl]
   have q:x/16%4=0∨x/16%4=1∨x/16%4=2∨x/16%4=3:=by omega
   rcases q with q|q|q|q<;>rw[q]
   ·exact⟨_,rfl,w_a.1⟩
   ·exact⟨_,rfl,w_a.2.1⟩
   ·exact⟨_,rfl,w_a.2.2⟩
   ·refine⟨_,rfl,lr0 _ (by simp only[List.length_append,List.length_cons,List.length_nil];omega) λc hc=>?_⟩
    rcases B8.mp hc with q|q
    ·exact lg0 c (name_mem hn c q)
    ·exact fn0 c q
  refine⟨.text w,j5 rfl (u9 s0 (o8 ?_)),S,(λv hv=>by cases hv),λs hs=>by cases hs⟩;rw[U0 (by show some (decide (x%8=0))=_;rw[decide_eq_true h0])];exact o8 (Z9 (W5 (cons_of rfl (cons_of hw rfl)) (by show 2<=sizeLine;omega)))
 have n0:∀A:GS,ifD (ob (o2 (gv 3) (gc (.int 0)) eqD)) A p7 [.sh (.int x),.sh (.lst vs),.sh (.lst (nm.map .str)),.sh (.int (x%8)),.un,.un]=some (.nx [.sh (.int x),.sh (.lst vs),.sh (.lst (nm.map .str)),.sh (.int (x%8)),.un,.un]):=λA=>by
  rw[Z2 (by show some (decide (x%8=0))=_;rw[decide_eq_false h0])];rfl
 by_cases h4:x%8<4
 ·refine⟨.row vs,j5 rfl (u9 s0 (u9 (n0 _) (o8 ?_))),⟨hl,λv q=>(hv v q).ok⟩,hv,λs hs=>by cases hs⟩
  rw[U0 (by show some (decide (x%8<4))=_;rw[decide_eq_true h4])];exact o8 (Z9 (W5 (cons_of rfl (cons_of (by rw[m7 (ds:=[.lst vs]) rfl];rfl) rfl)) (by show 2<=sizeLine;omega)))
 have n4:∀A:GS,ifD (ob (o2 (gv 3) (gc (.int 4)) ltD)) A p7 [.sh (.int x),.sh (.lst vs),.sh (.lst (nm.map .str)),.sh (.int (x%8)),.un,.un]=some (.nx [.sh (.int x),.sh (.lst vs),.sh (.lst (nm.map .str)),.sh (.int (x%8)),.un,.un]):=λA=>by
  rw[Z2 (by show some (decide (x%8<4))=_;rw[decide_eq_false h4])];rfl
 have a4:=hl8 h4;obtain⟨st,U⟩:∃st:Int,st=x/8%2*3:=⟨_,rfl⟩;have Z:0<=st/\st<=3:=by omega
 obtain⟨ns,M⟩:∃ns:Nat->Str,ns=λ(j:Nat)=>nm.getD ((st+(j:Int))%8).toNat "" := ⟨_,rfl⟩
 have Y:∀j,ns j∈nm:=λj=>by rw[M];exact(rb0 nm hp ((st+(j:Int))%8) (by omega) (by omega)).2
 obtain⟨ps,J⟩:∃ps:List (Str×D),ps=(List.range vs.length).map λj=>(ns j,vs.getD j .non):=⟨_,rfl⟩
 have snd:ps.map (·.2)=vs:=by
  rw[J,List.map_map];refine Ci0 (by simp) λi h1 h2=>?_
  simp[List.getD_eq_getElem?_getD,h2]
 have fst:∀s∈ps.map (·.1),s∈nm:=λs hs=>by
  obtain⟨p,F,rfl⟩:=A8.mp hs;rw[J] at F;obtain⟨j,_,rfl⟩:=A8.mp F;exact Y j
 have O:PsOk ps:=by
  refine⟨by rw[J];simp;omega,λp F=>hp.names _ (fst _ (A8.mpr ⟨p,F,rfl⟩)),λp F=>(hv p.2 (by rw[← snd];exact A8.mpr ⟨p,F,rfl⟩)).ok,?_⟩;rw[J,List.map_map];refine A10.mpr (Q2.mpr (A20 ?_ (A30 (n:=vs.length))));intro a b ha hb a5 e;have ha:=D3.mp ha;have hb:=D3.mp hb;have e:ns a=ns b:=e;rw[M] at e;have la:((st+(a:Int))%8).toNat<nm.length:=by omega
  have lb:((st+(b:Int))%8).toNat<nm.length:=by omega
  have e:nm.getD ((st+(a:Int))%8).toNat ""=nm.getD ((st+(b:Int))%8).toNat "" := e;rw[show nm.getD ((st+(a:Int))%8).toNat ""=nm[((st+(a:Int))%8).toNat] by simp[List.getD_eq_getElem?_getD,la],show nm.getD ((st+(b:Int))%8).toNat ""=nm[((st+(b:Int))%8).toNat] by simp[List.getD_eq_getElem?_getD,lb]] at e;have:=(A90 hp.nd).mp e;omega
 have s4:m5 (gN 4) (o2 (o2 (o2 (gv 0) (gc (.int 8)) d9) (gc (.int 2)) m8) (gc (.int 3)) W9) [.sh (.int x),.sh (.lst vs),.sh (.lst (nm.map .str)),.sh (.int (x%8)),.un,.un]=some (.nx [.sh (.int x),.sh (.lst vs),.sh (.lst (nm.map .str)),.sh (.int (x%8)),.sh (.int st),.un]):=d8 (d:=.int st) (by
  rw[o4 (x:=.int (x/8%2)) (y:=.int 3) rfl rfl,mul_r _ _ (by omega),U])
 have s5:m5 (gN 5) (oA (z9 (V4 1 [1,2,4] (V8 (z9 (oA (z9 (gv 1) v7) Y5) v7)) (gN 0) noT (Y6 (z9 (o2 (gv 2) (o2 (o2 (gv 3) (gv 0) n8) (gc (.int 8)) m8) ixD) (z9 (o2 (gv 1) (gv 0) ixD) v7)))) v7) P0) [.sh (.int x),.sh (.lst vs),.sh (.lst (nm.map .str)),.sh (.int (x%8)),.sh (.int st),.un]=some (.nx [.sh (.int x),.sh (.lst vs),.sh (.lst (nm.map .str)),.sh (.int (x%8)),.sh (.int st),.sh (.tup (ps.map pr))]):=d8 (d:=.tup (ps.map pr)) (by
  rw[m7 (ds:=[.lst (ps.map pr)]) (cons_of (U7 (items:=Y4 0 (vs.length:Int)) (Q6 (cons_of rfl rfl) (by omega) (by omega)) (by rw[yg0];omega) (by
   rw[J,List.map_map];have q:=q70 (gt:=noT) (ge:=(Y6 (z9 (o2 (gv 2) (o2 (o2 (gv 3) (gv 0) n8) (gc (.int 8)) m8) ixD) (z9 (o2 (gv 1) (gv 0) ixD) v7)))) (δ:=[.un,.sh (.lst vs),.sh (.lst (nm.map .str)),.sh (.int st)]) (n:=(vs.length:Int)) (λj=>pr (ns j,vs.getD j .non)) (λk hk=>⟨[.sh (.int (k:Int)),.sh (.lst vs),.sh (.lst (nm.map .str)),.sh (.int st)],rfl,rfl,by
    refine W5 (cons_of (d:=.str (ns k)) ?_ (cons_of (d:=vs.getD k .non) ?_ rfl)) (by show 2<=sizeLine;omega)
    ·rw[o4 (x:=.lst (nm.map .str)) (y:=.int ((st+(k:Int))%8)) rfl rfl,M]
     exact(rb0 nm hp _ (by omega) (by omega)).1
    ·rw[o4 (x:=.lst vs) (y:=.int (k:Int)) rfl rfl]
     show atI vs (k:Int)=_;rw[J0 (by omega) (by omega) .non,Int.toNat_natCast]⟩)
   rw[Int.toNat_natCast] at q;exact q)) rfl)]
  rfl)
 by_cases h6:x%8<6
 ·refine⟨.table ps,j5 rfl (u9 s0 (u9 (n0 _) (u9 (n4 _) (u9 s4 (u9 s5 (o8 ?_)))))),O,by show ∀v∈ps.map (·.2),Vk v m;rw[snd];exact hv,λs hs=>fst s (by simpa [Pt.all,Pt.pnames,Pt.cls] using hs)⟩
  rw[U0 (by show some (decide (x%8<6))=_;rw[decide_eq_true h6])];exact o8 (Z9 (W5 (cons_of rfl (cons_of rfl rfl)) (by show 2<=sizeLine;omega)))
 ·obtain⟨a1,a2⟩:=rb0 nm hp (x/16%2) (by omega) (by omega)
  refine⟨.rcd (nm.getD (x/16%2).toNat "") ps,j5 rfl (u9 s0 (u9 (n0 _) (u9 (n4 _) (u9 s4 (u9 s5 (u9 (δ':=[.sh (.int x),.sh (.lst vs),.sh (.lst (nm.map .str)),.sh (.int (x%8)),.sh (.int st),.sh (.tup (ps.map pr))]) ?_ (o8 (Z9 ?_)))))))),⟨hp.names _ a2,O⟩,by show ∀v∈ps.map (·.2),Vk v m;rw[snd];exact hv,λs hs=>?_⟩
  ·rw[Z2 (by show some (decide (x%8<6))=_;rw[decide_eq_false h6])];rfl
  ·exact W5 (cons_of rfl (cons_of (by
    rw[o4 (x:=.lst (nm.map .str)) (y:=.int (x/16%2)) rfl rfl];exact a1) (cons_of rfl rfl))) (by show 3<=sizeLine;omega)
  ·rcases B8.mp hs with q|q
   ·exact fst s q
   ·have:=d4.mp q
    rw[this];exact a2
def WB:GS:=(v8 (m5 (gN 5) (oA (z9 (o2 (o2 (gv 0) (o2 (gv 4) (oA (z9 (gv 0) v7) Y5) m8) ixD) (o2 (gv 4) (o2 (gv 4) (oA (z9 (gv 0) v7) Y5) d9) W9) n8) (z9 (gv 4) v7)) X6))
 (v8 (m5 (gN 6) (o2 (X5 (z9 (gc (.int 0)) (z9 (gc (.int 1)) (z9 (gc (.int 2)) (z9 (gc (.int 2)) (z9 (gc (.int 3)) (z9 (gc (.int 2)) (z9 (gc (.int 3)) (z9 (gc (.int 1)) v7))))))))) (o2 (o2 (gv 5) (gc (.int 32)) d9) (gc (.int 8)) m8) ixD))
 (v8 (ifD (ob (o2 (o2 (o2 (gv 5) (gc (.int 256)) d9) (gc (.int 16)) m8) (gc (.int 3)) eqD))
 (v8 (m5 (gN 6) (o2 (X5 (z9 (gc (.int 8)) (z9 (gc (.int 12)) v7))) (oA (z9 (o2 (o2 (gv 5) (gc (.int 8)) m8) (gc (.int 4)) ltD) v7) intOfD) ixD))
 p7)
 p7)
 (v8 (m5 (gN 7) (oA (z9 (o2 (o2 (gv 5) (gc (.int 8)) d9) (gc (.int 1)) n8) (z9 (gv 6) (z9 (gv 1) v7))) O6))
 (v8 (V2 (T9 3 (oA (z9 (gv 5) (z9 (gv 7) (z9 (gv 2) v7))) J7)))
 p7)))))
theorem bo0(cs:List Int)(hc:0<cs.length/\cs.length<=1000)(m:Int)(hm:0<m/\m<=1000)(nm:List Str)(hp:Pool nm)(k:Nat)(hk:k<=1000)(acc:List D)(ha:acc.length<=2000)(s5 s6 s7:Sl) :
  ∃(p:Pt) (t5 t6 t7:Sl),Gd p m nm/\WB [.sh (.lst (cs.map .int)),.sh (.int m),.sh (.lst (nm.map .str)),.ow (.lst acc),.sh (.int (k:Int)),s5,s6,s7]=some (.nx [.sh (.lst (cs.map .int)),.sh (.int m),.sh (.lst (nm.map .str)),.ow (.lst (acc++[p.d])),.sh (.int (k:Int)),t5,t6,t7]):=by
 have z:(10000:Nat)<=sizeLine:=by decide
 obtain⟨l,hl⟩:∃l:Int,l=(cs.length:Int):=⟨_,rfl⟩;have Y:0<=(k:Int)%l:=C9 _ (by omega);have hi1:(k:Int)%l<l:=D0 _ (by omega);obtain⟨c,O⟩:∃c:Int,ixD (.lst (cs.map .int)) (.int ((k:Int)%l))=some (.int c):=by
  have U:((k:Int)%l).toNat<cs.length:=by omega
  refine⟨cs[((k:Int)%l).toNat],?_⟩;show atI (cs.map D.int) _=_;rw[J0 Y (by rw[List.length_map];omega) .non];simp[List.getD_eq_getElem?_getD,U]
 have a6:(k:Int)/l<=1000/\0<=(k:Int)/l:=by
  have h1:=Int.ediv_le_self l (show (0:Int)<=(k:Int) by omega);have h2:=Int.ediv_nonneg (show (0:Int)<=(k:Int) by omega) (show (0:Int)<=l by omega);omega
 obtain⟨x,a3,a5,hx⟩:=xb0 (c+(k:Int)*((k:Int)/l)) (k:Int) ⟨by omega,by omega⟩;obtain⟨n,hn,a2,Z⟩:∃n:Nat,(n:Int)=(if x/256%16=3 then (if x%8<4 then 12 else 8) else [0,1,2,2,3,2,3,1].getD (x/32%8).toNat 0)/\n<=12/\(¬x%8<4->n<=8):=by
  split
  ·split
   ·exact⟨12,rfl,by omega,λh=>absurd (by assumption) h⟩
   ·exact⟨8,rfl,by omega,λ_=>by omega⟩
  ·have q:x/32%8=0∨x/32%8=1∨x/32%8=2∨x/32%8=3∨x/32%8=4∨x/32%8=5∨x/32%8=6∨x/32%8=7:=by omega
   rcases q with q|q|q|q|q|q|q|q<;>rw[q]
   ·exact⟨0,rfl,by omega,λ_=>by omega⟩
   ·exact⟨1,rfl,by omega,λ_=>by omega⟩
   ·exact⟨2,rfl,by omega,λ_=>by omega⟩
   ·exact⟨2,rfl,by omega,λ_=>by omega⟩
   ·exact⟨3,rfl,by omega,λ_=>by omega⟩
   ·exact⟨2,rfl,by omega,λ_=>by omega⟩
   ·exact⟨3,rfl,by omega,λ_=>by omega⟩
   ·exact⟨1,rfl,by omega,λ_=>by omega⟩
 obtain⟨vs,M,a4,a1⟩:=zk0 (x/8+1) n m (by omega) (by omega);obtain⟨p,a0,S⟩:=gz0 x m vs nm hp a1 (by omega) (λh=>by have:=Z h;omega);refine⟨p,.sh (.int x),.sh (.int (n:Int)),.sh (.lst vs),S,?_⟩;unfold WB;have F:∀(s5 s6 s7:Sl),oA (z9 (gv 0) v7) Y5 [.sh (.lst (cs.map .int)),.sh (.int m),.sh (.lst (nm.map .str)),.ow (.lst acc),.sh (.int (k:Int)),s5,s6,s7]=some (.int l):=λs5 s6 s7=>by
  rw[m7 (ds:=[.lst (cs.map .int)]) rfl];show some (D.int (((cs.map D.int).length:Nat):Int))=_;rw[List.length_map,hl]
 refine u9 (d8 (d:=.int x) ?_) ?_
 ·rw[m7 (ds:=[.int (c+(k:Int)*((k:Int)/l)),.int (k:Int)]) (cons_of (d:=.int (c+(k:Int)*((k:Int)/l))) (by
   rw[o4 (x:=.int c) (y:=.int ((k:Int)*((k:Int)/l))) (by
    rw[o4 (x:=.lst (cs.map .int)) (y:=.int ((k:Int)%l)) rfl (by rw[o4 (x:=.int (k:Int)) (y:=.int l) rfl (F _ _ _)];exact N5 _ _ (by omega))];exact O) (by
    rw[o4 (x:=.int (k:Int)) (y:=.int ((k:Int)/l)) rfl (by rw[o4 (x:=.int (k:Int)) (y:=.int l) rfl (F _ _ _)];exact y20 _ _ ⟨by omega,by omega⟩)];exact mul_r _ _ (by omega))]
   rfl) rfl)]
  exact hx
 obtain⟨n0,J⟩:∃n0:Int,n0=[0,1,2,2,3,2,3,1].getD (x/32%8).toNat 0:=⟨_,rfl⟩;refine u9 (d8 (d:=.int n0) ?_) ?_
 ·rw[o4 (x:=.lst [.int 0,.int 1,.int 2,.int 2,.int 3,.int 2,.int 3,.int 1]) (y:=.int (x/32%8)) (y60 rfl (by show 8<=sizeLine;omega)) rfl]
  rw[J];have q:x/32%8=0∨x/32%8=1∨x/32%8=2∨x/32%8=3∨x/32%8=4∨x/32%8=5∨x/32%8=6∨x/32%8=7:=by omega
  rcases q with q|q|q|q|q|q|q|q<;>rw[q]<;>rfl
 refine u9 (δ':=[.sh (.lst (cs.map .int)),.sh (.int m),.sh (.lst (nm.map .str)),.ow (.lst acc),.sh (.int (k:Int)),.sh (.int x),.sh (.int (n:Int)),s7]) ?_ ?_
 ·change ifD _ _ _ [.sh (.lst (cs.map .int)),.sh (.int m),.sh (.lst (nm.map .str)),.ow (.lst acc),.sh (.int (k:Int)),.sh (.int x),.sh (.int n0),s7]=_
  rw[hn]
  by_cases h:x/256%16=3
  ·rw[U0 (by show some (decide (x/256%16=3))=_;rw[decide_eq_true h]),if_pos h]
   refine u9 (d8 (d:=.int (if x%8<4 then 12 else 8)) ?_) rfl;rw[o4 (x:=.lst [.int 8,.int 12]) (y:=.int (if decide (x%8<4)=true then 1 else 0)) (y60 rfl (by show 2<=sizeLine;omega)) rfl]
   by_cases q:x%8<4
   ·rw[if_pos (A40 q),if_pos q];rfl
   ·rw[if_neg (by simpa using q),if_neg q];rfl
  ·rw[Z2 (by show some (decide (x/256%16=3))=_;rw[decide_eq_false h]),if_neg h,J];rfl
 refine u9 (d8 (d:=.lst vs) (by
  rw[m7 (ds:=[.int (x/8+1),.int (n:Int),.int m]) rfl];exact M)) ?_
 refine u9 (v20 (l:=acc) (d:=p.d) rfl (by
  rw[m7 (ds:=[.int x,.lst vs,.lst (nm.map .str)]) rfl];exact a0) (by omega)) rfl
theorem rj0(cs:List Int)(hc:0<cs.length/\cs.length<=1000)(m:Nat)(hm:0<m/\m<=1000)(nm:List Str)(hp:Pool nm) :
  ∃ps:List Pt,z30 [.lst (cs.map .int),.int (m:Int),.lst (nm.map .str)]=some (.tup (ps.map Pt.d))/\ps.length=m/\∀p∈ps,Gd p (m:Int) nm:=by
 have z:(10000:Nat)<=sizeLine:=by decide
 obtain⟨δ',l1,l2⟩:=Q8 (f:=gN 4) (G:=WB) (λi δ=>∃(ps:List Pt) (s4 s5 s6 s7:Sl),δ=[.sh (.lst (cs.map .int)),.sh (.int (m:Int)),.sh (.lst (nm.map .str)),.ow (.lst (ps.map Pt.d)),s4,s5,s6,s7]/\ps.length=i/\∀p∈ps,Gd p (m:Int) nm) (Y4 0 (m:Int)) 0
  [.sh (.lst (cs.map .int)),.sh (.int (m:Int)),.sh (.lst (nm.map .str)),.ow (.lst []),.un,.un,.un,.un] (by
   rintro j d δ hj ⟨ps,s4,s5,s6,s7,rfl,hl,hg⟩;obtain⟨F,rfl⟩:=z70 hj;rw[Int.toNat_natCast] at F;obtain⟨p,t5,t6,t7,h1,h2⟩:=bo0 cs hc (m:Int) (by omega) nm hp j (by omega) (ps.map Pt.d) (by rw[List.length_map];omega) s5 s6 s7;refine⟨_,_,rfl,h2,ps++[p],_,t5,t6,t7,by rw[List.map_append];rfl,by simp[hl],λq hq=>?_⟩;rcases B8.mp hq with a|a
   ·exact hg q a
   ·rw[List.mem_singleton.mp a];exact h1) ⟨[],_,_,_,_,rfl,rfl,λp hp=>by cases hp⟩
 obtain⟨ps,s4,s5,s6,s7,rfl,hl,hg⟩:=l2;rw[yg0,Int.toNat_natCast,Nat.zero_add] at hl;refine⟨ps,j5 rfl (u9 (δ':=[.sh (.lst (cs.map .int)),.sh (.int (m:Int)),.sh (.lst (nm.map .str)),.ow (.lst []),.un,.un,.un,.un]) rfl (u9 (T7 (items:=Y4 0 (m:Int)) (Q6 (cons_of rfl rfl) (by omega) (by omega)) l1) (o8 (Z9 ?_)))),hl,hg⟩;show oA (z9 (gv 3) v7) P0 (frz _)=_;rw[m7 (ds:=[.lst (ps.map Pt.d)]) rfl];rfl
theorem s50(ps:List (Str×D)):V5 (tf0 0 1) noT (gv 1) [.un,.un] (ps.map pr)=some (ps.map (·.2)):=by
 rw[Q3 (λd=>match d with|.tup [_,v]=>v|_=>.non) (λd hd=>by
  obtain⟨p,hp,rfl⟩:=A8.mp hd;exact⟨_,rfl,rfl,rfl⟩),List.map_map]
 rfl
theorem na0(p:Pt)(h:p.few):Z6 [p.d]=some (.lst p.vals):=by
 cases p with
 | text w=>kernel_rfl
 | row vs =>
  refine K9 rfl (u9 (δ':=[.sh (Pt.row vs).d]) (by rw[Z2 (by kernel_rfl)];rfl) (J1 (by rw[U0 (by kernel_rfl)];rfl)))
 | table ps =>
  refine K9 rfl (u9 (δ':=[.sh (Pt.table ps).d]) (by rw[Z2 (by kernel_rfl)];rfl) (u9 (δ':=[.sh (Pt.table ps).d]) (by rw[Z2 (by kernel_rfl)];rfl) (J1 (zy0 ?_))));exact U7 (items:=ps.map pr) rfl (by have:(ps.map (·.2)).length<=sizeLine:=h;simpa using this) (s50 ps)
 | rcd c ps =>
  refine K9 rfl (u9 (δ':=[.sh (Pt.rcd c ps).d]) (by rw[Z2 (by kernel_rfl)];rfl) (u9 (δ':=[.sh (Pt.rcd c ps).d]) (by rw[Z2 (by kernel_rfl)];rfl) (J1 (zy0 ?_))));exact U7 (items:=ps.map pr) rfl (by have:(ps.map (·.2)).length<=sizeLine:=h;simpa using this) (s50 ps)
theorem jc0(xs:List D)(x:D):cutD (xs++[x]) none (some (-1))=xs:=by
 unfold cutD;have i1:sIx (xs++[x]).length (xs++[x]).length (some (-1))=xs.length:=by
  show (if (-1:Int)<0 then ((-1:Int)+((xs++[x]).length:Int)).toNat else min (-1:Int).toNat (xs++[x]).length)=_;rw[if_pos (by decide),List.length_append];simp only[List.length_cons,List.length_nil];omega
 rw[i1];show ((xs++[x]).drop 0).take (xs.length - 0)=_;simp
theorem kv0(xs:List D)(x:D):atI (xs++[x]) (-1)=some x:=by
 unfold atI ixN;rw[if_neg (by decide),if_pos (by rw[List.length_append];simp only[List.length_cons,List.length_nil];omega)];rw[show ((-1:Int)+((xs++[x]).length:Int)).toNat=xs.length by rw[List.length_append];simp only[List.length_cons,List.length_nil];omega];simp
theorem oj0(p:Pt)(h:p.few)(vs:List D)(hl:vs.length=p.vals.length∨p.vals=[]/\vs=[]):W8 [p.d,.lst vs]=some (Pn.put p vs).d:=by
 have z:(100:Nat)<=sizeLine:=by decide
 have zz:(sizeLine:Int)<2 ^ 62:=by decide
 have key:∀(xs:List D) (ps:List (Str×D)),ps.length=vs.length->ps.length<=sizeLine->xs.length<=10 ->
   o2 (U9 (gv 0) U8 (someO (unG zw0 (gc (.int 1))))) (Y6 (z9 (oA (z9 (V4 1 [0,1] (V8 (z9 (oA (z9 (gv 1) v7) Y5) v7)) (gN 0) noT (Y6 (z9 (o2 (o2 (o2 (gv 1) (unG zw0 (gc (.int 1))) ixD) (gv 0) ixD) (gc (.int 0)) ixD) (z9 (o2 (gv 2) (gv 0) ixD) v7)))) v7) P0) v7)) n8 [.sh (.tup (xs++[.tup (ps.map pr)])),.sh (.lst vs)]=some (.tup (xs++[.tup (((ps.map (·.1)).zip vs).map pr)])):=λxs ps hp hz hx=>by
  have hc:oA (z9 (V4 1 [0,1] (V8 (z9 (oA (z9 (gv 1) v7) Y5) v7)) (gN 0) noT (Y6 (z9 (o2 (o2 (o2 (gv 1) (unG zw0 (gc (.int 1))) ixD) (gv 0) ixD) (gc (.int 0)) ixD) (z9 (o2 (gv 2) (gv 0) ixD) v7)))) v7) P0 [.sh (.tup (xs++[.tup (ps.map pr)])),.sh (.lst vs)]=some (.tup (((ps.map (·.1)).zip vs).map pr)):=by
   rw[m7 (ds:=[.lst (((ps.map (·.1)).zip vs).map pr)]) (cons_of (U7 (items:=Y4 0 (vs.length:Int)) (Q6 (cons_of rfl rfl) (by omega) (by omega)) (by rw[yg0];omega) (by
    have q:=q70 (gt:=noT) (ge:=(Y6 (z9 (o2 (o2 (o2 (gv 1) (unG zw0 (gc (.int 1))) ixD) (gv 0) ixD) (gc (.int 0)) ixD) (z9 (o2 (gv 2) (gv 0) ixD) v7)))) (δ:=[.un,.sh (.tup (xs++[.tup (ps.map pr)])),.sh (.lst vs)]) (n:=(vs.length:Int)) (λj=>pr ((ps.map (·.1)).getD j "",vs.getD j .non)) (λk hk=>⟨[.sh (.int (k:Int)),.sh (.tup (xs++[.tup (ps.map pr)])),.sh (.lst vs)],rfl,rfl,by
     have J:k<ps.length:=by omega
     refine W5 (cons_of (d:=.str ((ps.map (·.1)).getD k "")) ?_ (cons_of (d:=vs.getD k .non) ?_ rfl)) (by show 2<=sizeLine;omega)
     ·rw[o4 (x:=pr ps[k]) (y:=.int 0) (by
       rw[o4 (x:=.tup (ps.map pr)) (y:=.int (k:Int)) (by
        rw[o4 (x:=.tup (xs++[.tup (ps.map pr)])) (y:=.int (-1)) rfl rfl];exact kv0 _ _) rfl]
       show atI (ps.map pr) (k:Int)=_;rw[J0 (by omega) (by rw[List.length_map];omega) .non,Int.toNat_natCast];simp[List.getD_eq_getElem?_getD,J]) rfl]
      simp[List.getD_eq_getElem?_getD,J];rfl
     ·rw[o4 (x:=.lst vs) (y:=.int (k:Int)) rfl rfl]
      show atI vs (k:Int)=_;rw[J0 (by omega) (by omega) .non,Int.toNat_natCast]⟩)
    rw[Int.toNat_natCast] at q;refine q.trans ?_;congr 1;refine Ci0 (by simp;omega) λi h1 h2=>?_
    have hi:i<vs.length:=by simpa using h1
    have hi2:i<ps.length:=by omega
    simp[List.getD_eq_getElem?_getD,hi,hi2])) rfl)]
   rfl
  rw[o4 (x:=.tup xs) (y:=.tup [.tup (((ps.map (·.1)).zip vs).map pr)]) (by
   show slA (.tup (xs++[.tup (ps.map pr)])) none (some (-1))=_;simp only[slA];rw[jc0]) (W5 (cons_of hc rfl) (by show 1<=sizeLine;omega))]
  simp only[n8];rw[if_pos (by simp only[List.length_cons,List.length_nil];omega)]
 have F:∀ps:List (Str×D),p.vals=ps.map (·.2)->ps.length=vs.length:=λps e=>by
  rcases hl with q|⟨q1,q2⟩
  ·rw[q,e,List.length_map]
  ·rw[q2];rw[q1] at e;have:=D1 List.length e;simp at this;simpa using this.symm
 cases p with
 | text w=>kernel_rfl
 | row us=>kernel_rfl
 | table ps =>
  exact j5 rfl (u9 (δ':=[.sh (Pt.table ps).d,.sh (.lst vs)]) (by rw[Z2 (by kernel_rfl)];rfl) (u9 (δ':=[.sh (Pt.table ps).d,.sh (.lst vs)]) (by rw[Z2 (by kernel_rfl)];rfl) (o8 (Z9 (key [.str "table"] ps (F ps rfl) (by have:(ps.map (·.2)).length<=sizeLine:=h;simpa using this) (by simp))))))
 | rcd c ps =>
  exact j5 rfl (u9 (δ':=[.sh (Pt.rcd c ps).d,.sh (.lst vs)]) (by rw[Z2 (by kernel_rfl)];rfl) (u9 (δ':=[.sh (Pt.rcd c ps).d,.sh (.lst vs)]) (by rw[Z2 (by kernel_rfl)];rfl) (o8 (Z9 (key [.str "record",.str c] ps (F ps rfl) (by have:(ps.map (·.2)).length<=sizeLine:=h;simpa using this) (by simp))))))
end Gw
namespace K22
open DL W
section
end
theorem ey0{g1 g2:GB}{b1 b2:Bool}(h1:g1 δ=some b1)(h2:g2 δ=some b2):xz0 g1 g2 δ=some (b1&&b2):=by
 unfold xz0;rw[h1];cases b1
 ·rfl
 ·show g2 δ=_
  rw[h2];rfl
def Lv(n:Nat)(v:D):Prop:=v=.non∨(∃z,v=.int z)∨∃j:Nat,v=.tup [.str "at",.int (j:Int)]/\j<n
structure Pw(n:Nat)(p:Pt):Prop where
 few:p.vals.length<=12
 lv:∀v∈p.vals,Lv n v
theorem Pw.f{p:Pt}(h:Pw n p):p.few:=by
 have z:(12:Nat)<=sizeLine:=by decide
 exact B7 h.few z
structure Web(ps:List Pt):Prop where
 len:0<ps.length/\ps.length<=60
 pw:∀p∈ps,Pw ps.length p
def wd(ps:List Pt):D:=.tup (ps.map Pt.d)
theorem Web.at(h:Web ps)(hi:i<ps.length):ixD (wd ps) (.int (i:Int))=some ps[i].d/\(ps.map Pt.d).getD i .non=ps[i].d/\Pw ps.length ps[i]:=by
 refine⟨?_,?_,h.pw _ (C8 hi)⟩
 ·show atI (ps.map Pt.d) (i:Int)=_
  rw[J0 (by omega) (by rw[List.length_map];omega) .non,Int.toNat_natCast];simp[hi]
 ·simp[hi]
theorem ro0(p:Pt)(vs:List D)(h:vs.length=p.vals.length):(Pn.put p vs).vals=vs:=by
 cases p with
 | text w=>exact(L4 h).symm
 | row us=>rfl
 | table ps =>
  show ((ps.map (·.1)).zip vs).map (·.2)=vs;refine d6 ?_;have h':vs.length=(ps.map (·.2)).length:=h;simp only[List.length_map] at h' ⊢;omega
 | rcd c ps =>
  show ((ps.map (·.1)).zip vs).map (·.2)=vs;refine d6 ?_;have h':vs.length=(ps.map (·.2)).length:=h;simp only[List.length_map] at h' ⊢;omega
end K22
namespace K22
open DL W
section
variable(h:Web ps){x:Nat}(hx:x<ps.length)
include h hx
end
end K22
namespace K22
open DL W
theorem cm0{p:Pt}{nm:List Str}(h:Gw.Gd p (m:Int) nm):Pw m p:=by
 refine⟨?_,λv hv=>?_⟩
 ·have ok:=h.ok
  cases p with
  | text w=>show 0<=12;decide
  | row vs=>exact ok.1
  | table ps=>show (ps.map (·.2)).length<=12;rw[List.length_map];exact ok.len
  | rcd c ps=>show (ps.map (·.2)).length<=12;rw[List.length_map];exact ok.2.len
 ·have k:=h.vk v hv
  rcases sb0 k.ok with rfl|⟨i,rfl⟩|⟨i,rfl,hi⟩
  ·exact .inl rfl
  ·exact .inr (.inl ⟨i,rfl⟩)
  ·have:=k.lk i rfl
   exact .inr (.inr ⟨i.toNat,by rw[Int.toNat_of_nonneg hi],by omega⟩)
theorem ld0{v:D}(h:Lv n v)(k:Nat):lean v (k+1)=true:=by
 rcases h with rfl|⟨z,rfl⟩|⟨j,rfl,_⟩<;>simp[lean,leans]
theorem s30{k:Nat}(h:∀x∈l,lean x k=true):leans l k=true:=by
 induction l with
 | nil=>rfl
 | cons a l ih=>rw[leans,h a A5,ih λx hx=>h x (B0 _ hx)];rfl
end K22
namespace Bw
open DL W
theorem yb0{g:GE}{b:Bool}(h:g δ=some (.bl b)):ob g δ=some b:=by
 unfold ob;rw[h];rfl
end Bw
namespace Ta
open Fa
open DL W K22
open Classical in
theorem n80{f:D->Ds->Option Ds}(st:Sl->Ds)(hf:∀d s,f d (st s)=some (st (.sh d)))(ok:D->Prop):∀items:List D,(∀d∈items,(ok d->G (st (.sh d))=some (.nx (st (.sh d))))/\(¬ok d->G (st (.sh d))=some (.rt (.bl false)))) ->
  ∀s,((∀d∈items,ok d)->∃s',X8 f G items (st s)=some (.nx (st s')))/\(¬(∀d∈items,ok d)->X8 f G items (st s)=some (.rt (.bl false)))
 | [],_,s=>⟨λ_=>⟨s,rfl⟩,λh=>absurd (λd hd=>by cases hd) h⟩
 | d::items,h,s=>by
  have hd:=h d A5;obtain⟨i1,i2⟩:=n80 st hf ok items (λe he=>h e (B0 _ he)) (.sh d);have un:X8 f G (d::items) (st s)=(match G (st (.sh d)) with|some (.nx δ')=>X8 f G items δ'|some (.ct δ')=>X8 f G items δ'|some (.bk δ')=>some (.nx δ')|r=>r):=by
   conv=>lhs;unfold X8
   rw[hf d s];rfl
  rw[un]
  by_cases hk:ok d
  ·rw[hd.1 hk]
   refine⟨λz=>i1 λe he=>z e (B0 _ he),λz=>i2 λq=>z λe he=>?_⟩;rcases B4.mp he with rfl|he
   ·exact hk
   ·exact q e he
  ·rw[hd.2 hk]
   exact⟨λz=>absurd (z d A5) hk,λ_=>rfl⟩
def pN(p:Nat×Nat):D:=.tup [.int (p.1:Int),.int (p.2:Int)]
def k2(p:Nat×Nat):List T5:=[.inl (p.1:Int),.inl (p.2:Int)]
theorem qv0{p q:Nat×Nat}(h:k2 p=k2 q):p=q:=by
 unfold k2 at h;injection h with h1 h2
 injection h2 with h2 _
 injection h1 with h1
 injection h2 with h2
 exact L7 (by omega) (by omega)
theorem nr0(ks:List (List T5))(k:List T5):N8 ks k=true↔k∈ks:=by
 unfold N8;rw[List.any_eq_true];constructor
 ·rintro⟨x,hx,e⟩
  rw[← of_decide_eq_true e];exact hx
 ·intro h
  exact⟨k,h,A40 rfl⟩
theorem sh0(ks:List (List T5))(k x:List T5):x∈S9 ks k↔x∈ks∨x=k:=by
 unfold S9
 by_cases h:N8 ks k=true
 ·rw[if_pos h]
  have:=(nr0 ks k).mp h;exact⟨.inl,λz=>z.elim id λe=>e▸this⟩
 ·rw[if_neg h,List.mem_append,List.mem_singleton]
theorem si0(v:D):∀(L:List (Nat×Nat)) (ks:List (List T5)) (vs:List D),∃r,U5 ks vs (L.map λp=>.tup [pN p,v])=some r/\∀x,x∈r.1↔x∈ks∨∃p∈L,x=k2 p
 | [],ks,vs=>⟨(ks,vs),rfl,λx=>⟨.inl,λz=>z.elim id λ⟨p,hp,_⟩=>by cases hp⟩⟩
 | p::L,ks,vs=>by
  obtain⟨r,h1,h2⟩:=si0 v L (S9 ks (k2 p)) (M8 ks vs (k2 p) v);refine⟨r,?_,λx=>?_⟩
  ·rw[← h1];rfl
  ·rw[h2,sh0]
   constructor
   ·rintro ((z|z)|⟨q,hq,e⟩)
    ·exact .inl z
    ·exact .inr ⟨p,A5,z⟩
    ·exact .inr ⟨q,B0 _ hq,e⟩
   ·rintro (z|⟨q,hq,e⟩)
    ·exact .inl (.inl z)
    ·rcases B4.mp hq with rfl|hq
     ·exact .inl (.inr e)
     ·exact .inr ⟨q,hq,e⟩
def Dc(L:List (Nat×Nat))(d:D):Prop:=∃ks vs,d=.dct (.inr ks) vs/\∀x,x∈ks↔∃p∈L,x=k2 p
theorem ni0{d:D}(h:Dc L d)(p:Nat×Nat):T6 true (pN p) d=some (.bl (decide (p∉L))):=by
 obtain⟨ks,vs,rfl,hk⟩:=h;show some (D.bl (xor true (N8 ks (k2 p))))=_
 by_cases z:p∈L
 ·rw[(nr0 ks _).mpr ((hk _).mpr ⟨p,z,rfl⟩),decide_eq_false (λq=>q z)];rfl
 ·have:N8 ks (k2 p)=false:=by
   cases e:N8 ks (k2 p) with
   | false=>rfl
   | true =>
    obtain⟨q,hq,e2⟩:=(hk _).mp ((nr0 ks _).mp e);exact absurd (qv0 e2▸hq) z
  rw[this,decide_eq_true z];rfl
def okv(L:List (Nat×Nat)):D->D->Prop
 | .tup [_,.int i],.tup [_,.int j]=>(i.toNat,j.toNat)∈L
 | v,w=>v=w
theorem ku0{v:D}(h:Lv n v):Pn.Pl v:=by
 refine⟨ld0 h 49,?_⟩;rcases h with rfl|⟨z,rfl⟩|⟨j,rfl,_⟩<;>simp[Pn.nb,Pn.nbs]
def tn0(p:Prop)(o:Option D):Prop:=(p->o=some (.bl true))/\(¬p->o=some (.bl false))
theorem fx0{v w:D}(hv:Lv n v)(hw:Lv m w):tn0 (v≠w) (O2 v w) :=
 ⟨λe=>Pn.jb0 (ku0 hv) (ku0 hw) e,λe=>by
  have:=Classical.not_not.mp e;subst this;exact Pn.kx0 (ku0 hv).le⟩
theorem vk0{p:Prop}{g:GE}(h:tn0 p (g δ)):(p->ob g δ=some true)/\(¬p->ob g δ=some false) :=
 ⟨λz=>by unfold ob;rw[h.1 z];rfl,λz=>by unfold ob;rw[h.2 z];rfl⟩
theorem pe0{v w:D}(hv:Lv n v)(hw:Lv m w)(h:¬(isTup v=true/\isTup w=true)):okv L v w↔v=w:=by
 rcases hv with rfl|⟨z,rfl⟩|⟨j,rfl,_⟩<;>rcases hw with rfl|⟨z',rfl⟩|⟨j',rfl,_⟩<;>first|exact Iff.rfl|exact absurd ⟨rfl,rfl⟩ h
def UB:GS:=(v8 (ifD (ob (oA (z9 (gv 4) v7) M4))
 (v8 (ifD (ob (o2 (oA (z9 (gv 4) v7) R6) (gv 3) (T6 true)))
 (v8 (j6 (gc (.bl false)))
 p7)
 p7)
 p7)
 (v8 (ifD (ob (o2 (o2 (gv 4) (gc (.int 0)) ixD) (o2 (gv 4) (gc (.int 1)) ixD) O2))
 (v8 (j6 (gc (.bl false)))
 p7)
 p7)
 p7))
 p7)
theorem g80(v w:D):M4 [.tup [v,w]]=some (.bl (isTup v&&isTup w)):=by
 refine j5 rfl (o8 (Z9 ?_));unfold za0;rw[show ob (M9 isTup (o2 (gv 0) (gc (.int 0)) ixD)) (W3 vz0 [.tup [v,w]])=some (isTup v) from rfl,Option.bind_some];cases isTup v with
 | false=>rfl
 | true=>rw[if_pos rfl];rfl
theorem by0{d:D}(hd:Dc L d){v w:D}(hv:Lv n v)(hw:Lv m w)(a b c:Sl) :
  (okv L v w->UB [a,b,c,.sh d,.sh (.tup [v,w])]=some (.nx [a,b,c,.sh d,.sh (.tup [v,w])]))/\(¬okv L v w->UB [a,b,c,.sh d,.sh (.tup [v,w])]=some (.rt (.bl false))):=by
 have hl:ob (oA (z9 (gv 4) v7) M4) [a,b,c,.sh d,.sh (.tup [v,w])]=some (isTup v&&isTup w):=by
  unfold ob;rw[m7 (ds:=[.tup [v,w]]) rfl,g80];rfl
 by_cases hb:isTup v=true/\isTup w=true
 ·rw[hb.1,hb.2] at hl
  obtain⟨i,rfl,_⟩:∃j:Nat,v=.tup [.str "at",.int (j:Int)]/\j<n:=by
   rcases hv with rfl|⟨z,rfl⟩|h
   ·exact absurd hb.1 (by simp)
   ·exact absurd hb.1 (by simp)
   ·exact h
  obtain⟨j,rfl,_⟩:∃j:Nat,w=.tup [.str "at",.int (j:Int)]/\j<m:=by
   rcases hw with rfl|⟨z,rfl⟩|h
   ·exact absurd hb.2 (by simp)
   ·exact absurd hb.2 (by simp)
   ·exact h
  have e:okv L (.tup [.str "at",.int (i:Int)]) (.tup [.str "at",.int (j:Int)])↔(i,j)∈L:=by
   unfold okv;simp only[Int.toNat_natCast]
  have lp:R6 [.tup [.tup [.str "at",.int (i:Int)],.tup [.str "at",.int (j:Int)]]]=some (pN (i,j)) :=
   j5 rfl (o8 (Z9 (W5 (cons_of rfl (cons_of rfl rfl)) (by show 2<=sizeLine;decide))))
  have ht:ob (o2 (oA (z9 (gv 4) v7) R6) (gv 3) (T6 true)) [a,b,c,.sh d,.sh (.tup [.tup [.str "at",.int (i:Int)],.tup [.str "at",.int (j:Int)]])]=some (decide ((i,j)∉L)):=by
   unfold ob;rw[o4 (x:=pN (i,j)) (y:=d) (by rw[m7 (ds:=[.tup [.tup [.str "at",.int (i:Int)],.tup [.str "at",.int (j:Int)]]]) rfl];exact lp) rfl,ni0 hd];rfl
  rw[e];refine⟨λz=>?_,λz=>?_⟩
  ·rw[decide_eq_false (λq=>q z)] at ht
   refine u9 (δ':=[a,b,c,.sh d,.sh (.tup [.tup [.str "at",.int (i:Int)],.tup [.str "at",.int (j:Int)]])]) ?_ rfl;rw[U0 hl];refine u9 (δ':=[a,b,c,.sh d,.sh (.tup [.tup [.str "at",.int (i:Int)],.tup [.str "at",.int (j:Int)]])]) ?_ rfl;rw[Z2 ht];rfl
  ·rw[decide_eq_true z] at ht
   refine o8 ?_;rw[U0 hl];refine o8 ?_;rw[U0 ht];rfl
 ·have F:(isTup v&&isTup w)=false:=by
   cases e1:isTup v with
   | false=>rfl
   | true =>
    cases e2:isTup w with
    | false=>rfl
    | true=>exact absurd ⟨e1,e2⟩ hb
  rw[F] at hl;rw[pe0 hv hw hb];obtain⟨t1,t2⟩:=vk0 (g:=o2 (o2 (gv 4) (gc (.int 0)) ixD) (o2 (gv 4) (gc (.int 1)) ixD) O2) (δ:=[a,b,c,.sh d,.sh (.tup [v,w])]) (p:=v≠w) (by
   rw[o4 (x:=v) (y:=w) rfl rfl];exact fx0 hv hw)
  refine⟨λz=>?_,λz=>?_⟩
  ·refine u9 (δ':=[a,b,c,.sh d,.sh (.tup [v,w])]) ?_ rfl
   rw[Z2 hl];refine u9 (δ':=[a,b,c,.sh d,.sh (.tup [v,w])]) ?_ rfl;rw[Z2 (t2 λq=>q z)];rfl
  ·refine o8 ?_
   rw[Z2 hl];refine o8 ?_;rw[U0 (t1 z)];rfl
def pa(ps:List Pt)(i:Nat):Pt:=ps.getD i (.row [])
def up(ps qs:List Pt)(L:List (Nat×Nat))(p:Nat×Nat):Prop:=Pn.hd (pa ps p.1)=Pn.hd (pa qs p.2)/\∀q∈(pa ps p.1).vals.zip (pa qs p.2).vals,okv L q.1 q.2
theorem yf0(h:Web ps)(hi:i<ps.length):ixD (wd ps) (.int (i:Int))=some (pa ps i).d/\Pw ps.length (pa ps i):=by
 obtain⟨a,_,c⟩:=h.at hi;have:pa ps i=ps[i]:=by unfold pa;simp[hi]
 rw[this];exact⟨a,c⟩
theorem vj0(p:Pt)(h:p.few):z20 [p.d]=some (Pn.hd p):=Pn.vj0 p h
theorem zk0(p:Pt)(h:p.few):m_values [p.d]=some (.lst p.vals):=Pn.zk0 p h
theorem kf0(hp:Web ps)(hq:Web qs){d:D}(hd:Dc L d){p:Nat×Nat}(h1:p.1<ps.length)(h2:p.2<qs.length):tn0 (up ps qs L p) (N6 [wd ps,wd qs,pN p,d]):=by
 obtain⟨a1,a2⟩:=yf0 hp h1;obtain⟨b1,b2⟩:=yf0 hq h2;unfold up;generalize pa ps p.1=P at a1 a2;generalize pa qs p.2=R at b1 b2;have g1:∀δ:Ds,o2 (gv 0) (o2 (gv 2) (gc (.int 0)) ixD) ixD (.sh (wd ps)::.sh (wd qs)::.sh (pN p)::δ)=some P.d:=fun δ=>by
  rw[o4 (x:=wd ps) (y:=.int (p.1:Int)) rfl rfl];exact a1
 have g2:∀δ:Ds,o2 (gv 1) (o2 (gv 2) (gc (.int 1)) ixD) ixD (.sh (wd ps)::.sh (wd qs)::.sh (pN p)::δ)=some R.d:=fun δ=>by
  rw[o4 (x:=wd qs) (y:=.int (p.2:Int)) rfl rfl];exact b1
 obtain⟨t1,t2⟩:=vk0 (g:=o2 (oA (z9 (o2 (gv 0) (o2 (gv 2) (gc (.int 0)) ixD) ixD) v7) z20) (oA (z9 (o2 (gv 1) (o2 (gv 2) (gc (.int 1)) ixD) ixD) v7) z20) O2) (δ:=[.sh (wd ps),.sh (wd qs),.sh (pN p),.sh d,.un]) (p:=Pn.hd P≠Pn.hd R) (by
  rw[o4 (x:=Pn.hd P) (y:=Pn.hd R) (by rw[m7 (ds:=[P.d]) (cons_of (g1 _) rfl)];exact vj0 P a2.f) (by rw[m7 (ds:=[R.d]) (cons_of (g2 _) rfl)];exact vj0 R b2.f)];exact⟨λe=>Pn.jb0 (Pn.vl0 P) (Pn.vl0 R) e,λe=>by rw[Classical.not_not.mp e];exact Pn.kx0 (Pn.vl0 R).le⟩)
 by_cases hh:Pn.hd P=Pn.hd R
 ·obtain⟨f1,f2⟩:=n80 (f:=gN 4) (G:=UB) (λs=>[.sh (wd ps),.sh (wd qs),.sh (pN p),.sh d,s]) (λ_ _=>rfl) (λx=>∃v w,x=.tup [v,w]/\okv L v w) ((P.vals.zip R.vals).map λq=>.tup [q.1,q.2]) (λx hx=>by
   obtain⟨q,F,rfl⟩:=A8.mp hx;obtain⟨m1,m2⟩:=I0 F;obtain⟨u1,u2⟩:=by0 hd (a2.lv _ m1) (b2.lv _ m2) (.sh (wd ps)) (.sh (wd qs)) (.sh (pN p));refine⟨λ⟨v,w,e,o⟩=>?_,λz=>u2 λo=>z ⟨_,_,rfl,o⟩⟩;injection e with e
   injection e with e1 e
   injection e with e2 _
   rw[← e1,← e2] at o;exact u1 o) .un
  have hz:rh0 (z9 (oA (z9 (o2 (gv 0) (o2 (gv 2) (gc (.int 0)) ixD) ixD) v7) m_values) (z9 (oA (z9 (o2 (gv 1) (o2 (gv 2) (gc (.int 1)) ixD) ixD) v7) m_values) v7)) [.sh (wd ps),.sh (wd qs),.sh (pN p),.sh d,.un]=some ((P.vals.zip R.vals).map λq=>.tup [q.1,q.2]):=by
   unfold rh0;rw[cons_of (d:=.lst P.vals) (ds:=[.lst R.vals]) (by rw[m7 (ds:=[P.d]) (cons_of (g1 _) rfl)];exact zk0 P a2.f) (cons_of (by rw[m7 (ds:=[R.d]) (cons_of (g2 _) rfl)];exact zk0 R b2.f) rfl)];rfl
  have hn:∀rest:GS,v8 (ifD (ob (o2 (oA (z9 (o2 (gv 0) (o2 (gv 2) (gc (.int 0)) ixD) ixD) v7) z20) (oA (z9 (o2 (gv 1) (o2 (gv 2) (gc (.int 1)) ixD) ixD) v7) z20) O2)) (v8 (j6 (gc (.bl false))) p7) p7) rest [.sh (wd ps),.sh (wd qs),.sh (pN p),.sh d,.un]=rest [.sh (wd ps),.sh (wd qs),.sh (pN p),.sh d,.un]:=λrest=>u9 (by rw[Z2 (t2 λz=>z hh)];rfl) rfl
  refine⟨λJ=>?_,λJ=>?_⟩
  ·obtain⟨s',hs⟩:=f1 λx hx=>by
    obtain⟨q,F,rfl⟩:=A8.mp hx;exact⟨_,_,rfl,J.2 q F⟩
   refine j5 rfl ?_;refine(hn _).trans (u9 (T7 hz hs) (o8 rfl))
  ·refine j5 rfl ?_
   refine(hn _).trans (o8 (T7 hz (f2 λz=>J ⟨hh,λq F=>?_⟩)));obtain⟨v,w,e,o⟩:=z _ (A8.mpr ⟨q,F,rfl⟩);injection e with e
   injection e with e1 e
   injection e with e2 _
   rw[e1,e2];exact o
 ·refine⟨λz=>absurd z.1 hh,λ_=>j5 rfl (o8 ?_)⟩
  show ifD _ _ _ [.sh (wd ps),.sh (wd qs),.sh (pN p),.sh d,.un]=_;rw[U0 (t1 hh)];rfl
theorem gg0(p:Nat×Nat)(k:Nat):lean (pN p) (k+1)=true:=by simp[pN,lean,leans]
theorem op0(L:List (Nat×Nat))(k:Nat):leans (L.map pN) (k+1)=true:=s30 λx hx=>by
 obtain⟨p,_,rfl⟩:=A8.mp hx;exact gg0 p k
theorem se0:∀bs:List Bool,bools (bs.map D.bl)=some bs
 | []=>rfl
 | b::bs=>by show (bools (bs.map D.bl)).map _=_;rw[se0 bs];rfl
theorem y50(ps:List Pt)(δ:Ds)(h:gv i δ=some (wd ps)):oA (z9 (gv i) v7) Y5 δ=some (.int (ps.length:Int)):=by
 rw[m7 (ds:=[wd ps]) (cons_of h rfl)];show some (D.int ((ps.map Pt.d).length:Int))=_;rw[List.length_map]
theorem j30{p:Nat×Nat}(h1:p.1<ps.length)(h2:p.2<qs.length):N7 [wd ps,wd qs,pN p]=some (.bl true):=by
 refine j5 rfl (o8 (Z9 ?_));have c1:ze0 (gc (.int 0)) (o2 (gv 2) (gc (.int 0)) ixD) (oA (z9 (gv 0) v7) Y5) leD ltD [.sh (wd ps),.sh (wd qs),.sh (pN p)]=some (.bl true):=by
  unfold ze0;rw[y50 ps _ rfl];show (if decide ((0:Int)<=(p.1:Int))=true then some (D.bl (decide ((p.1:Int)<(ps.length:Int)))) else some (.bl false))=_;rw[decide_eq_true (by omega),if_pos rfl,decide_eq_true (by omega)]
 have c2:ze0 (gc (.int 0)) (o2 (gv 2) (gc (.int 1)) ixD) (oA (z9 (gv 1) v7) Y5) leD ltD [.sh (wd ps),.sh (wd qs),.sh (pN p)]=some (.bl true):=by
  unfold ze0;rw[y50 qs _ rfl];show (if decide ((0:Int)<=(p.2:Int))=true then some (D.bl (decide ((p.2:Int)<(qs.length:Int)))) else some (.bl false))=_;rw[decide_eq_true (by omega),if_pos rfl,decide_eq_true (by omega)]
 unfold za0
 change Option.bind (ob (ze0 (gc (.int 0)) (o2 (gv 2) (gc (.int 0)) ixD) (oA (z9 (gv 0) v7) Y5) leD ltD) [.sh (wd ps),.sh (wd qs),.sh (pN p)]) _=_
 rw[Bw.yb0 c1,Option.bind_some,if_pos rfl];exact c2
open Classical in
theorem nv0(hp:Web ps)(hq:Web qs)(hir:∀p∈L,p.1<ps.length/\p.2<qs.length)(hl:L.length<=sizeLine):tn0 (∀p∈L,up ps qs L p) (Q9 [wd ps,wd qs,.lst (L.map pN)]):=by
 have zs:(1000:Nat)<=sizeLine:=by decide
 obtain⟨r,r1,r2⟩:=si0 (.bl true) L [] [];have hd:Dc L (.dct (.inr r.1) r.2):=⟨r.1,r.2,rfl,λx=>by rw[r2];simp⟩;have key:Q9 [wd ps,wd qs,.lst (L.map pN)]=some (.bl ((L.map λp=>decide (up ps qs L p)).all id)):=by
  refine j5 rfl (u9 (d8 (d:=.dct (.inr r.1) r.2) ?_) (o8 (Z9 ?_)))
  ·rw[m7 (ds:=[.lst (L.map λp=>.tup [pN p,.bl true])]) (cons_of (U7 (items:=L.map pN) rfl (by rw[List.length_map];omega) (by
    rw[Q3 (λd=>.tup [d,.bl true]) (λd hd=>⟨[.sh d],rfl,rfl,W5 (cons_of rfl (cons_of rfl rfl)) (by show 2<=sizeLine;omega)⟩),List.map_map];rfl)) rfl)]
   show (if (L.map λp=>D.tup [pN p,.bl true]).length<=sizeLine then (U5 [] [] (L.map λp=>D.tup [pN p,.bl true])).map (λr=>D.dct (.inr r.1) r.2) else none)=_;rw[if_pos (by rw[List.length_map];omega),r1];rfl
  ·rw[m7 (ds:=[.lst ((L.map λp=>decide (up ps qs L p)).map .bl)]) (cons_of (U7 (items:=L.map pN) rfl (by rw[List.length_map];omega) (by
    have:∀p∈L,za0 (oA (z9 (gv 1) (z9 (gv 2) (z9 (gv 0) v7))) N7) (oA (z9 (gv 1) (z9 (gv 2) (z9 (gv 0) (z9 (gv 3) v7)))) N6) [.sh (pN p),.sh (wd ps),.sh (wd qs),.sh (.dct (.inr r.1) r.2)]=some (.bl (decide (up ps qs L p))):=λp F=>by
     obtain⟨i1,i2⟩:=hir p F;unfold za0;rw[Bw.yb0 (b:=true) (by rw[m7 (ds:=[wd ps,wd qs,pN p]) rfl];exact j30 i1 i2),Option.bind_some,if_pos rfl,m7 (ds:=[wd ps,wd qs,pN p,.dct (.inr r.1) r.2]) rfl];obtain⟨u1,u2⟩:=kf0 hp hq hd i1 i2
     by_cases hu:up ps qs L p
     ·rw[decide_eq_true hu];exact u1 hu
     ·rw[decide_eq_false hu];exact u2 hu
    have go:∀l:List (Nat×Nat),(∀p∈l,p∈L)->V5 (gN 0) noT (za0 (oA (z9 (gv 1) (z9 (gv 2) (z9 (gv 0) v7))) N7) (oA (z9 (gv 1) (z9 (gv 2) (z9 (gv 0) (z9 (gv 3) v7)))) N6)) [.un,.sh (wd ps),.sh (wd qs),.sh (.dct (.inr r.1) r.2)] (l.map pN)=some ((l.map λp=>decide (up ps qs L p)).map .bl):=by
     intro l
     induction l with
     | nil=>intro _;rfl
     | cons p l ih =>
      intro J;rw[List.map_cons];unfold V5;show (match za0 _ _ [.sh (pN p),.sh (wd ps),.sh (wd qs),.sh (.dct (.inr r.1) r.2)] with|none=>none|some y=>(V5 _ _ _ _ (l.map pN)).map λr=>y::r)=_;rw[this p (J p A5),ih λq M=>J q (B0 _ M)];rfl
    exact go L λp F=>F)) rfl)]
   show (bools _).map _=_;rw[se0];rfl
 rw[key];have e:(L.map λp=>decide (up ps qs L p)).all id=decide (∀p∈L,up ps qs L p):=by
  rw[Bool.eq_iff_iff,List.all_map,List.all_eq_true,decide_eq_true_eq];exact⟨λz p F=>of_decide_eq_true (z p F),λz p F=>A40 (z p F)⟩
 rw[e];exact⟨λz=>by rw[decide_eq_true z],λz=>by rw[decide_eq_false z]⟩
end Ta
namespace Km
open DL W K22
section
end
end Km
namespace Ta
open Fa
open DL W K22
theorem p10{f:D->Ds->Option Ds}(P:Ds->Prop)(ok:D->Prop)(r:D):∀items:List D,(∀d∈items,∀δ,P δ->∃δ1,f d δ=some δ1/\(ok d->∃δ2,G δ1=some (.nx δ2)/\P δ2)/\(¬ok d->G δ1=some (.rt r))) ->
  ∀δ,P δ->((∀d∈items,ok d)->∃δ',X8 f G items δ=some (.nx δ')/\P δ')/\(¬(∀d∈items,ok d)->X8 f G items δ=some (.rt r))
 | [],_,δ,hP=>⟨λ_=>⟨δ,rfl,hP⟩,λh=>absurd (λd hd=>by cases hd) h⟩
 | d::items,h,δ,hP=>by
  obtain⟨δ1,e1,g1,g2⟩:=h d A5 δ hP;have un:X8 f G (d::items) δ=(match G δ1 with|some (.nx δ')=>X8 f G items δ'|some (.ct δ')=>X8 f G items δ'|some (.bk δ')=>some (.nx δ')|r=>r):=by
   conv=>lhs;unfold X8
   rw[e1];rfl
  rw[un]
  by_cases hk:ok d
  ·obtain⟨δ2,e2,p2⟩:=g1 hk
   obtain⟨i1,i2⟩:=p10 P ok r items (λe he=>h e (B0 _ he)) δ2 p2;rw[e2];refine⟨λz=>i1 λe he=>z e (B0 _ he),λz=>i2 λq=>z λe he=>?_⟩;rcases B4.mp he with rfl|he
   ·exact hk
   ·exact q e he
  ·rw[g2 hk]
   exact⟨λz=>absurd (z d A5) hk,λ_=>rfl⟩
theorem qf0{p:Pt}(h:Pw n p):Q0 [p.d]=some (Pn.hd p):=by
 have zs:(1000:Nat)<=sizeLine:=by decide
 have hf:=h.few;have nc:∀ps:List (Str×D),V5 (tf0 0 1) noT (gv 0) [.un,.un] (ps.map pr)=some ((ps.map (·.1)).map .str):=λps=>by
  rw[Q3 (λd=>match d with|.tup [a,_]=>a|_=>.non) (λd hd=>by
   obtain⟨q,_,rfl⟩:=A8.mp hd;exact⟨[.sh (.str q.1),.sh q.2],rfl,rfl,rfl⟩),List.map_map,List.map_map]
  rfl
 cases p with
 | text w=>kernel_rfl
 | row vs =>
  have hf:vs.length<=12:=hf;refine j5 rfl (o8 ?_);rw[U0 (by kernel_rfl)];exact o8 (Z9 (W5 (cons_of rfl (cons_of rfl rfl)) (by show 2<=sizeLine;omega)))
 | table ps =>
  have hf:(ps.map (·.2)).length<=12:=hf;rw[List.length_map] at hf;refine j5 rfl (u9 (δ':=[.sh (Pt.table ps).d]) (by rw[Z2 (by kernel_rfl)];rfl) (u9 (δ':=[.sh (Pt.table ps).d]) (by rw[Z2 (by kernel_rfl)];rfl) (o8 (Z9 ?_))));rw[o4 (x:=.tup [.str "table"]) (y:=.tup [.tup ((ps.map (·.1)).map .str)]) rfl (W5 (cons_of (by
   rw[m7 (ds:=[.lst ((ps.map (·.1)).map .str)]) (cons_of (U7 (items:=ps.map pr) rfl (by rw[List.length_map];omega) (nc ps)) rfl)];rfl) rfl) (by show 1<=sizeLine;omega))]
  rfl
 | rcd c ps =>
  have hf:(ps.map (·.2)).length<=12:=hf;rw[List.length_map] at hf;refine j5 rfl (u9 (δ':=[.sh (Pt.rcd c ps).d]) (by rw[Z2 (by kernel_rfl)];rfl) (u9 (δ':=[.sh (Pt.rcd c ps).d]) (by rw[Z2 (by kernel_rfl)];rfl) (o8 (Z9 ?_))));rw[o4 (x:=.tup [.str "record",.str c]) (y:=.tup [.tup ((ps.map (·.1)).map .str)]) rfl (W5 (cons_of (by
   rw[m7 (ds:=[.lst ((ps.map (·.1)).map .str)]) (cons_of (U7 (items:=ps.map pr) rfl (by rw[List.length_map];omega) (nc ps)) rfl)];rfl) rfl) (by show 1<=sizeLine;omega))]
  rfl
theorem js0{p q:Pt}(h:Pn.hd p=Pn.hd q):p.vals.length=q.vals.length:=by
 have inj:∀{a b:List (Str×D)},D.tup ((a.map (·.1)).map .str)=D.tup ((b.map (·.1)).map .str)->(a.map (·.2)).length=(b.map (·.2)).length:=λ{a b} e=>by
  injection e with e
  have:=D1 List.length e
  simpa using this
 cases p with
 | text w =>
  cases q with
  | text w'=>rfl
  | row vs=>injection h with h;injection h with h _;injection h with h;exact absurd h (by decide +kernel)
  | table ps=>injection h with h;injection h with h _;injection h with h;exact absurd h (by decide +kernel)
  | rcd c ps=>injection h with h;injection h with h _;injection h with h;exact absurd h (by decide +kernel)
 | row vs =>
  cases q with
  | text w'=>injection h with h;injection h with h _;injection h with h;exact absurd h (by decide +kernel)
  | row ws =>
   injection h with h
   injection h with _ h
   injection h with h _
   injection h with h
   show vs.length=ws.length;omega
  | table ps=>injection h with h;injection h with h _;injection h with h;exact absurd h (by decide +kernel)
  | rcd c ps=>injection h with h;injection h with h _;injection h with h;exact absurd h (by decide +kernel)
 | table as =>
  cases q with
  | text w'=>injection h with h;injection h with h _;injection h with h;exact absurd h (by decide +kernel)
  | row vs=>injection h with h;injection h with h _;injection h with h;exact absurd h (by decide +kernel)
  | table ps =>
   injection h with h
   injection h with _ h
   injection h with h _
   exact inj h
  | rcd c ps=>injection h with h;injection h with h _;injection h with h;exact absurd h (by decide +kernel)
 | rcd c as =>
  cases q with
  | text w'=>injection h with h;injection h with h _;injection h with h;exact absurd h (by decide +kernel)
  | row vs=>injection h with h;injection h with h _;injection h with h;exact absurd h (by decide +kernel)
  | table ps=>injection h with h;injection h with h _;injection h with h;exact absurd h (by decide +kernel)
  | rcd c' ps =>
   injection h with h
   injection h with _ h
   injection h with _ h
   injection h with h _
   exact inj h
def gl1:D×D->Option (Nat×Nat)
 | (.tup [_,.int i],.tup [_,.int j])=>some (i.toNat,j.toNat)
 | _=>none
def gl(z:List (D×D)):List (Nat×Nat):=z.filterMap gl1
def nl(q:D×D):Prop:=(isTup q.1=true/\isTup q.2=true)∨q.1=q.2
def GB:GS:=(v8 (ifD (xz0 (ob (M9 isTup (o2 (gv 4) (gv 6) ixD))) (ob (M9 isTup (o2 (gv 5) (gv 6) ixD))))
 (v8 (V2 (T9 3 (Y6 (z9 (o2 (o2 (gv 4) (gv 6) ixD) (gc (.int 1)) ixD) (z9 (o2 (o2 (gv 5) (gv 6) ixD) (gc (.int 1)) ixD) v7)))))
 p7)
 (v8 (ifD (ob (o2 (o2 (gv 4) (gv 6) ixD) (o2 (gv 5) (gv 6) ixD) O2))
 (v8 (j6 (gc .non))
 p7)
 p7)
 p7))
 p7)
theorem q30(z:List (D×D)):(gl z).length<=z.length:=List.length_filterMap_le _ _
theorem bw0{vs ws:List D}(hv:∀v∈vs,Lv n v)(hw:∀w∈ws,Lv m w)(hl:vs.length=ws.length)(h12:vs.length<=12)(a b c:Sl)(i:Nat)(hi:i<vs.length) :
  (nl (vs[i],ws[i]'(by omega))->GB [a,b,c,.ow (.lst ((gl ((vs.zip ws).take i)).map pN)),.sh (.lst vs),.sh (.lst ws),.sh (.int (i:Int))]=some (.nx [a,b,c,.ow (.lst ((gl ((vs.zip ws).take (i+1))).map pN)),.sh (.lst vs),.sh (.lst ws),.sh (.int (i:Int))])) /\
  (¬nl (vs[i],ws[i]'(by omega))->GB [a,b,c,.ow (.lst ((gl ((vs.zip ws).take i)).map pN)),.sh (.lst vs),.sh (.lst ws),.sh (.int (i:Int))]=some (.rt .non)):=by
 have zs:(1000:Nat)<=sizeLine:=by decide
 have O:i<ws.length:=by omega
 have g4:∀s:Sl,o2 (gv 4) (gv 6) ixD [a,b,c,s,.sh (.lst vs),.sh (.lst ws),.sh (.int (i:Int))]=some vs[i]:=λs=>by
  rw[o4 (x:=.lst vs) (y:=.int (i:Int)) rfl rfl];show atI vs (i:Int)=_;rw[J0 (by omega) (by omega) .non,Int.toNat_natCast];simp[List.getD_eq_getElem?_getD,hi]
 have g5:∀s:Sl,o2 (gv 5) (gv 6) ixD [a,b,c,s,.sh (.lst vs),.sh (.lst ws),.sh (.int (i:Int))]=some ws[i]:=λs=>by
  rw[o4 (x:=.lst ws) (y:=.int (i:Int)) rfl rfl];show atI ws (i:Int)=_;rw[J0 (by omega) (by omega) .non,Int.toNat_natCast];simp[List.getD_eq_getElem?_getD,O]
 have tk:(vs.zip ws).take (i+1)=(vs.zip ws).take i++[(vs[i],ws[i])]:=by
  rw[List.take_succ,List.getElem?_eq_getElem (by rw[List.length_zip];omega),List.getElem_zip];rfl
 have F:gl ((vs.zip ws).take (i+1))=gl ((vs.zip ws).take i)++(gl1 (vs[i],ws[i])).toList:=by
  rw[tk];unfold gl;rw[List.filterMap_append];congr 1
 have J:=hv _ (C8 hi);have M:=hw _ (C8 O);have S:(gl ((vs.zip ws).take i)).length<=12:=B7 (q30 _) (by rw[List.length_take,List.length_zip];omega);generalize gl ((vs.zip ws).take (i+1))=Z' at F ⊢;generalize gl ((vs.zip ws).take i)=Z at F S ⊢;generalize vs[i]=v at g4 F J ⊢;generalize ws[i]=w at g5 F M ⊢;have ht:xz0 (ob (M9 isTup (o2 (gv 4) (gv 6) ixD))) (ob (M9 isTup (o2 (gv 5) (gv 6) ixD))) [a,b,c,.ow (.lst (Z.map pN)),.sh (.lst vs),.sh (.lst ws),.sh (.int (i:Int))]=some (isTup v&&isTup w):=by
  refine ey0 ?_ ?_
  ·unfold ob M9;rw[g4];rfl
  ·unfold ob M9;rw[g5];rfl
 by_cases hb:isTup v=true/\isTup w=true
 ·refine⟨λ_=>?_,λz=>absurd (.inl hb) z⟩
  rw[hb.1,hb.2] at ht;obtain⟨x,rfl,_⟩:∃j:Nat,v=.tup [.str "at",.int (j:Int)]/\j<n:=by
   rcases J with rfl|⟨z,rfl⟩|h
   ·exact absurd hb.1 (by simp)
   ·exact absurd hb.1 (by simp)
   ·exact h
  obtain⟨y,rfl,_⟩:∃j:Nat,w=.tup [.str "at",.int (j:Int)]/\j<m:=by
   rcases M with rfl|⟨z,rfl⟩|h
   ·exact absurd hb.2 (by simp)
   ·exact absurd hb.2 (by simp)
   ·exact h
  have e:gl1 (D.tup [.str "at",.int (x:Int)],D.tup [.str "at",.int (y:Int)])=some (x,y):=by
   unfold gl1;simp only[Int.toNat_natCast]
  rw[e] at F;rw[F];refine u9 (δ':=[a,b,c,.ow (.lst ((Z++[(x,y)]).map pN)),.sh (.lst vs),.sh (.lst ws),.sh (.int (i:Int))]) ?_ rfl;rw[U0 ht];refine u9 ((Gw.v20 (l:=Z.map pN) (d:=pN (x,y)) rfl ?_ (by rw[List.length_map];omega)).trans ?_) rfl
  ·exact W5 (cons_of (by rw[o4 (x:=.tup [.str "at",.int (x:Int)]) (y:=.int 1) (g4 _) rfl];rfl) (cons_of (by rw[o4 (x:=.tup [.str "at",.int (y:Int)]) (y:=.int 1) (g5 _) rfl];rfl) rfl)) (by show 2<=sizeLine;omega)
  ·rw[List.map_append];rfl
 ·have U:(isTup v&&isTup w)=false:=by
   cases e1:isTup v with
   | false=>rfl
   | true =>
    cases e2:isTup w with
    | false=>rfl
    | true=>exact absurd ⟨e1,e2⟩ hb
  rw[U] at ht;have en:gl1 (v,w)=none:=by
   rcases J with rfl|⟨z,rfl⟩|⟨j,rfl,_⟩<;>rcases M with rfl|⟨z',rfl⟩|⟨j',rfl,_⟩<;>first|rfl|exact absurd ⟨rfl,rfl⟩ hb
  rw[en] at F;have F:Z'=Z:=by rw[F];simp
  rw[F];have Y:nl (v,w)↔v=w:=⟨λz=>z.resolve_left hb,.inr⟩;rw[Y];obtain⟨t1,t2⟩:=vk0 (g:=o2 (o2 (gv 4) (gv 6) ixD) (o2 (gv 5) (gv 6) ixD) O2) (δ:=[a,b,c,.ow (.lst (Z.map pN)),.sh (.lst vs),.sh (.lst ws),.sh (.int (i:Int))]) (p:=v≠w) (by
   rw[o4 (x:=v) (y:=w) (g4 _) (g5 _)];exact fx0 J M)
  refine⟨λz=>?_,λz=>?_⟩
  ·refine u9 (δ':=[a,b,c,.ow (.lst (Z.map pN)),.sh (.lst vs),.sh (.lst ws),.sh (.int (i:Int))]) ?_ rfl
   rw[Z2 ht];refine u9 (δ':=[a,b,c,.ow (.lst (Z.map pN)),.sh (.lst vs),.sh (.lst ws),.sh (.int (i:Int))]) ?_ rfl;rw[Z2 (t2 λq=>q z)];rfl
  ·refine o8 ?_
   rw[Z2 ht];refine o8 ?_;rw[U0 (t1 z)];rfl
theorem G4(n:Nat):Y4 0 (n:Int)=(List.range' 0 n).map λ(k:Nat)=>D.int (k:Int):=by
 unfold Y4;rw[List.range_eq_range',show ((n:Int) - 0).toNat=n by omega];refine W1 λk _=>?_
 congr 1;omega
theorem ox0(n:Nat)(st:Nat->Sl->Ds)(hf:∀i s d,gN j d (st i s)=some (st i (.sh d)))(ok:Nat->Prop)(r:D)(hG:∀i,i<n->(ok i->G (st i (.sh (.int (i:Int))))=some (.nx (st (i+1) (.sh (.int (i:Int))))))/\(¬ok i->G (st i (.sh (.int (i:Int))))=some (.rt r))) :
  ∀(m i:Nat) (s:Sl),i+m=n->((∀k,i<=k->k<n->ok k)->∃s',X8 (gN j) G ((List.range' i m).map λ(k:Nat)=>D.int (k:Int)) (st i s)=some (.nx (st n s')))/\(¬(∀k,i<=k->k<n->ok k)->X8 (gN j) G ((List.range' i m).map λ(k:Nat)=>D.int (k:Int)) (st i s)=some (.rt r))
 | 0,i,s,h=>by
  have:i=n:=by omega
  subst this;exact⟨λ_=>⟨s,rfl⟩,λz=>absurd (λk h1 h2=>by omega) z⟩
 | m+1,i,s,h=>by
  obtain⟨g1,g2⟩:=hG i (by omega);rw[List.range'_succ,List.map_cons];have un:X8 (gN j) G (D.int (i:Int)::(List.range' (i+1) m).map λ(k:Nat)=>D.int (k:Int)) (st i s)=(match G (st i (.sh (.int (i:Int)))) with|some (.nx δ')=>X8 (gN j) G ((List.range' (i+1) m).map λ(k:Nat)=>D.int (k:Int)) δ'|some (.ct δ')=>X8 (gN j) G ((List.range' (i+1) m).map λ(k:Nat)=>D.int (k:Int)) δ'|some (.bk δ')=>some (.nx δ')|r=>r):=by
   conv=>lhs;unfold X8
   rw[hf];rfl
  rw[un]
  by_cases hk:ok i
  ·rw[g1 hk]
   obtain⟨i1,i2⟩:=ox0 n st hf ok r hG m (i+1) (.sh (.int (i:Int))) (by omega);refine⟨λz=>i1 λk h1 h2=>z k (by omega) h2,λz=>i2 λq=>z λk h1 h2=>?_⟩
   by_cases e:k=i
   ·subst e;exact hk
   ·exact q k (by omega) h2
  ·rw[g2 hk]
   exact⟨λz=>absurd (z i (A4 _) (by omega)) hk,λ_=>rfl⟩
theorem u70{p:Pt}(h:Pw n p):Z6 [p.d]=some (.lst p.vals):=Gw.na0 p h.f
theorem is0(hp:Web ps)(hq:Web qs){p:Nat×Nat}(h1:p.1<ps.length)(h2:p.2<qs.length) :
  (Pn.hd (pa ps p.1)=Pn.hd (pa qs p.2)/\(∀q∈(pa ps p.1).vals.zip (pa qs p.2).vals,nl q)->Z4 [wd ps,wd qs,pN p]=some (.lst ((gl ((pa ps p.1).vals.zip (pa qs p.2).vals)).map pN))) /\
  (¬(Pn.hd (pa ps p.1)=Pn.hd (pa qs p.2)/\(∀q∈(pa ps p.1).vals.zip (pa qs p.2).vals,nl q))->Z4 [wd ps,wd qs,pN p]=some .non):=by
 obtain⟨a1,a2⟩:=yf0 hp h1;obtain⟨b1,b2⟩:=yf0 hq h2;generalize pa ps p.1=P at a1 a2 ⊢;generalize pa qs p.2=R at b1 b2 ⊢;have g1:∀δ:Ds,o2 (gv 0) (o2 (gv 2) (gc (.int 0)) ixD) ixD (.sh (wd ps)::.sh (wd qs)::.sh (pN p)::δ)=some P.d:=fun δ=>by
  rw[o4 (x:=wd ps) (y:=.int (p.1:Int)) rfl rfl];exact a1
 have g2:∀δ:Ds,o2 (gv 1) (o2 (gv 2) (gc (.int 1)) ixD) ixD (.sh (wd ps)::.sh (wd qs)::.sh (pN p)::δ)=some R.d:=fun δ=>by
  rw[o4 (x:=wd qs) (y:=.int (p.2:Int)) rfl rfl];exact b1
 obtain⟨t1,t2⟩:=vk0 (g:=o2 (oA (z9 (o2 (gv 0) (o2 (gv 2) (gc (.int 0)) ixD) ixD) v7) Q0) (oA (z9 (o2 (gv 1) (o2 (gv 2) (gc (.int 1)) ixD) ixD) v7) Q0) O2) (δ:=[.sh (wd ps),.sh (wd qs),.sh (pN p),.ow (.lst []),.sh (.lst P.vals),.sh (.lst R.vals),.un]) (p:=Pn.hd P≠Pn.hd R) (by
  rw[o4 (x:=Pn.hd P) (y:=Pn.hd R) (by rw[m7 (ds:=[P.d]) (cons_of (g1 _) rfl)];exact qf0 a2) (by rw[m7 (ds:=[R.d]) (cons_of (g2 _) rfl)];exact qf0 b2)];exact⟨λe=>Pn.jb0 (Pn.vl0 P) (Pn.vl0 R) e,λe=>by rw[Classical.not_not.mp e];exact Pn.kx0 (Pn.vl0 R).le⟩)
 have s4:∀s:Sl,m5 (gN 4) (oA (z9 (o2 (gv 0) (o2 (gv 2) (gc (.int 0)) ixD) ixD) v7) Z6) [.sh (wd ps),.sh (wd qs),.sh (pN p),.ow (.lst []),s,.un,.un]=some (.nx [.sh (wd ps),.sh (wd qs),.sh (pN p),.ow (.lst []),.sh (.lst P.vals),.un,.un]):=λs=>d8 (by
  rw[m7 (ds:=[P.d]) (cons_of (g1 _) rfl)];exact u70 a2)
 have s5:∀s:Sl,m5 (gN 5) (oA (z9 (o2 (gv 1) (o2 (gv 2) (gc (.int 1)) ixD) ixD) v7) Z6) [.sh (wd ps),.sh (wd qs),.sh (pN p),.ow (.lst []),.sh (.lst P.vals),s,.un]=some (.nx [.sh (wd ps),.sh (wd qs),.sh (pN p),.ow (.lst []),.sh (.lst P.vals),.sh (.lst R.vals),.un]):=λs=>d8 (by
  rw[m7 (ds:=[R.d]) (cons_of (g2 _) rfl)];exact u70 b2)
 by_cases hh:Pn.hd P=Pn.hd R
 ·have hl:=js0 hh
  have J:=a2.few;obtain⟨f1,f2⟩:=ox0 (G:=GB) (j:=6) P.vals.length (λi s=>[.sh (wd ps),.sh (wd qs),.sh (pN p),.ow (.lst ((gl ((P.vals.zip R.vals).take i)).map pN)),.sh (.lst P.vals),.sh (.lst R.vals),s]) (λ_ _ _=>rfl)
   (λi=>∀(h:i<P.vals.length) (h':i<R.vals.length),nl (P.vals[i],R.vals[i])) .non (λi hi=>by
    obtain⟨u1,u2⟩:=bw0 a2.lv b2.lv hl J (.sh (wd ps)) (.sh (wd qs)) (.sh (pN p)) i hi;exact⟨λz=>u1 (z hi (by omega)),λz=>u2 λq=>z λ_ _=>q⟩) P.vals.length 0 .un (Nat.zero_add _)
  rw[← G4] at f1 f2;have e0:gl ((P.vals.zip R.vals).take 0)=[]:=rfl;have en:(P.vals.zip R.vals).take P.vals.length=P.vals.zip R.vals:=List.take_of_length_le (by rw[List.length_zip];omega);simp only[e0,en,List.map_nil] at f1 f2;have hr:V8 (z9 (oA (z9 (gv 4) v7) Y5) v7) [.sh (wd ps),.sh (wd qs),.sh (pN p),.ow (.lst []),.sh (.lst P.vals),.sh (.lst R.vals),.un]=some (Y4 0 (P.vals.length:Int)):=Q6 (cons_of (mp0 rfl) rfl) (by omega) (by omega);have F:(∀q∈P.vals.zip R.vals,nl q)↔∀k,0<=k->k<P.vals.length->∀(h:k<P.vals.length) (h':k<R.vals.length),nl (P.vals[k],R.vals[k]):=by
   constructor
   ·intro z k _ _ h h'
    refine z _ ?_;have:k<(P.vals.zip R.vals).length:=by rw[List.length_zip];omega
    have e:=C8 this
    rwa [List.getElem_zip] at e
   ·intro z q M
    obtain⟨k,hk,e⟩:=E5.mp M;rw[List.length_zip] at hk;rw[List.getElem_zip] at e;rw[← e];exact z k (K2 _) (by omega) (by omega) (by omega)
  refine⟨λz=>?_,λz=>?_⟩
  ·obtain⟨s',hs⟩:=f1 (F.mp z.2)
   refine j5 rfl (u9 (δ':=[.sh (wd ps),.sh (wd qs),.sh (pN p),.ow (.lst []),.un,.un,.un]) rfl (u9 (s4 _) (u9 (s5 _) (u9 (δ':=[.sh (wd ps),.sh (wd qs),.sh (pN p),.ow (.lst []),.sh (.lst P.vals),.sh (.lst R.vals),.un]) (by rw[Z2 (t2 λq=>q hh)];rfl) (u9 (T7 hr hs) (o8 rfl))))))
  ·refine j5 rfl (u9 (δ':=[.sh (wd ps),.sh (wd qs),.sh (pN p),.ow (.lst []),.un,.un,.un]) rfl (u9 (s4 _) (u9 (s5 _) (u9 (δ':=[.sh (wd ps),.sh (wd qs),.sh (pN p),.ow (.lst []),.sh (.lst P.vals),.sh (.lst R.vals),.un]) (by rw[Z2 (t2 λq=>q hh)];rfl) (o8 (T7 hr (f2 λq=>z ⟨hh,F.mpr q⟩)))))))
 ·refine⟨λz=>absurd z.1 hh,λ_=>?_⟩
  refine j5 rfl (u9 (δ':=[.sh (wd ps),.sh (wd qs),.sh (pN p),.ow (.lst []),.un,.un,.un]) rfl (u9 (s4 _) (u9 (s5 _) (o8 ?_))));rw[U0 (t1 hh)];rfl
theorem eq0{P R:Pt}(hP:Pw n P)(hR:Pw m R)(L:List (Nat×Nat)):(∀q∈P.vals.zip R.vals,okv L q.1 q.2)↔(∀q∈P.vals.zip R.vals,nl q)/\∀x∈gl (P.vals.zip R.vals),x∈L:=by
 have lv:∀q∈P.vals.zip R.vals,Lv n q.1/\Lv m q.2:=λq hq=>⟨hP.lv _ (I0 hq).1,hR.lv _ (I0 hq).2⟩
 have one:∀v w,Lv n v->Lv m w->(isTup v=true/\isTup w=true->∃x,gl1 (v,w)=some x/\(okv L v w↔x∈L)):=λv w hv hw hb=>by
  rcases hv with rfl|⟨z,rfl⟩|⟨i,rfl,_⟩
  ·exact absurd hb.1 (by simp)
  ·exact absurd hb.1 (by simp)
  ·rcases hw with rfl|⟨z,rfl⟩|⟨j,rfl,_⟩
   ·exact absurd hb.2 (by simp)
   ·exact absurd hb.2 (by simp)
   ·refine⟨(i,j),?_,?_⟩
    ·unfold gl1;simp only[Int.toNat_natCast]
    ·unfold okv;simp only[Int.toNat_natCast]
 have F:∀v w,gl1 (v,w)≠none->isTup v=true/\isTup w=true:=λv w h=>by
  unfold gl1 at h;split at h
  ·rename_i e
   injection e with e1 e2
   subst e1;subst e2;exact⟨rfl,rfl⟩
  ·exact absurd rfl h
 constructor
 ·intro z
  refine⟨λq hq=>?_,λx hx=>?_⟩
  ·by_cases hb:isTup q.1=true/\isTup q.2=true
   ·exact .inl hb
   ·exact .inr ((pe0 (lv q hq).1 (lv q hq).2 hb).mp (z q hq))
  ·obtain⟨q,hq,e⟩:=P3.mp hx
   have hb:=F q.1 q.2 (by rw[show (q.1,q.2)=q from rfl,e];exact λz=>nomatch z);obtain⟨y,e2,e3⟩:=one q.1 q.2 (lv q hq).1 (lv q hq).2 hb;rw[show (q.1,q.2)=q from rfl,e] at e2;cases e2;exact e3.mp (z q hq)
 ·rintro⟨z1,z2⟩ q hq
  by_cases hb:isTup q.1=true/\isTup q.2=true
  ·obtain⟨y,e2,e3⟩:=one q.1 q.2 (lv q hq).1 (lv q hq).2 hb
   exact e3.mpr (z2 y (P3.mpr ⟨q,hq,e2⟩))
  ·exact(pe0 (lv q hq).1 (lv q hq).2 hb).mpr ((z1 q hq).resolve_left hb)
def tr(A:List (Nat×Nat)):List D:=A.map λ_=>.bl true
def dT(A:List (Nat×Nat)):D:=.dct (.inr (A.map k2)) (tr A)
theorem iv0{A:List (Nat×Nat)}{p:Nat×Nat}(h:p∉A):S9 (A.map k2) (k2 p)=(A++[p]).map k2/\M8 (A.map k2) (tr A) (k2 p) (.bl true)=tr (A++[p]):=by
 have hf:N8 (A.map k2) (k2 p)=false:=by
  cases e:N8 (A.map k2) (k2 p) with
  | false=>rfl
  | true =>
   obtain⟨q,hq,e2⟩:=A8.mp ((nr0 _ _).mp e);exact absurd (qv0 e2▸hq) h
 unfold S9 M8;rw[hf,if_neg (by simp),if_neg (by simp)];constructor
 ·rw[List.map_append];rfl
 ·unfold tr;rw[List.map_append];rfl
theorem go0{l:List α}{a:α}:(l++[a]).Nodup↔l.Nodup/\a∉l:=by
 rw[List.nodup_append];constructor
 ·rintro⟨h1,_,h3⟩
  exact⟨h1,λz=>h3 a z a (d4.mpr rfl) rfl⟩
 ·rintro⟨h1,h2⟩
  exact⟨h1,by simp,λx hx y hy e=>by rw[List.mem_singleton.mp hy] at e;exact h2 (e▸hx)⟩
theorem Z50(A:List (Nat×Nat)):Dc A (dT A):=⟨_,_,rfl,λx=>by
 rw[List.mem_map];exact⟨λ⟨p,hp,e⟩=>⟨p,hp,e.symm⟩,λ⟨p,hp,e⟩=>⟨p,hp,e.symm⟩⟩⟩
theorem rs0{d:D}(hd:Dc L d):∀M:List (Nat×Nat),V5 (gN 0) (ob (o2 (gv 0) (gv 1) (T6 true))) (gv 0) [.un,.sh d] (M.map pN)=some ((M.filter λp=>decide (p∉L)).map pN)
 | []=>rfl
 | p::M=>by
  have ih:=rs0 hd M;rw[List.map_cons];unfold V5;show (match ob (o2 (gv 0) (gv 1) (T6 true)) [.sh (pN p),.sh d] with|none=>none|some false=>V5 (gN 0) (ob (o2 (gv 0) (gv 1) (T6 true))) (gv 0) [.un,.sh d] (M.map pN)|some true=>(V5 (gN 0) (ob (o2 (gv 0) (gv 1) (T6 true))) (gv 0) [.un,.sh d] (M.map pN)).map λr=>pN p::r)=_;rw[Bw.yb0 (g:=o2 (gv 0) (gv 1) (T6 true)) (by rw[o4 (x:=pN p) (y:=d) rfl rfl];exact ni0 hd p),ih]
  by_cases h:p∈L
  ·rw[decide_eq_false (λz=>z h),List.filter_cons_of_neg (by simpa using h)]
  ·rw[decide_eq_true h,List.filter_cons_of_pos (by simpa using h)]
   rfl
end Ta
namespace Ta
open Fa
open DL W K22
theorem c50(h:j<n):ixN n (j:Int)=some j:=by
 unfold ixN;rw[if_pos (by omega),if_pos (by omega),Int.toNat_natCast]
end Ta
namespace Ta
open Fa
open DL W K22
theorem cn0(qs:List Pt)(j:Nat)(q:Pt):(qs.map Pt.d).set j q.d=(qs.set j q).map Pt.d:=by rw[List.map_set]
theorem em0{g:GE}{gx:GE}{v:D}(h1:owL i δ=some ds)(h2:g δ=some (.int (j:Int)))(h3:j<ds.length)(h4:gx δ=some v):zx0 (ye0 gx) (setAt i g) δ=some (.nx (δ.set i (.ow (.lst (ds.set j v))))):=by
 unfold zx0 ye0;rw[h4];unfold setAt;rw[Option.map_some,Option.bind_some,h1,Option.bind_some,h2,Option.bind_some];simp only[];rw[c50 h3];rfl
theorem q60(xs:List D)(n:Nat):cutD xs none (some (n:Int))=xs.take n:=by
 unfold cutD;show (xs.drop 0).take (sIx xs.length xs.length (some (n:Int)) - 0)=_;rw[List.drop_zero,Nat.sub_zero];unfold sIx;simp only[];rw[if_neg (by omega),Int.toNat_natCast]
 by_cases h:n<=xs.length
 ·rw[Nat.min_eq_left h]
 ·rw[Nat.min_eq_right (by omega),List.take_length,List.take_of_length_le (by omega)]
theorem pf0(xs:List D)(n:Nat):cutD xs (some (n:Int)) none=xs.drop n:=by
 unfold cutD;show (xs.drop (sIx xs.length 0 (some (n:Int)))).take (xs.length - sIx xs.length 0 (some (n:Int)))=_;unfold sIx;simp only[];rw[if_neg (by omega),Int.toNat_natCast]
 by_cases h:n<=xs.length
 ·rw[Nat.min_eq_left h,List.take_of_length_le (by rw[List.length_drop];exact A4 _)]
 ·rw[Nat.min_eq_right (by omega),List.drop_length,List.take_nil,List.drop_of_length_le (by omega)]
theorem cl0{g gh:GE}{xs:List D}(h1:g δ=some (.tup xs))(h2:gh δ=some (.int (n:Int))):U9 g U8 (someO gh) δ=some (.tup (xs.take n)):=by
 unfold U9 someO;rw[h1,h2,← q60];rfl
theorem gm0{g gh:GE}{xs:List D}(h1:g δ=some (.tup xs))(h2:gh δ=some (.int (n:Int))):U9 g (someO gh) U8 δ=some (.tup (xs.drop n)):=by
 unfold U9 someO;rw[h1,h2,← pf0];rfl
end Ta
namespace Ta
open Fa
open DL W K22
theorem ko0(x m:Int)(hx:0<=x/\x<2 ^ 40)(hm:0<m):∃v,T3 [.int x,.int m]=some v/\Gw.Vk v m:=Gw.p70 x m hx hm
theorem lb0(p:Pt)(h:p.few)(vs:List D)(hl:vs.length=p.vals.length):W8 [p.d,.lst vs]=some (Pn.put p vs).d:=Gw.oj0 p h vs (.inl hl)
theorem cw0{v:D}(k:Gw.Vk v (m:Int)):Lv m v:=by
 rcases sb0 k.ok with rfl|⟨i,rfl⟩|⟨i,rfl,hi⟩
 ·exact .inl rfl
 ·exact .inr (.inl ⟨i,rfl⟩)
 ·have:=k.lk i rfl
  exact .inr (.inr ⟨i.toNat,by rw[Int.toNat_of_nonneg hi],by omega⟩)
theorem d60{p:Pt}(h:Pw n p){vs:List D}(hl:vs.length=p.vals.length)(hv:∀v∈vs,Lv n v):Pw n (Pn.put p vs):=by
 have e:=ro0 p vs hl;exact⟨by rw[e,hl];exact h.few,λv F=>by rw[e] at F;exact hv v F⟩
theorem eq_nil{vs:List D}(h:∀v∈vs,Lv n v):J8 (.lst vs) (.lst [])=some (.bl (decide (vs=[]))):=by
 unfold J8;have e:lean (.lst vs) 50=true:=by
  rw[lean];exact s30 λx hx=>ld0 (h x hx) 48
 rw[if_pos ⟨e,by simp[lean,leans]⟩];cases vs with
 | nil=>simp[deq,K3]
 | cons a vs=>simp[deq,K3]
theorem iy0{xs ys:List D}(h:xs.length+ys.length<=sizeLine):n8 (.tup xs) (.tup ys)=some (.tup (xs++ys)):=by
 simp only[n8];rw[if_pos h]
theorem xw0(h:Web qs)(x:Int):∃rs,S5 [wd qs,.int x]=some (wd rs)/\Web rs/\rs.length=qs.length:=by
 have zs:(2000:Nat)<=sizeLine:=by decide
 have hq:=h.len;have b1:0<=x%(qs.length:Int):=C9 _ (by omega);have b2:x%(qs.length:Int)<qs.length:=D0 _ (by omega);obtain⟨k,hk⟩:∃k:Nat,x%(qs.length:Int)=(k:Int):=⟨(x%(qs.length:Int)).toNat,by omega⟩;have F:k<qs.length:=by omega
 obtain⟨e1,_,pw⟩:=h.at F;have gk:o2 (gv 1) (oA (z9 (gv 0) v7) Y5) m8 [.sh (wd qs),.sh (.int x),.un,.un,.un]=some (.int (k:Int)):=by
  rw[o4 (x:=.int x) (y:=.int (qs.length:Int)) rfl (y50 qs _ rfl),Gw.N5 _ _ (by omega),hk]
 have gp:∀s2 s3:Sl,o2 (gv 0) (gv 2) ixD [.sh (wd qs),.sh (.int x),.sh (.int (k:Int)),s2,s3]=some qs[k].d:=λs2 s3=>by
  rw[o4 (x:=wd qs) (y:=.int (k:Int)) rfl rfl];exact e1
 have M:oA (z9 (o2 (gv 0) (gv 2) ixD) v7) Z6 [.sh (wd qs),.sh (.int x),.sh (.int (k:Int)),.un,.un]=some (.lst qs[k].vals):=by
  rw[m7 (ds:=[qs[k].d]) (cons_of (gp _ _) rfl)];exact u70 pw
 have s1:m5 (gN 2) (o2 (gv 1) (oA (z9 (gv 0) v7) Y5) m8) [.sh (wd qs),.sh (.int x),.un,.un,.un]=some (.nx [.sh (wd qs),.sh (.int x),.sh (.int (k:Int)),.un,.un]):=d8 gk;have s2:M5 3 (oA (z9 (o2 (gv 0) (gv 2) ixD) v7) Z6) [.sh (wd qs),.sh (.int x),.sh (.int (k:Int)),.un,.un]=some (.nx [.sh (wd qs),.sh (.int x),.sh (.int (k:Int)),.ow (.lst qs[k].vals),.un]):=by
  unfold M5;rw[M];rfl
 have t:t80 (ob (o2 (gv 3) (X5 v7) J8)) [.sh (wd qs),.sh (.int x),.sh (.int (k:Int)),.ow (.lst qs[k].vals),.un]=some (decide (qs[k].vals=[])):=by
  show ob (o2 (gv 3) (X5 v7) J8) [.sh (wd qs),.sh (.int x),.sh (.int (k:Int)),.sh (.lst qs[k].vals),.un]=_;exact Bw.yb0 (by rw[o4 (x:=.lst qs[k].vals) (y:=.lst []) rfl (y60 rfl (by show 0<=sizeLine;omega))];exact eq_nil pw.lv)
 by_cases hn:qs[k].vals=[]
 ·refine⟨qs,j5 rfl (u9 s1 (u9 s2 (o8 ?_))),h,rfl⟩
  rw[U0 (t.trans (by rw[decide_eq_true hn]))];exact o8 (Z9 rfl)
 ·have O:0<qs[k].vals.length:=A50.mpr hn
  have c1:0<=x/60%(qs[k].vals.length:Int):=C9 _ (by omega);have c2:x/60%(qs[k].vals.length:Int)<qs[k].vals.length:=D0 _ (by omega);obtain⟨j,hj⟩:∃j:Nat,x/60%(qs[k].vals.length:Int)=(j:Int):=⟨(x/60%(qs[k].vals.length:Int)).toNat,by omega⟩;obtain⟨v,hv,vk⟩:=ko0 (x/240%1000000) (qs.length:Int) (by omega) (by omega);have hl:(qs[k].vals.set j v).length=qs[k].vals.length:=List.length_set;have J:Pw qs.length (Pn.put qs[k] (qs[k].vals.set j v)):=d60 pw hl λu hu=>by
   rcases Ck0 hu with z|rfl
   ·exact pw.lv u z
   ·exact cw0 vk
  refine⟨qs.set k (Pn.put qs[k] (qs[k].vals.set j v)),j5 rfl (u9 s1 (u9 s2 (u9 (δ':=[.sh (wd qs),.sh (.int x),.sh (.int (k:Int)),.ow (.lst qs[k].vals),.un]) ?_ (u9 (δ':=[.sh (wd qs),.sh (.int x),.sh (.int (k:Int)),.ow (.lst qs[k].vals),.sh (.int (j:Int))]) (d8 ?_) (u9 (δ':=[.sh (wd qs),.sh (.int x),.sh (.int (k:Int)),.ow (.lst (qs[k].vals.set j v)),.sh (.int (j:Int))]) ?_ (o8 (Z9 ?_))))))),⟨by rw[List.length_set];exact hq,λp hp=>?_⟩,List.length_set⟩
  ·rw[Z2 (t.trans (by rw[decide_eq_false hn]))];rfl
  ·rw[o4 (x:=.int (x/60)) (y:=.int (qs[k].vals.length:Int)) (by rw[o4 (x:=.int x) (y:=.int 60) rfl rfl];rfl) rfl,Gw.N5 _ _ (by omega),hj]
  ·rw[em0 (ds:=qs[k].vals) (j:=j) (v:=v) rfl rfl (by omega) (by
    rw[m7 (ds:=[.int (x/240%1000000),.int (qs.length:Int)]) (cons_of (by
     rw[o4 (x:=.int (x/240)) (y:=.int 1000000) (by rw[o4 (x:=.int x) (y:=.int 240) rfl rfl];rfl) rfl];rfl) (cons_of (y50 qs _ rfl) rfl))]
    exact hv)]
   rfl
  ·show o2 _ _ _ [.sh (wd qs),.sh (.int x),.sh (.int (k:Int)),.sh (.lst (qs[k].vals.set j v)),.sh (.int (j:Int))]=_
   have g1:U9 (gv 0) U8 (someO (gv 2)) [.sh (wd qs),.sh (.int x),.sh (.int (k:Int)),.sh (.lst (qs[k].vals.set j v)),.sh (.int (j:Int))]=some (.tup ((qs.map Pt.d).take k)):=cl0 rfl rfl;have g2:Y6 (z9 (oA (z9 (o2 (gv 0) (gv 2) ixD) (z9 (gv 3) v7)) W8) v7) [.sh (wd qs),.sh (.int x),.sh (.int (k:Int)),.sh (.lst (qs[k].vals.set j v)),.sh (.int (j:Int))]=some (.tup [(Pn.put qs[k] (qs[k].vals.set j v)).d]):=W5 (cons_of (by
    rw[m7 (ds:=[qs[k].d,.lst (qs[k].vals.set j v)]) (cons_of (gp _ _) rfl)];exact lb0 _ pw.f _ hl) rfl) (by show 1<=sizeLine;omega)
   have g3:U9 (gv 0) (someO (o2 (gv 2) (gc (.int 1)) n8)) U8 [.sh (wd qs),.sh (.int x),.sh (.int (k:Int)),.sh (.lst (qs[k].vals.set j v)),.sh (.int (j:Int))]=some (.tup ((qs.map Pt.d).drop (k+1))):=gm0 rfl (by rw[o4 (x:=.int (k:Int)) (y:=.int 1) rfl rfl];rfl);have l1:((qs.map Pt.d).take k).length<=60:=by rw[List.length_take,List.length_map];omega
   have l2:((qs.map Pt.d).drop (k+1)).length<=60:=by rw[List.length_drop,List.length_map];omega
   rw[o4 (o4 g1 g2 |>.trans (iy0 (by rw[List.length_singleton];omega))) g3,iy0 (by rw[List.length_append,List.length_singleton];omega)];have es:(qs.map Pt.d).take k++[(Pn.put qs[k] (qs[k].vals.set j v)).d]++(qs.map Pt.d).drop (k+1)=(qs.set k (Pn.put qs[k] (qs[k].vals.set j v))).map Pt.d:=by
    rw[← cn0,List.set_eq_take_append_cons_drop (l:=qs.map Pt.d),if_pos (by rw[List.length_map];exact F),List.append_assoc];rfl
   rw[es];rfl
  ·rw[List.length_set]
   rcases Ck0 hp with z|rfl
   ·exact h.pw p z
   ·exact J
end Ta
namespace Ta
open Fa
open DL W K22 SoT
theorem ik0{g1 g2:DL.GB}(h1:g1 δ=some false)(h2:g2 δ=some false):zv0 g1 g2 δ=some false:=by unfold zv0;rw[h1];exact h2
theorem af0(c:Int){g:GE}{y:Int}(h:g δ=some (.int y)):ob (o2 g (gc (.int c)) eqD) δ=some (decide (y=c)):=Bw.yb0 (by rw[o4 (x:=.int y) (y:=.int c) h rfl];rfl)
end Ta
namespace Fa
open DL W
def vq0:GS:=(v8 (j6 (oA (z9 (gv 0) (z9 (gv 0) (z9 (gv 1) v7))) Q9))
 p7)
def o50:List Str:=["web", "pairs"]
def M7:List D->Option D:=mkF 2 o50 vq0
def w50:GS:=(v8 (M5 3 (X5 v7))
 (v8 (R7 (V8 (z9 (oA (z9 (gv 0) v7) Y5) v7)) (gN 4)
 (v8 (R7 (V8 (z9 (gv 1) v7)) (gN 5)
 (v8 (M5 6 (X5 v7))
 (v8 (m5 (gN 7) (oA (z9 (o2 (gv 2) (o2 (gv 5) (gv 5) W9) n8) (z9 (o2 (gv 4) (gc (.int 31)) n8) v7)) X6))
 (v8 (R7 (z90 (oA (z9 (o2 (gv 0) (gv 4) ixD) v7) Z6)) (gN 8)
 (v8 (m5 (gN 7) (o2 (o2 (gv 7) (gc (.int 48271)) W9) (gc (.int 2147483647)) m8))
 (v8 (ifD (ob (M9 isTup (gv 8)))
 (v8 (m5 (gN 8) (Y6 (z9 (gc (.str "at")) (z9 (o2 (o2 (o2 (gv 8) (gc (.int 1)) ixD) (gv 1) W9) (o2 (gv 7) (gv 1) m8) n8) v7))))
 p7)
 p7)
 (v8 (V2 (T9 6 (gv 8)))
 p7))))
 (v8 (V2 (T9 3 (ue0 (oA (z9 (o2 (gv 0) (gv 4) ixD) (z9 (gv 6) v7)) W8))))
 p7)))))
 p7))
 (v8 (j6 (to0 (oA (z9 (gv 3) v7) P0)))
 p7)))
def sz0:List Str:=["_law_web_here", "_law_times", "_law_cell", "_law_parts", "_law_k", "_law_turn", "_law_some", "_law_number", "_law_value_here"]
def J2:List D->Option D:=mkF 3 sz0 w50
def v70:GS:=(v8 (m5 (gN 2) (oA (z9 (oA (z9 (gv 0) (z9 (gc (.int 0)) v7)) j7) (z9 (oA (z9 (gv 0) (z9 (gc (.int 1)) v7)) j7) v7)) J6))
 (v8 (m5 (gN 3) (oA (z9 (gv 0) (z9 (gc (.int 2)) v7)) j7))
 (v8 (m5 (gN 4) (o2 (gc (.int 1)) (o2 (gv 3) (gv 1) m8) n8))
 (v8 (j6 (oA (z9 (o2 (U9 (gv 0) (someO (gc (.int 9))) (someO (gc (.int 60)))) (X5 (z9 (oA (z9 (gv 0) (z9 (gc (.int 3)) v7)) j7) v7)) n8) (z9 (gv 4) (z9 (gv 2) v7))) z30))
 p7))))
def pu0:List Str:=["_law_script", "_law_most", "_law_pool_here", "_law_turn", "_law_many"]
def G7:List D->Option D:=mkF 2 pu0 v70
def vy0:GS:=(v8 (M5 3 (up0 (gv 2) (gc (.bl true))))
 (v8 (M5 4 (X5 (z9 (gv 2) v7)))
 (v8 (zh0 (ob (o2 (xr0 (oA (z9 (gv 4) v7) Y5)) (gc (.int 0)) gtD))
 (v8 (zx0 (u80 0 1 (wt0 4) Z4) (gN 5))
 (v8 (ifD (ob (o2 (gv 5) (gc .non) wc0))
 (v8 (j6 (gc .non))
 p7)
 p7)
 (v8 (R7 (z90 (gv 5)) (gN 6)
 (v8 (ifD (t80 (ob (o2 (gv 6) (gv 3) (T6 true))))
 (v8 (zx0 (ye0 (gc (.bl true))) (y90 3 (gv 6)))
 (v8 (V2 (T9 4 (gv 6)))
 p7))
 p7)
 p7))
 p7))) 100000)
 (v8 (j6 (to0 (oA (z9 (oA (z9 (gv 3) v7) wz0) v7) wu0)))
 p7))))
def vx0:List Str:=["_law_one", "_law_other", "_law_pair", "_law_known", "_law_waiting", "_law_more", "_law_fresh"]
def Q4:List D->Option D:=mkF 3 vx0 vy0
def ux0:GS:=(v8 (M5 2 (gc (.dct (.inr []) [])))
 (v8 (R7 (z90 (gv 1)) (gN 3)
 (v8 (zx0 (ye0 (gc (.bl true))) (y90 2 (gv 3)))
 p7))
 (v8 (ep0 2 (R7 (z90 (gv 1)) (gN 3)
 (v8 (m5 (gN 4) (oA (z9 (gv 0) (z9 (gv 0) (z9 (gv 3) v7))) Z4))
 (v8 (ifD (zv0 (ob (o2 (gv 4) (gc .non) wc0)) (ob (o2 (oA (z9 (V4 1 [2] (z90 (gv 4)) (gN 0) (ob (o2 (gv 0) (gv 1) (T6 true))) (gv 0)) v7) Y5) (gc (.int 0)) gtD)))
 (v8 (j6 (gc (.bl false)))
 p7)
 p7)
 p7))))
 (v8 (j6 (gc (.bl true)))
 p7))))
def uu0:List Str:=["_law_web_here", "_law_pairs_here", "_law_there", "_law_pair", "_law_more"]
def K5:List D->Option D:=mkF 2 uu0 ux0
def yy0:GS:=(v8 (M5 2 (X5 v7))
 (v8 (R7 (V8 (z9 (gv 0) v7)) (gN 3)
 (v8 (R7 (V8 (z9 (gv 1) v7)) (gN 4)
 (v8 (V2 (T9 2 (Y6 (z9 (gv 3) (z9 (o2 (o2 (o2 (gv 3) (gv 1) d9) (gv 1) W9) (gv 4) n8) v7)))))
 p7))
 p7))
 (v8 (q80 2)
 p7)))
def t00:List Str:=["_law_many", "_law_times", "_law_found", "_law_k", "_law_turn"]
def O9:List D->Option D:=mkN 2 t00 yy0
def wd0:GS:=(v8 (m5 (gN 2) (oA (z9 (gv 1) v7) yt0))
 (v8 (m5 (gN 3) (oA (z9 (gv 0) (z9 (gv 2) v7)) M7))
 (v8 (j6 (za0 (M9 isBool (gv 3)) (za0 (o2 (gv 3) (oA (z9 (gv 0) (z9 (gv 1) v7)) K5) J8) (o2 (gv 2) (gv 1) J8))))
 p7)))
def rn0:List Str:=["_law_web_here", "_law_pairs_here", "_law_handed", "_law_found"]
def Z3:List D->Option D:=mkF 2 rn0 wd0
def v10:GS:=(v8 (m5 (gN 4) (oA (z9 (gv 0) v7) Y5))
 (v8 (m5 (gN 5) (o2 (gv 2) (gv 4) m8))
 (v8 (m5 (gN 6) (o2 (o2 (o2 (gv 5) (gv 1) d9) (gv 1) W9) (o2 (o2 (gv 2) (gc (.int 60)) d9) (gv 1) m8) n8))
 (v8 (ifD (ob (o2 (gv 3) (gc (.int 0)) eqD))
 (v8 (j6 (oA (z9 (gv 4) (z9 (gv 1) v7)) O9))
 p7)
 p7)
 (v8 (ifD (ob (o2 (gv 3) (gc (.int 1)) eqD))
 (v8 (j6 (X5 (z9 (Y6 (z9 (gv 5) (z9 (gv 6) v7))) v7)))
 p7)
 p7)
 (v8 (ifD (ob (o2 (gv 3) (gc (.int 2)) eqD))
 (v8 (j6 (V4 1 [2,4] (V8 (z9 (o2 (o2 (gv 2) (gc (.int 3600)) d9) (gc (.int 4)) m8) v7)) (gN 0) noT (Y6 (z9 (o2 (o2 (gv 1) (o2 (gv 0) (gc (.int 1)) n8) d9) (gv 2) m8) (z9 (o2 (o2 (gv 1) (o2 (gv 0) (gc (.int 7)) n8) d9) (gv 2) m8) v7)))))
 p7)
 p7)
 (v8 (m5 (gN 7) (oA (z9 (gv 0) (z9 (gv 0) (z9 (Y6 (z9 (gv 5) (z9 (gv 6) v7))) v7))) Q4))
 (v8 (ifD (ob (o2 (gv 7) (gc .non) wc0))
 (v8 (j6 (V4 1 [] (V8 (z9 (gv 4) v7)) (gN 0) noT (Y6 (z9 (gv 0) (z9 (gv 0) v7)))))
 p7)
 p7)
 (v8 (j6 (gv 7))
 p7)))))))))
def wb0:List Str:=["_law_web_here", "_law_times", "_law_number", "_law_kind", "_law_many", "_law_p", "_law_q", "_law_found"]
def O1:List D->Option D:=mkF 4 wb0 v10
def in0:GS:=(v8 (m5 (gN 1) (oA (z9 (gv 0) (z9 (gc (.int 4)) v7)) j7))
 (v8 (m5 (gN 2) (o2 (gc (.int 1)) (o2 (gv 1) (gc (.int 4)) m8) n8))
 (v8 (m5 (gN 3) (oA (z9 (oA (z9 (gv 0) (z9 (gc (.int 8)) v7)) G7) (z9 (gv 2) (z9 (oA (z9 (gv 0) (z9 (gc (.int 5)) v7)) j7) v7))) J2))
 (v8 (ifD (ob (o2 (o2 (o2 (gv 1) (gc (.int 4)) d9) (gc (.int 2)) m8) (gc (.int 1)) J8))
 (v8 (m5 (gN 3) (oA (z9 (gv 3) (z9 (oA (z9 (oA (z9 (gv 0) (z9 (gc (.int 6)) v7)) j7) (z9 (gc (.int 9)) v7)) X6) v7)) S5))
 p7)
 p7)
 (v8 (R7 (V8 (z9 (gc (.int 6)) v7)) (gN 4)
 (v8 (m5 (gN 5) (oA (z9 (o2 (oA (z9 (gv 0) (z9 (gc (.int 7)) v7)) j7) (o2 (gv 4) (gv 4) W9) n8) (z9 (o2 (gv 4) (gc (.int 70)) n8) v7)) X6))
 (v8 (m5 (gN 6) (oA (z9 (gv 3) (z9 (gv 2) (z9 (gv 5) (z9 (o2 (gv 4) (gc (.int 4)) m8) v7)))) O1))
 (v8 (ifD (zv0 (G3 (ob (oA (z9 (gv 3) (z9 (gv 6) v7)) Z3))) (G3 (ob (oA (z9 (gv 3) (z9 (pj0 (gv 6)) v7)) Z3))))
 (v8 (j6 (gc (.bl false)))
 p7)
 p7)
 (v8 (m5 (gN 7) (o2 (gv 6) (X5 (z9 (Y6 (z9 (o2 (gv 5) (oA (z9 (gv 3) v7) Y5) m8) (z9 (o2 (o2 (gv 5) (gc (.int 77)) d9) (oA (z9 (gv 3) v7) Y5) m8) v7))) v7)) n8))
 (v8 (ifD (G3 (ob (oA (z9 (gv 3) (z9 (gv 7) v7)) Z3)))
 (v8 (j6 (gc (.bl false)))
 p7)
 p7)
 (v8 (ifD (ob (o2 (gv 6) (X5 v7) O2))
 (v8 (m5 (gN 8) (o2 (o2 (gv 5) (gc (.int 5)) d9) (oA (z9 (gv 6) v7) Y5) m8))
 (v8 (ifD (zv0 (G3 (ob (oA (z9 (gv 3) (z9 (o2 (U9 (gv 6) U8 (someO (gv 8))) (U9 (gv 6) (someO (o2 (gv 8) (gc (.int 1)) n8)) U8) n8) v7)) Z3))) (G3 (ob (oA (z9 (gv 3) (z9 (o2 (gv 6) (X5 (z9 (o2 (gv 6) (gv 8) ixD) v7)) n8) v7)) Z3))))
 (v8 (j6 (gc (.bl false)))
 p7)
 p7)
 p7))
 p7)
 p7)))))))
 (v8 (j6 (oA (z9 (gv 3) (z9 (X5 v7) v7)) Z3))
 p7))))))
def bj0:List Str:=["_law_script", "_law_turn", "_law_times", "_law_web_here", "_law_j", "_law_number", "_law_pairs_here", "_law_more", "_law_at"]
def vn0:List D->Option D:=mkF 1 bj0 in0
end Fa
namespace Fa
open DL W K22 Ta
theorem py0(hp:Web ps)(hir:∀p∈L,p.1<ps.length/\p.2<ps.length)(hl:L.length<=3000):tn0 (∀p∈L,up ps ps L p) (M7 [wd ps,.lst (L.map pN)]):=by
 have zs:(3000:Nat)<=sizeLine:=by decide
 have k:∀x,Fa.Q9 [wd ps,wd ps,.lst (L.map pN)]=some x->M7 [wd ps,.lst (L.map pN)]=some x:=λx hx =>
  j5 rfl (o8 (Z9 (by rw[m7 (ds:=[wd ps,wd ps,.lst (L.map pN)]) rfl];exact hx)))
 obtain⟨c1,c2⟩:=nv0 hp hp hir (by omega);exact⟨λz=>k _ (c1 z),λz=>k _ (c2 z)⟩
def F1:GS:=(v8 (zx0 (ye0 (gc (.bl true))) (y90 2 (gv 3)))
 p7)
theorem jf0(X Z:Sl)(ks:List (List T5))(vs:List D)(p:Nat×Nat)(m:Sl)(h:ks.length<sizeLine) :
  F1 [X,Z,.ow (.dct (.inr ks) vs),.sh (pN p),m]=some (.nx [X,Z,.ow (.dct (.inr (S9 ks (k2 p))) (M8 ks vs (k2 p) (.bl true))),.sh (pN p),m]):=by
 refine u9 (δ':=[X,Z,.ow (.dct (.inr (S9 ks (k2 p))) (M8 ks vs (k2 p) (.bl true))),.sh (pN p),m]) ?_ rfl;show Option.map Res.nx (y90 2 (gv 3) (.bl true) [X,Z,.ow (.dct (.inr ks) vs),.sh (pN p),m])=_;unfold y90;show Option.map Res.nx (if ks.length<sizeLine then some ([X,Z,.ow (.dct (.inr (S9 ks (k2 p))) (M8 ks vs (k2 p) (.bl true))),.sh (pN p),m]:Ds) else none)=_;rw[if_pos h];rfl
theorem kj0(ks:List (List T5))(k:List T5):(S9 ks k).length<=ks.length+1:=by
 unfold S9;split
 ·omega
 ·simp
theorem ic0(X Z:Sl)(m:Sl):∀(L:List (Nat×Nat)) (ks:List (List T5)) (vs:List D) (s3:Sl),ks.length+L.length<=4000 ->
  ∃ks' vs' t3,X8 (gN 3) F1 (L.map pN) [X,Z,.ow (.dct (.inr ks) vs),s3,m]=some (.nx [X,Z,.ow (.dct (.inr ks') vs'),t3,m])/\∀x,x∈ks'↔x∈ks∨∃p∈L,x=k2 p
 | [],ks,vs,s3,_=>⟨ks,vs,s3,rfl,λx=>by simp⟩
 | p::L,ks,vs,s3,h=>by
  have zs:(4000:Nat)<=sizeLine:=by decide
  rw[List.length_cons] at h;have hn:=kj0 ks (k2 p);obtain⟨ks',vs',t3,e,hm⟩:=ic0 X Z m L (S9 ks (k2 p)) (M8 ks vs (k2 p) (.bl true)) (.sh (pN p)) (by omega);refine⟨ks',vs',t3,?_,λx=>?_⟩
  ·rw[List.map_cons]
   conv=>lhs;unfold X8
   show (match F1 [X,Z,.ow (.dct (.inr ks) vs),.sh (pN p),m] with|some (.nx δ')=>X8 (gN 3) F1 (L.map pN) δ'|some (.ct δ')=>X8 (gN 3) F1 (L.map pN) δ'|some (.bk δ')=>some (.nx δ')|r=>r)=_;rw[jf0 X Z ks vs p m (by omega)];exact e
  ·rw[hm,sh0]
   simp only[List.mem_cons];constructor
   ·rintro ((h|h)|⟨q,hq,h⟩)
    ·exact .inl h
    ·exact .inr ⟨p,.inl rfl,h⟩
    ·exact .inr ⟨q,.inr hq,h⟩
   ·rintro (h|⟨q,rfl|hq,h⟩)
    ·exact .inl (.inl h)
    ·exact .inl (.inr h)
    ·exact .inr ⟨q,hq,h⟩
def F2:GS:=(v8 (m5 (gN 4) (oA (z9 (gv 0) (z9 (gv 0) (z9 (gv 3) v7))) Z4))
 (v8 (ifD (zv0 (ob (o2 (gv 4) (gc .non) wc0)) (ob (o2 (oA (z9 (V4 1 [2] (z90 (gv 4)) (gN 0) (ob (o2 (gv 0) (gv 1) (T6 true))) (gv 0)) v7) Y5) (gc (.int 0)) gtD)))
 (v8 (j6 (gc (.bl false)))
 p7)
 p7)
 p7))
theorem br0(hp:Web ps){d:D}(hd:Dc L d){p:Nat×Nat}(h1:p.1<ps.length)(h2:p.2<ps.length)(Z b9:Sl) :
  (up ps ps L p->∃s9,F2 [.sh (wd ps),Z,.sh d,.sh (pN p),b9]=some (.nx [.sh (wd ps),Z,.sh d,.sh (pN p),s9])) /\
  (¬up ps ps L p->F2 [.sh (wd ps),Z,.sh d,.sh (pN p),b9]=some (.rt (.bl false))):=by
 have zs:(1000:Nat)<=sizeLine:=by decide
 obtain⟨g1,g2⟩:=is0 hp hp h1 h2;have F:=eq0 (yf0 hp h1).2 (yf0 hp h2).2 L;have O:=(yf0 hp h1).2.few;have s9:∀x:D,Fa.Z4 [wd ps,wd ps,pN p]=some x->m5 (gN 4) (oA (z9 (gv 0) (z9 (gv 0) (z9 (gv 3) v7))) Z4) [.sh (wd ps),Z,.sh d,.sh (pN p),b9]=some (.nx [.sh (wd ps),Z,.sh d,.sh (pN p),.sh x]):=λx hx=>d8 (by
  rw[m7 (ds:=[wd ps,wd ps,pN p]) rfl];exact hx)
 unfold up
 by_cases hg:Pn.hd (pa ps p.1)=Pn.hd (pa ps p.2)/\(∀q∈(pa ps p.1).vals.zip (pa ps p.2).vals,nl q)
 ·have e:=g1 hg
  have J:(gl ((pa ps p.1).vals.zip (pa ps p.2).vals)).length<=12:=B7 (q30 _) (by rw[List.length_zip];omega);rw[F];generalize gl ((pa ps p.1).vals.zip (pa ps p.2).vals)=M at e J ⊢;have ht:zv0 (ob (o2 (gv 4) (gc .non) wc0)) (ob (o2 (oA (z9 (V4 1 [2] (z90 (gv 4)) (gN 0) (ob (o2 (gv 0) (gv 1) (T6 true))) (gv 0)) v7) Y5) (gc (.int 0)) gtD)) [.sh (wd ps),Z,.sh d,.sh (pN p),.sh (.lst (M.map pN))]=some (decide (0<(M.filter λp=>decide (p∉L)).length)):=by
   unfold zv0;rw[show ob (o2 (gv 4) (gc .non) wc0) [.sh (wd ps),Z,.sh d,.sh (pN p),.sh (.lst (M.map pN))]=some false from rfl,Option.bind_some,if_neg (by simp)];refine Bw.yb0 ?_;rw[o4 (x:=.int ((M.filter λp=>decide (p∉L)).length:Int)) (y:=.int 0) (by rw[mp0 (U7 (items:=M.map pN) rfl (by rw[List.length_map];omega) (rs0 hd M)),List.length_map]) rfl];show some (D.bl (decide ((0:Int)<((M.filter λp=>decide (p∉L)).length:Int))))=_;congr 2;rw[decide_eq_decide];omega
  have hz:(∀x∈M,x∈L)↔¬0<(M.filter λp=>decide (p∉L)).length:=by
   rw[Nat.not_lt,Nat.le_zero,List.length_eq_zero_iff,List.filter_eq_nil_iff];simp
  refine⟨λz=>⟨.sh (.lst (M.map pN)),?_⟩,λz=>?_⟩
  ·rw[decide_eq_false (hz.mp z.2.2)] at ht
   refine u9 (s9 _ e) (u9 (δ':=[.sh (wd ps),Z,.sh d,.sh (pN p),.sh (.lst (M.map pN))]) ?_ rfl);rw[Z2 ht];rfl
  ·have:0<(M.filter λp=>decide (p∉L)).length:=by
    by_cases q:0<(M.filter λp=>decide (p∉L)).length
    ·exact q
    ·exact absurd ⟨hg.1,hg.2,hz.mpr q⟩ z
   rw[decide_eq_true this] at ht;refine u9 (s9 _ e) (o8 ?_);rw[U0 ht];rfl
 ·have e:=g2 hg
  refine⟨λz=>absurd ⟨z.1,(F.mp z.2).1⟩ hg,λ_=>?_⟩;refine u9 (s9 _ e) (o8 ?_);rw[U0 (by rfl)];rfl
theorem lo0{p q:Nat×Nat}(e:pN p=pN q):p=q:=qv0 (by
 unfold pN at e;injection e with e
 injection e with e1 e
 injection e with e2 _
 injection e1 with e1
 injection e2 with e2
 unfold k2;rw[e1,e2])
theorem ef0(hp:Web ps)(hir:∀p∈L,p.1<ps.length/\p.2<ps.length)(hl:L.length<=3000):tn0 (∀p∈L,up ps ps L p) (K5 [wd ps,.lst (L.map pN)]):=by
 obtain⟨ks,vs,t3,e1,hm⟩:=ic0 (.sh (wd ps)) (.sh (.lst (L.map pN))) .un L [] [] .un (by simp only[List.length_nil];omega);have hd:Dc L (.dct (.inr ks) vs):=⟨ks,vs,rfl,λx=>by rw[hm];simp⟩;obtain⟨c1,c2⟩:=p10 (f:=gN 3) (G:=F2) (fun δ=>∃s8 s9:Sl,δ=[.sh (wd ps),.sh (.lst (L.map pN)),.sh (.dct (.inr ks) vs),s8,s9]) (λx=>∃p∈L,x=pN p/\up ps ps L p) (.bl false) (L.map pN) (λx hx δ hδ=>by
  obtain⟨s8,s9,rfl⟩:=hδ;obtain⟨p,F,rfl⟩:=A8.mp hx;obtain⟨i1,i2⟩:=hir p F;obtain⟨u1,u2⟩:=br0 hp hd i1 i2 (.sh (.lst (L.map pN))) s9;refine⟨_,rfl,λ⟨q,_,e,o⟩=>?_,λz=>u2 λo=>z ⟨p,F,rfl,o⟩⟩;have:=lo0 e;obtain⟨t,ht⟩:=u1 (this▸o);exact⟨_,ht,_,t,rfl⟩) [.sh (wd ps),.sh (.lst (L.map pN)),.sh (.dct (.inr ks) vs),t3,.un] ⟨_,_,rfl⟩
 have J:∀rest:GS,v8 (M5 2 (gc (.dct (.inr []) []))) (v8 (R7 (z90 (gv 1)) (gN 3) F1) rest) (W3 uu0 [wd ps,.lst (L.map pN)])=rest [.sh (wd ps),.sh (.lst (L.map pN)),.ow (.dct (.inr ks) vs),t3,.un]:=λrest =>
  u9 rfl (u9 (T7 (items:=L.map pN) rfl e1) rfl)
 refine⟨λz=>?_,λz=>?_⟩
 ·obtain⟨δ',f1,s8,s9,rfl⟩:=c1 λx hx=>by
   obtain⟨p,F,rfl⟩:=A8.mp hx;exact⟨p,F,rfl,z p F⟩
  refine j5 rfl ((J _).trans (u9 (δ':=[.sh (wd ps),.sh (.lst (L.map pN)),.sh (.dct (.inr ks) vs),s8,s9]) ?_ (o8 rfl)));exact T7 (δ:=[.sh (wd ps),.sh (.lst (L.map pN)),.sh (.dct (.inr ks) vs),t3,.un]) (items:=L.map pN) rfl f1
 ·have f2:=c2 λq=>z λp F=>by
   obtain⟨p',_,e,o⟩:=q _ (A8.mpr ⟨p,F,rfl⟩);exact(lo0 e)▸o
  refine j5 rfl ((J _).trans (o8 ?_));exact T7 (δ:=[.sh (wd ps),.sh (.lst (L.map pN)),.sh (.dct (.inr ks) vs),t3,.un]) (items:=L.map pN) rfl f2
theorem p40(hp:Web ps)(hir:∀p∈L,p.1<ps.length/\p.2<ps.length)(hl:L.length<=3000):Z3 [wd ps,.lst (L.map pN)]=some (.bl true):=by
 obtain⟨p1,p2⟩:=py0 hp hir hl;obtain⟨d1,d2⟩:=ef0 hp hir hl;obtain⟨b,F,J⟩:∃b,M7 [wd ps,.lst (L.map pN)]=some (.bl b)/\K5 [wd ps,.lst (L.map pN)]=some (.bl b):=by
  by_cases z:∀p∈L,up ps ps L p
  ·exact⟨true,p1 z,d1 z⟩
  ·exact⟨false,p2 z,d2 z⟩
 refine j5 rfl (u9 (d8 (d:=.lst (L.map pN)) rfl) (u9 (d8 (d:=.bl b) ?_) (o8 (Z9 ?_))))
 ·rw[m7 (ds:=[wd ps,.lst (L.map pN)]) rfl]
  exact F
 ·have e1:J8 (.bl b) (.bl b)=some (.bl true):=Pn.es0 (by simp[lean])
  have e2:J8 (.lst (L.map pN)) (.lst (L.map pN))=some (.bl true):=Pn.es0 (by show leans (L.map pN) 49=true;exact op0 L 48)
  change za0 (M9 isBool (gv 3)) (za0 (o2 (gv 3) (oA (z9 (gv 0) (z9 (gv 1) v7)) K5) J8) (o2 (gv 2) (gv 1) J8)) [.sh (wd ps),.sh (.lst (L.map pN)),.sh (.lst (L.map pN)),.sh (.bl b)]=_
  unfold za0;rw[show ob (M9 isBool (gv 3)) [.sh (wd ps),.sh (.lst (L.map pN)),.sh (.lst (L.map pN)),.sh (.bl b)]=some true from rfl,Option.bind_some,if_pos rfl];rw[Bw.yb0 (b:=true) (by rw[o4 (x:=.bl b) (y:=.bl b) rfl (by rw[m7 (ds:=[wd ps,.lst (L.map pN)]) rfl];exact J)];exact e1),Option.bind_some,if_pos rfl,o4 (x:=.lst (L.map pN)) (y:=.lst (L.map pN)) rfl rfl];exact e2
def ir(n:Nat)(L:List (Nat×Nat)):Prop:=∀p∈L,p.1<n/\p.2<n
def WT:DL.GB:=(ob (o2 (xr0 (oA (z9 (gv 4) v7) Y5)) (gc (.int 0)) gtD))
def WF:GS:=(v8 (ifD (t80 (ob (o2 (gv 6) (gv 3) (T6 true))))
 (v8 (zx0 (ye0 (gc (.bl true))) (y90 3 (gv 6)))
 (v8 (V2 (T9 4 (gv 6)))
 p7))
 p7)
 p7)
def WB:GS:=(v8 (zx0 (u80 0 1 (wt0 4) Z4) (gN 5))
 (v8 (ifD (ob (o2 (gv 5) (gc .non) wc0))
 (v8 (j6 (gc .non))
 p7)
 p7)
 (v8 (R7 (z90 (gv 5)) (gN 6)
 WF)
 p7)))
def ws(W P:D)(A V:List (Nat×Nat))(m f:Sl):Ds:=[.sh W,.sh W,.sh P,.ow (dT A),.ow (.lst (V.map pN)),m,f]
theorem b50(W P:D)(A V:List (Nat×Nat))(m f:Sl):WT (ws W P A V m f)=some (decide (0<V.length)):=by
 unfold WT ob;rw[o4 (x:=.int (V.length:Int)) (y:=.int 0) (by
  show some (D.int ((V.map pN).length:Int))=_;rw[List.length_map]) rfl]
 show some (decide ((0:Int)<(V.length:Int)))=_;congr 1;rw[decide_eq_decide];omega
theorem cr0(W P:D)(A V:List (Nat×Nat))(m:Sl)(q:Nat×Nat)(hA:A.length<=5000)(hV:V.length<=5000) :
  (q∈A->WF (ws W P A V m (.sh (pN q)))=some (.nx (ws W P A V m (.sh (pN q))))) /\
  (q∉A->WF (ws W P A V m (.sh (pN q)))=some (.nx (ws W P (A++[q]) (V++[q]) m (.sh (pN q))))):=by
 have zs:(9000:Nat)<=sizeLine:=by decide
 have ht:t80 (ob (o2 (gv 6) (gv 3) (T6 true))) (ws W P A V m (.sh (pN q)))=some (decide (q∉A)):=by
  show ob (o2 (gv 6) (gv 3) (T6 true)) [.sh W,.sh W,.sh P,.sh (dT A),.sh (.lst (V.map pN)),zs0 m,.sh (pN q)]=_;exact Bw.yb0 (by rw[o4 (x:=pN q) (y:=dT A) rfl rfl];exact ni0 (Z50 A) q)
 refine⟨λh=>?_,λh=>?_⟩
 ·rw[decide_eq_false (λz=>z h)] at ht
  refine u9 (δ':=ws W P A V m (.sh (pN q))) ?_ rfl;rw[Z2 ht];rfl
 ·rw[decide_eq_true h] at ht
  refine u9 (δ':=ws W P (A++[q]) (V++[q]) m (.sh (pN q))) ?_ rfl;rw[U0 ht];refine u9 (δ':=ws W P (A++[q]) V m (.sh (pN q))) ?_ (u9 (δ':=ws W P (A++[q]) (V++[q]) m (.sh (pN q))) ?_ rfl)
  ·show Option.map Res.nx (if (A.map k2).length<sizeLine then some ([.sh W,.sh W,.sh P,.ow (.dct (.inr (S9 (A.map k2) (k2 q))) (M8 (A.map k2) (tr A) (k2 q) (.bl true))),.ow (.lst (V.map pN)),m,.sh (pN q)]:Ds) else none)=_
   rw[if_pos (by rw[List.length_map];omega),(iv0 h).1,(iv0 h).2];rfl
  ·unfold V2 T9
   rw[show owL 4 (ws W P (A++[q]) V m (.sh (pN q)))=some (V.map pN) from rfl,Option.bind_some];show Option.map (λr:D×Ds=>Res.nx r.2) (if (V.map pN).length<sizeLine then some (D.non,([.sh W,.sh W,.sh P,.ow (dT (A++[q])),.ow (.lst (V.map pN++[pN q])),m,.sh (pN q)]:Ds)) else none)=_;rw[if_pos (by rw[List.length_map];omega)];show some (Res.nx [.sh W,.sh W,.sh P,.ow (dT (A++[q])),.ow (.lst (V.map pN++[pN q])),m,.sh (pN q)])=_;unfold ws;rw[List.map_append];rfl
theorem bx0{vs ws:List D}(hv:∀v∈vs,Lv n v)(hw:∀w∈ws,Lv n w):ir n (gl (vs.zip ws)):=λp hp=>by
 unfold gl at hp;obtain⟨q,hq,e⟩:=P3.mp hp;have h1:=hv q.1 (I0 hq).1;have h2:=hw q.2 (I0 hq).2;obtain⟨a,c⟩:=q;dsimp only at h1 h2;rcases h1 with rfl|⟨z,rfl⟩|⟨i,rfl,hi⟩
 ·cases e
 ·cases e
 ·rcases h2 with rfl|⟨z,rfl⟩|⟨j,rfl,hj⟩
  ·cases e
  ·cases e
  ·have e:some ((i:Int).toNat,(j:Int).toNat)=some p:=e
   cases e;exact⟨hi,hj⟩
theorem ti0(W P:D)(n:Nat)(m:Sl):∀(M A V:List (Nat×Nat)) (f:Sl),ir n M->ir n A->ir n V->A.Nodup->A.length+M.length<=5000->V.length+M.length<=5000 ->
  ∃A' V' f',X8 (gN 6) WF (M.map pN) (ws W P A V m f)=some (.nx (ws W P A' V' m f'))/\ir n A'/\ir n V'/\A'.Nodup/\A.length<=A'.length/\A'.length+V.length=A.length+V'.length
 | [],A,V,f,_,hA,hV,hn,_,_=>⟨A,V,f,rfl,hA,hV,hn,A4 _,rfl⟩
 | q::M,A,V,f,hM,hA,hV,hn,l1,l2=>by
  rw[List.length_cons] at l1 l2;obtain⟨w1,w2⟩:=cr0 W P A V m q (by omega) (by omega);have un:∀δ',WF (ws W P A V m (.sh (pN q)))=some (.nx δ')->X8 (gN 6) WF ((q::M).map pN) (ws W P A V m f)=X8 (gN 6) WF (M.map pN) δ':=fun δ' h=>by
   rw[List.map_cons]
   conv=>lhs;unfold X8
   show (match WF (ws W P A V m (.sh (pN q))) with|some (.nx δ')=>X8 (gN 6) WF (M.map pN) δ'|some (.ct δ')=>X8 (gN 6) WF (M.map pN) δ'|some (.bk δ')=>some (.nx δ')|r=>r)=_;rw[h]
  have F:ir n M:=λp hp=>hM p (B0 _ hp)
  have hq:=hM q A5
  by_cases h:q∈A
  ·obtain⟨A',V',f',e,r1,r2,r3,r4,r5⟩:=ti0 W P n m M A V (.sh (pN q)) F hA hV hn (by omega) (by omega)
   exact⟨A',V',f',(un _ (w1 h)).trans e,r1,r2,r3,r4,r5⟩
  ·have J:∀L:List (Nat×Nat),ir n L->ir n (L++[q]):=λL hL p hp=>by
    rcases B8.mp hp with hp|hp
    ·exact hL p hp
    ·rw[List.mem_singleton.mp hp];exact hq
   obtain⟨A',V',f',e,r1,r2,r3,r4,r5⟩:=ti0 W P n m M (A++[q]) (V++[q]) (.sh (pN q)) F (J A hA) (J V hV) (go0.mpr ⟨hn,h⟩) (by rw[List.length_append,List.length_singleton];omega) (by rw[List.length_append,List.length_singleton];omega);rw[List.length_append,List.length_singleton] at r4 r5;rw[List.length_append,List.length_singleton] at r5;exact⟨A',V',f',(un _ (w2 h)).trans e,r1,r2,r3,by omega,by omega⟩
theorem m80{A:List (Nat×Nat)}(h:A.Nodup)(hA:ir n A):A.length<=n*n:=by
 have h2:(A.map λp=>p.1*n+p.2).Nodup:=by
  refine Q2.mpr (h.imp_of_mem λ{p q} hp hq F z=>F ?_);have a1:=hA p hp;have a2:=hA q hq;have e1:p.1=q.1:=by
   have:=D1 (·/n) z;rw[Nat.add_comm,Nat.add_mul_div_right _ _ (by omega),Nat.div_eq_of_lt a1.2,Nat.add_comm (q.1*n),Nat.add_mul_div_right _ _ (by omega),Nat.div_eq_of_lt a2.2] at this;omega
  refine L7 e1 ?_;rw[e1] at z;omega
 have h3:(A.map λp=>p.1*n+p.2).length<=n*n:=by
  have sub:(A.map λp=>p.1*n+p.2) ⊆ List.range (n*n):=λx hx=>by
   obtain⟨p,hp,rfl⟩:=A8.mp hx;have:=hA p hp;rw[List.mem_range]
   calc p.1*n+p.2<p.1*n+n:=by omega
    _=(p.1+1)*n:=by rw[Nat.add_mul,Nat.one_mul]
    _<=n*n:=i0 n (by omega)
  have:=List.Nodup.length_le_of_subset h2 sub
  rwa [List.length_range] at this
 rwa [List.length_map] at h3
theorem bg0(hp:Web ps)(P:D){A V:List (Nat×Nat)}{q:Nat×Nat}(m f:Sl)(hA:ir ps.length A)(hV:ir ps.length V)(hq:q.1<ps.length/\q.2<ps.length)(hn:A.Nodup)(l1:A.length<=4000)(l2:V.length<=4000) :
  WB (ws (wd ps) P A (V++[q]) m f)=some (.rt .non)∨∃A' V' m' f',WB (ws (wd ps) P A (V++[q]) m f)=some (.nx (ws (wd ps) P A' V' m' f'))/\ir ps.length A'/\ir ps.length V'/\A'.Nodup/\A.length<=A'.length/\A'.length+V.length=A.length+V'.length:=by
 obtain⟨g1,g2⟩:=is0 hp hp hq.1 hq.2;have O:wt0 4 (ws (wd ps) P A (V++[q]) m f)=some (pN q,ws (wd ps) P A V m f):=by
  unfold wt0;rw[show owL 4 (ws (wd ps) P A (V++[q]) m f)=some ((V++[q]).map pN) from rfl,Option.bind_some,List.map_append,List.map_cons,List.map_nil];show Option.map _ ((V.map pN++[pN q]).getLast?)=_;rw[List.getLast?_concat,List.dropLast_concat];rfl
 have F:∀d:D,Fa.Z4 [wd ps,wd ps,pN q]=some d->zx0 (u80 0 1 (wt0 4) Z4) (gN 5) (ws (wd ps) P A (V++[q]) m f)=some (.nx (ws (wd ps) P A V (.sh d) f)):=λd hd=>by
  have e:u80 0 1 (wt0 4) Z4 (ws (wd ps) P A (V++[q]) m f)=some (d,ws (wd ps) P A V m f):=by
   unfold u80;rw[show gv 0 (ws (wd ps) P A (V++[q]) m f)=some (wd ps) from rfl,Option.bind_some,show gv 1 (ws (wd ps) P A (V++[q]) m f)=some (wd ps) from rfl,Option.bind_some,O,Option.bind_some];show Option.map _ (Z4 [wd ps,wd ps,pN q])=_;rw[show Z4 [wd ps,wd ps,pN q]=some d from hd];rfl
  unfold zx0;rw[e];rfl
 by_cases hg:Pn.hd (pa ps q.1)=Pn.hd (pa ps q.2)/\(∀x∈(pa ps q.1).vals.zip (pa ps q.2).vals,nl x)
 ·refine .inr ?_
  have a1:=(yf0 hp hq.1).2;have a2:=(yf0 hp hq.2).2;have hM:=bx0 a1.lv a2.lv;have J:(gl ((pa ps q.1).vals.zip (pa ps q.2).vals)).length<=12:=B7 (q30 _) (by rw[List.length_zip];have:=a1.few;omega);have e1:=F _ (g1 hg);generalize gl ((pa ps q.1).vals.zip (pa ps q.2).vals)=M at e1 hM J;obtain⟨A',V',f',e2,r1,r2,r3,r4,r5⟩:=ti0 (wd ps) P ps.length (.sh (.lst (M.map pN))) M A V f hM hA hV hn (by omega) (by omega);refine⟨A',V',_,f',u9 e1 (u9 (δ':=ws (wd ps) P A V (.sh (.lst (M.map pN))) f) ?_ (u9 (T7 (items:=M.map pN) rfl e2) rfl)),r1,r2,r3,r4,r5⟩;rw[Z2 (by rfl)];rfl
 ·refine .inl (u9 (F _ (g2 hg)) (o8 ?_))
  rw[U0 (by rfl)];rfl
theorem f60(hp:Web ps)(h40:ps.length<=40)(P:D):∀(f:Nat) (A V:List (Nat×Nat)) (m g:Sl),ir ps.length A->ir ps.length V->A.Nodup->V.length<=A.length->(ps.length*ps.length - A.length)+V.length<f ->
  zh0 WT WB f (ws (wd ps) P A V m g)=some (.rt .non)∨∃A' m' g',zh0 WT WB f (ws (wd ps) P A V m g)=some (.nx (ws (wd ps) P A' [] m' g'))/\ir ps.length A'/\A'.Nodup:=by
 intro f
 induction f with
 | zero=>intro A V m g _ _ _ _ h;omega
 | succ f ih =>
  intro A V m g hA hV hn hl h;have hz:=m80 hn hA;have J:ps.length*ps.length<=1600:=R1 h40 h40;unfold zh0;rw[b50]
  by_cases h0:0<V.length
  ·rw[decide_eq_true h0]
   obtain⟨V0,q,rfl⟩:∃V0 q,V=V0++[q]:=⟨V.dropLast,V.getLast (A50.mp h0),(List.dropLast_concat_getLast _).symm⟩;rw[List.length_append,List.length_singleton] at h hl;dsimp only;rcases bg0 hp P (q:=q) m g hA (λx hx=>hV x (G0 _ hx)) (hV q (by simp)) hn (by omega) (by omega) with e|⟨A',V',m',g',e,r1,r2,r3,r4,r5⟩
   ·rw[e];exact .inl rfl
   ·rw[e]
    have F:=m80 r3 r1;exact ih A' V' m' g' r1 r2 r3 (by omega) (by omega)
  ·rw[decide_eq_false h0]
   have:V=[]:=U2.mp (by omega);subst this;exact .inr ⟨A,m,g,rfl,hA,hn⟩
def c2(p:Nat×Nat):Int×Int:=((p.1:Int),(p.2:Int))
theorem bk0{A:List (Nat×Nat)}(h:A.Nodup):(A.map c2).Nodup:=Q2.mpr (h.imp λ{p q} F z=>F (by
 unfold c2 at z;injection z with z1 z2
 exact L7 (by omega) (by omega)))
theorem mt0{A:List (Nat×Nat)}(hA:ir n A):∃L,(SoT.srt (A.map c2)).map pD=L.map pN/\ir n L/\L.length=A.length:=by
 have hm:∀q∈SoT.srt (A.map c2),∃p∈A,q=c2 p:=λq hq=>by
  obtain⟨p,hp,e⟩:=A8.mp ((SoT.u40 _).mem_iff.mp hq);exact⟨p,hp,e.symm⟩
 refine⟨(SoT.srt (A.map c2)).map λq=>(q.1.toNat,q.2.toNat),?_,λp hp=>?_,by rw[List.length_map,(SoT.u40 _).length_eq,List.length_map]⟩
 ·rw[List.map_map]
  refine W1 λq hq=>?_
  obtain⟨p,hp,rfl⟩:=hm q hq;rfl
 ·obtain⟨q,hq,rfl⟩:=A8.mp hp
  obtain⟨p',F,rfl⟩:=hm q hq;exact hA p' F
theorem gd0(hp:Web ps)(h40:ps.length<=40){p:Nat×Nat}(hq:p.1<ps.length/\p.2<ps.length) :
  Q4 [wd ps,wd ps,pN p]=some .non∨∃L,ir ps.length L/\L.length<=1600/\Q4 [wd ps,wd ps,pN p]=some (.lst (L.map pN)):=by
 have J:ps.length*ps.length<=1600:=R1 h40 h40;have h1:ir ps.length [p]:=λx hx=>by rw[List.mem_singleton.mp hx];exact hq
 have F:∀rest:GS,v8 (M5 3 (up0 (gv 2) (gc (.bl true)))) (v8 (M5 4 (X5 (z9 (gv 2) v7))) rest) (W3 vx0 [wd ps,wd ps,pN p])=rest (ws (wd ps) (pN p) [p] [p] .un .un):=λrest=>rfl
 rcases f60 hp h40 (pN p) 100000 [p] [p] .un .un h1 h1 (P4.mpr ⟨by simp,List.nodup_nil⟩) (A4 _) (by simp only[List.length_singleton];omega) with e|⟨A,m,g,e,r1,r2⟩
 ·exact .inl (j5 rfl ((F _).trans (o8 e)))
 ·obtain⟨L,s1,s2,s3⟩:=mt0 r1
  refine .inr ⟨L,s2,by rw[s3];exact B7 (m80 r2 r1) J,j5 rfl ((F _).trans (u9 e (o8 (Z9 ?_))))⟩;show oA (z9 (oA (z9 (gv 3) v7) wz0) v7) wu0 [.sh (wd ps),.sh (wd ps),.sh (pN p),.sh (dT A),.sh (.lst []),zs0 m,zs0 g]=_;have e1:oA (z9 (gv 3) v7) wz0 [.sh (wd ps),.sh (wd ps),.sh (pN p),.sh (dT A),.sh (.lst []),zs0 m,zs0 g]=some (.lst ((A.map c2).map pD)):=by
   show some (D.lst ((A.map k2).map ktD))=_;rw[List.map_map,List.map_map];rfl
  rw[m7 (ds:=[.lst ((A.map c2).map pD)]) (cons_of e1 rfl),jx0 (bk0 r2),s1]
theorem J4(ns:List Int)(k:Int)(h0:0<=k):∃z,j7 [.lst (ns.map .int),.int k]=some (.int z):=Gw.J4 ns k h0
theorem tb0(c t:Int):∃nm,J6 [.int c,.int t]=some (.lst (nm.map .str))/\Gw.Pool nm:=Gw.tb0 c t
theorem xb0(c k:Int)(hk:0<=k/\k<=1000000):∃x,0<=x/\x<2147483647/\X6 [.int c,.int k]=some (.int x):=Gw.xb0 c k hk
theorem rj0(cs:List Int)(hc:0<cs.length/\cs.length<=1000)(m:Nat)(hm:0<m/\m<=1000)(nm:List Str)(hp:Gw.Pool nm) :
  ∃ps:List Pt,z30 [.lst (cs.map .int),.int (m:Int),.lst (nm.map .str)]=some (.tup (ps.map Pt.d))/\ps.length=m/\∀p∈ps,Gw.Gd p (m:Int) nm:=Gw.rj0 cs hc m hm nm hp
theorem xw0(h:Web qs)(x:Int):∃rs,S5 [wd qs,.int x]=some (wd rs)/\Web rs/\rs.length=qs.length:=Ta.xw0 h x
theorem b70(p:Pt)(h:p.few)(vs:List D)(hl:vs.length=p.vals.length):W8 [p.d,.lst vs]=some (Pn.put p vs).d:=Gw.oj0 p h vs (.inl hl)
theorem jy0(ns:List Int)(hl:ns.length<=63):∃ps,G7 [.lst (ns.map .int),.int 8]=some (wd ps)/\Web ps/\ps.length<=8:=by
 have z:(1000:Nat)<=sizeLine:=by decide
 obtain⟨c0,h0⟩:=J4 ns 0 (by decide);obtain⟨c1,h1⟩:=J4 ns 1 (by decide);obtain⟨t,ht⟩:=J4 ns 2 (by decide);obtain⟨c3,h3⟩:=J4 ns 3 (by decide);obtain⟨nm,S,J⟩:=tb0 c0 c1;obtain⟨m,hm,M⟩:∃m:Nat,(0<m/\m<=8)/\∀s4:Sl,o2 (gc (.int 1)) (o2 (gv 3) (gv 1) m8) n8 [.sh (.lst (ns.map .int)),.sh (.int 8),.sh (.lst (nm.map .str)),.sh (.int t),s4]=some (.int (m:Int)):=by
  refine⟨(1+t%8).toNat,by omega,λs4=>?_⟩;have e:(((1+t%8).toNat:Nat):Int)=1+t%8:=by omega
  rw[e,o4 (x:=.int 1) (y:=.int (t%8)) rfl (by
   rw[o4 (x:=.int t) (y:=.int 8) rfl rfl];exact Gw.N5 _ _ (by decide))]
  rfl
 obtain⟨cs,Y,O⟩:∃cs:List Int,(0<cs.length/\cs.length<=1000)/\o2 (U9 (gv 0) (someO (gc (.int 9))) (someO (gc (.int 60)))) (X5 (z9 (oA (z9 (gv 0) (z9 (gc (.int 3)) v7)) j7) v7)) n8 [.sh (.lst (ns.map .int)),.sh (.int 8),.sh (.lst (nm.map .str)),.sh (.int t),.sh (.int (m:Int))]=some (.lst (cs.map .int)):=by
  obtain⟨us,hu,Z⟩:∃us:List Int,us.length<=63/\cutD (ns.map D.int) (some 9) (some 60)=us.map .int:=by
   refine⟨(ns.drop (sIx (ns.map D.int).length 0 (some 9))).take (sIx (ns.map D.int).length (ns.map D.int).length (some 60) - sIx (ns.map D.int).length 0 (some 9)),?_,?_⟩
   ·rw[List.length_take,List.length_drop];omega
   ·unfold cutD
    rw[List.map_take,List.map_drop]
  refine⟨us++[c3],by simp;omega,?_⟩;rw[o4 (x:=.lst (us.map .int)) (y:=.lst [.int c3]) (by rw[← Z];rfl) (y60 (cons_of (by rw[m7 (ds:=[.lst (ns.map .int),.int 3]) rfl];exact h3) rfl) (by show (1:Nat)<=_;omega))];simp only[n8];rw[if_pos (by rw[List.length_map];show us.length+1<=_;omega),List.map_append];rfl
 obtain⟨ps,U,F,hg⟩:=rj0 cs Y m ⟨hm.1,by omega⟩ nm J;refine⟨ps,j5 rfl (u9 (d8 (d:=.lst (nm.map .str)) ?_) (u9 (d8 (d:=.int t) ?_) (u9 (d8 (M _)) (o8 (Z9 ?_))))),⟨by rw[F];omega,λp hp=>by rw[F];exact cm0 (hg p hp)⟩,by rw[F];exact hm.2⟩
 ·rw[m7 (ds:=[.int c0,.int c1]) (cons_of (by rw[m7 (ds:=[.lst (ns.map .int),.int 0]) rfl];exact h0) (cons_of (by rw[m7 (ds:=[.lst (ns.map .int),.int 1]) rfl];exact h1) rfl))]
  exact S
 ·rw[m7 (ds:=[.lst (ns.map .int),.int 2]) rfl]
  exact ht
 ·rw[m7 (ds:=[.lst (cs.map .int),.int (m:Int),.lst (nm.map .str)]) (cons_of (by exact O) rfl)]
  exact U
def UV:GS:=(v8 (m5 (gN 7) (o2 (o2 (gv 7) (gc (.int 48271)) W9) (gc (.int 2147483647)) m8))
 (v8 (ifD (ob (M9 isTup (gv 8)))
 (v8 (m5 (gN 8) (Y6 (z9 (gc (.str "at")) (z9 (o2 (o2 (o2 (gv 8) (gc (.int 1)) ixD) (gv 1) W9) (o2 (gv 7) (gv 1) m8) n8) v7))))
 p7)
 p7)
 (v8 (V2 (T9 6 (gv 8)))
 p7)))
def uS(W:D)(T:Nat)(C Ps K Tn:Sl)(us:List D)(z:Int)(s8:Sl):Ds:=[.sh W,.sh (.int (T:Int)),C,Ps,K,Tn,.ow (.lst us),.sh (.int z),s8]
theorem be0(W:D)(hT:0<T/\T<=4)(hn:n<=60)(C Ps K Tn:Sl)(us:List D)(z:Int){v:D}(hv:Lv n v)(hl:us.length<=100) :
  ∃z' v',UV (uS W T C Ps K Tn us z (.sh v))=some (.nx (uS W T C Ps K Tn (us++[v']) z' (.sh v')))/\Lv (n*T) v':=by
 have zs:(1000:Nat)<=sizeLine:=by decide
 have e7:∀s8,o2 (o2 (gv 7) (gc (.int 48271)) W9) (gc (.int 2147483647)) m8 (uS W T C Ps K Tn us z s8)=some (.int (z*48271%2147483647)):=λs8=>by
  rw[o4 (x:=.int (z*48271)) (y:=.int 2147483647) (by rw[o4 (x:=.int z) (y:=.int 48271) rfl rfl];exact Gw.mul_r _ _ (by decide)) rfl];exact Gw.N5 _ _ (by decide)
 have app:∀(z':Int) (v':D),V2 (T9 6 (gv 8)) (uS W T C Ps K Tn us z' (.sh v'))=some (.nx (uS W T C Ps K Tn (us++[v']) z' (.sh v'))):=λz' v'=>by
  unfold V2 T9;rw[show owL 6 (uS W T C Ps K Tn us z' (.sh v'))=some us from rfl,Option.bind_some];show Option.map (λr:D×Ds=>Res.nx r.2) (if us.length<sizeLine then some (D.non,([.sh W,.sh (.int (T:Int)),C,Ps,K,Tn,.ow (.lst (us++[v'])),.sh (.int z'),.sh v']:Ds)) else none)=_;rw[if_pos (by omega)];rfl
 have plain:isTup v=false->UV (uS W T C Ps K Tn us z (.sh v))=some (.nx (uS W T C Ps K Tn (us++[v]) (z*48271%2147483647) (.sh v))):=λhi=>by
  refine u9 (δ':=uS W T C Ps K Tn us (z*48271%2147483647) (.sh v)) (d8 (e7 _)) (u9 (δ':=uS W T C Ps K Tn us (z*48271%2147483647) (.sh v)) ?_ (u9 (app _ _) rfl));rw[Z2 (show ob (M9 isTup (gv 8)) (uS W T C Ps K Tn us (z*48271%2147483647) (.sh v))=some false from by
   show some (isTup v)=_;rw[hi])]
  rfl
 rcases hv with rfl|⟨i,rfl⟩|⟨j,rfl,hj⟩
 ·exact⟨_,_,plain rfl,.inl rfl⟩
 ·exact⟨_,_,plain rfl,.inr (.inl ⟨i,rfl⟩)⟩
 ·obtain⟨w,hw⟩:∃w,w=z*48271%2147483647:=⟨_,rfl⟩
  have b1:0<=w%(T:Int):=C9 _ (by omega);have b2:w%(T:Int)<T:=D0 _ (by omega);obtain⟨r,hr⟩:∃r:Nat,w%(T:Int)=(r:Int):=⟨(w%(T:Int)).toNat,by omega⟩;have F:j*T+r<n*T:=by
   calc j*T+r<j*T+T:=by omega
    _=(j+1)*T:=by rw[Nat.add_mul,Nat.one_mul]
    _<=n*T:=i0 T (by omega)
  refine⟨w,.tup [.str "at",.int ((j*T+r:Nat):Int)],u9 (δ':=uS W T C Ps K Tn us w (.sh (.tup [.str "at",.int (j:Int)]))) (by rw[hw];exact d8 (e7 _)) (u9 (δ':=uS W T C Ps K Tn us w (.sh (.tup [.str "at",.int ((j*T+r:Nat):Int)]))) ?_ (u9 (app _ _) rfl)),.inr (.inr ⟨_,rfl,F⟩)⟩;rw[U0 (show ob (M9 isTup (gv 8)) (uS W T C Ps K Tn us w (.sh (.tup [.str "at",.int (j:Int)])))=some true from rfl)];refine u9 (δ':=uS W T C Ps K Tn us w (.sh (.tup [.str "at",.int ((j*T+r:Nat):Int)]))) (d8 ?_) rfl;have M:(n:Int)<=60:=by omega
  have J:(j:Int)<2 ^ 64:=by omega
  refine W5 (cons_of rfl (cons_of ?_ rfl)) (by show 2<=sizeLine;omega);rw[o4 (x:=.int ((j:Int)*(T:Int))) (y:=.int (r:Int)) (by
   rw[o4 (x:=.int (j:Int)) (y:=.int (T:Int)) rfl rfl];exact Gw.nl0 _ _ ⟨by omega,J⟩) (by
   rw[o4 (x:=.int w) (y:=.int (T:Int)) rfl rfl,Gw.N5 _ _ (by omega),hr])]
  show some (D.int ((j:Int)*(T:Int)+(r:Int)))=_;rw[Int.natCast_add,Int.natCast_mul]
theorem i30(h:∀d∈l,tree d=true):trees l=true:=by
 induction l with
 | nil=>unfold trees;rfl
 | cons d l ih =>
  unfold trees;rw[h d A5,ih λe he=>h e (B0 _ he)];rfl
theorem G9(h:∀d∈l,tree d=true):tree (.tup l)=true:=by unfold tree;exact i30 h
theorem zz0(s:Str):tree (.str s)=true:=by unfold tree;rfl
theorem fl0{v:D}(h:Lv n v):tree v=true:=by
 rcases h with rfl|⟨i,rfl⟩|⟨i,rfl,_⟩
 ·unfold tree;rfl
 ·unfold tree;rfl
 ·exact G9 λd hd=>by
   simp only[List.mem_cons,List.not_mem_nil,or_false] at hd;rcases hd with rfl|rfl<;>(unfold tree;rfl)
theorem fg0(p:Pt)(h:∀v∈p.vals,tree v=true):tree p.d=true:=by
 have F:∀ps:List (Str×D),(∀v∈ps.map (·.2),tree v=true)->tree (.tup (ps.map pr))=true:=λps hv=>G9 λd hd=>by
  obtain⟨q,hq,rfl⟩:=A8.mp hd;refine G9 λe he=>?_
  simp only[List.mem_cons,List.not_mem_nil,or_false] at he;rcases he with rfl|rfl
  ·exact zz0 _
  ·exact hv q.2 (A8.mpr ⟨q,hq,rfl⟩)
 cases p with
 | text w=>exact G9 λd hd=>by simp only[List.mem_cons,List.not_mem_nil,or_false] at hd;rcases hd with rfl|rfl<;>exact zz0 _
 | row vs =>
   refine G9 λd hd=>?_
   simp only[List.mem_cons,List.not_mem_nil,or_false] at hd;rcases hd with rfl|rfl
   ·exact zz0 _
   ·exact G9 λv hv=>(h v hv)
 | table ps =>
   refine G9 λd hd=>?_
   simp only[List.mem_cons,List.not_mem_nil,or_false] at hd;rcases hd with rfl|rfl
   ·exact zz0 _
   ·exact F ps h
 | rcd c ps =>
   refine G9 λd hd=>?_
   simp only[List.mem_cons,List.not_mem_nil,or_false] at hd;rcases hd with rfl|rfl|rfl
   ·exact zz0 _
   ·exact zz0 _
   ·exact F ps h
theorem g60(W:D)(hT:0<T/\T<=4)(hn:n<=60)(C Ps K Tn:Sl)(z:Int)(s8:Sl)(vs:List D)(hv:∀v∈vs,Lv n v)(hl:vs.length<=12) :
  ∃us z' t8,X8 (gN 8) UV vs (uS W T C Ps K Tn [] z s8)=some (.nx (uS W T C Ps K Tn us z' t8))/\us.length=vs.length/\∀u∈us,Lv (n*T) u:=by
 obtain⟨δ',e,us,z',t8,rfl,h1,h2⟩:=Q8 (f:=gN 8) (G:=UV) (λi δ=>∃us z t8,δ=uS W T C Ps K Tn us z t8/\us.length=i/\∀u∈us,Lv (n*T) u) vs 0 (uS W T C Ps K Tn [] z s8) (by
  rintro j d δ hj ⟨us,z,t8,rfl,h1,h2⟩;have F:j<vs.length:=(H0.mp hj).1;obtain⟨z',v',e,h3⟩:=be0 W hT hn C Ps K Tn us z (hv d (o0 hj)) (by omega);refine⟨_,_,rfl,e,us++[v'],z',_,rfl,by rw[List.length_append,List.length_singleton,h1],λu hu=>?_⟩;rcases B8.mp hu with hu|hu
  ·exact h2 u hu
  ·rw[List.mem_singleton.mp hu];exact h3) ⟨[],z,s8,rfl,rfl,λu hu=>by cases hu⟩
 exact⟨us,z',t8,e,by omega,h2⟩
def UT:GS:=(v8 (M5 6 (X5 v7))
 (v8 (m5 (gN 7) (oA (z9 (o2 (gv 2) (o2 (gv 5) (gv 5) W9) n8) (z9 (o2 (gv 4) (gc (.int 31)) n8) v7)) X6))
 (v8 (R7 (z90 (oA (z9 (o2 (gv 0) (gv 4) ixD) v7) Z6)) (gN 8)
 UV)
 (v8 (V2 (T9 3 (ue0 (oA (z9 (o2 (gv 0) (gv 4) ixD) (z9 (gv 6) v7)) W8))))
 p7))))
def tS(W:D)(T:Nat)(c:Int)(Ps:List Pt)(k t:Nat)(s6 s7 s8:Sl):Ds:=[.sh W,.sh (.int (T:Int)),.sh (.int c),.ow (.lst (Ps.map Pt.d)),.sh (.int (k:Int)),.sh (.int (t:Int)),s6,s7,s8]
theorem bv0(hp:Web ps)(hT:0<T/\T<=4)(c:Int)(Ps:List Pt){k t:Nat}(hk:k<ps.length)(ht:t<T)(hl:Ps.length<=500)(s6 s7 s8:Sl) :
  ∃p t6 t7 t8,UT (tS (wd ps) T c Ps k t s6 s7 s8)=some (.nx (tS (wd ps) T c (Ps++[p]) k t t6 t7 t8))/\Pw (ps.length*T) p:=by
 have zs:(1000:Nat)<=sizeLine:=by decide
 have F:=hp.len;obtain⟨hx,_,pw⟩:=hp.at hk;obtain⟨z,_,_,hz⟩:=xb0 (c+(t:Int)*(t:Int)) ((k:Int)+31) (by omega);obtain⟨us,z',t8,e,h1,h2⟩:=g60 (wd ps) hT F.2 (.sh (.int c)) (.ow (.lst (Ps.map Pt.d))) (.sh (.int (k:Int))) (.sh (.int (t:Int))) z s8 ps[k].vals pw.lv pw.few;have q1:=ro0 ps[k] us h1;refine⟨Pn.put ps[k] us,.ow (.lst us),.sh (.int z'),t8,?_,⟨by rw[q1,h1];exact pw.few,by rw[q1];exact h2⟩⟩;refine u9 (δ':=tS (wd ps) T c Ps k t (.ow (.lst [])) s7 s8) rfl (u9 (δ':=uS (wd ps) T (.sh (.int c)) (.ow (.lst (Ps.map Pt.d))) (.sh (.int (k:Int))) (.sh (.int (t:Int))) [] z s8) (d8 (d:=.int z) ?_) (u9 (T7 (items:=ps[k].vals) ?_ e) (u9 (δ':=tS (wd ps) T c (Ps++[Pn.put ps[k] us]) k t (.ow (.lst us)) (.sh (.int z')) t8) ?_ rfl)))
 ·rw[m7 (ds:=[.int (c+(t:Int)*(t:Int)),.int ((k:Int)+31)]) (cons_of (by
   rw[o4 (x:=.int c) (y:=.int ((t:Int)*(t:Int))) rfl (by
    rw[o4 (x:=.int (t:Int)) (y:=.int (t:Int)) rfl rfl];exact Gw.nl0 _ _ (by omega))]
   rfl) (cons_of rfl rfl))]
  exact hz
 ·show (oA (z9 (o2 (gv 0) (gv 4) ixD) v7) Z6 _).bind _=_
  rw[m7 (ds:=[ps[k].d]) (cons_of (by rw[o4 (x:=wd ps) (y:=.int (k:Int)) rfl rfl];exact hx) rfl),show Z6 [ps[k].d]=some (.lst ps[k].vals) from Gw.na0 _ pw.f];rfl
 ·have eb:ue0 (oA (z9 (o2 (gv 0) (gv 4) ixD) (z9 (gv 6) v7)) W8) (uS (wd ps) T (.sh (.int c)) (.ow (.lst (Ps.map Pt.d))) (.sh (.int (k:Int))) (.sh (.int (t:Int))) us z' t8)=some (Pn.put ps[k] us).d:=by
   refine h80 ?_ (fg0 _ (by rw[q1];exact λv hv=>fl0 (h2 v hv)));rw[m7 (ds:=[ps[k].d,.lst us]) (cons_of (by rw[o4 (x:=wd ps) (y:=.int (k:Int)) rfl rfl];exact hx) rfl)];exact b70 _ pw.f us h1
  unfold V2 T9;rw[show owL 3 (uS (wd ps) T (.sh (.int c)) (.ow (.lst (Ps.map Pt.d))) (.sh (.int (k:Int))) (.sh (.int (t:Int))) us z' t8)=some (Ps.map Pt.d) from rfl,Option.bind_some,eb];show Option.map (λr:D×Ds=>Res.nx r.2) (if (Ps.map Pt.d).length<sizeLine then some (D.non,([.sh (wd ps),.sh (.int (T:Int)),.sh (.int c),.ow (.lst (Ps.map Pt.d++[(Pn.put ps[k] us).d])),.sh (.int (k:Int)),.sh (.int (t:Int)),.ow (.lst us),.sh (.int z'),t8]:Ds)) else none)=_;rw[if_pos (by rw[List.length_map];omega)];show some (Res.nx [.sh (wd ps),.sh (.int (T:Int)),.sh (.int c),.ow (.lst (Ps.map Pt.d++[(Pn.put ps[k] us).d])),.sh (.int (k:Int)),.sh (.int (t:Int)),.ow (.lst us),.sh (.int z'),t8])=_;unfold tS;rw[List.map_append];rfl
def tR(W:D)(T:Nat)(c:Int)(Ps:List Pt)(s4 s5 s6 s7 s8:Sl):Ds:=[.sh W,.sh (.int (T:Int)),.sh (.int c),.ow (.lst (Ps.map Pt.d)),s4,s5,s6,s7,s8]
theorem ba0(hp:Web ps)(hT:0<T/\T<=4)(c:Int)(Ps:List Pt){k:Nat}(hk:k<ps.length)(hl:Ps.length<=400)(hw:∀p∈Ps,Pw (ps.length*T) p)(s5 s6 s7 s8:Sl) :
  ∃Ps' t5 t6 t7 t8,X8 (gN 5) UT (Y4 0 (T:Int)) (tR (wd ps) T c Ps (.sh (.int (k:Int))) s5 s6 s7 s8)=some (.nx (tR (wd ps) T c Ps' (.sh (.int (k:Int))) t5 t6 t7 t8))/\Ps'.length=Ps.length+T/\∀p∈Ps',Pw (ps.length*T) p:=by
 have F:(Y4 0 (T:Int)).length=T:=by rw[G4,List.length_map,List.length_range']
 obtain⟨δ',e,Ps',t5,t6,t7,t8,rfl,h1,h2⟩:=Q8 (f:=gN 5) (G:=UT) (λi δ=>∃Ps' t5 t6 t7 t8,δ=tR (wd ps) T c Ps' (.sh (.int (k:Int))) t5 t6 t7 t8/\Ps'.length=Ps.length+i/\∀p∈Ps',Pw (ps.length*T) p) (Y4 0 (T:Int)) 0 (tR (wd ps) T c Ps (.sh (.int (k:Int))) s5 s6 s7 s8) (by
  rintro j d δ hj ⟨Ps',t5,t6,t7,t8,rfl,h1,h2⟩;obtain⟨J,rfl⟩:=z70 hj;obtain⟨p,u6,u7,u8,e,h3⟩:=bv0 hp hT c Ps' hk (t:=j) (by omega) (by omega) t6 t7 t8;refine⟨_,_,rfl,e,Ps'++[p],_,u6,u7,u8,rfl,by rw[List.length_append,List.length_singleton];omega,λx hx=>?_⟩;rcases B8.mp hx with hx|hx
  ·exact h2 x hx
  ·rw[List.mem_singleton.mp hx];exact h3) ⟨Ps,s5,s6,s7,s8,rfl,rfl,hw⟩
 exact⟨Ps',t5,t6,t7,t8,e,by rw[F] at h1;omega,h2⟩
def UK:GS:=(v8 (R7 (V8 (z9 (gv 1) v7)) (gN 5)
 UT)
 p7)
theorem l30(hp:Web ps)(h8:ps.length<=8)(hT:0<T/\T<=4)(c:Int):∃qs,J2 [wd ps,.int (T:Int),.int c]=some (wd qs)/\Web qs/\qs.length<=32/\T ∣ qs.length:=by
 have zs:(1000:Nat)<=sizeLine:=by decide
 have S:=hp.len;have O:(Y4 0 (ps.length:Int)).length=ps.length:=by rw[G4,List.length_map,List.length_range']
 have M:ps.length*T<=32:=R1 h8 hT.2;have Y:0<ps.length*T:=Nat.mul_pos S.1 hT.1;obtain⟨δ',e,F,t4,t5,t6,t7,t8,rfl,h1,h2⟩:=Q8 (f:=gN 4) (G:=UK) (λi δ=>∃F t4 t5 t6 t7 t8,δ=tR (wd ps) T c F t4 t5 t6 t7 t8/\F.length=i*T/\∀p∈F,Pw (ps.length*T) p) (Y4 0 (ps.length:Int)) 0 (tR (wd ps) T c [] .un .un .un .un .un) (by
  rintro j d δ hj ⟨F,t4,t5,t6,t7,t8,rfl,h1,h2⟩;obtain⟨a0,rfl⟩:=z70 hj;have J:j<ps.length:=by omega
  have Z:j*T<=32:=B7 (i0 T (S1 J)) M;rw[Nat.zero_add] at h1;obtain⟨Q,u5,u6,u7,u8,e,h3,h4⟩:=ba0 hp hT c F J (by omega) h2 t5 t6 t7 t8;refine⟨_,_,rfl,u9 (T7 (items:=Y4 0 (T:Int)) (Q6 (n:=(T:Int)) rfl (by omega) (by omega)) e) rfl,Q,_,u5,u6,u7,u8,rfl,?_,h4⟩;rw[h3,h1,Nat.zero_add,Nat.add_mul,Nat.one_mul]) ⟨[],.un,.un,.un,.un,.un,rfl,(by simp),λp U=>by cases U⟩
 rw[Nat.zero_add,O] at h1;refine⟨F,j5 rfl (u9 (δ':=tR (wd ps) T c [] .un .un .un .un .un) rfl (u9 (T7 (items:=Y4 0 (ps.length:Int)) (Q6 (n:=(ps.length:Int)) (cons_of (y50 ps _ rfl) rfl) (by omega) (by omega)) e) (o8 (Z9 ?_)))),⟨by omega,by rw[h1];exact h2⟩,by omega,by rw[h1];exact Nat.dvd_mul_left T _⟩;rfl
def AB:GS:=(v8 (V2 (T9 2 (Y6 (z9 (gv 3) (z9 (o2 (o2 (o2 (gv 3) (gv 1) d9) (gv 1) W9) (gv 4) n8) v7)))))
 p7)
def aS(n T:Nat)(L:List (Nat×Nat))(s3 s4:Sl):Ds:=[.sh (.int (n:Int)),.sh (.int (T:Int)),.ow (.lst (L.map pN)),s3,s4]
theorem b00(n T:Nat)(hT:0<T/\T<=4)(L:List (Nat×Nat))(k t:Nat)(hk:k<=100)(hl:L.length<=500) :
  AB (aS n T L (.sh (.int (k:Int))) (.sh (.int (t:Int))))=some (.nx (aS n T (L++[(k,k/T*T+t)]) (.sh (.int (k:Int))) (.sh (.int (t:Int))))):=by
 have zs:(1000:Nat)<=sizeLine:=by decide
 have e:Y6 (z9 (gv 3) (z9 (o2 (o2 (o2 (gv 3) (gv 1) d9) (gv 1) W9) (gv 4) n8) v7)) (aS n T L (.sh (.int (k:Int))) (.sh (.int (t:Int))))=some (pN (k,k/T*T+t)):=by
  refine W5 (cons_of rfl (cons_of ?_ rfl)) (by show 2<=sizeLine;omega);rw[o4 (x:=.int (((k/T*T:Nat)):Int)) (y:=.int (t:Int)) (by
   rw[o4 (x:=.int ((k/T:Nat):Int)) (y:=.int (T:Int)) (by
    rw[o4 (x:=.int (k:Int)) (y:=.int (T:Int)) rfl rfl,Gw.y20 _ _ (by omega)];rfl) rfl,Gw.mul_r _ _ (by omega),Int.natCast_mul]) rfl]
  show some (D.int (((k/T*T:Nat):Int)+(t:Int)))=_;rw[← Int.natCast_add]
 refine u9 (δ':=aS n T (L++[(k,k/T*T+t)]) (.sh (.int (k:Int))) (.sh (.int (t:Int)))) ?_ rfl;unfold V2 T9;rw[show owL 2 (aS n T L (.sh (.int (k:Int))) (.sh (.int (t:Int))))=some (L.map pN) from rfl,Option.bind_some,e];show Option.map (λr:D×Ds=>Res.nx r.2) (if (L.map pN).length<sizeLine then some (D.non,([.sh (.int (n:Int)),.sh (.int (T:Int)),.ow (.lst (L.map pN++[pN (k,k/T*T+t)])),.sh (.int (k:Int)),.sh (.int (t:Int))]:Ds)) else none)=_;rw[if_pos (by rw[List.length_map];omega)];show some (Res.nx [.sh (.int (n:Int)),.sh (.int (T:Int)),.ow (.lst (L.map pN++[pN (k,k/T*T+t)])),.sh (.int (k:Int)),.sh (.int (t:Int))])=_;unfold aS;rw[List.map_append];rfl
theorem fy0{k t:Nat}(hd:T ∣ n)(hk:k<n)(ht:t<T):k/T*T+t<n:=by
 obtain⟨m,rfl⟩:=hd;have:k/T<m:=Nat.div_lt_of_lt_mul hk
 calc k/T*T+t<k/T*T+T:=by omega
  _=(k/T+1)*T:=by rw[Nat.add_mul,Nat.one_mul]
  _<=m*T:=i0 T (by omega)
  _=T*m:=Nat.mul_comm _ _
theorem o70(n T:Nat)(hn:0<n/\n<=32)(hT:0<T/\T<=4)(hd:T ∣ n):∃L,O9 [.int (n:Int),.int (T:Int)]=some (.lst (L.map pN))/\ir n L/\L.length<=200:=by
 have J:(Y4 0 (T:Int)).length=T:=by rw[G4,List.length_map,List.length_range']
 have M:(Y4 0 (n:Int)).length=n:=by rw[G4,List.length_map,List.length_range']
 have F:∀(L:List (Nat×Nat)) (k:Nat) (s4:Sl),k<n->L.length<=400->ir n L->∃L' t4,X8 (gN 4) AB (Y4 0 (T:Int)) (aS n T L (.sh (.int (k:Int))) s4)=some (.nx (aS n T L' (.sh (.int (k:Int))) t4))/\ir n L'/\L'.length=L.length+T:=λL k s4 hk hl hi=>by
  obtain⟨δ',e,L',t4,rfl,h1,h2⟩:=Q8 (f:=gN 4) (G:=AB) (λi δ=>∃L' t4,δ=aS n T L' (.sh (.int (k:Int))) t4/\L'.length=L.length+i/\ir n L') (Y4 0 (T:Int)) 0 (aS n T L (.sh (.int (k:Int))) s4) (by
   rintro j d δ hj ⟨L',t4,rfl,h1,h2⟩;obtain⟨S,rfl⟩:=z70 hj;refine⟨_,_,rfl,b00 n T hT L' k j (by omega) (by omega),_,_,rfl,by rw[List.length_append,List.length_singleton];omega,λp hp=>?_⟩;rcases B8.mp hp with hp|hp
   ·exact h2 p hp
   ·rw[List.mem_singleton.mp hp];exact⟨hk,fy0 hd hk (by omega)⟩) ⟨L,s4,rfl,rfl,hi⟩
  exact⟨L',t4,e,h2,by rw[J] at h1;omega⟩
 obtain⟨δ',e,L,t3,t4,rfl,h1,h2⟩:=Q8 (f:=gN 3) (G:=(v8 (R7 (V8 (z9 (gv 1) v7)) (gN 4) AB) p7)) (λi δ=>∃L t3 t4,δ=aS n T L t3 t4/\L.length=i*T/\ir n L) (Y4 0 (n:Int)) 0 (aS n T [] .un .un) (by
  rintro j d δ hj ⟨L,t3,t4,rfl,h1,h2⟩;obtain⟨S,rfl⟩:=z70 hj;have O:j<n:=by omega
  have Y:j*T<=32*4:=R1 (by omega) hT.2;rw[Nat.zero_add] at h1;obtain⟨L',u4,e,h3,h4⟩:=F L j t4 O (by omega) h2;refine⟨_,_,rfl,u9 (T7 (items:=Y4 0 (T:Int)) (Q6 (n:=(T:Int)) rfl (by omega) (by omega)) e) rfl,L',_,u4,rfl,?_,h3⟩;rw[h4,h1,Nat.zero_add,Nat.add_mul,Nat.one_mul]) ⟨[],.un,.un,rfl,(by simp),λp hp=>by cases hp⟩
 rw[Nat.zero_add,M] at h1;have U:n*T<=32*4:=R1 hn.2 hT.2;refine⟨L,K9 rfl (u9 (δ':=aS n T [] .un .un) rfl (u9 (T7 (items:=Y4 0 (n:Int)) (Q6 (n:=(n:Int)) rfl (by omega) (by omega)) e) (by rfl))),h2,by omega⟩
def fK(x n:Int):D->D
 | .int k=>.tup [.int (x/(k+1)%n),.int (x/(k+7)%n)]
 | _=>.non
def fD:D->D
 | .int k=>.tup [.int k,.int k]
 | _=>.non
theorem ck0(x:Int)(n m:Nat)(hn:0<n)(hm:m<=100):∃L,V5 (gN 0) noT (Y6 (z9 (o2 (o2 (gv 1) (o2 (gv 0) (gc (.int 1)) n8) d9) (gv 2) m8) (z9 (o2 (o2 (gv 1) (o2 (gv 0) (gc (.int 7)) n8) d9) (gv 2) m8) v7))) [.un,.sh (.int x),.sh (.int (n:Int))] (Y4 0 (m:Int))=some (L.map pN)/\ir n L/\L.length=m:=by
 have zs:(1000:Nat)<=sizeLine:=by decide
 have nn:∀y:Int,0<=y%(n:Int)/\y%(n:Int)<n:=λy=>⟨C9 _ (by omega),D0 _ (by omega)⟩
 refine⟨(List.range' 0 m).map λ(k:Nat)=>((x/((k:Int)+1)%(n:Int)).toNat,(x/((k:Int)+7)%(n:Int)).toNat),?_,λp hp=>?_,by simp⟩
 ·rw[Q3 (fK x n) (λd hd=>?_)]
  ·rw[G4,List.map_map,List.map_map]
   congr 1;refine W1 λk _=>?_
   have a1:=nn (x/((k:Int)+1));have a2:=nn (x/((k:Int)+7));show D.tup [.int (x/((k:Int)+1)%(n:Int)),.int (x/((k:Int)+7)%(n:Int))]=pN _;unfold pN;dsimp only;rw[Int.toNat_of_nonneg a1.1,Int.toNat_of_nonneg a2.1]
  ·rw[G4] at hd
   obtain⟨k,hk,rfl⟩:=A8.mp hd;have F:k<m:=by simpa using hk
   have g:∀c:Int,0<c/\c<100->o2 (o2 (gv 1) (o2 (gv 0) (gc (.int c)) n8) d9) (gv 2) m8 [.sh (.int (k:Int)),.sh (.int x),.sh (.int (n:Int))]=some (.int (x/((k:Int)+c)%(n:Int))):=λc hc=>by
    rw[o4 (x:=.int (x/((k:Int)+c))) (y:=.int (n:Int)) (by
     rw[o4 (x:=.int x) (y:=.int ((k:Int)+c)) rfl rfl];exact Gw.y20 _ _ (by omega)) rfl]
    exact Gw.N5 _ _ (by omega)
   exact⟨[.sh (.int (k:Int)),.sh (.int x),.sh (.int (n:Int))],rfl,rfl,W5 (cons_of (g 1 (by decide)) (cons_of (g 7 (by decide)) rfl)) (by show 2<=sizeLine;omega)⟩
 ·obtain⟨k,hk,rfl⟩:=A8.mp hp
  have a1:=nn (x/((k:Int)+1));have a2:=nn (x/((k:Int)+7));exact⟨by dsimp only;omega,by dsimp only;omega⟩
theorem bu0(n:Nat):∃L,V5 (gN 0) noT (Y6 (z9 (gv 0) (z9 (gv 0) v7))) [.un] (Y4 0 (n:Int))=some (L.map pN)/\ir n L/\L.length=n:=by
 have zs:(1000:Nat)<=sizeLine:=by decide
 refine⟨(List.range' 0 n).map λk=>(k,k),?_,λp hp=>?_,by simp⟩
 ·rw[Q3 fD (λd hd=>?_)]
  ·rw[G4,List.map_map,List.map_map]
   rfl
  ·rw[G4] at hd
   obtain⟨k,hk,rfl⟩:=A8.mp hd;exact⟨[.sh (.int (k:Int))],rfl,rfl,W5 (cons_of rfl (cons_of rfl rfl)) (by show 2<=sizeLine;omega)⟩
 ·obtain⟨k,hk,rfl⟩:=A8.mp hp
  have:k<n:=by simpa using hk
  exact⟨this,this⟩
theorem j60(hq:Web qs)(h32:qs.length<=32)(hT:0<T/\T<=4)(hd:T ∣ qs.length)(x:Int)(j:Nat)(hj:j<4) :
  ∃L,O1 [wd qs,.int (T:Int),.int x,.int (j:Int)]=some (.lst (L.map pN))/\ir qs.length L/\L.length<=1600:=by
 have zs:(2000:Nat)<=sizeLine:=by decide
 have hl:=hq.len;obtain⟨n,hn⟩:∃n,n=qs.length:=⟨_,rfl⟩;rw[← hn] at hl h32 hd ⊢;have b1:0<=x%(n:Int):=C9 _ (by omega);have b2:x%(n:Int)<n:=D0 _ (by omega);obtain⟨p,ep,hp⟩:∃p:Nat,x%(n:Int)=(p:Int)/\p<n:=⟨(x%(n:Int)).toNat,by omega,by omega⟩;have b3:0<=x/60%(T:Int):=C9 _ (by omega);have b4:x/60%(T:Int)<T:=D0 _ (by omega);obtain⟨r,er,hr⟩:∃r:Nat,x/60%(T:Int)=(r:Int)/\r<T:=⟨(x/60%(T:Int)).toNat,by omega,by omega⟩;have F:=fy0 hd hp hr;obtain⟨q,eq⟩:∃q,q=p/T*T+r:=⟨_,rfl⟩;rw[← eq] at F;have st:∀rest:GS,v8 (m5 (gN 4) (oA (z9 (gv 0) v7) Y5)) (v8 (m5 (gN 5) (o2 (gv 2) (gv 4) m8)) (v8 (m5 (gN 6) (o2 (o2 (o2 (gv 5) (gv 1) d9) (gv 1) W9) (o2 (o2 (gv 2) (gc (.int 60)) d9) (gv 1) m8) n8)) rest)) (W3 wb0 [wd qs,.int (T:Int),.int x,.int (j:Int)])=rest [.sh (wd qs),.sh (.int (T:Int)),.sh (.int x),.sh (.int (j:Int)),.sh (.int (n:Int)),.sh (.int (p:Int)),.sh (.int (q:Int)),.un]:=λrest=>by
  refine u9 (d8 (d:=.int (n:Int)) (by rw[hn];exact y50 qs _ rfl)) (u9 (d8 (d:=.int (p:Int)) ?_) (u9 (d8 (d:=.int (q:Int)) ?_) rfl))
  ·rw[o4 (x:=.int x) (y:=.int (n:Int)) rfl rfl,Gw.N5 _ _ (by omega),ep]
  ·rw[o4 (x:=.int ((p/T*T:Nat):Int)) (y:=.int (r:Int)) (by
    rw[o4 (x:=.int ((p/T:Nat):Int)) (y:=.int (T:Int)) (by
     rw[o4 (x:=.int (p:Int)) (y:=.int (T:Int)) rfl rfl,Gw.y20 _ _ (by omega)];rfl) rfl,Gw.mul_r _ _ (by omega),Int.natCast_mul]) (by
    rw[o4 (x:=.int (x/60)) (y:=.int (T:Int)) (by rw[o4 (x:=.int x) (y:=.int 60) rfl rfl];exact Gw.y20 _ _ (by decide)) rfl,Gw.N5 _ _ (by omega),er])]
   show some (D.int (((p/T*T:Nat):Int)+(r:Int)))=_;rw[← Int.natCast_add,← eq]
 have t:∀c:Nat,ob (o2 (gv 3) (gc (.int (c:Int))) eqD) [.sh (wd qs),.sh (.int (T:Int)),.sh (.int x),.sh (.int (j:Int)),.sh (.int (n:Int)),.sh (.int (p:Int)),.sh (.int (q:Int)),.un]=some (decide (j=c)):=λc=>(af0 (c:Int) (y:=(j:Int)) rfl).trans (by
  congr 1;rw[decide_eq_decide];omega)
 have no:∀(c:Nat) (A rest:GS),j≠c->v8 (ifD (ob (o2 (gv 3) (gc (.int (c:Int))) eqD)) A p7) rest [.sh (wd qs),.sh (.int (T:Int)),.sh (.int x),.sh (.int (j:Int)),.sh (.int (n:Int)),.sh (.int (p:Int)),.sh (.int (q:Int)),.un]=rest [.sh (wd qs),.sh (.int (T:Int)),.sh (.int x),.sh (.int (j:Int)),.sh (.int (n:Int)),.sh (.int (p:Int)),.sh (.int (q:Int)),.un]:=λc A rest hc =>
  u9 (by rw[Z2 ((t c).trans (by rw[decide_eq_false hc]))];rfl) rfl
 have J:∀(c:Nat) (A rest:GS) (d:D),j=c->A [.sh (wd qs),.sh (.int (T:Int)),.sh (.int x),.sh (.int (j:Int)),.sh (.int (n:Int)),.sh (.int (p:Int)),.sh (.int (q:Int)),.un]=some (.rt d)->v8 (ifD (ob (o2 (gv 3) (gc (.int (c:Int))) eqD)) A p7) rest [.sh (wd qs),.sh (.int (T:Int)),.sh (.int x),.sh (.int (j:Int)),.sh (.int (n:Int)),.sh (.int (p:Int)),.sh (.int (q:Int)),.un]=some (.rt d):=λc A rest d hc h =>
  o8 (by rw[U0 ((t c).trans (by rw[decide_eq_true hc]))];exact h)
 by_cases j0:j=0
 ·obtain⟨L,e,h1,h2⟩:=o70 n T ⟨hl.1,h32⟩ hT hd
  refine⟨L,j5 rfl ((st _).trans (J 0 _ _ _ j0 (o8 (Z9 ?_)))),h1,by omega⟩;rw[m7 (ds:=[.int (n:Int),.int (T:Int)]) rfl];exact e
 by_cases j1:j=1
 ·refine⟨[(p,q)],j5 rfl ((st _).trans ((no 0 _ _ j0).trans (J 1 _ _ _ j1 (o8 (Z9 ?_))))),λy hy=>by rw[List.mem_singleton.mp hy];exact⟨hp,F⟩,by simp⟩
  exact y60 (cons_of (W5 (cons_of rfl (cons_of rfl rfl)) (by show 2<=sizeLine;omega)) rfl) (by show 1<=sizeLine;omega)
 by_cases j2:j=2
 ·have b5:0<=x/3600%4:=C9 _ (by decide)
  have b6:x/3600%4<4:=D0 _ (by decide);obtain⟨m,em,hm⟩:∃m:Nat,x/3600%4=(m:Int)/\m<4:=⟨(x/3600%4).toNat,by omega,by omega⟩;obtain⟨L,e,h1,h2⟩:=ck0 x n m hl.1 (by omega);refine⟨L,j5 rfl ((st _).trans ((no 0 _ _ j0).trans ((no 1 _ _ j1).trans (J 2 _ _ _ j2 (o8 (Z9 ?_)))))),h1,by omega⟩;refine U7 (items:=Y4 0 (m:Int)) (Q6 (n:=(m:Int)) (cons_of ?_ rfl) (by omega) (by omega)) (by rw[G4,List.length_map,List.length_range'];omega) e;rw[o4 (x:=.int (x/3600)) (y:=.int 4) (by rw[o4 (x:=.int x) (y:=.int 3600) rfl rfl];exact Gw.y20 _ _ (by decide)) rfl,Gw.N5 _ _ (by decide),em]
 ·have hs:=gd0 hq (by omega) (p:=(p,q)) (by rw[← hn];exact⟨hp,F⟩)
  have call:∀d:D,Q4 [wd qs,wd qs,pN (p,q)]=some d->m5 (gN 7) (oA (z9 (gv 0) (z9 (gv 0) (z9 (Y6 (z9 (gv 5) (z9 (gv 6) v7))) v7))) Q4) [.sh (wd qs),.sh (.int (T:Int)),.sh (.int x),.sh (.int (j:Int)),.sh (.int (n:Int)),.sh (.int (p:Int)),.sh (.int (q:Int)),.un]=some (.nx [.sh (wd qs),.sh (.int (T:Int)),.sh (.int x),.sh (.int (j:Int)),.sh (.int (n:Int)),.sh (.int (p:Int)),.sh (.int (q:Int)),.sh d]):=λd h=>d8 (by
   rw[m7 (ds:=[wd qs,wd qs,pN (p,q)]) (cons_of rfl (cons_of rfl (cons_of (W5 (cons_of rfl (cons_of rfl rfl)) (by show 2<=sizeLine;omega)) rfl)))];exact h)
  rcases hs with e|⟨L,h1,h2,e⟩
  ·obtain⟨L,e3,h1,h2⟩:=bu0 n
   refine⟨L,j5 rfl ((st _).trans ((no 0 _ _ j0).trans ((no 1 _ _ j1).trans ((no 2 _ _ j2).trans (u9 (call _ e) (o8 ?_)))))),h1,by omega⟩;rw[U0 (by rfl)];exact o8 (Z9 (U7 (items:=Y4 0 (n:Int)) (Q6 (n:=(n:Int)) rfl (by omega) (by omega)) (by rw[G4,List.length_map,List.length_range'];omega) e3))
  ·rw[← hn] at h1
   refine⟨L,j5 rfl ((st _).trans ((no 0 _ _ j0).trans ((no 1 _ _ j1).trans ((no 2 _ _ j2).trans (u9 (call _ e) (u9 (δ':=[.sh (wd qs),.sh (.int (T:Int)),.sh (.int x),.sh (.int (j:Int)),.sh (.int (n:Int)),.sh (.int (p:Int)),.sh (.int (q:Int)),.sh (.lst (L.map pN))]) ?_ (o8 (Z9 rfl)))))))),h1,h2⟩;rw[Z2 (by rfl)];rfl
theorem y80(hq:Web qs){g:GE}(h3:gv 3 δ=some (wd qs))(hg:g δ=some (.lst (L.map pN)))(hi:ir qs.length L)(hl:L.length<=3000):G3 (ob (oA (z9 (gv 3) (z9 g v7)) Z3)) δ=some false:=by
 have:ob (oA (z9 (gv 3) (z9 g v7)) Z3) δ=some true:=Bw.yb0 (by
  rw[m7 (ds:=[wd qs,.lst (L.map pN)]) (cons_of h3 (cons_of hg rfl))];exact p40 hq hi hl)
 unfold G3;rw[this];rfl
def FBd:GS:=(v8 (m5 (gN 5) (oA (z9 (o2 (oA (z9 (gv 0) (z9 (gc (.int 7)) v7)) j7) (o2 (gv 4) (gv 4) W9) n8) (z9 (o2 (gv 4) (gc (.int 70)) n8) v7)) X6))
 (v8 (m5 (gN 6) (oA (z9 (gv 3) (z9 (gv 2) (z9 (gv 5) (z9 (o2 (gv 4) (gc (.int 4)) m8) v7)))) O1))
 (v8 (ifD (zv0 (G3 (ob (oA (z9 (gv 3) (z9 (gv 6) v7)) Z3))) (G3 (ob (oA (z9 (gv 3) (z9 (pj0 (gv 6)) v7)) Z3))))
 (v8 (j6 (gc (.bl false)))
 p7)
 p7)
 (v8 (m5 (gN 7) (o2 (gv 6) (X5 (z9 (Y6 (z9 (o2 (gv 5) (oA (z9 (gv 3) v7) Y5) m8) (z9 (o2 (o2 (gv 5) (gc (.int 77)) d9) (oA (z9 (gv 3) v7) Y5) m8) v7))) v7)) n8))
 (v8 (ifD (G3 (ob (oA (z9 (gv 3) (z9 (gv 7) v7)) Z3)))
 (v8 (j6 (gc (.bl false)))
 p7)
 p7)
 (v8 (ifD (ob (o2 (gv 6) (X5 v7) O2))
 (v8 (m5 (gN 8) (o2 (o2 (gv 5) (gc (.int 5)) d9) (oA (z9 (gv 6) v7) Y5) m8))
 (v8 (ifD (zv0 (G3 (ob (oA (z9 (gv 3) (z9 (o2 (U9 (gv 6) U8 (someO (gv 8))) (U9 (gv 6) (someO (o2 (gv 8) (gc (.int 1)) n8)) U8) n8) v7)) Z3))) (G3 (ob (oA (z9 (gv 3) (z9 (o2 (gv 6) (X5 (z9 (o2 (gv 6) (gv 8) ixD) v7)) n8) v7)) Z3))))
 (v8 (j6 (gc (.bl false)))
 p7)
 p7)
 p7))
 p7)
 p7))))))
theorem qx0{A B:List (Nat×Nat)}(ha:ir n A)(hb:ir n B):ir n (A++B):=λp hp=>by
 rcases B8.mp hp with hp|hp
 ·exact ha p hp
 ·exact hb p hp
theorem ma0{g1 g2:GE}{A B:List (Nat×Nat)}(h1:g1 δ=some (.lst (A.map pN)))(h2:g2 δ=some (.lst (B.map pN)))(hl:A.length+B.length<=4000):o2 g1 g2 n8 δ=some (.lst ((A++B).map pN)):=by
 have zs:(4000:Nat)<=sizeLine:=by decide
 rw[o4 h1 h2];show (if (A.map pN).length+(B.map pN).length<=sizeLine then some (D.lst (A.map pN++B.map pN)) else none)=_;rw[if_pos (by rw[List.length_map,List.length_map];omega),List.map_append]
theorem fq0(ns:List Int)(hq:Web qs)(h32:qs.length<=32)(hT:0<T/\T<=4)(hd:T ∣ qs.length)(t:Sl)(j:Nat)(hj:j<6)(s5 s6 s7 s8:Sl) :
  ∃t5 t6 t7 t8,FBd [.sh (.lst (ns.map .int)),t,.sh (.int (T:Int)),.sh (wd qs),.sh (.int (j:Int)),s5,s6,s7,s8]=some (.nx [.sh (.lst (ns.map .int)),t,.sh (.int (T:Int)),.sh (wd qs),.sh (.int (j:Int)),t5,t6,t7,t8]):=by
 have zs:(4000:Nat)<=sizeLine:=by decide
 have hl:=hq.len;obtain⟨c7,h7⟩:=J4 ns 7 (by decide);obtain⟨x,_,_,hx⟩:=xb0 (c7+(j:Int)*(j:Int)) ((j:Int)+70) (by omega);obtain⟨L,eL,hi,hL⟩:=j60 hq h32 hT hd x (j%4) (by omega);have nn:∀y:Int,0<=y%(qs.length:Int)/\y%(qs.length:Int)<qs.length:=λy=>⟨C9 _ (by omega),D0 _ (by omega)⟩
 obtain⟨a,ea,ha⟩:∃a:Nat,x%(qs.length:Int)=(a:Int)/\a<qs.length:=⟨(x%(qs.length:Int)).toNat,by have:=nn x;omega,by have:=nn x;omega⟩;obtain⟨b,eb,hb⟩:∃b:Nat,x/77%(qs.length:Int)=(b:Int)/\b<qs.length:=⟨(x/77%(qs.length:Int)).toNat,by have:=nn (x/77);omega,by have:=nn (x/77);omega⟩;have e5:∀s6 s7 s8,oA (z9 (o2 (oA (z9 (gv 0) (z9 (gc (.int 7)) v7)) j7) (o2 (gv 4) (gv 4) W9) n8) (z9 (o2 (gv 4) (gc (.int 70)) n8) v7)) X6 [.sh (.lst (ns.map .int)),t,.sh (.int (T:Int)),.sh (wd qs),.sh (.int (j:Int)),s5,s6,s7,s8]=some (.int x):=λs6 s7 s8=>by
  rw[m7 (ds:=[.int (c7+(j:Int)*(j:Int)),.int ((j:Int)+70)]) (cons_of (by
   rw[o4 (x:=.int c7) (y:=.int ((j:Int)*(j:Int))) (by rw[m7 (ds:=[.lst (ns.map .int),.int 7]) rfl];exact h7) (by
    rw[o4 (x:=.int (j:Int)) (y:=.int (j:Int)) rfl rfl];exact Gw.nl0 _ _ (by omega))]
   rfl) (cons_of rfl rfl))]
  exact hx
 have e6:∀s6 s7 s8,oA (z9 (gv 3) (z9 (gv 2) (z9 (gv 5) (z9 (o2 (gv 4) (gc (.int 4)) m8) v7)))) O1 [.sh (.lst (ns.map .int)),t,.sh (.int (T:Int)),.sh (wd qs),.sh (.int (j:Int)),.sh (.int x),s6,s7,s8]=some (.lst (L.map pN)):=λs6 s7 s8=>by
  rw[m7 (ds:=[wd qs,.int (T:Int),.int x,.int ((j%4:Nat):Int)]) (cons_of rfl (cons_of rfl (cons_of rfl (cons_of (by rw[o4 (x:=.int (j:Int)) (y:=.int 4) rfl rfl,Gw.N5 _ _ (by decide)];rfl) rfl))))];exact eL
 have one:ir qs.length [(a,b)]:=λp hp=>by rw[List.mem_singleton.mp hp];exact⟨ha,hb⟩
 have e7:∀s7 s8,o2 (gv 6) (X5 (z9 (Y6 (z9 (o2 (gv 5) (oA (z9 (gv 3) v7) Y5) m8) (z9 (o2 (o2 (gv 5) (gc (.int 77)) d9) (oA (z9 (gv 3) v7) Y5) m8) v7))) v7)) n8 [.sh (.lst (ns.map .int)),t,.sh (.int (T:Int)),.sh (wd qs),.sh (.int (j:Int)),.sh (.int x),.sh (.lst (L.map pN)),s7,s8]=some (.lst ((L++[(a,b)]).map pN)):=λs7 s8=>by
  refine ma0 rfl (y60 (cons_of (W5 (cons_of ?_ (cons_of ?_ rfl)) (by show 2<=sizeLine;omega)) rfl) (by show 1<=sizeLine;omega)) (by simp;omega)
  ·rw[o4 (x:=.int x) (y:=.int (qs.length:Int)) rfl (y50 qs _ rfl),Gw.N5 _ _ (by omega),ea]
  ·rw[o4 (x:=.int (x/77)) (y:=.int (qs.length:Int)) (by rw[o4 (x:=.int x) (y:=.int 77) rfl rfl];exact Gw.y20 _ _ (by decide)) (y50 qs _ rfl),Gw.N5 _ _ (by omega),eb]
 have rv:∀s7 s8,pj0 (gv 6) [.sh (.lst (ns.map .int)),t,.sh (.int (T:Int)),.sh (wd qs),.sh (.int (j:Int)),.sh (.int x),.sh (.lst (L.map pN)),s7,s8]=some (.lst (L.reverse.map pN)):=λs7 s8=>by
  show some (D.lst (L.map pN).reverse)=_;rw[List.map_reverse]
 have hr:ir qs.length L.reverse:=λp hp=>hi p (N1.mp hp)
 refine⟨.sh (.int x),.sh (.lst (L.map pN)),.sh (.lst ((L++[(a,b)]).map pN)),if L=[] then s8 else .sh (.int (x/5%(L.length:Int))),u9 (d8 (e5 _ _ _)) (u9 (d8 (e6 _ _ _)) (u9 (δ':=[.sh (.lst (ns.map .int)),t,.sh (.int (T:Int)),.sh (wd qs),.sh (.int (j:Int)),.sh (.int x),.sh (.lst (L.map pN)),s7,s8]) ?_ (u9 (d8 (e7 _ _)) (u9 (δ':=[.sh (.lst (ns.map .int)),t,.sh (.int (T:Int)),.sh (wd qs),.sh (.int (j:Int)),.sh (.int x),.sh (.lst (L.map pN)),.sh (.lst ((L++[(a,b)]).map pN)),s8]) ?_ (u9 ?_ rfl)))))⟩
 ·change ifD _ _ _ [.sh (.lst (ns.map .int)),t,.sh (.int (T:Int)),.sh (wd qs),.sh (.int (j:Int)),.sh (.int x),.sh (.lst (L.map pN)),s7,s8]=_
  rw[Z2 (ik0 (y80 (g:=gv 6) hq rfl rfl hi (by omega)) (y80 hq rfl (rv _ _) hr (by rw[List.length_reverse];omega)))];rfl
 ·change ifD _ _ _ [.sh (.lst (ns.map .int)),t,.sh (.int (T:Int)),.sh (wd qs),.sh (.int (j:Int)),.sh (.int x),.sh (.lst (L.map pN)),.sh (.lst ((L++[(a,b)]).map pN)),s8]=_
  rw[Z2 (y80 (g:=gv 7) hq rfl rfl (qx0 hi one) (by simp;omega))];rfl
 ·change ifD _ _ _ [.sh (.lst (ns.map .int)),t,.sh (.int (T:Int)),.sh (wd qs),.sh (.int (j:Int)),.sh (.int x),.sh (.lst (L.map pN)),.sh (.lst ((L++[(a,b)]).map pN)),s8]=_
  by_cases h0:L=[]
  ·rw[if_pos h0]
   subst h0;rw[Z2 (Bw.yb0 (b:=false) (by rw[o4 (x:=.lst []) (y:=.lst []) rfl rfl];rfl))];rfl
  ·rw[if_neg h0]
   have J:0<L.length:=A50.mpr h0;have F:O2 (.lst (L.map pN)) (.lst [])=some (.bl true):=by
    unfold O2;rw[if_pos ⟨by show leans (L.map pN) 49=true;exact op0 L 48,by rfl⟩];cases L with
    | nil=>exact absurd rfl h0
    | cons p L=>rfl
   rw[U0 (Bw.yb0 (b:=true) (by rw[o4 (x:=.lst (L.map pN)) (y:=.lst []) rfl rfl];exact F))];have c1:0<=x/5%(L.length:Int):=C9 _ (by omega);have c2:x/5%(L.length:Int)<L.length:=D0 _ (by omega);obtain⟨k,ek,hk⟩:∃k:Nat,x/5%(L.length:Int)=(k:Int)/\k<L.length:=⟨(x/5%(L.length:Int)).toNat,by omega,by omega⟩;rw[ek];obtain⟨δ,hδ⟩:∃δ:Ds,δ=[.sh (.lst (ns.map .int)),t,.sh (.int (T:Int)),.sh (wd qs),.sh (.int (j:Int)),.sh (.int x),.sh (.lst (L.map pN)),.sh (.lst ((L++[(a,b)]).map pN)),.sh (.int (k:Int))]:=⟨_,rfl⟩;have g3:gv 3 δ=some (wd qs):=by rw[hδ];rfl
   have g6:gv 6 δ=some (.lst (L.map pN)):=by rw[hδ];rfl
   have g8:gv 8 δ=some (.int (k:Int)):=by rw[hδ];rfl
   have u1:o2 (U9 (gv 6) U8 (someO (gv 8))) (U9 (gv 6) (someO (o2 (gv 8) (gc (.int 1)) n8)) U8) n8 δ=some (.lst ((L.take k++L.drop (k+1)).map pN)):=by
    refine ma0 (A:=L.take k) (B:=L.drop (k+1)) ?_ ?_ (by rw[List.length_take,List.length_drop];omega)
    ·rw[hδ]
     show some (D.lst (cutD (L.map pN) none (some (k:Int))))=_;rw[q60,List.map_take]
    ·rw[hδ]
     show some (D.lst (cutD (L.map pN) (some ((k:Int)+1)) none))=_;rw[show ((k:Int)+1)=((k+1:Nat):Int) from rfl,pf0,List.map_drop]
   have u2:o2 (gv 6) (X5 (z9 (o2 (gv 6) (gv 8) ixD) v7)) n8 δ=some (.lst ((L++[L[k]]).map pN)):=by
    refine ma0 g6 (y60 (cons_of ?_ rfl) (by show 1<=sizeLine;omega)) (by simp;omega);rw[o4 g6 g8];show atI (L.map pN) (k:Int)=_;rw[J0 (by omega) (by rw[List.length_map];omega) .non,Int.toNat_natCast];simp[hk]
   refine u9 (δ':=δ) ?_ (u9 (δ':=δ) ?_ (by rw[hδ];rfl))
   ·rw[hδ]
    refine d8 (d:=.int (k:Int)) ?_;rw[o4 (x:=.int (x/5)) (y:=.int (L.length:Int)) (by rw[o4 (x:=.int x) (y:=.int 5) rfl rfl];exact Gw.y20 _ _ (by decide)) (by
     show some (D.int ((L.map pN).length:Int))=_;rw[List.length_map]),Gw.N5 _ _ (by omega),ek]
   ·rw[Z2 (ik0 (y80 hq g3 u1 (qx0 (λp hp=>hi p (d5 hp)) (λp hp=>hi p (y6 hp))) (by rw[List.length_append,List.length_take,List.length_drop];omega)) (y80 hq g3 u2 (qx0 hi λp hp=>by rw[List.mem_singleton.mp hp];exact hi _ (C8 hk)) (by simp;omega)))]
    rfl
theorem j50(ns:List Int)(hl:ns.length<=63):vn0 [.lst (ns.map .int)]=some (.bl true):=by
 obtain⟨ps,J,M,l8⟩:=jy0 ns hl;obtain⟨t,ht⟩:=J4 ns 4 (by decide);obtain⟨c5,h5⟩:=J4 ns 5 (by decide);obtain⟨c6,h6⟩:=J4 ns 6 (by decide);obtain⟨x6,_,_,Y⟩:=xb0 c6 9 (by decide);obtain⟨T,eT,hT⟩:∃T:Nat,1+t%4=(T:Int)/\0<T/\T<=4:=⟨(1+t%4).toNat,by omega,by omega,by omega⟩;obtain⟨q0,Z,F,O,dv⟩:=l30 M l8 hT c5;obtain⟨q1,a0,U,S⟩:=xw0 F x6;obtain⟨qs,wq,l,dq,e3⟩:∃qs:List Pt,Web qs/\qs.length<=32/\T ∣ qs.length/\ifD (ob (o2 (o2 (o2 (gv 1) (gc (.int 4)) d9) (gc (.int 2)) m8) (gc (.int 1)) J8)) (v8 (m5 (gN 3) (oA (z9 (gv 3) (z9 (oA (z9 (oA (z9 (gv 0) (z9 (gc (.int 6)) v7)) j7) (z9 (gc (.int 9)) v7)) X6) v7)) S5)) p7) p7 [.sh (.lst (ns.map .int)),.sh (.int t),.sh (.int (T:Int)),.sh (wd q0),.un,.un,.un,.un,.un]=some (.nx [.sh (.lst (ns.map .int)),.sh (.int t),.sh (.int (T:Int)),.sh (wd qs),.un,.un,.un,.un,.un]):=by
  obtain⟨b,hb⟩:∃b,ob (o2 (o2 (o2 (gv 1) (gc (.int 4)) d9) (gc (.int 2)) m8) (gc (.int 1)) J8) [.sh (.lst (ns.map .int)),.sh (.int t),.sh (.int (T:Int)),.sh (wd q0),.un,.un,.un,.un,.un]=some b:=⟨_,Bw.yb0 (by
   rw[o4 (x:=.int (t/4%2)) (y:=.int 1) (by rw[o4 (x:=.int (t/4)) (y:=.int 2) (by rw[o4 (x:=.int t) (y:=.int 4) rfl rfl];rfl) rfl];rfl) rfl];rfl)⟩
  cases b with
  | true =>
   refine⟨q1,U,by omega,by rw[S];exact dv,?_⟩;rw[U0 hb];refine u9 (d8 (d:=wd q1) ?_) rfl;rw[m7 (ds:=[wd q0,.int x6]) (cons_of rfl (cons_of (by
    rw[m7 (ds:=[.int c6,.int 9]) (cons_of (by rw[m7 (ds:=[.lst (ns.map .int),.int 6]) rfl];exact h6) rfl)];exact Y) rfl))]
   exact a0
  | false =>
   refine⟨q0,F,O,dv,?_⟩;rw[Z2 hb];rfl
 obtain⟨δ',lo,s4,s5,s6,s7,s8,rfl⟩:=Q8 (f:=gN 4) (G:=FBd) (λ_ δ=>∃s4 s5 s6 s7 s8:Sl,δ=[.sh (.lst (ns.map .int)),.sh (.int t),.sh (.int (T:Int)),.sh (wd qs),s4,s5,s6,s7,s8]) (Y4 0 6) 0 [.sh (.lst (ns.map .int)),.sh (.int t),.sh (.int (T:Int)),.sh (wd qs),.un,.un,.un,.un,.un] (by
  rintro j d δ hj ⟨s4,s5,s6,s7,s8,rfl⟩;obtain⟨a1,rfl⟩:=z70 hj;obtain⟨t5,t6,t7,t8,e⟩:=fq0 ns wq l hT dq (.sh (.int t)) j (by omega) s5 s6 s7 s8;exact⟨_,_,rfl,e,_,t5,t6,t7,t8,rfl⟩) ⟨.un,.un,.un,.un,.un,rfl⟩
 refine j5 rfl (u9 (d8 (d:=.int t) ?_) (u9 (d8 (d:=.int (T:Int)) ?_) (u9 (d8 (d:=wd q0) ?_) (u9 e3 (u9 (T7 (Q6 (n:=6) rfl (by decide) (by decide)) lo) (o8 (Z9 ?_)))))))
 ·rw[m7 (ds:=[.lst (ns.map .int),.int 4]) rfl]
  exact ht
 ·rw[o4 (x:=.int 1) (y:=.int (t%4)) rfl (by rw[o4 (x:=.int t) (y:=.int 4) rfl rfl];rfl)]
  show some (D.int (1+t%4))=_;rw[eT]
 ·rw[m7 (ds:=[wd ps,.int (T:Int),.int c5]) (cons_of (by rw[m7 (ds:=[.lst (ns.map .int),.int 8]) rfl];exact J) (cons_of rfl (cons_of (by rw[m7 (ds:=[.lst (ns.map .int),.int 5]) rfl];exact h5) rfl)))]
  exact Z
 ·rw[m7 (ds:=[wd qs,.lst (([]:List (Nat×Nat)).map pN)]) (cons_of rfl (cons_of rfl rfl))]
  exact p40 wq (λp hp=>by cases hp) (by simp)
end Fa
namespace Fa
open L2 DL W
def top(i:Nat):Stmt:=PySem.Challenge.pw_graphpack_k14_closed_lists.main.body.getD i (.Pass ⟨0,0,0,0⟩)
theorem b_all:bootBuiltins "all"=some (.builtin "all"):=by decide +kernel
theorem b_bool:bootBuiltins "bool"=some (.type "bool"):=by decide +kernel
theorem b_dict:bootBuiltins "dict"=some (.type "dict"):=by decide +kernel
theorem b_int:bootBuiltins "int"=some (.type "int"):=by decide +kernel
theorem b_list:bootBuiltins "list"=some (.type "list"):=by decide +kernel
theorem b_sorted:bootBuiltins "sorted"=some (.builtin "sorted"):=by decide +kernel
theorem b_tuple:bootBuiltins "tuple"=some (.type "tuple"):=by decide +kernel
structure Txt(mg:Str->Option Value):Prop where
 b_all:mg "all"=none
 b_bool:mg "bool"=none
 b_dict:mg "dict"=none
 b_int:mg "int"=none
 b_isinstance:mg "isinstance"=none
 b_len:mg "len"=none
 b_list:mg "list"=none
 b_range:mg "range"=none
 b_sorted:mg "sorted"=none
 b_tuple:mg "tuple"=none
 b_zip:mg "zip"=none
section
variable{P:Program}{w:World}
theorem so0:FnScope ["part"] ["part"] (p8 (top 1)):=⟨rfl,rfl,rfl,by decide +kernel,rfl,by decide +kernel,by decide +kernel⟩
theorem sq0(F:Fun K "pair_names" "pair_names" (top 1) fa fd)(T:Txt mg)  : FnOk P w K mg base CX0 1 fa fd ["part"] (spN K K1) :=
 okN (k:=0) (G:=wj0) F so0 (λJ A outer s H E hr=>(v6 (d7 (PWD.pt (ut0 (j8 R0 U4 (o6 (w6 0) p6) Y0) (vh0 (j8 R0 U4 (o6 (w6 0) p6) Y0))))
   (v6 (K4 (O3 v9))
   u0)
   u0)
   (v6 (K4 (xu0 (sc:=p8 (top 1)) (N:=["part"]) (N':=["pair"]) (n:=1) (caps:=[]) ⟨rfl,by decide +kernel,by decide +kernel,by decide +kernel,by decide +kernel,rfl,by decide +kernel⟩ (by decide) (ve0 (o6 (w6 0) (y40 p6))) (λcl s H ex=>o5 0 (by decide +kernel:(["pair"]:List Str).Nodup)) (λcl s H ex=>O7) (λcl s H ex=>(o6 (w6 0) p6))))
   u0))) (λds d h=>xo0 h)
theorem fp0:FnScope ["part"] ["part"] (p8 (top 2)):=⟨rfl,rfl,rfl,by decide +kernel,rfl,by decide +kernel,by decide +kernel⟩
theorem gc0(F:Fun K "head" "head" (top 2) fa fd)(T:Txt mg)(C_pair_names:FnN P w K mg base "pair_names" 1 ["part"] K1):FnOk P w K mg base CX0 2 fa fd ["part"] (spD K z20) :=
 okD (k:=1) (G:=ly0) F fp0 (λJ A outer s H E hr=>(v6 (d7 (j8 R0 U4 (o6 (w6 0) p6) Y0)
   (v6 (o9 (W0 (v5 Y0 (v5 (o6 (w6 0) p6) v9))))
   u0)
   u0)
   (v6 (d7 (j8 R0 U4 (o6 (w6 0) p6) Y0)
   (v6 (o9 (W0 (v5 Y0 (v5 (U3 T.b_len (v5 (o6 (w6 0) p6) v9)) v9))))
   u0)
   u0)
   (v6 (d7 (j8 R0 U4 (o6 (w6 0) p6) Y0)
   (v6 (o9 (W0 (v5 Y0 (v5 (T4 V7 zm0 T.b_tuple b_tuple (v5 (zg0 C_pair_names hr (by decide) (v5 (w6 0) v9)) v9)) v9))))
   u0)
   u0)
   (v6 (o9 (W0 (v5 Y0 (v5 (o6 (w6 0) p6) (v5 (T4 V7 zm0 T.b_tuple b_tuple (v5 (zg0 C_pair_names hr (by decide) (v5 (w6 0) v9)) v9)) v9)))))
   u0))))) (λds d h=>W6 h)
theorem li0:FnScope ["part"] ["part"] (p8 (top 3)):=⟨rfl,rfl,rfl,by decide +kernel,rfl,by decide +kernel,by decide +kernel⟩
theorem kl0(F:Fun K "values" "values" (top 3) fa fd)(T:Txt mg)  : FnOk P w K mg base CX0 1 fa fd ["part"] (spN K m_values) :=
 okN (k:=0) (G:=qw0) F li0 (λJ A outer s H E hr=>(v6 (d7 (j8 R0 U4 (o6 (w6 0) p6) Y0)
   (v6 (K4 (O3 v9))
   u0)
   u0)
   (v6 (d7 (j8 R0 U4 (o6 (w6 0) p6) Y0)
   (v6 (K4 (ri0 T.b_list b_list (o6 (w6 0) p6)))
   u0)
   u0)
   (v6 (K4 (xu0 (sc:=p8 (top 3)) (N:=["part"]) (N':=["pair"]) (n:=1) (caps:=[]) ⟨rfl,by decide +kernel,by decide +kernel,by decide +kernel,by decide +kernel,rfl,by decide +kernel⟩ (by decide) (ve0 (o6 (w6 0) (y40 p6))) (λcl s H ex=>o5 0 (by decide +kernel:(["pair"]:List Str).Nodup)) (λcl s H ex=>O7) (λcl s H ex=>(o6 (w6 0) p6))))
   u0)))) (λds d h=>xo0 h)
theorem qa0:FnScope ["both"] ["both"] (p8 (top 5)):=⟨rfl,rfl,rfl,by decide +kernel,rfl,by decide +kernel,by decide +kernel⟩
theorem rm0(F:Fun K "are_links" "are_links" (top 5) fa fd)(T:Txt mg)  : FnOk P w K mg base CX0 1 fa fd ["both"] (spD K M4) :=
 okD (k:=0) (G:=vu0) F qa0 (λJ A outer s H E hr=>(v6 (o9 (wk0 (xd0 y70 b_tuple T.b_isinstance T.b_tuple (o6 (w6 0) p6)) (t50 (xd0 y70 b_tuple T.b_isinstance T.b_tuple (o6 (w6 0) p6)))))
   u0)) (λds d h=>W6 h)
theorem t90:FnScope ["both"] ["both"] (p8 (top 6)):=⟨rfl,rfl,rfl,by decide +kernel,rfl,by decide +kernel,by decide +kernel⟩
theorem tq0(F:Fun K "linked_pair" "linked_pair" (top 6) fa fd)(T:Txt mg)  : FnOk P w K mg base CX0 1 fa fd ["both"] (spD K R6) :=
 okD (k:=0) (G:=w80) F t90 (λJ A outer s H E hr=>(v6 (o9 (W0 (v5 (o6 (o6 (w6 0) p6) p6) (v5 (o6 (o6 (w6 0) p6) p6) v9))))
   u0)) (λds d h=>W6 h)
theorem q20:FnScope ["web", "pairs"] ["web", "pairs"] (p8 (top 7)):=⟨rfl,rfl,rfl,by decide +kernel,rfl,by decide +kernel,by decide +kernel⟩
theorem pg0(F:Fun K "is_closed" "is_closed" (top 7) fa fd)(T:Txt mg)(C_are_closed:FnD P w K mg base "are_closed" 4 ["one", "other", "pairs"] Q9):FnOk P w K mg base CX0 5 fa fd ["web", "pairs"] (spD K M7) :=
 okD (k:=4) (G:=vq0) F q20 (λJ A outer s H E hr=>(v6 (o9 (Z5 C_are_closed hr (by decide) (v5 (w6 0) (v5 (w6 0) (v5 (w6 1) v9)))))
   u0)) (λds d h=>W6 h)
theorem w90:FnScope ["one", "other", "pairs", "listed"] ["one", "other", "pairs"] (p8 (top 8)):=⟨rfl,rfl,rfl,by decide +kernel,rfl,by decide +kernel,by decide +kernel⟩
theorem sr0(F:Fun K "are_closed" "are_closed" (top 8) fa fd)(T:Txt mg)(C_are_parts:FnD P w K mg base "are_parts" 1 ["one", "other", "pair"] N7)(C_is_upheld:FnD P w K mg base "is_upheld" 3 ["one", "other", "pair", "listed"] N6):FnOk P w K mg base CX0 4 fa fd ["one", "other", "pairs"] (spD K Q9) :=
 okD (k:=3) (G:=wn0) F w90 (λJ A outer s H E hr=>(v6 (m9 (PDF.pd (kn0 (w4 (Au0 (by decide:2<=64) _) hr.units) rfl T.b_dict b_dict (z40 (sc:=p8 (top 8)) (N:=["one", "other", "pairs", "listed"]) (N':=["pair"]) (n:=1) (caps:=[]) ⟨rfl,by decide +kernel,by decide +kernel,by decide +kernel,by decide +kernel,rfl,by decide +kernel⟩ (by decide) (G5 (w6 2)) (λcl s H ex=>o5 0 (by decide +kernel:(["pair"]:List Str).Nodup)) (λcl s H ex=>O7) (λcl s H ex=>(W0 (v5 (w6 0) (v5 z60 v9))))))) (o5 3 w90.nd))
   (v6 (o9 (qm0 (i20 rfl) ft0 T.b_all b_all (v5 (z40 (sc:=p8 (top 8)) (N:=["one", "other", "pairs", "listed"]) (N':=["pair", "one", "other", "listed"]) (n:=1) (caps:=[0,1,3]) ⟨rfl,by decide +kernel,by decide +kernel,by decide +kernel,by decide +kernel,rfl,by decide +kernel⟩ (by decide) (G5 (w6 2)) (λcl s H ex=>o5 0 (by decide +kernel:(["pair", "one", "other", "listed"]:List Str).Nodup)) (λcl s H ex=>O7) (λcl s H ex=>(wk0 (Z5 C_are_parts hr (by decide) (v5 (w6 1) (v5 (w6 2) (v5 (w6 0) v9)))) (t50 (Z5 C_is_upheld hr (by decide) (v5 (w6 1) (v5 (w6 2) (v5 (w6 0) (v5 (w6 3) v9))))))))) v9)))
   u0))) (λds d h=>W6 h)
theorem p90:FnScope ["one", "other", "pair"] ["one", "other", "pair"] (p8 (top 9)):=⟨rfl,rfl,rfl,by decide +kernel,rfl,by decide +kernel,by decide +kernel⟩
theorem rg0(F:Fun K "are_parts" "are_parts" (top 9) fa fd)(T:Txt mg)  : FnOk P w K mg base CX0 1 fa fd ["one", "other", "pair"] (spD K N7) :=
 okD (k:=0) (G:=u00) F p90 (λJ A outer s H E hr=>(v6 (o9 (wk0 (re0 ie0 kd0 yw0 y00 p6 (o6 (w6 2) p6) (U3 T.b_len (v5 (w6 0) v9))) (t50 (re0 ie0 kd0 yw0 y00 p6 (o6 (w6 2) p6) (U3 T.b_len (v5 (w6 1) v9))))))
   u0)) (λds d h=>W6 h)
theorem wp0:FnScope ["one", "other", "pair", "listed", "both"] ["one", "other", "pair", "listed"] (p8 (top 10)):=⟨rfl,rfl,rfl,by decide +kernel,rfl,by decide +kernel,by decide +kernel⟩
theorem pr0(F:Fun K "is_upheld" "is_upheld" (top 10) fa fd)(T:Txt mg)(C_are_links:FnD P w K mg base "are_links" 1 ["both"] M4)(C_head:FnD P w K mg base "head" 2 ["part"] z20)(C_linked_pair:FnD P w K mg base "linked_pair" 1 ["both"] R6)(C_values:FnN P w K mg base "values" 1 ["part"] m_values):FnOk P w K mg base CX0 3 fa fd ["one", "other", "pair", "listed"] (spD K N6) :=
 okD (k:=2) (G:=vs0) F wp0 (λJ A outer s H E hr=>(v6 (d7 (j8 (wo0 hr.units) xi0 (Z5 C_head hr (by decide) (v5 (o6 (w6 0) (o6 (w6 2) p6)) v9)) (Z5 C_head hr (by decide) (v5 (o6 (w6 1) (o6 (w6 2) p6)) v9)))
   (v6 (o9 z60)
   u0)
   u0)
   (v6 (S6 C5 rfl (ja0 T.b_zip (v5 (zg0 C_values hr (by decide) (v5 (o6 (w6 0) (o6 (w6 2) p6)) v9)) (v5 (zg0 C_values hr (by decide) (v5 (o6 (w6 1) (o6 (w6 2) p6)) v9)) v9))) (o5 4 wp0.nd)
   (v6 (d7 (z80 (Z5 C_are_links hr (by decide) (v5 (w6 4) v9)))
   (v6 (d7 (ua0 (t60 hr) (Z5 C_linked_pair hr (by decide) (v5 (w6 4) v9)) (w6 3))
   (v6 (o9 z60)
   u0)
   u0)
   u0)
   (v6 (d7 (j8 (wo0 hr.units) xi0 (o6 (w6 4) p6) (o6 (w6 4) p6))
   (v6 (o9 z60)
   u0)
   u0)
   u0))
   u0))
   (v6 (o9 z60)
   u0)))) (λds d h=>W6 h)
theorem t10:FnScope ["_law_script", "_law_k"] ["_law_script", "_law_k"] (p8 (top 12)):=⟨rfl,rfl,rfl,by decide +kernel,rfl,by decide +kernel,by decide +kernel⟩
theorem un0(F:Fun K "_law_cell_at" "_law_cell_at" (top 12) fa fd)(T:Txt mg)  : FnOk P w K mg base CX0 1 fa fd ["_law_script", "_law_k"] (spD K j7) :=
 okD (k:=0) (G:=xm0) F t10 (λJ A outer s H E hr=>(v6 (d7 (j8 yw0 y00 (w6 1) (U3 T.b_len (v5 (w6 0) v9)))
   (v6 (o9 (o6 (w6 0) (w6 1)))
   u0)
   u0)
   (v6 (o9 p6)
   u0))) (λds d h=>W6 h)
theorem W2:FnScope ["_law_cell", "_law_turn", "_law_signs", "_law_size", "_law_places", "_law_k", "_law_word", "_law_at", "_law_found", "_law_sign"] ["_law_cell", "_law_turn"] (p8 (top 13)):=⟨rfl,rfl,rfl,by decide +kernel,rfl,by decide +kernel,by decide +kernel⟩
theorem pi0(F:Fun K "_law_pool" "_law_pool" (top 13) fa fd)(T:Txt mg)  : FnOk P w K mg base CX0 1 fa fd ["_law_cell", "_law_turn"] (spN K J6) :=
 okN (k:=0) (G:=vr0) F W2 (λJ A outer s H E hr=>(v6 (m9 Y0 (o5 2 W2.nd))
   (v6 (m9 (Z1 p6 (b8 (w6 0) p6)) (o5 3 W2.nd))
   (v6 (m9 (Y8 (w6 0) p6) (o5 0 W2.nd))
   (v6 (O5 4 (O3 v9) W2.nd)
   (v6 (S6 C5 rfl (W4 T.b_range (v5 (w6 3) v9)) (o5 5 W2.nd)
   (v6 (O8 (zo0 4 (b8 (w6 0) p6)))
   (v6 (m9 (Y8 (w6 0) p6) (o5 0 W2.nd))
   u0)))
   (v6 (m9 (um0 (fc0 Y0 (v5 (z40 (sc:=p8 (top 13)) (N:=["_law_cell", "_law_turn", "_law_signs", "_law_size", "_law_places", "_law_k", "_law_word", "_law_at", "_law_found", "_law_sign"]) (N':=["_law_k", "_law_signs"]) (n:=1) (caps:=[2]) ⟨rfl,by decide +kernel,by decide +kernel,by decide +kernel,by decide +kernel,rfl,by decide +kernel⟩ (by decide) (G5 (w6 4)) (λcl s H ex=>o5 0 (by decide +kernel:(["_law_k", "_law_signs"]:List Str).Nodup)) (λcl s H ex=>O7) (λcl s H ex=>(o6 (w6 1) (w6 0)))) v9))) (o5 6 W2.nd))
   (v6 (d7 (j8 R0 U4 (b8 (Y8 (w6 1) p6) p6) p6)
   (v6 (K4 (xu0 (sc:=p8 (top 13)) (N:=["_law_cell", "_law_turn", "_law_signs", "_law_size", "_law_places", "_law_k", "_law_word", "_law_at", "_law_found", "_law_sign"]) (N':=["_law_k", "_law_word"]) (n:=1) (caps:=[6]) ⟨rfl,by decide +kernel,by decide +kernel,by decide +kernel,by decide +kernel,rfl,by decide +kernel⟩ (by decide) (nz0 T.b_range (v5 p6 (v5 p6 v9))) (λcl s H ex=>o5 0 (by decide +kernel:(["_law_k", "_law_word"]:List Str).Nodup)) (λcl s H ex=>O7) (λcl s H ex=>(Q5 (g50 p6 (w6 1)) K6 (R5 (w6 0))))))
   u0)
   u0)
   (v6 (m9 (b8 (w6 1) (w6 3)) (o5 7 W2.nd))
   (v6 (O5 8 (O3 v9) W2.nd)
   (v6 (S6 C5 rfl (W4 T.b_range (v5 p6 v9)) (o5 5 W2.nd)
   (v6 (m9 (o6 (w6 2) (b8 (Z1 (um0 (o6 (w6 4) (w6 7))) (R3 p6 (w6 5))) p6)) (o5 9 W2.nd))
   (v6 (O8 (zo0 8 (Z1 (Z1 (Q5 (w6 6) K6 (R5 (w6 7))) (w6 9)) (Q5 (w6 6) (R5 (Z1 (w6 7) p6)) K6))))
   u0)))
   (v6 (u20 8)
   u0)))))))))))) (λds d h=>xo0 h)
theorem oe0:FnScope ["_law_cell", "_law_k"] ["_law_cell", "_law_k"] (p8 (top 14)):=⟨rfl,rfl,rfl,by decide +kernel,rfl,by decide +kernel,by decide +kernel⟩
theorem pv0(F:Fun K "_law_mix" "_law_mix" (top 14) fa fd)(T:Txt mg)  : FnOk P w K mg base CX0 1 fa fd ["_law_cell", "_law_k"] (spD K X6) :=
 okD (k:=0) (G:=t30) F oe0 (λJ A outer s H E hr=>(v6 (o9 (b8 (R3 (Z1 (b8 (w6 0) p6) p6) (Z1 p6 (R3 p6 (w6 1)))) p6))
   u0)) (λds d h=>W6 h)
theorem w60:FnScope ["_law_number", "_law_many", "_law_kind"] ["_law_number", "_law_many"] (p8 (top 15)):=⟨rfl,rfl,rfl,by decide +kernel,rfl,by decide +kernel,by decide +kernel⟩
theorem sv0(F:Fun K "_law_value" "_law_value" (top 15) fa fd)(T:Txt mg)  : FnOk P w K mg base CX0 1 fa fd ["_law_number", "_law_many"] (spD K T3) :=
 okD (k:=0) (G:=wr0) F w60 (λJ A outer s H E hr=>(v6 (m9 (b8 (w6 0) p6) (o5 2 w60.nd))
   (v6 (d7 (j8 yw0 y00 (w6 2) p6)
   (v6 (o9 (W0 (v5 Y0 (v5 (b8 (Y8 (w6 0) p6) (w6 1)) v9))))
   u0)
   u0)
   (v6 (d7 (j8 R0 U4 (w6 2) p6)
   (v6 (o9 yp0)
   u0)
   u0)
   (v6 (d7 (j8 yw0 y00 (w6 2) p6)
   (v6 (o9 (kg0 (b8 (Y8 (w6 0) p6) p6) p6))
   u0)
   u0)
   (v6 (o9 (R3 (b8 (k00 (Y8 (w6 0) p6) p6) (k00 p6 p6)) (kg0 p6 (R3 p6 (b8 (Y8 (w6 0) p6) p6)))))
   u0)))))) (λds d h=>W6 h)
theorem z50:FnScope ["_law_number", "_law_count", "_law_many", "_law_found", "_law_k"] ["_law_number", "_law_count", "_law_many"] (p8 (top 16)):=⟨rfl,rfl,rfl,by decide +kernel,rfl,by decide +kernel,by decide +kernel⟩
theorem te0(F:Fun K "_law_values" "_law_values" (top 16) fa fd)(T:Txt mg)(C__law_value:FnD P w K mg base "_law_value" 1 ["_law_number", "_law_many"] T3):FnOk P w K mg base CX0 2 fa fd ["_law_number", "_law_count", "_law_many"] (spN K O6) :=
 okN (k:=1) (G:=w70) F z50 (λJ A outer s H E hr=>(v6 (O5 3 (O3 v9) z50.nd)
   (v6 (S6 C5 rfl (W4 T.b_range (v5 (w6 1) v9)) (o5 4 z50.nd)
   (v6 (m9 (b8 (R3 (w6 0) p6) p6) (o5 0 z50.nd))
   (v6 (O8 (zo0 3 (Z5 C__law_value hr (by decide) (v5 (w6 0) (v5 (w6 2) v9)))))
   u0)))
   (v6 (u20 3)
   u0)))) (λds d h=>xo0 h)
theorem zl0:FnScope ["_law_number", "_law_some", "_law_pool_here", "_law_kind", "_law_start", "_law_pairs_here"] ["_law_number", "_law_some", "_law_pool_here"] (p8 (top 17)):=⟨rfl,rfl,rfl,by decide +kernel,rfl,by decide +kernel,by decide +kernel⟩
theorem p00(F:Fun K "_law_part" "_law_part" (top 17) fa fd)(T:Txt mg)  : FnOk P w K mg base CX0 1 fa fd ["_law_number", "_law_some", "_law_pool_here"] (spD K J7) :=
 okD (k:=0) (G:=vw0) F zl0 (λJ A outer s H E hr=>(v6 (m9 (b8 (w6 0) p6) (o5 3 zl0.nd))
   (v6 (d7 (j8 R0 U4 (w6 3) p6)
   (v6 (o9 (W0 (v5 Y0 (v5 (o6 (zc0 (v5 Y0 (v5 Y0 (v5 Y0 (v5 (Z1 (o6 (w6 2) p6) Y0) v9))))) (b8 (Y8 (w6 0) p6) p6)) v9))))
   u0)
   u0)
   (v6 (d7 (j8 yw0 y00 (w6 3) p6)
   (v6 (o9 (W0 (v5 Y0 (v5 (T4 V7 zm0 T.b_tuple b_tuple (v5 (w6 1) v9)) v9))))
   u0)
   u0)
   (v6 (m9 (R3 (b8 (Y8 (w6 0) p6) p6) p6) (o5 4 zl0.nd))
   (v6 (m9 (T4 V7 zm0 T.b_tuple b_tuple (v5 (z40 (sc:=p8 (top 17)) (N:=["_law_number", "_law_some", "_law_pool_here", "_law_kind", "_law_start", "_law_pairs_here"]) (N':=["_law_k", "_law_some", "_law_pool_here", "_law_start"]) (n:=1) (caps:=[1,2,4]) ⟨rfl,by decide +kernel,by decide +kernel,by decide +kernel,by decide +kernel,rfl,by decide +kernel⟩ (by decide) (W4 T.b_range (v5 (U3 T.b_len (v5 (w6 1) v9)) v9)) (λcl s H ex=>o5 0 (by decide +kernel:(["_law_k", "_law_some", "_law_pool_here", "_law_start"]:List Str).Nodup)) (λcl s H ex=>O7) (λcl s H ex=>(W0 (v5 (o6 (w6 2) (b8 (Z1 (w6 3) (w6 0)) p6)) (v5 (o6 (w6 1) (w6 0)) v9))))) v9)) (o5 5 zl0.nd))
   (v6 (d7 (j8 yw0 y00 (w6 3) p6)
   (v6 (o9 (W0 (v5 Y0 (v5 (w6 5) v9))))
   u0)
   u0)
   (v6 (o9 (W0 (v5 Y0 (v5 (o6 (w6 2) (b8 (Y8 (w6 0) p6) p6)) (v5 (w6 5) v9)))))
   u0)))))))) (λds d h=>W6 h)
theorem M6:FnScope ["_law_cells", "_law_many", "_law_pool_here", "_law_parts", "_law_k", "_law_number", "_law_count", "_law_some"] ["_law_cells", "_law_many", "_law_pool_here"] (p8 (top 18)):=⟨rfl,rfl,rfl,by decide +kernel,rfl,by decide +kernel,by decide +kernel⟩
theorem o80(F:Fun K "_law_web" "_law_web" (top 18) fa fd)(T:Txt mg)(C__law_mix:FnD P w K mg base "_law_mix" 1 ["_law_cell", "_law_k"] X6)(C__law_part:FnD P w K mg base "_law_part" 1 ["_law_number", "_law_some", "_law_pool_here"] J7)(C__law_values:FnN P w K mg base "_law_values" 2 ["_law_number", "_law_count", "_law_many"] O6):FnOk P w K mg base CX0 3 fa fd ["_law_cells", "_law_many", "_law_pool_here"] (spD K z30) :=
 okD (k:=2) (G:=uz0) F M6 (λJ A outer s H E hr=>(v6 (O5 3 (O3 v9) M6.nd)
   (v6 (S6 C5 rfl (W4 T.b_range (v5 (w6 1) v9)) (o5 4 M6.nd)
   (v6 (m9 (Z5 C__law_mix hr (by decide) (v5 (Z1 (o6 (w6 0) (b8 (w6 4) (U3 T.b_len (v5 (w6 0) v9)))) (R3 (w6 4) (Y8 (w6 4) (U3 T.b_len (v5 (w6 0) v9))))) (v5 (w6 4) v9))) (o5 5 M6.nd))
   (v6 (m9 (o6 (zc0 (v5 p6 (v5 p6 (v5 p6 (v5 p6 (v5 p6 (v5 p6 (v5 p6 (v5 p6 v9))))))))) (b8 (Y8 (w6 5) p6) p6)) (o5 6 M6.nd))
   (v6 (d7 (j8 R0 U4 (b8 (Y8 (w6 5) p6) p6) p6)
   (v6 (m9 (o6 (zc0 (v5 p6 (v5 p6 v9))) (T4 mw0 dz0 T.b_int b_int (v5 (qp0 yw0 y00 (b8 (w6 5) p6) p6) v9))) (o5 6 M6.nd))
   u0)
   u0)
   (v6 (m9 (zg0 C__law_values hr (by decide) (v5 (Z1 (Y8 (w6 5) p6) p6) (v5 (w6 6) (v5 (w6 1) v9)))) (o5 7 M6.nd))
   (v6 (O8 (zo0 3 (Z5 C__law_part hr (by decide) (v5 (w6 5) (v5 (w6 7) (v5 (w6 2) v9))))))
   u0))))))
   (v6 (yr0 (T4 V7 zm0 T.b_tuple b_tuple (v5 (w6 3) v9)))
   u0)))) (λds d h=>W6 h)
theorem qr0:FnScope ["_law_part_here"] ["_law_part_here"] (p8 (top 19)):=⟨rfl,rfl,rfl,by decide +kernel,rfl,by decide +kernel,by decide +kernel⟩
theorem p80(F:Fun K "_law_vals" "_law_vals" (top 19) fa fd)(T:Txt mg)  : FnOk P w K mg base CX0 1 fa fd ["_law_part_here"] (spN K Z6) :=
 okN (k:=0) (G:=vp0) F qr0 (λJ A outer s H E hr=>(v6 (d7 (j8 R0 U4 (o6 (w6 0) p6) Y0)
   (v6 (K4 (O3 v9))
   u0)
   u0)
   (v6 (d7 (j8 R0 U4 (o6 (w6 0) p6) Y0)
   (v6 (K4 (ri0 T.b_list b_list (o6 (w6 0) p6)))
   u0)
   u0)
   (v6 (K4 (xu0 (sc:=p8 (top 19)) (N:=["_law_part_here"]) (N':=["_law_name", "_law_value_here"]) (n:=2) (caps:=[]) ⟨rfl,by decide +kernel,by decide +kernel,by decide +kernel,by decide +kernel,rfl,by decide +kernel⟩ (by decide) (ve0 (o6 (w6 0) (y40 p6))) (λcl s H ex=>pc0 0 1 (by decide +kernel:(["_law_name", "_law_value_here"]:List Str).Nodup) (by decide)) (λcl s H ex=>O7) (λcl s H ex=>(w6 1))))
   u0)))) (λds d h=>xo0 h)
theorem qq0:FnScope ["_law_part_here"] ["_law_part_here"] (p8 (top 20)):=⟨rfl,rfl,rfl,by decide +kernel,rfl,by decide +kernel,by decide +kernel⟩
theorem rt0(F:Fun K "_law_head" "_law_head" (top 20) fa fd)(T:Txt mg)  : FnOk P w K mg base CX0 1 fa fd ["_law_part_here"] (spD K Q0) :=
 okD (k:=0) (G:=u10) F qq0 (λJ A outer s H E hr=>(v6 (d7 (j8 R0 U4 (o6 (w6 0) p6) Y0)
   (v6 (o9 (W0 (v5 Y0 (v5 (U3 T.b_len (v5 (o6 (w6 0) p6) v9)) v9))))
   u0)
   u0)
   (v6 (d7 (j8 R0 U4 (o6 (w6 0) p6) Y0)
   (v6 (o9 (w6 0))
   u0)
   u0)
   (v6 (o9 (Z1 (Q5 (w6 0) K6 (R5 (y40 p6))) (W0 (v5 (T4 V7 zm0 T.b_tuple b_tuple (v5 (z40 (sc:=p8 (top 20)) (N:=["_law_part_here"]) (N':=["_law_name", "_law_value_here"]) (n:=2) (caps:=[]) ⟨rfl,by decide +kernel,by decide +kernel,by decide +kernel,by decide +kernel,rfl,by decide +kernel⟩ (by decide) (ve0 (o6 (w6 0) (y40 p6))) (λcl s H ex=>pc0 0 1 (by decide +kernel:(["_law_name", "_law_value_here"]:List Str).Nodup) (by decide)) (λcl s H ex=>O7) (λcl s H ex=>(w6 0))) v9)) v9))))
   u0)))) (λds d h=>W6 h)
theorem qo0:FnScope ["_law_part_here", "_law_some"] ["_law_part_here", "_law_some"] (p8 (top 21)):=⟨rfl,rfl,rfl,by decide +kernel,rfl,by decide +kernel,by decide +kernel⟩
theorem rl0(F:Fun K "_law_with" "_law_with" (top 21) fa fd)(T:Txt mg)  : FnOk P w K mg base CX0 1 fa fd ["_law_part_here", "_law_some"] (spD K W8) :=
 okD (k:=0) (G:=vt0) F qo0 (λJ A outer s H E hr=>(v6 (d7 (j8 R0 U4 (o6 (w6 0) p6) Y0)
   (v6 (o9 (w6 0))
   u0)
   u0)
   (v6 (d7 (j8 R0 U4 (o6 (w6 0) p6) Y0)
   (v6 (o9 (W0 (v5 Y0 (v5 (T4 V7 zm0 T.b_tuple b_tuple (v5 (w6 1) v9)) v9))))
   u0)
   u0)
   (v6 (o9 (Z1 (Q5 (w6 0) K6 (R5 (y40 p6))) (W0 (v5 (T4 V7 zm0 T.b_tuple b_tuple (v5 (z40 (sc:=p8 (top 21)) (N:=["_law_part_here", "_law_some"]) (N':=["_law_k", "_law_part_here", "_law_some"]) (n:=1) (caps:=[0,1]) ⟨rfl,by decide +kernel,by decide +kernel,by decide +kernel,by decide +kernel,rfl,by decide +kernel⟩ (by decide) (W4 T.b_range (v5 (U3 T.b_len (v5 (w6 1) v9)) v9)) (λcl s H ex=>o5 0 (by decide +kernel:(["_law_k", "_law_part_here", "_law_some"]:List Str).Nodup)) (λcl s H ex=>O7) (λcl s H ex=>(W0 (v5 (o6 (o6 (o6 (w6 1) (y40 p6)) (w6 0)) p6) (v5 (o6 (w6 2) (w6 0)) v9))))) v9)) v9))))
   u0)))) (λds d h=>W6 h)
theorem V3:FnScope ["_law_web_here", "_law_times", "_law_cell", "_law_parts", "_law_k", "_law_turn", "_law_some", "_law_number", "_law_value_here"] ["_law_web_here", "_law_times", "_law_cell"] (p8 (top 23)):=⟨rfl,rfl,rfl,by decide +kernel,rfl,by decide +kernel,by decide +kernel⟩
theorem tw0(F:Fun K "_law_unfold" "_law_unfold" (top 23) fa fd)(T:Txt mg)(C__law_mix:FnD P w K mg base "_law_mix" 1 ["_law_cell", "_law_k"] X6)(C__law_vals:FnN P w K mg base "_law_vals" 1 ["_law_part_here"] Z6)(C__law_with:FnD P w K mg base "_law_with" 1 ["_law_part_here", "_law_some"] W8):FnOk P w K mg base CX0 2 fa fd ["_law_web_here", "_law_times", "_law_cell"] (spD K J2) :=
 okD (k:=1) (G:=w50) F V3 (λJ A outer s H E hr=>(v6 (O5 3 (O3 v9) V3.nd)
   (v6 (S6 C5 rfl (W4 T.b_range (v5 (U3 T.b_len (v5 (w6 0) v9)) v9)) (o5 4 V3.nd)
   (v6 (S6 C5 rfl (W4 T.b_range (v5 (w6 1) v9)) (o5 5 V3.nd)
   (v6 (O5 6 (O3 v9) V3.nd)
   (v6 (m9 (Z5 C__law_mix hr (by decide) (v5 (Z1 (w6 2) (R3 (w6 5) (w6 5))) (v5 (Z1 (w6 4) p6) v9))) (o5 7 V3.nd))
   (v6 (S6 C5 rfl (G5 (zg0 C__law_vals hr (by decide) (v5 (o6 (w6 0) (w6 4)) v9))) (o5 8 V3.nd)
   (v6 (m9 (b8 (R3 (w6 7) p6) p6) (o5 7 V3.nd))
   (v6 (d7 (z80 (xd0 y70 b_tuple T.b_isinstance T.b_tuple (w6 8)))
   (v6 (m9 (W0 (v5 Y0 (v5 (Z1 (R3 (o6 (w6 8) p6) (w6 1)) (b8 (w6 7) (w6 1))) v9))) (o5 8 V3.nd))
   u0)
   u0)
   (v6 (O8 (zo0 6 (w6 8)))
   u0))))
   (v6 (O8 (zo0 3 (fj0 (Z5 C__law_with hr (by decide) (v5 (o6 (w6 0) (w6 4)) (v5 (w6 6) v9))))))
   u0)))))
   u0))
   (v6 (yr0 (T4 V7 zm0 T.b_tuple b_tuple (v5 (w6 3) v9)))
   u0)))) (λds d h=>W6 h)
theorem zi0:FnScope ["_law_script", "_law_most", "_law_pool_here", "_law_turn", "_law_many"] ["_law_script", "_law_most"] (p8 (top 24)):=⟨rfl,rfl,rfl,by decide +kernel,rfl,by decide +kernel,by decide +kernel⟩
theorem sp0(F:Fun K "_law_small" "_law_small" (top 24) fa fd)(T:Txt mg)(C__law_cell_at:FnD P w K mg base "_law_cell_at" 1 ["_law_script", "_law_k"] j7)(C__law_pool:FnN P w K mg base "_law_pool" 1 ["_law_cell", "_law_turn"] J6)(C__law_web:FnD P w K mg base "_law_web" 3 ["_law_cells", "_law_many", "_law_pool_here"] z30):FnOk P w K mg base CX0 4 fa fd ["_law_script", "_law_most"] (spD K G7) :=
 okD (k:=3) (G:=v70) F zi0 (λJ A outer s H E hr=>(v6 (m9 (zg0 C__law_pool hr (by decide) (v5 (Z5 C__law_cell_at hr (by decide) (v5 (w6 0) (v5 p6 v9))) (v5 (Z5 C__law_cell_at hr (by decide) (v5 (w6 0) (v5 p6 v9))) v9))) (o5 2 zi0.nd))
   (v6 (m9 (Z5 C__law_cell_at hr (by decide) (v5 (w6 0) (v5 p6 v9))) (o5 3 zi0.nd))
   (v6 (m9 (Z1 p6 (b8 (w6 3) (w6 1))) (o5 4 zi0.nd))
   (v6 (o9 (Z5 C__law_web hr (by decide) (v5 (Z1 (Q5 (w6 0) (R5 p6) (R5 p6)) (zc0 (v5 (Z5 C__law_cell_at hr (by decide) (v5 (w6 0) (v5 p6 v9))) v9))) (v5 (w6 4) (v5 (w6 2) v9)))))
   u0))))) (λds d h=>W6 h)
theorem J9:FnScope ["_law_web_here", "_law_cell", "_law_k", "_law_some", "_law_at"] ["_law_web_here", "_law_cell"] (p8 (top 25)):=⟨rfl,rfl,rfl,by decide +kernel,rfl,by decide +kernel,by decide +kernel⟩
theorem uq0(F:Fun K "_law_changed" "_law_changed" (top 25) fa fd)(T:Txt mg)(C__law_vals:FnN P w K mg base "_law_vals" 1 ["_law_part_here"] Z6)(C__law_value:FnD P w K mg base "_law_value" 1 ["_law_number", "_law_many"] T3)(C__law_with:FnD P w K mg base "_law_with" 1 ["_law_part_here", "_law_some"] W8):FnOk P w K mg base CX0 2 fa fd ["_law_web_here", "_law_cell"] (spD K S5) :=
 okD (k:=1) (G:=xj0) F J9 (λJ A outer s H E hr=>(v6 (m9 (b8 (w6 1) (U3 T.b_len (v5 (w6 0) v9))) (o5 2 J9.nd))
   (v6 (O5 3 (k70 C__law_vals hr (by decide) (v5 (o6 (w6 0) (w6 2)) v9)) J9.nd)
   (v6 (d7 (oz0 (j8 (uv0 hr.units) vi0 (w6 3) (zc0 v9)))
   (v6 (o9 (w6 0))
   u0)
   u0)
   (v6 (m9 (b8 (Y8 (w6 1) p6) (um0 (U3 T.b_len (v5 (w6 3) v9)))) (o5 4 J9.nd))
   (v6 (xv0 (tg0 (Z5 C__law_value hr (by decide) (v5 (b8 (Y8 (w6 1) p6) p6) (v5 (U3 T.b_len (v5 (w6 0) v9)) v9)))) (fd0 3 (w6 4)))
   (v6 (yr0 (Z1 (Z1 (Q5 (w6 0) K6 (R5 (w6 2))) (W0 (v5 (Z5 C__law_with hr (by decide) (v5 (o6 (w6 0) (w6 2)) (v5 (w6 3) v9))) v9))) (Q5 (w6 0) (R5 (Z1 (w6 2) p6)) K6)))
   u0))))))) (λds d h=>W6 h)
theorem K8:FnScope ["_law_one", "_law_other", "_law_pair", "_law_found", "_law_first", "_law_second", "_law_k"] ["_law_one", "_law_other", "_law_pair"] (p8 (top 26)):=⟨rfl,rfl,rfl,by decide +kernel,rfl,by decide +kernel,by decide +kernel⟩
theorem sn0(F:Fun K "_law_go_on" "_law_go_on" (top 26) fa fd)(T:Txt mg)(C__law_head:FnD P w K mg base "_law_head" 1 ["_law_part_here"] Q0)(C__law_vals:FnN P w K mg base "_law_vals" 1 ["_law_part_here"] Z6):FnOk P w K mg base CX0 2 fa fd ["_law_one", "_law_other", "_law_pair"] (spD K Z4) :=
 okD (k:=1) (G:=v30) F K8 (λJ A outer s H E hr=>(v6 (O5 3 (O3 v9) K8.nd)
   (v6 (m9 (zg0 C__law_vals hr (by decide) (v5 (o6 (w6 0) (o6 (w6 2) p6)) v9)) (o5 4 K8.nd))
   (v6 (m9 (zg0 C__law_vals hr (by decide) (v5 (o6 (w6 1) (o6 (w6 2) p6)) v9)) (o5 5 K8.nd))
   (v6 (d7 (j8 (wo0 hr.units) xi0 (Z5 C__law_head hr (by decide) (v5 (o6 (w6 0) (o6 (w6 2) p6)) v9)) (Z5 C__law_head hr (by decide) (v5 (o6 (w6 1) (o6 (w6 2) p6)) v9)))
   (v6 (o9 yp0)
   u0)
   u0)
   (v6 (S6 C5 rfl (W4 T.b_range (v5 (U3 T.b_len (v5 (w6 4) v9)) v9)) (o5 6 K8.nd)
   (v6 (d7 (PWD.pt (f50 (z80 (xd0 y70 b_tuple T.b_isinstance T.b_tuple (o6 (w6 4) (w6 6)))) (jl0 (z80 (xd0 y70 b_tuple T.b_isinstance T.b_tuple (o6 (w6 5) (w6 6)))))))
   (v6 (O8 (zo0 3 (W0 (v5 (o6 (o6 (w6 4) (w6 6)) p6) (v5 (o6 (o6 (w6 5) (w6 6)) p6) v9)))))
   u0)
   (v6 (d7 (j8 (wo0 hr.units) xi0 (o6 (w6 4) (w6 6)) (o6 (w6 5) (w6 6)))
   (v6 (o9 yp0)
   u0)
   u0)
   u0))
   u0))
   (v6 (yr0 (w6 3))
   u0))))))) (λds d h=>W6 h)
theorem z10:FnScope ["_law_one", "_law_other", "_law_pair", "_law_known", "_law_waiting", "_law_more", "_law_fresh"] ["_law_one", "_law_other", "_law_pair"] (p8 (top 27)):=⟨rfl,rfl,rfl,by decide +kernel,rfl,by decide +kernel,by decide +kernel⟩
theorem rr0(F:Fun K "_law_shut" "_law_shut" (top 27) fa fd)(T:Txt mg)(C__law_go_on:FnD P w K mg base "_law_go_on" 2 ["_law_one", "_law_other", "_law_pair"] Z4):FnOk P w K mg base CX0 3 fa fd ["_law_one", "_law_other", "_law_pair"] (spD K Q4) :=
 okD (k:=2) (G:=vy0) F z10 (λJ A outer s H E hr=>(v6 (O5 3 (lp0 (w4 (E9 _ 64) hr.units) (w6 2) z60) z10.nd)
   (v6 (O5 4 (O3 (v5 (w6 2) v9)) z10.nd)
   (v6 (lc0 100000 C5 (j8 h50 l70 (um0 (U3 T.b_len (v5 (w6 4) v9))) p6)
   (v6 (xv0 (f80 0 1 C__law_go_on hr (by decide) (ek0 4)) (e60 (o5 5 z10.nd)))
   (v6 (d7 (j8 rw0 tp0 (w6 5) yp0)
   (v6 (o9 yp0)
   u0)
   u0)
   (v6 (S6 C5 rfl (G5 (w6 5)) (o5 6 z10.nd)
   (v6 (d7 (oz0 (ua0 (t60 hr) (w6 6) (w6 3)))
   (v6 (xv0 (tg0 z60) (rq0 3 (t60 hr) (w6 6)))
   (v6 (O8 (zo0 4 (w6 6)))
   u0))
   u0)
   u0))
   u0))))
   (v6 (yr0 (PDF.pd (k30 T.b_sorted b_sorted (T4 (mg0 rfl) ib0 T.b_list b_list (v5 (w6 3) v9)))))
   u0))))) (λds d h=>W6 h)
theorem zb0:FnScope ["_law_web_here", "_law_pairs_here", "_law_there", "_law_pair", "_law_more"] ["_law_web_here", "_law_pairs_here"] (p8 (top 28)):=⟨rfl,rfl,rfl,by decide +kernel,rfl,by decide +kernel,by decide +kernel⟩
theorem og0(F:Fun K "_law_due" "_law_due" (top 28) fa fd)(T:Txt mg)(C__law_go_on:FnD P w K mg base "_law_go_on" 2 ["_law_one", "_law_other", "_law_pair"] Z4):FnOk P w K mg base CX0 3 fa fd ["_law_web_here", "_law_pairs_here"] (spD K K5) :=
 okD (k:=2) (G:=ux0) F zb0 (λJ A outer s H E hr=>(v6 (O5 2 no0 zb0.nd)
   (v6 (S6 C5 rfl (G5 (w6 1)) (o5 3 zb0.nd)
   (v6 (xv0 (tg0 z60) (rq0 2 (t60 hr) (w6 3)))
   u0))
   (v6 (j40 2 (S6 C5 rfl (G5 (w6 1)) (o5 3 zb0.nd)
   (v6 (m9 (Z5 C__law_go_on hr (by decide) (v5 (w6 0) (v5 (w6 0) (v5 (w6 3) v9)))) (o5 4 zb0.nd))
   (v6 (d7 (PWD.pt (ut0 (j8 rw0 tp0 (w6 4) yp0) (vh0 (j8 h50 l70 (U3 T.b_len (v5 (z40 (sc:=p8 (top 28)) (N:=["_law_web_here", "_law_pairs_here", "_law_there", "_law_pair", "_law_more"]) (N':=["_law_fresh", "_law_there"]) (n:=1) (caps:=[2]) ⟨rfl,by decide +kernel,by decide +kernel,by decide +kernel,by decide +kernel,rfl,by decide +kernel⟩ (by decide) (G5 (w6 4)) (λcl s H ex=>o5 0 (by decide +kernel:(["_law_fresh", "_law_there"]:List Str).Nodup)) (λcl s H ex=>(gl0 (ua0 (t60 hr) (w6 0) (w6 1)))) (λcl s H ex=>(w6 0))) v9)) p6))))
   (v6 (o9 z60)
   u0)
   u0)
   u0))))
   (v6 (o9 z60)
   u0))))) (λds d h=>W6 h)
theorem K7:FnScope ["_law_many", "_law_times", "_law_found", "_law_k", "_law_turn"] ["_law_many", "_law_times"] (p8 (top 29)):=⟨rfl,rfl,rfl,by decide +kernel,rfl,by decide +kernel,by decide +kernel⟩
theorem u60(F:Fun K "_law_all_like" "_law_all_like" (top 29) fa fd)(T:Txt mg)  : FnOk P w K mg base CX0 1 fa fd ["_law_many", "_law_times"] (spN K O9) :=
 okN (k:=0) (G:=yy0) F K7 (λJ A outer s H E hr=>(v6 (O5 2 (O3 v9) K7.nd)
   (v6 (S6 C5 rfl (W4 T.b_range (v5 (w6 0) v9)) (o5 3 K7.nd)
   (v6 (S6 C5 rfl (W4 T.b_range (v5 (w6 1) v9)) (o5 4 K7.nd)
   (v6 (O8 (zo0 2 (W0 (v5 (w6 3) (v5 (Z1 (R3 (Y8 (w6 3) (w6 1)) (w6 1)) (w6 4)) v9)))))
   u0))
   u0))
   (v6 (u20 2)
   u0)))) (λds d h=>xo0 h)
theorem yc0:FnScope ["_law_web_here", "_law_pairs_here", "_law_handed", "_law_found"] ["_law_web_here", "_law_pairs_here"] (p8 (top 30)):=⟨rfl,rfl,rfl,by decide +kernel,rfl,by decide +kernel,by decide +kernel⟩
theorem sw0(F:Fun K "_law_asked" "_law_asked" (top 30) fa fd)(T:Txt mg)(C__law_due:FnD P w K mg base "_law_due" 3 ["_law_web_here", "_law_pairs_here"] K5)(C_is_closed:FnD P w K mg base "is_closed" 5 ["web", "pairs"] M7):FnOk P w K mg base CX0 6 fa fd ["_law_web_here", "_law_pairs_here"] (spD K Z3) :=
 okD (k:=5) (G:=wd0) F yc0 (λJ A outer s H E hr=>(v6 (m9 (T4 wl0 f30 T.b_list b_list (v5 (w6 1) v9)) (o5 2 yc0.nd))
   (v6 (m9 (Z5 C_is_closed hr (by decide) (v5 (w6 0) (v5 (w6 2) v9))) (o5 3 yc0.nd))
   (v6 (o9 (wk0 (xd0 jk0 b_bool T.b_isinstance T.b_bool (w6 3)) (wk0 (qp0 (uv0 hr.units) vi0 (w6 3) (Z5 C__law_due hr (by decide) (v5 (w6 0) (v5 (w6 1) v9)))) (t50 (qp0 (uv0 hr.units) vi0 (w6 2) (w6 1))))))
   u0)))) (λds d h=>W6 h)
theorem J3:FnScope ["_law_web_here", "_law_times", "_law_number", "_law_kind", "_law_many", "_law_p", "_law_q", "_law_found"] ["_law_web_here", "_law_times", "_law_number", "_law_kind"] (p8 (top 31)):=⟨rfl,rfl,rfl,by decide +kernel,rfl,by decide +kernel,by decide +kernel⟩
theorem sx0(F:Fun K "_law_pairs" "_law_pairs" (top 31) fa fd)(T:Txt mg)(C__law_all_like:FnN P w K mg base "_law_all_like" 1 ["_law_many", "_law_times"] O9)(C__law_shut:FnD P w K mg base "_law_shut" 3 ["_law_one", "_law_other", "_law_pair"] Q4):FnOk P w K mg base CX0 4 fa fd ["_law_web_here", "_law_times", "_law_number", "_law_kind"] (spD K O1) :=
 okD (k:=3) (G:=v10) F J3 (λJ A outer s H E hr=>(v6 (m9 (U3 T.b_len (v5 (w6 0) v9)) (o5 4 J3.nd))
   (v6 (m9 (b8 (w6 2) (w6 4)) (o5 5 J3.nd))
   (v6 (m9 (Z1 (R3 (Y8 (w6 5) (w6 1)) (w6 1)) (b8 (Y8 (w6 2) p6) (w6 1))) (o5 6 J3.nd))
   (v6 (d7 (j8 R0 U4 (w6 3) p6)
   (v6 (o9 (zg0 C__law_all_like hr (by decide) (v5 (w6 4) (v5 (w6 1) v9))))
   u0)
   u0)
   (v6 (d7 (j8 R0 U4 (w6 3) p6)
   (v6 (o9 (zc0 (v5 (W0 (v5 (w6 5) (v5 (w6 6) v9))) v9)))
   u0)
   u0)
   (v6 (d7 (j8 R0 U4 (w6 3) p6)
   (v6 (o9 (z40 (sc:=p8 (top 31)) (N:=["_law_web_here", "_law_times", "_law_number", "_law_kind", "_law_many", "_law_p", "_law_q", "_law_found"]) (N':=["_law_k", "_law_number", "_law_many"]) (n:=1) (caps:=[2,4]) ⟨rfl,by decide +kernel,by decide +kernel,by decide +kernel,by decide +kernel,rfl,by decide +kernel⟩ (by decide) (W4 T.b_range (v5 (b8 (Y8 (w6 2) p6) p6) v9)) (λcl s H ex=>o5 0 (by decide +kernel:(["_law_k", "_law_number", "_law_many"]:List Str).Nodup)) (λcl s H ex=>O7) (λcl s H ex=>(W0 (v5 (b8 (Y8 (w6 1) (Z1 (w6 0) p6)) (w6 2)) (v5 (b8 (Y8 (w6 1) (Z1 (w6 0) p6)) (w6 2)) v9))))))
   u0)
   u0)
   (v6 (m9 (Z5 C__law_shut hr (by decide) (v5 (w6 0) (v5 (w6 0) (v5 (W0 (v5 (w6 5) (v5 (w6 6) v9))) v9)))) (o5 7 J3.nd))
   (v6 (d7 (j8 rw0 tp0 (w6 7) yp0)
   (v6 (o9 (z40 (sc:=p8 (top 31)) (N:=["_law_web_here", "_law_times", "_law_number", "_law_kind", "_law_many", "_law_p", "_law_q", "_law_found"]) (N':=["_law_k"]) (n:=1) (caps:=[]) ⟨rfl,by decide +kernel,by decide +kernel,by decide +kernel,by decide +kernel,rfl,by decide +kernel⟩ (by decide) (W4 T.b_range (v5 (w6 4) v9)) (λcl s H ex=>o5 0 (by decide +kernel:(["_law_k"]:List Str).Nodup)) (λcl s H ex=>O7) (λcl s H ex=>(W0 (v5 (w6 0) (v5 (w6 0) v9))))))
   u0)
   u0)
   (v6 (o9 (w6 7))
   u0)))))))))) (λds d h=>W6 h)
theorem zd0:FnScope ["_law_script", "_law_turn", "_law_times", "_law_web_here", "_law_j", "_law_number", "_law_pairs_here", "_law_more", "_law_at"] ["_law_script"] (p8 (top 32)):=⟨rfl,rfl,rfl,by decide +kernel,rfl,by decide +kernel,by decide +kernel⟩
theorem ed0(F:Fun K "law" "law" (top 32) fa fd)(T:Txt mg)(C__law_asked:FnD P w K mg base "_law_asked" 6 ["_law_web_here", "_law_pairs_here"] Z3)(C__law_cell_at:FnD P w K mg base "_law_cell_at" 1 ["_law_script", "_law_k"] j7)(C__law_changed:FnD P w K mg base "_law_changed" 2 ["_law_web_here", "_law_cell"] S5)(C__law_mix:FnD P w K mg base "_law_mix" 1 ["_law_cell", "_law_k"] X6)(C__law_pairs:FnD P w K mg base "_law_pairs" 4 ["_law_web_here", "_law_times", "_law_number", "_law_kind"] O1)(C__law_small:FnD P w K mg base "_law_small" 4 ["_law_script", "_law_most"] G7)(C__law_unfold:FnD P w K mg base "_law_unfold" 2 ["_law_web_here", "_law_times", "_law_cell"] J2):FnOk P w K mg base CX0 7 fa fd ["_law_script"] (spD K vn0) :=
 okD (k:=6) (G:=in0) F zd0 (λJ A outer s H E hr=>(v6 (m9 (Z5 C__law_cell_at hr (by decide) (v5 (w6 0) (v5 p6 v9))) (o5 1 zd0.nd))
   (v6 (m9 (Z1 p6 (b8 (w6 1) p6)) (o5 2 zd0.nd))
   (v6 (m9 (Z5 C__law_unfold hr (by decide) (v5 (Z5 C__law_small hr (by decide) (v5 (w6 0) (v5 p6 v9))) (v5 (w6 2) (v5 (Z5 C__law_cell_at hr (by decide) (v5 (w6 0) (v5 p6 v9))) v9)))) (o5 3 zd0.nd))
   (v6 (d7 (j8 (uv0 hr.units) vi0 (b8 (Y8 (w6 1) p6) p6) p6)
   (v6 (m9 (Z5 C__law_changed hr (by decide) (v5 (w6 3) (v5 (Z5 C__law_mix hr (by decide) (v5 (Z5 C__law_cell_at hr (by decide) (v5 (w6 0) (v5 p6 v9))) (v5 p6 v9))) v9))) (o5 3 zd0.nd))
   u0)
   u0)
   (v6 (S6 C5 rfl (W4 T.b_range (v5 p6 v9)) (o5 4 zd0.nd)
   (v6 (m9 (Z5 C__law_mix hr (by decide) (v5 (Z1 (Z5 C__law_cell_at hr (by decide) (v5 (w6 0) (v5 p6 v9))) (R3 (w6 4) (w6 4))) (v5 (Z1 (w6 4) p6) v9))) (o5 5 zd0.nd))
   (v6 (m9 (Z5 C__law_pairs hr (by decide) (v5 (w6 3) (v5 (w6 2) (v5 (w6 5) (v5 (b8 (w6 4) p6) v9))))) (o5 6 zd0.nd))
   (v6 (d7 (PWD.pt (ut0 (xh0 (z80 (Z5 C__law_asked hr (by decide) (v5 (w6 3) (v5 (w6 6) v9))))) (vh0 (xh0 (z80 (Z5 C__law_asked hr (by decide) (v5 (w6 3) (v5 (dr0 (w6 6) (R5 (y40 p6))) v9))))))))
   (v6 (o9 z60)
   u0)
   u0)
   (v6 (m9 (Z1 (w6 6) (zc0 (v5 (W0 (v5 (b8 (w6 5) (U3 T.b_len (v5 (w6 3) v9))) (v5 (b8 (Y8 (w6 5) p6) (U3 T.b_len (v5 (w6 3) v9))) v9))) v9))) (o5 7 zd0.nd))
   (v6 (d7 (xh0 (z80 (Z5 C__law_asked hr (by decide) (v5 (w6 3) (v5 (w6 7) v9)))))
   (v6 (o9 z60)
   u0)
   u0)
   (v6 (d7 (j8 (wo0 hr.units) xi0 (w6 6) (zc0 v9))
   (v6 (m9 (b8 (Y8 (w6 5) p6) (U3 T.b_len (v5 (w6 6) v9))) (o5 8 zd0.nd))
   (v6 (d7 (PWD.pt (ut0 (xh0 (z80 (Z5 C__law_asked hr (by decide) (v5 (w6 3) (v5 (Z1 (Q5 (w6 6) K6 (R5 (w6 8))) (Q5 (w6 6) (R5 (Z1 (w6 8) p6)) K6)) v9))))) (vh0 (xh0 (z80 (Z5 C__law_asked hr (by decide) (v5 (w6 3) (v5 (Z1 (w6 6) (zc0 (v5 (o6 (w6 6) (w6 8)) v9))) v9))))))))
   (v6 (o9 z60)
   u0)
   u0)
   u0))
   u0)
   u0)))))))
   (v6 (o9 (Z5 C__law_asked hr (by decide) (v5 (w6 3) (v5 (zc0 v9) v9))))
   u0))))))) (λds d h=>W6 h)
end
theorem us1:∀{us:List α},us.length=1->∃a,us=[a]
 | [a],_=>⟨a,rfl⟩
theorem us2:∀{us:List α},us.length=2->∃a b,us=[a,b]
 | [a,b],_=>⟨a,b,rfl⟩
theorem us3:∀{us:List α},us.length=3->∃a b c,us=[a,b,c]
 | [a,b,c],_=>⟨a,b,c,rfl⟩
theorem us4:∀{us:List α},us.length=4->∃a b c d,us=[a,b,c,d]
 | [a,b,c,d],_=>⟨a,b,c,d,rfl⟩
theorem all_mk{l:W.OpenLaw}{w:World}{h:Heap}(X:K.In h)(G:h.Ns mainGlobals mg)(hfa:mg "law"=some (.ref fa))
  {f0 f1 f2 f3 f4 f5 f6 f7 f8 f9 f10 f11 f12 f13 f14 f15 f16 f17 f18 f19 f20 f21 f22 f23 f24 f25 f26 f27 f28:Addr}
  {od0 an0 od1 an1 od2 an2 od3 an3 od4 an4 od5 an5 od6 an6 od7 an7 od8 an8 od9 an9 od10 an10 od11 an11 od12 an12 od13 an13 od14 an14 od15 an15 od16 an16 od17 an17 od18 an18 od19 an19 od20 an20 od21 an21 od22 an22 od23 an23 od24 an24 od25 an25 od26 an26 od27 an27 od28 an28:Option Addr} {sl0 sl1 sl2 sl3 sl4 sl5 sl6 sl7 sl8 sl9 sl10 sl11 sl12 sl13 sl14 sl15 sl16 sl17 sl18 sl19 sl20 sl21 sl22 sl23 sl24 sl25 sl26 sl27 sl28:Array (Option Value)} {oc0 kV0 dc0 pm0 cd0 ct0 oc1 kV1 dc1 pm1 cd1 ct1 oc2 kV2 dc2 pm2 cd2 ct2 oc3 kV3 dc3 pm3 cd3 ct3 oc4 kV4 dc4 pm4 cd4 ct4 oc5 kV5 dc5 pm5 cd5 ct5 oc6 kV6 dc6 pm6 cd6 ct6 oc7 kV7 dc7 pm7 cd7 ct7 oc8 kV8 dc8 pm8 cd8 ct8 oc9 kV9 dc9 pm9 cd9 ct9 oc10 kV10 dc10 pm10 cd10 ct10 oc11 kV11 dc11 pm11 cd11 ct11 oc12 kV12 dc12 pm12 cd12 ct12 oc13 kV13 dc13 pm13 cd13 ct13 oc14 kV14 dc14 pm14 cd14 ct14 oc15 kV15 dc15 pm15 cd15 ct15 oc16 kV16 dc16 pm16 cd16 ct16 oc17 kV17 dc17 pm17 cd17 ct17 oc18 kV18 dc18 pm18 cd18 ct18 oc19 kV19 dc19 pm19 cd19 ct19 oc20 kV20 dc20 pm20 cd20 ct20 oc21 kV21 dc21 pm21 cd21 ct21 oc22 kV22 dc22 pm22 cd22 ct22 oc23 kV23 dc23 pm23 cd23 ct23 oc24 kV24 dc24 pm24 cd24 ct24 oc25 kV25 dc25 pm25 cd25 ct25 oc26 kV26 dc26 pm26 cd26 ct26 oc27 kV27 dc27 pm27 cd27 ct27 oc28 kV28 dc28 pm28 cd28 ct28:Value}
  (a0:W.nsIn K mainGlobals "pair_names"=some (some (.ref f0))) (l0:K.lookup f0=some ⟨oc0,od0,.func (W.fnOf "pair_names" "pair_names" (b7 (top 1)) (j9 (top 1)) (p8 (top 1)) .none kV0 dc0 pm0 an0 cd0 ct0),sl0⟩) (c0:W.codeIn K cd0 "pair_names"=true) (k0:W.keepIn K (.ref f0)=true)
  (a1:W.nsIn K mainGlobals "head"=some (some (.ref f1))) (l1:K.lookup f1=some ⟨oc1,od1,.func (W.fnOf "head" "head" (b7 (top 2)) (j9 (top 2)) (p8 (top 2)) .none kV1 dc1 pm1 an1 cd1 ct1),sl1⟩) (c1:W.codeIn K cd1 "head"=true) (k1:W.keepIn K (.ref f1)=true)
  (a2:W.nsIn K mainGlobals "values"=some (some (.ref f2))) (l2:K.lookup f2=some ⟨oc2,od2,.func (W.fnOf "values" "values" (b7 (top 3)) (j9 (top 3)) (p8 (top 3)) .none kV2 dc2 pm2 an2 cd2 ct2),sl2⟩) (c2:W.codeIn K cd2 "values"=true) (k2:W.keepIn K (.ref f2)=true)
  (a3:W.nsIn K mainGlobals "are_links"=some (some (.ref f3))) (l3:K.lookup f3=some ⟨oc3,od3,.func (W.fnOf "are_links" "are_links" (b7 (top 5)) (j9 (top 5)) (p8 (top 5)) .none kV3 dc3 pm3 an3 cd3 ct3),sl3⟩) (c3:W.codeIn K cd3 "are_links"=true) (k3:W.keepIn K (.ref f3)=true)
  (a4:W.nsIn K mainGlobals "linked_pair"=some (some (.ref f4))) (l4:K.lookup f4=some ⟨oc4,od4,.func (W.fnOf "linked_pair" "linked_pair" (b7 (top 6)) (j9 (top 6)) (p8 (top 6)) .none kV4 dc4 pm4 an4 cd4 ct4),sl4⟩) (c4:W.codeIn K cd4 "linked_pair"=true) (k4:W.keepIn K (.ref f4)=true)
  (a5:W.nsIn K mainGlobals "is_closed"=some (some (.ref f5))) (l5:K.lookup f5=some ⟨oc5,od5,.func (W.fnOf "is_closed" "is_closed" (b7 (top 7)) (j9 (top 7)) (p8 (top 7)) .none kV5 dc5 pm5 an5 cd5 ct5),sl5⟩) (c5:W.codeIn K cd5 "is_closed"=true) (k5:W.keepIn K (.ref f5)=true)
  (a6:W.nsIn K mainGlobals "are_closed"=some (some (.ref f6))) (l6:K.lookup f6=some ⟨oc6,od6,.func (W.fnOf "are_closed" "are_closed" (b7 (top 8)) (j9 (top 8)) (p8 (top 8)) .none kV6 dc6 pm6 an6 cd6 ct6),sl6⟩) (c6:W.codeIn K cd6 "are_closed"=true) (k6:W.keepIn K (.ref f6)=true)
  (a7:W.nsIn K mainGlobals "are_parts"=some (some (.ref f7))) (l7:K.lookup f7=some ⟨oc7,od7,.func (W.fnOf "are_parts" "are_parts" (b7 (top 9)) (j9 (top 9)) (p8 (top 9)) .none kV7 dc7 pm7 an7 cd7 ct7),sl7⟩) (c7:W.codeIn K cd7 "are_parts"=true) (k7:W.keepIn K (.ref f7)=true)
  (a8:W.nsIn K mainGlobals "is_upheld"=some (some (.ref f8))) (l8:K.lookup f8=some ⟨oc8,od8,.func (W.fnOf "is_upheld" "is_upheld" (b7 (top 10)) (j9 (top 10)) (p8 (top 10)) .none kV8 dc8 pm8 an8 cd8 ct8),sl8⟩) (c8:W.codeIn K cd8 "is_upheld"=true) (k8:W.keepIn K (.ref f8)=true)
  (a9:W.nsIn K mainGlobals "_law_cell_at"=some (some (.ref f9))) (l9:K.lookup f9=some ⟨oc9,od9,.func (W.fnOf "_law_cell_at" "_law_cell_at" (b7 (top 12)) (j9 (top 12)) (p8 (top 12)) .none kV9 dc9 pm9 an9 cd9 ct9),sl9⟩) (c9:W.codeIn K cd9 "_law_cell_at"=true) (k9:W.keepIn K (.ref f9)=true)
  (a10:W.nsIn K mainGlobals "_law_pool"=some (some (.ref f10))) (l10:K.lookup f10=some ⟨oc10,od10,.func (W.fnOf "_law_pool" "_law_pool" (b7 (top 13)) (j9 (top 13)) (p8 (top 13)) .none kV10 dc10 pm10 an10 cd10 ct10),sl10⟩) (c10:W.codeIn K cd10 "_law_pool"=true) (k10:W.keepIn K (.ref f10)=true)
  (a11:W.nsIn K mainGlobals "_law_mix"=some (some (.ref f11))) (l11:K.lookup f11=some ⟨oc11,od11,.func (W.fnOf "_law_mix" "_law_mix" (b7 (top 14)) (j9 (top 14)) (p8 (top 14)) .none kV11 dc11 pm11 an11 cd11 ct11),sl11⟩) (c11:W.codeIn K cd11 "_law_mix"=true) (k11:W.keepIn K (.ref f11)=true)
  (a12:W.nsIn K mainGlobals "_law_value"=some (some (.ref f12))) (l12:K.lookup f12=some ⟨oc12,od12,.func (W.fnOf "_law_value" "_law_value" (b7 (top 15)) (j9 (top 15)) (p8 (top 15)) .none kV12 dc12 pm12 an12 cd12 ct12),sl12⟩) (c12:W.codeIn K cd12 "_law_value"=true) (k12:W.keepIn K (.ref f12)=true)
  (a13:W.nsIn K mainGlobals "_law_values"=some (some (.ref f13))) (l13:K.lookup f13=some ⟨oc13,od13,.func (W.fnOf "_law_values" "_law_values" (b7 (top 16)) (j9 (top 16)) (p8 (top 16)) .none kV13 dc13 pm13 an13 cd13 ct13),sl13⟩) (c13:W.codeIn K cd13 "_law_values"=true) (k13:W.keepIn K (.ref f13)=true)
  (a14:W.nsIn K mainGlobals "_law_part"=some (some (.ref f14))) (l14:K.lookup f14=some ⟨oc14,od14,.func (W.fnOf "_law_part" "_law_part" (b7 (top 17)) (j9 (top 17)) (p8 (top 17)) .none kV14 dc14 pm14 an14 cd14 ct14),sl14⟩) (c14:W.codeIn K cd14 "_law_part"=true) (k14:W.keepIn K (.ref f14)=true)
  (a15:W.nsIn K mainGlobals "_law_web"=some (some (.ref f15))) (l15:K.lookup f15=some ⟨oc15,od15,.func (W.fnOf "_law_web" "_law_web" (b7 (top 18)) (j9 (top 18)) (p8 (top 18)) .none kV15 dc15 pm15 an15 cd15 ct15),sl15⟩) (c15:W.codeIn K cd15 "_law_web"=true) (k15:W.keepIn K (.ref f15)=true)
  (a16:W.nsIn K mainGlobals "_law_vals"=some (some (.ref f16))) (l16:K.lookup f16=some ⟨oc16,od16,.func (W.fnOf "_law_vals" "_law_vals" (b7 (top 19)) (j9 (top 19)) (p8 (top 19)) .none kV16 dc16 pm16 an16 cd16 ct16),sl16⟩) (c16:W.codeIn K cd16 "_law_vals"=true) (k16:W.keepIn K (.ref f16)=true)
  (a17:W.nsIn K mainGlobals "_law_head"=some (some (.ref f17))) (l17:K.lookup f17=some ⟨oc17,od17,.func (W.fnOf "_law_head" "_law_head" (b7 (top 20)) (j9 (top 20)) (p8 (top 20)) .none kV17 dc17 pm17 an17 cd17 ct17),sl17⟩) (c17:W.codeIn K cd17 "_law_head"=true) (k17:W.keepIn K (.ref f17)=true)
  (a18:W.nsIn K mainGlobals "_law_with"=some (some (.ref f18))) (l18:K.lookup f18=some ⟨oc18,od18,.func (W.fnOf "_law_with" "_law_with" (b7 (top 21)) (j9 (top 21)) (p8 (top 21)) .none kV18 dc18 pm18 an18 cd18 ct18),sl18⟩) (c18:W.codeIn K cd18 "_law_with"=true) (k18:W.keepIn K (.ref f18)=true)
  (a19:W.nsIn K mainGlobals "_law_unfold"=some (some (.ref f19))) (l19:K.lookup f19=some ⟨oc19,od19,.func (W.fnOf "_law_unfold" "_law_unfold" (b7 (top 23)) (j9 (top 23)) (p8 (top 23)) .none kV19 dc19 pm19 an19 cd19 ct19),sl19⟩) (c19:W.codeIn K cd19 "_law_unfold"=true) (k19:W.keepIn K (.ref f19)=true)
  (a20:W.nsIn K mainGlobals "_law_small"=some (some (.ref f20))) (l20:K.lookup f20=some ⟨oc20,od20,.func (W.fnOf "_law_small" "_law_small" (b7 (top 24)) (j9 (top 24)) (p8 (top 24)) .none kV20 dc20 pm20 an20 cd20 ct20),sl20⟩) (c20:W.codeIn K cd20 "_law_small"=true) (k20:W.keepIn K (.ref f20)=true)
  (a21:W.nsIn K mainGlobals "_law_changed"=some (some (.ref f21))) (l21:K.lookup f21=some ⟨oc21,od21,.func (W.fnOf "_law_changed" "_law_changed" (b7 (top 25)) (j9 (top 25)) (p8 (top 25)) .none kV21 dc21 pm21 an21 cd21 ct21),sl21⟩) (c21:W.codeIn K cd21 "_law_changed"=true) (k21:W.keepIn K (.ref f21)=true)
  (a22:W.nsIn K mainGlobals "_law_go_on"=some (some (.ref f22))) (l22:K.lookup f22=some ⟨oc22,od22,.func (W.fnOf "_law_go_on" "_law_go_on" (b7 (top 26)) (j9 (top 26)) (p8 (top 26)) .none kV22 dc22 pm22 an22 cd22 ct22),sl22⟩) (c22:W.codeIn K cd22 "_law_go_on"=true) (k22:W.keepIn K (.ref f22)=true)
  (a23:W.nsIn K mainGlobals "_law_shut"=some (some (.ref f23))) (l23:K.lookup f23=some ⟨oc23,od23,.func (W.fnOf "_law_shut" "_law_shut" (b7 (top 27)) (j9 (top 27)) (p8 (top 27)) .none kV23 dc23 pm23 an23 cd23 ct23),sl23⟩) (c23:W.codeIn K cd23 "_law_shut"=true) (k23:W.keepIn K (.ref f23)=true)
  (a24:W.nsIn K mainGlobals "_law_due"=some (some (.ref f24))) (l24:K.lookup f24=some ⟨oc24,od24,.func (W.fnOf "_law_due" "_law_due" (b7 (top 28)) (j9 (top 28)) (p8 (top 28)) .none kV24 dc24 pm24 an24 cd24 ct24),sl24⟩) (c24:W.codeIn K cd24 "_law_due"=true) (k24:W.keepIn K (.ref f24)=true)
  (a25:W.nsIn K mainGlobals "_law_all_like"=some (some (.ref f25))) (l25:K.lookup f25=some ⟨oc25,od25,.func (W.fnOf "_law_all_like" "_law_all_like" (b7 (top 29)) (j9 (top 29)) (p8 (top 29)) .none kV25 dc25 pm25 an25 cd25 ct25),sl25⟩) (c25:W.codeIn K cd25 "_law_all_like"=true) (k25:W.keepIn K (.ref f25)=true)
  (a26:W.nsIn K mainGlobals "_law_asked"=some (some (.ref f26))) (l26:K.lookup f26=some ⟨oc26,od26,.func (W.fnOf "_law_asked" "_law_asked" (b7 (top 30)) (j9 (top 30)) (p8 (top 30)) .none kV26 dc26 pm26 an26 cd26 ct26),sl26⟩) (c26:W.codeIn K cd26 "_law_asked"=true) (k26:W.keepIn K (.ref f26)=true)
  (a27:W.nsIn K mainGlobals "_law_pairs"=some (some (.ref f27))) (l27:K.lookup f27=some ⟨oc27,od27,.func (W.fnOf "_law_pairs" "_law_pairs" (b7 (top 31)) (j9 (top 31)) (p8 (top 31)) .none kV27 dc27 pm27 an27 cd27 ct27),sl27⟩) (c27:W.codeIn K cd27 "_law_pairs"=true) (k27:W.keepIn K (.ref f27)=true)
  (a28:W.nsIn K mainGlobals "law"=some (some (.ref f28))) (l28:K.lookup f28=some ⟨oc28,od28,.func (W.fnOf "law" "law" (b7 (top 32)) (j9 (top 32)) (p8 (top 32)) .none kV28 dc28 pm28 an28 cd28 ct28),sl28⟩) (c28:W.codeIn K cd28 "law"=true) (k28:W.keepIn K (.ref f28)=true)
  (z_all:W.nsIn K mainGlobals "all"=some none)
  (z_bool:W.nsIn K mainGlobals "bool"=some none)
  (z_dict:W.nsIn K mainGlobals "dict"=some none)
  (z_int:W.nsIn K mainGlobals "int"=some none)
  (z_isinstance:W.nsIn K mainGlobals "isinstance"=some none)
  (z_len:W.nsIn K mainGlobals "len"=some none)
  (z_list:W.nsIn K mainGlobals "list"=some none)
  (z_range:W.nsIn K mainGlobals "range"=some none)
  (z_sorted:W.nsIn K mainGlobals "sorted"=some none)
  (z_tuple:W.nsIn K mainGlobals "tuple"=some none)
  (z_zip:W.nsIn K mainGlobals "zip"=some none)
  : ∃fd:FuncData,(∀(s:Shared) (v:Value),BindsTo s fd ⟨[v],[]⟩ [("_law_script",v)])/\∀base:Heap,K.In base->base.Ns mainGlobals mg->FnOk l.prog w K mg base CX0 7 fa fd ["_law_script"] (spD K vn0):=by
 have e:=hfa.symm.trans (A9 X G a28);cases e;have T:Txt mg:=⟨D9 X G z_all,D9 X G z_bool,D9 X G z_dict,D9 X G z_int,D9 X G z_isinstance,D9 X G z_len,D9 X G z_list,D9 X G z_range,D9 X G z_sorted,D9 X G z_tuple,D9 X G z_zip⟩;have F0:=Y9 (st:=top 1) l0 c0 k0;have F1:=Y9 (st:=top 2) l1 c1 k1;have F2:=Y9 (st:=top 3) l2 c2 k2;have F3:=Y9 (st:=top 5) l3 c3 k3;have F4:=Y9 (st:=top 6) l4 c4 k4;have F5:=Y9 (st:=top 7) l5 c5 k5;have F6:=Y9 (st:=top 8) l6 c6 k6;have F7:=Y9 (st:=top 9) l7 c7 k7;have F8:=Y9 (st:=top 10) l8 c8 k8;have F9:=Y9 (st:=top 12) l9 c9 k9;have i3:=Y9 (st:=top 13) l10 c10 k10;have g8:=Y9 (st:=top 14) l11 c11 k11;have h8:=Y9 (st:=top 15) l12 c12 k12;have g2:=Y9 (st:=top 16) l13 c13 k13;have g3:=Y9 (st:=top 17) l14 c14 k14;have g6:=Y9 (st:=top 18) l15 c15 k15;have h4:=Y9 (st:=top 19) l16 c16 k16;have e9:=Y9 (st:=top 20) l17 c17 k17;have g5:=Y9 (st:=top 21) l18 c18 k18;have h5:=Y9 (st:=top 23) l19 c19 k19;have g1:=Y9 (st:=top 24) l20 c20 k20;have g4:=Y9 (st:=top 25) l21 c21 k21;have h0:=Y9 (st:=top 26) l22 c22 k22;have h9:=Y9 (st:=top 27) l23 c23 k23;have h3:=Y9 (st:=top 28) l24 c24 k24;have h6:=Y9 (st:=top 29) l25 c25 k25;have g7:=Y9 (st:=top 30) l26 c26 k26;have h7:=Y9 (st:=top 31) l27 c27 k27;have i9:=Y9 (st:=top 32) l28 c28 k28;refine⟨W.fnOf "law" "law" (b7 (top 32)) (j9 (top 32)) (p8 (top 32)) .none kV28 dc28 pm28 an28 cd28 ct28,λs v=>.of_eq rfl,λbase _ _=>?_⟩;have b9:FnN l.prog w K mg base "pair_names" 1 ["part"] K1:=⟨f0,_,sq0 F0 T ,A9 X G a0,k0,F0.binds (ps:=["part"]) λ_ _ _ _ _ _ us hl=>by obtain⟨_,rfl⟩:=us1 hl;rfl⟩;have e7:FnN l.prog w K mg base "values" 1 ["part"] m_values:=⟨f2,_,kl0 F2 T ,A9 X G a2,k2,F2.binds (ps:=["part"]) λ_ _ _ _ _ _ us hl=>by obtain⟨_,rfl⟩:=us1 hl;rfl⟩;have d1:FnD l.prog w K mg base "are_links" 1 ["both"] M4:=⟨f3,_,rm0 F3 T ,A9 X G a3,k3,F3.binds (ps:=["both"]) λ_ _ _ _ _ _ us hl=>by obtain⟨_,rfl⟩:=us1 hl;rfl⟩;have b2:FnD l.prog w K mg base "linked_pair" 1 ["both"] R6:=⟨f4,_,tq0 F4 T ,A9 X G a4,k4,F4.binds (ps:=["both"]) λ_ _ _ _ _ _ us hl=>by obtain⟨_,rfl⟩:=us1 hl;rfl⟩;have e2:FnD l.prog w K mg base "are_parts" 1 ["one", "other", "pair"] N7:=⟨f7,_,rg0 F7 T ,A9 X G a7,k7,F7.binds (ps:=["one", "other", "pair"]) λ_ _ _ _ _ _ us hl=>by obtain⟨_,_,_,rfl⟩:=us3 hl;rfl⟩;have J:FnD l.prog w K mg base "_law_cell_at" 1 ["_law_script", "_law_k"] j7:=⟨f9,_,un0 F9 T ,A9 X G a9,k9,F9.binds (ps:=["_law_script", "_law_k"]) λ_ _ _ _ _ _ us hl=>by obtain⟨_,_,rfl⟩:=us2 hl;rfl⟩;have e3:FnN l.prog w K mg base "_law_pool" 1 ["_law_cell", "_law_turn"] J6:=⟨f10,_,pi0 i3 T ,A9 X G a10,k10,i3.binds (ps:=["_law_cell", "_law_turn"]) λ_ _ _ _ _ _ us hl=>by obtain⟨_,_,rfl⟩:=us2 hl;rfl⟩;have M:FnD l.prog w K mg base "_law_mix" 1 ["_law_cell", "_law_k"] X6:=⟨f11,_,pv0 g8 T ,A9 X G a11,k11,g8.binds (ps:=["_law_cell", "_law_k"]) λ_ _ _ _ _ _ us hl=>by obtain⟨_,_,rfl⟩:=us2 hl;rfl⟩;have S:FnD l.prog w K mg base "_law_value" 1 ["_law_number", "_law_many"] T3:=⟨f12,_,sv0 h8 T ,A9 X G a12,k12,h8.binds (ps:=["_law_number", "_law_many"]) λ_ _ _ _ _ _ us hl=>by obtain⟨_,_,rfl⟩:=us2 hl;rfl⟩;have d0:FnD l.prog w K mg base "_law_part" 1 ["_law_number", "_law_some", "_law_pool_here"] J7:=⟨f14,_,p00 g3 T ,A9 X G a14,k14,g3.binds (ps:=["_law_number", "_law_some", "_law_pool_here"]) λ_ _ _ _ _ _ us hl=>by obtain⟨_,_,_,rfl⟩:=us3 hl;rfl⟩;have F:FnN l.prog w K mg base "_law_vals" 1 ["_law_part_here"] Z6:=⟨f16,_,p80 h4 T ,A9 X G a16,k16,h4.binds (ps:=["_law_part_here"]) λ_ _ _ _ _ _ us hl=>by obtain⟨_,rfl⟩:=us1 hl;rfl⟩;have e0:FnD l.prog w K mg base "_law_head" 1 ["_law_part_here"] Q0:=⟨f17,_,rt0 e9 T ,A9 X G a17,k17,e9.binds (ps:=["_law_part_here"]) λ_ _ _ _ _ _ us hl=>by obtain⟨_,rfl⟩:=us1 hl;rfl⟩;have U:FnD l.prog w K mg base "_law_with" 1 ["_law_part_here", "_law_some"] W8:=⟨f18,_,rl0 g5 T ,A9 X G a18,k18,g5.binds (ps:=["_law_part_here", "_law_some"]) λ_ _ _ _ _ _ us hl=>by obtain⟨_,_,rfl⟩:=us2 hl;rfl⟩;have Y:FnN l.prog w K mg base "_law_all_like" 1 ["_law_many", "_law_times"] O9:=⟨f25,_,u60 h6 T ,A9 X G a25,k25,h6.binds (ps:=["_law_many", "_law_times"]) λ_ _ _ _ _ _ us hl=>by obtain⟨_,_,rfl⟩:=us2 hl;rfl⟩;have e8:FnD l.prog w K mg base "head" 2 ["part"] z20:=⟨f1,_,gc0 F1 T b9,A9 X G a1,k1,F1.binds (ps:=["part"]) λ_ _ _ _ _ _ us hl=>by obtain⟨_,rfl⟩:=us1 hl;rfl⟩;have b0:FnN l.prog w K mg base "_law_values" 2 ["_law_number", "_law_count", "_law_many"] O6:=⟨f13,_,te0 g2 T S,A9 X G a13,k13,g2.binds (ps:=["_law_number", "_law_count", "_law_many"]) λ_ _ _ _ _ _ us hl=>by obtain⟨_,_,_,rfl⟩:=us3 hl;rfl⟩;have b1:FnD l.prog w K mg base "_law_unfold" 2 ["_law_web_here", "_law_times", "_law_cell"] J2:=⟨f19,_,tw0 h5 T M F U,A9 X G a19,k19,h5.binds (ps:=["_law_web_here", "_law_times", "_law_cell"]) λ_ _ _ _ _ _ us hl=>by obtain⟨_,_,_,rfl⟩:=us3 hl;rfl⟩;have Z:FnD l.prog w K mg base "_law_changed" 2 ["_law_web_here", "_law_cell"] S5:=⟨f21,_,uq0 g4 T F S U,A9 X G a21,k21,g4.binds (ps:=["_law_web_here", "_law_cell"]) λ_ _ _ _ _ _ us hl=>by obtain⟨_,_,rfl⟩:=us2 hl;rfl⟩;have O:FnD l.prog w K mg base "_law_go_on" 2 ["_law_one", "_law_other", "_law_pair"] Z4:=⟨f22,_,sn0 h0 T e0 F,A9 X G a22,k22,h0.binds (ps:=["_law_one", "_law_other", "_law_pair"]) λ_ _ _ _ _ _ us hl=>by obtain⟨_,_,_,rfl⟩:=us3 hl;rfl⟩;have e1:FnD l.prog w K mg base "is_upheld" 3 ["one", "other", "pair", "listed"] N6:=⟨f8,_,pr0 F8 T d1 e8 b2 e7,A9 X G a8,k8,F8.binds (ps:=["one", "other", "pair", "listed"]) λ_ _ _ _ _ _ us hl=>by obtain⟨_,_,_,_,rfl⟩:=us4 hl;rfl⟩;have e5:FnD l.prog w K mg base "_law_web" 3 ["_law_cells", "_law_many", "_law_pool_here"] z30:=⟨f15,_,o80 g6 T M d0 b0,A9 X G a15,k15,g6.binds (ps:=["_law_cells", "_law_many", "_law_pool_here"]) λ_ _ _ _ _ _ us hl=>by obtain⟨_,_,_,rfl⟩:=us3 hl;rfl⟩;have d2:FnD l.prog w K mg base "_law_shut" 3 ["_law_one", "_law_other", "_law_pair"] Q4:=⟨f23,_,rr0 h9 T O,A9 X G a23,k23,h9.binds (ps:=["_law_one", "_law_other", "_law_pair"]) λ_ _ _ _ _ _ us hl=>by obtain⟨_,_,_,rfl⟩:=us3 hl;rfl⟩;have e6:FnD l.prog w K mg base "_law_due" 3 ["_law_web_here", "_law_pairs_here"] K5:=⟨f24,_,og0 h3 T O,A9 X G a24,k24,h3.binds (ps:=["_law_web_here", "_law_pairs_here"]) λ_ _ _ _ _ _ us hl=>by obtain⟨_,_,rfl⟩:=us2 hl;rfl⟩;have b5:FnD l.prog w K mg base "are_closed" 4 ["one", "other", "pairs"] Q9:=⟨f6,_,sr0 F6 T e2 e1,A9 X G a6,k6,F6.binds (ps:=["one", "other", "pairs"]) λ_ _ _ _ _ _ us hl=>by obtain⟨_,_,_,rfl⟩:=us3 hl;rfl⟩;have b6:FnD l.prog w K mg base "_law_small" 4 ["_law_script", "_law_most"] G7:=⟨f20,_,sp0 g1 T J e3 e5,A9 X G a20,k20,g1.binds (ps:=["_law_script", "_law_most"]) λ_ _ _ _ _ _ us hl=>by obtain⟨_,_,rfl⟩:=us2 hl;rfl⟩;have b4:FnD l.prog w K mg base "_law_pairs" 4 ["_law_web_here", "_law_times", "_law_number", "_law_kind"] O1:=⟨f27,_,sx0 h7 T Y d2,A9 X G a27,k27,h7.binds (ps:=["_law_web_here", "_law_times", "_law_number", "_law_kind"]) λ_ _ _ _ _ _ us hl=>by obtain⟨_,_,_,_,rfl⟩:=us4 hl;rfl⟩;have e4:FnD l.prog w K mg base "is_closed" 5 ["web", "pairs"] M7:=⟨f5,_,pg0 F5 T b5,A9 X G a5,k5,F5.binds (ps:=["web", "pairs"]) λ_ _ _ _ _ _ us hl=>by obtain⟨_,_,rfl⟩:=us2 hl;rfl⟩;have b3:FnD l.prog w K mg base "_law_asked" 6 ["_law_web_here", "_law_pairs_here"] Z3:=⟨f26,_,sw0 g7 T e6 e4,A9 X G a26,k26,g7.binds (ps:=["_law_web_here", "_law_pairs_here"]) λ_ _ _ _ _ _ us hl=>by obtain⟨_,_,rfl⟩:=us2 hl;rfl⟩;exact ed0 i9 T b3 J Z M b4 b6 b1
theorem rp0:∀ns:List Int,Rps K H B (ns.map D.int) (ns.map V.int)
 | []=>by rw[List.map_nil,List.map_nil,n6]
 | n::ns=>by
  rw[List.map_cons,List.map_cons,o7];exact⟨_,_,rfl,by rw[j4],rp0 ns⟩
theorem lf0{ns:List Int}(hS:SqL K H a (ns.map V.int))(hm:vn0 [.lst (ns.map .int)]=some (.bl true)):spD K vn0 [.ref a] H (λv _=>v=.bl true) λ_ _ _=>False:=by
 refine⟨λ_=>False,[.lst (ns.map .int)],.bl true,λ_ z=>z.elim,?_,hm,λv H' _ r=>by rw[X7] at r;exact r⟩;rw[o7];refine⟨_,[],rfl,?_,by rw[n6]⟩;rw[X4];refine⟨a,ns.map V.int,rfl,?_,rp0 ns⟩;rcases hS with h|h
 ·exact .inl ⟨λz=>z,h⟩
 ·exact .inr (.inr h)
end Fa
open PySem.W PyProof.Rows
theorem PySem.W.Fast.tw1671213672333110630:True:=trivial
theorem PySem.W.Fast.tw16307783445141346550:True:=trivial
theorem PySem.W.Fast.tw13083009513569598179:True:=trivial
theorem PySem.W.Fast.tw16669874103335338475:True:=trivial
theorem PySem.W.Fast.tw5961965377754217802:True:=trivial
theorem PySem.W.Fast.tw14645300035345270273:True:=trivial
theorem PySem.W.Fast.tw4035893398715555779:True:=trivial
theorem PySem.W.Fast.tw16379308107705987495:True:=trivial
theorem PySem.W.Fast.tw6219295127405939436:True:=trivial
theorem PySem.W.Fast.tw5481312105869727060:True:=trivial
theorem PySem.W.Fast.tw4081997579217702984:True:=trivial
theorem PySem.W.Fast.tw2882660672204962866:True:=trivial
theorem PySem.W.Fast.tw10173139289251854777:True:=trivial
theorem PySem.W.Fast.tw12262510233043662355:True:=trivial
theorem PySem.W.Fast.tw3261711821872717299:True:=trivial
theorem PySem.W.Fast.tw14816158922966261038:True:=trivial
theorem PySem.W.Fast.tw4016065300092034711:True:=trivial
theorem PySem.W.Fast.tw3260948796621581344:True:=trivial
theorem PySem.W.Fast.tw3834473484509086711:True:=trivial
theorem PySem.W.Fast.tw7793401542961768406:True:=trivial
theorem PySem.W.Fast.tw13655053405476151040:True:=trivial
theorem PySem.W.Fast.tw5284874721243971585:True:=trivial
theorem PySem.W.Fast.tw7631828428407174996:True:=trivial
theorem PySem.W.Fast.tw9355839144201183017:True:=trivial
theorem PySem.W.Fast.tw7976549911271218766:True:=trivial
theorem PySem.W.Fast.tw9928014482982044295:True:=trivial
theorem PySem.W.Fast.tw11466983790270918857:True:=trivial
theorem PySem.W.Fast.tw5688078335612093410:True:=trivial
theorem PySem.W.Fast.tw12981051016403182598:True:=trivial
theorem PySem.W.Fast.tw18037703581938788750:True:=trivial
set_option maxRecDepth 100000 in
theorem PySem.Challenge.cw_graphpack_k14_closed_lists_holds : PySem.Challenge.rw_graphpack_k14_closed_lists.Holds := by
 w_on;o_law;k_head;(case hw=>w_witness2)
 k_fill
 refine L2.jj0 (l:=PySem.Challenge.rw_graphpack_k14_closed_lists) (n:=63) (k:=7) (x := "_law_script") (CX:=L2.CX0) (sp:=λK=>DL.spD K Fa.vn0) rfl (by decide) rfl ⟨rfl,by decide,by decide⟩ (λw h Y=>W.kIn_of Y) ?F ?S ?C
 case F =>
  intro w mg fa h KX G hmg;refine' Fa.all_mk KX G hmg ?a0 ?l0 ?c0 ?k0 ?a1 ?l1 ?c1 ?k1 ?a2 ?l2 ?c2 ?k2 ?a3 ?l3 ?c3 ?k3 ?a4 ?l4 ?c4 ?k4 ?a5 ?l5 ?c5 ?k5 ?a6 ?l6 ?c6 ?k6 ?a7 ?l7 ?c7 ?k7 ?a8 ?l8 ?c8 ?k8 ?a9 ?l9 ?c9 ?k9 ?a10 ?l10 ?c10 ?k10 ?a11 ?l11 ?c11 ?k11 ?a12 ?l12 ?c12 ?k12 ?a13 ?l13 ?c13 ?k13 ?a14 ?l14 ?c14 ?k14 ?a15 ?l15 ?c15 ?k15 ?a16 ?l16 ?c16 ?k16 ?a17 ?l17 ?c17 ?k17 ?a18 ?l18 ?c18 ?k18 ?a19 ?l19 ?c19 ?k19 ?a20 ?l20 ?c20 ?k20 ?a21 ?l21 ?c21 ?k21 ?a22 ?l22 ?c22 ?k22 ?a23 ?l23 ?c23 ?k23 ?a24 ?l24 ?c24 ?k24 ?a25 ?l25 ?c25 ?k25 ?a26 ?l26 ?c26 ?k26 ?a27 ?l27 ?c27 ?k27 ?a28 ?l28 ?c28 ?k28 ?z_all ?z_bool ?z_dict ?z_int ?z_isinstance ?z_len ?z_list ?z_range ?z_sorted ?z_tuple ?z_zip
  (case a0=>k_is)
  (case l0=>k_is)
  (case c0=>k_is)
  (case k0=>k_is)
  (case a1=>k_is)
  (case l1=>k_is)
  (case c1=>k_is)
  (case k1=>k_is)
  (case a2=>k_is)
  (case l2=>k_is)
  (case c2=>k_is)
  (case k2=>k_is)
  (case a3=>k_is)
  (case l3=>k_is)
  (case c3=>k_is)
  (case k3=>k_is)
  (case a4=>k_is)
  (case l4=>k_is)
  (case c4=>k_is)
  (case k4=>k_is)
  (case a5=>k_is)
  (case l5=>k_is)
  (case c5=>k_is)
  (case k5=>k_is)
  (case a6=>k_is)
  (case l6=>k_is)
  (case c6=>k_is)
  (case k6=>k_is)
  (case a7=>k_is)
  (case l7=>k_is)
  (case c7=>k_is)
  (case k7=>k_is)
  (case a8=>k_is)
  (case l8=>k_is)
  (case c8=>k_is)
  (case k8=>k_is)
  (case a9=>k_is)
  (case l9=>k_is)
  (case c9=>k_is)
  (case k9=>k_is)
  (case a10=>k_is)
  (case l10=>k_is)
  (case c10=>k_is)
  (case k10=>k_is)
  (case a11=>k_is)
  (case l11=>k_is)
  (case c11=>k_is)
  (case k11=>k_is)
  (case a12=>k_is)
  (case l12=>k_is)
  (case c12=>k_is)
  (case k12=>k_is)
  (case a13=>k_is)
  (case l13=>k_is)
  (case c13=>k_is)
  (case k13=>k_is)
  (case a14=>k_is)
  (case l14=>k_is)
  (case c14=>k_is)
  (case k14=>k_is)
  (case a15=>k_is)
  (case l15=>k_is)
  (case c15=>k_is)
  (case k15=>k_is)
  (case a16=>k_is)
  (case l16=>k_is)
  (case c16=>k_is)
  (case k16=>k_is)
  (case a17=>k_is)
  (case l17=>k_is)
  (case c17=>k_is)
  (case k17=>k_is)
  (case a18=>k_is)
  (case l18=>k_is)
  (case c18=>k_is)
  (case k18=>k_is)
  (case a19=>k_is)
  (case l19=>k_is)
  (case c19=>k_is)
  (case k19=>k_is)
  (case a20=>k_is)
  (case l20=>k_is)
  (case c20=>k_is)
  (case k20=>k_is)
  (case a21=>k_is)
  (case l21=>k_is)
  (case c21=>k_is)
  (case k21=>k_is)
  (case a22=>k_is)
  (case l22=>k_is)
  (case c22=>k_is)
  (case k22=>k_is)
  (case a23=>k_is)
  (case l23=>k_is)
  (case c23=>k_is)
  (case k23=>k_is)
  (case a24=>k_is)
  (case l24=>k_is)
  (case c24=>k_is)
  (case k24=>k_is)
  (case a25=>k_is)
  (case l25=>k_is)
  (case c25=>k_is)
  (case k25=>k_is)
  (case a26=>k_is)
  (case l26=>k_is)
  (case c26=>k_is)
  (case k26=>k_is)
  (case a27=>k_is)
  (case l27=>k_is)
  (case c27=>k_is)
  (case k27=>k_is)
  (case a28=>k_is)
  (case l28=>k_is)
  (case c28=>k_is)
  (case k28=>k_is)
  (case z_all=>k_is)
  (case z_bool=>k_is)
  (case z_dict=>k_is)
  (case z_int=>k_is)
  (case z_isinstance=>k_is)
  (case z_len=>k_is)
  (case z_list=>k_is)
  (case z_range=>k_is)
  (case z_sorted=>k_is)
  (case z_tuple=>k_is)
  (case z_zip=>k_is)
 case S=>exact λK H a ns hl hO hS=>Fa.lf0 hS (Fa.j50 ns hl)
 case C=>exact λ_ _ _ _ z=>z
#print axioms PySem.Challenge.cw_graphpack_k14_closed_lists_holds
