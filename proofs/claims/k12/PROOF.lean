import PyProof.Rows.All
import Wide.All
import OpenK.AllK
import Wide.FinOn
import Lean
import PyProof.EqAt
import PyProof.EqKinds
import PyProof.TupleCall
import PyProof.NeKinds
import PyProof.Rows.SetFrom
import KE.KRevIter
import PyProof.ZipIter
import PyProof.TupleOfGen
import PyProof.Rows.ZipGen
import PyProof.EnumMake
import PyProof.EnumFor
import PyProof.ListRange
import PyProof.LayNew
import KE.KDictOf
import KE.KIntText
import KE.IntTextLaws
import PyProof.StrCalls2
import PyProof.Rows.StrNews2
import PyProof.StrLawsTight
import PyProof.ExcArgsOwn
import PyProof.ExcAttrAll.ValueError
import PyProof.IsInstanceT
import PyProof.RulesAs
import PyProof.Rows.Tup
import OpenK.KOwn
import PyProof.ExcInit
import OpenK.KCls
import OpenK.KMake
import PyProof.InstStoreFacts
import PyProof.FactsAll.object
import PyProof.IsiStr
import KE.KIsAll
import PyProof.ListMulRight
import PyProof.AttrMissHeap
import PyProof.RaisesMany
import PyProof.RulesTry
import PyProof.NsDelKeeps
import PyProof.Rows.FStr
import OpenK.KWalk
import PyProof.AutoListH
import PyProof.CallFns
import PyProof.Rows.SortStr
import KE.KDictSum
import PyProof.Draws
import PyProof.Rows.CallKwBuiltin
import PyProof.SumWalkG
import KE.KDictLaws
import PyProof.DictTruth
import PyProof.Rows.SortShellK
import PyProof.Rows.SortWalk
import KE.KDictList
import PySem.Challenge.RW_graphpack_k12_look_tables
set_option maxHeartbeats 0
noncomputable section
open PySem
def A0:=@PySem.wpAny_bind
def A1:=@PySem.wpAny_pure
def A2:=@PyProof.Rows.wpS_pure
def A3:=@PyProof.Rows.wpS_bind
def A4:=@Nat.le_refl
def A5:=@List.mem_cons_self
def A6:=@PySem.Heap.lt_size
def A7:=@PySem.Heap.get?_push_of_some
def A8:=@PySem.W.mg_of
def A9:=@List.mem_map
def B0:=@Nat.ne_of_lt
def B1:=@Option.some.inj
def B3:=@List.mem_cons
def B4:=@Bool.false_ne_true
def B5:=@PySem.wpAny_field
def B6:=@PyProof.Rows.wpS_mono
def B7:=@PySem.Heap.get?_push_size
def B8:=@List.mem_append
def B9:=@List.mem_cons_of_mem
def C0:=@Nat.le_trans
def C1:=@congrArg
def C2:=@PyProof.Rows.wpS_forRange
def C3:=@PySem.PassesOwn.never
def C4:=@Nat.lt_of_lt_of_le
def C5:=@getElem?_pos
def C6:=@Ne.symm
def C7:=@PySem.wpAny_holding
def C8:=@List.mem_append_right
def C9:=@List.getElem?_eq_getElem
def D0:=@PySem.wpAny_call_entry
def D1:=@PyProof.Rows.wpS_get
def D2:=@PySem.wpAny_mono
def D3:=@List.getElem_mem
def D4:=@PyProof.Rows.wpS_modify
def D5:=@PySem.wpAny_setField_rec
def D6:=@List.pairwise_iff_getElem
def D7:=@Nat.le_add_right
def D8:=@PySem.W.mg_none_of
def D9:=@List.mem_range
def E1:=@List.getElem?_eq_some_iff
def E2:=@PySem.wpAny_rule
def E3:=@List.mem_iff_getElem
def E4:=@Int.emod_nonneg
def E5:=@Int.emod_lt_of_pos
def E6:=@Nat.lt_irrefl
def E7:=@PySem.wpAny_callSpecial?_slot
def E8:=@Nat.zero_le
def E9:=@List.mem_filterMap
def G0:=@PySem.mem_of_lookup
def H0:=@PySem.wpAny_newObj_type
def I0:=@PySem.W.kia_one
def K0:=@PySem.wpAny_seqItems
def K2:=@PySem.F.slot_zip_next
def L1:=@Nat.ne_of_gt
def L3:=@List.mem_of_getElem?
def L4:=@Prod.ext
def L5:=@PyProof.Rows.wpS_lift
def L6:=@List.mem_singleton
def L7:=@List.eq_nil_of_length_eq_zero
def L8:=@List.mem_append_left
def L9:=@PySem.wpAny_passesOwn
def M1:=@PyProof.Rows.callWith_type1
def N0:=@List.nodup_cons
def N1:=@List.of_mem_zip
def N2:=@PySem.typeIs_int
def N3:=@Nat.lt_succ_of_lt
def N4:=@Array.perm_iff_toList_perm
def N9:=@List.pairwise_append
def O0:=@decide_eq_false
def P1:=@PySem.wpAny_Call_Name_kw
def P2:=@PyProof.Rows.slot_tuple_getitem
def P3:=@LawfulBEq.eq_of_beq
def P4:=@PySem.typeIs_str
def P5:=@Nat.le_of_eq
def P6:=@Option.map_eq_some_iff
def P7:=@PySem.wpAny_nextOf_list_item
def P8:=@PySem.wpAny_attempt
def P9:=@List.mem_reverse
def R1:=@List.pairwise_map
def S1:=@PySem.wpAny_truthy_bool
def T0:=@PySem.wpAny_typeOf
def U1:=@PySem.call_meets
def U2:=@PySem.wpAny_letGo
def W1:=@List.rel_of_pairwise_cons
def X0:=@List.pairwise_reverse
def X1:=@PySem.F.slot_dict_keyiterator_next
def X2:=@Nat.le_of_lt
def X9:=@PySem.Calls.spliced_nil
def Y1:=@PySem.Calls.spliced_cons
def Y2:=@PySem.concat_meets
def Y3:=@List.nodup_nil
def b9:=@PySem.SeqAt.EqAt.same
def d3:=@List.length_eq_zero_iff
def d4:=@PySem.wpAny_newTuple
def d5:=@PySem.wpAny_nextOf_list_end
def d6:=@PySem.wpAny_onRaise
def g9:=@Array.getElem?_eq_some_iff
def h8:=@PyProof.Rows.listItems_at
def i0:=@List.pairwise_cons
def i4:=@List.mem_of_mem_take
def i5:=@List.ext_getElem?
def i6:=@List.map_snd_zip
def i7:=@PySem.wpAny_typeNameOfWhole_keyiter
def i8:=@PySem.F.entry_zip_next
def i9:=@PySem.F.args_zip_next_1
def j0:=@PySem.wpAny_loadPart'
def j3:=@PySem.F.slot_enumerate_next
def m3:=@Nat.mul_le_mul_right
def m4:=@PySem.F.typeOf_object_class
def n5:=@PySem.wpAny_eqBool_int
def n9:=@PySem.SeqAt.EqAt.int_str
def o0:=@PySem.SeqAt.EqAt.str_int
def p5:=@PySem.wpAny_execs_nil
def p9:=@PySem.wpAny_standAt
def q5:=@PySem.codeAny_mono
def r0:=@PySem.noFill_tuple_add
def r8:=@PySem.seq_tuple_add
def r9:=@PySem.F.slot_tuple_add
def t0:=@PySem.F.entry_tuple_add
def t9:=@PySem.F.args_tuple_add_2
def w4:=@PySem.Heap.get?_update_other
def w8:=@Nat.lt_of_le_of_lt
def x0:=@PySem.tupleKind_room_in1
def x5:=@PySem.wpAny_specialOf
def x8:=@PySem.F.plainAttrs_list
def x9:=@Nat.lt_succ_self
def y4:=@PySem.wpAny_isInstance
def y6:=@Nat.le_succ
def y8:=@PySem.wpAny_updateSeq_pair
def A00:=@PySem.wpAny_newList
def A10:=@PySem.wpAny_dictEntries
def A20:=@PySem.wpAny_dictEpoch
def A30:=@List.nodup_iff_pairwise_ne
def A40:=@List.Pairwise.imp_of_mem
def A50:=@List.nodup_range
def A60:=@Classical.not_not
def A70:=@List.Nodup.length_le_of_subset
def A80:=@Nat.lt_min
def Aa0:=@beq_eq_false_iff_ne
def Ac0:=@List.getElem_inj
def Af0:=@PySem.Calls.Name_function_global
def Av0:=@PySem.Calls.callWith_builtin
def Aw0:=@Nat.le_of_not_lt
def Ay0:=@Bool.eq_false_iff
def B10:=@Int.le_ediv_iff_mul_le
def B20:=@Array.eq_empty_of_size_eq_zero
def B30:=@PySem.F.slot_tuple_mul
def B40:=@PySem.F.slot_tuple_rmul
def Bu0:=@PySem.SeqAt.RcAt.lists_lengths
def Bv0:=@List.map_congr_left
def Bx0:=@PySem.F.slot_int_mul
def C10:=@List.mem_of_mem_drop
def C20:=@List.Sublist.nodup
def C30:=@List.sublist_append_right
def C40:=@List.sublist_append_left
def C60:=@List.reverse_perm
def C70:=@Nat.le_succ_of_le
def C80:=@PySem.Calls.call_function_entry
def Ch0:=@PySem.F.entry_dict_keyiterator_next
def Ci0:=@PySem.F.args_dict_keyiterator_next_1
def Co0:=@PySem.F.entry_enumerate_next
def Cp0:=@PySem.F.args_enumerate_next_1
def Cr0:=@List.getElem?_zip_eq_some
def Cs0:=@List.ext_getElem
def Cv0:=@List.mem_or_eq_of_mem_set
set_option Elab.async false
set_option linter.all false
set_option maxRecDepth 100000
variable{prog:Program}{A:Around}{E Q:Value->Shared->Prop}{a it dx fa I z i1 i2 l1 l2:Addr}{o e b c tg iter value elt:Expr}{tl us vs its:List Value}{od:Option Addr}{x name qual x2 root:Str}{R:Result->Shared->Prop}{K:W.Frag}{u v vl vu:Value}{items ys:Array Value}{h' base:Heap}{α β κ:Type}{pins:List (Addr×Obj)}{t' i j n m k1 x1 ia ib ac bc na T:Nat}{ch fp:List Addr}{N loose N' cs rs:List Str}{s':Shared}{pos pos' p tpos apos p2 cpos px pos2 np:Pos}{rest body:List Stmt}{st:Stmt}{es ifs elts:List Expr}{lo hi:Option Int}{fd:FuncData}{sc scope:Scope}{mg:Str->Option Value}{q p0:Nat×Nat}{XP:(Str->Option Value)->Heap->Prop}{YP:World->Heap->Prop}{caps idx:List Nat}{oa:Obj}
namespace KfT
theorem sl:Slot "function" "__getattribute__" "object.__getattribute__" := by
 refine .of (owner := "object") (n := "__getattribute__") ?_ (by decide +kernel) (by decide +kernel) (by decide +kernel) ?_ ?_
 ·rw[typeLookup_type,builtinLookup_eq_fast];kernel_rfl
 ·first|exact .inl (by decide +kernel)|exact .inr (by decide +kernel)
 ·rw[isSubtype_type];kernel_rfl
theorem lk:typeLookup (.type "function") "__class__"=pure (some (.builtin "object.__class__")):=by
 rw[typeLookup_type,builtinLookup_eq_fast];kernel_rfl
theorem ow:isSubtype (.type "function") (.type (".".intercalate ("object.__class__".cutAt '.').dropLast))=pure true:=by
 rw[F.owner_object_class,isSubtype_type];kernel_rfl
section
variable{P:Program}{W:World}{X:Value->Shared->Prop}{s:Shared}{f:Addr}{y:Obj}
theorem gs(e:s.heap.get? f=some y)(c:y.cls=.type "function")(q:R (.ok (.ret (.type "function"))) s) :
  codeAny (model P W) A (.call (.builtin "getset_descriptor.__get__") ⟨[.builtin "object.__class__",.ref f,.type "function"],[]⟩) R s:=by
 obtain⟨hh,gg,dd,tt,oo⟩:=s;have z1:(⟨hh,gg,dd,tt,oo⟩:Shared).TypeIs (.ref f) "function" := ⟨_,e,c⟩;have z2:=ow;refine codeAny_call_builtin F.slot_gs_get.plain F.entry_gs_get (F.slot_gs_get.check _ _ _ _ _ _ _ _ m4 (F.args_gs_get _ _ _) ?_)
 repeat (any_goals (first|assumption|wp_step))
 refine⟨Code.quiet_builtin _ (by decide +kernel),codeAny_builtin F.entry_object_class ?_⟩
 repeat (any_goals (first|assumption|wp_step))
theorem ga{tk:Tok}{R:Fin->Shared->Prop}(e:s.heap.get? f=some y)(c:y.cls=.type "function")(q:R (.done (.ret (.type "function"))) s) :
  wpAny (model P W) A (Builtin.«object.__getattribute__» ⟨[.ref f,.str "__class__" tk],[]⟩) R X s:=by
 obtain⟨hh,gg,dd,tt,oo⟩:=s;have z1:(⟨hh,gg,dd,tt,oo⟩:Shared).TypeIs (.ref f) "function" := ⟨_,e,c⟩;have z2:(⟨hh,gg,dd,tt,oo⟩:Shared).TypeIs (.builtin "object.__class__") "getset_descriptor" := m4;have z3:=lk;have z4:=m4;have z5:=F.slot_gs_get.lookup;have z6:=F.slot_gs_set.lookup
 repeat (any_goals (first|assumption|wp_step))
 refine gs e c ?_
 repeat (any_goals (first|assumption|wp_step))
variable{hh:Heap}{gg:Array GenState}{dd:Drawn}{tt:Nat}{oo:OsState}
theorem by'{tk:Tok}{R:Value->Shared->Prop}(e:hh.get? f=some y)(c:y.cls=.type "function")(q:R (.type "function") ⟨hh,gg,dd,tt,oo⟩):wpAny (model P W) A (getAttrBy (.ref f) (.str "__class__" tk) false) R X ⟨hh,gg,dd,tt,oo⟩:=by
 have z1:(⟨hh,gg,dd,tt,oo⟩:Shared).TypeIs (.ref f) "function" := ⟨_,e,c⟩;have z2:=sl.lookup;have z3:=sl.bind (.ref f)
 repeat (any_goals (first|assumption|wp_step))
 refine codeAny_call_builtin sl.plain F.entry_object_getattribute (sl.check _ _ _ _ _ _ _ _ z1 (F.args_object_getattribute_2 _ _) (ga e c ?_))
 repeat (any_goals (first|assumption|wp_step))
theorem at'{R:Option Value->Shared->Prop}(e:hh.get? f=some y)(c:y.cls=.type "function")(q:R (some (.type "function")) ⟨hh,gg,dd,tt+1,oo⟩):wpAny (model P W) A (getAttr? (.ref f) "__class__") R X ⟨hh,gg,dd,tt,oo⟩:=by
 unfold getAttr? getAttrBy?
 repeat (any_goals (first|assumption|with_reducible apply by' e c|wp_step))
end
theorem kit{f:Addr}:W.KitX K (.ref f) (.type "function") (W.KitAt f "function"):=W.kitx_of W.kitAt_ty λ{_ _ _ _ _ s} p k=>by
 obtain⟨hh,gg,dd,tt,oo⟩:=s;obtain⟨_,e,c⟩:=p;exact at' e c k
end KfT
namespace L2
open Spec PyProof.Rows
abbrev Key:=Sum Int Str
def u40:Key->Value->Bool
 | .inl k,v=>Value.isInt k v
 | .inr x,v=>Value.isStrOf x v
variable{ks:List L2.Key}
def Y70(w:World):Key->Int
 | .inl k=>hashInt k
 | .inr x=>hashStr w x
theorem R5:∀{k:Key} {v:Value},u40 k v=true->(∃i t,k=Sum.inl i/\v=Value.int i t)∨(∃x t,k=Sum.inr x/\v=Value.str x t)
 | .inl i,v,h=>by
  obtain⟨t,e⟩:=Value.isInt_shape (k:=i) (v:=v) h;exact .inl ⟨i,t,rfl,e⟩
 | .inr x,v,h=>by
  obtain⟨t,e⟩:=Value.isStrOf_shape (x:=x) (v:=v) h;exact .inr ⟨x,t,rfl,e⟩
theorem kw0(i:Int)(t:Tok):u40 (.inl i) (.int i t)=true:=by simp[u40,Value.isInt]
theorem jx0(x:Str)(t:Tok):u40 (.inr x) (.str x t)=true:=by simp[u40,Value.isStrOf]
theorem bn0(a b:Int):decide ((Sum.inl a:Key)=Sum.inl b)=(a==b):=by
 by_cases e:a=b
 ·subst e;simp
 ·have h:¬(Sum.inl a:Key)=Sum.inl b:=λq=>e (Sum.inl.inj q)
  rw[decide_eq_false h];exact(Aa0.mpr e).symm
theorem ch0(a b:Str):decide ((Sum.inr a:Key)=Sum.inr b)=decide (a=b):=by
 by_cases e:a=b
 ·subst e;simp
 ·have h:¬(Sum.inr a:Key)=Sum.inr b:=λq=>e (Sum.inr.inj q)
  rw[decide_eq_false h,decide_eq_false e]
theorem db0(a:Int)(b:Str):decide ((Sum.inl a:Key)=Sum.inr b)=false:=O0 (λq=>nomatch q)
theorem dm0(a:Str)(b:Int):decide ((Sum.inr a:Key)=Sum.inl b)=false:=O0 (λq=>nomatch q)
def Q4(prog:Program)(w:World):PySem.KeyKind prog w Key where
 is:=u40
 hash:=Y70 w
 inj:=λv a b ha hb=>by
  rcases R5 ha with⟨i,t,rfl,rfl⟩|⟨x,t,rfl,rfl⟩
  ·rcases R5 hb with⟨j,u,rfl,e⟩|⟨y,u,rfl,e⟩
   ·injection e with e1 _;rw[e1]
   ·exact nomatch e
  ·rcases R5 hb with⟨j,u,rfl,e⟩|⟨y,u,rfl,e⟩
   ·exact nomatch e
   ·injection e with e1 _;rw[e1]
 byValue:=λk v h=>by
  rcases R5 h with⟨i,t,rfl,rfl⟩|⟨x,t,rfl,rfl⟩<;>rfl
 pyHash:=λhv h=>by
  rcases R5 hv with⟨i,t,rfl,rfl⟩|⟨x,t,rfl,rfl⟩
  ·exact wpAny_pyHash_int h
  ·exact wpAny_pyHash_str h
 eqBool:=λhu hv h=>by
  rcases R5 hu with⟨i,t,rfl,rfl⟩|⟨x,t,rfl,rfl⟩
  ·rcases R5 hv with⟨j,u,rfl,rfl⟩|⟨y,u,rfl,rfl⟩
   ·rw[bn0] at h;exact n5 h
   ·rw[db0] at h;exact n9 i t y u _ _ _ _ h
  ·rcases R5 hv with⟨j,u,rfl,rfl⟩|⟨y,u,rfl,rfl⟩
   ·rw[dm0] at h;exact o0 x t j u _ _ _ _ h
   ·rw[ch0] at h;exact wpAny_eqBool_str h
 «strs»:=λk x t v h=>by
  rcases R5 h with⟨i,u,rfl,e⟩|⟨y,u,rfl,e⟩
  ·exact nomatch e
  ·injection e with e1 _
   subst e1;cases v<;>rfl
theorem n70(prog:Program)(w:World)(i:Int)(t:Tok):(Q4 prog w).is (.inl i) (.int i t)=true:=kw0 i t
theorem ou0(prog:Program)(w:World)(x:Str)(t:Tok):(Q4 prog w).is (.inr x) (.str x t)=true:=jx0 x t
inductive V where
 | non|bl (b:Bool)|int (i:Int)|str (x:Str)|byt (b:Array UInt8)|flt (b:UInt64)|ref (a:Addr)|ty (n:String)
 deriving DecidableEq
variable{y:L2.V}{xs:List L2.V}{σ:List (Option L2.V)}{kvs:List (List L2.Key×L2.V)}
def RelV:V->Value->Prop
 | .non,u=>u=Value.none
 | .bl b,u=>u=Value.bool b
 | .int i,u=>∃t,u=Value.int i t
 | .str x,u=>∃t,u=Value.str x t
 | .byt b,u=>∃t,u=Value.bytes b t
 | .flt b,u=>∃t,u=Value.float b t
 | .ref a,u=>u=Value.ref a
 | .ty n,u=>u=Value.type n
abbrev Vals:List V->List Value->Prop:=Paired RelV
theorem Vals.length(r:Vals xs us):xs.length=us.length:=Paired.length r
theorem Vals.get:∀{xs:List V} {us:List Value} {i:Nat} {x:V},Vals xs us->xs[i]?=some x->∃u,us[i]?=some u/\RelV x u
 | _,_,_,_,.nil,e=>by simp at e
 | _,_,0,_,.cons r _,e=>by simp at e;subst e;exact⟨_,rfl,r⟩
 | _,_,i+1,x,.cons _ t,e=>by
  obtain⟨u,h1,h2⟩:=Vals.get (i:=i) (x:=x) t (by simpa using e);exact⟨u,by simpa using h1,h2⟩
theorem Vals.set{x:V}(r:RelV x u):∀{xs:List V} {us:List Value} (i:Nat),Vals xs us->Vals (xs.set i x) (us.set i u)
 | _,_,_,.nil=>.nil
 | _,_,0,.cons _ t=>.cons r t
 | _,_,i+1,.cons q t=>.cons q (Vals.set r i t)
theorem Vals.append:∀{xs ys:List V} {us ws:List Value},Vals xs us->Vals ys ws->Vals (xs++ys) (us++ws)
 | _,_,_,_,.nil,s=>s
 | _,_,_,_,.cons r t,s=>.cons r (Vals.append t s)
theorem Vals.take:∀{xs:List V} {us:List Value} (n:Nat),Vals xs us->Vals (xs.take n) (us.take n)
 | _,_,0,_=>.nil
 | _,_,_+1,.nil=>.nil
 | _,_,n+1,.cons r t=>.cons r (Vals.take n t)
theorem Vals.drop:∀{xs:List V} {us:List Value} (n:Nat),Vals xs us->Vals (xs.drop n) (us.drop n)
 | _,_,0,r=>r
 | _,_,_+1,.nil=>.nil
 | _,_,n+1,.cons _ t=>Vals.drop n t
def RelO:Option V->Option Value->Prop
 | some v,some u=>RelV v u
 | none,none=>True
 | _,_=>False
def KV{κ:Type}:List (κ×V)->List (κ×Value)->Prop:=Paired λ(p:κ×V) (q:κ×Value)=>p.1=q.1/\RelV p.2 q.2
def kV:Key->V
 | .inl i=>.int i
 | .inr x=>.str x
inductive HO where
 | lst (xs:List V)
 | tup (xs:List V)
 | dK (kvs:List (Key×V))|dT (kvs:List (List Key×V))
 | set (S:Int->Bool) (n:Nat)
 | ins (C dx:Addr) (fs:List (Str×V))
 | own (x:Addr)
 | xd (fs:List (Str×V))
 | met (f x:Addr)
 | rng (lo hi:Int)
 | frz (o:Obj) (u:HO)
 | tbl (ps:Array Value)
 | ext (φ:Heap->Prop)
abbrev Hp:=Addr->Option HO
def upd(H:Hp)(a:Addr)(o:HO):Hp:=λb=>if b=a then some o else H b
variable{H H' H2 H₀:L2.Hp}
theorem Z6{o:HO}:upd H a o a=some o:=by unfold upd;rw[if_pos rfl]
theorem Z8{b:Addr}{o:HO}(h:b≠a):upd H a o b=H b:=by unfold upd;rw[if_neg h]
theorem f60{b:Addr}{o u:HO}(h:H a=some o)(h':H b=some u)(d:o≠u):a≠b:=by
 intro e;subst e;rw[h] at h';exact d (B1 h')
theorem T5{b:Addr}{o:HO}(h:H a=some o)(h':H b=none):a≠b:=by
 intro e;subst e;rw[h] at h';cases h'
def IsTupN(h:Heap)(a:Addr)(items:Array Value):Prop:=∃o,h.get? a=some o/\o.cls=.type "tuple"/\∃n,o.data=.seq items n/\o.dict=none
theorem IsTupN.tup{h:Heap}(x:IsTupN h a items):IsTup h a items:=let ⟨o,e,c,n,d,_⟩:=x;⟨o,e,c,n,d⟩
theorem IsTupN.new(h:Heap)(items:Array Value):IsTupN (h.push { cls:=.type "tuple",data:=.seq items }) h.objs.size items:=⟨_,B7 _ rfl,rfl,_,rfl,rfl⟩
def qOf(ps:Array Value):Str:=match (ps[0]?:Option Value) with
 | some (.str q _)=>q
 | _ => ""
def TabOk(H:Hp)(h:Heap)(a:Addr)(q:Str):Prop:=∃cont:Array Value,h.get? a=some { cls:=.none,data:=.fields cont }/\TriplesOk cont.toList /\
 ∀pos cv,codeAmong pos cont.toList=some cv->∃c oc vs tq,cv=.ref c/\H c=some (.frz oc (.own c))/\oc.data=.fields vs/\vs[1]?=some (.str q tq)
section
variable(P:Program)(w:World)
def ObjOk(H:Hp)(h:Heap)(a:Addr):HO->Prop
 | .lst xs=>xs.length<=sizeLine/\∃(its:List Value) (n:Nat),Vals xs its/\h.get? a=some { cls:=.type "list",data:=.seq its.toArray n }
 | .tup xs=>xs.length<=sizeLine/\∃its:List Value,Vals xs its/\IsTupN h a its.toArray
 | .dK kvs=>kvs.length<=sizeLine/\(a==sysModules)=false/\∃vs,KV kvs vs/\h.DictOf (Q4 P w) a vs
 | .dT kvs=>kvs.length<=sizeLine/\(a==sysModules)=false/\∃xs:List (List Key×Addr×Value),
   Paired (λ(p:List Key×V) (q:List Key×Addr×Value)=>p.1=q.1/\H q.2.1=some (.tup (p.1.map kV))/\RelV p.2 q.2.2) kvs xs /\
   ∃o es ep,h.get? a=some o/\o.ExactDict/\o.data=.dict es ep/\es.toList=xs.map (entryOfKey (tupleKind (Q4 P w)))/\(xs.map (·.1)).Nodup
 | .set S n=>h.SetOf (intKind P w) a S n
 | .ins C dx fs=>H dx=some (.own a)/\fs.length<=1000/\dx≠a/\h.get? a=some (W.instObj C dx) /\
   ∃mA,h.Ns1 dx mA/\(∀f,RelO (fs.lookup f) (mA f))/\PySem.Within mA (fs.map (·.1))
 | .own _=>∃o,h.get? a=some o
 | .xd fs=>∃mA,h.Ns1 a mA/\∀f,RelO (fs.lookup f) (mA f)
 | .rng lo hi=>∃t u v,h.get? a=some { cls:=.type "range",data:=.fields #[.int lo t,.int hi u,.int 1 v] }
 | .frz o u=>h.get? a=some o/\ObjOk H h a u
 | .tbl ps=>TabOk H h a (qOf ps)
 | .met f x=>h.get? a=some (W.methodObj (.ref f) (.ref x))
 | .ext φ=>φ h/\(∃o,h.get? a=some o)/\∀h1 h2:Heap,φ h1->(∀o,h1.get? a=some o->h2.get? a=some o)->φ h2
def HOk(H:Hp)(h:Heap):Prop:=∀a o,H a=some o->ObjOk P w H h a o
end
section
variable{P:Program}{w:World}{h:Heap}{o:HO}
theorem ObjOk.lt(x:ObjOk P w H h a o):a<h.objs.size:=by
 cases o with
 | lst xs=>obtain⟨_,_,_,_,e⟩:=x;exact A6 e
 | tup xs=>obtain⟨_,_,_,p⟩:=x;exact p.tup.lt
 | dK kvs=>obtain⟨_,_,_,_,o,_,_,e,_⟩:=x;exact A6 e
 | dT kvs=>obtain⟨_,_,_,_,o,_,_,e,_⟩:=x;exact A6 e
 | set S n=>obtain⟨o,_,_,_,e,_⟩:=x;exact A6 e
 | ins C dx fs=>obtain⟨_,_,_,e,_⟩:=x;exact A6 e
 | own y=>obtain⟨_,e⟩:=x;exact A6 e
 | xd fs=>obtain⟨_,⟨_,_,_,e,_⟩,_⟩:=x;exact A6 e
 | rng lo hi=>obtain⟨_,_,_,e⟩:=x;exact A6 e
 | frz ob u=>obtain⟨e,_⟩:=x;exact A6 e
 | tbl ps=>obtain⟨_,e,_⟩:=(show TabOk H h a (qOf ps) from x);exact A6 e
 | met f y=>exact A6 (show h.get? a=some _ from x)
 | ext φ=>obtain⟨_,⟨_,e⟩,_⟩:=x;exact A6 e
theorem Paired.mapP{F G:α->β->Prop}:∀{l₁:List α} {l₂:List β},Paired F l₁ l₂->(∀a b,F a b->G a b)->Paired G l₁ l₂
 | _,_,.nil,_=>.nil
 | _,_,.cons r t,f=>.cons (f _ _ r) (Paired.mapP t f)
theorem ObjOk.stay(x:ObjOk P w H h a o)(k:∀b u,(b=a∨H b=some (.own a))->h.get? b=some u->h'.get? b=some u)
  (ho:∀b,H b=some (.own a)->H' b=some (.own a)) (ht:∀b xs,H b=some (.tup xs)->H' b=some (.tup xs)) (hf:∀b ob u,H b=some (.frz ob u)->H' b=some (.frz ob u)):ObjOk P w H' h' a o:=by
 induction o with
 | lst xs=>obtain⟨z,its,n,r,e⟩:=x;exact⟨z,its,n,r,k _ _ (.inl rfl) e⟩
 | tup xs=>obtain⟨z,its,r,ob,e,c⟩:=x;exact⟨z,its,r,ob,k _ _ (.inl rfl) e,c⟩
 | dK kvs=>obtain⟨z,y,vs,r,ob,es,ep,e,c⟩:=x;exact⟨z,y,vs,r,ob,es,ep,k _ _ (.inl rfl) e,c⟩
 | dT kvs =>
  obtain⟨z,y,xs,r,ob,es,ep,e,c⟩:=x;exact⟨z,y,xs,Paired.mapP r λp q z=>⟨z.1,ht _ _ z.2.1,z.2.2⟩,ob,es,ep,k _ _ (.inl rfl) e,c⟩
 | set S n=>obtain⟨ob,es,ep,t,e,c⟩:=x;exact⟨ob,es,ep,t,k _ _ (.inl rfl) e,c⟩
 | ins C dx fs =>
  obtain⟨d,z,ne,e,mA,⟨od,es,ep,e2,c⟩,r⟩:=x;exact⟨ho _ d,z,ne,k _ _ (.inl rfl) e,mA,⟨od,es,ep,k _ _ (.inr d) e2,c⟩,r⟩
 | own y=>obtain⟨ob,e⟩:=x;exact⟨ob,k _ _ (.inl rfl) e⟩
 | xd fs=>obtain⟨mA,⟨od,es,ep,e,c⟩,r⟩:=x;exact⟨mA,⟨od,es,ep,k _ _ (.inl rfl) e,c⟩,r⟩
 | rng lo hi=>obtain⟨t,u,v,e⟩:=x;exact⟨t,u,v,k _ _ (.inl rfl) e⟩
 | frz ob u ih=>obtain⟨e,q⟩:=x;exact⟨k _ _ (.inl rfl) e,ih q⟩
 | tbl ps =>
  obtain⟨cont,e,t,c⟩:=(show TabOk H h a (qOf ps) from x);exact⟨cont,k a _ (.inl rfl) e,t,λpos cv q=>let ⟨c',oc,vs,tq,z1,z2,z3⟩:=c pos cv q;⟨c',oc,vs,tq,z1,hf _ _ _ z2,z3⟩⟩
 | met f y =>
  have e:h.get? a=some (W.methodObj (.ref f) (.ref y)):=x;show h'.get? a=some (W.methodObj (.ref f) (.ref y));exact k a _ (.inl rfl) e
 | ext φ=>obtain⟨p,⟨o,e⟩,st⟩:=x;exact⟨st _ _ p λo q=>k _ _ (.inl rfl) q,⟨o,k _ _ (.inl rfl) e⟩,st⟩
theorem HOk.lt(x:HOk P w H h)(e:H a=some o):a<h.objs.size:=(x a o e).lt
theorem HOk.fresh(x:HOk P w H h)(e:h.objs.size<=a):H a=none:=by
 cases q:H a with
 | none=>rfl
 | some u=>exact absurd (C4 (x.lt q) e) (E6 _)
theorem HOk.kept(x:HOk P w H h)(k:∀b u,h.get? b=some u->h'.get? b=some u):HOk P w H h':=λa o e =>
 (x a o e).stay (λb u _ q=>k b u q) (λ_ q=>q) (λ_ _ q=>q) λ_ _ _ q=>q
theorem HOk.laid(x:HOk P w H h)(k:∀b u,h.get? b=some u->h'.get? b=some u)(hp:h.objs.size<=a)(new:ObjOk P w (upd H a o) h' a o):HOk P w (upd H a o) h':=λb u e=>by
 have hn:=x.fresh hp
 by_cases hb:b=a
 ·subst hb;rw[Z6] at e;cases e;exact new
 ·rw[Z8 hb] at e
  exact(x b u e).stay (λc v _ q=>k c v q) (λc q=>by rw[Z8 (T5 q hn)];exact q) (λc xs q=>by rw[Z8 (T5 q hn)];exact q) λc ob u' q=>by rw[Z8 (T5 q hn)];exact q
end
def Rd(H:Hp)(a:Addr)(u:HO):Prop:=H a=some u∨∃o,H a=some (.frz o u)
theorem Rd.ok{P:Program}{w:World}{h:Heap}{u:HO}(r:Rd H a u)(x:HOk P w H h):ObjOk P w H h a u:=by
 rcases r with r|⟨o,r⟩
 ·exact x a u r
 ·obtain⟨_,q⟩:=x a _ r
  exact q
def Mut:Option HO->Prop
 | some (.lst _)=>True
 | some (.dK _)=>True
 | some (.dT _)=>True
 | some (.set _ _)=>True
 | some (.ins _ _ _)=>True
 | some (.ext _)=>True
 | _=>False
section
variable{P:Program}{w:World}{h:Heap}{x e:Addr}{o':HO}
theorem HOk.write(ok:HOk P w H h)(mu:Mut (H x))(he:e=x∨H e=some (.own x))(k:∀b u,b≠e->h.get? b=some u->h'.get? b=some u)(heo:∃u,h'.get? e=some u)
  (new:ObjOk P w (upd H x o') h' x o'):HOk P w (upd H x o') h':=λb u q=>by
 have F:∀c y,H c=some (.own y)->c≠x:=λc y r z=>by subst z;rw[r] at mu;exact mu
 have L:∀c xs,H c=some (.tup xs)->c≠x:=λc xs r z=>by subst z;rw[r] at mu;exact mu
 have J:∀c ob u',H c=some (.frz ob u')->c≠x:=λc ob u' r z=>by subst z;rw[r] at mu;exact mu
 by_cases hb:b=x
 ·subst hb;rw[Z6] at q;cases q;exact new
 ·rw[Z8 hb] at q
  by_cases hbe:b=e
  ·have q':H b=some (.own x):=by
    rcases he with z|z
    ·exact absurd (hbe.trans z) hb
    ·rw[hbe];exact z
   rw[q] at q';cases q';obtain⟨v,hv⟩:=heo;exact⟨v,by rw[hbe];exact hv⟩
  ·refine(ok b u q).stay (λc v hc r=>k c v ?_ r) (λc r=>by rw[Z8 (F c b r)];exact r) (λc xs r=>by rw[Z8 (L c xs r)];exact r) λc ob u' r=>by rw[Z8 (J c ob u' r)];exact r
   rcases hc with rfl|hc
   ·exact hbe
   ·rintro rfl
    rcases he with z|z
    ·exact F c b hc z
    ·rw[hc] at z;cases z;exact hb rfl
end
structure Un(fs ex:List Addr)(H H':Hp)(h h':Heap):Prop where
 keep:∀b o,h.get? b=some o->H b=none->b∉fs->b∉ex->h'.get? b=some o
 slot:∀b o,h.get? b=some o->H b=none->b∈fs->b∉ex->∃sl,h'.get? b=some { o with slots:=sl }
 free:∀b o,h.get? b=some o->H b=none->b∉ex->H' b=none
 there:∀b o,h.get? b=some o->b∉ex->∃o',h'.get? b=some o'
 tups:∀b xs,H b=some (.tup xs)->H' b=some (.tup xs)
 frzs:∀b o u,H b=some (.frz o u)->H' b=some (.frz o u)
 tbls:∀b ps,H b=some (.tbl ps)->∃more,H' b=some (.tbl (ps++more))
section
variable{fs fs' ex ex':List Addr}{H1:Hp}{h h1 h2:Heap}{x e:Addr}{o:HO}
theorem Un.any(u:Un fs ex H H1 h h1){b:Addr}{ob:Obj}(q:h.get? b=some ob)(n:H b=none)(hx:b∉ex):∃sl,h1.get? b=some { ob with slots:=sl }:=by
 by_cases hb:b∈fs
 ·exact u.slot b ob q n hb hx
 ·exact⟨ob.slots,u.keep b ob q n hb hx⟩
theorem Un.kept(k:∀b u,h.get? b=some u->h'.get? b=some u):Un fs ex H H h h' :=
 ⟨λb ob q _ _ _=>k b ob q,λb ob q _ _ _=>⟨ob.slots,k b ob q⟩,λ_ _ _ n _=>n,λb ob q _=>⟨ob,k b ob q⟩,λ_ _ q=>q,λ_ _ _ q=>q,λ_ ps q=>⟨#[],by rw[q];simp⟩⟩
theorem Un.refl:Un fs ex H H h h:=Un.kept λ_ _ q=>q
theorem Un.laid(k:∀b u,h.get? b=some u->h'.get? b=some u)(hp:h.objs.size<=a)(hn:H a=none):Un fs ex H (upd H a o) h h' where
 keep:=λb u q _ _ _=>k b u q
 slot:=λb u q _ _ _=>⟨u.slots,k b u q⟩
 free:=λb u q n _=>by rw[Z8 (B0 (C4 (A6 q) hp))];exact n
 there:=λb u q _=>⟨u,k b u q⟩
 tups:=λb xs q=>by rw[Z8 (T5 q hn)];exact q
 frzs:=λb u xs q=>by rw[Z8 (T5 q hn)];exact q
 tbls:=λb ps q=>⟨#[],by rw[Z8 (T5 q hn),q];simp⟩
theorem Un.write(mu:Mut (H x))(he:e=x∨H e=some (.own x))(k:∀b u,b≠e->h.get? b=some u->h'.get? b=some u)(heo:∃u,h'.get? e=some u):Un fs ex H (upd H x o) h h':=by
 have hx:∀b,H b=none->b≠x:=λb n z=>by subst z;rw[n] at mu;exact mu
 have hb:∀b,H b=none->b≠e:=λb n z=>by
  subst z;rcases he with r|r
  ·exact hx b n r
  ·rw[n] at r;cases r
 have hm:∀b u,H b=some u->¬Mut (some u)->b≠x:=λb u q nm z=>by subst z;rw[q] at mu;exact nm mu
 refine⟨λb u q n _ _=>k b u (hb b n) q,λb u q n _ _=>⟨u.slots,k b u (hb b n) q⟩,λb u q n _=>by rw[Z8 (hx b n)];exact n,λb u q _=>?_,
  λb xs q=>by rw[Z8 (hm b _ q λz=>z)];exact q,λb u xs q=>by rw[Z8 (hm b _ q λz=>z)];exact q,λb ps q=>⟨#[],by rw[Z8 (hm b _ q λz=>z),q];simp⟩⟩
 by_cases hbe:b=e
 ·subst hbe;exact heo
 ·exact⟨u,k b u hbe q⟩
end
def trk(h:Heap)(H:Hp):List Addr:=(List.range h.objs.size).filter λa=>(H a).isSome
def wd0(h:Heap)(H:Hp):Heap:=W.hideAll h (trk h H)
theorem k90(h:Heap)(H:Hp):(wd0 h H).objs.size=h.objs.size:=W.hideAll_size _ _
theorem i50{h:Heap}{b:Addr}{o:Obj}(e:h.get? b=some o)(n:H b=none):(wd0 h H).get? b=some o :=
 W.hideAll_get _ e λhm=>by
  have q:(H b).isSome=true:=(List.mem_filter.mp hm).2;rw[n] at q;simp at q
theorem ek0{h:Heap}{b:Addr}{o:Obj}(e:(wd0 h H).get? b=some o):h.get? b=some o/\H b=none:=by
 have e':h.get? b=some o:=W.of_hideAll (trk h H) e;refine⟨e',?_⟩;cases q:H b with
 | none=>rfl
 | some x =>
  have hm:b∈trk h H:=List.mem_filter.mpr ⟨D9.mpr (A6 e'),by simp[q]⟩;have z:(wd0 h H).get? b=none:=W.hideAll_none (trk h H) hm;rw[z] at e;cases e
structure Mod(K:W.Frag)(mg:Str->Option Value)(base:Heap):Prop where
 kin:K.In base
 glob:base.Ns mainGlobals mg
 blt:∃mb,base.Ns builtinsNs mb/\∀x:Str,x ≠"__name__"->mb x=bootBuiltins x
 nolimit:base.NoLimit
structure Cx where
 prog:Program
 w:World
 K:W.Frag
 mg:Str->Option Value
 base:Heap
 A:Around
 N:List Str
 s₀:Shared
 H₀:Hp
 env:Env
 outer:List Env
 stack:List Env
 ex:List Addr
 fn:Str->Bool
 calm:Bool
 pn:List (Addr×Obj)
 xe:Value->Shared->Prop
variable{X:L2.Cx}
def frs(l:List Env):List Addr:=l.filterMap (·.frame)
abbrev Cx.fs(X:Cx):List Addr:=frs X.outer
def Vis(sc:Scope)(x:Str):Prop:=sc.names.lookup x=some .local∨sc.names.lookup x=some .cell∨sc.names.lookup x=some .free
def Loc(sc:Scope)(x:Str):Prop:=sc.names.lookup x=some .local∨sc.names.lookup x=some .cell
def Look(env:Env)(h:Heap)(m:Str->Option Value)(x:Str)(u:Value):Prop :=
 (env.kindOf x=some .local/\m x=some u)∨((env.kindOf x=some .cell∨env.kindOf x=some .free)/\∃c,env.cells.lookup x=some c/\h.IsCell c (some u))
structure Cx.Ok(X:Cx):Prop where
 mod:Mod X.K X.mg X.base
 kind:X.env.scope.kind=.function
 glob:X.env.globals=mainGlobals
 blt:X.env.builtins=builtinsNs
 above:X.s₀.heap.objs.size<=X.env.locals
 inj:∀x y c,X.env.cells.lookup x=some c->X.env.cells.lookup y=some c->x=y
 has:∀x,(X.env.kindOf x=some .cell∨X.env.kindOf x=some .free)->∃c,X.env.cells.lookup x=some c
 cab:∀x c,X.fn x=true->X.env.cells.lookup x=some c->X.s₀.heap.objs.size<=c
 hd:X.calm=true->X.A.handled=none
 frames:X.A.frames=some X.stack
 stk:X.stack=X.outer∨(X.stack=X.env::X.outer/\X.env.frame=some X.env.locals)
 exf:∀b∈X.ex,b≠X.env.locals/\∀x c,X.env.cells.lookup x=some c->c≠b
 bs:∀b o,X.base.get? b=some o->X.s₀.heap.get? b=some o/\X.H₀ b=none
 bsz:X.base.objs.size<=X.s₀.heap.objs.size
 noex:∀b o,X.base.get? b=some o->b∉X.ex
 exfs:∀b∈X.ex,b∉X.fs
 funs:X.s₀.heap.FunFrames X.base X.outer
 frf:∀b∈X.fs,X.H₀ b=none
structure Inv(X:Cx)(pins:List (Addr×Obj))(σ:List (Option V))(H:Hp)(s:Shared):Prop where
 ok:X.Ok
 os:s.os=X.s₀.os
 bare:AllBare s.gens
 base:Un X.fs X.ex X.H₀ H X.s₀.heap s.heap
 loc:∃m,s.heap.Ns X.env.locals m/\∀(i:Nat) (x:Str) (v:V),X.N[i]?=some x->σ[i]?=some (some v)->Vis X.env.scope x->∃u,RelV v u/\Look X.env s.heap m x u
 cell:∀x c,X.env.cells.lookup x=some c->∃v,s.heap.IsCell c v
 free:H X.env.locals=none
 freeC:∀x c,X.env.cells.lookup x=some c->H c=none
 pin:∀p∈X.pn++pins,s.heap.get? p.1=some p.2/\H p.1=none/\p.1≠X.env.locals/\p.1∉X.fs/\∀v,p.2.data≠.cell v
 hok:HOk X.prog X.w H s.heap
 len:σ.length=X.N.length
section
variable{s:Shared}
theorem Cx.Ok.nofr(ok:X.Ok){b:Addr}{o:Obj}(e:X.base.get? b=some o):b∉X.fs:=λhb=>by
 have:=(ok.funs.mem hb).1;rw[e] at this;cases this
theorem Inv.bs(I:Inv X pins σ H s):∀b o,X.base.get? b=some o->s.heap.get? b=some o/\H b=none:=λb o e =>
 ⟨I.base.keep b o (I.ok.bs b o e).1 (I.ok.bs b o e).2 (I.ok.nofr e) (I.ok.noex b o e),I.base.free b o (I.ok.bs b o e).1 (I.ok.bs b o e).2 (I.ok.noex b o e)⟩
theorem Inv.bk(I:Inv X pins σ H s):∀b o,X.base.get? b=some o->s.heap.get? b=some o:=λb o e=>(I.bs b o e).1
theorem Inv.mod(I:Inv X pins σ H s):Mod X.K X.mg X.base:=I.ok.mod
theorem Inv.kIn(I:Inv X pins σ H s):X.K.In s.heap:=I.ok.mod.kin.keeps I.bk
theorem Inv.lt(I:Inv X pins σ H s):X.env.locals<s.heap.objs.size:=let ⟨_,hn,_⟩:=I.loc;hn.lt
theorem Inv.sz(I:Inv X pins σ H s):X.s₀.heap.objs.size<=s.heap.objs.size:=C0 I.ok.above (X2 I.lt)
theorem Inv.nofs(I:Inv X pins σ H s)(h:s.heap.objs.size<=a):a∉X.fs:=λhb=>by
 obtain⟨_,o,ho,_⟩:=I.ok.funs.mem hb;exact absurd (C4 (A6 ho) (C0 I.sz h)) (E6 _)
theorem Inv.cne(I:Inv X pins σ H s):∀x c,X.env.cells.lookup x=some c->c≠X.env.locals:=λx c e z=>by
 obtain⟨v,o,ho,hd⟩:=I.cell x c e;obtain⟨m,⟨o',es,ep,J,F,_⟩,_⟩:=I.loc;rw[z,J] at ho;cases ho;rw[F] at hd;cases hd
theorem Inv.funs(I:Inv X pins σ H s):s.heap.FunFrames X.base X.outer:=by
 have all:∀(l:List Env),(∀b∈frs l,b∈X.fs)->X.s₀.heap.FunFrames X.base l->s.heap.FunFrames X.base l:=by
  intro l
  induction l with
  | nil=>intro _ _;trivial
  | cons env r ih =>
   intro hs hl;obtain⟨hk,⟨L,o,hf,hn,ho,hd⟩,hr⟩:=hl;have hL:L∈X.fs:=hs L (by unfold frs;rw[List.filterMap_cons,hf];exact A5);obtain⟨sl,e⟩:=I.base.slot L o ho (I.ok.frf L hL) hL λz=>I.ok.exfs L z hL
   exact⟨hk,⟨L,_,hf,hn,e,hd⟩,ih (λb hb=>hs b (by unfold frs;rw[List.filterMap_cons,hf];exact B9 _ hb)) hr⟩
 exact all X.outer (λ_ hb=>hb) I.ok.funs
theorem Inv.stack(I:Inv X pins σ H s):s.heap.FunFrames X.base X.stack:=by
 rcases I.ok.stk with e|⟨e,hf⟩
 ·rw[e];exact I.funs
 ·rw[e]
  obtain⟨m,hn,_⟩:=I.loc;refine .cons (by rw[I.ok.kind];decide) hf hn ?_ I.funs;exact Heap.get?_none_of_le (C0 I.ok.bsz I.ok.above)
theorem Inv.stkSub(I:Inv X pins σ H s):∀b∈frs X.stack,b∈X.env.locals::X.fs:=λb hb=>by
 rcases I.ok.stk with e|⟨e,hf⟩
 ·rw[e] at hb;exact B9 _ hb
 ·rw[e] at hb
  unfold frs at hb;rw[List.filterMap_cons,hf] at hb;exact hb
theorem Inv.stkFree(I:Inv X pins σ H s):∀b∈frs X.stack,H b=none:=λb hb=>by
 rcases B3.mp (I.stkSub b hb) with e|hb
 ·rw[e];exact I.free
 ·obtain⟨_,o,ho,_⟩:=I.ok.funs.mem hb
  exact I.base.free b o ho (I.ok.frf b hb) λz=>I.ok.exfs b z hb
theorem Inv.step{g':Array GenState}{t':Nat}{d':Drawn}{ch:List Addr}(I:Inv X pins σ H s)
  (hch:∀b∈ch,(b∈X.ex∨X.s₀.heap.objs.size<=b)/\b≠X.env.locals/\(∀x c,X.env.cells.lookup x=some c->c≠b)/\∀p∈X.pn++pins,p.1≠b)
  (keep:∀b o,b≠X.env.locals->b∉X.fs->b∉ch->s.heap.get? b=some o->H b=none->h'.get? b=some o)
  (slot:∀b o,b≠X.env.locals->b∈X.fs->b∉ch->s.heap.get? b=some o->H b=none->∃sl,h'.get? b=some { o with slots:=sl }) (free:∀b o,b∉ch->s.heap.get? b=some o->H b=none->H' b=none)
  (there:∀b o,b∉ch->s.heap.get? b=some o->∃o',h'.get? b=some o')
  (tups:∀b xs,H b=some (.tup xs)->H' b=some (.tup xs)) (frzs:∀b o u,H b=some (.frz o u)->H' b=some (.frz o u)) (tbls:∀b ps,H b=some (.tbl ps)->∃more,H' b=some (.tbl (ps++more)))
  (ns:∀m,s.heap.Ns X.env.locals m->h'.Ns X.env.locals m) (hok:HOk X.prog X.w H' h') (hg:AllBare g') :
  Inv X pins σ H' { s with heap:=h',gens:=g',drawn:=d',toks:=t' }:=by
 have M:∀b o,X.s₀.heap.get? b=some o->b≠X.env.locals:=λb o e=>B0 (C4 (A6 e) I.ok.above)
 have L:∀b o,X.s₀.heap.get? b=some o->b∉X.ex->b∉ch:=λb o e hx hb=>by
  rcases (hch b hb).1 with z|z
  ·exact hx z
  ·exact absurd (C4 (A6 e) z) (E6 _)
 have J:∀x c,X.env.cells.lookup x=some c->∀v,s.heap.IsCell c v->h'.IsCell c v:=λx c e v ⟨o,ho,hd⟩=>by
  have F:c∉ch:=λz=>(hch c z).2.2.1 x c e rfl
  by_cases hc:c∈X.fs
  ·obtain⟨sl,q⟩:=slot c o (I.cne x c e) hc F ho (I.freeC x c e)
   exact⟨_,q,hd⟩
  ·exact⟨o,keep c o (I.cne x c e) hc F ho (I.freeC x c e),hd⟩
 refine⟨I.ok,I.os,hg,⟨λb o e n hb hx=>?_,λb o e n hb hx=>?_,λb o e n hx=>?_,λb o e hx=>?_,λb xs e=>tups b xs (I.base.tups b xs e),λb o xs e=>frzs b o xs (I.base.frzs b o xs e),λb ps e=>?_⟩,?_,λx c e=>?_,?_,λx c e=>?_,λp hp=>?_,hok,I.len⟩
 ·exact keep b o (M b o e) hb (L b o e hx) (I.base.keep b o e n hb hx) (I.base.free b o e n hx)
 ·obtain⟨sl,e1⟩:=I.base.slot b o e n hb hx
  obtain⟨O,e2⟩:=slot b _ (M b o e) hb (L b o e hx) e1 (I.base.free b o e n hx);exact⟨O,e2⟩
 ·obtain⟨o',e1⟩:=I.base.there b o e hx
  exact free b o' (L b o e hx) e1 (I.base.free b o e n hx)
 ·obtain⟨o',e1⟩:=I.base.there b o e hx
  exact there b o' (L b o e hx) e1
 ·obtain⟨m1,e1⟩:=I.base.tbls b ps e
  obtain⟨m2,e2⟩:=tbls b _ e1;exact⟨m1++m2,by rw[e2,Array.append_assoc]⟩
 ·obtain⟨m,hn,hl⟩:=I.loc
  refine⟨m,ns m hn,λi x v e1 e2 e3=>?_⟩;obtain⟨u,r,l⟩:=hl i x v e1 e2 e3;refine⟨u,r,?_⟩;rcases l with l|⟨k,c,e,z⟩
  ·exact .inl l
  ·exact .inr ⟨k,c,e,J x c e _ z⟩
 ·obtain⟨v,z⟩:=I.cell x c e
  exact⟨v,J x c e v z⟩
 ·obtain⟨m,⟨o,_,_,ho,_⟩,_⟩:=I.loc
  exact free _ o (λz=>(hch _ z).2.1 rfl) ho I.free
 ·obtain⟨v,o,ho,hd⟩:=I.cell x c e
  exact free c o (λz=>(hch c z).2.2.1 x c e rfl) ho (I.freeC x c e)
 ·obtain⟨e,n,ne,nf,d⟩:=I.pin p hp
  have F:p.1∉ch:=λz=>(hch p.1 z).2.2.2 p hp rfl
  exact⟨keep p.1 p.2 ne nf F e n,free p.1 p.2 F e n,ne,nf,d⟩
theorem Inv.un(I:Inv X pins σ H s)(u:Un X.fs [] H H' s.heap h')(hok:HOk X.prog X.w H' h'):Inv X pins σ H' { s with heap:=h',toks:=t' }:=by
 obtain⟨m,⟨o,es,ep,ho,r⟩,_⟩:=id I.loc;obtain⟨sl,hL⟩:=u.any ho I.free (by simp);exact I.step (g':=s.gens) (d':=s.drawn) (ch:=[]) (λ_ z=>nomatch z) (λb o _ hb _ e n=>u.keep b o e n hb (by simp)) (λb o _ hb _ e n=>u.slot b o e n hb (by simp)) (λb o _ e n=>u.free b o e n (by simp)) (λb o _ e=>u.there b o e (by simp)) u.tups u.frzs u.tbls (λm' hm=>by
  obtain⟨o',J,L,F,r'⟩:=hm;rw[ho] at F;cases F;exact⟨_,J,L,hL,r'⟩) hok I.bare
theorem Inv.call{g':Array GenState}{t':Nat}{d':Drawn}(I:Inv X pins σ H s)(u:Un (frs X.stack) ch H H' s.heap h')(hok:HOk X.prog X.w H' h')(hg:AllBare g')
  (hch:∀b∈ch,(b∈X.ex∨X.s₀.heap.objs.size<=b)/\b≠X.env.locals/\(∀x c,X.env.cells.lookup x=some c->c≠b)/\∀p∈X.pn++pins,p.1≠b) :
  Inv X pins σ H' { s with heap:=h',gens:=g',drawn:=d',toks:=t' }:=by
 obtain⟨m,⟨o,es,ep,ho,r⟩,_⟩:=id I.loc;obtain⟨sl,hL⟩:=u.any ho I.free λz=>(hch _ z).2.1 rfl
 exact I.step (ch:=ch) hch (λb o hL hb hc e n=>u.keep b o e n (λz=>(B3.mp (I.stkSub b z)).elim hL hb) hc) (λb o _ _ hc e n=>u.any e n hc) (λb o hc e n=>u.free b o e n hc) (λb o hc e=>u.there b o e hc) u.tups u.frzs u.tbls (λm' hm=>by
  obtain⟨o',J,L,F,r'⟩:=hm;rw[ho] at F;cases F;exact⟨_,J,L,hL,r'⟩) hok hg
theorem Inv.turned{t':Nat}(I:Inv X pins σ H s)(k:∀b o,b≠it->s.heap.get? b=some o->h'.get? b=some o)(hn:H it=none)(hL:it≠X.env.locals)
  (h1:it∈X.ex∨X.s₀.heap.objs.size<=it) (h2:∀x c,X.env.cells.lookup x=some c->c≠it) (h3:∀p∈X.pn++pins,p.1≠it):Inv X pins σ H { s with heap:=h',toks:=t' }:=by
 have F:∀b u,H b=some u->b≠it:=λb u e z=>by rw[z,hn] at e;cases e
 refine I.step (g':=s.gens) (d':=s.drawn) (ch:=[it]) (λb hb=>?_) (λb o _ _ hc e _=>k b o (λz=>hc (by simp[z])) e) (λb o _ _ hc e _=>⟨o.slots,k b o (λz=>hc (by simp[z])) e⟩) (λ_ _ _ _ n=>n)
  (λb o hc e=>⟨o,k b o (λz=>hc (by simp[z])) e⟩) (λ_ _ e=>e) (λ_ _ _ e=>e) (λb ps e=>⟨#[],by rw[e];simp⟩) (λm hm=>?_) (λb u e=>?_) I.bare
 ·have e:b=it:=by simpa using hb
  subst e;exact⟨h1,hL,h2,h3⟩
 ·obtain⟨o,es,ep,ho,r⟩:=hm
  exact⟨o,es,ep,k _ o (C6 hL) ho,r⟩
 ·refine(I.hok b u e).stay (λc v hc q=>k c v ?_ q) (λ_ q=>q) (λ_ _ q=>q) λ_ _ _ q=>q
  rcases hc with z|z
  ·rw[z];exact F b u e
  ·exact F c _ z
theorem Inv.tok(I:Inv X pins σ H s)(t:Nat):Inv X pins σ H { s with toks:=t }:=I.un (h':=s.heap) (t':=t) Un.refl I.hok
theorem Inv.kept(I:Inv X pins σ H s)(k:∀b u,s.heap.get? b=some u->h'.get? b=some u):Inv X pins σ H { s with heap:=h',toks:=t' }:=I.un (Un.kept k) (I.hok.kept k)
theorem Inv.laid{o:HO}{t':Nat}(I:Inv X pins σ H s)(k:∀b u,s.heap.get? b=some u->h'.get? b=some u)(hp:s.heap.objs.size<=a)(new:ObjOk X.prog X.w (upd H a o) h' a o) :
  Inv X pins σ (upd H a o) { s with heap:=h',toks:=t' }:=I.un (Un.laid k hp (I.hok.fresh hp)) (I.hok.laid k hp new)
theorem Inv.write{x e:Addr}{o:HO}{t':Nat}(I:Inv X pins σ H s)(mu:Mut (H x))(he:e=x∨H e=some (.own x))(k:∀b u,b≠e->s.heap.get? b=some u->h'.get? b=some u)(heo:∃u,h'.get? e=some u)
  (new:ObjOk X.prog X.w (upd H x o) h' x o):Inv X pins σ (upd H x o) { s with heap:=h',toks:=t' }:=I.un (Un.write mu he k heo) (I.hok.write mu he k heo new)
theorem Inv.weak{σ':List (Option V)}(I:Inv X pins σ H s)(hl:σ'.length=σ.length)(w:∀(i:Nat) v,σ'[i]?=some (some v)->σ[i]?=some (some v)):Inv X pins σ' H s :=
 ⟨I.ok,I.os,I.bare,I.base,let ⟨m,hn,hl'⟩:=I.loc;⟨m,hn,λi x v e1 e2 e3=>hl' i x v e1 (w i v e2) e3⟩,I.cell,I.free,I.freeC,I.pin,I.hok,hl.trans I.len⟩
theorem Inv.pins_of{pins':List (Addr×Obj)}(I:Inv X pins σ H s)(h:∀p∈pins',s.heap.get? p.1=some p.2/\H p.1=none/\p.1≠X.env.locals/\p.1∉X.fs/\∀v,p.2.data≠.cell v):Inv X pins' σ H s :=
 ⟨I.ok,I.os,I.bare,I.base,I.loc,I.cell,I.free,I.freeC,λp hp=>(B8.mp hp).elim (λz=>I.pin p (L8 _ z)) (h p),I.hok,I.len⟩
theorem oi0(hN:N.Nodup)(a:N[i]?=some x)(b:N[j]?=some x):i=j:=by
 obtain⟨h1,e1⟩:=E1.mp a;obtain⟨h2,e2⟩:=E1.mp b;exact(Ac0 hN).mp (e1.trans e2.symm)
theorem lr0{M:Model}{A:Around}{E:Value->Shared->Prop}{v:V}{Q:Unit->Shared->Prop}(I:Inv X pins σ H s)(hN:X.N.Nodup)(hi:X.N[i]?=some x)(hx:Loc X.env.scope x)(r:RelV v u)
  (h:∀s',Inv X pins (σ.set i (some v)) H s'->(∃a,Heap.SameBut a s.heap s'.heap/\(a=X.env.locals∨X.env.cells.lookup x=some a))->Q () s') (hf:X.fn x=true∨X.env.scope.names.lookup x=some .local:=by first|exact .inl rfl|exact .inr rfl|assumption):wpAny M A (storeName X.env x u) Q E s:=by
 obtain⟨m,hn,hl⟩:=id I.loc;have Y:(X.env.scope.kind==.class||(X.env.scope.kind==.module&&X.env.locals != X.env.globals))=false:=by rw[I.ok.kind];rfl
 have hiσ:i<σ.length:=by rw[I.len];exact(E1.mp hi).1
 have cne:=I.cne;have F:∀{a:Addr} {h':Heap},(∃o,s.heap.get? a=some o/\H a=none)->Heap.SameBut a s.heap h'->HOk X.prog X.w H h':=λ{a h'} ha hs b ob e=>by
  obtain⟨_,_,J⟩:=ha;refine(I.hok b ob e).stay (λc w' hc q=>(hs.2 c ?_).trans q) (λ_ q=>q) (λ_ _ q=>q) λ_ _ _ q=>q
  rintro rfl;rcases hc with rfl|hc
  ·rw[J] at e;cases e
  ·rw[J] at hc;cases hc
 rcases hx with hk|hk
 ·refine wpAny_storeName_local hk hn (λh' Z hs=>?_) Y
  obtain⟨oL,_,_,a0,_⟩:=id hn;refine h _ ⟨I.ok,I.os,I.bare,⟨λb o e n hb hx=>?_,λb o e n hb hx=>?_,I.base.free,λb o e hx=>?_,I.base.tups,I.base.frzs,I.base.tbls⟩,⟨_,Z,λj y v' e1 e2 e3=>?_⟩,λy c e=>?_,I.free,I.freeC,λp hp=>?_,F ⟨oL,a0,I.free⟩ hs,by simpa using I.len⟩ ⟨_,hs,.inl rfl⟩
  ·exact(hs.2 b (B0 (C4 (A6 e) I.ok.above))).trans (I.base.keep b o e n hb hx)
  ·obtain⟨sl,e1⟩:=I.base.slot b o e n hb hx
   exact⟨sl,(hs.2 b (B0 (C4 (A6 e) I.ok.above))).trans e1⟩
  ·obtain⟨o',e1⟩:=I.base.there b o e hx
   exact⟨o',(hs.2 b (B0 (C4 (A6 e) I.ok.above))).trans e1⟩
  ·by_cases hj:j=i
   ·subst hj
    rw[hi] at e1;cases e1;rw[List.getElem?_set_self hiσ] at e2;cases e2;exact⟨u,r,.inl ⟨hk,by simp⟩⟩
   ·rw[List.getElem?_set_ne (C6 hj)] at e2
    obtain⟨u',r',q⟩:=hl j y v' e1 e2 e3;refine⟨u',r',?_⟩;rcases q with⟨k,e⟩|⟨k,c,e,z⟩
    ·refine .inl ⟨k,?_⟩
     have:y≠x:=λe=>hj (oi0 hN e1 (e▸hi))
     simp[this,e]
    ·exact .inr ⟨k,c,e,z.sameBut hs (cne y c e)⟩
  ·obtain⟨w',z⟩:=I.cell y c e
   exact⟨w',z.sameBut hs (cne y c e)⟩
  ·obtain⟨e,n,ne,nf,d⟩:=I.pin p hp
   exact⟨(hs.2 p.1 ne).trans e,n,ne,nf,d⟩
 ·have L:X.fn x=true:=by
   rcases hf with z|z
   ·exact z
   ·rw[z] at hk;cases hk
  obtain⟨c,hc⟩:=I.ok.has x (.inl hk);obtain⟨w',z⟩:=I.cell x c hc;refine wpAny_storeName_cell I.ok.kind hk hc z (λh' S hs=>?_);obtain⟨oc,O,U⟩:=id z;refine h { s with heap:=h' } ⟨I.ok,I.os,I.bare,⟨λb o e n hb hx=>?_,λb o e n hb hx=>?_,I.base.free,λb o e hx=>?_,I.base.tups,I.base.frzs,I.base.tbls⟩,⟨m,hn.sameBut hs (C6 (cne x c hc)),λj y v' e1 e2 e3=>?_⟩,λy c' e=>?_,I.free,I.freeC,λp hp=>?_,F ⟨oc,O,I.freeC x c hc⟩ hs,by simpa using I.len⟩ ⟨c,hs,.inr hc⟩
  ·exact(hs.2 b (B0 (C4 (A6 e) (I.ok.cab x c L hc)))).trans (I.base.keep b o e n hb hx)
  ·obtain⟨sl,e1⟩:=I.base.slot b o e n hb hx
   exact⟨sl,(hs.2 b (B0 (C4 (A6 e) (I.ok.cab x c L hc)))).trans e1⟩
  ·obtain⟨o',e1⟩:=I.base.there b o e hx
   exact⟨o',(hs.2 b (B0 (C4 (A6 e) (I.ok.cab x c L hc)))).trans e1⟩
  ·by_cases hj:j=i
   ·subst hj
    rw[hi] at e1;cases e1;rw[List.getElem?_set_self hiσ] at e2;cases e2;exact⟨u,r,.inr ⟨.inl hk,c,hc,S⟩⟩
   ·rw[List.getElem?_set_ne (C6 hj)] at e2
    obtain⟨u',r',q⟩:=hl j y v' e1 e2 e3;refine⟨u',r',?_⟩;rcases q with q|⟨k,c',e,z'⟩
    ·exact .inl q
    ·refine .inr ⟨k,c',e,z'.sameBut hs ?_⟩
     rintro rfl;exact hj (oi0 hN e1 (I.ok.inj _ _ _ e hc▸hi))
  ·by_cases hcc:c'=c
   ·subst hcc;exact⟨_,S⟩
   ·obtain⟨w2,z2⟩:=I.cell y c' e
    exact⟨w2,z2.sameBut hs hcc⟩
  ·obtain⟨e,n,ne,nf,d⟩:=I.pin p hp
   refine⟨(hs.2 p.1 ?_).trans e,n,ne,nf,d⟩;intro q;rw[q,O] at e;have q':oc=p.2:=B1 e;exact d w' (by rw[← q'];exact U)
theorem or0{M:Model}{A:Around}{E:Value->Shared->Prop}{v:V}{Q:Unit->Shared->Prop}(I:Inv X pins σ H s)(hN:X.N.Nodup)(hi:X.N[i]?=some x)(hx:Loc X.env.scope x)(r:RelV v u)
  (h:∀s',Inv X pins (σ.set i (some v)) H s'->Q () s') (hf:X.fn x=true∨X.env.scope.names.lookup x=some .local:=by first|exact .inl rfl|exact .inr rfl|assumption):wpAny M A (storeName X.env x u) Q E s :=
 lr0 I hN hi hx r (λs' I' _=>h s' I') hf
theorem Inv.call'(I:Inv X pins σ H s)(ho:s'.os=s.os)(u:Un (frs X.stack) ch H H' s.heap s'.heap)(hok:HOk X.prog X.w H' s'.heap)(hg:AllBare s'.gens)
  (hch:∀b∈ch,(b∈X.ex∨X.s₀.heap.objs.size<=b)/\b≠X.env.locals/\(∀x c,X.env.cells.lookup x=some c->c≠b)/\∀p∈X.pn++pins,p.1≠b):Inv X pins σ H' s':=by
 obtain⟨h',g',d',t',o'⟩:=s';have e:o'=s.os:=ho;subst e;exact I.call (g':=g') (t':=t') (d':=d') u hok hg hch
end
abbrev XK:=Value->Option Addr->Hp->Prop
abbrev St:=List (Option V)
abbrev VK:=V->Hp->Prop
abbrev TE:=St->Hp->VK->Prop
variable{r:List L2.V->L2.Hp->L2.VK->Prop}
abbrev TT:=St->Hp->(Bool->Hp->Prop)->Prop
variable{ta tb te tv td:L2.TE}
abbrev TA:=St->Hp->(List V->Hp->Prop)->Prop
structure Ends where
 nx:St->Hp->Prop
 rt:VK
 bk:St->Hp->Prop:=λ_ _=>False
 ct:St->Hp->Prop:=λ_ _=>False
abbrev TS:=Ends->St->Hp->Prop
def EP(X:Cx)(pins:List (Addr×Obj))(σ:St)(Q:VK)(u:Value)(s':Shared):Prop:=∃v H',Inv X pins σ H' s'/\RelV v u/\Q v H'
def TP(X:Cx)(pins:List (Addr×Obj))(σ:St)(Q:Bool->Hp->Prop)(b:Bool)(s':Shared):Prop:=∃H',Inv X pins σ H' s'/\Q b H'
def AP(X:Cx)(pins:List (Addr×Obj))(σ:St)(Q:List V->Hp->Prop)(us:List Value)(s':Shared):Prop:=∃vs H',Inv X pins σ H' s'/\Vals vs us/\Q vs H'
def SP(X:Cx)(pins:List (Addr×Obj))(D:Ends)(f:Flow)(s':Shared):Prop :=
 match f with
 | .next=>∃σ' H',Inv X pins σ' H' s'/\D.nx σ' H'
 | .brk=>∃σ' H',Inv X pins σ' H' s'/\D.bk σ' H'
 | .cont=>∃σ' H',Inv X pins σ' H' s'/\D.ct σ' H'
 | .ret u=>∃v σ' H',Inv X pins σ' H' s'/\RelV v u/\D.rt v H'
def PE(X:Cx)(e:Expr)(t:TE):Prop :=
 ∀(pins:List (Addr×Obj)) (s:Shared) (σ:St) (H:Hp) (Q:VK),Inv X pins σ H s->t σ H Q->wpAny (model X.prog X.w) X.A (eval e X.env) (EP X pins σ Q) X.xe s
def PT(X:Cx)(e:Expr)(t:TT):Prop :=
 ∀(pins:List (Addr×Obj)) (s:Shared) (σ:St) (H:Hp) (Q:Bool->Hp->Prop),Inv X pins σ H s->t σ H Q->wpAny (model X.prog X.w) X.A (isTrue e X.env (eval e X.env)) (TP X pins σ Q) X.xe s
def PW(X:Cx)(e:Expr)(t:TT):Prop :=
 ∀(whole:Sem Value) (pins:List (Addr×Obj)) (s:Shared) (σ:St) (H:Hp) (Q:Bool->Hp->Prop),Inv X pins σ H s->t σ H Q->wpAny (model X.prog X.w) X.A (isTrue e X.env whole) (TP X pins σ Q) X.xe s
theorem PW.pt{t:TT}(h:PW X e t):PT X e t:=h _
def PA(X:Cx)(es:List Expr)(t:TA):Prop :=
 ∀(pos:Pos) (pins:List (Addr×Obj)) (s:Shared) (σ:St) (H:Hp) (Q:List V->Hp->Prop),Inv X pins σ H s->t σ H Q->wpAny (model X.prog X.w) X.A (spliced (backTo pos (starEach es X.env))) (AP X pins σ Q) X.xe s
def PS(X:Cx)(st:Stmt)(t:TS):Prop :=
 ∀(pins:List (Addr×Obj)) (s:Shared) (σ:St) (H:Hp) (D:Ends),Inv X pins σ H s->t D σ H->wpAny (model X.prog X.w) X.A (exec st X.env) (SP X pins D) X.xe s
def PSs(X:Cx)(st:List Stmt)(t:TS):Prop :=
 ∀(pins:List (Addr×Obj)) (s:Shared) (σ:St) (H:Hp) (D:Ends),Inv X pins σ H s->t D σ H->wpAny (model X.prog X.w) X.A (execs st X.env) (SP X pins D) X.xe s
theorem thn{t:Sem α}{Q Q':α->Shared->Prop}{M:Model}{s:Shared}(h:wpAny M A t Q E s)(hQ:∀a s,Q a s->Q' a s):wpAny M A t Q' E s:=D2 h hQ λ_ _ x=>x
section
def Yc0(i:Nat):TE:=fun σ H Q=>∃v,σ[i]?=some (some v)/\Q v H
def tC(v:V):TE:=λ_ H Q=>Q v H
theorem zs0(hN:X.N[i]?=some x)(hv:Vis X.env.scope x)(hd:(x==("__debug__" : Str))=false:=by decide)(hcd:(x==("__classdict__" : Str))=false:=by decide):PE X (.Name x pos) (Yc0 i):=by
 intro pins s σ H Q I h;obtain⟨v,e,h⟩:=h;obtain⟨m,hn,hl⟩:=I.loc;obtain⟨u,r,l⟩:=hl i x v hN e hv;have fin:EP X pins σ Q u s:=⟨v,H,I,r,h⟩;rcases l with⟨hk,hm⟩|⟨hk,c,hc,F⟩
 ·exact wpAny_Name (wpAny_loadName_local I.ok.kind hk hn hm fin) hd
 ·rcases hk with hk|hk
  ·exact wpAny_Name (wpAny_loadName_cell I.ok.kind hk hc F fin) hd
  ·exact wpAny_Name (wpAny_loadName_free I.ok.kind hk hc F fin hcd) hd
theorem dd0{i j pos}:PE X (.Constant (.int i) j pos) (tC (.int i)):=λ_ _ _ H _ I h=>wpAny_Constant_int ⟨.int i,H,I.tok _,⟨_,rfl⟩,h⟩
theorem ai0{b j pos}:PE X (.Constant (.bool b) j pos) (tC (.bl b)):=λ_ _ _ H _ I h=>Constant_bool ⟨.bl b,H,I,rfl,h⟩
theorem dy0{j pos}:PE X (.Constant .none j pos) (tC .non):=λ_ _ _ H _ I h=>Constant_none ⟨.non,H,I,rfl,h⟩
theorem c80{x j pos}:PE X (.Constant (.str x) j pos) (tC (.str x)):=λ_ _ _ H _ I h=>Calls.Constant_str ⟨.str x,H,I.tok _,⟨_,rfl⟩,h⟩
def Gl(X:Cx)(x:Str):Prop:=X.env.kindOf x=some .globalImplicit
theorem eu0{E:Value->Shared->Prop}{s:Shared}{σ:St}{pos:Pos}(I:Inv X pins σ H s)(hg:Gl X x)(hm:X.mg x=some u)(h:Q u s)
  (hd:(x==("__debug__" : Str))=false:=by decide):wpAny (model X.prog X.w) X.A (eval (.Name x pos) X.env) Q E s :=
 Af0 I.ok.kind hg (Calls.loadGlobal_global (by rw[I.ok.glob];exact I.mod.glob.keeps I.bk) hm h) hd
theorem zo0{E:Value->Shared->Prop}{s:Shared}{σ:St}{pos:Pos}(I:Inv X pins σ H s)(hg:Gl X x)(hm:X.mg x=none)(hv:bootBuiltins x=some u)(h:Q u s)
  (hn:x ≠"__name__" := by decide) (hd:(x==("__debug__" : Str))=false:=by decide):wpAny (model X.prog X.w) X.A (eval (.Name x pos) X.env) Q E s:=by
 obtain⟨mb,h1,h2⟩:=I.mod.blt;exact Af0 I.ok.kind hg (Calls.loadGlobal_builtin (by rw[I.ok.glob];exact I.mod.glob.keeps I.bk) hm (by rw[I.ok.blt];exact h1.keeps I.bk) ((h2 x hn).trans hv) h) hd
theorem eg0{v:V}(hg:Gl X x)(hm:X.mg x=none)(hv:bootBuiltins x=some u)(r:RelV v u)(hn:x ≠"__name__" := by decide)(hd:(x==("__debug__" : Str))=false:=by decide):PE X (.Name x pos) (tC v) :=
 λ_ _ _ H _ I h=>zo0 I hg hm hv ⟨v,H,I,r,h⟩ hn hd
variable{a:Expr}
def PC(X:Cx)(op:CmpOp)(a b:Expr)(t:TE):Prop :=
 ∀(pins:List (Addr×Obj)) (s:Shared) (σ:St) (H:Hp) (Q:VK),Inv X pins σ H s->t σ H Q ->
  wpAny (model X.prog X.w) X.A (eval a X.env) (λv s₁=>wpAny (model X.prog X.w) X.A (eval b X.env) (λu s₂=>wpAny (model X.prog X.w) X.A (compareOp op v u) (EP X pins σ Q) X.xe s₂) X.xe s₁) X.xe s
def tB(t:TE):TT:=fun σ H Q=>t σ H λx H1=>∃c,x=.bl c/\Q c H1
theorem cc0{op:CmpOp}{t:TE}(h:PC X op a b t)(h1:behindInMarks op b=false:=by first|exact nobehind _ (by decide) (by decide)|rfl):PT X (.Compare a [op] [b] pos) (tB t):=by
 intro pins s σ H Q I hw;refine wpAny_isTrue_Compare1 (thn (h pins s σ H _ I hw) λv s1 h1=>thn h1 λu s2 h2=>thn h2 λc s3 ⟨x,H1,I1,r1,q1⟩=>?_) h1;obtain⟨d,rfl,q⟩:=q1;cases r1;exact S1 ⟨H1,I1,q⟩
theorem di0{t:TE}(h:PE X e t)(he:∀whole,isTrue e X.env whole=(do let v ← whole;standAt e.pos;holding [v] (truthy v)):=by intro _;rfl):PT X e (tB t):=by
 intro pins s σ H Q I hw;refine isTrue_plain (thn (h pins s σ H _ I hw) λv s1 ⟨x,H1,I1,r1,q1⟩=>?_) (he _);obtain⟨d,rfl,q⟩:=q1;cases r1;exact S1 ⟨H1,I1,q⟩
variable{tA tB':TT}{rest:List Expr}
def Ye0(t u:TT):TT:=fun σ H Q=>t σ H λc H1=>if c=true then u σ H1 Q else Q false H1
def tOr(t u:TT):TT:=fun σ H Q=>t σ H λc H1=>if c=true then Q true H1 else u σ H1 Q
def Zp0(t:TT):TT:=fun σ H Q=>t σ H λc H1=>Q (!c) H1
theorem e30(ha:PT X a tA):PW X (.BoolOp .And [a] pos) tA:=by
 intro wh pins s σ H Q I h;refine isTrue_and (thn (ha pins s σ H Q I h) λc s1 e=>?_);cases c with
 | true=>exact isTrue_and_nil e
 | false=>exact e
theorem cv0(ha:PT X a tA):PW X (.BoolOp .Or [a] pos) tA:=by
 intro wh pins s σ H Q I h;refine isTrue_or (thn (ha pins s σ H Q I h) λc s1 e=>?_);cases c with
 | false=>exact isTrue_or_nil e
 | true=>exact e
theorem b50(ha:PT X a tA)(hb:PW X (.BoolOp .And (b::rest) pos) tB'):PW X (.BoolOp .And (a::b::rest) pos) (Ye0 tA tB'):=by
 intro wh pins s σ H Q I h;refine isTrue_and (thn (ha pins s σ H _ I h) λc s1 ⟨H1,I1,q1⟩=>?_);cases c with
 | true=>exact hb wh pins s1 σ H1 Q I1 q1
 | false=>exact⟨H1,I1,q1⟩
theorem aj0(ha:PT X a tA)(hb:PW X (.BoolOp .Or (b::rest) pos) tB'):PW X (.BoolOp .Or (a::b::rest) pos) (tOr tA tB'):=by
 intro wh pins s σ H Q I h;refine isTrue_or (thn (ha pins s σ H _ I h) λc s1 ⟨H1,I1,q1⟩=>?_);cases c with
 | true=>exact⟨H1,I1,q1⟩
 | false=>exact hb wh pins s1 σ H1 Q I1 q1
theorem cl0(ha:PT X a tA):PT X (.UnaryOp .Not a pos) (Zp0 tA):=by
 intro pins s σ H Q I h;exact isTrue_not (ha pins s σ H (λc H1=>Q (!c) H1) I h)
def bs0(ta tb:TE):TE:=fun σ H Q=>ta σ H λx H1=>∃c,x=.bl c/\if c=true then tb σ H1 Q else Q (.bl false) H1
theorem dz0{op}{t:TE}(h:PE X a t):PE X (.BoolOp op [a] pos) t:=λpins s σ H Q I hw=>BoolOp_one (h pins s σ H Q I hw)
theorem b90(ha:PE X a ta)(hb:PE X (.BoolOp .And (b::rest) pos) tb):PE X (.BoolOp .And (a::b::rest) pos) (bs0 ta tb):=by
 intro pins s σ H Q I h;refine BoolOp_and (thn (ha pins s σ H _ I h) λv s1 ⟨x,H1,I1,r1,q1⟩=>?_);obtain⟨c,rfl,q1⟩:=q1;cases r1;refine S1 ?_;cases c with
 | true=>exact hb pins s1 σ H1 Q I1 q1
 | false=>exact⟨.bl false,H1,I1,rfl,q1⟩
end
def SqL(K:W.Frag)(H:Hp)(a:Addr)(xs:List V):Prop :=
 Rd H a (.lst xs) ∨
  ∃(o:Obj) (its:Array Value) (n:Nat),K.lookup a=some o/\o.cls=.type "list"/\o.dict=none/\o.data=.seq its n/\its.size<=sizeLine/\Vals xs its.toList
def SqT(K:W.Frag)(H:Hp)(a:Addr)(xs:List V):Prop :=
 Rd H a (.tup xs) ∨
  ∃(o:Obj) (its:Array Value) (n:Nat),K.lookup a=some o/\o.cls=.type "tuple"/\o.data=.seq its n/\its.size<=sizeLine/\Vals xs its.toList
def Zw0:Value->Option V
 | .none=>some .non
 | .bool b=>some (.bl b)
 | .int i _=>some (.int i)
 | .str x _=>some (.str x)
 | .bytes b _=>some (.byt b)
 | .float b _=>some (.flt b)
 | .ref a=>some (.ref a)
 | .type n=>some (.ty n)
 | _=>none
theorem RelV.abs{x:V}(r:RelV x u):Zw0 u=some x:=by
 cases x with
 | non=>cases r;rfl
 | bl _=>cases r;rfl
 | int _=>obtain⟨t,rfl⟩:=r;rfl
 | str _=>obtain⟨t,rfl⟩:=r;rfl
 | byt _=>obtain⟨t,rfl⟩:=r;rfl
 | flt _=>obtain⟨t,rfl⟩:=r;rfl
 | ref _=>cases r;rfl
 | ty _=>cases r;rfl
theorem RelV.inj{x:V}(r:RelV x u)(q:RelV y u):x=y:=B1 (r.abs.symm.trans q.abs)
theorem Vals.inj:∀{xs ys:List V} {us:List Value},Vals xs us->Vals ys us->xs=ys
 | _,_,_,.nil,.nil=>rfl
 | _,_,_,.cons r t,.cons r' t'=>by rw[r.inj r',Vals.inj t t']
section
variable{σ:St}{s:Shared}{ys:List V}
theorem Inv.list(I:Inv X pins σ H s)(h:SqL X.K H a xs):∃its:List Value,Vals xs its/\PlainL s.heap a its.toArray/\xs.length<=sizeLine:=by
 rcases h with h|⟨o,its,n,hk,hc,hd,hs,hz,r⟩
 ·obtain⟨z,its,n,r,e⟩:=h.ok I.hok
  exact⟨its,r,⟨_,n,e,rfl,rfl,rfl⟩,z⟩
 ·refine⟨its.toList,r,⟨o,n,I.kIn a o hk,hc,hd,by simpa using hs⟩,?_⟩
  have e:=r.length;simp only[Array.length_toList] at e;omega
theorem Inv.tuple(I:Inv X pins σ H s)(h:SqT X.K H a xs):∃its:List Value,Vals xs its/\IsTup s.heap a its.toArray/\xs.length<=sizeLine:=by
 rcases h with h|⟨o,its,n,hk,hc,hs,hz,r⟩
 ·obtain⟨z,its,r,p⟩:=h.ok I.hok
  exact⟨its,r,p.tup,z⟩
 ·refine⟨its.toList,r,⟨o,I.kIn a o hk,hc,n,by simpa using hs⟩,?_⟩
  have e:=r.length;simp only[Array.length_toList] at e;omega
theorem Inv.list_inj(I:Inv X pins σ H s)(h:SqL X.K H a xs)(h':SqL X.K H a ys):xs=ys:=by
 obtain⟨its,r,⟨o,n,e,_,_,d⟩,_⟩:=I.list h;obtain⟨F,r',⟨o',n',e',_,_,d'⟩,_⟩:=I.list h';rw[e] at e';cases e';rw[d] at d';injection d' with d1 _
 have:its=F:=by simpa using C1 Array.toList d1
 subst this;exact r.inj r'
theorem Inv.tuple_inj(I:Inv X pins σ H s)(h:SqT X.K H a xs)(h':SqT X.K H a ys):xs=ys:=by
 obtain⟨its,r,⟨o,e,_,n,d⟩,_⟩:=I.tuple h;obtain⟨F,r',⟨o',e',_,n',d'⟩,_⟩:=I.tuple h';rw[e] at e';cases e';rw[d] at d';injection d' with d1 _
 have:its=F:=by simpa using C1 Array.toList d1
 subst this;exact r.inj r'
end
abbrev Cx.wish(X:Cx)(E:Value->Shared->Prop):Cx:={ X with xe:=E }
abbrev Cx.nox(X:Cx):Cx:=X.wish λ_ _=>False
theorem Cx.Ok.wish(ok:X.Ok)(E:Value->Shared->Prop):(X.wish E).Ok :=
 ⟨ok.mod,ok.kind,ok.glob,ok.blt,ok.above,ok.inj,ok.has,ok.cab,ok.hd,ok.frames,ok.stk,ok.exf,ok.bs,ok.bsz,ok.noex,ok.exfs,ok.funs,ok.frf⟩
theorem Cx.Ok.unwish(ok:(X.wish E).Ok):X.Ok :=
 ⟨ok.mod,ok.kind,ok.glob,ok.blt,ok.above,ok.inj,ok.has,ok.cab,ok.hd,ok.frames,ok.stk,ok.exf,ok.bs,ok.bsz,ok.noex,ok.exfs,ok.funs,ok.frf⟩
section
variable{σ:St}{s:Shared}
theorem Inv.wish(I:Inv X pins σ H s)(E:Value->Shared->Prop):Inv (X.wish E) pins σ H s:=⟨I.ok.wish E,I.os,I.bare,I.base,I.loc,I.cell,I.free,I.freeC,I.pin,I.hok,I.len⟩
theorem Inv.unwish(I:Inv (X.wish E) pins σ H s):Inv X pins σ H s:=⟨I.ok.unwish,I.os,I.bare,I.base,I.loc,I.cell,I.free,I.freeC,I.pin,I.hok,I.len⟩
theorem SP.unwish{D:Ends}{f:Flow}(h:SP (X.wish E) pins D f s'):SP X pins D f s':=by
 cases f with
 | next=>obtain⟨σ',H',I,q⟩:=h;exact⟨σ',H',I.unwish,q⟩
 | brk=>obtain⟨σ',H',I,q⟩:=h;exact⟨σ',H',I.unwish,q⟩
 | cont=>obtain⟨σ',H',I,q⟩:=h;exact⟨σ',H',I.unwish,q⟩
 | ret u=>obtain⟨v,σ',H',I,r,q⟩:=h;exact⟨v,σ',H',I.unwish,r,q⟩
theorem PSs.nox{st:List Stmt}{t:TS}(h:PSs X.nox st t):PSs X st t:=λpins s σ H D I hw =>
 D2 (h pins s σ H D (I.wish _) hw) (λ_ _ q=>q.unwish) λ_ _ z=>False.elim z
end
section
variable{t u:TS}
def ad0:TS:=λD σ H=>D.nx σ H
def Yh0(t u:TS):TS:=λD σ H=>t { D with nx:=u D } σ H
theorem ew0:PSs X [] ad0:=λ_ _ σ H _ I h=>p5 ⟨σ,H,I,h⟩
theorem ys0(h1:PS X st t)(h2:PSs X rest u):PSs X (st::rest) (Yh0 t u):=by
 intro pins s σ H D I h;refine wpAny_execs_cons (thn (h1 pins s σ H { D with nx:=u D } I h) λf s1 q=>?_);cases f with
 | next =>
  obtain⟨σ',H',I',q⟩:=q;exact h2 pins s1 σ' H' D I' q
 | ret v=>exact q
 | brk=>exact q
 | cont=>exact q
theorem Inv.quiet{σ:St}{s:Shared}(I:Inv X pins σ H s):interactive X.env=false:=by simp[interactive,I.ok.kind]
def Zl0(te:TE):TS:=λD σ H=>te σ H λ_ H1=>D.nx σ H1
theorem e00(he:PE X e te)(hs:swapsWith e none pos.line X.env=pure false:=by rfl):PS X (.Expr e pos) (Zl0 te):=by
 intro pins s σ H D I h;exact wpAny_Expr_any (thn (he pins s σ H _ I h) λv s1 ⟨x,H1,I1,r1,q1⟩=>⟨σ,H1,I1,q1⟩) I.quiet hs
def Zy0(te:TE):TS:=λD σ H=>te σ H D.rt
theorem o00(he:PE X e te):PS X (.Return (some e) pos) (Zy0 te):=by
 intro pins s σ H D I h;exact wpAny_Return_some (thn (he pins s σ H _ I h) λv s1 ⟨x,H1,I1,r1,q1⟩=>⟨x,σ,H1,I1,r1,q1⟩)
def Zv0(c:TT)(t u:TS):TS:=λD σ H=>c σ H λb H1=>if b=true then t D σ H1 else u D σ H1
theorem Z30{a b:List Stmt}{tc:TT}(hc:PT X c tc)(ha:PSs X a t)(hb:PSs X b u):PS X (.If c a b pos) (Zv0 tc t u):=by
 intro pins s σ H D I h;refine wpAny_If (thn (hc pins s σ H _ I h) λd s1 ⟨H1,I1,q1⟩=>?_);cases d with
 | true=>exact ha pins s1 σ H1 D I1 q1
 | false=>exact hb pins s1 σ H1 D I1 q1
def bh0:TS:=λ_ _ _=>False
theorem xl0{sts:List Stmt}:PSs X sts bh0:=λ_ _ _ _ _ _ h=>h.elim
end
abbrev TG:=V->St->Hp->(St->Hp->Prop)->Prop
abbrev TGs:=List V->St->Hp->(St->Hp->Prop)->Prop
def PG(X:Cx)(target:Expr)(t:TG):Prop :=
 ∀(pins:List (Addr×Obj)) (s:Shared) (σ:St) (H:Hp) (v:V) (u:Value) (Q:St->Hp->Prop),Inv X pins σ H s->RelV v u->t v σ H Q ->
  wpAny (model X.prog X.w) X.A (assign target X.env u) (λ_ s'=>∃σ' H',Inv X pins σ' H' s'/\Q σ' H') X.xe s
def PGs(X:Cx)(ts:List Expr)(t:TGs):Prop :=
 ∀(pins:List (Addr×Obj)) (s:Shared) (σ:St) (H:Hp) (vs:List V) (us:List Value) (Q:St->Hp->Prop),Inv X pins σ H s->Vals vs us->t vs σ H Q ->
  wpAny (model X.prog X.w) X.A (assignInOrder ((assignEach ts X.env).map (·.2)) us) (λ_ s'=>∃σ' H',Inv X pins σ' H' s'/\Q σ' H') X.xe s
abbrev g10:=V->V->V->Hp->(Hp->Prop)->Prop
def ij0(X:Cx)(t:g10):Prop :=
 ∀(pins:List (Addr×Obj)) (s:Shared) (σ:St) (H:Hp) (o i v:V) (ov iv u:Value) (Q:Hp->Prop),Inv X pins σ H s->RelV o ov->RelV i iv->RelV v u->t o i v H Q ->
  wpAny (model X.prog X.w) X.A (setItem ov iv u) (λ_ s'=>∃H',Inv X pins σ H' s'/\Q H') X.xe s
abbrev TIp:=V->V->Hp->VK->Prop
def PIp(X:Cx)(op:Operator)(t:TIp):Prop :=
 ∀(pins:List (Addr×Obj)) (s:Shared) (σ:St) (H:Hp) (x y:V) (v u:Value) (Q:VK),Inv X pins σ H s->RelV x v->RelV y u->t x y H Q ->
  wpAny (model X.prog X.w) X.A (inplaceOp op v u) (EP X pins σ Q) X.xe s
def ar0(i:Nat):TG:=λv σ H Q=>Q (σ.set i (some v)) H
theorem u80(hN:X.N.Nodup)(hi:X.N[i]?=some x)(hx:Loc X.env.scope x)(hf:X.fn x=true∨X.env.scope.names.lookup x=some .local:=by first|exact .inl rfl|exact .inr rfl|assumption):PG X (.Name x pos) (ar0 i):=by
 intro pins s σ H v u Q I r h;exact wpAny_assign_Name (or0 I hN hi hx r (λs' I'=>⟨_,H,I',h⟩) hf)
def Y90:TGs:=λvs σ H Q=>vs=[]/\Q σ H
def bv0(t:TG)(u:TGs):TGs:=λvs σ H Q=>∃v r,vs=v::r/\t v σ H fun σ' H'=>u r σ' H' Q
theorem fl0:PGs X [] Y90:=by
 intro pins s σ H vs us Q I r h;obtain⟨e,h⟩:=h;subst e;cases r;exact assignInOrder_nil ⟨σ,H,I,h⟩
theorem pz0{t:TG}{u:TGs}(h1:PG X e t)(h2:PGs X es u)
  (hs:(assignEach (e::es) X.env).map (·.2)=assign e X.env::(assignEach es X.env).map (·.2):=by rfl):PGs X (e::es) (bv0 t u):=by
 intro pins s σ H vs us Q I r h;obtain⟨v,vr,e1,h⟩:=h;subst e1;cases r with
 | cons r rr =>
  rw[hs];refine assignInOrder_cons (thn (h1 pins s σ H _ _ _ I r h) λ_ s1 ⟨σ1,H1,I1,q1⟩=>?_);exact h2 pins s1 σ1 H1 _ _ Q I1 rr q1
def Y30(K:W.Frag)(n:Nat)(t:TGs):TG:=λv σ H Q=>∃a xs,v=.ref a/\SqT K H a xs/\xs.length=n/\t xs σ H Q
theorem cp0{k:Nat}{t:TGs}{n:Nat}(hc:X.calm=true)(h:PGs X es t)
  (hn:(assignEach es X.env).length=n:=by rfl) (hst:(assignEach es X.env).findIdx? (·.1)=none:=by rfl):PG X (.Tuple es k pos) (Y30 X.K n t):=by
 intro pins s σ H v u Q I r hw;obtain⟨a,xs,e1,hq,hl,hw⟩:=hw;subst e1;cases r;obtain⟨its,rv,ht,hz⟩:=I.tuple hq;refine assign_Tuple_tuple (I.ok.hd hc) ht (by simp[hn,← hl,rv.length]) hst λh' hx=>?_
 have I1:Inv X pins σ H { s with heap:=h' }:=I.kept (t':=s.toks) λb o e=>hx b o (B0 (A6 e)) e
 exact h pins _ σ H xs _ Q I1 (by simpa using rv) hw
def Y50(to ti:TE)(t:g10):TG:=λv σ H Q=>to σ H λo H1=>ti σ H1 λi H2=>t o i v H2 λH3=>Q σ H3
theorem lv0{i:Expr}{to ti:TE}{t:g10}(ho:PE X o to)(hi:PE X i ti)(hs:ij0 X t)
  (ha:∀v,assign (.Subscript o i pos) X.env v=(do
   let ov ← holding [v] (eval o X.env)
   let iv ← holding [v,ov] (eval i X.env)
   standAt pos
   holding [v,ov,iv] (setItem ov iv v)
   release [v,ov,iv] []):=by intro _;rfl):PG X (.Subscript o i pos) (Y50 to ti t):=by
 intro pins s σ H v u Q I r h;rw[ha];refine A0 (C7 (thn (ho pins s σ H _ I h) λov s1 ⟨x,H1,I1,r1,q1⟩=>?_));refine A0 (C7 (thn (hi pins s1 σ H1 _ I1 q1) λiv s2 ⟨y,H2,I2,r2,q2⟩=>?_));refine A0 (p9 (A0 (C7 (thn (hs pins s2 σ H2 x y v ov iv u _ I2 r1 r2 r q2) λ_ s3 ⟨H3,I3,q3⟩=>?_))));exact wpAny_release ⟨σ,H3,I3,q3⟩
def Yd0(te:TE)(g:TG):TS:=λD σ H=>te σ H λx H1=>g x σ H1 D.nx
theorem pg0{g:TG}(he:PE X e te)(hg:PG X tg g)(hs:swapsWithSole [tg] e pos.line X.env=pure false:=by rfl)(hw:swappedStores [tg] e X.env=pure none:=by rfl)
  (h1:(assignEach [tg] X.env).map (·.2)=[assign tg X.env]:=by rfl):PS X (.Assign [tg] e pos) (Yd0 te g):=by
 intro pins s σ H D I h;refine wpAny_Assign_stores (thn (he pins s σ H _ I h) λv s1 ⟨x,H1,I1,r1,q1⟩=>?_) hs hw;rw[h1];exact thn (hg pins s1 σ H1 x v _ I1 r1 q1) λ_ s2 q=>q
def Yf0(i:Nat)(te:TE)(ti:TIp):TS:=λD σ H=>∃x,σ[i]?=some (some x)/\te σ H λy H1=>ti x y H1 λz H2=>D.nx (σ.set i (some z)) H2
theorem bl0{op:Operator}{ti:TIp}{pos':Pos}(hN:X.N.Nodup)(hi:X.N[i]?=some x)(hx:Loc X.env.scope x)(he:PE X e te)(ho:PIp X op ti)(hf:X.fn x=true∨X.env.scope.names.lookup x=some .local:=by first|exact .inl rfl|exact .inr rfl|assumption) :
  PS X (.AugAssign (.Name x pos') op e pos) (Yf0 i te ti):=by
 intro pins s σ H D I h;obtain⟨v,e1,h⟩:=h;obtain⟨m,hn,hl⟩:=I.loc;have J:Vis X.env.scope x:=by rcases hx with k|k;exact .inl k;exact .inr (.inl k)
 obtain⟨u,r,l⟩:=hl i x v hi e1 J;refine wpAny_AugAssign_Name ?_;have go:wpAny (model X.prog X.w) X.A (eval e X.env) (λw s₂=>wpAny (model X.prog X.w) X.A (inplaceOp op u w) (λr s₃=>wpAny (model X.prog X.w) X.A (storeName X.env x r) (λ_=>SP X pins D .next) X.xe s₃) X.xe s₂) X.xe s:=by
  refine thn (he pins s σ H _ I h) λw s1 ⟨y,H1,I1,r1,q1⟩=>?_
  refine thn (ho pins s1 σ H1 v y u w _ I1 r r1 q1) λz s2 ⟨zv,H2,I2,r2,q2⟩=>?_
  exact or0 I2 hN hi hx r2 (λs3 I3=>⟨_,H2,I3,q2⟩) hf
 rcases l with⟨hk,hm⟩|⟨hk,c,hc,F⟩
 ·exact wpAny_loadName_local I.ok.kind hk hn hm go
 ·rcases hk with hk|hk
  ·exact wpAny_loadName_cell I.ok.kind hk hc F go
  ·rcases hx with k|k
   ·have:X.env.scope.names.lookup x=some .free:=hk
    rw[k] at this;cases this
   ·have:X.env.scope.names.lookup x=some .free:=hk
    rw[k] at this;cases this
def ipI(f:Int->Int->Int):TIp:=λx y H Q=>∃i j,x=.int i/\y=.int j/\Q (.int (f i j)) H
theorem df0:PIp X .Add (ipI λi j=>i+j):=by
 intro pins s σ H x y v u Q I r1 r2 h;obtain⟨i,j,e1,e2,q⟩:=h;subst e1;subst e2;obtain⟨t,rfl⟩:=r1;obtain⟨t',rfl⟩:=r2;exact iadd_int ⟨.int _,H,I.tok _,⟨_,rfl⟩,q⟩
def cx0(c:TT)(tb:TS):TS:=λD σ H=>∃W:Nat->St->Hp->Prop,(∃m,W m σ H)/\∀m σ H,W m σ H ->
 c σ H λb H1=>if b=true then ∃N:St->Hp->Prop,(∀σ' H',N σ' H'->∃m',m'<m/\W m' σ' H')/\tb { D with nx:=N,ct:=N,bk:=D.nx } σ H1 else D.nx σ H1
theorem h60{tc:TT}{tb:TS}(hp:PassesOwn (model X.prog X.w) X.A X.env X.xe)(hc:PT X c tc)(hb:PSs X body tb):PS X (.While c body [] pos) (cx0 tc tb):=by
 intro pins s σ H D I h;obtain⟨W,⟨m0,w0⟩,F⟩:=h;refine wpAny_While (codeAny_whileLoop (λn s'=>∃σ' H',Inv X pins σ' H' s'/\W n σ' H') ?_ m0 ⟨σ,H,I,w0⟩);rintro n s1 ⟨σ1,H1,I1,w1⟩;refine L9 hp (thn (hc pins s1 σ1 H1 _ I1 (F n σ1 H1 w1)) λb s2 ⟨H2,I2,q2⟩=>?_);cases b with
 | true =>
  obtain⟨N,hN,q2⟩:=q2;rw[if_pos rfl];refine L9 hp (thn (hb pins s2 σ1 H2 _ I2 q2) λf s3 q3=>?_);cases f with
  | next =>
   obtain⟨σ3,H3,I3,n3⟩:=q3;obtain⟨m',hm,w3⟩:=hN σ3 H3 n3;exact⟨m',hm,σ3,H3,I3,w3⟩
  | cont =>
   obtain⟨σ3,H3,I3,n3⟩:=q3;obtain⟨m',hm,w3⟩:=hN σ3 H3 n3;exact⟨m',hm,σ3,H3,I3,w3⟩
  | brk=>exact q3
  | ret v=>exact q3
 | false =>
  rw[if_neg B4];exact p5 ⟨σ1,H2,I2,q2⟩
structure It where
 go:Nat->Hp->Prop
 yld:Nat->Hp->V->Hp->Prop
 stop:Nat->Hp->Prop
def ym0(X:Cx)(pins:List (Addr×Obj))(H:Hp)(b:Addr):Prop :=
 H b=none/\b≠X.env.locals/\b∉X.fs/\(b∈X.ex∨X.s₀.heap.objs.size<=b)/\(∀x c,X.env.cells.lookup x=some c->c≠b)/\∀p∈X.pn++pins,p.1≠b
theorem Inv.fpOk{σ:St}{s:Shared}{b:Addr}(I:Inv X pins σ H s)(hb:s.heap.objs.size<=b)(hn:H' b=none):ym0 X pins H' b:=by
 refine⟨hn,L1 (C4 I.lt hb),I.nofs hb,.inr (C0 I.sz hb),λx c e z=>?_,λp hp z=>?_⟩
 ·obtain⟨v,q⟩:=I.cell x c e
  exact absurd (C4 q.lt (by rw[z];exact hb)) (E6 _)
 ·exact absurd (C4 (A6 (I.pin p hp).1) (by rw[z];exact hb)) (E6 _)
structure Turn(P:Program)(w:World)(K:W.Frag)(tg:Expr)(J:It)(fp:List Addr)(it:Addr)(tn:Nat->Heap->Prop):Prop where
 mem:it∈fp
 obj:∀i h,tn i h->∀b∈fp,∃o,h.get? b=some o/\∀v,o.data≠.cell v
 keep:∀i h h',tn i h->(∀b∈fp,∀o,h.get? b=some o->h'.get? b=some o)->tn i h'
 item:∀(X:Cx),X.prog=P->X.w=w->X.K=K->X.calm=true->∀(i:Nat) (pins:List (Addr×Obj)) (s:Shared) (σ:St) (H:Hp) (E:Value->Shared->Prop),Inv X pins σ H s->(∀b∈fp,ym0 X pins H b)->tn i s.heap->J.go i H ->
  wpAny (model P w) X.A (pyNext (.ref it)) (λr s1=>∃u,r=some u /\
   wpAny (model P w) X.A (letOwnedTupleGo tg (.ref it) u) (λ_ s2=>∃x H',Inv X pins σ H' s2/\RelV x u/\J.yld i H x H'/\tn (i+1) s2.heap/\∀b∈fp,H' b=none) E s1) E s
 done:∀(X:Cx),X.prog=P->X.w=w->X.K=K->X.calm=true->∀(i:Nat) (pins:List (Addr×Obj)) (s:Shared) (σ:St) (H:Hp) (E:Value->Shared->Prop),Inv X pins σ H s->(∀b∈fp,ym0 X pins H b)->tn i s.heap->J.stop i H ->
  wpAny (model P w) X.A (pyNext (.ref it)) (λr s1=>r=none/\Inv X pins σ H s1) E s
 self:∀(A:Around) (i:Nat) (s:Shared) (Q:Value->Shared->Prop) (E:Value->Shared->Prop),tn i s.heap->Q (.ref it) s->wpAny (model P w) A (pyIter (.ref it)) Q E s
abbrev TI:=St->Hp->(It->Hp->Prop)->Prop
def PIE(X:Cx)(pins:List (Addr×Obj))(σ:St)(tg:Expr)(R:It->Hp->Prop)(itv:Value)(s2:Shared):Prop :=
 ∃(it:Addr) (fp:List Addr) (tn:Nat->Heap->Prop) (J:It) (H':Hp),itv=.ref it/\Inv X pins σ H' s2/\Turn X.prog X.w X.K tg J fp it tn/\tn 0 s2.heap/\(∀b∈fp,ym0 X pins H' b)/\R J H'
def PI(X:Cx)(tg iter:Expr)(wi:TI):Prop :=
 ∀(pins:List (Addr×Obj)) (s:Shared) (σ:St) (H:Hp) (R:It->Hp->Prop),Inv X pins σ H s->wi σ H R ->
  wpAny (model X.prog X.w) X.A (eval iter X.env) (λv s1=>wpAny (model X.prog X.w) X.A (pyIter v) (PIE X pins σ tg R) X.xe s1) X.xe s
theorem md0{M:Model}{A:Around}{E:Value->Shared->Prop}{s:Shared}{tg:Expr}{u:Value}{o:Obj}{n:String}{vs:Array Value}{Q:Unit->Shared->Prop}(ho:s.heap.get? it=some o)(hc:o.cls=.type n)(hd:o.data=.fields vs)
  (hn:["enumerate", "zip", "dict_itemiterator", "dict_reverseitemiterator", "odict_iterator", "itertools.zip_longest", "itertools.pairwise"].contains n=false) (hQ:Q () s):wpAny M A (letOwnedTupleGo tg (.ref it) u) Q E s:=by
 unfold letOwnedTupleGo;cases tg<;>first
  | exact A1 hQ
  | (cases u<;>first
    | exact A1 hQ
    | (refine A0 (wpAny_load ho ?_)
       rw[hc,hd];show wpAny M A (if (["enumerate", "zip", "dict_itemiterator", "dict_reverseitemiterator", "odict_iterator", "itertools.zip_longest", "itertools.pairwise"].contains n&&vs[0]?==some (rawInt _))=true then _ else _) Q E s;rw[if_neg (by intro h;rw[hn,Bool.false_and] at h;cases h)];exact A1 hQ))
def Itl(K:W.Frag)(a:Addr):It :=
 ⟨λi H=>∃xs x,SqL K H a xs/\xs[i]?=some x,λi H x H'=>H'=H/\∀xs,SqL K H a xs->xs[i]?=some x,λi H=>∃xs,SqL K H a xs/\xs.length<=i⟩
def Itt(K:W.Frag)(a:Addr):It :=
 ⟨λi H=>∃xs x,SqT K H a xs/\xs[i]?=some x,λi H x H'=>H'=H/\∀xs,SqT K H a xs->xs[i]?=some x,λi H=>∃xs,SqT K H a xs/\xs.length<=i⟩
def Itr(lo:Int)(n:Nat):It:=⟨λi _=>i<n,λi H x H'=>H'=H/\x=.int (lo+i),λi _=>n<=i⟩
theorem kk0{P:Program}{w:World}(a it:Addr):Turn P w K tg (Itl K a) [it] it (λi h=>h.IsListIter it a i) where
 mem:=by simp
 obj:=λi h st b hb=>by
  have e:b=it:=by simpa using hb
  subst e;obtain⟨o,e,c,d⟩:=st;exact⟨o,e,λv z=>by rw[d] at z;cases z⟩
 keep:=λi h h' st k=>st.at λo e=>k it (by simp) o e
 item:=by
  intro X hP hw hK hc i pins s σ H E I hf st hg;subst hP hw hK;obtain⟨xs,x,hq,hx⟩:=hg;obtain⟨its,rv,p,hz⟩:=I.list hq;obtain⟨u,hu,ru⟩:=rv.get hx;obtain⟨f0,f1,f2,f3,f4,f5⟩:=hf it (by simp);refine wpAny_pyNext_list_item st p.isList (x:=u) (by simpa using hu) λh' F sb=>?_
  have I1:Inv X pins σ H { s with heap:=h' }:=I.turned (t':=s.toks) (λb o hb e=>(sb.2 b hb).trans e) f0 f1 f3 f4 f5;obtain⟨o,e,c,d⟩:=id F;exact⟨u,rfl,md0 (s:={ s with heap:=h' }) e c d (by decide) ⟨x,H,I1,ru,⟨rfl,λys hy=>by rw[I.list_inj hy hq];exact hx⟩,F,λb hb=>(hf b hb).1⟩⟩
 done:=by
  intro X hP hw hK hc i pins s σ H E I hf st hg;subst hP hw hK;obtain⟨xs,hq,hx⟩:=hg;obtain⟨its,rv,p,hz⟩:=I.list hq;obtain⟨f0,f1,f2,f3,f4,f5⟩:=hf it (by simp);have hl:=rv.length;exact wpAny_pyNext_list_end (I.ok.hd hc) st p.isList (by simp;omega) λh' eb=>⟨rfl,I.turned (t':=s.toks) (λb o hb e=>eb b o hb e) f0 f1 f3 f4 f5⟩
 self:=λ_ _ _ _ _ st h=>wpAny_pyIter_listiter st h
theorem mr0{P:Program}{w:World}(a it:Addr):Turn P w K tg (Itt K a) [it] it (λi h=>h.IsTupleIter it a i) where
 mem:=by simp
 obj:=λi h st b hb=>by
  have e:b=it:=by simpa using hb
  subst e;obtain⟨o,e,c,d⟩:=st;exact⟨o,e,λv z=>by rw[d] at z;cases z⟩
 keep:=λi h h' st k=>st.at λo e=>k it (by simp) o e
 item:=by
  intro X hP hw hK hc i pins s σ H E I hf st hg;subst hP hw hK;obtain⟨xs,x,hq,hx⟩:=hg;obtain⟨its,rv,p,hz⟩:=I.tuple hq;obtain⟨u,hu,ru⟩:=rv.get hx;obtain⟨f0,f1,f2,f3,f4,f5⟩:=hf it (by simp);refine wpAny_pyNext_tuple_item st (show s.heap.IsTuple a its.toArray from p) (x:=u) (by simpa using hu) λh' F sb=>?_
  have I1:Inv X pins σ H { s with heap:=h' }:=I.turned (t':=s.toks) (λb o hb e=>(sb.2 b hb).trans e) f0 f1 f3 f4 f5;obtain⟨o,e,c,d⟩:=id F;exact⟨u,rfl,md0 (s:={ s with heap:=h' }) e c d (by decide) ⟨x,H,I1,ru,⟨rfl,λys hy=>by rw[I.tuple_inj hy hq];exact hx⟩,F,λb hb=>(hf b hb).1⟩⟩
 done:=by
  intro X hP hw hK hc i pins s σ H E I hf st hg;subst hP hw hK;obtain⟨xs,hq,hx⟩:=hg;obtain⟨its,rv,p,hz⟩:=I.tuple hq;obtain⟨f0,f1,f2,f3,f4,f5⟩:=hf it (by simp);have hl:=rv.length;exact wpAny_pyNext_tuple_end (I.ok.hd hc) st (show s.heap.IsTuple a its.toArray from p) (by simp;omega) λh' eb=>⟨rfl,I.turned (t':=s.toks) (λb o hb e=>eb b o hb e) f0 f1 f3 f4 f5⟩
 self:=λ_ _ _ _ _ st h=>wpAny_pyIter_tupleiter st h
theorem l30{P:Program}{w:World}(it:Addr)(lo:Int)(n:Nat):Turn P w K tg (Itr lo n) [it] it (λi h=>IsRangeIter h it (lo+(i:Nat)*1) ((n:Int) - (i:Nat)) 1) where
 mem:=by simp
 obj:=λi h st b hb=>by
  have e:b=it:=by simpa using hb
  subst e;exact⟨_,st,λv z=>by
   have z':Data.fields _=Data.cell v:=z;cases z'⟩
 keep:=λi h h' st k=>k it (by simp) _ st
 item:=by
  intro X hP hw hK hc i pins s σ H E I hf st hg;subst hP hw hK;obtain⟨f0,f1,f2,f3,f4,f5⟩:=hf it (by simp);have W:=Walks.range (prog:=X.prog) (w:=X.w) (I.ok.hd hc) it lo 1 n;refine W.item i s _ _ hg st λv h' tk hv F kk=>?_
  obtain⟨t,rfl⟩:=hv;have I1:Inv X pins σ H { s with heap:=h',toks:=tk }:=I.turned (λb o hb e=>kk b o (by simpa using hb) e) f0 f1 f3 f4 f5;refine⟨_,rfl,md0 (s:={ s with heap:=h',toks:=tk }) (n := "range_iterator") F rfl rfl (by decide) ⟨.int (lo+i),H,I1,⟨t,?_⟩,⟨rfl,rfl⟩,F,λb hb=>(hf b hb).1⟩⟩;rw[Int.mul_one]
 done:=by
  intro X hP hw hK hc i pins s σ H E I hf st hg;subst hP hw hK;obtain⟨f0,f1,f2,f3,f4,f5⟩:=hf it (by simp);exact wpAny_pyNext_range_end (I.ok.hd hc) st (by have:n<=i:=hg;omega) λh' eb=>⟨rfl,I.turned (t':=s.toks) (λb o hb e=>eb b o hb e) f0 f1 f3 f4 f5⟩
 self:=λ_ _ _ _ _ st h=>wpAny_pyIter_rangeiter st h
def Z40(K:W.Frag)(tl:TE):TI:=fun σ H R=>tl σ H λx H1=>∃a,x=.ref a/\(∃xs,SqL K H1 a xs)/\R (Itl K a) H1
def Y60(K:W.Frag)(tl:TE):TI:=fun σ H R=>tl σ H λx H1=>∃a,x=.ref a/\(∃xs,SqT K H1 a xs)/\R (Itt K a) H1
theorem fu0{l:Expr}{tl:TE}(hl:PE X l tl):PI X tg l (Z40 X.K tl):=by
 intro pins s σ H R I h;refine thn (hl pins s σ H _ I h) λv s1 ⟨x,H1,I1,r1,q1⟩=>?_
 obtain⟨a,e,⟨xs,hq⟩,q⟩:=q1;subst e;cases r1;obtain⟨its,rv,p,hz⟩:=I1.list hq;refine wpAny_pyIter_list p.isList ?_;refine⟨s1.heap.objs.size,[s1.heap.objs.size],_,_,H1,rfl,I1.kept (t':=s1.toks) λb o e=>A7 _ e,kk0 a _,⟨_,B7 _ rfl,rfl,rfl⟩,λb hb=>?_,q⟩;have e:b=s1.heap.objs.size:=by simpa using hb
 subst e;exact I1.fpOk (A4 _) (I1.hok.fresh (A4 _))
theorem bi0{l:Expr}{tl:TE}(hl:PE X l tl):PI X tg l (Y60 X.K tl):=by
 intro pins s σ H R I h;refine thn (hl pins s σ H _ I h) λv s1 ⟨x,H1,I1,r1,q1⟩=>?_
 obtain⟨a,e,⟨xs,hq⟩,q⟩:=q1;subst e;cases r1;obtain⟨its,rv,p,hz⟩:=I1.tuple hq;refine wpAny_pyIter_tuple (show s1.heap.IsTuple a its.toArray from p) ?_;refine⟨s1.heap.objs.size,[s1.heap.objs.size],_,_,H1,rfl,I1.kept (t':=s1.toks) λb o e=>A7 _ e,mr0 a _,⟨_,B7 _ rfl,rfl,rfl⟩,λb hb=>?_,q⟩;have e:b=s1.heap.objs.size:=by simpa using hb
 subst e;exact I1.fpOk (A4 _) (I1.hok.fresh (A4 _))
theorem o40{σ:St}{s:Shared}{R:It->Hp->Prop}{E:Value->Shared->Prop}{lo hi:Int}{t u v:Tok}{tk:Nat}(I:Inv X pins σ H s)(h1:-(2 ^ 62)<=lo)(h2:lo<2 ^ 62)(h3:-(2 ^ 62)<=hi)(h4:hi<2 ^ 62)
  (q:R (Itr lo (hi - lo).toNat) H):wpAny (model X.prog X.w) X.A (pyIter (.ref s.heap.objs.size)) (PIE X pins σ tg R) E { s with heap:=s.heap.push { cls:=.type "range",data:=.fields #[.int lo t,.int hi u,.int 1 v] },toks:=tk }:=by
 refine wpAny_pyIter_range (IsRange.new ..) (small_one h1 h2 h3 h4) ?_;have I1:Inv X pins σ H { s with heap:=s.heap.push { cls:=.type "range",data:=.fields #[.int lo t,.int hi u,.int 1 v] },toks:=tk }:=I.kept λb o e=>A7 _ e
 refine⟨(s.heap.push { cls:=.type "range",data:=.fields #[.int lo t,.int hi u,.int 1 v] }).objs.size,[(s.heap.push { cls:=.type "range",data:=.fields #[.int lo t,.int hi u,.int 1 v] }).objs.size],_,_,H,rfl,
  I1.kept (t':=tk) λb o e=>A7 _ e,l30 _ lo (hi - lo).toNat,?_,λb hb=>?_,q⟩
 ·have e1:lo+((0:Nat):Int)*1=lo:=by simp
  have e2:(((hi - lo).toNat:Nat):Int) - ((0:Nat):Int)=Builtin.Range.rangeSize lo hi 1:=by rw[rangeSize_one];split<;>omega
  show IsRangeIter _ _ (lo+((0:Nat):Int)*1) ((((hi - lo).toNat:Nat):Int) - ((0:Nat):Int)) 1;rw[e1,e2];exact B7 _ rfl
 ·have e:b=(s.heap.push { cls:=.type "range",data:=.fields #[.int lo t,.int hi u,.int 1 v] }).objs.size:=by simpa using hb
  subst e;exact I1.fpOk (A4 _) (I1.hok.fresh (A4 _))
def ak0(ta:TA):TI:=fun σ H R=>ta σ H λvs H1=>∃j:Int,vs=[.int j]/\-(2 ^ 62)<=j/\j<2 ^ 62/\R (Itr 0 j.toNat) H1
def Zd0(ta:TA):TI:=fun σ H R=>ta σ H λvs H1=>∃i j:Int,vs=[.int i,.int j]/\(-(2 ^ 62)<=i/\i<2 ^ 62/\-(2 ^ 62)<=j/\j<2 ^ 62)/\R (Itr i (j - i).toNat) H1
theorem jv0{a:Expr}{ta:TA}(hg:Gl X "range")(hm:X.mg "range"=none)(ha:PA X [a] ta)(hs:starEach [a] X.env=[(false,eval a X.env)]:=by rfl):PI X tg (.Call (.Name "range" p) [a] [] pos) (ak0 ta):=by
 intro pins s σ H R I h;refine Call_ (zo0 I hg hm boot_range (M1 (thn (ha pos pins s σ H _ I h) λus s1 ⟨vs,H1,I1,r1,q1⟩=>?_) hs rfl));obtain⟨j,e,q1,q2,q⟩:=q1;subst e;cases r1 with
 | cons r rr =>
  cases rr;obtain⟨t,rfl⟩:=r;exact call_range_1 (o40 I1 (by omega) (by omega) q1 q2 (by simpa using q))
theorem kn0{a:Expr}{ta:TA}{p pos:Pos}(hg:Gl X "range")(hm:X.mg "range"=none)(ha:PA X [a,b] ta)(hs:starEach [a,b] X.env=[(false,eval a X.env),(false,eval b X.env)]:=by rfl)(hs2:starEach [b] X.env=[(false,eval b X.env)]:=by rfl) :
  PI X tg (.Call (.Name "range" p) [a,b] [] pos) (Zd0 ta):=by
 intro pins s σ H R I h;refine Call_ (zo0 I hg hm boot_range (M1 (thn (ha pos pins s σ H _ I h) λus s1 ⟨vs,H1,I1,r1,q1⟩=>?_) (by rw[hs,hs2]) (by rw[hs2];rfl)));obtain⟨i,j,e,⟨q1,q2,q3,q4⟩,q⟩:=q1;subst e;cases r1 with
 | cons r rr =>
  cases rr with
  | cons r' rr =>
   cases rr;obtain⟨t,rfl⟩:=r;obtain⟨t',rfl⟩:=r';exact call_range_2 (o40 I1 q1 q2 q3 q4 q)
def Y20(wi:TI)(g:TG)(tb:TS):TS:=λD σ H=>wi σ H λJ H1=>∃W:Nat->Nat->St->Hp->Prop,(∃m,W 0 m σ H1)/\∀i m σ H,W i m σ H ->
 (J.stop i H/\D.nx σ H)∨(J.go i H/\∃N:St->Hp->Prop,(∀σ' H',N σ' H'->∃m',m'<m/\W (i+1) m' σ' H')/\∀x H',J.yld i H x H'->g x σ H' fun σ2 H2=>tb { D with nx:=N,ct:=N,bk:=D.nx } σ2 H2)
def v50(fp:List Addr)(h:Heap):List (Addr×Obj):=fp.filterMap λb=>(h.get? b).map λo=>(b,o)
theorem yd0{h:Heap}{b:Addr}{o:Obj}(hb:b∈fp)(e:h.get? b=some o):(b,o)∈v50 fp h:=E9.mpr ⟨b,hb,by rw[e];rfl⟩
theorem jj0{h:Heap}{p:Addr×Obj}(hp:p∈v50 fp h):p.1∈fp/\h.get? p.1=some p.2:=by
 obtain⟨b,hb,e⟩:=E9.mp hp;cases q:h.get? b with
 | none=>rw[q] at e;cases e
 | some o =>
  rw[q] at e;have e':(b,o)=p:=B1 e;subst e';exact⟨hb,q⟩
theorem Inv.pinned{σ:St}{s:Shared}(I:Inv X pins σ H s)(hf:∀b∈fp,ym0 X pins H b)(ho:∀b∈fp,∃o,s.heap.get? b=some o/\∀v,o.data≠.cell v):Inv X (pins++v50 fp s.heap) σ H s :=
 I.pins_of λp hp=>(B8.mp hp).elim (λz=>I.pin p (C8 _ z)) λz=>by
  obtain⟨hb,e⟩:=jj0 z;obtain⟨f0,f1,f2,_⟩:=hf p.1 hb;obtain⟨o,e',d⟩:=ho p.1 hb;rw[e] at e';cases e';exact⟨e,f0,f1,f2,d⟩
theorem Inv.unpinned{pl:List (Addr×Obj)}{σ:St}{s:Shared}(I:Inv X (pins++pl) σ H s):Inv X pins σ H s:=I.pins_of λp hp=>I.pin p (C8 _ (L8 _ hp))
theorem bk0{wi:TI}{g:TG}{tb:TS}{pos:Pos}(hp:PassesOwn (model X.prog X.w) X.A X.env X.xe)(hc:X.calm=true)(hi:PI X tg iter wi)(hg:PG X tg g)(hb:PSs X body tb)
  (hs:∀x,foldedSetIterable iter X.env x=pure x:=by intro _;rfl):PS X (.For tg iter body [] pos) (Y20 wi g tb):=by
 intro pins s σ H D I h;refine wpAny_For (thn (hi pins s σ H _ I h) λv s1 h1=>thn h1 λa0 s2 h2=>?_) hs;obtain⟨it,fp,tn,J,H2,e,I2,T,Z,f2,W,⟨m0,w0⟩,S⟩:=h2;subst e;have F:∀{H':Hp},(∀b∈fp,H' b=none)->∀b∈fp,ym0 X pins H' b:=λhn b hb=>⟨hn b hb,(f2 b hb).2⟩
 refine codeAny_forLoop_any (λn s'=>∃i σ' H',Inv X pins σ' H' s'/\tn i s'.heap/\(∀b∈fp,H' b=none)/\W i n σ' H') ?_ m0 ⟨0,σ,H2,I2,Z,λb hb=>(f2 b hb).1,w0⟩;rintro n s3 ⟨i,σ3,H3,I3,M,O,w3⟩;rcases S i n σ3 H3 w3 with⟨stop,qn⟩|⟨go,N,hN,step⟩
 ·refine L9 hp (thn (T.done X rfl rfl rfl hc i pins s3 σ3 H3 X.xe I3 (F O) M stop) λr s4 ⟨hr,I4⟩=>?_)
  subst hr;exact p5 ⟨σ3,H3,I4,qn⟩
 ·refine L9 hp (thn (T.item X rfl rfl rfl hc i pins s3 σ3 H3 X.xe I3 (F O) M go) λr s4 ⟨u,hr,h4⟩=>?_)
  subst hr;refine L9 hp (thn h4 λ_ s5 ⟨x,H5,I5,r5,y5,L,Y⟩=>?_);have U:=I5.pinned (F Y) (T.obj _ _ L);refine L9 hp (thn (hg _ s5 σ3 H5 x u _ U r5 (step x H5 y5)) λ_ s6 ⟨σ6,H6,I6,q6⟩=>?_);refine L9 hp (thn (hb _ s6 σ6 H6 _ I6 q6) λf s7 q7=>?_);have again:∀{σ7:St} {H7:Hp},Inv X (pins++v50 fp s5.heap) σ7 H7 s7->N σ7 H7->∃m,m<n/\∃i σ' H',Inv X pins σ' H' s7/\tn i s7.heap/\(∀b∈fp,H' b=none)/\W i m σ' H':=λ{σ7 H7} I7 n7=>by
   obtain⟨m',hm,w7⟩:=hN σ7 H7 n7;refine⟨m',hm,i+1,σ7,H7,I7.unpinned,T.keep _ _ _ L λb hb o e=>(I7.pin (b,o) (C8 _ (C8 _ (yd0 hb e)))).1,λb hb=>?_,w7⟩;obtain⟨o,e,d⟩:=T.obj _ _ L b hb;exact(I7.pin (b,o) (C8 _ (C8 _ (yd0 hb e)))).2.1
  cases f with
  | next=>obtain⟨σ7,H7,I7,n7⟩:=q7;exact again I7 n7
  | cont=>obtain⟨σ7,H7,I7,n7⟩:=q7;exact again I7 n7
  | brk=>obtain⟨σ7,H7,I7,q7⟩:=q7;exact⟨σ7,H7,I7.unpinned,q7⟩
  | ret v=>obtain⟨x7,σ7,H7,I7,r7,q7⟩:=q7;exact⟨x7,σ7,H7,I7.unpinned,r7,q7⟩
abbrev R2:=V->V->Hp->VK->Prop
def OpR(X:Cx)(f:Value->Value->Sem Value)(r:R2):Prop :=
 ∀(pins:List (Addr×Obj)) (s:Shared) (σ:St) (H:Hp) (x y:V) (v u:Value) (Q:VK),Inv X pins σ H s->RelV x v->RelV y u->r x y H Q ->
  wpAny (model X.prog X.w) X.A (f v u) (EP X pins σ Q) X.xe s
def UnR(X:Cx)(f:Value->Sem Value)(r:V->Hp->VK->Prop):Prop :=
 ∀(pins:List (Addr×Obj)) (s:Shared) (σ:St) (H:Hp) (x:V) (v:Value) (Q:VK),Inv X pins σ H s->RelV x v->r x H Q ->
  wpAny (model X.prog X.w) X.A (f v) (EP X pins σ Q) X.xe s
def CallR(X:Cx)(f:Value)(r:List V->Hp->VK->Prop):Prop :=
 ∀(pins:List (Addr×Obj)) (s:Shared) (σ:St) (H:Hp) (xs:List V) (us:List Value) (Q:VK),Inv X pins σ H s->Vals xs us->r xs H Q ->
  wpAny (model X.prog X.w) X.A (call f us) (EP X pins σ Q) X.xe s
def tOp(r:R2)(ta tb:TE):TE:=fun σ H Q=>ta σ H λx H1=>tb σ H1 λy H2=>r x y H2 Q
def tUn(r:V->Hp->VK->Prop)(ta:TE):TE:=fun σ H Q=>ta σ H λx H1=>r x H1 Q
def rI(C:Int->Int->Prop)(g:Int->Int->V):R2:=λx y H Q=>∃i j,x=.int i/\y=.int j/\C i j/\Q (g i j) H
def rI0(g:Int->Int->V):R2:=λx y H Q=>∃i j,x=.int i/\y=.int j/\Q (g i j) H
def rU(g:Int->V):V->Hp->VK->Prop:=λx H Q=>∃i,x=.int i/\Q (g i) H
section
variable{a:Expr}{tc:TE}
theorem if0(ha:PE X a ta)(hb:PE X b tb){s:Shared}{σ:St}{R:V->V->Hp->Prop}(I:Inv X pins σ H s)
  (h:ta σ H λx H1=>tb σ H1 λy H2=>R x y H2) {Q:Value->Shared->Prop} {f:Value->Value->Sem Value}
  (hf:∀v u s2 x y H2,Inv X pins σ H2 s2->RelV x v->RelV y u->R x y H2->wpAny (model X.prog X.w) X.A (f v u) Q X.xe s2) :
  wpAny (model X.prog X.w) X.A (eval a X.env) (λv s₁=>wpAny (model X.prog X.w) X.A (eval b X.env) (λu s₂=>wpAny (model X.prog X.w) X.A (f v u) Q X.xe s₂) X.xe s₁) X.xe s:=by
 refine thn (ha pins s σ H _ I h) λv s1 ⟨x,H1,I1,r1,q1⟩=>?_
 refine thn (hb pins s1 σ H1 _ I1 q1) λu s2 ⟨y,H2,I2,r2,q2⟩=>?_
 exact hf v u s2 x y H2 I2 r1 r2 q2
theorem a80{op:Operator}{r:R2}(ho:OpR X (binaryOp op) r)(ha:PE X a ta)(hb:PE X b tb):PE X (.BinOp a op b pos) (tOp r ta tb):=by
 intro pins s σ H Q I h;exact wpAny_BinOp (if0 ha hb I h λv u s2 x y H2 I2 rx ry q=>ho pins s2 σ H2 x y v u Q I2 rx ry q)
theorem aq0{op:UnaryOp}{r:V->Hp->VK->Prop}(ho:UnR X (unaryOp op) r)(ha:PE X a ta):PE X (.UnaryOp op a pos) (tUn r ta):=by
 intro pins s σ H Q I h;exact UnaryOp_ (thn (ha pins s σ H _ I h) λv s1 ⟨x,H1,I1,r1,q1⟩=>ho pins s1 σ H1 x v Q I1 r1 q1)
theorem opI{f:Value->Value->Sem Value}{C:Int->Int->Prop}{g:Int->Int->Int}
  (rule:∀(i j:Int) (t u:Tok) (s:Shared) (Q:Value->Shared->Prop) (E:Value->Shared->Prop),C i j->Q (.int (g i j) s.toks) { s with toks:=s.toks+1 }->wpAny (model X.prog X.w) X.A (f (.int i t) (.int j u)) Q E s) :
  OpR X f (rI C λi j=>.int (g i j)):=by
 intro pins s σ H x y v u Q I rx ry h;obtain⟨i,j,rfl,rfl,hc,q⟩:=h;obtain⟨t,rfl⟩:=rx;obtain⟨t',rfl⟩:=ry;exact rule i j t t' s _ _ hc ⟨.int (g i j),H,I.tok _,⟨_,rfl⟩,q⟩
theorem c60{f:Value->Value->Sem Value}{g:Int->Int->Int}
  (rule:∀(i j:Int) (t u:Tok) (s:Shared) (Q:Value->Shared->Prop) (E:Value->Shared->Prop),Q (.int (g i j) s.toks) { s with toks:=s.toks+1 }->wpAny (model X.prog X.w) X.A (f (.int i t) (.int j u)) Q E s) :
  OpR X f (rI0 λi j=>.int (g i j)):=by
 intro pins s σ H x y v u Q I rx ry h;obtain⟨i,j,rfl,rfl,q⟩:=h;obtain⟨t,rfl⟩:=rx;obtain⟨t',rfl⟩:=ry;exact rule i j t t' s _ _ ⟨.int (g i j),H,I.tok _,⟨_,rfl⟩,q⟩
theorem b30{f:Value->Value->Sem Value}{g:Int->Int->Bool}
  (rule:∀(i j:Int) (t u:Tok) (s:Shared) (Q:Value->Shared->Prop) (E:Value->Shared->Prop),Q (.bool (g i j)) s->wpAny (model X.prog X.w) X.A (f (.int i t) (.int j u)) Q E s) :
  OpR X f (rI0 λi j=>.bl (g i j)):=by
 intro pins s σ H x y v u Q I rx ry h;obtain⟨i,j,rfl,rfl,q⟩:=h;obtain⟨t,rfl⟩:=rx;obtain⟨t',rfl⟩:=ry;exact rule i j t t' s _ _ ⟨.bl (g i j),H,I,rfl,q⟩
def h50(i j:Int):Prop:=0<j/\j<1073741824
def ip0(i j:Int):Prop:=0<=j/\j<=1000000/\i.natAbs<2 ^ 64
def CMul(i j:Int):Prop:=(-(2 ^ 64)<i/\i<2 ^ 64)∨(-(2 ^ 64)<j/\j<2 ^ 64)
theorem CMul.ok{i j:Int}(h:CMul i j):IntMulOk i j:=by
 rcases h with⟨h1,h2⟩|⟨h1,h2⟩
 ·exact .of_left (intBits_le_64 h1 h2)
 ·exact .of_right (intBits_le_64 h1 h2)
theorem co0:OpR X (binaryOp .Add) (rI0 λi j=>.int (i+j)):=c60 λ_ _ _ _ _ _ _ q=>add_int q
theorem ds0:OpR X (binaryOp .Sub) (rI0 λi j=>.int (i - j)):=c60 λ_ _ _ _ _ _ _ q=>sub_int q
theorem cz0:OpR X (binaryOp .Mult) (rI CMul λi j=>.int (i*j)):=opI λ_ _ _ _ _ _ _ hc q=>mul_int q hc.ok
theorem fz0:OpR X (binaryOp .FloorDiv) (rI h50 λi j=>.int (i/j)):=opI λi j _ _ _ _ _ hc q=>by
 have h1:(0:Int)<j:=hc.1;have h2:j<1073741824:=hc.2;exact floordiv_int (by omega) (by rw[Int.fdiv_eq_ediv_of_nonneg i (by omega)];exact q) (.inl (PyProof.noPylong_small (by omega)))
theorem dq0:OpR X (binaryOp .Mod) (rI (λ_ j=>0<j) λi j=>.int (i%j)):=opI λi j _ _ _ _ _ hc q=>by
 have h1:(0:Int)<j:=hc;exact mod_int' (by omega) (by rw[Int.fmod_eq_emod_of_nonneg i (by omega)];exact q)
theorem ci0:OpR X (binaryOp .Pow) (rI ip0 λi j=>.int (i ^ j.toNat)):=opI λ_ _ _ _ _ _ _ hc q=>pow_int_small hc.1 hc.2.1 hc.2.2 q
theorem unI{f:Value->Sem Value}{g:Int->Int}
  (rule:∀(i:Int) (t:Tok) (s:Shared) (Q:Value->Shared->Prop) (E:Value->Shared->Prop),Q (.int (g i) s.toks) { s with toks:=s.toks+1 }->wpAny (model X.prog X.w) X.A (f (.int i t)) Q E s) :
  UnR X f (rU λi=>.int (g i)):=by
 intro pins s σ H x v Q I rx h;obtain⟨i,rfl,q⟩:=h;obtain⟨t,rfl⟩:=rx;exact rule i t s _ _ ⟨.int (g i),H,I.tok _,⟨_,rfl⟩,q⟩
theorem b70:UnR X (unaryOp .USub) (rU λi=>.int (-i)):=unI λ_ _ _ _ _ q=>neg_int q
end
def g30:V->V->Bool
 | .non,.non=>true|.non,.int _=>true|.int _,.non=>true|.non,.bl _=>true|.bl _,.non=>true|.non,.str _=>true|.str _,.non=>true
 | .int _,.int _=>true|.bl _,.bl _=>true|.str _,.str _=>true|.byt _,.byt _=>true
 | .int _,.str _=>true|.str _,.int _=>true|.bl _,.str _=>true|.str _,.bl _=>true
 | _,_=>false
def rEq:R2:=λx y H Q=>g30 x y=true/\Q (.bl (decide (x=y))) H
def rNe:R2:=λx y H Q=>g30 x y=true/\Q (.bl (!decide (x=y))) H
theorem m80{i j:Int}:decide (V.int i=V.int j)=(i==j):=by
 rw[Bool.eq_iff_iff];simp
theorem j00{i j:Bool}:decide (V.bl i=V.bl j)=(i==j):=by
 rw[Bool.eq_iff_iff];simp
theorem m10{i j:Str}:decide (V.str i=V.str j)=(i==j):=by
 rw[Bool.eq_iff_iff];simp
theorem nl0{i j:Array UInt8}:decide (V.byt i=V.byt j)=(i.toList==j.toList):=by
 rw[Bool.eq_iff_iff];cases i;cases j;simp
section
variable{a:Expr}{tc:TE}
theorem Y6{σ:St}{s:Shared}{Q:VK}{k k':Bool}(I:Inv X pins σ H s)(q:Q (.bl k) H)(e:k=k'):EP X pins σ Q (.bool k') s:=by
 subst e;exact⟨.bl k,H,I,rfl,q⟩
theorem P0:OpR X (compareOp .Eq) rEq:=by
 intro pins s σ H x y v u Q I rx ry h;obtain⟨hs,q⟩:=h;cases x with
 | non =>
  cases rx;cases y with
  | non=>cases ry;exact PySem.EqNone.eq_none_none (Y6 I q (by simp))
  | bl j=>cases ry;exact PySem.EqNone.eq_none_bool (Y6 I q (by simp))
  | int j=>obtain⟨t',rfl⟩:=ry;exact PySem.EqNone.eq_none_int (Y6 I q (by simp))
  | str j=>obtain⟨t',rfl⟩:=ry;exact PySem.EqNone.eq_none_str (Y6 I q (by simp))
  | _=>exact absurd (show false=true from hs) B4
 | bl i =>
  cases rx;cases y with
  | non=>cases ry;exact PySem.EqNone.eq_bool_none (Y6 I q (by simp))
  | bl j=>cases ry;exact eq_bool (Y6 I q j00)
  | str j=>obtain⟨t',rfl⟩:=ry;exact PySem.EqMixed.eq_bool_str (Y6 I q (by simp))
  | _=>exact absurd (show false=true from hs) B4
 | int i =>
  obtain⟨t,rfl⟩:=rx;cases y with
  | non=>cases ry;exact PySem.EqNone.eq_int_none (Y6 I q (by simp))
  | int j=>obtain⟨t',rfl⟩:=ry;exact eq_int (Y6 I q m80)
  | str j=>obtain⟨t',rfl⟩:=ry;exact PySem.EqMixed.eq_int_str (Y6 I q (by simp))
  | _=>exact absurd (show false=true from hs) B4
 | str i =>
  obtain⟨t,rfl⟩:=rx;cases y with
  | non=>cases ry;exact PySem.EqNone.eq_str_none (Y6 I q (by simp))
  | bl j=>cases ry;exact PySem.EqMixed.eq_str_bool (Y6 I q (by simp))
  | int j=>obtain⟨t',rfl⟩:=ry;exact PySem.EqMixed.eq_str_int (Y6 I q (by simp))
  | str j=>obtain⟨t',rfl⟩:=ry;exact eq_str (Y6 I q m10)
  | _=>exact absurd (show false=true from hs) B4
 | byt i =>
  obtain⟨t,rfl⟩:=rx;cases y with
  | byt j=>obtain⟨t',rfl⟩:=ry;exact W.eq_bytes (Y6 I q nl0)
  | _=>exact absurd (show false=true from hs) B4
 | _=>cases y<;>exact absurd (show false=true from hs) B4
theorem Z70:OpR X (compareOp .NotEq) rNe:=by
 intro pins s σ H x y v u Q I rx ry h;obtain⟨hs,q⟩:=h;cases x with
 | non =>
  cases rx;cases y with
  | non=>cases ry;exact PySem.EqNone.ne_none_none (Y6 I q (by simp))
  | bl j=>cases ry;exact PySem.EqNone.ne_none_bool (Y6 I q (by simp))
  | int j=>obtain⟨t',rfl⟩:=ry;exact PySem.EqNone.ne_none_int (Y6 I q (by simp))
  | str j=>obtain⟨t',rfl⟩:=ry;exact PySem.EqNone.ne_none_str (Y6 I q (by simp))
  | _=>exact absurd (show false=true from hs) B4
 | bl i =>
  cases rx;cases y with
  | non=>cases ry;exact PySem.EqNone.ne_bool_none (Y6 I q (by simp))
  | bl j=>cases ry;exact ne_bool (Y6 I q (C1 not j00))
  | str j=>obtain⟨t',rfl⟩:=ry;exact PySem.EqMixed.ne_bool_str (Y6 I q (by simp))
  | _=>exact absurd (show false=true from hs) B4
 | int i =>
  obtain⟨t,rfl⟩:=rx;cases y with
  | non=>cases ry;exact PySem.EqNone.ne_int_none (Y6 I q (by simp))
  | int j=>obtain⟨t',rfl⟩:=ry;exact ne_int (Y6 I q (C1 not m80))
  | str j=>obtain⟨t',rfl⟩:=ry;exact PySem.EqMixed.ne_int_str (Y6 I q (by simp))
  | _=>exact absurd (show false=true from hs) B4
 | str i =>
  obtain⟨t,rfl⟩:=rx;cases y with
  | non=>cases ry;exact PySem.EqNone.ne_str_none (Y6 I q (by simp))
  | bl j=>cases ry;exact PySem.EqMixed.ne_str_bool (Y6 I q (by simp))
  | int j=>obtain⟨t',rfl⟩:=ry;exact PySem.EqMixed.ne_str_int (Y6 I q (by simp))
  | str j=>obtain⟨t',rfl⟩:=ry;exact ne_str (Y6 I q (C1 not m10))
  | _=>exact absurd (show false=true from hs) B4
 | byt i =>
  obtain⟨t,rfl⟩:=rx;cases y with
  | byt j=>obtain⟨t',rfl⟩:=ry;exact W.ne_bytes (Y6 I q (C1 not nl0))
  | _=>exact absurd (show false=true from hs) B4
 | _=>cases y<;>exact absurd (show false=true from hs) B4
theorem wf0:OpR X (compareOp .Lt) (rI0 λi j=>.bl (decide (i<j))):=b30 λ_ _ _ _ _ _ _ q=>lt_int q
theorem gr0:OpR X (compareOp .Gt) (rI0 λi j=>.bl (decide (j<i))):=b30 λ_ _ _ _ _ _ _ q=>gt_int q
theorem py0:OpR X (compareOp .Is) (λx y H Q=>y=.non/\Q (.bl (decide (x=.non))) H):=by
 intro pins s σ H x y v u Q I rx ry h;obtain⟨rfl,q⟩:=h;cases ry;refine is_none_gen (Y6 I q ?_);cases x<;>first
  | (cases rx;rfl)
  | (obtain⟨t,rfl⟩:=rx;rfl)
theorem u60:OpR X (compareOp .IsNot) (λx y H Q=>y=.non/\Q (.bl (!decide (x=.non))) H):=by
 intro pins s σ H x y v u Q I rx ry h;obtain⟨rfl,q⟩:=h;cases ry;refine isnot_none_gen (Y6 I q ?_);cases x<;>first
  | (cases rx;rfl)
  | (obtain⟨t,rfl⟩:=rx;rfl)
theorem OpR.or{f:Value->Value->Sem Value}{r r':R2}(h:OpR X f r)(h':OpR X f r'):OpR X f (λx y H Q=>r x y H Q∨r' x y H Q):=by
 intro pins s σ H x y v u Q I rx ry q;rcases q with q|q
 ·exact h pins s σ H x y v u Q I rx ry q
 ·exact h' pins s σ H x y v u Q I rx ry q
theorem j50(b:Expr){op:CmpOp}(h:op≠.In:=by decide)(h2:op≠.NotIn:=by decide):behindInMarks op b=false:=by
 have e1:(op==CmpOp.In)=false:=by cases op<;>first|rfl|exact absurd rfl h
 have e2:(op==CmpOp.NotIn)=false:=by cases op<;>first|rfl|exact absurd rfl h2
 cases b<;>simp[behindInMarks,e1,e2]
theorem d40{op:CmpOp}{r:R2}(ho:OpR X (compareOp op) r)(ha:PE X a ta)(hb:PE X b tb)(hm:behindInMarks op b=false):PE X (.Compare a [op] [b] pos) (tOp r ta tb):=by
 intro pins s σ H Q I h;exact wpAny_Compare1 (if0 ha hb I h λv u s2 x y H2 I2 rx ry q=>ho pins s2 σ H2 x y v u Q I2 rx ry q) hm
def ah0(t:TE):TT:=fun σ H Q=>t σ H λx H'=>∃k,x=.bl k/\Q k H'
theorem fc0{op:CmpOp}{r:R2}(ho:OpR X (compareOp op) r)(ha:PE X a ta)(hb:PE X b tb)(hm:behindInMarks op b=false):PT X (.Compare a [op] [b] pos) (ah0 (tOp r ta tb)):=by
 intro pins s σ H Q I h;refine wpAny_isTrue_Compare1 (thn (ha pins s σ H _ I h) λv s1 ⟨x,H1,I1,r1,q1⟩=>thn (hb pins s1 σ H1 _ I1 q1) λu s2 ⟨y,H2,I2,r2,q2⟩ =>
  thn (ho pins s2 σ H2 x y v u _ I2 r1 r2 q2) λc s3 ⟨z,H3,I3,r3,k,e,q3⟩=>?_) hm
 subst e;cases r3;exact S1 ⟨H3,I3,q3⟩
theorem w70:(sizeLine:Nat)<2 ^ 63:=by rw[sizeLine_eq];decide
theorem la0:OpR X (binaryOp .Add) (λx y H Q=>∃i j,x=.str i/\y=.str j/\i.length+j.length<=sizeLine/\Q (.str (i++j)) H):=by
 intro pins s σ H x y v u Q I rx ry h;obtain⟨i,j,rfl,rfl,hz,q⟩:=h;obtain⟨t,rfl⟩:=rx;obtain⟨t',rfl⟩:=ry;exact add_str (λt' tk=>⟨.str (i++j),H,I.tok _,⟨_,rfl⟩,q⟩) hz
theorem vals1{x:V}(r:Vals [x] us):∃u,us=[u]/\RelV x u:=by
 cases r with
 | cons r1 r2=>cases r2;exact⟨_,rfl,r1⟩
theorem rb0:CallR X (.type "int") (λxs H Q=>(∃i,xs=[.int i]/\Q (.int i) H)∨∃k,xs=[.bl k]/\Q (.int (if k then 1 else 0)) H):=by
 intro pins s σ H xs us Q I r h;rcases h with⟨i,rfl,q⟩|⟨k,rfl,q⟩
 ·obtain⟨u,rfl,t,rfl⟩:=vals1 r
  exact call_int_int ⟨.int i,H,I,⟨_,rfl⟩,q⟩
 ·obtain⟨u,rfl,r1⟩:=vals1 r
  cases r1;exact call_int_bool ⟨.int (if k then 1 else 0),H,I.tok _,⟨_,rfl⟩,q⟩
end
theorem RelO.some_of{v:V}{o:Option Value}(r:RelO (some v) o):∃u,o=some u/\RelV v u:=by
 cases o with
 | none=>exact(show False from r).elim
 | some u=>exact⟨u,rfl,r⟩
structure Room(k:Nat)(A:Around):Prop where
 hd:A.handled=none
 dp:A.depth+3*k+5<recursionLimit
 un:A.units+16*k+200<cLine
theorem Room.mono{k:Nat}(r:Room k A)(h:j<=k):Room j A:=⟨r.hd,by have:=r.dp;omega,by have:=r.un;omega⟩
theorem Room.deeper{k:Nat}(r:Room (k+1) A)(env:Env):Room k (A.deeper env) :=
 ⟨r.hd,by have:=r.dp;show A.depth+1+3*k+5<_;omega,by have:=r.un;show A.units+3+16*k+200<_;omega⟩
theorem Room.depth{k:Nat}(r:Room k A):A.depth<recursionLimit:=by have:=r.dp;omega
theorem Room.units{k:Nat}(r:Room k A):A.units+64<cLine:=by have:=r.un;omega
def Zs0:TA:=λ_ H Q=>Q [] H
def Zj0(ta:TE)(tr:TA):TA:=fun σ H Q=>ta σ H λx H1=>tr σ H1 λxs H2=>Q (x::xs) H2
section
variable{t:TA}
theorem xh0:PA X [] Zs0:=λ_ _ _ _ H Q I h=>X9 ⟨[],H,I,.nil,h⟩
theorem J7(ha:PE X e te)(hr:PA X es t)(hs:starEach (e::es) X.env=(false,eval e X.env)::starEach es X.env:=by rfl):PA X (e::es) (Zj0 te t):=by
 intro pos pins s σ H Q I h;rw[hs];show wpAny _ _ (spliced ((false,eval e X.env)::backTo pos (starEach es X.env))) _ _ s;refine Y1 (thn (ha pins s σ H _ I h) λu s1 ⟨x,H1,I1,r1,q1⟩=>?_);exact thn (hr pos pins s1 σ H1 _ I1 q1) λus s2 ⟨xs,H2,I2,r2,q2⟩=>⟨x::xs,H2,I2,.cons r1 r2,q2⟩
def Ya0(t:TA):TE:=fun σ H Q=>t σ H λxs H1=>xs.length<=sizeLine/\∀p,H1 p=none->Q (.ref p) (upd H1 p (.tup xs))
def Yj0(t:TA):TE:=fun σ H Q=>t σ H λxs H1=>xs.length<=sizeLine/\∀p,H1 p=none->Q (.ref p) (upd H1 p (.lst xs))
theorem dh0{x1}(h:PA X es t):PE X (.Tuple es x1 pos) (Ya0 t):=by
 intro pins s σ H Q I hq;refine wpAny_Tuple_spliced (thn (h pos pins s σ H _ I hq) λus s1 ⟨xs,H1,I1,r,z,q⟩=>⟨by rw[← r.length];exact z,?_⟩);have hf:H1 s1.heap.objs.size=none:=I1.hok.fresh (A4 _);refine⟨.ref s1.heap.objs.size,upd H1 s1.heap.objs.size (.tup xs),I1.laid (t':=s1.toks) (λb u e=>A7 _ e) (A4 _) ?_,rfl,q _ hf⟩;exact⟨z,us,r,⟨_,B7 _ rfl,rfl,_,rfl,rfl⟩⟩
theorem kr0(h:PA X es t):PE X (.List es pos) (Yj0 t):=by
 intro pins s σ H Q I hq;refine wpAny_List_spliced (thn (h pos pins s σ H _ I hq) λus s1 ⟨xs,H1,I1,r,z,q⟩=>⟨by rw[← r.length];exact z,?_⟩);have hf:H1 s1.heap.objs.size=none:=I1.hok.fresh (A4 _);refine⟨.ref s1.heap.objs.size,upd H1 s1.heap.objs.size (.lst xs),I1.laid (t':=s1.toks) (λb u e=>A7 _ e) (A4 _) ?_,rfl,q _ hf⟩;exact⟨z,us,0,r,B7 _ rfl⟩
end
abbrev Sp:=List V->Hp->VK->XK->Prop
abbrev CXT:=List Env->Hp->Shared->XK->Value->Shared->Prop
variable{sp:L2.Sp}
structure Env0(P:Program)(w:World)(K:W.Frag)(mg:Str->Option Value)(base:Heap)(A:Around)(outer:List Env)(s:Shared)(H:Hp):Prop where
 frames:A.frames=some outer
 mod:Mod K mg base
 bs:∀b o,base.get? b=some o->s.heap.get? b=some o/\H b=none
 bsz:base.objs.size<=s.heap.objs.size
 funs:s.heap.FunFrames base outer
 frf:∀b∈frs outer,H b=none
 hok:HOk P w H s.heap
 bare:AllBare s.gens
variable{CX:L2.CXT}
def CE(outer:List Env)(P:Program)(w:World)(H:Hp)(s:Shared)(Q:VK)(u:Value)(s':Shared):Prop :=
 ∃v H',s'.os=s.os/\AllBare s'.gens/\Un (frs outer) [] H H' s.heap s'.heap/\HOk P w H' s'.heap/\RelV v u/\Q v H'
def CR(CX:CXT)(outer:List Env)(P:Program)(w:World)(H:Hp)(s:Shared)(Q:VK)(E:XK)(r:Result)(s':Shared):Prop :=
 match r with
 | .ok (.ret u)=>CE outer P w H s Q u s'
 | .ok _=>False
 | .error e=>CX outer H s E e s'
structure FnOk(P:Program)(w:World)(K:W.Frag)(mg:Str->Option Value)(base:Heap)(CX:CXT)(k:Nat)(f:Addr)(fd:FuncData)(ps:List Str)(sp:Sp):Prop where
 len:∀vs H Q E,sp vs H Q E->vs.length=ps.length
 run:∀(A:Around) (outer:List Env) (s:Shared) (H:Hp) (args:Args) (us:List Value) (vs:List V) (Q:VK) (E:XK),Room k A->Env0 P w K mg base A outer s H->BindsTo s fd args (ps.zip us)->Vals vs us->sp vs H Q E ->
  codeAny (model P w) A (.call (.ref f) args) (CR CX outer P w H s Q E) s
section
variable{σ:St}{s:Shared}
theorem Inv.env0(I:Inv X pins σ H s):Env0 X.prog X.w X.K X.mg X.base X.A X.stack s H :=
 ⟨I.ok.frames,I.ok.mod,I.bs,C0 I.ok.bsz I.sz,I.stack,I.stkFree,I.hok,I.bare⟩
theorem Inv.after{Q:VK}(I:Inv X pins σ H s)(h:CE X.stack X.prog X.w H s Q u s'):EP X pins σ Q u s':=by
 obtain⟨v,H',os,bare,un,hok,r,q⟩:=h;obtain⟨hh,g,d,t,F⟩:=s';obtain rfl:F=s.os:=os;exact⟨v,H',I.call (h':=hh) (g':=g) (d':=d) (t':=t) (ch:=[]) un hok bare (λb z=>absurd z (by simp)),r,q⟩
end
def ab0(sp:Sp)(dvs:List V)(E:XK)(t:TA):TE:=fun σ H Q=>t σ H λvs H1=>sp (vs++dvs) H1 Q E
def Binds(K:W.Frag)(fd:FuncData)(ps:List Str)(ds:List Value):Prop :=
 ∀(s:Shared) (us:List Value),K.In s.heap->(us++ds).length=ps.length->BindsTo s fd ⟨us,[]⟩ (ps.zip (us++ds))
theorem Binds.all{ps:List Str}(h:∀us:List Value,us.length=ps.length->bindArgs fd ⟨us,[]⟩=pure (ps.zip us)):Binds K fd ps []:=λs us _ hl=>by
 rw[List.append_nil] at hl ⊢;exact .of_eq (h us hl)
def px0(CX:CXT)(X:Cx)(E:XK):Prop:=∀(pins:List (Addr×Obj)) (σ:St) (H:Hp) (s:Shared) (e:Value) (s':Shared),Inv X pins σ H s->CX X.stack H s E e s'->X.xe e s'
section
variable{k:Nat}{f C:Addr}{ps:List Str}{dvs:List V}{ds:List Value}{E:XK}{m:Str}{t:TA}
theorem c50{pins:List (Addr×Obj)}{σ:St}{H:Hp}{s:Shared}{Q:VK}{us:List Value}{vs:List V}(F:FnOk X.prog X.w X.K X.mg X.base CX k f fd ps sp)(hr:Room k X.A)(hb:Binds X.K fd ps ds)(hd:Vals dvs ds)(hx:px0 CX X E)
  (I:Inv X pins σ H s) (r:Vals vs us) (h:sp (vs++dvs) H Q E):wpAny (model X.prog X.w) X.A (call (.ref f) us) (EP X pins σ Q) X.xe s:=by
 have r2:Vals (vs++dvs) (us++ds):=r.append hd;have hl:(us++ds).length=ps.length:=by rw[← r2.length];exact F.len _ _ _ _ h
 refine wpAny_call (q5 (F.run X.A X.stack s H ⟨us,[]⟩ (us++ds) (vs++dvs) Q E hr I.env0 (hb s us I.kIn hl) r2 h) λr s' hq=>?_);cases r with
 | error e=>exact hx pins σ H s e s' I hq
 | ok fl =>
  cases fl with
  | ret u=>exact I.after hq
  | next=>exact False.elim hq
  | brk=>exact False.elim hq
  | cont=>exact False.elim hq
theorem tz0(F:FnOk X.prog X.w X.K X.mg X.base CX k f fd ps sp)(hr:Room k X.A)(hg:Gl X x)(hm:X.mg x=some (.ref f))(hk:W.keepIn X.K (.ref f)=true)(hb:Binds X.K fd ps ds)(hd:Vals dvs ds)(hx:px0 CX X E)
  (ha:PA X (e::es) t) (hdb:(x==("__debug__" : Str))=false:=by decide) (he:starEach (e::es) X.env=(false,eval e X.env)::starEach es X.env:=by rfl) (hpl:(backTo pos (starEach es X.env)).any (·.1)=false:=by rfl) :
  PE X (.Call (.Name x p) (e::es) [] pos) (ab0 sp dvs E t):=by
 intro pins s σ H Q I h;refine P1 (eu0 I hg hm ?_ hdb);refine W.callWith_K (h₀:=X.base) I.ok.mod.kin hk (thn (ha pos pins s σ H _ I h) λus s1 ⟨vs,H1,I1,r,q⟩=>⟨I1.kIn,?_⟩) he hpl;exact c50 F hr hb hd hx I1 r q
end
structure FnScope(N P:List Str)(sc:Scope):Prop where
 kind:sc.kind=.function
 co:sc.isCoroutine=false
 gen:sc.isGenerator=false
 nd:N.Nodup
 pre:N.take P.length=P
 par:∀x∈P,sc.names.lookup x=some .local∨sc.names.lookup x=some .cell
 nofree:∀y∈sc.names,y.2≠.free
theorem sy0{kindOf:Str->Option NameKind}:∀{binds:List (Str×Value)} {m:Str->Option Value},(∀v,(x,v)∉binds)->bindL kindOf binds m x=m x
 | [],_,_=>rfl
 | (n,v)::r,m,h=>by
  unfold bindL;rw[sy0 λw hw=>h w (B9 _ hw)];split
  ·have:x≠n:=by rintro rfl;exact h v A5
   simp[this]
  ·rfl
theorem su0{kindOf:Str->Option NameKind}:∀{binds:List (Str×Value)} {m:Str->Option Value},(∀v,(x,v)∉binds)->bindC kindOf binds m x=m x
 | [],_,_=>rfl
 | (n,v)::r,m,h=>by
  unfold bindC;rw[su0 λw hw=>h w (B9 _ hw)];split
  ·rfl
  ·have:x≠n:=by rintro rfl;exact h v A5
   simp[this]
theorem rg0{kindOf:Str->Option NameKind}:∀{P:List Str} {vs:List Value} {i:Nat} {m:Str->Option Value},P.Nodup->P[i]?=some x->vs[i]?=some v->kindOf x=some .local ->
  bindL kindOf (P.zip vs) m x=some v
 | [],_,_,_,_,h,_,_=>by simp at h
 | _::_,[],_,_,_,_,h,_=>by simp at h
 | p::P,w::vs,0,m,nd,h1,h2,hk=>by
  simp at h1 h2;subst h1;subst h2;show bindL kindOf ((p,w)::P.zip vs) m p=_;unfold bindL;rw[sy0 λv hv=>(N0.mp nd).1 (N1 hv).1,if_pos hk];simp
 | p::P,w::vs,i+1,m,nd,h1,h2,hk=>by
  show bindL kindOf ((p,w)::P.zip vs) m x=_;unfold bindL;exact rg0 (i:=i) (N0.mp nd).2 (by simpa using h1) (by simpa using h2) hk
theorem sv0{kindOf:Str->Option NameKind}:∀{P:List Str} {vs:List Value} {i:Nat} {m:Str->Option Value},P.Nodup->P[i]?=some x->vs[i]?=some v->kindOf x≠some .local ->
  bindC kindOf (P.zip vs) m x=some v
 | [],_,_,_,_,h,_,_=>by simp at h
 | _::_,[],_,_,_,_,h,_=>by simp at h
 | p::P,w::vs,0,m,nd,h1,h2,hk=>by
  simp at h1 h2;subst h1;subst h2;show bindC kindOf ((p,w)::P.zip vs) m p=_;unfold bindC;rw[su0 λv hv=>(N0.mp nd).1 (N1 hv).1,if_neg hk];simp
 | p::P,w::vs,i+1,m,nd,h1,h2,hk=>by
  show bindC kindOf ((p,w)::P.zip vs) m x=_;unfold bindC;exact sv0 (i:=i) (N0.mp nd).2 (by simpa using h1) (by simpa using h2) hk
def start(N:List Str)(vs:List V):St:=vs.map some++List.replicate (N.length - vs.length) none
def vf0(CX:CXT)(P:Program)(w:World)(K:W.Frag)(mg:Str->Option Value)(base:Heap)(N:List Str)(qual:Str)(scope:Scope)(f:Addr)(cd:Value)(A:Around)(outer:List Env)(s:Shared)(H:Hp)(E:XK):Cx where
 prog:=P
 w:=w
 K:=K
 mg:=mg
 base:=base
 A:=A.deeper (envOfC qual scope s.heap.objs.size f cd)
 N:=N
 s₀:=s
 H₀:=H
 env:=envOfC qual scope s.heap.objs.size f cd
 outer:=outer
 stack:=envOfC qual scope s.heap.objs.size f cd::outer
 ex:=[]
 calm:=true
 fn:=λ_=>true
 pn:=[]
 xe:=λe s'=>wpAny (model P w) (A.deeper (envOfC qual scope s.heap.objs.size f cd)) (leaving (envOfC qual scope s.heap.objs.size f cd) e) (λ_ s''=>CX outer H s E e s'') (λe' s''=>CX outer H s E e' s'') s'
theorem p70(h:sc.names.lookup x=some .cell):∃c,(cellsFrom n sc.names []).lookup x=some c:=by
 have q:=W.cellsFrom_some sc.names n [] (.inl h);exact Option.isSome_iff_exists.mp q
theorem i30{CX:CXT}{P:Program}{w:World}{K:W.Frag}{mg:Str->Option Value}{base:Heap}{N ps:List Str}{qual:Str}{scope:Scope}{f:Addr}{cd:Value}{A:Around}{outer:List Env}{s s1:Shared}{H:Hp}{E:XK}{us:List Value}{vs:List V}
  (S:FnScope N ps scope) (hd:A.handled=none) (e0:Env0 P w K mg base A outer s H) (hl:vs.length=ps.length) (r:Vals vs us)
  (x:InCallC s s.heap.objs.size (bindL (envOfC qual scope s.heap.objs.size f cd).kindOf (ps.zip us) λ_=>none) (cellsFrom (s.heap.objs.size+1) scope.names []) (bindC (envOfC qual scope s.heap.objs.size f cd).kindOf (ps.zip us) λ_=>none) s1) :
  Inv (vf0 CX P w K mg base N qual scope f cd A outer s H E) [] (start N vs) H s1:=by
 have L:ps.length<=N.length:=by have:=C1 List.length S.pre;rw[List.length_take] at this;omega
 obtain⟨h1,tk,rfl,hk⟩:=x.done;have F:∀b:Addr,b∉(vf0 CX P w K mg base N qual scope f cd A outer s H E).ex:=λb z=>absurd (show b∈([]:List Addr) from z) (by simp)
 refine⟨⟨e0.mod,S.kind,rfl,rfl,A4 _,λy z c h1 h2=>?_,λy hy=>?_,λy c _ h=>?_,λ_=>hd,Around.frames_deeper e0.frames,.inr ⟨rfl,rfl⟩,λb z=>absurd z (F b),e0.bs,e0.bsz,λb _ _=>F b,λb z=>absurd z (F b),e0.funs,e0.frf⟩,
  rfl,e0.bare,Un.kept hk,⟨_,x.toInCall.ns,λi y v h1 h2 h3=>?_⟩,λy c h=>⟨_,x.cell y c h⟩,e0.hok.fresh (A4 _),λy c h=>?_,λp hp=>absurd (show p∈([]:List (Addr×Obj)) from hp) (by simp),e0.hok.kept hk,?_⟩
 ·exact name_of_addr x.apart (G0 h1) (G0 h2)
 ·have hy:scope.names.lookup y=some .cell∨scope.names.lookup y=some .free:=hy
  rcases hy with hy|hy
  ·exact p70 hy
  ·exact absurd rfl (S.nofree _ (G0 hy))
 ·exact X2 (x.above y c (G0 h))
 ·have hi:i<vs.length:=by
   unfold start at h2
   by_cases hi:i<vs.length
   ·exact hi
   ·rw[List.getElem?_append_right (by simpa using hi)] at h2
    rw[List.getElem?_replicate] at h2;split at h2<;>cases h2
  have ha:vs[i]?=some v:=by
   unfold start at h2;rw[List.getElem?_append_left (by simpa using hi),List.getElem?_map] at h2;cases e:vs[i]? with
   | none=>rw[e] at h2;cases h2
   | some a=>rw[e] at h2;cases h2;rfl
  obtain⟨u,hu,rv⟩:=r.get ha;have hp:ps[i]?=some y:=by
   rw[← S.pre,List.getElem?_take_of_lt (by omega)];exact h1
  have J:ps.Nodup:=by rw[← S.pre];exact S.nd.sublist (List.take_sublist _ _)
  refine⟨u,rv,?_⟩;rcases S.par y (L3 hp) with k|k
  ·exact .inl ⟨k,rg0 J hp hu k⟩
  ·obtain⟨c,e⟩:=p70 (n:=s.heap.objs.size+1) k
   refine .inr ⟨.inl k,c,e,?_⟩;have q:=x.cell y c e;rw[sv0 J hp hu (by show scope.names.lookup y≠_;rw[k];decide)] at q;exact q
 ·exact e0.hok.fresh (X2 (x.above y c (G0 h)))
 ·unfold start
  show _=N.length;rw[List.length_append,List.length_map,List.length_replicate];omega
theorem Ze0{CX:CXT}{P:Program}{w:World}{K:W.Frag}{mg:Str->Option Value}{base:Heap}{k:Nat}{f:Addr}{name qual:Str}{params:Arguments}{body:List Stmt}{scope:Scope}{dV kV doc pm cdv ct oc:Value}{an od:Option Addr}
  {osl:Array (Option Value)} {N ps:List Str} {sp:Sp} (lk:K.lookup f=some ⟨oc,od,.func (W.fnOf name qual params body scope dV kV doc pm an cdv ct),osl⟩) (hcd:W.codeIn K cdv qual=true) (S:FnScope N ps scope)
  (len:∀vs H Q E,sp vs H Q E->vs.length=ps.length)
  (hbody:∀(A:Around) (outer:List Env) (s:Shared) (H:Hp) (vs:List V) (Q:VK) (E:XK),Room k (A.deeper (envOfC qual scope s.heap.objs.size f cdv))->sp vs H Q E ->
   ∃t,PSs (vf0 CX P w K mg base N qual scope f cdv A outer s H E) body t/\t { nx:=λ_ H'=>Q .non H',rt:=Q } (start N vs) H) :
  FnOk P w K mg base CX (k+1) f (W.fnOf name qual params body scope dV kV doc pm an cdv ct) ps sp:=by
 refine⟨len,λA outer s H O us vs Q E hr e0 hb r L=>?_⟩;have hl:=len _ _ _ _ L;have KX:K.In s.heap:=e0.mod.kin.keeps λb o e=>(e0.bs b o e).1
 have M:s.heap.NoLimit:=e0.mod.nolimit.keeps λb o e=>(e0.bs b o e).1
 have F:∀y∈ps.zip us,scope.names.lookup y.1=some .local∨(scope.names.lookup y.1=some .cell/\((cellsFrom (s.heap.objs.size+1) scope.names []).lookup y.1).isSome=true):=λ⟨n,v⟩ hy=>by
  rcases S.par n (N1 hy).1 with q|q
  ·exact .inl q
  ·exact .inr ⟨q,W.cellsFrom_some _ _ _ (.inl q)⟩
 refine codeAny_call_function hr.depth (KX _ _ lk) rfl S.co S.gen rfl (W.codeRec_of KX hcd) (hb _ _ _ _ ?_);refine wpAny_newFunctionEnv_cells S.kind F λenv he s1 x=>?_
 subst he;refine⟨M.keeps x.toInCall.keep,codeAny_func ?_⟩;obtain⟨t,ht,hq⟩:=hbody A outer s H vs Q E (hr.deeper _) L;have I:Inv (vf0 CX P w K mg base N qual scope f cdv A outer s H E) [] (start N vs) H s1:=i30 S hr.hd e0 hl r x;refine D2 (ht [] s1 (start N vs) H _ I hq) (λfl s' hs=>?_) λe s' hs=>hs
 have fin:∀{σ':St} {H':Hp} {v:V} {u:Value},Inv (vf0 CX P w K mg base N qual scope f cdv A outer s H E) [] σ' H' s'->RelV v u->Q v H'->CE outer P w H s Q u s' :=
  λ{σ' H' v u} J rv q=>⟨v,H',J.os,J.bare,J.base,J.hok,rv,q⟩
 cases fl with
 | ret u =>
  obtain⟨v,σ',H',J,rv,q⟩:=hs;exact fin J rv q
 | next =>
  obtain⟨σ',H',J,q⟩:=hs;exact fin (v:=V.non) (u:=Value.none) J rfl q
 | brk =>
  obtain⟨_,_,_,q⟩:=hs;exact False.elim q
 | cont =>
  obtain⟨_,_,_,q⟩:=hs;exact False.elim q
section
variable{t:TA}{id T:String}
def tCB(r:List V->Hp->VK->Prop)(t:TA):TE:=fun σ H Q=>t σ H λvs H1=>r vs H1 Q
theorem wl0(hc:CallR X (.builtin id) r)(hg:Gl X x)(hm:X.mg x=none)(hv:bootBuiltins x=some (.builtin id))(ha:PA X (e::es) t)(hn:x ≠"__name__" := by decide)(hdb:(x==("__debug__" : Str))=false:=by decide)
  (he:starEach (e::es) X.env=(false,eval e X.env)::starEach es X.env:=by rfl) (hpl:(backTo pos (starEach es X.env)).any (·.1)=false:=by rfl):PE X (.Call (.Name x p) (e::es) [] pos) (tCB r t):=by
 intro pins s σ H Q I h;refine P1 (zo0 I hg hm hv ?_ hn hdb);exact PyProof.Rows.callWith_builtin1 (thn (ha pos pins s σ H _ I h) λus s1 ⟨vs,H1,I1,r1,q1⟩=>hc pins s1 σ H1 vs us Q I1 r1 q1) he hpl
theorem rc0(hc:CallR X (.type T) r)(hg:Gl X x)(hm:X.mg x=none)(hv:bootBuiltins x=some (.type T))(ha:PA X (e::es) t)(hn:x ≠"__name__" := by decide)(hdb:(x==("__debug__" : Str))=false:=by decide)
  (he:starEach (e::es) X.env=(false,eval e X.env)::starEach es X.env:=by rfl) (hpl:(backTo pos (starEach es X.env)).any (·.1)=false:=by rfl):PE X (.Call (.Name x p) (e::es) [] pos) (tCB r t):=by
 intro pins s σ H Q I h;refine P1 (zo0 I hg hm hv ?_ hn hdb);exact M1 (thn (ha pos pins s σ H _ I h) λus s1 ⟨vs,H1,I1,r1,q1⟩=>hc pins s1 σ H1 vs us Q I1 r1 q1) he hpl
end
end L2
variable{r:List L2.V->L2.Hp->L2.VK->Prop}{X:L2.Cx}{y:L2.V}{xs:List L2.V}{H H' H2 H₀:L2.Hp}{σ:List (Option L2.V)}{ta tb te tv td:L2.TE}{CX:L2.CXT}{sp:L2.Sp}{ks:List L2.Key}{kvs:List (List L2.Key×L2.V)}
namespace HT
open PyProof.Rows
section
variable{w:World}{s:Shared}
theorem f90{t b:Addr}{ws:List Value}{Q:Value->Shared->Prop}(ht:IsTup s.heap t vs.toArray)(hb:IsTup s.heap b ws.toArray)(hv:vs≠[])
  (h1:ws=[]->Q (.ref t) s) (h2:ws≠[]->Q (.ref s.heap.objs.size) { s with heap:=s.heap.push { cls:=.type "tuple",data:=.seq (vs++ws).toArray } })
  (hsz:vs.length+ws.length<=sizeLine):wpAny (model prog w) A (binaryOp .Add (.ref t) (.ref b)) Q E s:=by
 obtain⟨⟨cls,dd,data,sl⟩,ho,hc,n,hd⟩:=id ht;obtain⟨⟨S,L,data2,O⟩,F,J,n2,M⟩:=id hb;simp only at hc hd J M;subst hc hd J M;have e:vs.toArray++ws.toArray=(vs++ws).toArray:=by simp
 by_cases hw:ws=[]
 ·exact Y2 ⟨_,ho,rfl⟩ ⟨_,F,rfl⟩ r0 r8 r9 t0 (t9 _ _)
   (tuple_addW1 t b vs.toArray ws.toArray n n2 dd L sl O (by simpa using hv) (by simp[hw])) ⟨ho,F,h1 hw⟩
 ·refine Y2 ⟨_,ho,rfl⟩ ⟨_,F,rfl⟩ r0 r8 r9 t0 (t9 _ _)
   (tuple_addW2 t b vs.toArray ws.toArray n n2 dd L sl O (by simpa using hv) (by simpa using hw) (by rw[List.size_toArray,List.size_toArray];exact hsz)) ⟨ho,F,?_⟩
  rw[e];exact h2 hw
def sIx(n d:Nat):Option Int->Nat
 | none=>d
 | some v=>if v<0 then (v+(n:Int)).toNat else min v.toNat n
theorem c40(n d:Nat)(hd:d<=n)(o:Option Int):sIx n d o<=n:=by
 cases o with
 | none=>exact hd
 | some v =>
  show (if v<0 then (v+(n:Int)).toNat else min v.toNat n)<=n
  by_cases hv:v<0
  ·rw[if_pos hv];omega
  ·rw[if_neg hv];exact Nat.min_le_right _ _
theorem nk0(v:Int)(n d:Nat):(if v<0 then max (v+(n:Int)) 0 else min v (n:Int))=((sIx n d (some v):Nat):Int):=by
 show (if v<0 then max (v+(n:Int)) 0 else min v (n:Int))=(((if v<0 then (v+(n:Int)).toNat else min v.toNat n):Nat):Int)
 by_cases hv:v<0
 ·simp only[if_pos hv];omega
 ·simp only[if_neg hv];omega
theorem mx0(lo hi:Option Int)(n:Nat):Builtin.Slice.sliceAdjust lo hi 1 (n:Int)=(((sIx n 0 lo:Nat):Int),((sIx n n hi:Nat):Int)):=by
 have h1:¬((1:Int)<0):=by omega
 unfold Builtin.Slice.sliceAdjust;simp only[h1,if_false];refine L4 ?_ ?_
 ·cases lo with
  | none=>rfl
  | some v=>exact nk0 v n 0
 ·cases hi with
  | none=>rfl
  | some v=>exact nk0 v n n
theorem mg0(i j:Nat):Builtin.Slice.slicePlaces (i:Int) (j:Int) 1=j - i:=by
 unfold Builtin.Slice.slicePlaces;have h1:(1:Int) > 0:=by omega
 simp only[h1,if_true,Int.ediv_one];split<;>omega
theorem t20{o:Option Int}{Q:Option Int->Shared->Prop}(p:IsPart v o)(h:Q o s):wpAny (model prog w) A (Builtin.Slice.slicePartIndex v) Q E s:=by
 cases p with
 | none=>exact slicePart_none h
 | int i t=>exact slicePart_int h
theorem yr0{sl:Addr}{n:Nat}{Q:Int×Int×Nat->Shared->Prop}(hs:s.heap.IsSliceOf sl vl vu .none)(pl:IsPart vl lo)(pu:IsPart vu hi)
  (h:Q (((sIx n 0 lo:Nat):Int),1,sIx n n hi - sIx n 0 lo) s):wpAny (model prog w) A (Builtin.Slice.sliceApplied (.ref sl) (pure (n:Int))) Q E s:=by
 obtain⟨os,F,J,hds⟩:=id hs;unfold Builtin.Slice.sliceApplied Builtin.Slice.sliceFields;refine A0 (A0 (B5 F hds (x:=vl) rfl (A0 (B5 F hds (x:=vu) rfl (A0 (B5 F hds (x:=.none) rfl (A1 ?_)))))));refine A0 (slicePart_none ?_);show wpAny _ _ (if ((1:Int)==0)=true then _ else _) _ _ s;rw[if_neg (by decide)];refine A0 (t20 pl (A0 (t20 pu (A0 (A1 ?_)))));show wpAny _ _ (match Builtin.Slice.sliceAdjust lo hi 1 (n:Int) with|(lo,hi)=>pure (lo,(1:Int),Builtin.Slice.slicePlaces lo hi 1)) _ _ s;rw[mx0 lo hi n];show wpAny _ _ (pure (((sIx n 0 lo:Nat):Int),(1:Int),Builtin.Slice.slicePlaces ((sIx n 0 lo:Nat):Int) ((sIx n n hi:Nat):Int) 1)) _ _ s;rw[mg0];exact A1 h
theorem he0(xs:Array Value)(i k:Nat):((List.range k).filterMap λ(m:Nat)=>xs[((i:Int)+(m:Int)*1).toNat]?).toArray=((xs.toList.drop i).take k).toArray:=by
 have e:(λ(m:Nat)=>xs[((i:Int)+(m:Int)*1).toNat]?)=λm=>xs[i+m]?:=by
  funext m
  have:((i:Int)+(m:Int)*1).toNat=i+m:=by omega
  rw[this]
 rw[e];have:=pick_run xs i k;rw[List.filterMap_map] at this;have e2:((λx=>xs[x]?) ∘ λx=>i+x)=λm=>xs[i+m]?:=rfl
 rw[e2] at this;rw[this]
theorem u90{t sl:Addr}{Q:Value->Shared->Prop}(ht:IsTup s.heap t items)(hs:s.heap.IsSliceOf sl vl vu .none)(pl:IsPart vl lo)(pu:IsPart vu hi)
  (hw:¬(sIx items.size 0 lo=0/\sIx items.size items.size hi=items.size))
  (h:Q (.ref s.heap.objs.size) { s with heap:=s.heap.push { cls:=.type "tuple",data:=.seq ((items.toList.drop (sIx items.size 0 lo)).take (sIx items.size items.size hi - sIx items.size 0 lo)).toArray } })
  (hsz:items.size<=sizeLine):wpAny (model prog w) A (getItem (.ref t) (.ref sl)) Q E s:=by
 have F:sizeOk (.seq ((items.toList.drop (sIx items.size 0 lo)).take (sIx items.size items.size hi - sIx items.size 0 lo)).toArray):=by
  show ((items.toList.drop (sIx items.size 0 lo)).take (sIx items.size items.size hi - sIx items.size 0 lo)).toArray.size<=sizeLine;rw[List.size_toArray,List.length_take,List.length_drop,Array.length_toList];omega
 have hj:sIx items.size items.size hi<=items.size:=c40 _ _ (A4 _) hi;obtain⟨os,O,L,hds⟩:=id hs;have J:s.TypeIs (.ref sl) "slice" := ⟨os,O,L⟩;unfold getItem
 try with_reducible refine C7 ?_
 first|refine A0 (A1 ?_)|skip
 refine A0 (wpAny_sequenceKey ht.typeIs (by decide) ?_);refine A0 (E7 (name:=Str.ofString "__getitem__") ht.typeIs P2
  (D0 P2 ht.typeIs entry_tuple_getitem ?_ (args_tuple_getitem _ _)))
 show wpAny _ _ (Builtin.Tuple.tupleItemsOf (.ref t)>>=_) _ _ s;refine A0 (tupleItemsOf_ ht ?_);refine A0 (T0 J ?_);rw[if_pos (by decide)];refine A0 (yr0 hs pl pu ?_);have M:¬((((sIx items.size 0 lo:Nat):Int)==0&&(1:Int)==1&&(sIx items.size items.size hi - sIx items.size 0 lo)==items.size)=true):=by
  intro q;rw[Bool.and_eq_true,Bool.and_eq_true] at q;have q1:((sIx items.size 0 lo:Nat):Int)=0:=P3 q.1.1;have q2:sIx items.size items.size hi - sIx items.size 0 lo=items.size:=P3 q.2;exact hw ⟨by omega,by omega⟩
 show wpAny _ _ (if (((sIx items.size 0 lo:Nat):Int)==0&&(1:Int)==1&&(sIx items.size items.size hi - sIx items.size 0 lo)==items.size)=true then _ else _) _ _ s;rw[if_neg M,he0]
 first
  | exact A0 (m:=Builtin.Tuple.tupleExact _) (H0 (A1 ⟨_,rfl,A1 h⟩) F)
  | exact A0 (m:=Builtin.Tuple.tupleExact _) (H0 (A0 (A1 (A1 ⟨_,rfl,A1 h⟩))) F)
  | exact A0 (A0 (m:=Builtin.Tuple.tupleExact _) (H0 (A1 (A1 ⟨_,rfl,A1 h⟩)) F))
  | exact A0 (A0 (m:=Builtin.Tuple.tupleExact _) (H0 (A1 ⟨_,rfl,A1 h⟩) F))
end
end HT
namespace L2
open Spec PyProof.Rows
abbrev TO:=St->Hp->(Option Int->Hp->Prop)->Prop
def PO(X:Cx)(e:Option Expr)(t:TO):Prop :=
 ∀(pins:List (Addr×Obj)) (s:Shared) (σ:St) (H:Hp) (Q:Option Int->Hp->Prop),Inv X pins σ H s->t σ H Q ->
  wpAny (model X.prog X.w) X.A (evalPart e X.env) (λu s'=>∃o H',Inv X pins σ H' s'/\IsPart u o/\Q o H') X.xe s
def d20:TO:=λ_ H Q=>Q none H
def ag0(t:TE):TO:=fun σ H Q=>t σ H λx H1=>∃i,x=.int i/\Q (some i) H1
section
variable{lo hi:Option Expr}{tl th:TO}
theorem ea0:PO X none d20:=by
 intro pins s σ H Q I h;rw[evalPart_none];exact A1 ⟨none,H,I,.none,h⟩
theorem ex0(h:PE X e te):PO X (some e) (ag0 te):=by
 intro pins s σ H Q I hw;rw[evalPart_some];refine thn (h pins s σ H _ I hw) λu s1 ⟨x,H1,I1,r1,q1⟩=>?_
 obtain⟨i,rfl,q⟩:=q1;obtain⟨t,rfl⟩:=r1;exact⟨some i,H1,I1,.int i t,q⟩
def SlR(X:Cx)(r:V->Option Int->Option Int->Hp->VK->Prop):Prop :=
 ∀(pins:List (Addr×Obj)) (s:Shared) (σ:St) (H:Hp) (x:V) (v vl vu:Value) (lo hi:Option Int) (sl:Addr) (Q:VK),Inv X pins σ H s->RelV x v->s.heap.IsSliceOf sl vl vu .none->IsPart vl lo->IsPart vu hi->r x lo hi H Q ->
  ∃T id,typeLookup (.type T) "__getitem__"=pure (some (.builtin id))/\s.TypeIs v T/\wpAny (model X.prog X.w) X.A (getItem v (.ref sl)) (EP X pins σ Q) X.xe s
theorem SlR.or{r r':V->Option Int->Option Int->Hp->VK->Prop}(h:SlR X r)(h':SlR X r'):SlR X (λx lo hi H Q=>r x lo hi H Q∨r' x lo hi H Q):=by
 intro pins s σ H x v vl vu lo hi sl Q I rx hs pl pu q;rcases q with q|q
 ·exact h pins s σ H x v vl vu lo hi sl Q I rx hs pl pu q
 ·exact h' pins s σ H x v vl vu lo hi sl Q I rx hs pl pu q
def tSl(r:V->Option Int->Option Int->Hp->VK->Prop)(te:TE)(tl th:TO):TE:=fun σ H Q=>te σ H λx H1=>tl σ H1 λl H2=>th σ H2 λu H3=>r x l u H3 Q
theorem g60{r:V->Option Int->Option Int->Hp->VK->Prop}(hr:SlR X r)(he:PE X e te)(hl:PO X lo tl)(hu:PO X hi th):PE X (.Subscript e (.Slice lo hi none p2) pos) (tSl r te tl th):=by
 intro pins s σ H Q I h;refine Subscript_ (thn (he pins s σ H _ I h) λv s1 ⟨x,H1,I1,r1,q1⟩=>?_);refine wpAny_Slice (thn (hl pins s1 σ H1 _ I1 q1) λvl s2 ⟨l,H2,I2,pl,q2⟩=>thn (hu pins s2 σ H2 _ I2 q2) λvu s3 ⟨u,H3,I3,pu,q3⟩=>?_);rw[evalPart_none];refine A1 ?_;have I4:Inv X pins σ H3 { s3 with heap:=s3.heap.push { cls:=.type "slice",data:=.fields #[vl,vu,.none] } }:=I3.kept (t':=s3.toks) λb ob q=>A7 _ q
 obtain⟨T,id,hT,ht,hg⟩:=hr pins { s3 with heap:=s3.heap.push { cls:=.type "slice",data:=.fields #[vl,vu,.none] } } σ H3 x v vl vu l u s3.heap.objs.size Q I4 r1 (Heap.IsSliceOf.new ..) pl pu q3;show wpAny (model X.prog X.w) X.A (subscriptTail e (.Slice lo hi none p2) v (.ref s3.heap.objs.size)) (EP X pins σ Q) X.xe { s3 with heap:=s3.heap.push { cls:=.type "slice",data:=.fields #[vl,vu,.none] } };exact tail_any (ops:=[.ref s3.heap.objs.size,v]) ht hT hg (by with_unfolding_all rfl)
def vq0(xs:List V)(lo hi:Option Int):List V:=(xs.drop (HT.sIx xs.length 0 lo)).take (HT.sIx xs.length xs.length hi - HT.sIx xs.length 0 lo)
theorem ub0(xs:List V)(lo hi:Option Int):(vq0 xs lo hi).length<=xs.length:=by
 unfold vq0;rw[List.length_take,List.length_drop];omega
def Y40(K:W.Frag):V->Option Int->Option Int->Hp->VK->Prop:=λx lo hi H Q=>∃a xs,x=.ref a/\SqT K H a xs /\
 ¬(HT.sIx xs.length 0 lo=0/\HT.sIx xs.length xs.length hi=xs.length)/\∀p,H p=none->Q (.ref p) (upd H p (.tup (vq0 xs lo hi)))
theorem dj0:SlR X (Y40 X.K):=by
 intro pins s σ H x v vl vu lo hi sl Q I rx hs pl pu h;obtain⟨a,xs,rfl,hx,hw,q⟩:=h;cases rx;obtain⟨its,r,ht,hz⟩:=I.tuple hx;have F:its.toArray.size=xs.length:=by rw[List.size_toArray];exact r.length.symm
 refine⟨"tuple",_,P2.lookup,ht.typeIs,?_⟩;refine HT.u90 ht hs pl pu (by rw[F];exact hw) ?_ (by rw[F];exact hz);rw[F];refine⟨.ref s.heap.objs.size,_,I.laid (t':=s.toks) (o:=.tup (vq0 xs lo hi)) (λb ob q=>A7 _ q) (A4 _) ?_,rfl,q _ (I.hok.fresh (A4 _))⟩;exact⟨C0 (ub0 xs lo hi) hz,_,(r.drop (HT.sIx xs.length 0 lo)).take (HT.sIx xs.length xs.length hi - HT.sIx xs.length 0 lo),IsTupN.new _ _⟩
def gj0(K:W.Frag):R2:=λx y H Q=>∃a b xs ys,x=.ref a/\y=.ref b/\SqT K H a xs/\SqT K H b ys/\xs≠[]/\xs.length+ys.length<=sizeLine /\
 (ys=[]->Q (.ref a) H)/\(ys≠[]->∀p,H p=none->Q (.ref p) (upd H p (.tup (xs++ys))))
theorem Vals.nil_iff(r:Vals xs us):us=[]↔xs=[]:=by
 cases r with
 | nil=>simp
 | cons _ _=>simp
theorem ej0:OpR X (binaryOp .Add) (gj0 X.K):=by
 intro pins s σ H x y v u Q I rx ry h;obtain⟨a,b,xs,ys,rfl,rfl,ha,hb,hx,hz,q1,q2⟩:=h;cases rx;cases ry;obtain⟨its,r1,p1,_⟩:=I.tuple ha;obtain⟨F,r2,p2,_⟩:=I.tuple hb;refine HT.f90 p1 p2 (λz=>hx (r1.nil_iff.mp z)) (λz=>⟨.ref a,H,I,rfl,q1 (r2.nil_iff.mp z)⟩) (λz=>?_) (by rw[← r1.length,← r2.length];exact hz);refine⟨.ref s.heap.objs.size,_,I.laid (t':=s.toks) (o:=.tup (xs++ys)) (λb ob q=>A7 _ q) (A4 _) ?_,rfl,q2 (λw=>z (r2.nil_iff.mpr w)) _ (I.hok.fresh (A4 _))⟩;exact⟨by rw[List.length_append];exact hz,_,r1.append r2,IsTupN.new _ _⟩
end
def ixN(n:Nat)(i:Int):Option Nat:=if 0<=i then (if i<n then some i.toNat else none) else if -(n:Int)<=i then some (i+n).toNat else none
def atI{α:Type}(xs:List α)(i:Int):Option α:=(ixN xs.length i).bind λj=>xs[j]?
theorem nu0{i:Int}(h:ixN n i=some j):seqIndex? i n=some j/\j<n/\-(n:Int)<=i/\i<n:=by
 unfold ixN at h
 by_cases h0:0<=i
 ·rw[if_pos h0] at h
  by_cases h1:i<n
  ·rw[if_pos h1] at h
   have e:i.toNat=j:=B1 h;exact⟨by rw[seqIndex_of h0 h1,e],by omega,by omega,h1⟩
  ·rw[if_neg h1] at h;cases h
 ·rw[if_neg h0] at h
  by_cases h1:-(n:Int)<=i
  ·rw[if_pos h1] at h
   have e:(i+n).toNat=j:=B1 h;exact⟨by rw[seqIndex_neg (by omega) h1,e],by omega,h1,by omega⟩
  ·rw[if_neg h1] at h;cases h
theorem tq0{xs:List α}{i:Int}{v:α}(h:atI xs i=some v):∃j,seqIndex? i xs.length=some j/\xs[j]?=some v/\j<xs.length/\-(xs.length:Int)<=i/\i<xs.length:=by
 unfold atI at h;cases e:ixN xs.length i with
 | none=>rw[e] at h;cases h
 | some j =>
  rw[e] at h;obtain⟨h1,h2,h3,h4⟩:=nu0 e;exact⟨j,h1,h,h2,h3,h4⟩
def s80(b:Expr):Prop:=∀o i,subscripted b false o i=operate [o,i] (getItem o i)
def IxR(X:Cx)(r:R2):Prop :=
 ∀(value slice:Expr) (pins:List (Addr×Obj)) (s:Shared) (σ:St) (H:Hp) (x y:V) (v u:Value) (Q:VK),Inv X pins σ H s->RelV x v->RelV y u->r x y H Q ->
  subscripted slice false v u=operate [v,u] (getItem v u)->wpAny (model X.prog X.w) X.A (subscriptTail value slice v u) (EP X pins σ Q) X.xe s
def MtR(X:Cx)(id:String)(r:V->List V->Hp->VK->Prop):Prop :=
 ∀(pins:List (Addr×Obj)) (s:Shared) (σ:St) (H:Hp) (x:V) (xs:List V) (v:Value) (us:List Value) (Q:VK),Inv X pins σ H s->RelV x v->Vals xs us->r x xs H Q ->
  wpAny (model X.prog X.w) X.A (call (.builtin id) (v::us)) (EP X pins σ Q) X.xe s
section
variable{a:Expr}
theorem IxR.or{r r':R2}(h:IxR X r)(h':IxR X r'):IxR X (λx y H Q=>r x y H Q∨r' x y H Q):=by
 intro value slice pins s σ H x y v u Q I rx ry q hs;rcases q with q|q
 ·exact h value slice pins s σ H x y v u Q I rx ry q hs
 ·exact h' value slice pins s σ H x y v u Q I rx ry q hs
theorem a00{r:R2}(hr:IxR X r)(ha:PE X a ta)(hb:PE X b tb)(hs:s80 b):PE X (.Subscript a b pos) (tOp r ta tb):=by
 intro pins s σ H Q I h;exact Subscript_ (if0 ha hb I h λv u s2 x y H2 I2 rx ry q=>hr a b pins s2 σ H2 x y v u Q I2 rx ry q (hs _ _))
def bp0(K:W.Frag):R2:=λx y H Q=>∃p xs i v,x=.ref p/\y=.int i/\SqL K H p xs/\atI xs i=some v/\Q v H
def dx0(K:W.Frag):R2:=λx y H Q=>∃p xs i v,x=.ref p/\y=.int i/\SqT K H p xs/\atI xs i=some v/\Q v H
def de0:R2:=λx y H Q=>∃z i c,x=.str z/\y=.int i/\z.length<=sizeLine/\atI z.cps.toList i=some c/\Q (.str ⟨#[c]⟩) H
theorem e40:IxR X (bp0 X.K):=by
 intro value slice pins s σ H x y v u Q I rx ry h hs;obtain⟨p,xs,i,z,rfl,rfl,hq,he,q⟩:=h;cases rx;obtain⟨t,rfl⟩:=ry;obtain⟨its,r,pl,hz⟩:=I.list hq;obtain⟨j,h1,h2,h3,h4,h5⟩:=tq0 he;obtain⟨w,ew,F⟩:=r.get h2;have hl:=r.length;have hn:=w70;have fin:EP X pins σ Q w s:=⟨z,H,I,F,q⟩
 by_cases h0:0<=i
 ·have hj:i.toNat=j:=by
   rw[seqIndex_of h0 h5] at h1;exact B1 h1
  exact item_listR pl.isList h0 (by omega) (by rw[hj];simpa using ew) fin hs
 ·have hj:(i+(its.toArray.size:Int)).toNat=j:=by
   rw[seqIndex_neg (by omega) h4] at h1;rw[List.size_toArray,← hl];exact B1 h1
  exact subscriptTail_builtinR (x:=w) pl.isList.typeIs slot_list_getitem.lookup
   (wpAny_getItem_list_neg (Q:=λr s'=>r=w/\EP X pins σ Q r s') pl.isList (by omega) (by rw[List.size_toArray]<;>omega) (by omega) (by rw[hj];simpa using ew) ⟨rfl,fin⟩) hs
theorem bc0:IxR X (dx0 X.K):=by
 intro value slice pins s σ H x y v u Q I rx ry h hs;obtain⟨p,xs,i,z,rfl,rfl,hq,he,q⟩:=h;cases rx;obtain⟨t,rfl⟩:=ry;obtain⟨its,r,pl,hz⟩:=I.tuple hq;obtain⟨j,h1,h2,h3,h4,h5⟩:=tq0 he;obtain⟨w,ew,F⟩:=r.get h2;have hl:=r.length;have hn:=w70;have fin:EP X pins σ Q w s:=⟨z,H,I,F,q⟩;exact subscriptTail_builtinR (x:=w) pl.typeIs slot_tuple_getitem.lookup
  (getItem_tuple (j:=j) (Q:=λr s'=>r=w/\EP X pins σ Q r s') pl (by omega) (by omega) (by rw[List.size_toArray,← hl];exact h1) (by simpa using ew) ⟨rfl,fin⟩) hs
theorem ce0:IxR X de0:=by
 intro value slice pins s σ H x y v u Q I rx ry h hs;obtain⟨z,i,c,rfl,rfl,hz,he,q⟩:=h;obtain⟨t,rfl⟩:=rx;obtain⟨t',rfl⟩:=ry;obtain⟨j,h1,h2,h3,h4,h5⟩:=tq0 he;have hl:z.cps.toList.length=z.length:=by simp[Str.length]
 rw[hl] at h1 h4 h5;have hn:=w70;exact tail_any (P4 s z t) slot_str_getitem.lookup (getItem_str (c:=c) (by
  have e1:decide (i < -(2 ^ 63:Int))=false:=O0 (by omega);have e2:decide (i ≥ 2 ^ 63)=false:=O0 (by omega);rw[e1,e2,Bool.or_false]) (by rw[h1];simpa using h2) ⟨.str ⟨#[c]⟩,H,I.tok _,⟨_,rfl⟩,q⟩) hs
def rIx(K:W.Frag):R2:=λx y H Q=>bp0 K x y H Q∨dx0 K x y H Q∨de0 x y H Q
theorem dr0:IxR X (rIx X.K):=e40.or (bc0.or ce0)
theorem mz0(its:List Value)(n j:Nat)(u:Value):Obj.mapSeq (·.setIfInBounds j u) { cls:=.type "list",data:=.seq its.toArray n }={ cls:=.type "list",data:=.seq (its.set j u).toArray n }:=by
 simp[Obj.mapSeq]
theorem Inv.lst{σ:St}{s:Shared}{p:Addr}(I:Inv X pins σ H s)(h:H p=some (.lst xs)) :
  ∃(its:List Value) (n:Nat),Vals xs its/\s.heap.get? p=some { cls:=.type "list",data:=.seq its.toArray n }/\xs.length<=sizeLine:=by
 obtain⟨z,its,n,r,e⟩:=I.hok p _ h;exact⟨its,n,r,e,z⟩
theorem Inv.lstUpd{σ:St}{s:Shared}{p:Addr}{ys:List V}{its its':List Value}{n n':Nat}{f:Obj->Obj}(I:Inv X pins σ H s)(h:H p=some (.lst xs))
  (ho:s.heap.get? p=some { cls:=.type "list",data:=.seq its.toArray n }) (hf:f { cls:=.type "list",data:=.seq its.toArray n }={ cls:=.type "list",data:=.seq its'.toArray n' }) (r:Vals ys its') (hz:ys.length<=sizeLine) (t:Nat) :
  Inv X pins σ (upd H p (.lst ys)) { s with heap:=s.heap.update p f,toks:=t }:=by
 have e:(s.heap.update p f).get? p=some { cls:=.type "list",data:=.seq its'.toArray n' }:=by
  rw[Heap.get?_update_self f ho (by rw[hf]<;>rfl),hf]
 refine I.write (x:=p) (e:=p) (by rw[h];trivial) (.inl rfl) (λb u hb q=>(w4 _ _ (C6 hb)).trans q) ⟨_,e⟩ ?_;exact⟨hz,its',n',r,e⟩
def Z10:V->V->V->Hp->(Hp->Prop)->Prop:=λo i v H Q=>∃p xs k j,o=.ref p/\i=.int k/\H p=some (.lst xs)/\ixN xs.length k=some j/\Q (upd H p (.lst (xs.set j v)))
theorem set_list:ij0 X Z10:=by
 intro pins s σ H o i v ov iv u Q I ro ri rv h;obtain⟨p,xs,k,j,rfl,rfl,hp,hj,q⟩:=h;cases ro;obtain⟨t,rfl⟩:=ri;obtain⟨its,n,r,ho,hz⟩:=I.lst hp;obtain⟨h1,h2,h3,h4⟩:=nu0 hj;have hl:=r.length;have hn:=w70;have I':Inv X pins σ (upd H p (.lst (xs.set j v))) { s with heap:=s.heap.update p (Obj.mapSeq (·.setIfInBounds j u)) } :=
  I.lstUpd hp ho (mz0 its n j u) (r.set rv j) (by rw[List.length_set];exact hz) s.toks
 by_cases h0:0<=k
 ·have hk:k.toNat=j:=by
   rw[seqIndex_of h0 h4] at h1;exact B1 h1
  exact W.ki_setAt ho h0 (by omega) (by rw[List.size_toArray,← hl];exact h4) (by rw[hk];exact⟨_,I',q⟩)
 ·have hk:(k+(its.toArray.size:Int)).toNat=j:=by
   rw[seqIndex_neg (by omega) h3] at h1;rw[List.size_toArray,← hl];exact B1 h1
  exact W.ki_setBack ho (by omega) (by rw[List.size_toArray,← hl];exact h3) (by omega) (by rw[hk];exact⟨_,I',q⟩)
theorem o20(lo hi:Option Int)(n:Nat):(sliceBounds lo hi none n).1=((HT.sIx n 0 lo:Nat):Int)/\(sliceBounds lo hi none n).2.1=((HT.sIx n n hi:Nat):Int)/\(sliceBounds lo hi none n).2.2=1:=by
 refine⟨?_,?_,rfl⟩
 ·cases lo with
  | none=>simp[sliceBounds,HT.sIx]
  | some i =>
   simp only[sliceBounds,HT.sIx,Option.getD_none,show (1:Int) > 0 by decide,if_true]
   by_cases h:i<0
   ·simp only[h,if_true]<;>omega
   ·simp only[h,if_false]<;>omega
 ·cases hi with
  | none=>simp[sliceBounds,HT.sIx]
  | some i =>
   simp only[sliceBounds,HT.sIx,Option.getD_none,show (1:Int) > 0 by decide,if_true]
   by_cases h:i<0
   ·simp only[h,if_true]<;>omega
   ·simp only[h,if_false]<;>omega
theorem ro0(its:List Value)(lo hi:Option Int):slicePick its.toArray lo hi none=((its.drop (HT.sIx its.length 0 lo)).take (HT.sIx its.length its.length hi - HT.sIx its.length 0 lo)).toArray:=by
 obtain⟨h1,h2,h3⟩:=o20 lo hi its.toArray.size;unfold slicePick;rw[h1,h2,h3];simp only[sliceRange_one,pick_run,List.size_toArray]<;>rfl
def Zr0(K:W.Frag):V->Option Int->Option Int->Hp->VK->Prop:=λx lo hi H Q=>∃a xs,x=.ref a/\SqL K H a xs/\∀p,H p=none->Q (.ref p) (upd H p (.lst (vq0 xs lo hi)))
theorem eh0:SlR X (Zr0 X.K):=by
 intro pins s σ H x v vl vu lo hi sl Q I rx hs pl pu h;obtain⟨a,xs,rfl,hx,q⟩:=h;cases rx;obtain⟨its,r,ht,hz⟩:=I.list hx;have F:=r.length;refine⟨"list",_,slot_list_getitem.lookup,ht.isList.typeIs,?_⟩;refine wpAny_getItem_list_slice ht.isList hs pl pu .none (by simp) ?_ (by rw[List.size_toArray]<;>omega);rw[ro0,← F];refine⟨.ref s.heap.objs.size,_,I.laid (t':=s.toks) (o:=.lst (vq0 xs lo hi)) (λb ob q=>A7 _ q) (A4 _) ?_,rfl,q _ (I.hok.fresh (A4 _))⟩;exact⟨C0 (ub0 xs lo hi) hz,_,0,(r.drop (HT.sIx xs.length 0 lo)).take (HT.sIx xs.length xs.length hi - HT.sIx xs.length 0 lo),B7 _ rfl⟩
theorem ob0:CallR X (.builtin "len") (λxs H Q=>∃p ys,xs=[.ref p]/\(SqL X.K H p ys∨SqT X.K H p ys)/\Q (.int ys.length) H):=by
 intro pins s σ H xs us Q I r h;obtain⟨p,ys,rfl,hq,q⟩:=h;obtain⟨u,rfl,rx⟩:=vals1 r;cases rx;have hn:=w70;rcases hq with hq|hq
 ·obtain⟨its,r',pl,hz⟩:=I.list hq
  have F:=r'.length;exact Calls.call_len_list pl.isList (by simp only[List.size_toArray]<;>omega) ⟨.int ys.length,H,I.tok _,⟨s.toks+1,by rw[List.size_toArray,F]⟩,q⟩
 ·obtain⟨its,r',pl,hz⟩:=I.tuple hq
  have F:=r'.length;exact len_tuple pl (by simp only[List.size_toArray]<;>omega) ⟨.int ys.length,H,I.tok _,⟨s.toks+1,by rw[List.size_toArray,F]⟩,q⟩
theorem qx0:CallR X (.builtin "len") (λxs H Q=>∃z,xs=[.str z]/\z.length<=sizeLine/\Q (.int z.length) H):=by
 intro pins s σ H xs us Q I r h;obtain⟨z,rfl,hz,q⟩:=h;obtain⟨u,rfl,t,rfl⟩:=vals1 r;have hn:=w70;exact len_str (by omega) ⟨.int z.length,H,I.tok _,⟨_,rfl⟩,q⟩
theorem CallR.or{f:Value}{r':List V->Hp->VK->Prop}(h:CallR X f r)(h':CallR X f r'):CallR X f (λxs H Q=>r xs H Q∨r' xs H Q):=by
 intro pins s σ H xs us Q I rs q;rcases q with q|q
 ·exact h pins s σ H xs us Q I rs q
 ·exact h' pins s σ H xs us Q I rs q
theorem pl0:CallR X (.type "list") (λxs H Q=>∃p ys,xs=[.ref p]/\(SqL X.K H p ys∨SqT X.K H p ys)/\∀l,H l=none->Q (.ref l) (upd H l (.lst ys))):=by
 intro pins s σ H xs us Q I r h;obtain⟨p,ys,rfl,hq,q⟩:=h;obtain⟨u,rfl,rx⟩:=vals1 r;cases rx;have fin:∀(its:List Value),Vals ys its->ys.length<=sizeLine->∀(h':Heap) (c':Nat),(∀b o',s.heap.get? b=some o'->h'.get? b=some o') ->
   h'.get? s.heap.objs.size=some { cls:=.type "list",dict:=none,data:=.seq its.toArray c',slots:=#[] }->EP X pins σ Q (.ref s.heap.objs.size) { s with heap:=h' }:=λits r' hz h' c' kp e =>
  ⟨.ref s.heap.objs.size,_,I.laid (t':=s.toks) kp (A4 _) (show ObjOk X.prog X.w _ h' _ (.lst ys) from ⟨hz,its,c',r',e⟩),rfl,q _ (I.hok.fresh (A4 _))⟩
 rcases hq with hq|hq
 ·obtain⟨its,r',pl,hz⟩:=I.list hq
  have F:=r'.length;obtain⟨o,ho,hc,n,hd⟩:=pl.isList;exact call_list_seq p (.inl rfl) ho hc hd (λh' c' kp e=>fin its r' hz h' c' kp e) (by simp only[List.size_toArray]<;>omega)
 ·obtain⟨its,r',pl,hz⟩:=I.tuple hq
  have F:=r'.length;obtain⟨o,ho,hc,n,hd⟩:=pl;exact call_list_seq p (.inr rfl) ho hc hd (λh' c' kp e=>fin its r' hz h' c' kp e) (by simp only[List.size_toArray]<;>omega)
theorem V4:CallR X (.type "tuple") (λxs H Q=>∃p ys,xs=[.ref p]/\((SqL X.K H p ys/\∀l,H l=none->Q (.ref l) (upd H l (.tup ys)))∨(SqT X.K H p ys/\Q (.ref p) H))):=by
 intro pins s σ H xs us Q I r h;obtain⟨p,ys,rfl,h⟩:=h;obtain⟨u,rfl,rx⟩:=vals1 r;cases rx;rcases h with⟨hq,q⟩|⟨hq,q⟩
 ·obtain⟨its,r',pl,hz⟩:=I.list hq
  have F:=r'.length;refine call_tuple_list pl.isList (λh' kp=>?_) (by simp only[List.size_toArray]<;>omega);have I1:Inv X pins σ H { s with heap:=h' }:=I.kept (t':=s.toks) kp;have I2:Inv X pins σ (upd H h'.objs.size (.tup ys)) { s with heap:=h'.push { cls:=.type "tuple",data:=.seq its.toArray } } :=
   I1.laid (t':=s.toks) (λb o e=>A7 _ e) (A4 _) (show ObjOk X.prog X.w _ _ _ (.tup ys) from ⟨hz,its,r',IsTupN.new _ _⟩)
  exact⟨.ref h'.objs.size,_,I2,rfl,q _ (I1.hok.fresh (A4 _))⟩
 ·obtain⟨its,r',pl,hz⟩:=I.tuple hq
  exact call_tuple_same pl ⟨.ref p,H,I,rfl,q⟩
def tyV(K:W.Frag)(T:String)(x:V)(H:Hp):Prop:=match x with
 | .str _=>T = "str"
 | .int _=>T = "int"
 | .ref p=>(T = "list"/\∃xs,SqL K H p xs)∨(T = "tuple"/\∃o,K.lookup p=some o/\o.cls=.type "tuple"/\o.dict=none) ∨
   (T = "dict"/\((∃kvs,H p=some (.dK kvs))∨∃kvs,H p=some (.dT kvs)))∨(T = "set"/\∃S n,H p=some (.set S n))
 | _=>False
theorem ks0{σ:St}{s:Shared}{T:String}{x:V}(I:Inv X pins σ H s)(r:RelV x v)(ty:tyV X.K T x H) :
  s.TypeIs v T/\∀a,v=.ref a->∃ob,s.heap.get? a=some ob/\ob.dict=none:=by
 cases x with
 | str z =>
  obtain⟨t,rfl⟩:=r;cases (show T = "str" from ty);exact⟨P4 s z t,λ_ e=>nomatch e⟩
 | int i =>
  obtain⟨t,rfl⟩:=r;cases (show T = "int" from ty);exact⟨N2 s i t,λ_ e=>nomatch e⟩
 | ref p =>
  cases r;rcases ty with⟨rfl,xs,hq⟩|⟨rfl,o,hk,hc,hd⟩|⟨rfl,hk⟩|⟨rfl,S,n,hk⟩
  ·obtain⟨its,_,pl,_⟩:=I.list hq
   refine⟨pl.isList.typeIs,λa e=>?_⟩;cases e;obtain⟨o,n,e,c,hd,_⟩:=pl;exact⟨o,e,hd⟩
  ·refine⟨⟨o,I.kIn p o hk,hc⟩,λa e=>?_⟩
   cases e;exact⟨o,I.kIn _ o hk,hd⟩
  ·have z:∃o,s.heap.get? p=some o/\o.ExactDict:=by
    rcases hk with⟨kvs,hk⟩|⟨kvs,hk⟩
    ·obtain⟨_,_,_,_,o,_,_,e,ex,_⟩:=I.hok p _ hk
     exact⟨o,e,ex⟩
    ·obtain⟨_,_,_,_,o,_,_,e,ex,_⟩:=I.hok p _ hk
     exact⟨o,e,ex⟩
   obtain⟨o,e,ex⟩:=z;refine⟨⟨o,e,ex.1⟩,λa e2=>?_⟩;cases e2;exact⟨o,e,ex.2.1⟩
  ·obtain⟨o,_,_,_,e,ex,_⟩:=I.hok p _ hk
   refine⟨⟨o,e,ex.1⟩,λa e2=>?_⟩;cases e2;exact⟨o,e,ex.2.1⟩
 | _=>exact False.elim ty
def Zu0(K:W.Frag)(T:String)(r:V->List V->Hp->VK->Prop)(to:TE):TE:=fun σ H Q=>to σ H λx H1=>tyV K T x H1/\r x [] H1 Q
def tBM(K:W.Frag)(T:String)(r:V->List V->Hp->VK->Prop)(to:TE)(t:TA):TE:=fun σ H Q=>to σ H λx H1=>tyV K T x H1/\t σ H1 λxs H2=>r x xs H2 Q
variable{to:TE}{t:TA}{T id:String}{r:V->List V->Hp->VK->Prop}
theorem j80(pa:PlainAttrs T)(slot:Slot T name id)(hty:typeOf (.builtin id)=pure (.type "method_descriptor"))(hm:MtR X id r)(ho:PE X o to)
  (hbase:attributeBase o name X.env (eval o X.env)=eval o X.env:=by rfl) (hline:(apos.endLine==cpos.line)=true:=by rfl):PE X (.Call (.Attribute o name apos) [] [] cpos) (Zu0 X.K T r to):=by
 intro pins s σ H Q I h;refine wpAny_Call_method0_late hbase hline (thn (ho pins s σ H _ I h) λv s1 ⟨x,H1,I1,r1,ty,q1⟩=>?_);obtain⟨h1,h2⟩:=ks0 I1 r1 ty;exact⟨T,id,pa,slot,hty,h1,h2,Av0 rfl (PySem.evalArgs_none (hm pins s1 σ H1 x [] v [] Q I1 r1 .nil q1))⟩
theorem f80(pa:PlainAttrs T)(slot:Slot T name id)(hty:typeOf (.builtin id)=pure (.type "method_descriptor"))(hm:MtR X id r)(ho:PE X o to)(ha:PA X (e::es) t)
  (hbase:attributeBase o name X.env (eval o X.env)=eval o X.env:=by rfl)
  (hfew:((backTo cpos (starEach (e::es) X.env)).all (λx=>!x.1)&&(backToKw cpos (keywordEach [] X.env)).all (λx=>x.1.isSome)
  &&decide ((e::es).length+([]:List Keyword).length+(if ([]:List Keyword).isEmpty then 0 else 1)<30))=true:=by rfl)
  (hline:(apos.endLine==cpos.line)=true:=by rfl) (hs:starEach (e::es) X.env=(false,eval e X.env)::starEach es X.env:=by rfl) (hplain:(backTo cpos (starEach es X.env)).any (·.1)=false:=by rfl) :
  PE X (.Call (.Attribute o name apos) (e::es) [] cpos) (tBM X.K T r to t):=by
 intro pins s σ H Q I h;refine wpAny_Call_method_late hbase hfew hline rfl (thn (ho pins s σ H _ I h) λv s1 ⟨x,H1,I1,r1,ty,q1⟩=>?_);obtain⟨h1,h2⟩:=ks0 I1 r1 ty;refine⟨T,id,pa,slot,hty,h1,h2,?_⟩;have hA:=ha cpos pins s1 σ H1 _ I1 q1;rw[hs] at hA ⊢;refine Av0 (by show (false||(backTo cpos (starEach es X.env)).any (·.1))=false;rw[hplain]<;>rfl) (Calls.evalArgs_plain ?_);exact thn hA λus s2 ⟨vs,H2,I2,r2,q2⟩=>hm pins s2 σ H2 x vs v us Q I2 r1 r2 q2
end
def MtM(X:Cx)(id:String)(r:V->List V->Hp->VK->Prop):Prop :=
 ∀(pins:List (Addr×Obj)) (s:Shared) (σ:St) (H:Hp) (x:V) (xs:List V) (v:Value) (us:List Value) (Q:VK),Inv X pins σ H s->RelV x v->Vals xs us->r x xs H Q ->
  wpAny (model X.prog X.w) X.A (call (.builtin id) (v::us)) (EP X pins σ Q) X.xe s
theorem Vals.one:∀{x:V} {us:List Value},Vals [x] us->∃u,us=[u]/\RelV x u
 | _,_,.cons r .nil=>⟨_,rfl,r⟩
theorem Vals.two:∀{x y:V} {us:List Value},Vals [x,y] us->∃u v,us=[u,v]/\RelV x u/\RelV y v
 | _,_,_,.cons r (.cons q .nil)=>⟨_,_,rfl,r,q⟩
theorem Vals.zero:∀{us:List Value},Vals [] us->us=[]
 | _,.nil=>rfl
theorem Vals.dropLast(h:Vals xs us):Vals xs.dropLast us.dropLast:=by
 induction h with
 | nil=>exact .nil
 | cons r t ih =>
  cases t with
  | nil=>exact .nil
  | cons q t'=>exact .cons r ih
theorem Vals.reverse(h:Vals xs us):Vals xs.reverse us.reverse:=by
 induction h with
 | nil=>exact .nil
 | cons r t ih=>rw[List.reverse_cons,List.reverse_cons];exact Vals.append ih (.cons r .nil)
theorem Vals.rep(h:Vals xs us):∀k:Nat,Vals (List.replicate k xs).flatten (List.replicate k us).flatten
 | 0=>.nil
 | k+1=>by
  rw[List.replicate_succ,List.replicate_succ,List.flatten_cons,List.flatten_cons];exact Vals.append h (Vals.rep h k)
theorem l70(l:List α):l.eraseIdx (l.length - 1)=l.dropLast:=by
 induction l with
 | nil=>rfl
 | cons a r ih =>
  cases r with
  | nil=>rfl
  | cons b r =>
   have e:(a::b::r).length - 1=((b::r).length - 1)+1:=by
    have h1:(a::b::r).length=r.length+2:=rfl;have h2:(b::r).length=r.length+1:=rfl;omega
   rw[e,List.eraseIdx_cons_succ,ih]
   all_goals rfl
theorem foldl_rep(its:List Value):∀(k:Nat) (acc:List Value),
  List.foldl (λx1 x2=>x1++x2) acc.toArray (List.replicate k its.toArray)=(acc++(List.replicate k its).flatten).toArray
 | 0,acc=>by simp
 | k+1,acc=>by
  have e:acc.toArray++its.toArray=(acc++its).toArray:=by simp
  have e2:(acc++its)++(List.replicate k its).flatten=acc++(List.replicate (k+1) its).flatten:=by
   rw[List.replicate_succ,List.flatten_cons,List.append_assoc]
  rw[← e2,← foldl_rep its k (acc++its),← e,List.replicate_succ,List.foldl_cons]
section
variable{σ:St}{s:Shared}{l b:Addr}{ys zs:List V}
theorem Inv.lset{its its':List Value}{n:Nat}{f:Array Value->Array Value}{t':Nat}(I:Inv X pins σ H s)(hH:H l=some (.lst xs))
  (e:s.heap.get? l=some { cls:=.type "list",data:=.seq its.toArray n }) (hf:f its.toArray=its'.toArray) (hv:Vals ys its') (hz:ys.length<=sizeLine) :
  Inv X pins σ (upd H l (.lst ys)) { s with heap:=s.heap.update l (Obj.mapSeq f),toks:=t' }:=by
 have q:=PySem.IsL.update e f;rw[hf] at q;refine I.write (x:=l) (e:=l) (by rw[hH];exact trivial) (.inl rfl) (λb' u hb hu=>(w4 s.heap (Obj.mapSeq f) (C6 hb)).trans hu) ⟨_,q⟩ ?_;exact⟨hz,its',_,hv,q⟩
theorem Inv.lnew{t':Nat}(I:Inv X pins σ H s)(hv:Vals ys its)(hz:ys.length<=sizeLine) :
  Inv X pins σ (upd H s.heap.objs.size (.lst ys)) { s with heap:=s.heap.push { cls:=.type "list",data:=.seq its.toArray },toks:=t' } :=
 I.laid (λ_ _ q=>A7 _ q) (A4 _) ⟨hz,its,0,hv,B7 _ rfl⟩
theorem Inv.fresh(I:Inv X pins σ H s):H s.heap.objs.size=none:=I.hok.fresh (A4 _)
theorem Inv.lstM(I:Inv X pins σ H s)(hH:H l=some (.lst xs)):xs.length<=sizeLine/\∃(its:List Value) (n:Nat),Vals xs its/\xs.length=its.length/\s.heap.get? l=some { cls:=.type "list",data:=.seq its.toArray n }:=by
 obtain⟨z,its,n,r,e⟩:=I.hok l _ hH;exact⟨z,its,n,r,r.length,e⟩
end
def e60:V->List V->Hp->VK->Prop:=λx vs H Q=>∃l xs y,x=.ref l/\vs=[y]/\H l=some (.lst xs)/\xs.length<sizeLine/\Q .non (upd H l (.lst (xs++[y])))
theorem re0:MtM X "list.append" e60:=by
 intro pins s σ H x vs v us Q I rx rv h;obtain⟨l,xs,y,rfl,rfl,hH,hz,q⟩:=h;cases rx;obtain⟨u,rfl,ru⟩:=rv.one;obtain⟨z,its,n,r,hl,e⟩:=I.lstM hH;refine U1 F.slot_list_append ⟨_,e,rfl⟩ F.entry_list_append (F.args_list_append_2 _ _) (PySem.list_append l its.toArray n u (by rw[List.size_toArray];omega)) ⟨e,?_⟩;refine⟨.non,_,I.lset (its':=its++[u]) hH e (by simp) (r.append (.cons ru .nil)) ?_,rfl,q⟩;rw[List.length_append,List.length_singleton];omega
def Yb0:V->List V->Hp->VK->Prop:=λx vs H Q=>∃l xs y,x=.ref l/\vs=[]/\H l=some (.lst xs)/\xs[xs.length - 1]?=some y/\Q y (upd H l (.lst xs.dropLast))
theorem cu0:MtM X "list.pop" Yb0:=by
 intro pins s σ H x vs v us Q I rx rv h;obtain⟨l,xs,y,rfl,rfl,hH,hy,q⟩:=h;cases rx;have J:=rv.zero;subst J;obtain⟨z,its,n,r,hl,e⟩:=I.lstM hH;obtain⟨u,hu,ru⟩:=r.get hy;have L:its.toArray[its.toArray.size - 1]?=some u:=by
  show its.toArray[its.length - 1]?=some u;rw[← Array.getElem?_toList,← hl];exact hu
 refine U1 F.slot_list_pop ⟨_,e,rfl⟩ F.entry_list_pop (F.args_list_pop_1 _) (MeetsSeq.list_pop_last l its.toArray n u L (by rw[List.size_toArray];omega)) ⟨e,?_⟩;refine⟨y,_,I.lset (its':=its.dropLast) hH e ?_ r.dropLast ?_,ru,q⟩
 ·show its.toArray.eraseIdxIfInBounds (its.toArray.size - 1)=its.dropLast.toArray
  rw[List.size_toArray,List.eraseIdxIfInBounds_toArray,l70]
 ·rw[List.length_dropLast]
  omega
def cm0:V->List V->Hp->VK->Prop:=λx vs H Q=>∃l xs,x=.ref l/\vs=[]/\H l=some (.lst xs)/\Q .non (upd H l (.lst []))
theorem iz0:MtM X "list.clear" cm0:=by
 intro pins s σ H x vs v us Q I rx rv h;obtain⟨l,xs,rfl,rfl,hH,q⟩:=h;cases rx;have J:=rv.zero;subst J;obtain⟨z,its,n,r,hl,e⟩:=I.lstM hH;refine U1 F.slot_list_clear ⟨_,e,rfl⟩ F.entry_list_clear (F.args_list_clear_1 _) (AutoSeq1.list_clear_list_0 l its.toArray n (by rw[List.size_toArray];omega)) ⟨e,?_⟩;exact⟨.non,_,I.lset (its':=[]) (ys:=[]) hH e rfl .nil (E8 _),rfl,q⟩
theorem len_rep(xs:List α)(k:Nat):(List.replicate k xs).flatten.length=k*xs.length:=by
 induction k with
 | zero=>simp
 | succ k ih=>rw[List.replicate_succ,List.flatten_cons,List.length_append,ih,Nat.succ_mul,Nat.add_comm]
end L2
namespace Att
open PySem.W PySem.Calls PyProof.Rows
theorem t80{P:Params}{h:Heap}:∀(ns:List Int) (vs:List Value),WellAll P h vs (ns.map WData.int)->IntsAre vs ns:=by
 intro ns
 induction ns with
 | nil =>
  intro vs w;rw[List.map_nil] at w;cases w;exact .nil
 | cons n ns ih =>
  intro vs w;rw[List.map_cons] at w;cases w with
  | cons a b =>
   cases a;exact .cons _ _ (ih _ b)
theorem jw0{l:OpenLaw}(hn:l.most=some n){P:Params}{h:Heap}{args:List WData}{vals:List Value}
  (hpre:l.row.toRowW.claim.pre args=true) (hwl:WellAll P h vals args) :
  ∃a vs ns,vals=[Value.ref a]/\args=[WData.list (ns.map WData.int)]/\h.get? a=some { cls:=.type "list",data:=.seq vs.toArray }/\IntsAre vs ns/\ns.length<=n:=by
 have J:WShape.hasAll [] args [.list .int]=true:=(pre_splitW hpre).1;have hc:l.pre.holds [] { args:=args }=true:=(pre_splitW hpre).2;obtain⟨d,r,rfl,h1,h2⟩:=hasAllW_cons J;obtain rfl:=hasAllW_nil h2;obtain⟨xs,rfl,h3⟩:=hasW_list h1;obtain⟨ns,rfl⟩:=items_int h3;have F:ns.length<=n:=by
  unfold OpenLaw.pre at hc;have h4:(WTm.not (.lt (.lit (.int (n:Int))) (.len (.arg 0)))).holds [] { args:=[.list (ns.map .int)] }=true:=by
   have h4:=(holds_andW hc).1;rw[hn] at h4;exact h4
  have h5:=condW_of h4 (w_not (w_lt w_lit (w_len_list (w_arg rfl))));rw[List.length_map] at h5;refine Aw0 λq=>?_
  have q':(n:Int)<((ns.length:Nat):Int):=by omega
  first
   | (rw[decide_eq_true q'] at h5;exact absurd h5 (by decide))
   | (simp at h5;omega)
 cases hwl with
 | cons w1 w2 =>
  cases w2;cases w1 with
  | list ho hall=>exact⟨_,_,ns,rfl,rfl,ho,t80 ns _ hall,F⟩
theorem k50(l:OpenLaw)(args:List WData):l.row.toRowW.claim.post args (.bool true) args=true :=
 postW_of (r:=l.row.toRowW) (X:=(true==true))
  (show WShape.has [] (.bool true) .bool=true by first|rfl|decide|simp[WShape.has,WShape.arms,WShape.armsAll])
  (show (WTm.eq .res (.lit (.bool true))).value [] { args:=args,res:=some (.bool true),after:=args }=some (.bool (true==true)) from w_eq_bool (w_res rfl) w_lit) rfl
theorem nf0{l:OpenLaw}{n:Nat}{q:Program}{loose:List Str}{XP:(Str->Option Value)->Heap->Prop}{YP:World->Heap->Prop}{d:DefRec}
  (hn:l.most=some n) (hdf:d.params.defaults=[])
  (call:∀(w:World) (s₀ s₁:Shared) (mg mb:Str->Option Value) (fa:Addr) (o:Obj) (pm cd doc:Value) (a:Addr) (vs:List Value) (ns:List Int),
   Ground q loose [] XP w s₀ mg mb s₁.heap->YP w s₁.heap ->
   s₁.heap.get? fa=some o->o.data=.func (docDef d.name d.params d.body d.scope pm cd doc)->s₁.heap.CodeRec cd d.name->mg d.name=some (.ref fa) ->
   s₁.heap.get? a=some { cls:=.type "list",data:=.seq vs.toArray }->IntsAre vs ns->ns.length<=n->s₁.gens=#[] ->
   codeAny (model l.prog w) callerA (.call (.ref fa) ⟨[.ref a],[]⟩) (λr s'=>r=.ok (.ret (.bool true))/\OldK s₁.heap s'.heap/\s'.os=s₁.os/\AllBare s'.gens) s₁) :
  WalkO q loose XP YP l.row.toRowW d [] (λf vs=>PySem.call f vs):=by
 intro w s₀ s₁ mg mb G Y fa o pm cd doc dV kV ho hd O hD S hg Z vals as J a0 a2 U a1;obtain rfl:dV=.none:=Dflts.none hD hdf;obtain rfl:kV=.none:=Dflts.noKw hD;obtain⟨a,vs,ns,rfl,rfl,L,F,M⟩:=jw0 hn J U;refine enter_call (q5 (call w s₀ s₁ mg mb fa o pm cd doc a vs ns G Y ho (fd_plain hd) O S L F M hg) λr s' hq=>?_);obtain⟨rfl,h2,h3,h4⟩:=hq;exact⟨.inl ⟨.bool true,.bool true,[],rfl,λ_=>rfl,.bool true,k50 l _,λ_=>⟨List.Pairwise.nil,λ_ hm=>(nomatch hm)⟩⟩,h2,h3,h4⟩
end Att
namespace L2
open Spec PyProof.Rows
theorem sn0:∀{vs:List Value} {ns:List Int},IntsAre vs ns->Vals (ns.map V.int) vs
 | _,_,.nil=>.nil
 | _,_,.cons n t h=>.cons ⟨t,rfl⟩ (sn0 h)
def Only(H:Hp):Prop:=∀b,H b=none∨∃o xs,H b=some (.frz o (.lst xs))
theorem ii0{P:Program}{w:World}{K:W.Frag}{mg mb:Str->Option Value}{CX:CXT}{k:Nat}{fa a:Addr}{fd:FuncData}{x:Str}{sp:Sp}{s₁:Shared}{vs:List Value}{ns:List Int}
  (KX:K.In s₁.heap) (hns:s₁.heap.Ns mainGlobals mg) (hb:s₁.heap.Ns builtinsNs mb) (hbb:∀x:Str,x ≠"__name__"->mb x=bootBuiltins x) (hlim:s₁.heap.NoLimit) (hg:s₁.gens=#[])
  (ha:s₁.heap.get? a=some { cls:=.type "list",data:=.seq vs.toArray }) (hi:IntsAre vs ns) (hl:ns.length<=sizeLine) (hr:Room k callerA)
  (F:∀base:Heap,K.In base->base.Ns mainGlobals mg->FnOk P w K mg base CX k fa fd [x] sp) (hbind:∀(s:Shared) (u:Value),BindsTo s fd ⟨[u],[]⟩ [(x,u)])
  (hsp:∀H:Hp,Only H->SqL K H a (ns.map V.int)->sp [.ref a] H (λv _=>v=.bl true) λ_ _ _=>False)
  (hCX:∀H e s',CX [] H s₁ (λ_ _ _=>False) e s'->False) :
  codeAny (model P w) callerA (.call (.ref fa) ⟨[.ref a],[]⟩) (λr s'=>r=.ok (.ret (.bool true))/\OldK s₁.heap s'.heap/\s'.os=s₁.os/\AllBare s'.gens) s₁:=by
 have rv:=sn0 hi;have U:=hi.length;have M:∀H:Hp,Only H->SqL K H a (ns.map V.int)->HOk P w H s₁.heap->(∀b,H b≠none->b=a)->(H a≠none->K.lookup a=none) ->
   codeAny (model P w) callerA (.call (.ref fa) ⟨[.ref a],[]⟩) (λr s'=>r=.ok (.ret (.bool true))/\OldK s₁.heap s'.heap/\s'.os=s₁.os/\AllBare s'.gens) s₁:=by
  intro H hO hS hok hA hK;have J:∀{b:Addr} {o:Obj},s₁.heap.get? b=some o->H b=none->(wd0 s₁.heap H).get? b=some o:=λe n=>i50 e n
  have Y:∀{b:Addr} {o:Obj} {es:Array DictEntry} {ep:Nat},s₁.heap.get? b=some o->o.data=.dict es ep->H b=none:=λ{b o es ep} e d=>by
   cases q:H b with
   | none=>rfl
   | some u =>
    have e':b=a:=hA b (by rw[q];simp);subst e';rw[ha] at e;cases e;have d':Data.seq vs.toArray _=Data.dict es ep:=d;cases d'
  have L:∀{b:Addr} {m:Str->Option Value},s₁.heap.Ns b m->(wd0 s₁.heap H).Ns b m:=λ{b m} ⟨o,es,ep,e,d,r⟩=>⟨o,es,ep,J e (Y e d),d,r⟩
  have O:K.In (wd0 s₁.heap H):=λb o e=>J (KX b o e) (by
   cases q:H b with
   | none=>rfl
   | some u =>
    have e':b=a:=hA b (by rw[q];simp);subst e';rw[hK (by rw[q];simp)] at e;cases e)
  have hM:Mod K mg (wd0 s₁.heap H):=⟨O,L hns,⟨mb,L hb,hbb⟩,let ⟨mc,h1,h2⟩:=hlim;⟨mc,L h1,h2⟩⟩;have e0:Env0 P w K mg (wd0 s₁.heap H) callerA [] s₁ H:=⟨rfl,hM,λb o e=>ek0 e,P5 (k90 _ _),trivial,λb hb=>absurd (show b∈([]:List Addr) from hb) (by simp),hok,.of_eq hg⟩;refine q5 ((F _ O (L hns)).run callerA [] s₁ H ⟨[.ref a],[]⟩ [.ref a] [.ref a] _ _ hr e0 (hbind s₁ (.ref a)) (.cons rfl .nil) (hsp H hO hS)) λr s' h=>?_
  cases r with
  | error e=>exact(hCX H e s' h).elim
  | ok fl =>
   cases fl with
   | next=>exact False.elim h
   | brk=>exact False.elim h
   | cont=>exact False.elim h
   | ret u =>
    obtain⟨v,H',os,bare,un,S,r',q⟩:=h;have q':v=.bl true:=q;subst q';obtain rfl:u=Value.bool true:=r';refine⟨rfl,OldK.of_keep λb o e=>?_,os,bare⟩;cases q:H b with
    | none=>exact un.keep b o e q (by intro z;exact absurd (show b∈([]:List Addr) from z) (by simp)) (by simp)
    | some u =>
     rcases hO b with z|⟨ob,xs,z⟩
     ·rw[q] at z;cases z
     ·have z2:=un.frzs b ob _ z
      obtain⟨e1,_⟩:=hok b _ z;obtain⟨e2,_⟩:=S b _ z2;rw[e] at e1;cases e1;exact e2
 cases hk:K.lookup a with
 | some o =>
  have e:=KX a o hk;rw[ha] at e;cases e;refine M (λ_=>none) (λ_=>.inl rfl) (.inr ⟨_,vs.toArray,_,hk,rfl,rfl,rfl,by rw[List.size_toArray,U];exact hl,by simpa using rv⟩) (λb u z=>by have z':(none:Option HO)=some u:=z;cases z') (λb z=>absurd rfl z) λz=>absurd rfl z
 | none =>
  refine M (λb=>if b=a then some (.frz { cls:=.type "list",data:=.seq vs.toArray } (.lst (ns.map V.int))) else none) (λb=>?_) (.inl (.inr ⟨{ cls:=.type "list",data:=.seq vs.toArray },if_pos rfl⟩)) (λb u z=>?_) (λb z=>?_) λ_=>hk
  ·by_cases hb:b=a
   ·exact .inr ⟨_,_,if_pos hb⟩
   ·exact .inl (if_neg hb)
  ·by_cases hb:b=a
   ·have z':=(if_pos hb).symm.trans z
    cases z';subst hb;exact⟨ha,by rw[List.length_map];exact hl,vs,_,rv,ha⟩
   ·have z':=(if_neg hb).symm.trans z
    cases z'
  ·by_cases hb:b=a
   ·exact hb
   ·exact absurd (if_neg hb) z
theorem fa0{l:W.OpenLaw}{n k:Nat}{q:Program}{loose:List Str}{XP:(Str->Option Value)->Heap->Prop}{YP:World->Heap->Prop}{d:DefRec}{K:Params->W.Frag}{CX:World->CXT}{sp:World->Sp}{x:Str}
  (hn:l.most=some n) (hn2:n<=sizeLine) (hdf:d.params.defaults=[]) (hr:Room k callerA)
  (hY:∀(w:World) (h:Heap),YP w h->(K w.params).In h)
  (F:∀(w:World) (mg:Str->Option Value) (fa:Addr) (h:Heap),(K w.params).In h->h.Ns mainGlobals mg->mg d.name=some (.ref fa) ->
   ∃fd:FuncData,(∀(s:Shared) (u:Value),BindsTo s fd ⟨[u],[]⟩ [(x,u)]) /\
    ∀base:Heap,(K w.params).In base->base.Ns mainGlobals mg->FnOk l.prog w (K w.params) mg base (CX w) k fa fd [x] (sp w))
  (hsp:∀(w:World) (H:Hp) (a:Addr) (ns:List Int),ns.length<=n->Only H->SqL (K w.params) H a (ns.map V.int)->sp w [.ref a] H (λv _=>v=.bl true) λ_ _ _=>False)
  (hCX:∀(w:World) (H:Hp) (s:Shared) (e:Value) (s':Shared),CX w [] H s (λ_ _ _=>False) e s'->False) :
  W.WalkO q loose XP YP l.row.toRowW d [] (λf vs=>PySem.call f vs):=by
 refine Att.nf0 hn hdf λw s₀ s₁ mg mb fa o pm cd U a vs ns G Y ho hd S O M L J hg=>?_
 have KX:=hY w _ Y;obtain⟨fd,hb,hF⟩:=F w mg fa _ KX G.T.g O;exact ii0 KX G.T.g G.T.b G.T.builtins G.T.nolimit hg M L (C0 J hn2) hr hF hb (λH hO hS=>hsp w H a ns J hO hS) λH e s'=>hCX w H s₁ e s'
theorem ie0{l:W.OpenLaw}{n k:Nat}{q:Program}{loose:List Str}{XP:(Str->Option Value)->Heap->Prop}{YP:World->Heap->Prop}{d:DefRec}{K:Params->W.Frag}{CX:CXT}{sp:W.Frag->Sp}{x:Str}
  (hn:l.most=some n) (hn2:n<=sizeLine) (hdf:d.params.defaults=[]) (hr:Room k callerA)
  (hY:∀(w:World) (h:Heap),YP w h->(K w.params).In h)
  (F:∀(w:World) (mg:Str->Option Value) (fa:Addr) (h:Heap),(K w.params).In h->h.Ns mainGlobals mg->mg d.name=some (.ref fa) ->
   ∃fd:FuncData,(∀(s:Shared) (u:Value),BindsTo s fd ⟨[u],[]⟩ [(x,u)]) /\
    ∀base:Heap,(K w.params).In base->base.Ns mainGlobals mg->FnOk l.prog w (K w.params) mg base CX k fa fd [x] (sp (K w.params)))
  (hsp:∀(K:W.Frag) (H:Hp) (a:Addr) (ns:List Int),ns.length<=n->Only H->SqL K H a (ns.map V.int)->sp K [.ref a] H (λv _=>v=.bl true) λ_ _ _=>False)
  (hCX:∀(H:Hp) (s:Shared) (e:Value) (s':Shared),CX [] H s (λ_ _ _=>False) e s'->False) :
  W.WalkO q loose XP YP l.row.toRowW d [] (λf vs=>PySem.call f vs) :=
 fa0 (K:=K) (CX:=λ_=>CX) (sp:=λw=>sp (K w.params)) hn hn2 hdf hr hY F (λw H a ns h1 h2 h3=>hsp (K w.params) H a ns h1 h2 h3) λ_ H s e s'=>hCX H s e s'
def b8(s:Stmt):Arguments:=match s with
 | .FunctionDef _ a _ _ _ _ _ _ _ _=>a
 | _=>{ posonlyargs:=[],args:=[],vararg:=none,kwonlyargs:=[],kw_defaults:=[],kwarg:=none,defaults:=[] }
def j9(s:Stmt):List Stmt:=match s with
 | .FunctionDef _ _ b _ _ _ _ _ _ _=>b
 | _=>[]
def o4(s:Stmt):Scope:=match s with
 | .FunctionDef _ _ _ _ _ _ sc _ _ _=>sc
 | _=>{ kind:=.function,names:=[],isGenerator:=false,isCoroutine:=false }
abbrev CX0:CXT:=λ_ _ _ _ _ _=>False
abbrev E0:XK:=λ_ _ _=>False
theorem ld0:px0 CX0 X E0:=λ_ _ _ _ _ _ _ h=>h.elim
structure Fun(K:W.Frag)(x qual:Str)(st:Stmt)(f:Addr)(fd:FuncData):Prop where
 ex:∃(oc:Value) (od:Option Addr) (kV doc pm:Value) (an:Option Addr) (cdv ct:Value) (osl:Array (Option Value)),
  fd=W.fnOf x qual (b8 st) (j9 st) (o4 st) .none kV doc pm an cdv ct/\K.lookup f=some ⟨oc,od,.func fd,osl⟩/\W.codeIn K cdv qual=true
 kp:W.keepIn K (.ref f)=true
section
variable{P:Program}{w:World}
theorem Fun.ok{f:Addr}{ps:List Str}{k:Nat}(F:Fun K x qual st f fd)(S:FnScope N ps (o4 st))(len:∀vs H Q E,sp vs H Q E->vs.length=ps.length)
  (hbody:∀(cdv:Value) (A:Around) (outer:List Env) (s:Shared) (H:Hp) (vs:List V) (Q:VK) (E:XK),Room k (A.deeper (envOfC qual (o4 st) s.heap.objs.size f cdv))->sp vs H Q E ->
   ∃t,PSs (vf0 CX0 P w K mg base N qual (o4 st) f cdv A outer s H E).nox (j9 st) t/\t { nx:=λ_ H'=>Q .non H',rt:=Q } (start N vs) H):FnOk P w K mg base CX0 (k+1) f fd ps sp:=by
 obtain⟨oc,od,kV,M,pm,an,cdv,ct,O,rfl,lk,J⟩:=F.ex;refine Ze0 lk J S len λA outer s H vs Q E hr L=>?_
 obtain⟨t,h,q⟩:=hbody cdv A outer s H vs Q E hr L;exact⟨t,h.nox,q⟩
theorem Fun.binds{f:Addr}{ps:List Str}(F:Fun K x qual st f fd)
  (h:∀(kV doc pm:Value) (an:Option Addr) (cdv ct:Value) (us:List Value),us.length=ps.length->bindArgs (W.fnOf x qual (b8 st) (j9 st) (o4 st) .none kV doc pm an cdv ct) ⟨us,[]⟩=pure (ps.zip us)):Binds K fd ps []:=by
 obtain⟨oc,od,kV,doc,pm,an,cdv,ct,L,rfl,lk,J⟩:=F.ex;exact .all (h kV doc pm an cdv ct)
theorem Y9{f:Addr}{oc:Value}{an:Option Addr}{osl:Array (Option Value)}{kV doc pm cdv ct:Value}(l:K.lookup f=some ⟨oc,od,.func (W.fnOf x qual (b8 st) (j9 st) (o4 st) .none kV doc pm an cdv ct),osl⟩)
  (c:W.codeIn K cdv qual=true) (k:W.keepIn K (.ref f)=true):Fun K x qual st f (W.fnOf x qual (b8 st) (j9 st) (o4 st) .none kV doc pm an cdv ct):=⟨⟨oc,od,kV,doc,pm,an,cdv,ct,osl,rfl,l,c⟩,k⟩
end
theorem u20{k:Nat}(hr:Room k A):A.units+1<cLine:=w8 (Nat.add_le_add_left (by decide:1<=64) _) hr.units
def Same(H H':Hp):Prop:=∀b o,H b=some o->H' b=some o
theorem Same.refl(H:Hp):Same H H:=λ_ _ h=>h
theorem Same.trans{H1:Hp}(a:Same H H1)(b:Same H1 H2):Same H H2:=λc o h=>b c o (a c o h)
theorem Same.free(e:Same H H'){l:Addr}(h:H' l=Option.none):H l=Option.none:=by
 cases q:H l with
 | none=>rfl
 | some o =>
  rw[e l o q] at h;cases h
def W9(X:Cx)(scope:Scope)(cl:List (Str×Addr))(N':List Str)(s:Shared)(H:Hp)(ex:List Addr):Cx :=
 { X with N:=N',s₀:=s,H₀:=H,env:=compEnvC scope cl s.heap.objs.size X.env,outer:=X.stack,ex:=ex,fn:=λ_=>false,pn:=[],xe:=λ_ _=>False }
structure CompOk(sc scope:Scope)(N N':List Str)(n:Nat)(caps:List Nat):Prop where
 kind:scope.kind=.function
 nocell:∀y∈scope.names,y.2≠.cell
 loc:∀y∈scope.names,y.2=.local->scope.names.lookup y.1=some .local
 free:∀y∈scope.names,y.2=.free->sc.names.lookup y.1=some .cell∨sc.names.lookup y.1=some .free
 nd:N'.Nodup
 len:N'.length=n+caps.length
 cap:∀k∈List.range caps.length,N'[n+k]?=(caps[k]?).bind (N[·]?)/\(N'[n+k]?).all (λy=>scope.names.lookup y==some .free)=true
def Q0(n:Nat)(caps:List Nat)(σ:St):St:=List.replicate n none++caps.map λj=>(σ[j]?).join
theorem lo0(n:Nat)(caps:List Nat)(σ:St):(Q0 n caps σ).length=n+caps.length:=by simp[Q0]
theorem xb0{env:Env}:∀(names:List (Str×NameKind)),(∀x∈names,x.2=.free->∃c,env.cells.lookup x.1=some c)->∀acc:List (Str×Addr),
  ∃cl:List (Str×Addr),(forIn names acc (λ(x:Str×NameKind) (cs:List (Str×Addr))=>if (x.2==.free)=true then do let a ← cellOf env x.1;pure (ForInStep.yield ((x.1,a)::cs)) else pure (ForInStep.yield cs)):Sem (List (Str×Addr)))=pure cl /\
   (∀y c,cl.lookup y=some c->env.cells.lookup y=some c∨acc.lookup y=some c)/\(∀x∈names,x.2=.free->∃c,cl.lookup x.1=some c)/\(∀y c,acc.lookup y=some c->∃c',cl.lookup y=some c')
 | [],_,acc=>⟨acc,rfl,λ_ _ h=>.inr h,(λ_ h=>nomatch h),λ_ c h=>⟨c,h⟩⟩
 | (n,k)::r,h,acc=>by
  cases hk:(k==NameKind.free) with
  | true =>
   have hk':k=.free:=by simpa using hk
   obtain⟨c,hc⟩:=h (n,k) A5 hk';obtain⟨cl,e,h1,h2,h3⟩:=xb0 r (λx hx=>h x (B9 _ hx)) ((n,c)::acc);refine⟨cl,?_,λy d hy=>?_,λx hx hf=>?_,λy d hy=>?_⟩
   ·rw[List.forIn_cons]
    simp only[hk,if_true,cellOf,hc,pure_bind];exact e
   ·rcases h1 y d hy with z|z
    ·exact .inl z
    ·rw[List.lookup_cons] at z
     cases q:(y==n) with
     | true =>
      rw[q] at z;cases z;have:y=n:=by simpa using q
      subst this;exact .inl hc
     | false =>
      rw[q] at z;exact .inr z
   ·rcases B3.mp hx with rfl|hx
    ·exact h3 n c (by simp[List.lookup_cons])
    ·exact h2 x hx hf
   ·by_cases q:y=n
    ·subst q
     exact h3 y c (by simp[List.lookup_cons])
    ·refine h3 y d ?_
     have:(y==n)=false:=by simpa using q
     rw[List.lookup_cons,this];exact hy
  | false =>
   obtain⟨cl,e,h1,h2,h3⟩:=xb0 r (λx hx=>h x (B9 _ hx)) acc;refine⟨cl,?_,h1,λx hx hf=>?_,h3⟩
   ·rw[List.forIn_cons]
    simp only[hk,Bool.false_eq_true,if_false,pure_bind];exact e
   ·rcases B3.mp hx with rfl|hx
    ·have:k=.free:=hf
     rw[this] at hk;exact absurd hk (by decide)
    ·exact h2 x hx hf
theorem t70{env:Env}(h:∀x∈scope.names,x.2=.free->∃c,env.cells.lookup x.1=some c) :
  ∃cl:List (Str×Addr),closureFor scope env=pure cl/\(∀y c,cl.lookup y=some c->env.cells.lookup y=some c)/\∀x∈scope.names,x.2=.free->∃c,cl.lookup x.1=some c:=by
 obtain⟨cl,e,h1,h2,_⟩:=xb0 scope.names h [];refine⟨cl,?_,λy c hy=>(h1 y c hy).elim id (λz=>nomatch z),h2⟩;simp only[closureFor];rw[← bind_pure (forIn _ _ _)] at e
 first
  | exact e
  | (refine Eq.trans ?_ e;rfl)
theorem y50{env:Env}:∀(names:List (Str×NameKind)) (x:Str),
  (names.map λ(n,k)=>if (k==NameKind.free&&env.scope.kind==.function&&env.kindOf n==some .cell) then (n,NameKind.cell) else (n,k)).lookup x =
   (names.lookup x).map λk=>if (k==NameKind.free&&env.scope.kind==.function&&env.kindOf x==some .cell)=true then NameKind.cell else k
 | [],_=>rfl
 | (n,k)::r,x=>by
  have ih:=@y50 env r x;have l1:List.lookup x (((n,k)::r).map λ(n,k)=>if (k==NameKind.free&&env.scope.kind==.function&&env.kindOf n==some .cell) then (n,NameKind.cell) else (n,k)) =
    List.lookup x ((if (k==NameKind.free&&env.scope.kind==.function&&env.kindOf n==some .cell)=true then (n,NameKind.cell) else (n,k))::r.map λ(n,k)=>if (k==NameKind.free&&env.scope.kind==.function&&env.kindOf n==some .cell) then (n,NameKind.cell) else (n,k)):=rfl
  rw[l1,List.lookup_cons (as:=r)]
  by_cases hc:(k==NameKind.free&&env.scope.kind==.function&&env.kindOf n==some .cell)=true
  ·rw[if_pos hc,List.lookup_cons]
   cases hx:x==n with
   | true =>
    have e:x=n:=by simpa using hx
    subst e;show some NameKind.cell=some (if (k==NameKind.free&&env.scope.kind==.function&&env.kindOf x==some .cell)=true then NameKind.cell else k);rw[if_pos hc]
   | false=>exact ih
  ·rw[if_neg hc,List.lookup_cons]
   cases hx:x==n with
   | true =>
    have e:x=n:=by simpa using hx
    subst e;show some k=some (if (k==NameKind.free&&env.scope.kind==.function&&env.kindOf x==some .cell)=true then NameKind.cell else k);rw[if_neg hc]
   | false=>exact ih
section
variable{w:World}{s:Shared}
theorem o30{elt target iter:Expr}{ifs:List Expr}{scope:Scope}{pos:Pos}{it acc:Value}{env:Env}(I:Nat->Shared->Prop)
  (turn:∀n s,I n s->wpAny (model prog w) A (pyNext it) (λr s₁=>match r with
   | none=>R (.ok .next) s₁
   | some v=>wpAny (model prog w) A (letOwnedTupleGo target it v) (λ_ s₁'=>wpAny (model prog w) A (assign target env v) (λ_ s₂ =>
     wpAny (model prog w) A (forIn ifs true λc r=>if r=true then do let ok ← isTrue c env (eval c env);pure (ForInStep.yield ok) else pure (ForInStep.yield r)) (λok s₃ =>
      if ok=true then wpAny (model prog w) A (eval elt env) (λx s₄ =>
       wpAny (model prog w) A (call (.builtin "list.append") [acc,x]) (λ_ s₅=>∃m,m<n/\I m s₅) (λ_ _=>False) s₄) (λ_ _=>False) s₃
      else ∃m,m<n/\I m s₃) (λ_ _=>False) s₂) (λ_ _=>False) s₁') (λ_ _=>False) s₁) (λ_ _=>False) s)
  (n:Nat) (h:I n s) :
  codeAny (model prog w) A (.compLoop (.ListComp elt [⟨target,iter,ifs,0⟩] scope pos) 0 it acc env) R s:=by
 refine codeAny_loop rfl I (λn s hI=>?_) n h;show wpAny _ A ((compTurn (.ListComp elt [⟨target,iter,ifs,0⟩] scope pos) 0 it acc env).onRaise (λx=>do noteFrame x env;theTreesLotGoes x)) _ _ s;refine wpAny_noted ?_;rw[compTurn_list];refine A0 (p9 (A0 (D2 (turn n s hI) (λr s₁ h₁=>?_) λ_ _ h'=>h'.elim)));cases r with
 | none=>exact A1 h₁
 | some v =>
  refine A0 (D2 h₁ (λ_ s₁' F=>?_) λ_ _ h'=>h'.elim);refine A0 (D2 F (λ_ s₂ h₂=>A0 (D2 h₂ (λok s₃ h₃=>?_) λ_ _ h'=>h'.elim)) λ_ _ h'=>h'.elim);cases ok with
  | false=>exact A1 ⟨rfl,h₃⟩
  | true =>
   exact A0 (A0 (D2 h₃ (λx s₄ h₄=>A0 (D2 h₄ (λ_ s₅ h₅=>A1 (A1 ⟨rfl,h₅⟩)) λ_ _ h'=>h'.elim)) λ_ _ h'=>h'.elim))
end
def PF(X:Cx)(ifs:List Expr)(t:TT):Prop :=
 ∀(pins:List (Addr×Obj)) (s:Shared) (σ:St) (H:Hp) (Q:Bool->Hp->Prop),Inv X pins σ H s->t σ H Q ->
  wpAny (model X.prog X.w) X.A (forIn ifs true λc r=>if r=true then do let ok ← isTrue c X.env (eval c X.env);pure (ForInStep.yield ok) else pure (ForInStep.yield r)) (TP X pins σ Q) X.xe s
theorem dk0:PF X [] λ_ H Q=>Q true H:=λ_ _ _ H _ I h=>wpAny_tests_nil ⟨H,I,h⟩
def Wk(σ σ':St):Prop:=σ'.length=σ.length/\∀(j:Nat) (v:V),σ[j]?=some (some v)->σ'[j]?=some (some v)
def f40(n:Nat)(caps:List Nat)(wi:TI)(g:TG)(tt:TT)(te:TE):TE:=fun σ H Q=>wi σ H λJ H1=>∀D,H1 D=none ->
 ∃W:Nat->Nat->List V->Hp->Prop,(∃m,W 0 m [] (upd H1 D (.lst [])))/\∀i m ys H2,W i m ys H2 ->
  (J.stop i H2/\Q (.ref D) H2)∨(J.go i H2/\∀x H3,J.yld i H2 x H3->g x (Q0 n caps σ) H3 fun σ4 H4=>Wk (Q0 n caps σ) σ4/\tt σ4 H4 λb H5 =>
   if b=true then te σ4 H5 λy H6=>H6 D=some (.lst ys)/\ys.length<sizeLine/\∃m',m'<m/\W (i+1) m' (ys++[y]) (upd H6 D (.lst (ys++[y]))) else ∃m',m'<m/\W (i+1) m' ys H5)
section
variable{wi:TI}{g:TG}{tt:TT}
def Za0(X:Cx)(pins:List (Addr×Obj))(H:Hp)(C:Addr):Prop :=
 H C=none/\C≠X.env.locals/\X.s₀.heap.objs.size<=C/\(∀x c,X.env.cells.lookup x=some c->c≠C)/\∀p∈X.pn++pins,p.1≠C
theorem k80{pins:List (Addr×Obj)}{σ:St}{H2:Hp}{s2:Shared}{it:Addr}{fp:List Addr}{tn:Nat->Heap->Prop}{J:It}{cl:List (Str×Addr)}{Q:VK}{RR:Value->Addr->Result->Shared->Prop}{E:Value->Shared->Prop}
  (hc:X.calm=true) (hsc:X.env.scope=sc) (ok:CompOk sc scope X.N N' n caps)
  (hcl1:∀y c,cl.lookup y=some c->X.env.cells.lookup y=some c) (hcl2:∀x∈scope.names,x.2=.free->∃c,cl.lookup x.1=some c)
  (hg:∀s H ex,PG (W9 X scope cl N' s H ex) tg g) (ht:∀s H ex,PF (W9 X scope cl N' s H ex) ifs tt) (he:∀s H ex,PE (W9 X scope cl N' s H ex) elt te)
  (I2:Inv X pins σ H2 s2) (T:Turn X.prog X.w X.K tg J fp it tn) (st2:tn 0 s2.heap) (f2:∀b∈fp,ym0 X pins H2 b)
  (q:∀D,H2 D=none->∃W:Nat->Nat->List V->Hp->Prop,(∃m,W 0 m [] (upd H2 D (.lst [])))/\∀i m ys H2,W i m ys H2 ->
   (J.stop i H2/\Q (.ref D) H2)∨(J.go i H2/\∀x H3,J.yld i H2 x H3->g x (Q0 n caps σ) H3 fun σ4 H4=>Wk (Q0 n caps σ) σ4/\tt σ4 H4 λb H5 =>
    if b=true then te σ4 H5 λy H6=>H6 D=some (.lst ys)/\ys.length<sizeLine/\∃m',m'<m/\W (i+1) m' (ys++[y]) (upd H6 D (.lst (ys++[y]))) else ∃m',m'<m/\W (i+1) m' ys H5))
  (hend:∀(D C:Addr) (H':Hp) (s':Shared) (m:Str->Option Value),Inv X pins σ H' s'->Za0 X pins H' C->s'.heap.Ns C m->Q (.ref D) H'->RR (.ref D) C (.ok .next) s') :
  wpAny (model X.prog X.w) X.A (newList []) (λacc s₃=>wpAny (model X.prog X.w) X.A (newFunctionEnv scope X.env.globals cl [] X.env.qual none .none (some X.env)) (λcenv s₄ =>
   codeAny (model X.prog X.w) X.A (.compStart (.ListComp elt [⟨tg,iter,ifs,0⟩] scope pos) 0 (.ref it) acc { cenv with scope:=relabel scope X.env }) (RR acc cenv.locals) s₄) E s₃) E s2:=by
 refine H0 (wpAny_newFunctionEnv ok.nocell (by intro y hy;simp at hy) (λh₁ U S=>?_) ok.kind);dsimp only at U S ⊢;obtain⟨D,hD⟩:∃D,D=s2.heap.objs.size:=⟨_,rfl⟩;have I3:Inv X pins σ (upd H2 s2.heap.objs.size (.lst [])) { s2 with heap:=s2.heap.push { cls:=.type "list",data:=.seq ([]:List Value).toArray } }:=I2.lnew (its:=[]) (t':=s2.toks) .nil (E8 _);have b5:H2 s2.heap.objs.size=none:=I2.fresh;obtain⟨W,⟨m0,w0⟩,a5⟩:=q s2.heap.objs.size b5;generalize hs3:({ s2 with heap:=s2.heap.push { cls:=.type "list",data:=.seq ([]:List Value).toArray } }:Shared)=s3 at *;have b0:s2.heap.push { cls:=.type "list",data:=.seq ([]:List Value).toArray }=s3.heap:=by rw[← hs3]
 have g5:s2.toks=s3.toks:=by rw[← hs3]
 rw[b0] at U S ⊢;generalize hH3:upd H2 s2.heap.objs.size (HO.lst [])=H3 at *;rw[← hD] at a5 hH3 b5 ⊢;have M:∀b o,s3.heap.get? b=some o->h₁.get? b=some o:=λb o e=>S.extBut b o (B0 (A6 e)) (A7 _ e)
 have a7:∀b o,s2.heap.get? b=some o->s3.heap.get? b=some o:=λb o e=>by rw[← b0];exact A7 _ e
 have c3:∀b∈fp,b<s3.heap.objs.size:=λb hb=>by
  obtain⟨o,e,_⟩:=T.obj _ _ st2 b hb;exact A6 (a7 b o e)
 have e7:∀b∈fp,b≠D:=λb hb z=>by
  obtain⟨o,e,_⟩:=T.obj _ _ st2 b hb;rw[z,hD] at e;exact absurd (A6 e) (E6 _)
 obtain⟨X',F⟩:∃X',X'=W9 X scope cl N' s3 H3 fp:=⟨_,rfl⟩;have e9:X'.Ok:=by
  subst F;refine⟨I3.ok.mod,ok.kind,I3.ok.glob,I3.ok.blt,A4 _,λx y c h1 h2=>I3.ok.inj x y c (hcl1 x c h1) (hcl1 y c h2),λx hx=>?_,λx c h _=>absurd h (by simp[W9]),I3.ok.hd,I3.ok.frames,.inl rfl,
   λb hb=>⟨B0 (c3 b hb),λx c e=>(f2 b hb).2.2.2.2.1 x c (hcl1 x c e)⟩,λb o e=>I3.bs b o e,C0 I3.ok.bsz I3.sz,λb o e hb=>?_,λb hb hf=>?_,I3.stack,I3.stkFree⟩
  ·have Y:((relabel scope X.env).names.lookup x=some .cell)∨((relabel scope X.env).names.lookup x=some .free):=hx
   have q2:=y50 (env:=X.env) scope.names x;have q3:(relabel scope X.env).names.lookup x=(scope.names.lookup x).map λk=>if (k==NameKind.free&&X.env.scope.kind==.function&&X.env.kindOf x==some .cell)=true then NameKind.cell else k:=q2
   cases e:scope.names.lookup x with
   | none =>
    rw[q3,e] at Y;rcases Y with z|z<;>cases z
   | some k =>
    have hk:k=.free:=by
     rw[q3,e] at Y;have nc:=ok.nocell (x,k) (G0 e);cases k<;>first
      | rfl
      | exact absurd rfl nc
      | (rcases Y with z|z<;>simp at z)
    subst hk;exact hcl2 (x,.free) (G0 e) rfl
  ·rcases (f2 b hb).2.2.2.1 with z|z
   ·exact I3.ok.noex b o e z
   ·exact absurd (C4 (A6 (I3.ok.bs b o e).1) z) (E6 _)
  ·rcases B3.mp (I3.stkSub b hf) with z|z
   ·exact(f2 b hb).2.1 z
   ·exact(f2 b hb).2.2.1 z
 have I4:Inv X' [] (Q0 n caps σ) H3 { s3 with heap:=h₁,toks:=s2.toks+([]:List (Str×Value)).length }:=by
  refine⟨e9,?_,?_,?_,?_,λx c e=>?_,?_,λx c e=>?_,λp hp=>?_,(by subst F;exact I3.hok.kept M),?_⟩
  ·subst F;rfl
  ·exact I3.bare
  ·subst F;exact Un.kept M
  ·subst F
   refine⟨_,U,λi x v e1 e2 e3=>?_⟩;have hi:n<=i:=by
    by_cases hi:i<n
    ·unfold Q0 at e2
     rw[List.getElem?_append_left (by simpa using hi),List.getElem?_replicate,if_pos hi] at e2;cases e2
    ·omega
   obtain⟨k,rfl⟩:∃k,i=n+k:=⟨i - n,by omega⟩;have hk:k<caps.length:=by
    have:=(E1.mp e1).1;have e5:(W9 X scope cl N' s3 H3 fp).N.length=n+caps.length:=ok.len;omega
   obtain⟨c1,c2⟩:=ok.cap k (D9.mpr hk);have b3:N'[n+k]?=some x:=e1;unfold Q0 at e2;rw[List.getElem?_append_right (by simp),List.length_replicate,Nat.add_sub_cancel_left,List.getElem?_map] at e2;obtain⟨j,hj⟩:∃j,caps[k]?=some j:=⟨caps[k],by simp[hk]⟩;rw[hj] at e2 c1;have f3:X.N[j]?=some x:=by rw[← b3,c1];rfl
   have Z:(σ[j]?).join=some v:=B1 e2;have c9:σ[j]?=some (some v):=by
    cases q:σ[j]? with
    | none=>rw[q] at Z;cases Z
    | some o=>rw[q] at Z;rw[show o=some v from Z]
   rw[b3] at c2;have L:scope.names.lookup x=some .free:=by simpa using c2
   have b1:=ok.free (x,.free) (G0 L) rfl;obtain⟨m,hn,hl⟩:=I3.loc;obtain⟨u,ru,l⟩:=hl j x v f3 c9 (by
    rcases b1 with z|z
    ·exact .inr (.inl (by rw[hsc];exact z))
    ·exact .inr (.inr (by rw[hsc];exact z)))
   refine⟨u,ru,.inr ⟨?_,?_⟩⟩
   ·have q3:(relabel scope X.env).names.lookup x=(scope.names.lookup x).map λk=>if (k==NameKind.free&&X.env.scope.kind==.function&&X.env.kindOf x==some .cell)=true then NameKind.cell else k:=y50 scope.names x
    rw[L] at q3;show (relabel scope X.env).names.lookup x=_∨(relabel scope X.env).names.lookup x=_;rw[q3]
    by_cases hcc:(NameKind.free==NameKind.free&&X.env.scope.kind==.function&&X.env.kindOf x==some .cell)=true
    ·left;simp only[Option.map_some,if_pos hcc]
    ·right;simp only[Option.map_some,if_neg hcc]
   ·obtain⟨c',c6⟩:=hcl2 (x,.free) (G0 L) rfl
    rcases l with⟨g3,_⟩|⟨_,c,f0,b2⟩
    ·have a8:X.env.scope.names.lookup x=some .local:=g3
     rw[hsc] at a8;rcases b1 with z|z<;>(rw[a8] at z;cases z)
    ·have:=hcl1 x c' c6
     rw[f0] at this;cases this;obtain⟨o,ho,hd⟩:=b2;exact⟨_,c6,o,M _ o ho,hd⟩
  ·have e':cl.lookup x=some c:=by subst F;exact e
   obtain⟨v,o,ho,hd⟩:=I3.cell x c (hcl1 x c e');exact⟨v,o,M _ o ho,hd⟩
  ·subst F;exact I3.hok.fresh (A4 _)
  ·have e':cl.lookup x=some c:=by subst F;exact e
   exact I3.freeC x c (hcl1 x c e')
  ·subst F;exact absurd hp (by simp[W9])
  ·subst F
   show _=N'.length;rw[lo0,ok.len]
 have a9:X'.calm=true:=by subst F;exact hc
 have O:∀{H':Hp},(∀b∈fp,H' b=none)->∀b∈fp,ym0 X' [] H' b:=λ{H'} hn b hb=>by
  subst F;refine⟨hn b hb,B0 (c3 b hb),λhf=>?_,.inl hb,λx c e=>(f2 b hb).2.2.2.2.1 x c (hcl1 x c e),λp hp=>absurd hp (by simp[W9])⟩;rcases B3.mp (I3.stkSub b hf) with z|z
  ·exact(f2 b hb).2.1 z
  ·exact(f2 b hb).2.2.1 z
 have e6:∀b∈fp,H3 b=none:=λb hb=>by rw[← hH3,Z8 (e7 b hb)];exact(f2 b hb).1
 have c5:tn 0 h₁:=T.keep _ _ _ st2 λb hb o e=>M b o (a7 b o e)
 have a3:∀s4:Shared,s4={ s3 with heap:=h₁,toks:=s2.toks+([]:List (Str×Value)).length } ->
   codeAny (model X.prog X.w) X.A (.compLoop (.ListComp elt [⟨tg,iter,ifs,0⟩] scope pos) 0 (.ref it) (.ref D) X'.env) (RR (.ref D) s3.heap.objs.size) s4:=by
  rintro s4 rfl;refine o30 (λk s'=>∃i ys H',Inv X' [] (Q0 n caps σ) H' s'/\tn i s'.heap/\(∀b∈fp,H' b=none)/\W i k ys H') ?_ m0 ⟨0,[],H3,I4,c5,e6,w0⟩;rintro k s5 ⟨i,ys,H5,I5,c4,b6,w5⟩;have eP:X'.prog=X.prog:=by subst F;rfl
  have ew:X'.w=X.w:=by subst F;rfl
  have eK:X'.K=X.K:=by subst F;rfl
  have eA:X'.A=X.A:=by subst F;rfl
  rcases a5 i k ys H5 w5 with⟨stop,qe⟩|⟨go,step⟩
  ·have T':=T.done X' eP ew eK a9 i [] s5 (Q0 n caps σ) H5 (λ_ _=>False) I5 (O b6) c4 stop
   rw[eA] at T';refine thn T' λr s6 ⟨hr,I6⟩=>?_
   subst hr;have f4:Un (frs X.stack) fp H3 H5 s3.heap s6.heap:=by have:=I6.base;subst F;exact this
   have g2:s6.os=s3.os:=by have:=I6.os;subst F;exact this
   have c8:HOk X.prog X.w H5 s6.heap:=by have:=I6.hok;subst F;exact this
   have IX:Inv X pins σ H5 s6:=I3.call' g2 f4 c8 I6.bare λb hb=>⟨(f2 b hb).2.2.2.1,(f2 b hb).2.1,(f2 b hb).2.2.2.2.1,(f2 b hb).2.2.2.2.2⟩
   obtain⟨m6,f1,_⟩:=I6.loc;have d1:s6.heap.Ns s3.heap.objs.size m6:=by subst F;exact f1
   refine hend D s3.heap.objs.size H5 s6 m6 IX ⟨by have:=I6.free;subst F;exact this,L1 I3.lt,I3.sz,λx c e z=>?_,λp hp z=>?_⟩ d1 qe
   ·obtain⟨v,qc⟩:=I3.cell x c e
    exact absurd (C4 qc.lt (P5 z.symm)) (E6 _)
   ·exact absurd (C4 (A6 (I3.pin p hp).1) (P5 z.symm)) (E6 _)
  ·have T':=T.item X' eP ew eK a9 i [] s5 (Q0 n caps σ) H5 (λ_ _=>False) I5 (O b6) c4 go
   rw[eA] at T';refine thn T' λr s6 ⟨u,hr,h6⟩=>?_
   subst hr;refine thn h6 λ_ s7 ⟨x,H7,I7,r7,y7,a4,f5⟩=>?_
   have g4:=I7.pinned (O f5) (T.obj _ _ a4);have c0:=hg s3 H3 fp;have b4:=ht s3 H3 fp;have c7:=he s3 H3 fp;rw[← F] at c0 b4 c7;have g1:=c0 _ s7 (Q0 n caps σ) H7 x u _ g4 r7 (step x H7 y7);rw[eP,ew,eA] at g1;have a2:X'.xe=λ_ _=>False:=by subst F;rfl
   rw[a2] at g1;refine thn g1 λ_ s8 ⟨σ8,H8,I8,a0,q8⟩=>?_
   have t1:=b4 _ s8 σ8 H8 _ I8 q8;rw[eP,ew,eA,a2] at t1;refine thn t1 λb s9 ⟨H9,I9,q9⟩=>?_
   have back:∀{σa:St} {Ha:Hp} {sa:Shared} {a6:List V} {ma:Nat},Inv X' ([]++v50 fp s7.heap) σa Ha sa->σa.length=(Q0 n caps σ).length->(∀(j:Nat) v,(Q0 n caps σ)[j]?=some (some v)->σa[j]?=some (some v))->W (i+1) ma a6 Ha ->
     ∃i ys H',Inv X' [] (Q0 n caps σ) H' sa/\tn i sa.heap/\(∀b∈fp,H' b=none)/\W i ma ys H':=λ{σa Ha sa a6 ma} Ia hl hw wa=>by
    refine⟨i+1,a6,Ha,(Ia.weak hl.symm hw).unpinned,T.keep _ _ _ a4 λb hb o e=>(Ia.pin (b,o) (C8 _ (C8 _ (yd0 hb e)))).1,λb hb=>?_,wa⟩;obtain⟨o,e,d⟩:=T.obj _ _ a4 b hb;exact(Ia.pin (b,o) (C8 _ (C8 _ (yd0 hb e)))).2.1
   cases b with
   | false =>
    rw[if_neg B4];rw[if_neg B4] at q9;obtain⟨m',hm,w9⟩:=q9;exact⟨m',hm,back I9 a0.1 a0.2 w9⟩
   | true =>
    rw[if_pos rfl];rw[if_pos rfl] at q9;have e1:=c7 _ s9 σ8 H9 _ I9 q9;rw[eP,ew,eA,a2] at e1;refine thn e1 λv e4 ⟨y,f9,f7,e8,d2,d0,m',hm,e0⟩=>?_
    have a1:=re0 (X:=X') _ e4 σ8 f9 (.ref D) [y] (.ref D) [v] (λ_ H'=>W (i+1) m' (ys++[y]) H') f7 rfl (.cons e8 .nil) ⟨D,ys,y,rfl,rfl,d2,d0,e0⟩;rw[eP,ew,eA,a2] at a1;refine thn a1 λ_ g6 ⟨_,g7,f6,_,f8⟩=>?_
    exact⟨m',hm,back f6 a0.1 a0.2 f8⟩
 subst F;exact codeAny_compStart_list (a3 _ (by rw[← hs3])) (T.self X.A 0 _ _ _ c5 (a3 _ (by rw[← hs3])))
theorem fv0(hc:X.calm=true)(hsc:X.env.scope=sc)(ok:CompOk sc scope X.N N' n caps)(hi:PI X tg iter wi)
  (hg:∀cl s H ex,PG (W9 X scope cl N' s H ex) tg g) (ht:∀cl s H ex,PF (W9 X scope cl N' s H ex) ifs tt) (he:∀cl s H ex,PE (W9 X scope cl N' s H ex) elt te)
  (hs:∀x,foldedSetIterable iter X.env x=pure x:=by intro _;rfl) :
  PE X (.ListComp elt [⟨tg,iter,ifs,0⟩] scope pos) (f40 n caps wi g tt te):=by
 intro pins s σ H Q I h;obtain⟨cl,F,L,M⟩:=t70 (env:=X.env) (scope:=scope) λx hx hf=>I.ok.has x.1 (by
  rcases ok.free x hx hf with z|z
  ·exact .inl (by show X.env.scope.names.lookup x.1=_;rw[hsc];exact z)
  ·exact .inr (by show X.env.scope.names.lookup x.1=_;rw[hsc];exact z))
 rw[eval_ListComp];refine wpAny_comprehension_free (use:=none) rfl hs F ok.kind ok.loc (thn (hi pins s σ H _ I h) λv s1 h1=>thn h1 λU s2 h2=>?_);obtain⟨it,fp,tn,J,H2,rfl,I2,T,O,f2,q2⟩:=h2;refine k80 (Q:=Q) (RR:=λS C=>compPost (model X.prog X.w) X.A X.xe none (EP X pins σ Q) S C) hc hsc ok L M (hg cl) (ht cl) (he cl) I2 T O f2 q2 ?_;intro D C H' s' m IX as hn qe;refine⟨m,hn,λh' sb=>⟨.ref D,H',IX.turned (t':=s'.toks) (λb o hb e=>(sb.2 b hb).trans e) as.1 as.2.1 (.inr as.2.2.1) as.2.2.2.1 as.2.2.2.2,rfl,qe⟩⟩
end
end L2
namespace DL
open Spec PyProof.Rows
inductive D where
 | non|bl (b:Bool)|int (i:Int)|str (x:Str)|tup (ds:List D)|lst (ds:List D)|dct (ks:Sum (List (Sum Int Str)) (List (List (Sum Int Str)))) (ds:List D)|fn (ks:List (Sum Int Str)) (ds:List D)
 deriving Inhabited
variable{l ds:List DL.D}
@[simp] def unl:D->D
 | .tup [_,d]=>d
 | d=>d
@[simp] def isL:D->Bool
 | .tup _=>true
 | _=>false
inductive Sl where
 | un|sh (d:D)|ow (d:D)
 | ex (c:Str) (n:Option Int)
abbrev Ds:=List Sl
inductive Res where
 | nx (δ:Ds)|rt (d:D)|bk (δ:Ds)|ct (δ:Ds)|rf (d:D)
variable{g ge gb:DL.Ds->Option DL.D}{δ δ':DL.Ds}{gi gA:DL.Ds->Option (List DL.D)}{gt:DL.Ds->Option Bool}
abbrev GE:=Ds->Option D
abbrev GB:=Ds->Option Bool
variable{g0:DL.GE}
abbrev GA:=Ds->Option (List D)
abbrev GS:=Ds->Option Res
@[simp] def asB:D->Option Bool
 | .bl b=>some b
 | _=>none
variable{G:DL.GS}
@[simp] def asI:D->Option Int
 | .int i=>some i
 | _=>none
@[simp] def gv(i:Nat):GE:=fun δ=>match δ[i]? with
 | some (.sh d)=>some d
 | _=>none
@[simp] def gc(d:D):GE:=λ_=>some d
@[simp] def o2(ga gb:GE)(f:D->D->Option D):GE:=fun δ=>(ga δ).bind λx=>(gb δ).bind λy=>f x y
@[simp] def ob(g:GE):GB:=fun δ=>(g δ).bind asB
@[simp] def z70(g:GB):GB:=fun δ=>(g δ).map (!·)
@[simp] def K4(gt gu:GB):GB:=fun δ=>(gt δ).bind λt=>if t=true then gu δ else some false
@[simp] def yz0(gt gu:GB):GB:=fun δ=>(gt δ).bind λt=>if t=true then some true else gu δ
@[simp] def vm0(ga gb:GE):GE:=fun δ=>(ob ga δ).bind λt=>if t=true then gb δ else some (.bl false)
@[simp] def v8:GA:=λ_=>some []
@[simp] def z9(g:GE)(gA:GA):GA:=fun δ=>(g δ).bind λd=>(gA δ).map λds=>d::ds
@[simp] def Z2(gA:GA):GE:=fun δ=>(gA δ).bind λds=>if ds.length<=sizeLine then some (.tup ds) else none
@[simp] def X5(gA:GA):GE:=fun δ=>(gA δ).bind λds=>if ds.length<=sizeLine then some (.lst ds) else none
@[simp] def oA(gA:GA)(f:List D->Option D):GE:=fun δ=>(gA δ).bind f
@[simp] def Q5(f:D->Bool)(g:GE):GE:=fun δ=>(g δ).map λd=>.bl (f d)
@[simp] def y30(d:D):Option D:=match d with
 | .int i=>some (.int (-i))
 | _=>none
@[simp] def unG(f:D->Option D)(g:GE):GE:=fun δ=>(g δ).bind f
@[simp] def v9(G1 G2:GS):GS:=fun δ=>match G1 δ with
 | some (.nx δ')=>G2 δ'
 | r=>r
@[simp] def p8:GS:=fun δ=>some (.nx δ)
@[simp] def d9(g:GE):GS:=fun δ=>(g δ).map .rt
@[simp] def gN(i:Nat):D->Ds->Option Ds:=λd δ=>some (δ.set i (.sh d))
@[simp] def m7(f:D->Ds->Option Ds)(g:GE):GS:=fun δ=>(g δ).bind λd=>(f d δ).map .nx
@[simp] def ifD(gt:GB)(Ga Gb:GS):GS:=fun δ=>(gt δ).bind λt=>if t=true then Ga δ else Gb δ
def V7(f:D->Ds->Option Ds)(G:GS):List D->Ds->Option Res
 | [],δ=>some (.nx δ)
 | d::ds,δ=>match (f d δ).bind G with
  | some (.nx δ')=>V7 f G ds δ'
  | some (.ct δ')=>V7 f G ds δ'
  | some (.bk δ')=>some (.nx δ')
  | r=>r
@[simp] def R7(gi:GA)(f:D->Ds->Option Ds)(G:GS):GS:=fun δ=>(gi δ).bind λitems=>V7 f G items δ
@[simp] def gy0:D->Option (List D)
 | .lst ds=>some ds
 | _=>none
@[simp] def gu0:D->Option (List D)
 | .tup ds=>some ds
 | _=>none
@[simp] def xg0(g:GE):GA:=fun δ=>(g δ).bind gy0
@[simp] def tupI(g:GE):GA:=fun δ=>(g δ).bind gu0
def W4(lo hi:Int):List D:=(List.range (hi - lo).toNat).map λk=>.int (lo+(k:Nat))
@[simp] def mi0(ds:List D):Option (List D):=match ds with
 | [.int j]=>if -(2 ^ 62)<=j/\j<2 ^ 62 then some (W4 0 j) else none
 | _=>none
@[simp] def gn0(ds:List D):Option (List D):=match ds with
 | [.int i,.int j]=>if (-(2 ^ 62)<=i/\i<2 ^ 62)/\-(2 ^ 62)<=j/\j<2 ^ 62 then some (W4 i j) else none
 | _=>none
@[simp] def S5(gA:GA):GA:=fun δ=>(gA δ).bind mi0
@[simp] def lh0(gA:GA):GA:=fun δ=>(gA δ).bind gn0
@[simp] def noT:GB:=λ_=>some true
@[simp] def qb0:Option Sl->Sl
 | some (.sh d)=>.sh d
 | _=>.un
@[simp] def zd0(n:Nat)(caps:List Nat)(δ:Ds):Ds:=List.replicate n .un++caps.map λj=>qb0 δ[j]?
def Q8(f:D->Ds->Option Ds)(gt:GB)(ge:GE)(δ:Ds):List D->Option (List D)
 | []=>some []
 | d::ds=>match f d δ with
  | none=>none
  | some δ'=>match gt δ' with
   | none=>none
   | some false=>Q8 f gt ge δ ds
   | some true=>match ge δ' with
    | none=>none
    | some y=>(Q8 f gt ge δ ds).map λr=>y::r
@[simp] def R4(n:Nat)(caps:List Nat)(gi:GA)(f:D->Ds->Option Ds)(gt:GB)(ge:GE):GE :=
 fun δ=>(gi δ).bind λitems=>if items.length<=sizeLine then (Q8 f gt ge (zd0 n caps δ) items).map .lst else none
@[simp] def X3(N:List Str)(ds:List D):Ds:=ds.map .sh++List.replicate (N.length - ds.length) .un
@[simp] def isInt:D->Bool
 | .int _=>true|.bl _=>true|_=>false
@[simp] def isBool:D->Bool
 | .bl _=>true|_=>false
@[simp] def isTup:D->Bool
 | .tup _=>true|_=>false
@[simp] def l40:D->Bool
 | .lst _=>true|_=>false
@[simp] def ii(f:Int->Int->Option D):D->D->Option D
 | .int i,.int j=>f i j
 | _,_=>none
@[simp] def iy0:D->D->Option D:=ii λi j=>some (.int (i - j))
@[simp] def b7:D->D->Option D:=ii λi j=>if 0<j/\j<1073741824 then some (.int (i/j)) else none
@[simp] def m8:D->D->Option D:=ii λi j=>if 0<j then some (.int (i%j)) else none
@[simp] def o50:D->D->Option D:=ii λi j=>if 0<=j/\j<=1000000/\i.natAbs<2 ^ 64 then some (.int (i ^ j.toNat)) else none
@[simp] def ltD:D->D->Option D:=ii λi j=>some (.bl (decide (i<j)))
@[simp] def gtD:D->D->Option D:=ii λi j=>some (.bl (decide (j<i)))
@[simp] def eqS:D->D->Option Bool
 | .non,.non=>some true
 | .non,.int _=>some false|.int _,.non=>some false|.non,.bl _=>some false|.bl _,.non=>some false|.non,.str _=>some false|.str _,.non=>some false
 | .int i,.int j=>some (decide (i=j))
 | .bl i,.bl j=>some (decide (i=j))
 | .str i,.str j=>some (decide (i=j))
 | .int _,.str _=>some false|.str _,.int _=>some false|.bl _,.str _=>some false|.str _,.bl _=>some false
 | _,_=>none
@[simp] def eqD(x y:D):Option D:=(eqS x y).map .bl
@[simp] def neD(x y:D):Option D:=(eqS x y).map λb=>.bl (!b)
@[simp] def am0:D->Bool
 | .non=>true|_=>false
@[simp] def qm0(x y:D):Option D:=match y with
 | .non=>some (.bl (am0 x))
 | _=>none
def ixN(n:Nat)(i:Int):Option Nat:=if 0<=i then (if i<n then some i.toNat else none) else if -(n:Int)<=i then some (i+n).toNat else none
def atI{α:Type}(xs:List α)(i:Int):Option α:=(ixN xs.length i).bind λj=>xs[j]?
@[simp] def ixD:D->D->Option D
 | .lst xs,.int i=>atI xs i
 | .tup xs,.int i=>atI xs i
 | .str z,.int i=>if z.length<=sizeLine then (atI z.cps.toList i).map λc=>.str ⟨#[c]⟩ else none
 | _,_=>none
def sIx(n d:Nat):Option Int->Nat
 | none=>d
 | some v=>if v<0 then (v+(n:Int)).toNat else min v.toNat n
def cutD(xs:List D)(lo hi:Option Int):List D:=(xs.drop (sIx xs.length 0 lo)).take (sIx xs.length xs.length hi - sIx xs.length 0 lo)
abbrev GO:=Ds->Option (Option Int)
@[simp] def M7:GO:=λ_=>some none
@[simp] def someO(g:GE):GO:=fun δ=>(g δ).bind λd=>(asI d).map some
@[simp] def W0:List D->Option D
 | [.str z]=>if z.length<=sizeLine then some (.int z.length) else none
 | [.lst xs]=>some (.int xs.length)
 | [.tup xs]=>some (.int xs.length)
 | _=>none
def v10:List D->Option (List Str)
 | []=>some []
 | .str b::ds=>(v10 ds).map λr=>b::r
 | _=>none
@[simp] def q40(d:D)(ds:List D):Option D:=match d,ds with
 | .str sep,[.lst xs]=>(v10 xs).bind λys=>if (ys.map (·.length)).sum+ys.length*sep.length<=16777216 then some (.str (Txt.join sep ys)) else none
 | _,_=>none
@[simp] def vw0(g:GE)(gA:GA):GE:=fun δ=>(g δ).bind λd=>(gA δ).bind λds=>q40 d ds
@[simp] def Q6:List D->Option D
 | [.lst ds]=>some (.tup ds)
 | [.tup ds]=>some (.tup ds)
 | _=>none
theorem wz0{f:D->Ds->Option Ds}{gt:GB}{ge:GE}(p:D->Bool)(h:D->D):∀{items:List D},(∀d∈items,∃δ',f d δ=some δ'/\gt δ'=some (p d)/\(p d=true->ge δ'=some (h d))) ->
  Q8 f gt ge δ items=some ((items.filter p).map h)
 | [],_=>rfl
 | d::ds,H=>by
  obtain⟨δ',e1,e2,e3⟩:=H d A5;have ih:=wz0 p h λd hd=>H d (B9 _ hd)
  unfold Q8;rw[e1];dsimp only;rw[e2];cases hp:p d with
  | false =>
   dsimp only;rw[List.filter_cons_of_neg (by simp[hp])];exact ih
  | true =>
   dsimp only;rw[e3 hp,ih,List.filter_cons_of_pos hp];rfl
theorem z20{f:D->Ds->Option Ds}{gt:GB}{ge:GE}(h:D->D){items:List D}(H:∀d∈items,∃δ',f d δ=some δ'/\gt δ'=some true/\ge δ'=some (h d)):Q8 f gt ge δ items=some (items.map h):=by
 have:=wz0 (f:=f) (gt:=gt) (ge:=ge) (δ:=δ) (λ_=>true) h (items:=items) λd hd=>by
  obtain⟨δ',a,b,c⟩:=H d hd;exact⟨δ',a,b,λ_=>c⟩
 rw[List.filter_eq_self.mpr (by simp)] at this;exact this
theorem strs_map(h:α->Str):∀l:List α,v10 (l.map λa=>.str (h a))=some (l.map h)
 | []=>rfl
 | a::l=>by
  show (v10 (l.map λa=>.str (h a))).map (λr=>h a::r)=_;rw[strs_map h l];rfl
theorem O8{f:D->Ds->Option Ds}(P:Nat->Ds->Prop):∀(items:List D) (i:Nat) (δ:Ds),(∀j d δ,items[j]?=some d->P (i+j) δ->∃δ1 δ2,f d δ=some δ1/\G δ1=some (.nx δ2)/\P (i+j+1) δ2)->P i δ ->
  ∃δ',V7 f G items δ=some (.nx δ')/\P (i+items.length) δ'
 | [],i,δ,_,h=>⟨δ,rfl,h⟩
 | d::ds,i,δ,H,h=>by
  obtain⟨δ1,δ2,e1,e2,h2⟩:=H 0 d δ rfl h;obtain⟨δ',e3,h3⟩:=O8 P ds (i+1) δ2 (λj d δ hj hp=>by
   have q:i+(j+1)=i+1+j:=by omega
   obtain⟨a,b,c,d',e⟩:=H (j+1) d δ (by simpa using hj) (by rw[q];exact hp);exact⟨a,b,c,d',by rw[q] at e;exact e⟩) h2
  have q:i+(d::ds).length=i+1+ds.length:=by rw[List.length_cons];omega
  refine⟨δ',?_,by rw[q];exact h3⟩;unfold V7;rw[e1];simp only[Option.bind_some,e2];exact e3
theorem cr0{G1 G2:GS}(h:G1 δ=some (.nx δ')):v9 G1 G2 δ=G2 δ':=by unfold v9;rw[h]
theorem n8{G1 G2:GS}{d:D}(h:G1 δ=some (.rt d)):v9 G1 G2 δ=some (.rt d):=by unfold v9;rw[h]
theorem Z7{g:GE}{d:D}(h:g δ=some d):d9 g δ=some (.rt d):=by unfold d9;rw[h];rfl
theorem j4{g:GE}{d:D}(h:g δ=some d):m7 (gN i) g δ=some (.nx (δ.set i (.sh d))):=by unfold m7;rw[h];rfl
theorem U4{g:GB}{Ga Gb:GS}(h:g δ=some true):ifD g Ga Gb δ=Ga δ:=by unfold ifD;rw[h];rfl
theorem Z4{g:GB}{Ga Gb:GS}(h:g δ=some false):ifD g Ga Gb δ=Gb δ:=by unfold ifD;rw[h];rfl
theorem O4{gi:GA}{f:D->Ds->Option Ds}{gt:GB}{ge:GE}{items out:List D}(h1:gi δ=some items)(h2:items.length<=sizeLine)(h3:Q8 f gt ge (zd0 n caps δ) items=some out):R4 n caps gi f gt ge δ=some (.lst out):=by
 unfold R4;rw[h1];show (if items.length<=sizeLine then (Q8 f gt ge (zd0 n caps δ) items).map D.lst else none)=_;rw[if_pos h2,h3];rfl
theorem O7{gi:GA}{f:D->Ds->Option Ds}{items:List D}{r:Option Res}(h1:gi δ=some items)(h2:V7 f G items δ=r):R7 gi f G δ=r:=by
 unfold R7;rw[h1];exact h2
theorem cons_of{g:GE}{gA:GA}{d:D}(h1:g δ=some d)(h2:gA δ=some ds):z9 g gA δ=some (d::ds):=by unfold z9;rw[h1,h2];rfl
theorem m5{gA:GA}{f:List D->Option D}(h:gA δ=some ds):oA gA f δ=f ds:=by unfold oA;rw[h];rfl
theorem o5{ga gb:GE}{x y:D}{f:D->D->Option D}(h1:ga δ=some x)(h2:gb δ=some y):o2 ga gb f δ=f x y:=by unfold o2;rw[h1,h2];rfl
theorem ec0{g:GE}{gA:GA}{x:D}(h1:g δ=some x)(h2:gA δ=some ds):vw0 g gA δ=q40 x ds:=by unfold vw0;rw[h1,h2];rfl
theorem op0{f:D->Ds->Option Ds}{d:D}{δ1 δ2:Ds}(h1:f d δ=some δ1)(h2:G δ1=some (.nx δ2)):V7 f G (d::ds) δ=V7 f G ds δ2:=by
 conv=>lhs;unfold V7
 rw[h1];simp only[Option.bind_some,h2]
theorem J2{xs:List α}{i:Int}(h0:0<=i)(h1:i<xs.length)(d:α):atI xs i=some (xs.getD i.toNat d):=by
 unfold atI ixN;rw[if_pos h0,if_pos h1];show xs[i.toNat]?=_;have:i.toNat<xs.length:=by omega
 simp[List.getD_eq_getElem?_getD,this]
end DL
variable{g ge gb:DL.Ds->Option DL.D}{l ds:List DL.D}{δ δ':DL.Ds}{G:DL.GS}{gi gA:DL.Ds->Option (List DL.D)}{gt:DL.Ds->Option Bool}{g0:DL.GE}
namespace DL
open Spec PyProof.Rows L2
abbrev BS:=Addr->Prop
abbrev St:=L2.St
variable{B B' B₀:DL.BS}
abbrev noH:Hp:=λ_=>none
structure NB(o:Option HO):Prop where
 ne:o≠none
 nf:∀ob u,o≠some (.frz ob u)
 nt:∀xs,o≠some (.tup xs)
instance{o:Option HO}:CoeFun (NB o) (λ_=>o=none->False):=⟨λh e=>h.ne e⟩
theorem NB.of{o:Option HO}{u:HO}(h:o=some u)(n:∀ob u',u≠.frz ob u')(t:∀xs,u≠.tup xs):NB o:=by
 subst h;exact⟨λz=>(by cases z),λob u' z=>n ob u' (B1 z),λxs z=>t xs (B1 z)⟩
theorem NB.same(q:Same H H')(h:NB (H a)):NB (H' a):=by
 cases e:H a with
 | none=>exact absurd e h.ne
 | some o=>exact .of (q a o e) (λob u z=>h.nf ob u (by rw[e,z])) λxs z=>h.nt xs (by rw[e,z])
def SqT'(K:W.Frag)(H:Hp)(B:BS)(a:Addr)(xs:List V):Prop:=¬B a/\H a=some (.tup xs)
def SqL'(K:W.Frag)(H:Hp)(B:BS)(a:Addr)(xs:List V):Prop:=(¬B a/\Rd H a (.lst xs))∨SqL K noH a xs
theorem Zg0{u:HO}(h:Rd noH a u):False:=by
 rcases h with h|⟨o,h⟩<;>cases h
theorem SqT'.to(h:SqT' K H B a xs):SqT K H a xs:=.inl (.inl h.2)
theorem SqL'.to(h:SqL' K H B a xs):SqL K H a xs:=by
 rcases h with h|h|h
 ·exact .inl h.2
 ·exact(Zg0 h).elim
 ·exact .inr h
def Gr(H H':Hp)(B B':BS):Prop:=∀b o,¬B b->H b=some o->¬B' b/\H' b=some o
theorem SqT'.mono(g:Gr H H' B B')(h:SqT' K H B a xs):SqT' K H' B' a xs:=g _ _ h.1 h.2
theorem SqL'.mono(g:Gr H H' B B')(h:SqL' K H B a xs):SqL' K H' B' a xs:=by
 rcases h with⟨n,h|⟨o,h⟩⟩|h
 ·exact .inl ⟨(g _ _ n h).1,.inl (g _ _ n h).2⟩
 ·exact .inl ⟨(g _ _ n h).1,.inr ⟨o,(g _ _ n h).2⟩⟩
 ·exact .inr h
theorem Gr.same(s:Same H H'):Gr H H' B B:=λb o n h=>⟨n,s b o h⟩
theorem Gr.less(h:∀a,B' a->B a):Gr H H B B':=λb o n e=>⟨λz=>n (h b z),e⟩
abbrev KS:=Sum (List Key) (List (List Key))
def dOb:KS->List V->HO
 | .inl ks,xs=>.dK (ks.zip xs)
 | .inr ks,xs=>.dT (ks.zip xs)
def dLn:KS->Nat
 | .inl ks=>ks.length
 | .inr ks=>ks.length
def af0(fd:FuncData)(x y:Str)(c cd:Addr):Prop :=
 ∃p1 p2 p3,fd.body=.expr (.Subscript (.Name x p1) (.Name y p2) p3)/\fd.scope.isCoroutine=false/\fd.scope.isGenerator=false/\fd.scope.kind=.function/\fd.scope.names.lookup y=some .local/\fd.scope.names.lookup x=some .free /\
  (∀z∈fd.scope.names,z.2≠.cell)/\fd.closure=[(x,c)]/\fd.code=.ref cd/\fd.globals=mainGlobals/\(x==("__debug__" : Str))=false/\(x==("__classdict__" : Str))=false/\(y==("__debug__" : Str))=false /\
  ∀u:Value,bindArgs fd ⟨[u],[]⟩=pure [(y,u)]
def rk(n:Nat):List Key:=(List.range n).map λ(i:Nat)=>Sum.inl (i:Int)
def TelO(K:W.Frag)(H:Hp)(B:BS)(p:Addr)(kvs:List (Key×V)):Prop:=(¬B p/\H p=some (.dK kvs))∨∃xs,SqL' K H B p xs/\kvs=(rk xs.length).zip xs
theorem TelO.mono{p:Addr}{kvs:List (Key×V)}(g:Gr H H' B B')(h:TelO K H B p kvs):TelO K H' B' p kvs:=by
 rcases h with h|⟨xs,h,e⟩
 ·exact .inl (g _ _ h.1 h.2)
 ·exact .inr ⟨xs,h.mono g,e⟩
def FnAtH(K:W.Frag)(H:Hp)(B:BS)(f:Addr)(kvs:List (Key×V)):Prop :=
 ∃(oF oC oK:Obj) (fd:FuncData) (c cd p:Addr) (x y:Str),(¬B f/\H f=some (.frz oF (.own f)))/\(oF.cls=.type "function"/\oF.data=.func fd/\af0 fd x y c cd)/\(¬B c/\H c=some (.frz oC (.own c)))/\oC.data=.cell (some (.ref p)) /\
  (¬B cd/\H cd=some (.frz oK (.own cd)))/\(∃vs t,oK.data=.fields vs/\vs[1]?=some (.str fd.qualname t))/\TelO K H B p kvs
theorem FnAtH.mono{f:Addr}{kvs:List (Key×V)}(g:Gr H H' B B')(h:FnAtH K H B f kvs):FnAtH K H' B' f kvs:=by
 obtain⟨oF,oC,oK,fd,c,cd,p,x,y,⟨b1,h1⟩,a,⟨b2,h2⟩,e,⟨b3,h3⟩,q,h4⟩:=h;exact⟨oF,oC,oK,fd,c,cd,p,x,y,g _ _ b1 h1,a,g _ _ b2 h2,e,g _ _ b3 h3,q,h4.mono g⟩
mutual
def Rp(K:W.Frag)(H:Hp)(B:BS):D->V->Prop
 | .non,v=>v=.non
 | .bl b,v=>v=.bl b
 | .int i,v=>v=.int i
 | .str x,v=>v=.str x
 | .tup ds,v=>∃a xs,v=.ref a/\SqT' K H B a xs/\Rps K H B ds xs
 | .lst ds,v=>∃a xs,v=.ref a/\SqL' K H B a xs/\Rps K H B ds xs
 | .dct ks ds,v=>∃a xs,v=.ref a/\¬B a/\H a=some (dOb ks xs)/\dLn ks=xs.length/\Rps K H B ds xs
 | .fn ks ds,v=>∃a xs,v=.ref a/\FnAtH K H B a (ks.zip xs)/\ks.length=xs.length/\Rps K H B ds xs
def Rps(K:W.Frag)(H:Hp)(B:BS):List D->List V->Prop
 | [],xs=>xs=[]
 | d::ds,xs=>∃x r,xs=x::r/\Rp K H B d x/\Rps K H B ds r
end
mutual
theorem Rp.mono(g:Gr H H' B B'):∀{d:D} {v:V},Rp K H B d v->Rp K H' B' d v
 | .non,_,h=>by unfold Rp at h ⊢;exact h
 | .bl _,_,h=>by unfold Rp at h ⊢;exact h
 | .int _,_,h=>by unfold Rp at h ⊢;exact h
 | .str _,_,h=>by unfold Rp at h ⊢;exact h
 | .tup ds,_,h=>by
  unfold Rp at h ⊢;obtain⟨a,xs,e,q,r⟩:=h;exact⟨a,xs,e,q.mono g,Rps.mono g r⟩
 | .lst ds,_,h=>by
  unfold Rp at h ⊢;obtain⟨a,xs,e,q,r⟩:=h;exact⟨a,xs,e,q.mono g,Rps.mono g r⟩
 | .dct ks ds,_,h=>by
  unfold Rp at h ⊢;obtain⟨a,xs,e,n,q,l,r⟩:=h;exact⟨a,xs,e,(g _ _ n q).1,(g _ _ n q).2,l,Rps.mono g r⟩
 | .fn ks ds,_,h=>by
  unfold Rp at h ⊢;obtain⟨a,xs,e,q,l,r⟩:=h;exact⟨a,xs,e,q.mono g,l,Rps.mono g r⟩
theorem Rps.mono(g:Gr H H' B B'):∀{ds:List D} {xs:List V},Rps K H B ds xs->Rps K H' B' ds xs
 | [],_,h=>by unfold Rps at h ⊢;exact h
 | d::ds,_,h=>by
  unfold Rps at h ⊢;obtain⟨x,r,e,h1,h2⟩:=h;exact⟨x,r,e,Rp.mono g h1,Rps.mono g h2⟩
end
section
variable{v:V}
theorem T3:Rp K H B .non v=(v=.non):=by unfold Rp;rfl
theorem W7{b:Bool}:Rp K H B (.bl b) v=(v=.bl b):=by unfold Rp;rfl
theorem m9{i:Int}:Rp K H B (.int i) v=(v=.int i):=by unfold Rp;rfl
theorem Y8:Rp K H B (.str x) v=(v=.str x):=by unfold Rp;rfl
theorem X8:Rp K H B (.tup ds) v=∃a xs,v=.ref a/\SqT' K H B a xs/\Rps K H B ds xs:=by conv=>lhs;unfold Rp
theorem W2:Rp K H B (.lst ds) v=∃a xs,v=.ref a/\SqL' K H B a xs/\Rps K H B ds xs:=by conv=>lhs;unfold Rp
theorem yg0{ks:KS}:Rp K H B (.dct ks ds) v=∃a xs,v=.ref a/\¬B a/\H a=some (dOb ks xs)/\dLn ks=xs.length/\Rps K H B ds xs:=by conv=>lhs;unfold Rp
theorem mh0:Rp K H B (.fn ks ds) v=∃a xs,v=.ref a/\FnAtH K H B a (ks.zip xs)/\ks.length=xs.length/\Rps K H B ds xs:=by conv=>lhs;unfold Rp
theorem lt0:Rp K H B (.dct (.inl ks) ds) v=∃a xs,v=.ref a/\¬B a/\H a=some (.dK (ks.zip xs))/\ks.length=xs.length/\Rps K H B ds xs:=yg0
theorem vy0{ks:List (List Key)}:Rp K H B (.dct (.inr ks) ds) v=∃a xs,v=.ref a/\¬B a/\H a=some (.dT (ks.zip xs))/\ks.length=xs.length/\Rps K H B ds xs:=yg0
theorem j5:Rps K H B [] xs=(xs=[]):=by unfold Rps;rfl
theorem o8{d:D}:Rps K H B (d::ds) xs=∃x r,xs=x::r/\Rp K H B d x/\Rps K H B ds r:=by conv=>lhs;unfold Rps
theorem Rps.length:∀{ds:List D} {xs:List V},Rps K H B ds xs->xs.length=ds.length
 | [],_,h=>by rw[j5] at h;subst h;rfl
 | d::ds,_,h=>by
  rw[o8] at h;obtain⟨x,r,rfl,_,h2⟩:=h;simp[Rps.length h2]
theorem Rps.get:∀{ds:List D} {xs:List V} {i:Nat} {d:D},Rps K H B ds xs->ds[i]?=some d->∃x,xs[i]?=some x/\Rp K H B d x
 | [],_,_,_,_,e=>by simp at e
 | d::ds,_,0,d',h,e=>by
  rw[o8] at h;obtain⟨x,r,rfl,h1,_⟩:=h;simp at e;subst e;exact⟨x,rfl,h1⟩
 | d::ds,_,i+1,d',h,e=>by
  rw[o8] at h;obtain⟨x,r,rfl,_,h2⟩:=h;obtain⟨y,e1,e2⟩:=Rps.get (i:=i) h2 (by simpa using e);exact⟨y,by simpa using e1,e2⟩
theorem Rps.snoc:∀{ds:List D} {xs:List V} {d:D} {x:V},Rps K H B ds xs->Rp K H B d x->Rps K H B (ds++[d]) (xs++[x])
 | [],_,_,_,h,r=>by
  rw[j5] at h;subst h;rw[List.nil_append,List.nil_append,o8];exact⟨_,[],rfl,r,by rw[j5]⟩
 | d::ds,_,_,_,h,r=>by
  rw[o8] at h;obtain⟨y,t,rfl,h1,h2⟩:=h;rw[List.cons_append,List.cons_append,o8];exact⟨y,_,rfl,h1,Rps.snoc h2 r⟩
theorem Rps.append:∀{ds es:List D} {xs ys:List V},Rps K H B ds xs->Rps K H B es ys->Rps K H B (ds++es) (xs++ys)
 | [],_,_,_,h,r=>by rw[j5] at h;subst h;exact r
 | d::ds,_,_,_,h,r=>by
  rw[o8] at h;obtain⟨y,t,rfl,h1,h2⟩:=h;rw[List.cons_append,List.cons_append,o8];exact⟨y,_,rfl,h1,Rps.append h2 r⟩
theorem Rps.drop:∀{ds:List D} {xs:List V} (n:Nat),Rps K H B ds xs->Rps K H B (ds.drop n) (xs.drop n)
 | _,_,0,h=>h
 | [],_,n+1,h=>by rw[j5] at h;subst h;simpa [j5]
 | d::ds,_,n+1,h=>by
  rw[o8] at h;obtain⟨y,t,rfl,h1,h2⟩:=h
  simpa using Rps.drop n h2
theorem Rps.take:∀{ds:List D} {xs:List V} (n:Nat),Rps K H B ds xs->Rps K H B (ds.take n) (xs.take n)
 | _,_,0,h=>by simp[j5]
 | [],_,n+1,h=>by rw[j5] at h;subst h;simp[j5]
 | d::ds,_,n+1,h=>by
  rw[o8] at h;obtain⟨y,t,rfl,h1,h2⟩:=h;rw[List.take_succ_cons,List.take_succ_cons,o8];exact⟨y,_,rfl,h1,Rps.take n h2⟩
theorem Rps.same(s:Same H H')(h:Rps K H B ds xs):Rps K H' B ds xs:=Rps.mono (Gr.same s) h
theorem Rp.same{d:D}{v:V}(s:Same H H')(h:Rp K H B d v):Rp K H' B d v:=Rp.mono (Gr.same s) h
end
def RpO(K:W.Frag)(H:Hp)(B:BS)(d:D)(a:Addr):Prop:=match d with
 | .lst ds=>∃xs,H a=some (.lst xs)/\Rps K H B ds xs
 | .dct ks ds=>∃xs,H a=some (dOb ks xs)/\dLn ks=xs.length/\Rps K H B ds xs
 | _=>False
theorem RpO.same{d:D}(s:Same H H')(h:RpO K H B d a):RpO K H' B d a:=by
 cases d<;>try exact h.elim
 ·obtain⟨xs,e,r⟩:=h;exact⟨xs,s _ _ e,r.same s⟩
 ·obtain⟨xs,e,l,r⟩:=h;exact⟨xs,s _ _ e,l,r.same s⟩
theorem RpO.rp{d:D}(l:∀a,B' a->B a)(n:¬B' a)(h:RpO K H B d a):Rp K H B' d (.ref a):=by
 cases d<;>try exact h.elim
 ·obtain⟨xs,e,r⟩:=h
  rw[W2];exact⟨a,xs,rfl,.inl ⟨n,.inl e⟩,r.mono (Gr.less l)⟩
 ·obtain⟨xs,e,q,r⟩:=h
  rw[yg0];exact⟨a,xs,rfl,n,e,q,r.mono (Gr.less l)⟩
theorem RpO.live{d:D}(h:RpO K H B d a):NB (H a):=by
 cases d<;>try exact h.elim
 ·obtain⟨xs,e,r⟩:=h;exact .of e (λ_ _=>λz=>nomatch z) λ_=>λz=>nomatch z
 ·obtain⟨xs,e,q,r⟩:=h;refine .of e (λ_ _ z=>?_) λ_ z=>?_<;>(unfold dOb at z;split at z<;>cases z)
def RpL(K:W.Frag)(H:Hp)(B:BS)(d:D)(a:Addr):Prop:=match d with
 | .tup es=>∃ds,es=[.int (a:Int),.lst ds]/\∃xs,H a=some (.lst xs)/\Rps K H B ds xs
 | d=>RpO K H B d a
theorem RpO.toL{d:D}(h:RpO K H B d a):RpL K H B d a:=by
 cases d with
 | tup es=>exact(show False from h).elim
 | _=>exact h
theorem RpL.toO{d:D}(n:isL d=false)(h:RpL K H B d a):RpO K H B d a:=by
 cases d with
 | tup es=>cases n
 | _=>exact h
theorem RpL.same{d:D}(s:Same H H')(h:RpL K H B d a):RpL K H' B d a:=by
 cases d with
 | tup es=>obtain⟨ds,q,xs,e,r⟩:=h;exact⟨ds,q,xs,s _ _ e,r.same s⟩
 | _=>exact(RpO.same s (RpL.toO rfl h)).toL
theorem RpL.rp{d:D}(l:∀a,B' a->B a)(n:¬B' a)(h:RpL K H B d a):Rp K H B' (unl d) (.ref a):=by
 cases d with
 | tup es=>obtain⟨ds,rfl,xs,e,r⟩:=h;exact RpO.rp (d:=.lst ds) l n ⟨xs,e,r⟩
 | _=>exact RpO.rp l n (RpL.toO rfl h)
theorem RpL.live{d:D}(h:RpL K H B d a):NB (H a):=by
 cases d with
 | tup es=>obtain⟨ds,q,xs,e,r⟩:=h;exact .of e (λ_ _=>λz=>nomatch z) λ_=>λz=>nomatch z
 | _=>exact RpO.live (RpL.toO rfl h)
def Y80(a C:Addr)(od:Option Addr):Heap->Prop:=λh=>∃oe,h.get? a=some oe/\oe.cls=.ref C/\(∀dx,od=some dx->oe.dict=some dx)/\∃vs,oe.data=.fields vs
def Zz0(H:Hp)(B:BS)(od:Option Addr):Option Int->Prop
 | none=>True
 | some n=>∃dx,od=some dx/\¬B dx/\H dx=some (.xd [("at",.int n)])
def XcR(K:W.Frag)(H:Hp)(B:BS)(c:Str)(n:Option Int)(a:Addr):Prop:=∃C od,¬B a/\H a=some (.ext (Y80 a C od))/\W.nsIn K mainGlobals c=some (some (.ref C))/\Zz0 H B od n
theorem XcR.mono{c:Str}{n:Option Int}(g:Gr H H' B B')(h:XcR K H B c n a):XcR K H' B' c n a:=by
 obtain⟨C,od,h1,h2,h3,h4⟩:=h;refine⟨C,od,(g _ _ h1 h2).1,(g _ _ h1 h2).2,h3,?_⟩;cases n with
 | none=>trivial
 | some n=>obtain⟨dx,e,q1,q2⟩:=h4;exact⟨dx,e,(g _ _ q1 q2).1,(g _ _ q1 q2).2⟩
def SlR(K:W.Frag)(H:Hp)(B:BS)(o:Option V):Sl->Prop
 | .un=>True
 | .sh d=>∃v,o=some v/\Rp K H B d v
 | .ow d=>∃a,o=some (.ref a)/\B a/\RpL K H B d a
 | .ex c n=>∃a,o=some (.ref a)/\XcR K H B c n a
theorem Pd.get{F:α->β->Prop}:∀{l:List α} {m:List β} {i:Nat} {b:β},Paired F l m->m[i]?=some b->∃a,l[i]?=some a/\F a b
 | _,_,_,_,.nil,e=>by simp at e
 | _,_,0,_,.cons r _,e=>by simp at e;subst e;exact⟨_,rfl,r⟩
 | _,_,i+1,b,.cons _ t,e=>by
  obtain⟨u,h1,h2⟩:=Pd.get (i:=i) (b:=b) t (by simpa using e);exact⟨u,by simpa using h1,h2⟩
theorem Pd.imp{F G:α->β->Prop}(h:∀a b,F a b->G a b):∀{l:List α} {m:List β},Paired F l m->Paired G l m
 | _,_,.nil=>.nil
 | _,_,.cons r t=>.cons (h _ _ r) (Pd.imp h t)
theorem Pd.set{F:α->β->Prop}{a:α}{b:β}(r:F a b):∀{l:List α} {m:List β} (i:Nat),Paired F l m->Paired F (l.set i a) (m.set i b)
 | _,_,_,.nil=>.nil
 | _,_,0,.cons _ t=>.cons r t
 | _,_,i+1,.cons q t=>.cons q (Pd.set r i t)
theorem Pd.app{F:α->β->Prop}:∀{l l':List α} {m m':List β},Paired F l m->Paired F l' m'->Paired F (l++l') (m++m')
 | _,_,_,_,.nil,s=>s
 | _,_,_,_,.cons r t,s=>.cons r (Pd.app t s)
structure Env(K:W.Frag)(H:Hp)(B:BS)(σ:St)(δ:Ds):Prop where
 all:Paired (SlR K H B) σ δ
 bad:∀a,B a->NB (H a)
 own:∀(i j:Nat) (a:Addr) (ds es:D),δ[i]?=some (.ow ds)->δ[j]?=some (.ow es)->σ[i]?=some (some (.ref a))->σ[j]?=some (some (.ref a))->i=j
section
variable{σ σ':St}
theorem SlR.same{o:Option V}{s:Sl}(q:Same H H')(h:SlR K H B o s):SlR K H' B o s:=by
 cases s with
 | un=>trivial
 | sh d=>obtain⟨v,e,r⟩:=h;exact⟨v,e,r.same q⟩
 | ow d=>obtain⟨a,e,b,r⟩:=h;exact⟨a,e,b,r.same q⟩
 | ex c n=>obtain⟨a,e,r⟩:=h;exact⟨a,e,r.mono (Gr.same q)⟩
theorem Env.same(q:Same H H')(e:Env K H B σ δ):Env K H' B σ δ :=
 ⟨Pd.imp (λ_ _ h=>h.same q) e.all,(λa b=>(e.bad a b).same q),e.own⟩
theorem Env.free(e:Env K H B σ δ){p:Addr}(h:H p=none):¬B p:=λz=>e.bad p z h
theorem Env.get(e:Env K H B σ δ){d:D}(h:δ[i]?=some (.sh d)):∃v,σ[i]?=some (some v)/\Rp K H B d v:=by
 obtain⟨o,h1,v,rfl,r⟩:=Pd.get e.all h;exact⟨v,h1,r⟩
theorem Env.set(e:Env K H B σ δ)(i:Nat){d:D}{v:V}(r:Rp K H B d v):Env K H B (σ.set i (some v)) (δ.set i (.sh d)):=by
 refine⟨Pd.set ⟨v,rfl,r⟩ i e.all,e.bad,λj k a ds es h1 h2 h3 h4=>?_⟩;have hj:j≠i:=by
  rintro rfl
  by_cases hl:j<δ.length
  ·rw[List.getElem?_set_self hl] at h1;cases h1
  ·rw[List.getElem?_eq_none (by simpa using hl)] at h1;cases h1
 have hk:k≠i:=by
  rintro rfl
  by_cases hl:k<δ.length
  ·rw[List.getElem?_set_self hl] at h2;cases h2
  ·rw[List.getElem?_eq_none (by simpa using hl)] at h2;cases h2
 rw[List.getElem?_set_ne (C6 hj)] at h1 h3;rw[List.getElem?_set_ne (C6 hk)] at h2 h4;exact e.own j k a ds es h1 h2 h3 h4
end
theorem Y5{p:Addr}{o:HO}(h:H p=none):Same H (upd H p o):=λb u e=>by rw[Z8 (T5 e h)];exact e
def tD(K:W.Frag)(B:BS)(δ:Ds)(g:Ds->Option D):TE:=fun σ H Q=>∃d,Env K H B σ δ/\g δ=some d/\∀v H',Same H H'->Rp K H' B d v->Q v H'
structure PD(X:Cx)(e:Expr)(g:Ds->Option D):Prop where
 mk::go:∀B δ,PE X e (tD X.K B δ g)
instance{X:Cx}{e:Expr}{g:Ds->Option D}:CoeFun (PD X e g) (λ_=>∀B δ,PE X e (tD X.K B δ g)):=⟨PD.go⟩
def tDT(K:W.Frag)(B:BS)(δ:Ds)(g:Ds->Option Bool):TT:=fun σ H Q=>∃b,Env K H B σ δ/\g δ=some b/\∀H',Same H H'->Q b H'
structure PTD(X:Cx)(e:Expr)(g:Ds->Option Bool):Prop where
 mk::go:∀B δ,PT X e (tDT X.K B δ g)
instance{X:Cx}{e:Expr}{g:Ds->Option Bool}:CoeFun (PTD X e g) (λ_=>∀B δ,PT X e (tDT X.K B δ g)):=⟨PTD.go⟩
structure PWD(X:Cx)(e:Expr)(g:Ds->Option Bool):Prop where
 mk::go:∀B δ,PW X e (tDT X.K B δ g)
instance{X:Cx}{e:Expr}{g:Ds->Option Bool}:CoeFun (PWD X e g) (λ_=>∀B δ,PW X e (tDT X.K B δ g)):=⟨PWD.go⟩
def tDA(K:W.Frag)(B:BS)(δ:Ds)(g:Ds->Option (List D)):TA:=fun σ H Q=>∃ds,Env K H B σ δ/\g δ=some ds/\∀vs H',Same H H'->Rps K H' B ds vs->Q vs H'
structure PDA(X:Cx)(es:List Expr)(g:Ds->Option (List D)):Prop where
 mk::go:∀B δ,PA X es (tDA X.K B δ g)
instance{X:Cx}{es:List Expr}{g:Ds->Option (List D)}:CoeFun (PDA X es g) (λ_=>∀B δ,PA X es (tDA X.K B δ g)):=⟨PDA.go⟩
theorem kf0{d:D}{b:Bool}(h:asB d=some b):d=.bl b:=by
 cases d<;>simp[asB] at h
 subst h;rfl
def Op2(K:W.Frag)(r:R2)(f:D->D->Option D):Prop:=∀(H:Hp) (B:BS) (x y:V) (dx dy d:D) (Q:VK),(∀a,B a->NB (H a))->Rp K H B dx x->Rp K H B dy y->f dx dy=some d->(∀v H',Same H H'->Rp K H' B d v->Q v H')->r x y H Q
def FnR(K:W.Frag)(r:List V->Hp->VK->Prop)(f:List D->Option D):Prop:=∀(H:Hp) (B:BS) (xs:List V) (ds:List D) (d:D) (Q:VK),(∀a,B a->NB (H a))->Rps K H B ds xs->f ds=some d->(∀v H',Same H H'->Rp K H' B d v->Q v H')->r xs H Q
section
variable{a:Expr}{ga:Ds->Option D}{gu:Ds->Option Bool}{rest:List Expr}
theorem _root_.L2.PE.imp{t t':TE}(h:PE X e t)(q:∀σ H Q,t' σ H Q->t σ H Q):PE X e t':=λpins s σ H Q I z=>h pins s σ H Q I (q σ H Q z)
theorem _root_.L2.PT.imp{t t':TT}(h:PT X e t)(q:∀σ H Q,t' σ H Q->t σ H Q):PT X e t':=λpins s σ H Q I z=>h pins s σ H Q I (q σ H Q z)
theorem _root_.L2.PW.imp{t t':TT}(h:PW X e t)(q:∀σ H Q,t' σ H Q->t σ H Q):PW X e t':=λw pins s σ H Q I z=>h w pins s σ H Q I (q σ H Q z)
theorem _root_.L2.PA.imp{t t':TA}(h:PA X es t)(q:∀σ H Q,t' σ H Q->t σ H Q):PA X es t':=λp pins s σ H Q I z=>h p pins s σ H Q I (q σ H Q z)
theorem ti0{d:D}(h:gv i δ=some d):δ[i]?=some (.sh d):=by
 unfold gv at h;split at h
 ·cases h;assumption
 ·cases h
theorem w6(i:Nat)(hN:X.N[i]?=some x:=by rfl)(hv:Vis X.env.scope x:=by first|exact Or.inl rfl|exact Or.inr (Or.inl rfl)|exact Or.inr (Or.inr rfl))(hd:(x==("__debug__" : Str))=false:=by decide)
  (hcd:(x==("__classdict__" : Str))=false:=by decide):PD X (.Name x pos) (gv i):=.mk λB δ=>(zs0 (i:=i) hN hv hd hcd).imp fun σ H Q ⟨d,en,h,k⟩=>by
 obtain⟨v,e,r⟩:=en.get (ti0 h);exact⟨v,e,k v H (Same.refl H) r⟩
theorem p6{i:Int}:PD X (.Constant (.int i) j pos) (gc (.int i)):=.mk λB δ=>dd0.imp fun σ H Q ⟨d,en,h,k⟩=>by cases h;exact k _ H (Same.refl H) (by rw[m9])
theorem xk0{i:Bool}:PD X (.Constant (.bool i) j pos) (gc (.bl i)):=.mk λB δ=>ai0.imp fun σ H Q ⟨d,en,h,k⟩=>by cases h;exact k _ H (Same.refl H) (by rw[W7])
theorem O9:PD X (.Constant .none j pos) (gc .non):=.mk λB δ=>dy0.imp fun σ H Q ⟨d,en,h,k⟩=>by cases h;exact k _ H (Same.refl H) (by rw[T3])
theorem Y4:PD X (.Constant (.str x) j pos) (gc (.str x)):=.mk λB δ=>c80.imp fun σ H Q ⟨d,en,h,k⟩=>by cases h;exact k _ H (Same.refl H) (by rw[Y8])
theorem te0{r:R2}{f:D->D->Option D}(hf:Op2 K r f){σ:St}{Q:VK}(h:tD K B δ (o2 ga gb f) σ H Q):tOp r (tD K B δ ga) (tD K B δ gb) σ H Q:=by
 obtain⟨d,en,h,k⟩:=h;unfold o2 at h;cases e1:ga δ with
 | none=>rw[e1] at h;cases h
 | some x =>
  cases e2:gb δ with
  | none=>rw[e1,e2] at h;cases h
  | some y =>
   rw[e1,e2] at h;refine⟨x,en,e1,λv1 H1 s1 r1=>⟨y,en.same s1,e2,λv2 H2 s2 r2=>?_⟩⟩;exact hf H2 B v1 v2 x y d Q ((en.same s1).same s2).bad (r1.same s2) r2 h λv H' s r=>k v H' ((s1.trans s2).trans s) r
theorem wh0{op:Operator}{r:R2}{f:D->D->Option D}(ho:OpR X (binaryOp op) r)(hf:Op2 X.K r f)(ha:PD X a ga)(hb:PD X b gb):PD X (.BinOp a op b pos) (o2 ga gb f):=.mk λB δ=>(a80 ho (ha B δ) (hb B δ)).imp fun σ H Q h=>te0 hf h
theorem yv0{op:CmpOp}{r:R2}{f:D->D->Option D}(ho:OpR X (compareOp op) r)(hf:Op2 X.K r f)(ha:PD X a ga)(hb:PD X b gb)(hm:behindInMarks op b=false:=by first|exact j50 _|with_unfolding_all rfl):PD X (.Compare a [op] [b] pos) (o2 ga gb f) :=
 .mk λB δ=>(d40 ho (ha B δ) (hb B δ) hm).imp fun σ H Q h=>te0 hf h
theorem al0{r:R2}{f:D->D->Option D}(ho:IxR X r)(hf:Op2 X.K r f)(ha:PD X a ga)(hb:PD X b gb)(hs:s80 b:=by exact λ_ _=>rfl):PD X (.Subscript a b pos) (o2 ga gb f) :=
 .mk λB δ=>(a00 ho (ha B δ) (hb B δ) hs).imp fun σ H Q h=>te0 hf h
theorem j8{op:CmpOp}{r:R2}{f:D->D->Option D}(ho:OpR X (compareOp op) r)(hf:Op2 X.K r f)(ha:PD X a ga)(hb:PD X b gb)(hm:behindInMarks op b=false:=by first|exact j50 _|with_unfolding_all rfl):PTD X (.Compare a [op] [b] pos) (ob (o2 ga gb f)) :=
 .mk λB δ=>(fc0 ho (ha B δ) (hb B δ) hm).imp fun σ H Q ⟨t,en,h,k⟩=>by
  unfold ob at h;cases e:o2 ga gb f δ with
  | none=>rw[e] at h;cases h
  | some d =>
   rw[e] at h;cases kf0 h;exact te0 hf ⟨_,en,e,λv H' s r=>⟨t,by rw[W7] at r;exact r,k H' s⟩⟩
theorem N8(h:PD X e g)(he:∀whole,isTrue e X.env whole=(do let v ← whole;standAt e.pos;holding [v] (truthy v)):=by intro _;rfl):PTD X e (ob g) :=
 .mk λB δ=>(di0 (h B δ) he).imp fun σ H Q ⟨t,en,h,k⟩=>by
  unfold ob at h;cases e:g δ with
  | none=>rw[e] at h;cases h
  | some d =>
   rw[e] at h;cases kf0 h;exact⟨_,en,e,λv H' s r=>⟨t,by rw[W7] at r;exact r,k H' s⟩⟩
theorem xz0(h:PTD X a gt):PTD X (.UnaryOp .Not a pos) (z70 gt) :=
 .mk λB δ=>(cl0 (h B δ)).imp fun σ H Q ⟨t,en,h,k⟩=>by
  unfold z70 at h;cases e:gt δ with
  | none=>rw[e] at h;cases h
  | some b =>
   rw[e] at h;cases h;exact⟨b,en,e,λH' s=>k H' s⟩
theorem ul0(h:PTD X a gt):PWD X (.BoolOp .And [a] pos) gt:=.mk λB δ=>e30 (h B δ)
theorem u00(h:PTD X a gt):PWD X (.BoolOp .Or [a] pos) gt:=.mk λB δ=>cv0 (h B δ)
theorem s60(ha:PTD X a gt)(hb:PWD X (.BoolOp .And (b::rest) pos) gu):PWD X (.BoolOp .And (a::b::rest) pos) (K4 gt gu) :=
 .mk λB δ=>(b50 (ha B δ) (hb B δ)).imp fun σ H Q ⟨t,en,h,k⟩=>by
  unfold K4 at h;cases e:gt δ with
  | none=>rw[e] at h;cases h
  | some b =>
   rw[e] at h;refine⟨b,en,e,λH' s=>?_⟩;cases b with
   | true=>exact⟨t,en.same s,h,λF s'=>k F (s.trans s')⟩
   | false =>
    simp at h;subst h;rw[if_neg B4];exact k H' s
theorem vg0(ha:PTD X a gt)(hb:PWD X (.BoolOp .Or (b::rest) pos) gu):PWD X (.BoolOp .Or (a::b::rest) pos) (yz0 gt gu) :=
 .mk λB δ=>(aj0 (ha B δ) (hb B δ)).imp fun σ H Q ⟨t,en,h,k⟩=>by
  unfold yz0 at h;cases e:gt δ with
  | none=>rw[e] at h;cases h
  | some b =>
   rw[e] at h;refine⟨b,en,e,λH' s=>?_⟩;cases b with
   | false=>exact⟨t,en.same s,h,λF s'=>k F (s.trans s')⟩
   | true =>
    simp at h;subst h;rw[if_pos rfl];exact k H' s
theorem PWD.pt(h:PWD X e gt):PTD X e gt:=.mk λB δ=>(h B δ).pt
theorem qo0{op}(h:PD X a g):PD X (.BoolOp op [a] pos) g:=.mk λB δ=>dz0 (h B δ)
theorem qq0(ha:PD X a ga)(hb:PD X (.BoolOp .And (b::rest) pos) gb):PD X (.BoolOp .And (a::b::rest) pos) (vm0 ga gb) :=
 .mk λB δ=>(b90 (ha B δ) (hb B δ)).imp fun σ H Q ⟨d,en,h,k⟩=>by
  unfold vm0 ob at h;cases e:ga δ with
  | none=>rw[e] at h;cases h
  | some x =>
   rw[e] at h;refine⟨x,en,e,λv H' s r=>?_⟩;cases x with
   | bl c =>
    rw[W7] at r;refine⟨c,r,?_⟩;cases c with
    | true=>exact⟨d,en.same s,h,λv F s'=>k v F (s.trans s')⟩
    | false =>
     simp[asB] at h;rw[if_neg B4];exact k _ H' s (by rw[← h,W7])
   | _=>simp[asB] at h
theorem u9:PDA X [] v8:=.mk λB δ=>xh0.imp fun σ H Q ⟨ds,en,h,k⟩=>by cases h;exact k [] H (Same.refl H) (by rw[j5])
theorem v4(ha:PD X e g)(hr:PDA X es gA)(hs:starEach (e::es) X.env=(false,eval e X.env)::starEach es X.env:=by rfl):PDA X (e::es) (z9 g gA) :=
 .mk λB δ=>(J7 (ha B δ) (hr B δ) hs).imp fun σ H Q ⟨ds,en,h,k⟩=>by
  unfold z9 at h;cases e1:g δ with
  | none=>rw[e1] at h;cases h
  | some d =>
   cases e2:gA δ with
   | none=>rw[e1,e2] at h;cases h
   | some es' =>
    rw[e1,e2] at h;cases h;refine⟨d,en,e1,λv H1 s1 r1=>⟨es',en.same s1,e2,λvs H2 s2 r2=>k _ H2 (s1.trans s2) ?_⟩⟩;rw[o8];exact⟨v,vs,rfl,r1.same s2,r2⟩
theorem Y7{x1}(h:PDA X es gA):PD X (.Tuple es x1 pos) (Z2 gA) :=
 .mk λB δ=>(dh0 (h B δ)).imp fun σ H Q ⟨d,en,h,k⟩=>by
  unfold Z2 at h;cases e1:gA δ with
  | none=>rw[e1] at h;cases h
  | some ds =>
   rw[e1] at h
   by_cases hl:ds.length<=sizeLine
   ·simp only[Option.bind_some,if_pos hl] at h
    cases h;refine⟨ds,en,e1,λvs H1 s1 r1=>⟨by rw[r1.length];exact hl,λp hp=>k _ _ (s1.trans (Y5 hp)) ?_⟩⟩;rw[X8];exact⟨p,vs,rfl,⟨(en.same s1).free hp,Z6⟩,r1.same (Y5 hp)⟩
   ·simp only[Option.bind_some,if_neg hl] at h
    cases h
theorem zn0(h:PDA X es gA):PD X (.List es pos) (X5 gA) :=
 .mk λB δ=>(kr0 (h B δ)).imp fun σ H Q ⟨d,en,h,k⟩=>by
  unfold X5 at h;cases e1:gA δ with
  | none=>rw[e1] at h;cases h
  | some ds =>
   rw[e1] at h
   by_cases hl:ds.length<=sizeLine
   ·simp only[Option.bind_some,if_pos hl] at h
    cases h;refine⟨ds,en,e1,λvs H1 s1 r1=>⟨by rw[r1.length];exact hl,λp hp=>k _ _ (s1.trans (Y5 hp)) ?_⟩⟩;rw[W2];exact⟨p,vs,rfl,.inl ⟨(en.same s1).free hp,.inl Z6⟩,r1.same (Y5 hp)⟩
   ·simp only[Option.bind_some,if_neg hl] at h
    cases h
theorem km0{f:List D->Option D}(hf:FnR K r f){σ:St}{Q:VK}(h:tD K B δ (oA gA f) σ H Q):tCB r (tDA K B δ gA) σ H Q:=by
 obtain⟨d,en,h,k⟩:=h;unfold oA at h;cases e1:gA δ with
 | none=>rw[e1] at h;cases h
 | some ds =>
  rw[e1] at h;exact⟨ds,en,e1,λvs H1 s1 r1=>hf H1 B vs ds d Q (en.same s1).bad r1 h λv H' s r=>k v H' (s1.trans s) r⟩
theorem us0{id:String}{p:Pos}{f:List D->Option D}(hc:CallR X (.builtin id) r)(hf:FnR X.K r f)(hm:X.mg x=none)(hv:bootBuiltins x=some (.builtin id))(ha:PDA X (e::es) gA)(hg:Gl X x:=by rfl)
  (hn:x ≠"__name__" := by decide) (hdb:(x==("__debug__" : Str))=false:=by decide) (he:starEach (e::es) X.env=(false,eval e X.env)::starEach es X.env:=by rfl) (hpl:(backTo pos (starEach es X.env)).any (·.1)=false:=by rfl) :
  PD X (.Call (.Name x p) (e::es) [] pos) (oA gA f):=.mk λB δ=>(wl0 hc hg hm hv (ha B δ) hn hdb he hpl).imp fun σ H Q h=>km0 hf h
theorem U5{T:String}{p:Pos}{f:List D->Option D}(hc:CallR X (.type T) r)(hf:FnR X.K r f)(hm:X.mg x=none)(hv:bootBuiltins x=some (.type T))(ha:PDA X (e::es) gA)(hg:Gl X x:=by rfl)
  (hn:x ≠"__name__" := by decide) (hdb:(x==("__debug__" : Str))=false:=by decide) (he:starEach (e::es) X.env=(false,eval e X.env)::starEach es X.env:=by rfl) (hpl:(backTo pos (starEach es X.env)).any (·.1)=false:=by rfl) :
  PD X (.Call (.Name x p) (e::es) [] pos) (oA gA f):=.mk λB δ=>(rc0 hc hg hm hv (ha B δ) hn hdb he hpl).imp fun σ H Q h=>km0 hf h
def spD(K:W.Frag)(f:List D->Option D):Sp:=λvs H Q _=>∃(B:BS) (ds:List D) (d:D),(∀a,B a->NB (H a))/\Rps K H B ds vs/\f ds=some d/\∀v H',Same H H'->Rp K H' B d v->Q v H'
theorem fb0{k:Nat}{ps:List Str}{p:Pos}{f:List D->Option D}(F:FnOk X.prog X.w X.K X.mg X.base CX0 k fa fd ps (spD X.K f))(hr:Room k X.A)(hm:X.mg x=some (.ref fa))(hk:W.keepIn X.K (.ref fa)=true)(hb:Binds X.K fd ps [])
  (ha:PDA X (e::es) gA) (hg:Gl X x:=by rfl) (hdb:(x==("__debug__" : Str))=false:=by decide) (he:starEach (e::es) X.env=(false,eval e X.env)::starEach es X.env:=by rfl) (hpl:(backTo pos (starEach es X.env)).any (·.1)=false:=by rfl) :
  PD X (.Call (.Name x p) (e::es) [] pos) (oA gA f):=.mk λB δ=>(tz0 (E:=E0) F hr hg hm hk hb .nil ld0 (ha B δ) hdb he hpl).imp fun σ H Q h=>by
 obtain⟨d,en,h,k⟩:=h;unfold oA at h;cases e1:gA δ with
 | none=>rw[e1] at h;cases h
 | some ds =>
  rw[e1] at h;refine⟨ds,en,e1,λvs H1 s1 r1=>?_⟩;show spD X.K f (vs++[]) H1 Q E0;rw[List.append_nil];exact⟨B,ds,d,(en.same s1).bad,r1,h,λv H' s r=>k v H' (s1.trans s) r⟩
end
end DL
variable{B B' B₀:DL.BS}
namespace DL
open Spec PyProof.Rows L2
structure EnvS(K:W.Frag)(H₀:Hp)(B₀:BS)(H:Hp)(σ:St)(δ:Ds):Prop where
 same:Same H₀ H
 ex:∃B:BS,(∀a,B₀ a->B a)/\(∀a,B a->B₀ a∨H₀ a=none)/\Env K H B σ δ
 fr:∀(i:Nat) (ds:D) (a:Addr),δ[i]?=some (.ow ds)->σ[i]?=some (some (.ref a))->H₀ a=none
 b0:∀a,B₀ a->NB (H₀ a)
def Zx0(K:W.Frag)(H₀:Hp)(B₀:BS)(D:Ends):Res->Prop
 | .nx δ=>∀σ H,EnvS K H₀ B₀ H σ δ->D.nx σ H
 | .rt d=>∀v H,Same H₀ H->Rp K H B₀ d v->D.rt v H
 | .bk δ=>∀σ H,EnvS K H₀ B₀ H σ δ->D.bk σ H
 | .ct δ=>∀σ H,EnvS K H₀ B₀ H σ δ->D.ct σ H
 | .rf d=>∀p H,H₀ p=none->Same H₀ H->RpL K H (λa=>B₀ a∨a=p) d p->D.rt (.ref p) H
def tDS(K:W.Frag)(H₀:Hp)(B₀:BS)(δ:Ds)(G:Ds->Option Res):TS:=λD σ H=>∃r,EnvS K H₀ B₀ H σ δ/\G δ=some r/\Zx0 K H₀ B₀ D r
structure PSD(X:Cx)(st:Stmt)(G:Ds->Option Res):Prop where
 mk::go:∀H₀ B₀ δ,PS X st (tDS X.K H₀ B₀ δ G)
instance{X:Cx}{st:Stmt}{G:Ds->Option Res}:CoeFun (PSD X st G) (λ_=>∀H₀ B₀ δ,PS X st (tDS X.K H₀ B₀ δ G)):=⟨PSD.go⟩
structure PSsD(X:Cx)(st:List Stmt)(G:Ds->Option Res):Prop where
 mk::go:∀H₀ B₀ δ,PSs X st (tDS X.K H₀ B₀ δ G)
instance{X:Cx}{st:List Stmt}{G:Ds->Option Res}:CoeFun (PSsD X st G) (λ_=>∀H₀ B₀ δ,PSs X st (tDS X.K H₀ B₀ δ G)):=⟨PSsD.go⟩
section
variable{σ:St}
theorem EnvS.grow(e:EnvS K H₀ B₀ H σ δ)(s:Same H H'):EnvS K H₀ B₀ H' σ δ:=⟨e.same.trans s,let ⟨B,b1,b2,en⟩:=e.ex;⟨B,b1,b2,en.same s⟩,e.fr,e.b0⟩
end
structure Wr(idx:List Nat)(σ σ':St)(δ δ':Ds):Prop where
 len:σ'.length=σ.length
 oth:∀j,j∉idx->σ'[j]?=σ[j]?/\δ'[j]?=δ[j]?
 own:∀j∈idx,∀ds,δ'[j]?≠some (.ow ds)
def tDG(K:W.Frag)(idx:List Nat)(f:D->Ds->Option Ds)(B:BS)(d:D)(δ:Ds):TG:=λv σ H Q=>∃δ',Rp K H B d v/\Env K H B σ δ/\f d δ=some δ'/\∀σ',Wr idx σ σ' δ δ'->Env K H B σ' δ'->Q σ' H
structure PGD(X:Cx)(tg:Expr)(idx:List Nat)(f:D->Ds->Option Ds):Prop where
 mk::go:∀B d δ,PG X tg (tDG X.K idx f B d δ)
instance{X:Cx}{tg:Expr}{idx:List Nat}{f:D->Ds->Option Ds}:CoeFun (PGD X tg idx f) (λ_=>∀B d δ,PG X tg (tDG X.K idx f B d δ)):=⟨PGD.go⟩
theorem _root_.L2.PG.imp{t t':TG}(h:PG X tg t)(q:∀v σ H Q,t' v σ H Q->t v σ H Q):PG X tg t':=λpins s σ H v u Q I r z=>h pins s σ H v u Q I r (q v σ H Q z)
theorem ka0{σ:St}{v:V}{d:D}:Wr [i] σ (σ.set i (some v)) δ (δ.set i (.sh d)):=by
 refine⟨by simp,λj hj=>?_,λj hj ds h=>?_⟩
 ·have:j≠i:=by simpa using hj
  rw[List.getElem?_set_ne (C6 this),List.getElem?_set_ne (C6 this)];exact⟨rfl,rfl⟩
 ·have:j=i:=by simpa using hj
  subst this
  by_cases hl:j<δ.length
  ·rw[List.getElem?_set_self hl] at h;cases h
  ·rw[List.getElem?_eq_none (by simpa using hl)] at h;cases h
theorem o6(i:Nat){pos:Pos}(hN:X.N.Nodup)(hi:X.N[i]?=some x:=by rfl)(hx:Loc X.env.scope x:=by first|exact Or.inl rfl|exact Or.inr rfl)
  (hf:X.fn x=true∨X.env.scope.names.lookup x=some .local:=by first|exact .inl rfl|exact .inr rfl|assumption):PGD X (.Name x pos) [i] (gN i):=.mk λB d δ=>(u80 (i:=i) hN hi hx hf).imp λv σ H Q ⟨δ',r,en,e,k⟩=>by
 cases e;exact k _ ka0 (en.set i r)
section
variable{G G1 G2 Ga Gb:Ds->Option Res}{as bs:List Stmt}
theorem p7:PSsD X [] p8:=.mk λH₀ B₀ δ pins s σ H D I ⟨r,en,e,k⟩=>by
 cases e;exact ew0 pins s σ H D I (k σ H en)
theorem v5(h1:PSD X st G1)(h2:PSsD X rest G2):PSsD X (st::rest) (v9 G1 G2):=.mk λH₀ B₀ δ pins s σ H D I ⟨r,en,e,k⟩=>by
 unfold v9 at e;cases e1:G1 δ with
 | none=>rw[e1] at e;cases e
 | some r1 =>
  rw[e1] at e;cases r1 with
  | nx δ'=>exact ys0 (h1 H₀ B₀ δ) (h2 H₀ B₀ δ') pins s σ H D I ⟨_,en,e1,fun σ' H' en'=>⟨r,en',e,k⟩⟩
  | rt d=>cases e;exact ys0 (h1 H₀ B₀ δ) xl0 pins s σ H D I ⟨_,en,e1,k⟩
  | bk δ'=>cases e;exact ys0 (h1 H₀ B₀ δ) xl0 pins s σ H D I ⟨_,en,e1,k⟩
  | ct δ'=>cases e;exact ys0 (h1 H₀ B₀ δ) xl0 pins s σ H D I ⟨_,en,e1,k⟩
  | rf d=>cases e;exact ys0 (h1 H₀ B₀ δ) xl0 pins s σ H D I ⟨_,en,e1,k⟩
theorem j6(h:PD X e g):PSD X (.Return (some e) pos) (d9 g):=.mk λH₀ B₀ δ pins s σ H D I ⟨r,en,e1,k⟩=>by
 unfold d9 at e1;obtain⟨B,b1,b2,env⟩:=en.ex;cases e2:g δ with
 | none=>rw[e2] at e1;cases e1
 | some d =>
  rw[e2] at e1;cases e1;exact o00 (h B δ) pins s σ H D I ⟨d,env,e2,λv H' s' r=>k v H' (en.same.trans s') (r.mono (Gr.less b1))⟩
theorem EnvS.wr{σ σ':St}(e:EnvS K H₀ B₀ H σ δ)(b1:∀a,B₀ a->B a)(b2:∀a,B a->B₀ a∨H₀ a=none)(s:Same H H')(w:Wr idx σ σ' δ δ')(en:Env K H' B σ' δ'):EnvS K H₀ B₀ H' σ' δ':=by
 refine⟨e.same.trans s,⟨B,b1,b2,en⟩,λi ds a h1 h2=>?_,e.b0⟩
 by_cases hi:i∈idx
 ·exact absurd h1 (w.own i hi ds)
 ·rw[(w.oth i hi).2] at h1
  rw[(w.oth i hi).1] at h2;exact e.fr i ds a h1 h2
theorem n6{f:D->Ds->Option Ds}(h:PD X e g)(hg:PGD X tg idx f)(hs:swapsWithSole [tg] e pos.line X.env=pure false:=by rfl)(hw:swappedStores [tg] e X.env=pure none:=by rfl)
  (h1:(assignEach [tg] X.env).map (·.2)=[assign tg X.env]:=by rfl):PSD X (.Assign [tg] e pos) (m7 f g):=.mk λH₀ B₀ δ pins s σ H D I ⟨r,en,e1,k⟩=>by
 unfold m7 at e1;obtain⟨B,b1,b2,env⟩:=en.ex;cases e2:g δ with
 | none=>rw[e2] at e1;cases e1
 | some d =>
  rw[e2] at e1;simp only[Option.bind_some] at e1;cases e3:f d δ with
  | none=>rw[e3] at e1;cases e1
  | some δ' =>
   rw[e3] at e1;cases e1;exact pg0 (h B δ) (hg B d δ) hs hw h1 pins s σ H D I ⟨d,env,e2,λv H' s' r=>⟨δ',r,env.same s',e3,fun σ' w en'=>k σ' H' (en.wr b1 b2 s' w en')⟩⟩
theorem d7(hc:PTD X c gt)(ha:PSsD X as Ga)(hb:PSsD X bs Gb):PSD X (.If c as bs pos) (ifD gt Ga Gb):=.mk λH₀ B₀ δ pins s σ H D I ⟨r,en,e1,k⟩=>by
 unfold ifD at e1;obtain⟨B,b1,b2,env⟩:=en.ex;cases e2:gt δ with
 | none=>rw[e2] at e1;cases e1
 | some t =>
  rw[e2] at e1;refine Z30 (hc B δ) (ha H₀ B₀ δ) (hb H₀ B₀ δ) pins s σ H D I ⟨t,env,e2,λH' s'=>?_⟩;cases t with
  | true=>exact⟨r,en.grow s',e1,k⟩
  | false=>exact⟨r,en.grow s',e1,k⟩
structure ItD(K:W.Frag)(B:BS)(J:It)(items:List D)(H₁:Hp):Prop where
 go:∀i H,Gr H₁ H B B->i<items.length->J.go i H
 yld:∀i H x H',Gr H₁ H B B->J.yld i H x H'->i<items.length->Same H H'/\∃d,items[i]?=some d/\∀B':BS,Gr H₁ H' B B'->(∀a,B' a->NB (H a))->Rp K H' B' d x
 stop:∀i H,Gr H₁ H B B->items.length<=i->J.stop i H
def tDI(K:W.Frag)(B:BS)(δ:Ds)(g:Ds->Option (List D)):TI:=fun σ H R=>∃items,Env K H B σ δ/\g δ=some items/\∀J H',Same H H'->ItD K B J items H'->R J H'
structure PID(X:Cx)(tg e:Expr)(g:Ds->Option (List D)):Prop where
 mk::go:∀B δ,PI X tg e (tDI X.K B δ g)
instance{X:Cx}{tg e:Expr}{g:Ds->Option (List D)}:CoeFun (PID X tg e g) (λ_=>∀B δ,PI X tg e (tDI X.K B δ g)):=⟨PID.go⟩
theorem _root_.L2.PI.imp{t t':TI}(h:PI X tg e t)(q:∀σ H R,t' σ H R->t σ H R):PI X tg e t':=λpins s σ H R I z=>h pins s σ H R I (q σ H R z)
theorem y60(h:PD X e g):PID X tg e (xg0 g):=.mk λB δ=>L2.PI.imp (fu0 (h B δ)) fun σ H R ⟨items,en,e1,k⟩=>by
 unfold xg0 at e1;cases e2:g δ with
 | none=>rw[e2] at e1;cases e1
 | some d =>
  rw[e2] at e1;cases d<;>simp[gy0] at e1
  subst e1;refine⟨_,en,e2,λv H' s' r=>?_⟩;rw[W2] at r;obtain⟨a,xs,rfl,q,rs⟩:=r;refine⟨a,rfl,⟨xs,q.to⟩,k _ H' s' ⟨λi H2 g2 hi=>?_,λi H2 x H3 g2 y hi=>?_,λi H2 g2 hi=>?_⟩⟩
  ·have:i<xs.length:=by rw[rs.length];exact hi
   exact⟨xs,xs[i],(q.mono g2).to,by simp[this]⟩
  ·obtain⟨e3,y⟩:=y
   obtain⟨x',e4,r'⟩:=rs.get (i:=i) (d:=_) (C9 hi);have:=y xs (q.mono g2).to;rw[e4] at this;cases this;subst e3;exact⟨Same.refl _,_,C9 hi,λB' gB _=>r'.mono gB⟩
  ·exact⟨xs,(q.mono g2).to,by rw[rs.length];exact hi⟩
theorem w90(h:PD X e g):PID X tg e (tupI g):=.mk λB δ=>L2.PI.imp (bi0 (h B δ)) fun σ H R ⟨items,en,e1,k⟩=>by
 unfold tupI at e1;cases e2:g δ with
 | none=>rw[e2] at e1;cases e1
 | some d =>
  rw[e2] at e1;cases d<;>simp[gu0] at e1
  subst e1;refine⟨_,en,e2,λv H' s' r=>?_⟩;rw[X8] at r;obtain⟨a,xs,rfl,q,rs⟩:=r;refine⟨a,rfl,⟨xs,q.to⟩,k _ H' s' ⟨λi H2 g2 hi=>?_,λi H2 x H3 g2 y hi=>?_,λi H2 g2 hi=>?_⟩⟩
  ·have:i<xs.length:=by rw[rs.length];exact hi
   exact⟨xs,xs[i],(q.mono g2).to,by simp[this]⟩
  ·obtain⟨e3,y⟩:=y
   obtain⟨x',e4,r'⟩:=rs.get (i:=i) (d:=_) (C9 hi);have:=y xs (q.mono g2).to;rw[e4] at this;cases this;subst e3;exact⟨Same.refl _,_,C9 hi,λB' gB _=>r'.mono gB⟩
  ·exact⟨xs,(q.mono g2).to,by rw[rs.length];exact hi⟩
theorem uv0(lo hi:Int):(W4 lo hi).length=(hi - lo).toNat:=by simp[W4]
theorem m50(lo hi:Int):ItD K B (Itr lo (hi - lo).toNat) (W4 lo hi) H:=by
 refine⟨λi H2 g2 hi=>?_,λi H2 x H3 g2 y hi=>?_,λi H2 g2 hi=>?_⟩
 ·rw[uv0] at hi;exact hi
 ·obtain⟨e3,rfl⟩:=y
  rw[uv0] at hi;subst e3;exact⟨Same.refl _,.int (lo+i),by simp[W4,hi],λB' gB _=>by rw[m9]⟩
 ·rw[uv0] at hi;exact hi
theorem T7{a:Expr}(hm:X.mg "range"=none)(ha:PDA X [a] gA)(hg:Gl X "range" := by rfl)(hs:starEach [a] X.env=[(false,eval a X.env)]:=by rfl):PID X tg (.Call (.Name "range" p) [a] [] pos) (S5 gA) :=
 .mk λB δ=>L2.PI.imp (jv0 hg hm (ha B δ) hs) fun σ H R ⟨items,en,e1,k⟩=>by
 unfold S5 at e1;cases e2:gA δ with
 | none=>rw[e2] at e1;cases e1
 | some ds =>
  rw[e2] at e1;simp only[Option.bind_some] at e1;unfold mi0 at e1;split at e1
  ·split at e1
   ·rename_i j hj
    cases e1;refine⟨_,en,e2,λvs H' s' r=>?_⟩;rw[o8] at r;obtain⟨x,t,rfl,r1,r2⟩:=r;rw[j5] at r2;subst r2;rw[m9] at r1;subst r1;refine⟨j,rfl,hj.1,hj.2,k _ H' s' ?_⟩;have:=m50 (K:=X.K) (B:=B) (H:=H') 0 j;rw[Int.sub_zero] at this;exact this
   ·cases e1
  ·cases e1
theorem me0{a:Expr}{p:Pos}(hm:X.mg "range"=none)(ha:PDA X [a,b] gA)(hg:Gl X "range" := by rfl)(hs:starEach [a,b] X.env=[(false,eval a X.env),(false,eval b X.env)]:=by rfl)(hs2:starEach [b] X.env=[(false,eval b X.env)]:=by rfl) :
  PID X tg (.Call (.Name "range" p) [a,b] [] pos) (lh0 gA):=.mk λB δ=>L2.PI.imp (kn0 hg hm (ha B δ) hs hs2) fun σ H R ⟨items,en,e1,k⟩=>by
 unfold lh0 at e1;cases e2:gA δ with
 | none=>rw[e2] at e1;cases e1
 | some ds =>
  rw[e2] at e1;simp only[Option.bind_some] at e1;unfold gn0 at e1;split at e1
  ·split at e1
   ·rename_i i j hj
    cases e1;refine⟨_,en,e2,λvs H' s' r=>?_⟩;rw[o8] at r;obtain⟨x,t,rfl,r1,r2⟩:=r;rw[o8] at r2;obtain⟨y,t',rfl,r2,r3⟩:=r2;rw[j5] at r3;subst r3;rw[m9] at r1 r2;subst r1 r2;exact⟨i,j,rfl,⟨hj.1.1,hj.1.2,hj.2.1,hj.2.2⟩,k _ H' s' (m50 i j)⟩
   ·cases e1
  ·cases e1
theorem EnvS.lower{H₁:Hp}{σ:St}(e:EnvS K H₁ B₀ H σ δ)(s:Same H₀ H₁)(b0:∀a,B₀ a->NB (H₀ a)):EnvS K H₀ B₀ H σ δ:=by
 obtain⟨B,b1,b2,en⟩:=e.ex;exact⟨s.trans e.same,⟨B,b1,λa z=>(b2 a z).imp id λq=>s.free q,en⟩,λi ds a h1 h2=>s.free (e.fr i ds a h1 h2),b0⟩
open Classical in
theorem S9{f:D->Ds->Option Ds}(hp:PassesOwn (model X.prog X.w) X.A X.env X.xe)(hc:X.calm=true)(hi:PID X tg iter gi)(hg:PGD X tg idx f)(hb:PSsD X body G)
  (hs:∀x,foldedSetIterable iter X.env x=pure x:=by intro _;rfl):PSD X (.For tg iter body [] pos) (R7 gi f G):=.mk λH₀ B₀ δ pins s σ H D I ⟨r,en,e1,k⟩=>by
 unfold R7 at e1;obtain⟨B,b1,b2,env⟩:=en.ex;cases e2:gi δ with
 | none=>rw[e2] at e1;cases e1
 | some items =>
  rw[e2] at e1;simp only[Option.bind_some] at e1;have a2:PG X tg (λv σ H Q=>∃B d δ,tDG X.K idx f B d δ v σ H Q):=λpins s σ H v u Q I r ⟨B,d,δ,h⟩=>hg B d δ pins s σ H v u Q I r h
  have a3:PSs X body (λD σ H=>∃H₀ B₀ δ,tDS X.K H₀ B₀ δ G D σ H):=λpins s σ H D I ⟨H₀,B₀,δ,h⟩=>hb H₀ B₀ δ pins s σ H D I h
  refine bk0 hp hc (hi B δ) a2 a3 hs pins s σ H D I ⟨items,env,e2,λJ H1 s1 it=>?_⟩;obtain⟨Hh,S⟩:∃Hh:Hp,Hh=λb=>if B b/\¬B₀ b then none else H1 b:=⟨_,rfl⟩
  have L:∀b,¬B b->Hh b=H1 b:=λb n=>by rw[S];exact if_neg λz=>n z.1
  have O:∀b,B b->¬B₀ b->Hh b=none:=λb n n'=>by rw[S];exact if_pos ⟨n,n'⟩
  have Y:∀b,B₀ b->Hh b=H1 b:=λb n=>by rw[S];exact if_neg λz=>z.2 n
  have a0:Same Hh H1:=λb o h=>by
   by_cases z:B b/\¬B₀ b
   ·rw[O b z.1 z.2] at h;cases h
   ·rw[S] at h
    have h':(if B b/\¬B₀ b then none else H1 b)=some o:=h;rw[if_neg z] at h';exact h'
  have hS:Same H₀ Hh:=λb o h=>by
   have h1:=s1 b o (en.same b o h)
   by_cases z:B b
   ·rcases b2 b z with q|q
    ·rw[Y b q];exact h1
    ·rw[h] at q;cases q
   ·rw[L b z];exact h1
  have M:=env.same s1;have start:EnvS X.K Hh B₀ H1 σ δ:=by
   refine⟨a0,⟨B,b1,λa z=>?_,M⟩,λi ds a h1 h2=>?_,λa z=>?_⟩
   ·by_cases q:B₀ a
    ·exact .inl q
    ·exact .inr (O a z q)
   ·have hn:=en.fr i ds a h1 h2
    have nb:¬B₀ a:=λz=>en.b0 a z hn
    obtain⟨o,e3,a',e4,hB,_⟩:=Pd.get M.all h1;rw[h2] at e3;cases e3;cases e4;exact O a hB nb
   ·rw[Y a z]
    exact M.bad a (b1 a z)
  refine⟨λi m σ H=>m=items.length - i/\i<=items.length/\∃δi,EnvS X.K Hh B₀ H σ δi/\V7 f G (items.drop i) δi=some r,⟨_,rfl,E8 _,δ,start,e1⟩,?_⟩;rintro i m σi Hi ⟨rfl,a5,δi,F,ei⟩;have gr:Gr H1 Hi B B:=λb o n h=>⟨n,F.same b o (by rw[L b n];exact h)⟩
  by_cases hlt:i<items.length
  ·refine .inr ⟨it.go i Hi gr hlt,fun σ' H'=>∃δn,EnvS X.K Hh B₀ H' σ' δn/\V7 f G (items.drop (i+1)) δn=some r,fun σ' H' ⟨δn,en',e'⟩=>⟨items.length - (i+1),by omega,rfl,hlt,δn,en',e'⟩,λx H' y=>?_⟩
   obtain⟨sm,d,hd,rd⟩:=it.yld i Hi x H' gr y hlt;obtain⟨B',c1,c2,env0⟩:=F.ex;have a4:Rp X.K H' B' d x:=rd B' (λb o n h=>by
    have h':Hh b=some o:=by rw[L b n];exact h
    refine⟨λz=>?_,sm b o (F.same b o h')⟩;rcases c2 b z with q|q
    ·exact n (b1 b q)
    ·rw[h'] at q;cases q) env0.bad
   have Z:=env0.same sm
   replace F:=F.grow sm
   have U:items.drop i=d::items.drop (i+1):=by
    rw[List.drop_eq_getElem_cons hlt];congr 1;rw[List.getElem?_eq_getElem hlt] at hd;exact B1 hd
   rw[U] at ei;unfold V7 at ei;cases e3:f d δi with
   | none=>rw[e3] at ei;cases ei
   | some δ2 =>
    rw[e3] at ei;simp only[Option.bind_some] at ei;refine⟨B',d,δi,δ2,a4,Z,e3,fun σ' w en'=>?_⟩;have a1:EnvS X.K Hh B₀ H' σ' δ2:=F.wr c1 c2 (Same.refl _) w en';cases e4:G δ2 with
    | none=>rw[e4] at ei;cases ei
    | some rb =>
     rw[e4] at ei;refine⟨Hh,B₀,δ2,rb,a1,e4,?_⟩;cases rb with
     | nx δn=>exact fun σ' H' en'=>⟨δn,en',ei⟩
     | ct δn=>exact fun σ' H' en'=>⟨δn,en',ei⟩
     | bk δn =>
      cases ei;exact fun σ' H' en'=>k σ' H' (en'.lower hS en.b0)
     | rt d' =>
      cases ei;exact λv H' s' r'=>k v H' (hS.trans s') r'
     | rf d' =>
      cases ei;exact λp H' hp s' r'=>k p H' (hS.free hp) (hS.trans s') r'
  ·have e:i=items.length:=by omega
   subst e;refine .inl ⟨it.stop _ Hi gr (A4 _),?_⟩;rw[List.drop_length] at ei;cases ei;exact k σi Hi (F.lower hS en.b0)
structure PFD(X:Cx)(ifs:List Expr)(g:Ds->Option Bool):Prop where
 mk::go:∀B δ,PF X ifs (tDT X.K B δ g)
instance{X:Cx}{ifs:List Expr}{g:Ds->Option Bool}:CoeFun (PFD X ifs g) (λ_=>∀B δ,PF X ifs (tDT X.K B δ g)):=⟨PFD.go⟩
theorem z50:PFD X [] noT:=.mk λB δ pins s σ H Q I ⟨b,en,e,k⟩=>by
 cases e;exact dk0 pins s σ H Q I (k H (Same.refl H))
theorem g40{σ:St}(h:j<n):(Q0 n caps σ)[j]?=some none:=by
 unfold Q0;rw[List.getElem?_append_left (by simpa using h),List.getElem?_replicate,if_pos h]
theorem tf0:∀n:Nat,Paired (SlR K H B) (List.replicate n (none:Option V)) (List.replicate n Sl.un)
 | 0=>.nil
 | n+1=>.cons trivial (tf0 n)
theorem qt0{σ:St}(en:Env K H B σ δ):∀caps:List Nat,Paired (SlR K H B) (caps.map λj=>(σ[j]?).join) (caps.map λj=>qb0 δ[j]?)
 | []=>.nil
 | j::caps=>by
  refine .cons ?_ (qt0 en caps);show SlR K H B (σ[j]?).join (qb0 δ[j]?);cases h:δ[j]? with
  | none=>trivial
  | some sl =>
   cases sl with
   | un=>trivial
   | ow ds=>trivial
   | ex c n=>trivial
   | sh d =>
    obtain⟨v,e,r⟩:=en.get h;rw[e];exact⟨v,rfl,r⟩
theorem iv0{o:Option Sl}{ds:D}(h:qb0 o=.ow ds):False:=by
 cases o with
 | none=>cases h
 | some s=>cases s<;>cases h
theorem uk0{ds:D}(h:(zd0 n caps δ)[i]?=some (.ow ds)):False:=by
 unfold zd0 at h
 by_cases hi:i<n
 ·rw[List.getElem?_append_left (by simpa using hi),List.getElem?_replicate,if_pos hi] at h
  cases h
 ·rw[List.getElem?_append_right (by simpa using hi),List.getElem?_map] at h
  cases q:caps[i - (List.replicate n Sl.un).length]? with
  | none=>rw[q] at h;cases h
  | some j =>
   rw[q] at h;exact iv0 (B1 h)
theorem Env.comp{σ:St}(en:Env K H B σ δ)(n:Nat)(caps:List Nat):Env K H B (Q0 n caps σ) (zd0 n caps δ) :=
 ⟨Pd.app (tf0 n) (qt0 en caps),en.bad,λi j a ds es h1 _ _ _=>(uk0 h1).elim⟩
theorem SlR.gr{o:Option V}{s:Sl}(g:Gr H H' B B')(no:∀ds,s≠.ow ds)(h:SlR K H B o s):SlR K H' B' o s:=by
 cases s with
 | un=>trivial
 | sh d=>obtain⟨v,e,r⟩:=h;exact⟨v,e,r.mono g⟩
 | ow ds=>exact absurd rfl (no ds)
 | ex c n=>obtain⟨a,e,r⟩:=h;exact⟨a,e,r.mono g⟩
theorem Pd.impG(g:Gr H H' B B'):∀{σ:St} {δ:Ds},(∀(i:Nat) (ds:D),δ[i]?≠some (.ow ds))->Paired (SlR K H B) σ δ->Paired (SlR K H' B') σ δ
 | _,_,_,.nil=>.nil
 | _,_,no,.cons r t=>.cons (r.gr g λds z=>no 0 ds (by rw[← z];rfl)) (Pd.impG g (λi ds z=>no (i+1) ds (by simpa using z)) t)
def tDF(K:W.Frag)(B:BS)(δ:Ds)(g:Ds->Option D):TE:=fun σ H Q=>∃d,Env K H B σ δ/\g δ=some d/\∀p H',H p=none->Same H H'->RpO K H' (λa=>B a∨a=p) d p->Q (.ref p) H'
structure PDF(X:Cx)(e:Expr)(g:Ds->Option D):Prop where
 mk::go:∀B δ,PE X e (tDF X.K B δ g)
instance{X:Cx}{e:Expr}{g:Ds->Option D}:CoeFun (PDF X e g) (λ_=>∀B δ,PE X e (tDF X.K B δ g)):=⟨PDF.go⟩
theorem tD.toF{σ:St}{Q:VK}(h:tD K B δ g σ H Q):tDF K B δ g σ H Q:=by
 obtain⟨d,en,e,k⟩:=h;exact⟨d,en,e,λp H' hp s r=>k _ H' s (r.rp (λa z=>.inl z) (en.free hp))⟩
theorem PDF.pd(h:PDF X e g):PD X e g:=.mk λB δ=>(h B δ).imp fun σ H Q z=>z.toF
theorem jd0{K:W.Frag}{B:BS}{δ:Ds}{σ:St}{H:Hp}{Q:VK}{caps:List Nat}{gi:Ds->Option (List D)}{f:D->Ds->Option Ds}{gt:Ds->Option Bool}{ge:Ds->Option D}(hidx:∀j∈idx,j<n)
  (h:tDF K B δ (R4 n caps gi f gt ge) σ H Q) :
  f40 n caps (tDI K B δ gi) (λv σ H Q=>∃B d δ,tDG K idx f B d δ v σ H Q) (fun σ H Q=>∃B δ,tDT K B δ gt σ H Q) (fun σ H Q=>∃B δ,tD K B δ ge σ H Q) σ H Q:=by
 obtain⟨d,en,h,k⟩:=h;unfold R4 at h;cases e1:gi δ with
 | none=>rw[e1] at h;cases h
 | some items =>
  rw[e1] at h;simp only[Option.bind_some] at h
  by_cases hsz:items.length<=sizeLine
  ·rw[if_pos hsz] at h
   cases e2:Q8 f gt ge (zd0 n caps δ) items with
   | none=>rw[e2] at h;cases h
   | some out =>
    rw[e2] at h;cases h;refine⟨items,en,e1,λJ H1 s1 it=>λL hL=>?_⟩;have O:=en.same s1;have a5:¬B L:=O.free hL;obtain⟨Bp,F⟩:∃Bp:BS,Bp=λa=>B a∨a=L:=⟨_,rfl⟩
    have a1:Bp L:=by rw[F];exact .inr rfl
    have a6:∀a,B a->Bp a:=λa z=>by rw[F];exact .inl z
    have Y:∀a,Bp a->B a∨a=L:=λa z=>by rw[F] at z;exact z
    have gr:∀{H2:Hp},Same H1 H2->Gr H1 H2 B Bp:=λ{H2} s2 b o nb hb=>⟨(λz=>by
     rcases Y b z with q|q
     ·exact nb q
     ·subst q;rw[hL] at hb;cases hb),s2 b o hb⟩
    refine⟨λi m ys H2=>m=items.length - i/\i<=items.length/\H2 L=some (.lst ys)/\Same H1 H2/\ys.length<=i/\∃pre rest,out=pre++rest/\Rps K H2 Bp pre ys/\Q8 f gt ge (zd0 n caps δ) (items.drop i)=some rest,
     ⟨_,rfl,E8 _,Z6,Y5 hL,A4 _,[],out,rfl,by rw[j5],e2⟩,?_⟩
    rintro i m ys H2 ⟨rfl,a4,hD,s2,a7,pre,rest,ho,rp,ec⟩;have M:Env K H2 Bp (Q0 n caps σ) (zd0 n caps δ):=by
     refine⟨Pd.impG (gr s2) (λi ds z=>uk0 z) (O.comp n caps).all,λa z=>?_,λi j a ds es h1 _ _ _=>(uk0 h1).elim⟩;rcases Y a z with q|q
     ·exact(O.same s2).bad a q
     ·subst q;rw[hD];exact .of rfl (λ_ _ z=>nomatch z) λ_ z=>nomatch z
    by_cases hlt:i<items.length
    ·refine .inr ⟨it.go i H2 (Gr.same s2) hlt,λx H3 y=>?_⟩
     obtain⟨sm,dx,U,rx⟩:=it.yld i H2 x H3 (Gr.same s2) y hlt;have a0:Rp K H3 Bp dx x:=rx Bp (gr (s2.trans sm)) M.bad
     replace M:=M.same sm
     replace s2:=s2.trans sm
     replace hD:=sm _ _ hD
     replace rp:=rp.same sm
     have S:items.drop i=dx::items.drop (i+1):=by
      rw[List.drop_eq_getElem_cons hlt];congr 1;rw[List.getElem?_eq_getElem hlt] at U;exact B1 U
     rw[S] at ec;unfold Q8 at ec;cases e3:f dx (zd0 n caps δ) with
     | none=>rw[e3] at ec;cases ec
     | some δ' =>
      rw[e3] at ec;dsimp only at ec;refine⟨Bp,dx,zd0 n caps δ,δ',a0,M,e3,fun σ4 w en4=>⟨⟨w.len,λj v z=>?_⟩,?_⟩⟩
      ·by_cases hj:j∈idx
       ·rw[g40 (hidx j hj)] at z;cases z
       ·rw[(w.oth j hj).1];exact z
      ·cases e4:gt δ' with
       | none=>rw[e4] at ec;cases ec
       | some t =>
        rw[e4] at ec;refine⟨Bp,δ',t,en4,e4,λH5 s5=>?_⟩;cases t with
        | false =>
         rw[if_neg B4];exact⟨items.length - (i+1),by omega,rfl,hlt,s5 _ _ hD,s2.trans s5,by omega,pre,rest,ho,rp.same s5,ec⟩
        | true =>
         rw[if_pos rfl];dsimp only at ec;cases e5:ge δ' with
         | none=>rw[e5] at ec;cases ec
         | some yd =>
          rw[e5] at ec;dsimp only at ec;cases e6:Q8 f gt ge (zd0 n caps δ) (items.drop (i+1)) with
          | none=>rw[e6] at ec;cases ec
          | some rest' =>
           rw[e6] at ec;cases ec;refine⟨Bp,δ',yd,en4.same s5,e5,λv H6 s6 r6=>?_⟩;have a2:H6 L=some (.lst ys):=s6 _ _ (s5 _ _ hD);have g6:Gr H6 (upd H6 L (.lst (ys++[v]))) Bp Bp:=λb o nb hb=>⟨nb,by
            rw[Z8 (λz=>nb (by rw[z];exact a1))];exact hb⟩
           refine⟨a2,by omega,items.length - (i+1),by omega,rfl,hlt,Z6,λb o hb=>?_,by simp;omega,pre++[yd],rest',by rw[ho];simp,?_,e6⟩
           ·have a3:b≠L:=λz=>by rw[z,hL] at hb;cases hb
            rw[Z8 a3];exact s6 _ _ (s5 _ _ (s2 _ _ hb))
           ·exact(Rps.snoc ((rp.same s5).same s6) r6).mono g6
    ·have e:i=items.length:=by omega
     subst e;refine .inl ⟨it.stop _ H2 (Gr.same s2) (A4 _),?_⟩;rw[List.drop_length] at ec;have Z:([]:List D)=rest:=B1 ec;subst Z;rw[List.append_nil] at ho;subst ho;refine k L H2 (s1.free hL) (s1.trans s2) ⟨ys,hD,?_⟩;rw[F] at rp;exact rp
  ·rw[if_neg hsz] at h;cases h
theorem p20{sc scope:Scope}{elt iter:Expr}{ifs:List Expr}{N':List Str}{n:Nat}{caps:List Nat}{gi:Ds->Option (List D)}{idx:List Nat}{f:D->Ds->Option Ds}{ge:Ds->Option D}
  (hc:X.calm=true) (hsc:X.env.scope=sc) (ok:CompOk sc scope X.N N' n caps) (hidx:∀j∈idx,j<n) (hi:PID X tg iter gi)
  (hg:∀cl s H ex,PGD (W9 X scope cl N' s H ex) tg idx f) (ht:∀cl s H ex,PFD (W9 X scope cl N' s H ex) ifs gt) (he:∀cl s H ex,PD (W9 X scope cl N' s H ex) elt ge)
  (hs:∀x,foldedSetIterable iter X.env x=pure x:=by intro _;rfl) :
  PDF X (.ListComp elt [⟨tg,iter,ifs,0⟩] scope pos) (R4 n caps gi f gt ge):=.mk λB δ =>
 (fv0 hc hsc ok (hi B δ) (g:=λv σ H Q=>∃B d δ,tDG X.K idx f B d δ v σ H Q) (tt:=fun σ H Q=>∃B δ,tDT X.K B δ gt σ H Q) (te:=fun σ H Q=>∃B δ,tD X.K B δ ge σ H Q)
  (λcl s H ex pins s' σ H v u Q I r ⟨B,d,δ,h⟩=>hg cl s _ ex B d δ pins s' σ H v u Q I r h)
  (λcl s H ex pins s' σ H Q I ⟨B,δ,h⟩=>ht cl s _ ex B δ pins s' σ H Q I h)
  (λcl s H ex pins s' σ H Q I ⟨B,δ,h⟩=>he cl s _ ex B δ pins s' σ H Q I h) hs).imp fun σ H Q h=>jd0 hidx h
theorem er0{sc scope:Scope}{elt iter:Expr}{ifs:List Expr}{N':List Str}{n:Nat}{caps:List Nat}{gi:Ds->Option (List D)}{idx:List Nat}{f:D->Ds->Option Ds}{ge:Ds->Option D}
  (hc:X.calm=true) (hsc:X.env.scope=sc) (ok:CompOk sc scope X.N N' n caps) (hidx:∀j∈idx,j<n) (hi:PID X tg iter gi)
  (hg:∀cl s H ex,PGD (W9 X scope cl N' s H ex) tg idx f) (ht:∀cl s H ex,PFD (W9 X scope cl N' s H ex) ifs gt) (he:∀cl s H ex,PD (W9 X scope cl N' s H ex) elt ge)
  (hs:∀x,foldedSetIterable iter X.env x=pure x:=by intro _;rfl) :
  PD X (.ListComp elt [⟨tg,iter,ifs,0⟩] scope pos) (R4 n caps gi f gt ge):=(p20 hc hsc ok hidx hi hg ht he hs).pd
end
theorem v60{N:List Str}:∀{ds:List D} {vs:List V},Rps K H B ds vs->Paired (SlR K H B) (vs.map some) (ds.map Sl.sh)
 | [],_,h=>by rw[j5] at h;subst h;exact .nil
 | d::ds,_,h=>by
  rw[o8] at h;obtain⟨x,r,rfl,h1,h2⟩:=h;exact .cons ⟨x,rfl,h1⟩ (v60 (N:=N) h2)
theorem xp0{es:D}(h:(X3 N ds)[i]?=some (.ow es)):False:=by
 unfold X3 at h
 by_cases hi:i<ds.length
 ·rw[List.getElem?_append_left (by simpa using hi),List.getElem?_map] at h
  cases q:ds[i]? with
  | none=>rw[q] at h;cases h
  | some d=>rw[q] at h;cases h
 ·rw[List.getElem?_append_right (by simpa using hi),List.getElem?_replicate] at h
  split at h<;>cases h
section
variable{P:Program}{w:World}
theorem okD{ps:List Str}{k:Nat}{f:List D->Option D}{G:Ds->Option Res}(F:Fun K x qual st fa fd)(S:FnScope N ps (o4 st))
  (body:∀(cdv:Value) (A:Around) (outer:List PySem.Env) (s:Shared) (H:Hp) (E:XK),Room k (A.deeper (envOfC qual (o4 st) s.heap.objs.size fa cdv))->PSsD (vf0 CX0 P w K mg base N qual (o4 st) fa cdv A outer s H E).nox (j9 st) G)
  (hf:∀ds d,f ds=some d->ds.length=ps.length/\(G (X3 N ds)=some (.rt d)∨(d=.non/\∃δ,G (X3 N ds)=some (.nx δ))∨G (X3 N ds)=some (.rf d)/\isL d=false)) :
  FnOk P w K mg base CX0 (k+1) fa fd ps (spD K f):=by
 refine F.ok S (λvs H Q E ⟨B,ds,d,_,r,h,_⟩=>?_) (λcdv A outer s H vs Q E hr ⟨B,ds,d,hb,r,h,q⟩=>?_)
 ·rw[r.length];exact(hf ds d h).1
 ·refine⟨_,body cdv A outer s H E hr H B (X3 N ds),?_⟩
  have en:EnvS K H B H (L2.start N vs) (X3 N ds):=by
   refine⟨Same.refl H,⟨B,λ_ z=>z,λ_ z=>.inl z,⟨?_,hb,λi j a J es h1 _ _ _=>(xp0 h1).elim⟩⟩,λi J a h1 _=>(xp0 h1).elim,hb⟩;unfold L2.start X3;rw[r.length];exact Pd.app (v60 (N:=N) r) (tf0 _)
  rcases (hf ds d h).2 with e|⟨rfl,δ,e⟩|⟨e,hn⟩
  ·exact⟨_,en,e,λv H' s' r'=>q v H' s' r'⟩
  ·exact⟨_,en,e,fun σ' H' en'=>q .non H' en'.same (by rw[T3])⟩
  ·exact⟨_,en,e,λp H' hp s' r'=>q _ H' s' ((r'.toO hn).rp (λa z=>.inl z) (λz=>hb p z hp))⟩
def spN(K:W.Frag)(f:List D->Option D):Sp:=λvs H Q _=>∃(B:BS) (ds:List D) (d:D),(∀a,B a->NB (H a))/\Rps K H B ds vs/\f ds=some d/\∀p H',H p=none->Same H H'->RpO K H' (λa=>B a∨a=p) d p->Q (.ref p) H'
theorem okN{ps:List Str}{k:Nat}{f:List D->Option D}{G:Ds->Option Res}(F:Fun K x qual st fa fd)(S:FnScope N ps (o4 st))
  (body:∀(cdv:Value) (A:Around) (outer:List PySem.Env) (s:Shared) (H:Hp) (E:XK),Room k (A.deeper (envOfC qual (o4 st) s.heap.objs.size fa cdv))->PSsD (vf0 CX0 P w K mg base N qual (o4 st) fa cdv A outer s H E).nox (j9 st) G)
  (hf:∀ds d,f ds=some d->ds.length=ps.length/\G (X3 N ds)=some (.rf d)/\isL d=false) :
  FnOk P w K mg base CX0 (k+1) fa fd ps (spN K f):=by
 refine F.ok S (λvs H Q E ⟨B,ds,d,_,r,h,_⟩=>?_) (λcdv A outer s H vs Q E hr ⟨B,ds,d,hb,r,h,q⟩=>?_)
 ·rw[r.length];exact(hf ds d h).1
 ·refine⟨_,body cdv A outer s H E hr H B (X3 N ds),?_⟩
  have en:EnvS K H B H (L2.start N vs) (X3 N ds):=by
   refine⟨Same.refl H,⟨B,λ_ z=>z,λ_ z=>.inl z,⟨?_,hb,λi j a J es h1 _ _ _=>(xp0 h1).elim⟩⟩,λi J a h1 _=>(xp0 h1).elim,hb⟩;unfold L2.start X3;rw[r.length];exact Pd.app (v60 (N:=N) r) (tf0 _)
  exact⟨_,en,(hf ds d h).2.1,λp H' hp s' r'=>q p H' hp s' (r'.toO (hf ds d h).2.2)⟩
end
end DL
namespace L2
open Spec PyProof.Rows
theorem qi0:∀{ys:List Str} {us:List Value},Vals (ys.map V.str) us->StrsAre us ys
 | [],_,r=>by rw[List.map_nil] at r;cases r;exact .nil
 | y::ys,_,r=>by
  rw[List.map_cons] at r;cases r with
  | cons r1 r2 =>
   obtain⟨t,e⟩:=r1;subst e;exact .cons y t (qi0 r2)
theorem e50:MtR X "str.join" (λx xs H Q=>∃(sep:Str) (p:Addr) (ys:List Str),x=.str sep/\xs=[.ref p]/\SqL X.K H p (ys.map V.str)/\(ys.map (·.length)).sum+ys.length*sep.length<=16777216/\Q (.str (Txt.join sep ys)) H):=by
 intro pins s σ H x xs v us Q I rx rs h;obtain⟨sep,p,ys,rfl,rfl,hq,hz,q⟩:=h;obtain⟨t,rfl⟩:=rx;obtain⟨u,rfl,ru⟩:=rs.one;cases ru;obtain⟨its,rv,pl,_⟩:=I.list hq;exact join_list pl.isList (by simpa using qi0 rv) hz λt' k=>⟨.str _,H,I.tok k,⟨t',rfl⟩,q⟩
theorem part_of{o:Option Int}(p:IsPart u o):∃l:Option (Int×Tok),u=partValue l/\l.map (·.1)=o:=by
 cases p with
 | none=>exact⟨none,rfl,rfl⟩
 | int i t=>exact⟨some (i,t),rfl,rfl⟩
theorem cq0:SlR X (λx lo hi H Q=>∃z,x=.str z/\z.length<=sizeLine/\Q (.str (Txt.slice z lo hi)) H):=by
 intro pins s σ H x v vl vu lo hi sl Q I rx hs pl pu h;obtain⟨z,rfl,hz,q⟩:=h;obtain⟨t,rfl⟩:=rx;obtain⟨l,rfl,rfl⟩:=part_of pl;obtain⟨u,rfl,rfl⟩:=part_of pu;refine⟨"str",_,F.slot_str_getitem.lookup,P4 _ _ _,wpAny_getItem_str_slice (l:=l) (u:=u) (st:=none) ?_ rfl (post_val_or_str ⟨C0 (Txt.slice_le z _ _) hz,λt' k=>⟨.str _,H,I.tok k,⟨t',rfl⟩,q⟩⟩)⟩;obtain⟨o,h1,h2,h3⟩:=hs;exact⟨o,h1,h2,h3⟩
end L2
namespace DL
open Spec PyProof.Rows L2
def tyD:D->String
 | .non => "NoneType"|.bl _ => "bool"|.int _ => "int"|.str _ => "str"|.tup _ => "tuple"|.lst _ => "list"|.dct _ _ => "dict"|.fn _ _ => "function"
def okT(T:String)(f:D->Bool):Prop:=∀(K:W.Frag) (d:D),W.kitOne K (.type (tyD d)) (.type T)=some (f d)
theorem d30:okT "int" isInt:=λK d=>by cases d<;>kernel_rfl
theorem i80:okT "bool" isBool:=λK d=>by cases d<;>kernel_rfl
theorem zl0:okT "tuple" isTup:=λK d=>by cases d<;>kernel_rfl
theorem om0:okT "list" l40:=λK d=>by cases d<;>kernel_rfl
section
theorem g00{T:String}{f:D->Bool}(hT:okT T f):CallR X (.builtin "isinstance") (λxs H Q=>∃B d x,xs=[x,.ty T]/\Rp X.K H B d x/\Q (.bl (f d)) H):=by
 intro pins s σ H xs us Q I rs h;obtain⟨B,d,x,rfl,r,q⟩:=h;obtain⟨u,c,rfl,ru,rc⟩:=rs.two;obtain rfl:c=Value.type T:=rc;have fin:∀tk,EP X pins σ Q (.bool (f d)) { s with toks:=tk }:=λtk=>⟨.bl _,H,I.tok tk,rfl,q⟩
 have e:=hT X.K d;cases d with
 | non=>rw[T3] at r;subst r;cases (show u=Value.none from ru);exact I0 W.kitx_none I.kIn True.intro e (λz=>nomatch z) fin
 | bl y=>rw[W7] at r;subst r;cases (show u=Value.bool y from ru);exact I0 W.kitx_bool I.kIn True.intro e (λz=>nomatch z) fin
 | int i=>rw[m9] at r;subst r;obtain⟨t,rfl⟩:=(show ∃t,u=Value.int i t from ru);exact I0 W.kitx_int I.kIn True.intro e (λz=>nomatch z) fin
 | str y=>rw[Y8] at r;subst r;obtain⟨t,rfl⟩:=(show ∃t,u=Value.str y t from ru);exact I0 W.kitx_str I.kIn True.intro e (λz=>nomatch z) fin
 | tup ds =>
  rw[X8] at r;obtain⟨a,xs,rfl,hq,_⟩:=r;cases (show u=Value.ref a from ru);obtain⟨its,_,p,_⟩:=I.tuple hq.to;obtain⟨o,h1,h2,_⟩:=p;exact I0 W.kitx_tuple I.kIn ⟨o,h1,h2⟩ e (λz=>nomatch z) fin
 | lst ds =>
  rw[W2] at r;obtain⟨a,xs,rfl,hq,_⟩:=r;cases (show u=Value.ref a from ru);obtain⟨its,_,p,_⟩:=I.list hq.to;obtain⟨o,n,h1,h2,_⟩:=p;exact I0 W.kitx_list I.kIn ⟨o,h1,h2⟩ e (λz=>nomatch z) fin
 | dct ks ds =>
  rw[yg0] at r;obtain⟨a,xs,rfl,_,hq,_⟩:=r;cases (show u=Value.ref a from ru);cases ks with
  | inl ks =>
   obtain⟨_,_,vs,_,p⟩:=(show ObjOk X.prog X.w H s.heap a (.dK (ks.zip xs)) from I.hok a _ hq);obtain⟨o,es,ep,h1,h2,_⟩:=p;exact I0 W.kitx_dict I.kIn ⟨o,h1,h2.1⟩ e (λz=>nomatch z) fin
  | inr ks =>
   obtain⟨_,_,vs,_,o,es,ep,h1,h2,_⟩:=(show ObjOk X.prog X.w H s.heap a (.dT (ks.zip xs)) from I.hok a _ hq);exact I0 W.kitx_dict I.kIn ⟨o,h1,h2.1⟩ e (λz=>nomatch z) fin
 | fn ks ds =>
  rw[mh0] at r;obtain⟨a,xs,rfl,hq,_⟩:=r;cases (show u=Value.ref a from ru);obtain⟨oF,_,_,_,_,_,_,_,_,⟨_,h1⟩,⟨h2,_⟩,_⟩:=hq;exact I0 KfT.kit I.kIn ⟨oF,(I.hok a _ h1).1,h2⟩ e (λz=>nomatch z) fin
theorem zb0{T:String}{f:D->Bool}{Tn:Str}{p p2 pos:Pos}(hT:okT T f)(hb:bootBuiltins Tn=some (.type T))(hm:X.mg "isinstance"=none)(hmT:X.mg Tn=none)(h:PD X e g)(hg:Gl X "isinstance" := by rfl)(hgT:Gl X Tn:=by rfl)
  (hn:Tn ≠"__name__" := by decide) (hd:(Tn==("__debug__" : Str))=false:=by decide)
  (he:starEach [e,.Name Tn p2] X.env=(false,eval e X.env)::starEach [.Name Tn p2] X.env:=by rfl) (he2:starEach [.Name Tn p2] X.env=(false,eval (.Name Tn p2) X.env)::starEach [] X.env:=by rfl)
  (hpl:(backTo pos (starEach [.Name Tn p2] X.env)).any (·.1)=false:=by rfl) :
  PD X (.Call (.Name "isinstance" p) [e,.Name Tn p2] [] pos) (Q5 f g) :=
 .mk λB δ=>(wl0 (g00 hT) hg hm PyProof.Rows.boot_isinstance (J7 (h B δ) (J7 (eg0 (v:=.ty T) hgT hmT hb rfl hn hd) xh0 he2) he) (by decide) (by decide) he hpl).imp fun σ H Q ⟨d,en,h,k⟩=>by
  unfold Q5 at h;cases e1:g δ with
  | none=>rw[e1] at h;cases h
  | some x =>
   rw[e1] at h;cases h;exact⟨x,en,e1,λv H1 s1 r1=>⟨B,x,v,rfl,r1,k _ H1 s1 (by rw[W7])⟩⟩
theorem o10{C:Int->Int->Prop}[∀i j,Decidable (C i j)]{g:Int->Int->V}{g':Int->Int->D}(hg:∀i j H B,Rp K H B (g' i j) (g i j)):Op2 K (rI C g) (ii λi j=>if C i j then some (g' i j) else none):=by
 intro H B x y dx dy d Q hb rx ry h k;cases dx<;>cases dy<;>simp only[ii] at h<;>try cases h
 rename_i i j;split at h
 ·cases h
  rw[m9] at rx ry;subst rx ry;exact⟨i,j,rfl,rfl,by assumption,k _ H (Same.refl H) (hg i j H B)⟩
 ·cases h
theorem on0{g:Int->Int->V}{g':Int->Int->D}(hg:∀i j H B,Rp K H B (g' i j) (g i j)):Op2 K (rI0 g) (ii λi j=>some (g' i j)):=by
 intro H B x y dx dy d Q hb rx ry h k;cases dx<;>cases dy<;>simp only[ii] at h<;>try cases h
 rename_i i j;rw[m9] at rx ry;subst rx ry;exact⟨i,j,rfl,rfl,k _ H (Same.refl H) (hg i j H B)⟩
instance decDiv(i j:Int):Decidable (h50 i j):=inferInstanceAs (Decidable (0<j/\j<1073741824))
instance decPow(i j:Int):Decidable (ip0 i j):=inferInstanceAs (Decidable (0<=j/\j<=1000000/\i.natAbs<2 ^ 64))
variable{a:Expr}{ga:Ds->Option D}
theorem j90(ha:PD X a ga)(hb:PD X b gb):PD X (.BinOp a .Sub b pos) (o2 ga gb iy0):=wh0 ds0 (on0 (g':=λi j=>.int (i - j)) λ_ _ _ _=>by rw[m9]) ha hb
theorem X6(ha:PD X a ga)(hb:PD X b gb):PD X (.BinOp a .FloorDiv b pos) (o2 ga gb b7):=wh0 fz0 (o10 (C:=h50) (g':=λi j=>.int (i/j)) λ_ _ _ _=>by rw[m9]) ha hb
theorem Z0(ha:PD X a ga)(hb:PD X b gb):PD X (.BinOp a .Mod b pos) (o2 ga gb m8):=wh0 dq0 (o10 (C:=λ_ j=>0<j) (g':=λi j=>.int (i%j)) λ_ _ _ _=>by rw[m9]) ha hb
theorem lq0(ha:PD X a ga)(hb:PD X b gb):PD X (.BinOp a .Pow b pos) (o2 ga gb o50):=wh0 ci0 (o10 (C:=ip0) (g':=λi j=>.int (i ^ j.toNat)) λ_ _ _ _=>by rw[m9]) ha hb
end
end DL
namespace L2
open Spec PyProof.Rows
def f30(K:W.Frag):R2:=λx y H Q=>∃l b xs zs,x=.ref l/\y=.ref b/\SqL K H l xs/\SqL K H b zs/\xs.length+zs.length<=sizeLine/\∀p,H p=none->Q (.ref p) (upd H p (.lst (xs++zs)))
theorem eq0:OpR X (binaryOp .Add) (f30 X.K):=by
 intro pins s σ H x y v u Q I rx ry h;obtain⟨l,b,xs,zs,rfl,rfl,hH,hB,hz,q⟩:=h;cases rx;cases ry;obtain⟨its,r,p1,z1⟩:=I.list hH;obtain⟨J,r2,p2,z2⟩:=I.list hB;obtain⟨⟨cls,dd,data,sl⟩,ho,hc,n,hd⟩:=p1.isList;obtain⟨⟨Z,S,data2,U⟩,O,L,n2,M⟩:=p2.isList;simp only at hc hd L M;subst hc hd L M;have e:its.toArray++J.toArray=(its++J).toArray:=by simp
 have Y:its.toArray.size+J.toArray.size<=sizeLine:=by
  rw[List.size_toArray,List.size_toArray,← r.length,← r2.length];exact hz
 refine Y2 ⟨_,ho,rfl⟩ ⟨_,O,rfl⟩ noFill_list_add seq_list_add PySem.F.slot_list_add PySem.F.entry_list_add (PySem.F.args_list_add_2 _ _) (list_addW l b its.toArray J.toArray n n2 dd S sl U Y) ⟨ho,O,?_⟩;rw[e];exact⟨.ref _,_,I.lnew (t':=s.toks) (r.append r2) (by rw[List.length_append];exact hz),rfl,q _ I.fresh⟩
end L2
namespace DL
open Spec PyProof.Rows L2
section
variable{a:Expr}{ga:Ds->Option D}
theorem sz0(hb:∀a,B a->NB (H a)){p:Addr}(h:H p=none):¬B p:=λz=>hb p z h
theorem sa0{p:Addr}(hb:∀a,B a->NB (H a))(h:H p=none)(r:Rps K H B ds xs):Rp K (upd H p (.lst xs)) B (.lst ds) (.ref p):=by
 rw[W2];exact⟨p,xs,rfl,.inl ⟨sz0 hb h,.inl Z6⟩,r.same (Y5 h)⟩
theorem u10{p:Addr}(hb:∀a,B a->NB (H a))(h:H p=none)(r:Rps K H B ds xs):Rp K (upd H p (.tup xs)) B (.tup ds) (.ref p):=by
 rw[X8];exact⟨p,xs,rfl,⟨sz0 hb h,Z6⟩,r.same (Y5 h)⟩
theorem yq0:Op2 K (rI0 λi j=>.bl (decide (i<j))) ltD:=on0 (g':=λi j=>.bl (decide (i<j))) λ_ _ _ _=>by rw[W7]
theorem lu0:Op2 K (rI0 λi j=>.bl (decide (j<i))) gtD:=on0 (g':=λi j=>.bl (decide (j<i))) λ_ _ _ _=>by rw[W7]
theorem ls0{x:V}{dx dy:D}{b:Bool}(rx:Rp K H B dx x)(ry:Rp K H B dy y)(h:eqS dx dy=some b):g30 x y=true/\decide (x=y)=b:=by
 cases dx<;>cases dy<;>simp only[eqS] at h<;>try cases h
 all_goals
  simp only[T3,W7,m9,Y8] at rx ry;subst rx ry;refine⟨rfl,?_⟩;simp
theorem T6:Op2 K rEq eqD:=by
 intro H B x y dx dy d Q hb rx ry h k;unfold eqD at h;cases e:eqS dx dy with
 | none=>rw[e] at h;cases h
 | some b =>
  rw[e] at h;cases h;obtain⟨h1,h2⟩:=ls0 rx ry e;exact⟨h1,by rw[h2];exact k _ H (Same.refl H) (by rw[W7])⟩
theorem b80:Op2 K rNe neD:=by
 intro H B x y dx dy d Q hb rx ry h k;unfold neD at h;cases e:eqS dx dy with
 | none=>rw[e] at h;cases h
 | some b =>
  rw[e] at h;cases h;obtain⟨h1,h2⟩:=ls0 rx ry e;exact⟨h1,by rw[h2];exact k _ H (Same.refl H) (by rw[W7])⟩
theorem tx0:Op2 K (λx y H Q=>y=.non/\Q (.bl (decide (x=.non))) H) qm0:=by
 intro H B x y dx dy d Q hb rx ry h k;have hy:dy=.non:=by cases dy<;>first|rfl|cases h
 subst hy;cases h;rw[T3] at ry;refine⟨ry,k _ H (Same.refl H) ?_⟩;rw[W7];cases dx<;>simp only[T3,W7,m9,Y8,X8,W2,yg0,mh0] at rx
 all_goals first
  | (subst rx;rfl)
  | (obtain⟨a,xs,rfl,_⟩:=rx;rfl)
theorem be0(xs:List α)(i:Int):L2.atI xs i=DL.atI xs i:=rfl
theorem w40(n d:Nat)(o:Option Int):HT.sIx n d o=sIx n d o:=by cases o<;>rfl
theorem ny0{i:Int}{d:D}(r:Rps K H B ds xs)(h:DL.atI ds i=some d):∃v,L2.atI xs i=some v/\Rp K H B d v:=by
 rw[be0];unfold DL.atI at h ⊢;rw[r.length];cases e:DL.ixN ds.length i with
 | none=>rw[e] at h;cases h
 | some j =>
  rw[e] at h;exact r.get h
theorem dw0:Op2 K (rIx K) ixD:=by
 intro H B x y dx dy d Q hb rx ry h k;cases dx<;>cases dy<;>simp only[ixD] at h<;>try cases h
 ·split at h
  ·rename_i hz
   rw[Y8] at rx;rw[m9] at ry;subst rx ry;obtain⟨c,hc,rfl⟩:=P6.mp h;exact .inr (.inr ⟨_,_,c,rfl,rfl,hz,hc,k _ H (Same.refl H) (by rw[Y8])⟩)
  ·cases h
 ·rw[X8] at rx
  rw[m9] at ry;subst ry;obtain⟨a,xs,rfl,q,r⟩:=rx;obtain⟨v,hv,rv⟩:=ny0 r h;exact .inr (.inl ⟨a,xs,_,v,rfl,rfl,q.to,hv,k _ H (Same.refl H) rv⟩)
 ·rw[W2] at rx
  rw[m9] at ry;subst ry;obtain⟨a,xs,rfl,q,r⟩:=rx;obtain⟨v,hv,rv⟩:=ny0 r h;exact .inl ⟨a,xs,_,v,rfl,rfl,q.to,hv,k _ H (Same.refl H) rv⟩
theorem o7(ha:PD X a ga)(hb:PD X b gb)(hs:s80 b:=by exact λ_ _=>rfl):PD X (.Subscript a b pos) (o2 ga gb ixD):=al0 dr0 dw0 ha hb hs
structure PDO(X:Cx)(e:Option Expr)(g:Ds->Option (Option Int)):Prop where
 mk::go:∀B δ,PO X e (fun σ H Q=>∃o,Env X.K H B σ δ/\g δ=some o/\∀H',Same H H'->Q o H')
instance{X:Cx}{e:Option Expr}{g:Ds->Option (Option Int)}:CoeFun (PDO X e g) (λ_=>∀B δ,PO X e (fun σ H Q=>∃o,Env X.K H B σ δ/\g δ=some o/\∀H',Same H H'->Q o H')):=⟨PDO.go⟩
theorem ze0:PDO X none M7:=.mk λB δ pins s σ H Q I ⟨o,en,h,k⟩=>by
 cases h;exact ea0 pins s σ H Q I (k H (Same.refl H))
theorem J1(h:PD X e g):PDO X (some e) (someO g):=.mk λB δ pins s σ H Q I ⟨o,en,hq,k⟩=>by
 unfold someO at hq;cases e1:g δ with
 | none=>rw[e1] at hq;cases hq
 | some d =>
  rw[e1] at hq;cases d<;>simp[asI] at hq
  subst hq;exact ex0 (h B δ) pins s σ H Q I ⟨_,en,e1,λv H' s' r=>⟨_,by rw[m9] at r;exact r,k H' s'⟩⟩
theorem m30(r:Rps K H B ds xs)(lo hi:Option Int):Rps K H B (cutD ds lo hi) (vq0 xs lo hi):=by
 unfold cutD vq0;rw[r.length,w40,w40];exact(r.drop _).take _
theorem J9{d:D}(h:Rps K H B [d] xs):∃v,xs=[v]/\Rp K H B d v:=by
 rw[o8] at h;obtain⟨x,r,rfl,h1,h2⟩:=h;rw[j5] at h2;subst h2;exact⟨x,rfl,h1⟩
theorem d90:FnR K (λxs H Q=>(∃z,xs=[.str z]/\z.length<=sizeLine/\Q (.int z.length) H)∨∃p ys,xs=[.ref p]/\(SqL K H p ys∨SqT K H p ys)/\Q (.int ys.length) H) W0:=by
 intro H B xs ds d Q hb r h k;unfold W0 at h;split at h
 ·split at h
  ·cases h
   obtain⟨v,rfl,r1⟩:=J9 r;rw[Y8] at r1;subst r1;exact .inl ⟨_,rfl,by assumption,k _ H (Same.refl H) (by rw[m9])⟩
  ·cases h
 ·cases h
  obtain⟨v,rfl,r1⟩:=J9 r;rw[W2] at r1;obtain⟨a,ys,rfl,q,rr⟩:=r1;exact .inr ⟨a,ys,rfl,.inl q.to,k _ H (Same.refl H) (by rw[m9,rr.length])⟩
 ·cases h
  obtain⟨v,rfl,r1⟩:=J9 r;rw[X8] at r1;obtain⟨a,ys,rfl,q,rr⟩:=r1;exact .inr ⟨a,ys,rfl,.inr q.to,k _ H (Same.refl H) (by rw[m9,rr.length])⟩
 ·cases h
theorem S6(hm:X.mg "len"=none)(ha:PDA X [e] gA)(hg:Gl X "len" := by rfl)(he:starEach [e] X.env=(false,eval e X.env)::starEach [] X.env:=by rfl)(hpl:(backTo pos (starEach [] X.env)).any (·.1)=false:=by rfl) :
  PD X (.Call (.Name "len" p) [e] [] pos) (oA gA W0):=us0 (qx0.or ob0) d90 hm PySem.boot_len ha hg (by decide) (by decide) he hpl
theorem ol0:∀{ds:List D} {xs:List V} {bs:List Str},Rps K H B ds xs->v10 ds=some bs->xs=bs.map V.str
 | [],_,_,r,h=>by
  cases h;rw[j5] at r;exact r
 | d::ds,_,bs,r,h=>by
  rw[o8] at r;obtain⟨x,t,rfl,r1,r2⟩:=r;cases d<;>simp only[v10] at h<;>try cases h
  obtain⟨t',e,rfl⟩:=P6.mp h;rw[Y8] at r1;rw[r1,ol0 r2 e];rfl
theorem fx0{apos cpos:Pos}(ho:PD X o g)(ha:PDA X [e] gA)(hbase:attributeBase o "join" X.env (eval o X.env)=eval o X.env:=by rfl)
  (hfew:((backTo cpos (starEach [e] X.env)).all (λx=>!x.1)&&(backToKw cpos (keywordEach [] X.env)).all (λx=>x.1.isSome)
  &&decide ([e].length+([]:List Keyword).length+(if ([]:List Keyword).isEmpty then 0 else 1)<30))=true:=by rfl)
  (hline:(apos.endLine==cpos.line)=true:=by rfl) (hs:starEach [e] X.env=(false,eval e X.env)::starEach [] X.env:=by rfl) (hplain:(backTo cpos (starEach [] X.env)).any (·.1)=false:=by rfl) :
  PD X (.Call (.Attribute o "join" apos) [e] [] cpos) (vw0 g gA):=.mk λB δ =>
 (f80 F.plainAttrs_str F.slot_str_join F.type_str_join e50 (ho B δ) (ha B δ) hbase hfew hline hs hplain).imp fun σ H Q ⟨d,en,h,k⟩=>by
  unfold vw0 at h;cases e1:g δ with
  | none=>rw[e1] at h;cases h
  | some x =>
   cases e2:gA δ with
   | none=>rw[e1,e2] at h;cases h
   | some ds =>
    rw[e1,e2] at h;simp only[Option.bind_some] at h;unfold q40 at h;split at h
    ·cases e3:v10 _ with
     | none=>rw[e3] at h;cases h
     | some ys =>
      rw[e3] at h;simp only[Option.bind_some] at h;split at h
      ·cases h
       refine⟨_,en,e1,λv H1 s1 r1=>?_⟩;rw[Y8] at r1;subst r1;refine⟨rfl,_,en.same s1,e2,λvs H2 s2 r2=>?_⟩;obtain⟨w,rfl,r3⟩:=J9 r2;rw[W2] at r3;obtain⟨a,zs,rfl,q,rr⟩:=r3;have:=ol0 rr e3;subst this;exact⟨_,a,ys,rfl,rfl,q.to,by assumption,k _ H2 (s1.trans s2) (by rw[Y8])⟩
      ·cases h
    ·cases h
theorem za0:FnR K (λxs H Q=>∃p ys,xs=[.ref p]/\((SqL K H p ys/\∀l,H l=none->Q (.ref l) (upd H l (.tup ys)))∨(SqT K H p ys/\Q (.ref p) H))) Q6:=by
 intro H B xs ds d Q hb r h k;unfold Q6 at h;split at h
 ·cases h
  obtain⟨v,rfl,r1⟩:=J9 r;rw[W2] at r1;obtain⟨a,ys,rfl,q,rr⟩:=r1;exact⟨a,ys,rfl,.inl ⟨q.to,λl hl=>k _ _ (Y5 hl) (u10 hb hl rr)⟩⟩
 ·cases h
  obtain⟨v,rfl,r1⟩:=J9 r;have F:=r1;rw[X8] at r1;obtain⟨a,ys,rfl,q,rr⟩:=r1;exact⟨a,ys,rfl,.inr ⟨q.to,k _ H (Same.refl H) F⟩⟩
 ·cases h
end
section
variable{a:Expr}{ga:Ds->Option D}
theorem xd0(h:PD X a ga):PD X (.UnaryOp .USub a pos) (unG y30 ga):=.mk λB δ=>(aq0 b70 (h B δ)).imp fun σ H Q ⟨d,en,h,k⟩=>by
 unfold unG at h;cases e1:ga δ with
 | none=>rw[e1] at h;cases h
 | some x =>
  rw[e1] at h;cases x<;>simp[y30] at h
  subst h;exact⟨_,en,e1,λv H' s r=>⟨_,by rw[m9] at r;exact r,k _ H' s (by rw[m9])⟩⟩
def FnD(P:Program)(w:World)(K:W.Frag)(mg:Str->Option Value)(base:Heap)(x:Str)(k:Nat)(ps:List Str)(f:List D->Option D):Prop :=
 ∃(fa:Addr) (fd:FuncData),FnOk P w K mg base CX0 k fa fd ps (spD K f)/\mg x=some (.ref fa)/\W.keepIn K (.ref fa)=true/\Binds K fd ps []
theorem Z1{k:Nat}{ps:List Str}{f:List D->Option D}(C:FnD X.prog X.w X.K X.mg X.base x k ps f)(hr:Room m X.A)(hk:k<=m)(ha:PDA X (e::es) gA)(hg:Gl X x:=by rfl)(hdb:(x==("__debug__" : Str))=false:=by decide)
  (he:starEach (e::es) X.env=(false,eval e X.env)::starEach es X.env:=by rfl) (hpl:(backTo pos (starEach es X.env)).any (·.1)=false:=by rfl):PD X (.Call (.Name x p) (e::es) [] pos) (oA gA f):=by
 obtain⟨fa,fd,F,hm,kp,hb⟩:=C;exact fb0 F (hr.mono hk) hm kp hb ha hg hdb he hpl
theorem w80{sc scope:Scope}{elt iter tg:Expr}{ifs:List Expr}{N N':List Str}{n:Nat}{caps:List Nat}{gi:Ds->Option (List D)}{idx:List Nat}{f:D->Ds->Option Ds}{gt:Ds->Option Bool}{ge:Ds->Option D}
  (ok:CompOk sc scope N N' n caps) (hidx:∀j∈idx,j<n) (hi:PID X tg iter gi)
  (hg:∀cl s H ex,PGD (W9 X scope cl N' s H ex) tg idx f) (ht:∀cl s H ex,PFD (W9 X scope cl N' s H ex) ifs gt) (he:∀cl s H ex,PD (W9 X scope cl N' s H ex) elt ge)
  (hc:X.calm=true:=by rfl) (hsc:X.env.scope=sc:=by rfl) (hN:X.N=N:=by rfl) (hs:∀x,foldedSetIterable iter X.env x=pure x:=by intro _;rfl) :
  PD X (.ListComp elt [⟨tg,iter,ifs,0⟩] scope pos) (R4 n caps gi f gt ge):=er0 hc hsc (hN▸ok) hidx hi hg ht he hs
end
end DL
namespace DL
open Spec PyProof.Rows
@[simp] def zg0:Sl->Sl
 | .ow d=>.sh (unl d)
 | s=>s
@[simp] def frz(δ:Ds):Ds:=δ.map zg0
@[simp] def flat:D->Bool
 | .non=>true|.bl _=>true|.int _=>true|.str _=>true|_=>false
@[simp] def y40(g:GE):GE:=fun δ=>(g (frz δ)).bind λd=>if flat d=true then some d else none
@[simp] def ya0(g:GB):GB:=fun δ=>g (frz δ)
@[simp] def zi0(g:GE):GE:=fun δ=>g (frz δ)
@[simp] def U7(i:Nat)(g:GE):GS:=fun δ=>(g δ).map λd=>.nx (δ.set i (.ow d))
abbrev GX:=Ds->Option (D×Ds)
@[simp] def y90(g:GE):GX:=fun δ=>(g δ).map λd=>(d,δ)
variable{gx:DL.GX}
@[simp] def zv0(gx:GX)(ft:D->Ds->Option Ds):GS:=fun δ=>(gx δ).bind λr=>(ft r.1 r.2).map .nx
@[simp] def X7(gx:GX):GS:=fun δ=>(gx δ).map λr=>.nx r.2
@[simp] def owL(i:Nat)(δ:Ds):Option (List D):=match δ[i]? with
 | some (.ow (.lst ds))=>some ds
 | _=>none
@[simp] def V8(i:Nat)(g:GE):GX:=fun δ=>(owL i δ).bind λds=>(g δ).bind λd=>if ds.length<sizeLine then some (.non,δ.set i (.ow (.lst (ds++[d])))) else none
@[simp] def vb0(i:Nat):GX:=fun δ=>(owL i δ).bind λds=>(ds.getLast?).map λd=>(d,δ.set i (.ow (.lst ds.dropLast)))
@[simp] def setAt(i:Nat)(g:GE):D->Ds->Option Ds:=λv δ=>(owL i δ).bind λds=>(g δ).bind λd=>match d with
 | .int k=>(ixN ds.length k).map λj=>δ.set i (.ow (.lst (ds.set j v)))
 | _=>none
abbrev N6:=Sum Int Str
@[simp] def xm0:D->Option N6
 | .int i=>some (.inl i)
 | .str x=>some (.inr x)
 | _=>none
def vl0:List D->Option (List N6)
 | []=>some []
 | d::ds=>(xm0 d).bind λk=>(vl0 ds).map (k::·)
@[simp] def G5:D->Option (List N6)
 | .tup ds=>vl0 ds
 | _=>none
def zu0{κ:Type}[DecidableEq κ]:List κ->List D->κ->Option D
 | k::ks,d::ds,q=>if k=q then some d else zu0 ks ds q
 | _,_,_=>none
def K1{κ:Type}[DecidableEq κ](ks:List κ)(k:κ):Bool:=ks.any λq=>decide (q=k)
def zt0{κ:Type}[DecidableEq κ](ks:List κ)(k:κ):List κ:=if K1 ks k=true then ks else ks++[k]
def yc0{κ:Type}[DecidableEq κ](ks:List κ)(ds:List D)(q:κ)(v:D):List D:=if K1 ks q=true then (ks.zip ds).map (λp=>if p.1=q then v else p.2) else ds++[v]
@[simp] def tr0(i:Nat)(δ:Ds):Option (List (List N6)×List D):=match δ[i]? with
 | some (.ow (.dct (.inr ks) ds))=>some (ks,ds)
 | _=>none
@[simp] def yi0(i:Nat)(g:GE):D->Ds->Option Ds:=λv δ=>(tr0 i δ).bind λr=>(g δ).bind λd=>(G5 d).bind λk =>
 if r.1.length<sizeLine then some (δ.set i (.ow (.dct (.inr (zt0 r.1 k)) (yc0 r.1 r.2 k v)))) else none
@[simp] def vz0:D->D->Option D
 | .dct ks ds,d=>match ks with
  | .inl ks=>(xm0 d).bind λk=>zu0 ks ds k
  | .inr ks=>(G5 d).bind λk=>zu0 ks ds k
 | _,_=>none
@[simp] def J4(neg:Bool):D->D->Option D
 | d,.dct ks ds=>match ks with
  | .inl ks=>(xm0 d).map λk=>.bl (xor neg (K1 ks k))
  | .inr ks=>(G5 d).map λk=>.bl (xor neg (K1 ks k))
 | _,_=>none
def R9(gt:GB)(G:GS):Nat->Ds->Option Res
 | 0,_=>none
 | n+1,δ=>match gt δ with
  | some false=>some (.nx δ)
  | some true=>match G δ with
   | some (.nx δ')=>R9 gt G n δ'
   | some (.ct δ')=>R9 gt G n δ'
   | some (.bk δ')=>some (.nx δ')
   | r=>r
  | none=>none
@[simp] def G9(i j:Nat):D->Ds->Option Ds
 | .tup [a,b],δ=>some ((δ.set i (.sh a)).set j (.sh b))
 | _,_=>none
mutual
def deq:D->D->Bool
 | .non,.non=>true
 | .bl a,.bl b=>a==b
 | .bl a,.int b=>(if a then 1 else 0)==b
 | .int a,.bl b=>a==(if b then 1 else 0)
 | .int a,.int b=>a==b
 | .str a,.str b=>a==b
 | .tup xs,.tup ys=>K9 xs ys
 | .lst xs,.lst ys=>K9 xs ys
 | _,_=>false
def K9:List D->List D->Bool
 | [],[]=>true
 | x::xs,y::ys=>deq x y&&K9 xs ys
 | _,_=>false
end
mutual
def lean:D->Nat->Bool
 | .dct _ _,_=>false
 | .fn _ _,_=>false
 | .tup xs,n+1=>leans xs n
 | .lst xs,n+1=>leans xs n
 | .tup _,0=>false
 | .lst _,0=>false
 | _,_=>true
def leans:List D->Nat->Bool
 | [],_=>true
 | x::xs,n=>lean x n&&leans xs n
end
@[simp] def G7(x y:D):Option D:=if lean x 50=true/\lean y 50=true then some (.bl (deq x y)) else none
@[simp] def S7(x y:D):Option D:=if lean x 50=true/\lean y 50=true then some (.bl (!deq x y)) else none
@[simp] def intOfD:List D->Option D
 | [.int i]=>some (.int i)
 | [.bl k]=>some (.int (if k then 1 else 0))
 | _=>none
@[simp] def t10:List D->Option D
 | [.lst ds]=>some (.lst ds)
 | [.tup ds]=>some (.lst ds)
 | _=>none
def mkF(n:Nat)(N:List Str)(G:GS)(ds:List D):Option D:=if ds.length=n then (match G (X3 N ds) with
 | some (.rt d)=>some d
 | some (.rf d)=>if isL d=true then none else some d
 | some (.nx _)=>some .non
 | _=>none) else none
theorem V1{d:D}(h:mkF n N G ds=some d):ds.length=n/\(G (X3 N ds)=some (.rt d)∨(d=.non/\∃δ,G (X3 N ds)=some (.nx δ))∨G (X3 N ds)=some (.rf d)/\isL d=false):=by
 unfold mkF at h;split at h
 ·rename_i hl
  refine⟨hl,?_⟩;split at h
  ·rename_i e;cases h;exact .inl e
  ·rename_i e
   split at h
   ·cases h
   ·rename_i hn
    cases h;exact .inr (.inr ⟨e,Ay0.mpr hn⟩)
  ·rename_i e;cases h;exact .inr (.inl ⟨rfl,_,e⟩)
  ·cases h
 ·cases h
def mkN(n:Nat)(N:List Str)(G:GS)(ds:List D):Option D:=if ds.length=n then (match G (X3 N ds) with
 | some (.rf d)=>if isL d=true then none else some d
 | _=>none) else none
theorem yw0{d:D}(h:mkN n N G ds=some d):ds.length=n/\G (X3 N ds)=some (.rf d)/\isL d=false:=by
 unfold mkN at h;split at h
 ·rename_i hl
  refine⟨hl,?_⟩;split at h
  ·rename_i e
   split at h
   ·cases h
   ·rename_i hn
    cases h;exact⟨e,Ay0.mpr hn⟩
  ·cases h
 ·cases h
theorem K6{d:D}(hl:ds.length=n)(h:G (X3 N ds)=some (.rf d))(hn:isL d=false:=by rfl):mkN n N G ds=some d:=by
 unfold mkN;rw[if_pos hl,h];simp only[];rw[hn];rfl
@[simp] def z80(g:GE):GS:=fun δ=>(g δ).map .rf
@[simp] def lj0(i:Nat):GS:=fun δ=>match δ[i]? with
 | some (.ow d)=>some (.rf d)
 | _=>none
theorem M8{G1 G2:GS}{d:D}(h:G1 δ=some (.rf d)):v9 G1 G2 δ=some (.rf d):=by unfold v9;rw[h]
theorem zk0{g:GE}{d:D}(h:g δ=some d):z80 g δ=some (.rf d):=by unfold z80;rw[h];rfl
theorem d8{d:D}(hl:ds.length=n)(h:G (X3 N ds)=some (.rt d)):mkF n N G ds=some d:=by
 unfold mkF;rw[if_pos hl,h]
theorem u0{G1 G2:GS}{r:Option Res}(h:G1 δ=some (.nx δ'))(k:G2 δ'=r):v9 G1 G2 δ=r:=(cr0 h).trans k
@[simp] def j7:D->D->Option D
 | .int i,.int j=>some (.int (i+j))
 | .str x,.str y=>if x.length+y.length<=sizeLine then some (.str (x++y)) else none
 | .lst xs,.lst ys=>if xs.length+ys.length<=sizeLine then some (.lst (xs++ys)) else none
 | .tup xs,.tup ys=>if xs.length+ys.length<=sizeLine then some (.tup (xs++ys)) else none
 | _,_=>none
def mu0(x:Str)(n:Int):Str:=⟨(List.replicate n.toNat x.cps).foldl (·++·) #[]⟩
@[simp] def U0:D->D->Option D
 | .int i,.int j=>if (-(2 ^ 64)<i/\i<2 ^ 64)∨(-(2 ^ 64)<j/\j<2 ^ 64) then some (.int (i*j)) else none
 | .str x,.int n=>if -(2 ^ 62)<=n/\n<2 ^ 62/\x.length*n.toNat<=sizeLine then some (.str (mu0 x n)) else none
 | .tup xs,.int k=>if xs≠[]/\2<=k/\k<2 ^ 62/\xs.length*k.toNat<=sizeLine then some (.tup (List.replicate k.toNat xs).flatten) else none
 | _,_=>none
@[simp] def slA(d:D)(lo hi:Option Int):Option D:=match d with
 | .str z=>if z.length<=sizeLine then some (.str (Txt.slice z lo hi)) else none
 | .lst xs=>some (.lst (cutD xs lo hi))
 | .tup xs=>some (.tup (cutD xs lo hi))
 | _=>none
@[simp] def N5(g:GE)(gl gh:GO):GE:=fun δ=>(g δ).bind λd=>(gl δ).bind λl=>(gh δ).bind λh=>slA d l h
end DL
variable{gx:DL.GX}
namespace L2
open Spec PyProof.Rows
section
variable[DecidableEq κ]
def zx0(kvs:List (κ×V))(k:κ):Option V:=(kvs.find? λkv=>decide (kv.1=k)).map (·.2)
def putK(kvs:List (κ×V))(k:κ)(v:V):List (κ×V) :=
 if (kvs.any λkv=>decide (kv.1=k))=true then kvs.map (λkv=>if kv.1=k then (kv.1,v) else kv) else kvs++[(k,v)]
theorem yk0{p:κ×V}{r:List (κ×V)}{k:κ}(e:p.1=k):zx0 (p::r) k=some p.2:=by simp[zx0,List.find?_cons,e]
theorem yn0{p:κ×V}{r:List (κ×V)}{k:κ}(e:¬p.1=k):zx0 (p::r) k=zx0 r k:=by simp[zx0,List.find?_cons,e]
theorem qs0(k:κ):∀kvs:List (κ×V),(kvs.any λkv=>decide (kv.1=k))=(zx0 kvs k).isSome
 | []=>rfl
 | p::r=>by
  rw[List.any_cons]
  by_cases e:p.1=k
  ·simp only[yk0 e,decide_eq_true e,Bool.true_or,Option.isSome_some]
  ·rw[yn0 e,decide_eq_false e,Bool.false_or];exact qs0 k r
theorem xr0(kvs:List (κ×V))(k:κ)(v:V):(putK kvs k v).length<=kvs.length+1:=by
 unfold putK;split
 ·rw[List.length_map];omega
 ·rw[List.length_append,List.length_cons,List.length_nil];omega
theorem RelO.isSome_eq{o:Option V}{u:Option Value}(r:RelO o u):o.isSome=u.isSome:=by
 cases o with
 | none=>cases u with
  | none=>rfl
  | some _=>exact(show False from r).elim
 | some _=>cases u with
  | none=>exact(show False from r).elim
  | some _=>rfl
theorem KV.val{kvs:List (κ×V)}{vs:List (κ×Value)}(r:KV kvs vs)(k:κ):RelO (zx0 kvs k) (valueAt vs k):=by
 unfold KV at r
 induction r with
 | nil=>exact True.intro
 | @cons p q ps qs h t ih =>
  obtain⟨h1,h2⟩:=h
  by_cases e:p.1=k
  ·have e':q.1=k:=h1.symm.trans e
   have b:valueAt (q::qs) k=some q.2:=by simp[valueAt,List.find?_cons,e']
   rw[yk0 e,b];exact h2
  ·have e':¬q.1=k:=λz=>e (h1.trans z)
   have b:valueAt (q::qs) k=valueAt qs k:=by simp[valueAt,List.find?_cons,e']
   rw[yn0 e,b];exact ih
theorem KV.any{kvs:List (κ×V)}{vs:List (κ×Value)}(r:KV kvs vs)(k:κ):(kvs.any λkv=>decide (kv.1=k))=vs.any λkv=>decide (kv.1=k):=by
 unfold KV at r
 induction r with
 | nil=>rfl
 | cons h t ih=>rw[List.any_cons,List.any_cons,ih,h.1]
theorem KV.repl{kvs:List (κ×V)}{vs:List (κ×Value)}(r:KV kvs vs)(k:κ)(ry:RelV y u) :
  KV (kvs.map λkv=>if kv.1=k then (kv.1,y) else kv) (vs.map λkv=>if kv.1=k then (kv.1,u) else kv):=by
 unfold KV at r ⊢
 induction r with
 | nil=>exact .nil
 | @cons p q ps qs h t ih =>
  rw[List.map_cons,List.map_cons];refine .cons ?_ ih;obtain⟨h1,h2⟩:=h
  by_cases e:p.1=k
  ·rw[if_pos e,if_pos (h1.symm.trans e)];exact⟨h1,ry⟩
  ·rw[if_neg e,if_neg (λz=>e (h1.trans z))];exact⟨h1,h2⟩
theorem KV.put{kvs:List (κ×V)}{vs:List (κ×Value)}(r:KV kvs vs)(k:κ)(ry:RelV y u):KV (putK kvs k y) (stored vs k u):=by
 unfold putK stored;rw[r.any k]
 by_cases e:(vs.any λkv=>decide (kv.1=k))=true
 ·rw[if_pos e,if_pos e];exact r.repl k ry
 ·rw[if_neg e,if_neg e];exact Paired.snoc r ⟨rfl,ry⟩
theorem KV.length{kvs:List (κ×V)}{vs:List (κ×Value)}(r:KV kvs vs):kvs.length=vs.length:=Paired.length r
end
theorem q60{P:Program}{w:World}{k:Key}(r:RelV (kV k) u):(Q4 P w).is k u=true:=by
 cases k with
 | inl i=>obtain⟨t,e⟩:=(show ∃t,u=Value.int i t from r);subst e;exact n70 P w i t
 | inr x=>obtain⟨t,e⟩:=(show ∃t,u=Value.str x t from r);subst e;exact ou0 P w x t
theorem rd0{P:Program}{w:World}:∀{ks:List Key} {us:List Value},Vals (ks.map kV) us->ItemsAre (Q4 P w) ks us
 | [],_,r=>by rw[List.map_nil] at r;cases r;exact .nil
 | k::ks,_,r=>by
  rw[List.map_cons] at r;cases r with
  | cons h t=>exact .cons (q60 h) (rd0 t)
abbrev KT(H:Hp):List (List Key×V)->List (List Key×Addr×Value)->Prop:=Paired λp q=>p.1=q.1/\H q.2.1=some (.tup (p.1.map kV))/\RelV p.2 q.2.2
theorem KT.val{xs:List (List Key×Addr×Value)}(r:KT H kvs xs)(k:List Key):RelO (zx0 kvs k) ((atKey xs k).map (·.2)):=by
 induction r with
 | nil=>exact True.intro
 | @cons p q ps qs h t ih =>
  obtain⟨h1,_,h2⟩:=h
  by_cases e:p.1=k
  ·have e':q.1=k:=h1.symm.trans e
   have b:atKey (q::qs) k=some q.2:=by simp[atKey,List.find?_cons,e']
   rw[yk0 e,b];exact h2
  ·have e':¬q.1=k:=λz=>e (h1.trans z)
   have b:atKey (q::qs) k=atKey qs k:=by simp[atKey,List.find?_cons,e']
   rw[yn0 e,b];exact ih
theorem KT.repl{xs:List (List Key×Addr×Value)}(r:KT H kvs xs)(k:List Key)(ry:RelV y u) :
  KT H (kvs.map λkv=>if kv.1=k then (kv.1,y) else kv) (xs.map (putAt k u)):=by
 induction r with
 | nil=>exact .nil
 | @cons p q ps qs h t ih =>
  rw[List.map_cons,List.map_cons];refine .cons ?_ ih;obtain⟨h1,h2,h3⟩:=h;unfold putAt
  by_cases e:p.1=k
  ·rw[if_pos e,if_pos (h1.symm.trans e)];exact⟨h1,h2,ry⟩
  ·rw[if_neg e,if_neg (λz=>e (h1.trans z))];exact⟨h1,h2,h3⟩
theorem KT.put{xs:List (List Key×Addr×Value)}(r:KT H kvs xs)(k:List Key){b:Addr}(hb:H b=some (.tup (k.map kV)))(ry:RelV y u) :
  KT H (putK kvs k y) (storedH xs k b u):=by
 have e:(kvs.any λkv=>decide (kv.1=k))=(atKey xs k).isSome:=by
  rw[qs0,(r.val k).isSome_eq,Option.isSome_map]
 unfold putK storedH;rw[e]
 by_cases q:(atKey xs k).isSome=true
 ·rw[if_pos q,if_pos q];exact r.repl k ry
 ·rw[if_neg q,if_neg q];exact Paired.snoc r ⟨rfl,hb,ry⟩
theorem KT.keeps{xs:List (List Key×Addr×Value)}(r:KT H kvs xs)(ht:∀b ys,H b=some (.tup ys)->H' b=some (.tup ys)):KT H' kvs xs :=
 Paired.mapP r λ_ _ z=>⟨z.1,ht _ _ z.2.1,z.2.2⟩
section
variable{P:Program}{w:World}{h:Heap}
theorem gq0{u:HO}(ok:HOk P w H h)(e:Rd H a u):ObjOk P w H h a u:=e.ok ok
theorem q30{kvs:List (Key×V)}(ok:HOk P w H h)(e:Rd H a (.dK kvs)):kvs.length<=sizeLine/\(a==sysModules)=false/\∃vs,KV kvs vs/\h.DictOf (Q4 P w) a vs :=
 show ObjOk P w H h a (.dK kvs) from gq0 ok e
theorem bt0{kvs:List (Key×V)}(ok:HOk P w H h)(e:H a=some (.dK kvs)):kvs.length<=sizeLine/\(a==sysModules)=false/\∃vs,KV kvs vs/\h.DictOf (Q4 P w) a vs:=q30 ok (.inl e)
theorem vj0(ok:HOk P w H h)(e:H a=some (.tup (ks.map kV))):(tupleKind (Q4 P w)).is h ks a:=by
 obtain⟨_,its,r,o,h1,h2,n,h3,_⟩:=(show ObjOk P w H h a (.tup (ks.map kV)) from ok a _ e);exact⟨o,its.toArray,n,h1,h2,h3,by simpa using rd0 r⟩
theorem q70(ok:HOk P w H h)(e:Rd H a (.dT kvs)):kvs.length<=sizeLine/\(a==sysModules)=false /\
  ∃xs,KT H kvs xs/\h.DictOfH (tupleKind (Q4 P w)) a xs:=by
 obtain⟨z,y,xs,r,o,es,ep,h1,h2,h3,h4,h5⟩:=(show ObjOk P w H h a (.dT kvs) from gq0 ok e);refine⟨z,y,xs,r,o,es,ep,h1,h2,h3,h4,λx hx=>?_,h5⟩;have all:∀{l:List (List Key×V)} {m:List (List Key×Addr×Value)},KT H l m->∀x∈m,(tupleKind (Q4 P w)).is h x.1 x.2.1:=by
  intro l m q
  induction q with
  | nil=>intro x hx;exact nomatch hx
  | @cons p q ps qs hq t ih =>
   intro x hx;rcases B3.mp hx with e|hx
   ·subst e
    exact vj0 ok (by rw[← hq.1];exact hq.2.1)
   ·exact ih x hx
 exact all r x hx
theorem f70(ok:HOk P w H h)(e:H a=some (.dT kvs)):kvs.length<=sizeLine/\(a==sysModules)=false /\
  ∃xs,KT H kvs xs/\h.DictOfH (tupleKind (Q4 P w)) a xs:=q70 ok (.inl e)
end
def DGet(H:Hp)(a:Addr)(y:V)(r:Option V):Prop :=
 (∃kvs k,Rd H a (.dK kvs)/\y=kV k/\r=zx0 kvs k)∨∃kvs k b,Rd H a (.dT kvs)/\y=.ref b/\H b=some (.tup (k.map kV))/\r=zx0 kvs k
def DPut(H:Hp)(a:Addr)(y v:V)(H':Hp):Prop :=
 (∃kvs k,H a=some (.dK kvs)/\y=kV k/\kvs.length<sizeLine/\H'=upd H a (.dK (putK kvs k v))) ∨
 ∃kvs k b,H a=some (.dT kvs)/\y=.ref b/\H b=some (.tup (k.map kV))/\kvs.length<sizeLine/\H'=upd H a (.dT (putK kvs k v))
theorem DGet.k{kvs:List (Key×V)}{k:Key}(e:H a=some (.dK kvs)):DGet H a (kV k) (zx0 kvs k):=.inl ⟨kvs,k,.inl e,rfl,rfl⟩
theorem DGet.t{b:Addr}{k:List Key}(e:H a=some (.dT kvs))(eb:H b=some (.tup (k.map kV))):DGet H a (.ref b) (zx0 kvs k):=.inr ⟨kvs,k,b,.inl e,rfl,eb,rfl⟩
theorem DPut.t{b:Addr}{k:List Key}{v:V}(e:H a=some (.dT kvs))(eb:H b=some (.tup (k.map kV)))(hl:kvs.length<sizeLine) :
  DPut H a (.ref b) v (upd H a (.dT (putK kvs k v))):=.inr ⟨kvs,k,b,e,rfl,eb,hl,rfl⟩
section
variable{σ:St}{s:Shared}{v:V}{r:Value}{o:Option V}
theorem kb0(hu:A.units+1<cLine)(I:Inv X pins σ H s)(g:DGet H a y (some v))(ry:RelV y u)(h:∀w' s',Inv X pins σ H s'->RelV v w'->Q w' s') :
  wpAny (model X.prog X.w) A (getItem (.ref a) u) Q E s:=by
 rcases g with⟨kvs,k,e,ey,l⟩|⟨kvs,k,b,e,ey,eb,l⟩
 ·subst ey
  obtain⟨z,hd,vs,F,dd⟩:=q30 I.hok e;obtain⟨w',hw,J⟩:=RelO.some_of (v:=v) (o:=valueAt vs k) (by rw[l];exact F.val k);exact wpAny_getItem_of (q60 ry) dd.mapOf hw (h w' _ (I.tok _) J)
 ·subst ey
  cases (show u=Value.ref b from ry);obtain⟨z,hd,xs,F,dd⟩:=q70 I.hok e;obtain⟨w',hw,J⟩:=RelO.some_of (v:=v) (o:=(atKey xs k).map (·.2)) (by rw[l];exact F.val k);obtain⟨p,hp,L⟩:=P6.mp hw;refine wpAny_getItem_heap (x0 hu) (vj0 I.hok eb) dd hp ?_;rw[L];exact h w' _ (I.tok _) J
theorem fp0(hu:A.units+1<cLine)(I:Inv X pins σ H s)(g:DGet H a y o)(ry:RelV y u)(h:∀s',Inv X pins σ H s'->Q (.bool (!o.isSome)) s') :
  wpAny (model X.prog X.w) A (compareOp .NotIn u (.ref a)) Q E s:=by
 rcases g with⟨kvs,k,e,ey,l⟩|⟨kvs,k,b,e,ey,eb,l⟩
 ·subst ey
  obtain⟨z,hd,vs,F,dd⟩:=q30 I.hok e;refine wpAny_notIn_of (q60 ry) hd dd.mapOf ?_;rw[← (F.val k).isSome_eq,← l];exact h _ (I.tok _)
 ·subst ey
  cases (show u=Value.ref b from ry);obtain⟨z,hd,xs,F,dd⟩:=q70 I.hok e;refine wpAny_notIn_heap (x0 hu) (vj0 I.hok eb) hd dd ?_;have q:=(F.val k).isSome_eq;rw[Option.isSome_map] at q;rw[← q,← l];exact h _ (I.tok _)
theorem sh0{t':Nat}{ob:HO}(I:Inv X pins σ H s)(mu:Mut (H a))(hs:Heap.SameBut a s.heap h')(he:∃q,h'.get? a=some q)(new:ObjOk X.prog X.w (upd H a ob) h' a ob) :
  Inv X pins σ (upd H a ob) { s with heap:=h',toks:=t' } :=
 I.write (x:=a) (e:=a) mu (.inl rfl) (λb q hb z=>(hs.2 b hb).trans z) he new
theorem dv0{P:Program}{w:World}{H':Hp}{kvs:List (Key×V)}{vs:List (Key×Value)}(z:kvs.length<=sizeLine)(hd:(a==sysModules)=false)(rel:KV kvs vs)(dd:h'.DictOf (Q4 P w) a vs) :
  ObjOk P w H' h' a (.dK kvs):=⟨z,hd,vs,rel,dd⟩
theorem kj0{Q:Unit->Shared->Prop}(hu:A.units+1<cLine)(I:Inv X pins σ H s)(g:DPut H a y v H')(ry:RelV y u)(rv:RelV v r)(h:∀s',Inv X pins σ H' s'->Q () s') :
  wpAny (model X.prog X.w) A (setItem (.ref a) u r) Q E s:=by
 rcases g with⟨kvs,k,e,ey,l,eH⟩|⟨kvs,k,b,e,ey,eb,l,eH⟩
 ·subst ey eH
  obtain⟨z,hd,vs,F,dd⟩:=bt0 I.hok e;have hz:vs.length<=sizeLine:=by rw[← F.length];exact z
  have hl:(putK kvs k v).length<=sizeLine:=by have:=xr0 kvs k v;omega
  refine wpAny_setItem_pairs (hsz:=hz) (q60 ry) dd λh' J hs=>h _ ?_
  have he:∃q,h'.get? a=some q:=let ⟨q,_,_,hq,_⟩:=J;⟨q,hq⟩
  exact sh0 I (by rw[e];exact True.intro) hs he (dv0 hl hd (F.put k rv) J)
 ·subst ey eH
  cases (show u=Value.ref b from ry);obtain⟨z,hd,xs,F,dd⟩:=f70 I.hok e;have hz:xs.length<=sizeLine:=by rw[← Paired.length F];exact z
  have hl:(putK kvs k v).length<=sizeLine:=by have:=xr0 kvs k v;omega
  refine wpAny_setItem_heap (hsz:=hz) (x0 hu) (vj0 I.hok eb) dd λh' J hs=>h _ ?_
  obtain⟨q,es,ep,hq,h2,h3,h4,_,h5⟩:=J;refine sh0 I (by rw[e];exact True.intro) hs ⟨q,hq⟩ ⟨hl,hd,_,(F.put k eb rv).keeps λc ys ec=>?_,q,es,ep,hq,h2,h3,h4,h5⟩;rw[Z8 (f60 ec e (λz=>nomatch z))];exact ec
end
def i90(i:Expr):Prop:=∀ov iv,subscripted i false ov iv=operate [ov,iv] (getItem ov iv)
theorem fs0{prog:Program}{w:World}{A:Around}{E:Value->Shared->Prop}{s:Shared}{env:Env}{value slice:Expr}{pos:Pos}{T id:String}{Q:Value->Shared->Prop}
  (hl:typeLookup (.type T) "__getitem__"=pure (some (.builtin id))) (hs:i90 slice)
  (h:wpAny (model prog w) A (eval value env) (λo s₁=>wpAny (model prog w) A (eval slice env) (λi s₂=>s₂.TypeIs o T/\wpAny (model prog w) A (getItem o i) Q E s₂) E s₁) E s) :
  wpAny (model prog w) A (eval (.Subscript value slice pos) env) Q E s:=by
 refine Subscript_ (D2 h (λo s₁ h₁=>D2 h₁ (λi s₂ h₂=>?_) λ_ _ x=>x) λ_ _ x=>x);obtain⟨hT,h₂⟩:=h₂;unfold subscriptTail;refine A0 ?_;rw[getitemInPython_of_ne hT.not_modules];refine A0 (x5 hT hl ?_);have fin:wpAny (model prog w) A (subscripted slice false o i) (λr s₃=>wpAny (model prog w) A (letTemporaryGo value o r>>=λ_=>pure r) Q E s₃) E s₂:=by
  rw[hs o i];exact wpAny_operating (D2 h₂ (λr s₃ h₃=>A0 (wpAny_letTemporaryGo (A1 h₃))) λ_ _ x=>x)
 first
  | exact A1 (A0 fin)
  | exact A0 (A1 (A0 fin))
  | exact A0 fin
theorem nd0{σ:St}{s:Shared}{o:Option V}(I:Inv X pins σ H s)(g:DGet H a y o):s.TypeIs (.ref a) "dict" := by
 rcases g with⟨kvs,k,e,_,_⟩|⟨kvs,k,b,e,_,_,_⟩
 ·obtain⟨_,_,vs,_,dd⟩:=q30 I.hok e
  exact dd.typeIs
 ·obtain⟨_,_,xs,_,dd⟩:=q70 I.hok e
  exact dd.typeIs
def Zc0(td ty:TE):TE:=fun σ H Q=>td σ H λx H1=>ty σ H1 λy H2=>∃a v,x=.ref a/\DGet H2 a y (some v)/\Q v H2
def ff0(ty td:TE):TE:=fun σ H Q=>ty σ H λy H1=>td σ H1 λx H2=>∃a o,x=.ref a/\DGet H2 a y o/\Q (.bl (!o.isSome)) H2
section
variable{i:Expr}{ty:TE}
theorem d80(hu:X.A.units+1<cLine)(ho:PE X o td)(hi:PE X i ty)(hs:i90 i):PE X (.Subscript o i pos) (Zc0 td ty):=by
 intro pins s σ H Q I h;refine fs0 PySem.F.slot_dict_getitem.lookup hs (thn (ho pins s σ H _ I h) λu s1 ⟨x,H1,I1,rx,q1⟩=>thn (hi pins s1 σ H1 _ I1 q1) λiv s2 ⟨y,H2,I2,ry,a,v,ex,g,q2⟩=>?_);subst ex;obtain rfl:u=Value.ref a:=rx;exact⟨nd0 I2 g,kb0 hu I2 g ry λw' s3 I3 J=>⟨v,H2,I3,J,q2⟩⟩
theorem jz0(hu:X.A.units+1<cLine)(hi:PE X i ty)(ho:PE X o td):PC X .NotIn i o (ff0 ty td):=by
 intro pins s σ H Q I h;refine thn (hi pins s σ H _ I h) λiv s1 ⟨y,H1,I1,ry,q1⟩=>thn (ho pins s1 σ H1 _ I1 q1) λu s2 ⟨x,H2,I2,rx,a,ov,ex,g,q2⟩=>?_
 subst ex;obtain rfl:u=Value.ref a:=rx;exact fp0 hu I2 g ry λs3 I3=>⟨.bl (!ov.isSome),H2,I3,rfl,q2⟩
end
theorem h20{P:Program}{w:World}(h:Heap)(hb:sysModules<h.objs.size):ObjOk P w H (h.push { cls:=.type "dict",data:=.dict #[] }) h.objs.size (.dT []) :=
 ⟨E8 _,Aa0.mpr (C6 (B0 hb)),[],.nil,_,#[],0,B7 _ rfl,⟨rfl,rfl,rfl⟩,rfl,rfl,Y3⟩
def jq0:List (TE×TE)->St->Hp->(List (V×V)->Hp->Prop)->Prop
 | [],_,H,Q=>Q [] H
 | (tk,tv)::r,σ,H,Q=>tk σ H λx H1=>tv σ H1 λy H2=>jq0 r σ H2 λps H3=>Q ((x,y)::ps) H3
abbrev VV:List (V×V)->List (Value×Value)->Prop:=Paired λp q=>RelV p.1 q.1/\RelV p.2 q.2
def PPs(X:Cx)(pos:Pos)(keys:List (Option Expr))(values:List Expr)(trs:List (TE×TE)):Prop :=
 ∀(pins:List (Addr×Obj)) (s:Shared) (σ:St) (H:Hp) (Q:List (V×V)->Hp->Prop),Inv X pins σ H s->jq0 trs σ H Q ->
  wpAny (model X.prog X.w) X.A (evalPairs (pairTrees keys values X.env pos)) (λvs s'=>∃ps H',Inv X pins σ H' s'/\VV ps vs/\Q ps H') X.xe s
theorem fr0:PPs X pos [] [] []:=λpins s σ H Q I h=>pairTrees_nil_walk ⟨[],H,I,.nil,h⟩
theorem ix0{k v:Expr}{ks:List (Option Expr)}{vs:List Expr}{tk:TE}{trs:List (TE×TE)}(hk:PE X k tk)(hv:PE X v tv)(hr:PPs X pos ks vs trs) :
  PPs X pos (some k::ks) (v::vs) ((tk,tv)::trs):=λpins s σ H Q I h =>
 pairTrees_cons_walk (thn (hk pins s σ H _ I h) λu s1 ⟨x,H1,I1,rx,q1⟩=>thn (hv pins s1 σ H1 _ I1 q1) λw2 s2 ⟨y,H2,I2,ry,q2⟩ =>
  thn (hr pins s2 σ H2 _ I2 q2) λws s3 ⟨ps,H3,I3,F,q3⟩=>⟨(x,y)::ps,H3,I3,.cons ⟨rx,ry⟩ F,q3⟩)
end L2
namespace DL
open Spec PyProof.Rows L2
section
variable{σ σ':St}
theorem Gr.fresh{p:Addr}{o:HO}(h:H p=none):Gr H (upd H p o) B (λa=>B a∨a=p):=λb u n e=>by
 have hb:b≠p:=T5 e h;exact⟨λz=>z.elim n hb,by rw[Z8 hb];exact e⟩
theorem Gr.own{o:HO}(h:B a):Gr H (upd H a o) B B:=λb u n e=>⟨n,by rw[Z8 (λz=>n (by rw[z];exact h))];exact e⟩
theorem RpO.mono{d:D}(s:∀o,H a=some o->H' a=some o)(g:Gr H H' B B')(h:RpO K H B d a):RpO K H' B' d a:=by
 cases d<;>try exact h.elim
 ·obtain⟨xs,e,r⟩:=h;exact⟨xs,s _ e,r.mono g⟩
 ·obtain⟨xs,e,l,r⟩:=h;exact⟨xs,s _ e,l,r.mono g⟩
theorem RpL.mono{d:D}(s:∀o,H a=some o->H' a=some o)(g:Gr H H' B B')(h:RpL K H B d a):RpL K H' B' d a:=by
 cases d with
 | tup es=>obtain⟨ds,q,xs,e,r⟩:=h;exact⟨ds,q,xs,s _ e,r.mono g⟩
 | _=>exact(RpO.mono s g (RpL.toO rfl h)).toL
theorem Pd.impI{F G:α->β->Prop}:∀{l:List α} {m:List β},(∀(i:Nat) a b,l[i]?=some a->m[i]?=some b->F a b->G a b)->Paired F l m->Paired G l m
 | _,_,_,.nil=>.nil
 | _,_,h,.cons r t=>.cons (h 0 _ _ rfl rfl r) (Pd.impI (λi a b e1 e2=>h (i+1) a b (by simpa using e1) (by simpa using e2)) t)
theorem p40:∀{l:List α} {i:Nat} {a:α},l[i]?=some a->l.set i a=l
 | [],_,_,h=>by simp at h
 | x::l,0,a,h=>by simp at h;subst h;rfl
 | x::l,i+1,a,h=>by rw[List.set_cons_succ,p40 (by simpa using h)]
theorem Pd.setR{F:α->β->Prop}{a:α}{b:β}(r:F a b){l:List α}{m:List β}(e:l[i]?=some a)(h:Paired F l m):Paired F l (m.set i b):=by
 have:=Pd.set r i h
 rwa [p40 e] at this
theorem get_set{l:List α}{a b:α}(h:(l.set i a)[j]?=some b):(i=j/\a=b/\j<l.length)∨(i≠j/\l[j]?=some b):=by
 by_cases e:i=j
 ·subst e
  by_cases hl:i<l.length
  ·rw[List.getElem?_set_self hl] at h
   exact .inl ⟨rfl,B1 h,hl⟩
  ·rw[List.getElem?_eq_none (by simpa using hl)] at h;cases h
 ·rw[List.getElem?_set_ne e] at h
  exact .inr ⟨e,h⟩
theorem Env.at(e:Env K H B σ δ){d:D}(h:δ[i]?=some (.ow d)):∃a,σ[i]?=some (some (.ref a))/\B a/\RpL K H B d a:=by
 obtain⟨o,h1,a,rfl,hb,r⟩:=Pd.get e.all h;exact⟨a,h1,hb,r⟩
theorem Env.mut(e:Env K H B σ δ){d0 d:D}{o:HO}(hi:δ[i]?=some (.ow d0))(hs:σ[i]?=some (some (.ref a)))(r:RpL K (upd H a o) B d a):Env K (upd H a o) B σ (δ.set i (.ow d)):=by
 obtain⟨a',h1,hb,_⟩:=e.at hi;rw[hs] at h1;cases h1;refine⟨?_,λb z=>?_,λj k b ds es h1 h2 h3 h4=>?_⟩
 ·
  have h0:Paired (λ(o':Option V) (s:Sl)=>SlR K (upd H a o) B o' s∨(∃d,s=.ow d/\o'=some (.ref a))) σ δ:=Pd.imp (λo' s h=>by
   cases s with
   | un=>exact .inl trivial
   | ex c n=>obtain⟨v,e,r⟩:=h;exact .inl ⟨v,e,r.mono (Gr.own hb)⟩
   | sh d=>obtain⟨v,e,r⟩:=h;exact .inl ⟨v,e,r.mono (Gr.own hb)⟩
   | ow d =>
    obtain⟨b,e,F,r⟩:=h
    by_cases z:b=a
    ·subst z;exact .inr ⟨d,rfl,e⟩
    ·exact .inl ⟨b,e,F,r.mono (λo h=>by rw[Z8 z];exact h) (Gr.own hb)⟩) e.all
  have h1:=Pd.setR (i:=i) (b:=Sl.ow d) (.inl ⟨a,rfl,hb,r⟩) hs h0;refine Pd.impI (λj o' s e1 e2 h=>?_) h1;rcases h with h|⟨d',rfl,rfl⟩
  ·exact h
  ·rcases get_set e2 with⟨rfl,e3,_⟩|⟨J,e3⟩
   ·cases e3;exact⟨a,rfl,hb,r⟩
   ·exact absurd (e.own i j a d0 d' hi e3 hs e1) J
 ·by_cases z':b=a
  ·subst z';exact r.live
  ·rw[Z8 z'];exact e.bad b z
 ·have q1:∃d,δ[j]?=some (.ow d):=by
   rcases get_set h1 with⟨rfl,_,_⟩|⟨_,h⟩
   ·exact⟨_,hi⟩
   ·exact⟨_,h⟩
  have q2:∃d,δ[k]?=some (.ow d):=by
   rcases get_set h2 with⟨rfl,_,_⟩|⟨_,h⟩
   ·exact⟨_,hi⟩
   ·exact⟨_,h⟩
  obtain⟨d1,q1⟩:=q1;obtain⟨d2,q2⟩:=q2;exact e.own j k b d1 d2 q1 q2 h3 h4
theorem EnvS.mut(en:EnvS K H₀ B₀ H σ δ)(s:Same H H')(b1:∀a,B₀ a->B a)(b2:∀a,B a->B₀ a∨H₀ a=none){d0 d:D}{o:HO}(hi:δ[i]?=some (.ow d0))(hs:σ[i]?=some (some (.ref a)))
  (env:Env K (upd H' a o) B σ (δ.set i (.ow d))):EnvS K H₀ B₀ (upd H' a o) σ (δ.set i (.ow d)):=by
 have h0:=en.fr i d0 a hi hs;refine⟨λb u h=>?_,⟨B,b1,b2,env⟩,λj ds b h1 h2=>?_,en.b0⟩
 ·have:b≠a:=λz=>by rw[z,h0] at h;cases h
  rw[Z8 this];exact s _ _ (en.same b u h)
 ·rcases get_set h1 with⟨rfl,_,_⟩|⟨_,h⟩
  ·rw[hs] at h2;cases h2;exact h0
  ·exact en.fr j ds b h h2
theorem EnvS.take(en:EnvS K H₀ B₀ H σ δ)(b1:∀a,B₀ a->B a)(b2:∀a,B a->B₀ a∨H₀ a=none)(e:Env K H B σ δ)(i:Nat){d:D}{p:Addr}(hp:H p=none)(s:Same H H')
  (r:RpO K H' (λa=>B a∨a=p) d p):EnvS K H₀ B₀ H' (σ.set i (some (.ref p))) (δ.set i (.ow d)):=by
 have g:Gr H H' B (λa=>B a∨a=p):=λb u n h=>⟨λz=>z.elim n (T5 h hp),s _ _ h⟩
 have F:H₀ p=none:=en.same.free hp;have live:∀{j:Nat} {d':D} {b:Addr},δ[j]?=some (.ow d')->σ[j]?=some (some (.ref b))->b≠p:=λ{j d' b} h1 h2=>by
  obtain⟨a,q1,q2,q3⟩:=e.at h1;rw[h2] at q1;cases q1;exact λz=>e.bad _ q2 (by rw[z];exact hp)
 refine⟨en.same.trans s,⟨λa=>B a∨a=p,λa z=>.inl (b1 a z),λa z=>?_,?_,λa z=>?_,λj k a ds es h1 h2 h3 h4=>?_⟩,λj ds a h1 h2=>?_,en.b0⟩
 ·rcases z with z|rfl
  ·exact b2 a z
  ·exact .inr F
 ·refine Pd.set ⟨p,rfl,.inr rfl,r.toL⟩ i (Pd.imp (λo sl h=>?_) e.all)
  cases sl with
  | un=>trivial
  | ex c n=>obtain⟨v,e,r⟩:=h;exact⟨v,e,r.mono g⟩
  | sh d=>obtain⟨v,e,r⟩:=h;exact⟨v,e,r.mono g⟩
  | ow d=>obtain⟨b,e,J,r⟩:=h;exact⟨b,e,.inl J,r.mono (λo h=>s _ _ h) g⟩
 ·rcases z with z|rfl
  ·exact(e.bad a z).same s
  ·exact r.live
 ·rcases get_set h1 with⟨rfl,_,_⟩|⟨n1,h1⟩
  ·rcases get_set h2 with⟨rfl,_,_⟩|⟨n2,h2⟩
   ·rfl
   ·rcases get_set h3 with⟨_,e3,_⟩|⟨n3,_⟩
    ·cases e3
     rw[List.getElem?_set_ne n2] at h4;exact absurd rfl (live h2 h4)
    ·exact absurd rfl n3
  ·rcases get_set h2 with⟨rfl,_,_⟩|⟨n2,h2⟩
   ·rcases get_set h4 with⟨_,e4,_⟩|⟨n4,_⟩
    ·cases e4
     rw[List.getElem?_set_ne n1] at h3;exact absurd rfl (live h1 h3)
    ·exact absurd rfl n4
   ·rw[List.getElem?_set_ne n1] at h3
    rw[List.getElem?_set_ne n2] at h4;exact e.own j k a ds es h1 h2 h3 h4
 ·rcases get_set h1 with⟨rfl,_,_⟩|⟨n1,h1⟩
  ·rcases get_set h2 with⟨_,e3,_⟩|⟨n3,_⟩
   ·cases e3;exact F
   ·exact absurd rfl n3
  ·rw[List.getElem?_set_ne n1] at h2
   exact en.fr j ds a h1 h2
theorem Env.frz(e:Env K H B σ δ):∃B':BS,(∀a,B' a->B a)/\(∀a,B a->B' a∨∃(i:Nat) (d:D),δ[i]?=some (.ow d)/\σ[i]?=some (some (.ref a)))/\Env K H B' σ (DL.frz δ):=by
 refine⟨λa=>B a/\¬∃(i:Nat) (d:D),δ[i]?=some (.ow d)/\σ[i]?=some (some (.ref a)),λa z=>z.1,λa z=>?_,?_,λa z=>e.bad a z.1,λi j a ds es h1 _ _ _=>?_⟩
 ·by_cases q:∃(i:Nat) (d:D),δ[i]?=some (.ow d)/\σ[i]?=some (some (.ref a))
  ·exact .inr q
  ·exact .inl ⟨z,q⟩
 ·have:Paired (λo s=>SlR K H (λa=>B a/\¬∃(i:Nat) (d:D),δ[i]?=some (.ow d)/\σ[i]?=some (some (.ref a))) o (zg0 s)) σ δ:=Pd.impI (λi o s e1 e2 h=>by
   cases s with
   | un=>trivial
   | ex c n=>obtain⟨v,e,r⟩:=h;exact⟨v,e,r.mono (Gr.less λa z=>z.1)⟩
   | sh d=>obtain⟨v,e,r⟩:=h;exact⟨v,e,r.mono (Gr.less λa z=>z.1)⟩
   | ow d =>
    obtain⟨a,rfl,hb,r⟩:=h;exact⟨_,rfl,r.rp (λa z=>z.1) λz=>z.2 ⟨i,d,e2,e1⟩⟩) e.all
  have mp:∀{l:St} {m:Ds} {F:Option V->Sl->Prop},Paired (λo s=>F o (zg0 s)) l m->Paired F l (m.map zg0):=by
   intro l m F h
   induction h with
   | nil=>exact .nil
   | cons r t ih=>exact .cons r ih
  exact mp this
 ·unfold DL.frz at h1
  rw[List.getElem?_map] at h1;cases q:δ[i]? with
  | none=>rw[q] at h1;cases h1
  | some s=>rw[q] at h1;cases s<;>cases h1
theorem EnvS.frz(en:EnvS K H₀ B₀ H σ δ):EnvS K H₀ B₀ H σ (DL.frz δ):=by
 obtain⟨B,b1,b2,env⟩:=en.ex;obtain⟨B',c1,c2,F⟩:=env.frz;refine⟨en.same,⟨B',λa z=>?_,λa z=>b2 a (c1 a z),F⟩,λi ds a h1 _=>?_,en.b0⟩
 ·rcases c2 a (b1 a z) with q|⟨i,d,q1,q2⟩
  ·exact q
  ·exact absurd (en.fr i d a q1 q2) (en.b0 a z)
 ·unfold DL.frz at h1
  rw[List.getElem?_map] at h1;cases q:δ[i]? with
  | none=>rw[q] at h1;cases h1
  | some s=>rw[q] at h1;cases s<;>cases h1
theorem eb0{d:D}{v:V}(h:flat d=true)(r:Rp K H B d v):Rp K H' B' d v:=by
 cases d<;>simp[flat] at h
 ·rw[T3] at r ⊢;exact r
 ·rw[W7] at r ⊢;exact r
 ·rw[m9] at r ⊢;exact r
 ·rw[Y8] at r ⊢;exact r
end
section
variable{g:GE}{gt:GB}
theorem xy0(h:PD X e g):PD X e (y40 g):=.mk λB δ pins s σ H Q I ⟨d,en,hq,k⟩=>by
 obtain⟨B',c1,c2,F⟩:=en.frz;unfold y40 at hq;cases e1:g (frz δ) with
 | none=>rw[e1] at hq;cases hq
 | some x =>
  rw[e1] at hq
  by_cases hf:flat x=true
  ·simp only[Option.bind_some,if_pos hf] at hq
   cases hq;exact h B' (frz δ) pins s σ H Q I ⟨_,F,e1,λv H' s' r=>k v H' s' (eb0 hf r)⟩
  ·simp only[Option.bind_some,if_neg hf] at hq
   cases hq
theorem vx0(h:PTD X e gt):PTD X e (ya0 gt):=.mk λB δ pins s σ H Q I ⟨d,en,hq,k⟩=>by
 obtain⟨B',c1,c2,F⟩:=en.frz;exact h B' (frz δ) pins s σ H Q I ⟨d,F,hq,k⟩
theorem K3(h:PD X e g):PSD X (.Return (some e) pos) (d9 (zi0 g)):=.mk λH₀ B₀ δ pins s σ H D I ⟨r,en,hq,k⟩ =>
 j6 h H₀ B₀ (frz δ) pins s σ H D I ⟨r,en.frz,hq,k⟩
theorem Q3{gA:GA}(h:PDA X es gA):PDF X (.List es pos) (X5 gA) :=
 .mk λB δ=>(kr0 (h B δ)).imp fun σ H Q ⟨d,en,h,k⟩=>by
  unfold X5 at h;cases e1:gA δ with
  | none=>rw[e1] at h;cases h
  | some ds =>
   rw[e1] at h
   by_cases hl:ds.length<=sizeLine
   ·simp only[Option.bind_some,if_pos hl] at h
    cases h;refine⟨ds,en,e1,λvs H1 s1 r1=>⟨by rw[r1.length];exact hl,λp hp=>k _ _ (s1.free hp) (s1.trans (Y5 hp)) ⟨vs,Z6,r1.mono (Gr.fresh hp)⟩⟩⟩
   ·simp only[Option.bind_some,if_neg hl] at h
    cases h
theorem S8(i:Nat){px:Pos}(h:PDF X e g)(hN:X.N.Nodup)(hi:X.N[i]?=some x:=by rfl)(hx:Loc X.env.scope x:=by first|exact Or.inl rfl|exact Or.inr rfl)
  (hs:swapsWithSole [.Name x px] e pos.line X.env=pure false:=by rfl) (hw:swappedStores [.Name x px] e X.env=pure none:=by rfl)
  (h1:(assignEach [.Name x px] X.env).map (·.2)=[assign (.Name x px) X.env]:=by rfl)
  (hf:X.fn x=true∨X.env.scope.names.lookup x=some .local:=by first|exact .inl rfl|exact .inr rfl|assumption):PSD X (.Assign [.Name x px] e pos) (U7 i g):=.mk λH₀ B₀ δ pins s σ H D I ⟨r,en,e1,k⟩=>by
 unfold U7 at e1;obtain⟨B,b1,b2,env⟩:=en.ex;cases e2:g δ with
 | none=>rw[e2] at e1;cases e1
 | some d =>
  rw[e2] at e1;cases e1;exact pg0 (h B δ) (u80 (i:=i) hN hi hx hf) hs hw h1 pins s σ H D I ⟨d,env,e2,λp H' hp s' r=>k _ H' (en.take b1 b2 env i hp s' r)⟩
end
end DL
namespace L2
open Spec PyProof.Rows
open PySem.AutoSeq1 (wpAny_loadPart')
def b60:V->V->V->Hp->(Hp->Prop)->Prop:=λo i v H Q=>∃a H',o=.ref a/\DPut H a i v H'/\Q H'
theorem set_dict(hu:X.A.units+1<cLine):ij0 X b60:=by
 intro pins s σ H o i v ov iv u Q I ro ri rv h;obtain⟨a,H',rfl,g,q⟩:=h;cases ro;exact kj0 hu I g ri rv λs3 I3=>⟨H',I3,q⟩
end L2
namespace DL
open Spec PyProof.Rows L2
section
variable{σ σ':St}
theorem Rps.set:∀{ds:List D} {xs:List V} {d:D} {v:V} (j:Nat),Rps K H B ds xs->Rp K H B d v->Rps K H B (ds.set j d) (xs.set j v)
 | [],_,_,_,_,h,_=>by rw[j5] at h;subst h;simp[j5]
 | d::ds,_,_,_,0,h,r=>by
  rw[o8] at h;obtain⟨y,t,rfl,h1,h2⟩:=h;rw[List.set_cons_zero,List.set_cons_zero,o8];exact⟨_,_,rfl,r,h2⟩
 | d::ds,_,_,_,j+1,h,r=>by
  rw[o8] at h;obtain⟨y,t,rfl,h1,h2⟩:=h;rw[List.set_cons_succ,List.set_cons_succ,o8];exact⟨_,_,rfl,h1,Rps.set j h2 r⟩
theorem Rps.dropLast(h:Rps K H B ds xs):Rps K H B ds.dropLast xs.dropLast:=by
 rw[List.dropLast_eq_take,List.dropLast_eq_take,h.length];exact h.take _
structure EnvV(K:W.Frag)(H₀:Hp)(B₀:BS)(H:Hp)(σ:St)(δ:Ds)(d:D)(v:V):Prop where
 same:Same H₀ H
 ex:∃B:BS,(∀a,B₀ a->B a)/\(∀a,B a->B₀ a∨H₀ a=none)/\Env K H B σ δ/\Rp K H B d v
 fr:∀(i:Nat) (ds:D) (a:Addr),δ[i]?=some (.ow ds)->σ[i]?=some (some (.ref a))->H₀ a=none
 b0:∀a,B₀ a->NB (H₀ a)
theorem EnvV.s{d:D}{v:V}(h:EnvV K H₀ B₀ H σ δ d v):EnvS K H₀ B₀ H σ δ:=⟨h.same,let ⟨B,b1,b2,e,_⟩:=h.ex;⟨B,b1,b2,e⟩,h.fr,h.b0⟩
theorem EnvV.mk'{d:D}{v:V}(h:EnvS K H₀ B₀ H σ δ)(b1:∀a,B₀ a->B a)(b2:∀a,B a->B₀ a∨H₀ a=none)(e:Env K H B σ δ)(r:Rp K H B d v):EnvV K H₀ B₀ H σ δ d v:=⟨h.same,⟨B,b1,b2,e,r⟩,h.fr,h.b0⟩
end
def tX(K:W.Frag)(H₀:Hp)(B₀:BS)(δ:Ds)(gx:GX):TE:=fun σ H Q=>∃r,EnvS K H₀ B₀ H σ δ/\gx δ=some r/\∀v H',EnvV K H₀ B₀ H' σ r.2 r.1 v->Q v H'
structure PX(X:Cx)(e:Expr)(gx:GX):Prop where
 mk::go:∀H₀ B₀ δ,PE X e (tX X.K H₀ B₀ δ gx)
instance{X:Cx}{e:Expr}{gx:GX}:CoeFun (PX X e gx) (λ_=>∀H₀ B₀ δ,PE X e (tX X.K H₀ B₀ δ gx)):=⟨PX.go⟩
def tTG(K:W.Frag)(H₀:Hp)(B₀:BS)(ft:D->Ds->Option Ds)(d:D)(δ:Ds):TG:=λv σ H Q=>∃δ',EnvV K H₀ B₀ H σ δ d v/\ft d δ=some δ'/\∀σ' H',EnvS K H₀ B₀ H' σ' δ'->Q σ' H'
structure PTG(X:Cx)(tg:Expr)(ft:D->Ds->Option Ds):Prop where
 mk::go:∀H₀ B₀ d δ,PG X tg (tTG X.K H₀ B₀ ft d δ)
instance{X:Cx}{tg:Expr}{ft:D->Ds->Option Ds}:CoeFun (PTG X tg ft) (λ_=>∀H₀ B₀ d δ,PG X tg (tTG X.K H₀ B₀ ft d δ)):=⟨PTG.go⟩
section
variable{g:GE}{gt:GB}
theorem se0(h:PD X e g):PX X e (y90 g):=.mk λH₀ B₀ δ pins s σ H Q I ⟨r,en,e1,k⟩=>by
 unfold y90 at e1;obtain⟨B,b1,b2,env⟩:=en.ex;cases e2:g δ with
 | none=>rw[e2] at e1;cases e1
 | some d =>
  rw[e2] at e1;cases e1;exact h B δ pins s σ H Q I ⟨d,env,e2,λv H' s' r=>k v H' (EnvV.mk' (en.grow s') b1 b2 (env.same s') r)⟩
theorem tl0(h:owL i δ=some ds):δ[i]?=some (.ow (.lst ds)):=by
 unfold owL at h;split at h
 ·cases h;assumption
 ·cases h
theorem G8(i:Nat)(h:PD X e g)(hN:X.N[i]?=some x:=by rfl)(hv:Vis X.env.scope x:=by first|exact Or.inl rfl|exact Or.inr (Or.inl rfl)|exact Or.inr (Or.inr rfl))(hd:(x==("__debug__" : Str))=false:=by decide)(hcd:(x==("__classdict__" : Str))=false:=by decide)
  (hbase:attributeBase (.Name x px) "append" X.env (eval (.Name x px) X.env)=eval (.Name x px) X.env:=by rfl)
  (hfew:((backTo cpos (starEach [e] X.env)).all (λx=>!x.1)&&(backToKw cpos (keywordEach [] X.env)).all (λx=>x.1.isSome)
  &&decide (([e]:List Expr).length+([]:List Keyword).length+(if ([]:List Keyword).isEmpty then 0 else 1)<30))=true:=by rfl)
  (hline:(apos.endLine==cpos.line)=true:=by rfl) (hs:starEach [e] X.env=(false,eval e X.env)::starEach [] X.env:=by rfl) (hplain:(backTo cpos (starEach [] X.env)).any (·.1)=false:=by rfl) :
  PX X (.Call (.Attribute (.Name x px) "append" apos) [e] [] cpos) (V8 i g):=.mk λH₀ B₀ δ pins s σ H Q I ⟨r,en,e1,k⟩=>by
 unfold V8 at e1;obtain⟨B,b1,b2,env⟩:=en.ex;cases e2:owL i δ with
 | none=>rw[e2] at e1;cases e1
 | some ds =>
  cases e3:g δ with
  | none=>rw[e2,e3] at e1;cases e1
  | some d =>
   rw[e2,e3] at e1;simp only[Option.bind_some] at e1;split at e1
   ·rename_i hz
    cases e1;have hi:=tl0 e2;obtain⟨a,J,hb,xs,hx,rx⟩:=env.at hi;refine f80 x8 PySem.F.slot_list_append PySem.F.type_list_append re0 (zs0 (i:=i) hN hv hd hcd) (J7 (h B δ) xh0 hs) hbase hfew hline hs hplain pins s σ H Q I
     ⟨_,J,.inl ⟨rfl,xs,.inl (.inl hx)⟩,d,env,e3,λv H1 s1 r1=>⟨a,xs,v,rfl,rfl,s1 _ _ hx,by rw[rx.length];exact hz,?_⟩⟩
    have L:Env X.K (upd H1 a (.lst (xs++[v]))) B σ (δ.set i (.ow (.lst (ds++[d])))):=(env.same s1).mut hi J ⟨_,Z6,(Rps.snoc (rx.same s1) r1).mono (Gr.own hb)⟩;exact k _ _ (EnvV.mk' (en.mut s1 b1 b2 hi J L) b1 b2 L (by rw[T3]))
   ·cases e1
theorem cf0(i:Nat)(hN:X.N[i]?=some x:=by rfl)(hv:Vis X.env.scope x:=by first|exact Or.inl rfl|exact Or.inr (Or.inl rfl)|exact Or.inr (Or.inr rfl))(hd:(x==("__debug__" : Str))=false:=by decide)(hcd:(x==("__classdict__" : Str))=false:=by decide)
  (hbase:attributeBase (.Name x px) "pop" X.env (eval (.Name x px) X.env)=eval (.Name x px) X.env:=by rfl) (hline:(apos.endLine==cpos.line)=true:=by rfl) :
  PX X (.Call (.Attribute (.Name x px) "pop" apos) [] [] cpos) (vb0 i):=.mk λH₀ B₀ δ pins s σ H Q I ⟨r,en,e1,k⟩=>by
 unfold vb0 at e1;obtain⟨B,b1,b2,env⟩:=en.ex;cases e2:owL i δ with
 | none=>rw[e2] at e1;cases e1
 | some ds =>
  rw[e2] at e1;simp only[Option.bind_some] at e1;cases e3:ds.getLast? with
  | none=>rw[e3] at e1;cases e1
  | some d =>
   rw[e3] at e1;cases e1;have hi:=tl0 e2;obtain⟨a,J,hb,xs,hx,rx⟩:=env.at hi;rw[List.getLast?_eq_getElem?] at e3;obtain⟨y,hy,ry⟩:=rx.get e3;refine j80 x8 PySem.F.slot_list_pop PySem.F.type_list_pop cu0 (zs0 (i:=i) hN hv hd hcd) hbase hline pins s σ H Q I
    ⟨_,J,.inl ⟨rfl,xs,.inl (.inl hx)⟩,a,xs,y,rfl,rfl,hx,by rw[rx.length];exact hy,?_⟩
   have L:Env X.K (upd H a (.lst xs.dropLast)) B σ (δ.set i (.ow (.lst ds.dropLast))):=env.mut hi J ⟨_,Z6,rx.dropLast.mono (Gr.own hb)⟩;exact k _ _ (EnvV.mk' (en.mut (Same.refl _) b1 b2 hi J L) b1 b2 L (ry.mono (Gr.own hb)))
theorem ba0{f:D->Ds->Option Ds}(h:PGD X tg idx f):PTG X tg f:=.mk λH₀ B₀ d δ pins s σ H v u Q I r ⟨δ',en,e1,k⟩=>by
 obtain⟨B,b1,b2,env,rv⟩:=en.ex;exact h B d δ pins s σ H v u Q I r ⟨δ',rv,env,e1,fun σ' w en'=>k σ' H (en.s.wr b1 b2 (Same.refl _) w en')⟩
theorem ev0(i:Nat)(h:PD X e g)(hN:X.N[i]?=some x:=by rfl)(hv:Vis X.env.scope x:=by first|exact Or.inl rfl|exact Or.inr (Or.inl rfl)|exact Or.inr (Or.inr rfl))(hd:(x==("__debug__" : Str))=false:=by decide)(hcd:(x==("__classdict__" : Str))=false:=by decide)
  (ha:∀v,assign (.Subscript (.Name x px) e pos) X.env v=(do
   let ov ← holding [v] (eval (.Name x px) X.env)
   let iv ← holding [v,ov] (eval e X.env)
   standAt pos
   holding [v,ov,iv] (setItem ov iv v)
   release [v,ov,iv] []):=by intro _;rfl):PTG X (.Subscript (.Name x px) e pos) (setAt i g):=.mk λH₀ B₀ d δ pins s σ H v u Q I r ⟨δ',en,e1,k⟩=>by
 unfold setAt at e1;obtain⟨B,b1,b2,env,rv⟩:=en.ex;cases e2:owL i δ with
 | none=>rw[e2] at e1;cases e1
 | some ds =>
  cases e3:g δ with
  | none=>rw[e2,e3] at e1;cases e1
  | some dk =>
   rw[e2,e3] at e1;simp only[Option.bind_some] at e1;cases dk<;>try cases e1
   rename_i kk;dsimp only at e1;cases e4:ixN ds.length kk with
   | none=>rw[e4] at e1;cases e1
   | some j =>
    rw[e4] at e1;cases e1;have hi:=tl0 e2;obtain⟨a,F,hb,xs,hx,rx⟩:=env.at hi;refine lv0 (zs0 (i:=i) hN hv hd hcd) (h B δ) set_list ha pins s σ H v u Q I r ⟨_,F,_,env,e3,λiv H1 s1 r1=>?_⟩;rw[m9] at r1;subst r1;refine⟨a,xs,kk,j,rfl,rfl,s1 _ _ hx,by rw[rx.length];exact e4,?_⟩;have J:Env X.K (upd H1 a (.lst (xs.set j v))) B σ (δ.set i (.ow (.lst (ds.set j d)))):=(env.same s1).mut hi F ⟨_,Z6,(Rps.set j (rx.same s1) (rv.same s1)).mono (Gr.own hb)⟩;exact k _ _ (en.s.mut s1 b1 b2 hi F J)
theorem wn0{ft:D->Ds->Option Ds}(h:PX X e gx)(hg:PTG X tg ft)(hs:swapsWithSole [tg] e pos.line X.env=pure false:=by rfl)(hw:swappedStores [tg] e X.env=pure none:=by rfl)
  (h1:(assignEach [tg] X.env).map (·.2)=[assign tg X.env]:=by rfl):PSD X (.Assign [tg] e pos) (zv0 gx ft):=.mk λH₀ B₀ δ pins s σ H D I ⟨r,en,e1,k⟩=>by
 unfold zv0 at e1;cases e2:gx δ with
 | none=>rw[e2] at e1;cases e1
 | some q =>
  rw[e2] at e1;simp only[Option.bind_some] at e1;cases e3:ft q.1 q.2 with
  | none=>rw[e3] at e1;cases e1
  | some δ' =>
   rw[e3] at e1;cases e1;exact pg0 (h H₀ B₀ δ) (hg H₀ B₀ q.1 q.2) hs hw h1 pins s σ H D I ⟨q,en,e2,λv H' F=>⟨δ',F,e3,fun σ' H'' en''=>k σ' H'' en''⟩⟩
theorem T8(h:PX X e gx)(hs:swapsWith e none pos.line X.env=pure false:=by rfl):PSD X (.Expr e pos) (X7 gx):=.mk λH₀ B₀ δ pins s σ H D I ⟨r,en,e1,k⟩=>by
 unfold X7 at e1;cases e2:gx δ with
 | none=>rw[e2] at e1;cases e1
 | some q =>
  rw[e2] at e1;cases e1;exact e00 (h H₀ B₀ δ) hs pins s σ H D I ⟨q,en,e2,λv H' F=>k σ H' F.s⟩
theorem vn0(n:Nat)(hp:PassesOwn (model X.prog X.w) X.A X.env X.xe)(hc:PTD X c gt)(hb:PSsD X body G):PSD X (.While c body [] pos) (R9 gt G n):=.mk λH₀ B₀ δ pins s σ H D I ⟨r,en,e1,k⟩=>by
 have L:PT X c (fun σ H Q=>∃B δ,tDT X.K B δ gt σ H Q):=λpins s σ H Q I ⟨B,δ,h⟩=>hc B δ pins s σ H Q I h
 have J:PSs X body (λD σ H=>∃δ,tDS X.K H₀ B₀ δ G D σ H):=λpins s σ H D I ⟨δ,h⟩=>hb H₀ B₀ δ pins s σ H D I h
 refine h60 hp L J pins s σ H D I ⟨λm σ H=>∃δ',EnvS X.K H₀ B₀ H σ δ'/\R9 gt G m δ'=some r,⟨n,δ,en,e1⟩,?_⟩;rintro m σ1 H1 ⟨δ1,F,e2⟩;cases m with
 | zero=>cases e2
 | succ m =>
  unfold R9 at e2;obtain⟨B,b1,b2,env⟩:=F.ex;cases e3:gt δ1 with
  | none=>rw[e3] at e2;cases e2
  | some t =>
   rw[e3] at e2;refine⟨B,δ1,t,env,e3,λH2 s2=>?_⟩;cases t with
   | false =>
    rw[if_neg B4];cases e2;exact k σ1 H2 (F.grow s2)
   | true =>
    rw[if_pos rfl];dsimp only at e2;refine⟨fun σ' H'=>∃δ',EnvS X.K H₀ B₀ H' σ' δ'/\R9 gt G m δ'=some r,fun σ' H' z=>⟨m,x9 m,z⟩,δ1,?_⟩;cases e4:G δ1 with
    | none=>rw[e4] at e2;cases e2
    | some rb =>
     rw[e4] at e2;refine⟨rb,F.grow s2,e4,?_⟩;cases rb with
     | nx δn=>exact fun σ' H' en'=>⟨δn,en',e2⟩
     | ct δn=>exact fun σ' H' en'=>⟨δn,en',e2⟩
     | bk δn=>cases e2;exact fun σ' H' en'=>k σ' H' en'
     | rt d'=>cases e2;exact λv H' s' r'=>k v H' s' r'
     | rf d'=>cases e2;exact λp H' hp s' r'=>k p H' hp s' r'
theorem wo0(i j:Nat){y:Str}{p2 p3:Pos}{kk}(hN:X.N.Nodup)(hij:i≠j)(hc:X.calm=true:=by rfl)(hi:X.N[i]?=some x:=by rfl)(hj:X.N[j]?=some y:=by rfl)
  (hx:Loc X.env.scope x:=by first|exact Or.inl rfl|exact Or.inr rfl) (hy:Loc X.env.scope y:=by first|exact Or.inl rfl|exact Or.inr rfl)
  (hf:X.fn x=true∨X.env.scope.names.lookup x=some .local:=by first|exact .inl rfl|exact .inr rfl|assumption) (hf2:X.fn y=true∨X.env.scope.names.lookup y=some .local:=by first|exact .inl rfl|exact .inr rfl|assumption)
  (hs1:(assignEach [.Name x p2,.Name y p3] X.env).map (·.2)=assign (.Name x p2) X.env::(assignEach [.Name y p3] X.env).map (·.2):=by rfl) (hs2:(assignEach [.Name y p3] X.env).map (·.2)=assign (.Name y p3) X.env::(assignEach [] X.env).map (·.2):=by rfl)
  (hn:(assignEach [.Name x p2,.Name y p3] X.env).length=2:=by rfl) (hst:(assignEach [.Name x p2,.Name y p3] X.env).findIdx? (·.1)=none:=by rfl) :
  PGD X (.Tuple [.Name x p2,.Name y p3] kk pos) [i,j] (G9 i j):=.mk λB d δ=>(cp0 hc (pz0 (u80 (i:=i) hN hi hx hf) (pz0 (u80 (i:=j) hN hj hy hf2) fl0 hs2) hs1) hn hst).imp λv σ H Q ⟨δ',r,en,e1,k⟩=>by
 unfold G9 at e1;split at e1
 ·rename_i da db
  cases e1;rw[X8] at r;obtain⟨p,xs,rfl,hq,rs⟩:=r;rw[o8] at rs;obtain⟨va,t1,rfl,ra,rs⟩:=rs;rw[o8] at rs;obtain⟨vb,t2,rfl,rb,rs⟩:=rs;rw[j5] at rs;subst rs;refine⟨p,_,rfl,hq.to,rfl,va,[vb],rfl,vb,[],rfl,rfl,k _ ?_ ((en.set i ra).set j rb)⟩;refine⟨by simp,λq hq=>?_,λq hq ds h=>?_⟩
  ·have h1:q≠i:=λz=>hq (by rw[z];exact A5)
   have h2:q≠j:=λz=>hq (by rw[z];exact B9 _ A5)
   rw[List.getElem?_set_ne (C6 h2),List.getElem?_set_ne (C6 h1),List.getElem?_set_ne (C6 h2),List.getElem?_set_ne (C6 h1)];exact⟨rfl,rfl⟩
  ·rcases get_set h with⟨rfl,e3,_⟩|⟨n1,e3⟩
   ·cases e3
   ·rcases get_set e3 with⟨rfl,e4,_⟩|⟨n2,e4⟩
    ·cases e4
    ·simp at hq
     rcases hq with z|z
     ·exact n2 z.symm
     ·exact n1 z.symm
 ·cases e1
end
end DL
namespace HT
open PyProof.Rows
section
variable{w:World}{s:Shared}
theorem wy0{t sl:Addr}{Q:Value->Shared->Prop}(ht:IsTup s.heap t items)(hs:s.heap.IsSliceOf sl vl vu .none)(pl:IsPart vl lo)(pu:IsPart vu hi)
  (hw:sIx items.size 0 lo=0/\sIx items.size items.size hi=items.size) (h:Q (.ref t) s):wpAny (model prog w) A (getItem (.ref t) (.ref sl)) Q E s:=by
 obtain⟨os,M,L,hds⟩:=id hs;have J:s.TypeIs (.ref sl) "slice" := ⟨os,M,L⟩;unfold getItem
 try with_reducible refine C7 ?_
 first|refine A0 (A1 ?_)|skip
 refine A0 (wpAny_sequenceKey ht.typeIs (by decide) ?_);refine A0 (E7 (name:=Str.ofString "__getitem__") ht.typeIs P2
  (D0 P2 ht.typeIs entry_tuple_getitem ?_ (args_tuple_getitem _ _)))
 show wpAny _ _ (Builtin.Tuple.tupleItemsOf (.ref t)>>=_) _ _ s;refine A0 (tupleItemsOf_ ht ?_);refine A0 (T0 J ?_);rw[if_pos (by decide)];refine A0 (yr0 hs pl pu ?_);have F:(((sIx items.size 0 lo:Nat):Int)==0&&(1:Int)==1&&(sIx items.size items.size hi - sIx items.size 0 lo)==items.size)=true:=by
  rw[hw.1,hw.2];simp
 show wpAny _ _ (if (((sIx items.size 0 lo:Nat):Int)==0&&(1:Int)==1&&(sIx items.size items.size hi - sIx items.size 0 lo)==items.size)=true then _ else _) _ _ s;rw[if_pos F];unfold Builtin.Tuple.tupleIsExact;refine A0 (A0 (T0 ht.typeIs (A1 ?_)));rw[if_pos (by decide)];exact A0 (E2 (A1 ⟨_,rfl,A1 h⟩))
end
end HT
namespace L2
open Spec PyProof.Rows
def Zk0(K:W.Frag):V->Option Int->Option Int->Hp->VK->Prop:=λx lo hi H Q=>∃a xs,x=.ref a/\SqT K H a xs/\(HT.sIx xs.length 0 lo=0/\HT.sIx xs.length xs.length hi=xs.length)/\Q (.ref a) H
theorem fn0:SlR X (Zk0 X.K):=by
 intro pins s σ H x v vl vu lo hi sl Q I rx hs pl pu h;obtain⟨a,xs,rfl,hx,hw,q⟩:=h;cases rx;obtain⟨its,r,ht,hz⟩:=I.tuple hx;have F:its.toArray.size=xs.length:=by rw[List.size_toArray];exact r.length.symm
 exact⟨"tuple",_,P2.lookup,ht.typeIs,HT.wy0 ht hs pl pu (by rw[F];exact hw) ⟨.ref a,H,I,rfl,q⟩⟩
def i10(K:W.Frag):R2:=λx y H Q=>∃a b ys,x=.ref a/\y=.ref b/\SqT K H a []/\SqT K H b ys/\Q (.ref b) H
theorem iq0:OpR X (binaryOp .Add) (i10 X.K):=by
 intro pins s σ H x y v u Q I rx ry h;obtain⟨a,b,ys,rfl,rfl,ha,hb,q⟩:=h;cases rx;cases ry;obtain⟨its,r1,p1,_⟩:=I.tuple ha;obtain⟨M,r2,p2,_⟩:=I.tuple hb;have e:its=[]:=r1.zero;subst e;obtain⟨⟨cls,dd,data,sl⟩,ho,hc,n,hd⟩:=id p1;obtain⟨⟨U,O,data2,S⟩,L,F,n2,J⟩:=id p2;simp only at hc hd F J;subst hc hd F J;exact Y2 ⟨_,ho,rfl⟩ ⟨_,L,rfl⟩ r0 r8 r9 t0 (t9 _ _)
  (tuple_addW0 a b _ M.toArray n n2 dd O sl S rfl) ⟨ho,L,⟨.ref b,H,I,rfl,q⟩⟩
def zw0(x:Str)(n:Int):Str:=⟨(List.replicate n.toNat x.cps).foldl (·++·) #[]⟩
def gm0:R2:=λx y H Q=>∃z n,x=.str z/\y=.int n/\-(2 ^ 62)<=n/\n<2 ^ 62/\z.length*n.toNat<=sizeLine/\Q (.str (zw0 z n)) H
theorem em0:OpR X (binaryOp .Mult) gm0:=by
 intro pins s σ H x y v u Q I rx ry h;obtain⟨z,n,rfl,rfl,h1,h2,hz,q⟩:=h;obtain⟨t,rfl⟩:=rx;obtain⟨t',rfl⟩:=ry;have fin:∀L k,EP X pins σ Q (.str (zw0 z n) L) { s with toks:=k }:=λL k=>⟨.str _,H,I.tok k,⟨L,rfl⟩,q⟩
 have U:(sizeLine:Nat)<2 ^ 40:=by decide
 have M:¬n<1->¬((z.length:Int) > (2 ^ 63 - 1)/n):=by
  intro hn;have O:0<n:=by omega
  have:(z.length:Int)*n<=2 ^ 63 - 1:=by
   have e:n=(n.toNat:Int):=by omega
   rw[e];have:((z.length*n.toNat:Nat):Int)<=2 ^ 40:=by exact_mod_cast (by omega:z.length*n.toNat<=2 ^ 40)
   rw[Int.natCast_mul] at this;omega
  exact Int.not_lt.mpr ((B10 O).mpr this)
 refine PySem.P.mul_str (by rw[decide_eq_false (by omega),decide_eq_false (by omega)];rfl) (λhn _=>M hn) (λ_ _=>?_) ?_
 ·show decide (z.length*n.toNat > sizeLine)=false
  exact O0 (by omega)
 ·by_cases hn:n<1
  ·rw[if_pos hn]
   have e:zw0 z n=Str.empty:=by
    unfold zw0;rw[show n.toNat=0 by omega];rfl
   refine⟨by decide,?_⟩;rw[← e];exact fin _ _
  ·rw[if_neg hn]
   by_cases h3:(n==1||z.length==0)=true
   ·rw[if_pos h3]
    have e:zw0 z n=z:=by
     rw[Bool.or_eq_true] at h3;rcases h3 with h3|h3
     ·have:n=1:=P3 h3
      subst this;unfold zw0;show (⟨#[]++z.cps⟩:Str)=z;rw[Array.empty_append]
     ·have h3:z.length=0:=P3 h3
      have J:z.cps=#[]:=B20 h3;have:∀k:Nat,(List.replicate k (#[]:Array Nat)).foldl (·++·) #[]=#[]:=by
       intro k
       induction k with
       | zero=>rfl
       | succ k ih=>rw[List.replicate_succ,List.foldl_cons];exact ih
      unfold zw0;rw[J,this];cases z;simp at J;rw[J]
    have:=fin t s.toks;rw[e] at this;exact this
   ·rw[if_neg h3]
    have S:∀(k:Nat) (F:Array Nat),((List.replicate k z.cps).foldl (·++·) F).size=F.size+k*z.cps.size:=by
     intro k
     induction k with
     | zero=>intro F;simp
     | succ k ih=>intro F;rw[List.replicate_succ,List.foldl_cons,ih,Array.size_append,Nat.succ_mul];omega
    refine⟨?_,fin _ _⟩;show ((List.replicate n.toNat z.cps).foldl (·++·) #[]).size<=_;rw[S];have:z.length=z.cps.size:=rfl;rw[this,Nat.mul_comm] at hz
    simpa using hz
theorem sd0:fillsNumberSlot (.type "tuple") "mul"=pure false :=
 PySem.fillsNumberSlot_seq (id := "tuple.__mul__") (r:=some (.builtin "tuple.__rmul__")) B30.lookup (by decide +kernel) B40.lookup (by decide +kernel)
theorem lf0:seqRepeat? (.type "tuple")=pure (some (.builtin "tuple.__mul__")):=by
 unfold seqRepeat?;rw[PySem.seqSlot_of (T := "tuple") (name := "__mul__") (id := "tuple.__mul__") B30.lookup (by decide +kernel),PySem.seqSlot_of (T := "tuple") (name := "__rmul__") (id := "tuple.__rmul__") B40.lookup (by decide +kernel)];rfl
theorem pv0(a:Int)(t:Tok)(l:Addr)(items:Array Value)(n:Nat)(dd:Option Addr)(sl:Array (Option Value)) :
  Meets (Builtin.«int.__rmul__» ⟨[.int a t,.ref l],[]⟩) (λ_ R s=>s.heap.get? l=some { cls:=.type "tuple",dict:=dd,data:=.seq items n,slots:=sl }/\R (.ok (.ret Value.notImplemented)) s) :=
 .of_wp λprog w A R s h=>by
  obtain⟨hp,g,d,tk,os⟩:=s;obtain⟨hl,h⟩:=h
  wp_walk
  exact⟨_,rfl,h⟩
theorem iu0(l:Addr)(items:Array Value)(n:Nat)(dd:Option Addr)(sl:Array (Option Value))(k:Int)(t:Tok)(h2:2<=k)(h3:k<2 ^ 62)(he:items.isEmpty=false)(hsz:items.size*k.toNat<=sizeLine) :
  Meets (Builtin.«tuple.__mul__» ⟨[.ref l,.int k t],[]⟩) (λ_ R s=>s.heap.get? l=some { cls:=.type "tuple",dict:=dd,data:=.seq items n,slots:=sl }/\R (.ok (.ret (Value.ref s.heap.objs.size))) { s with heap:=s.heap.push { cls:=.type "tuple",data:=.seq ((List.replicate k.toNat items).foldl (·++·) #[]) } }) :=
 .of_wp λprog w A R s h=>by
  obtain⟨hp,g,d,tk,os⟩:=s;obtain⟨hl,h⟩:=h;have f1:=AutoSeq1.idx_int;have c1:¬((decide (k < -(2 ^ 63:Int))||decide (k ≥ 2 ^ 63))=true):=by
   rw[decide_eq_false (by omega),decide_eq_false (by omega)];exact B4
  have c2:¬((items.isEmpty||k==1)=true):=by
   rw[he,beq_eq_false_iff_ne.mpr (by omega)];exact B4
  have c3:¬((decide (k<=0)||items.isEmpty)=true):=by
   rw[he,decide_eq_false (by omega)];exact B4
  have hk:((items.size:Int)*k)=((items.size*k.toNat:Nat):Int):=by
   rw[Int.natCast_mul];congr 1;omega
  have hb:(sizeLine:Nat)<2 ^ 40:=by decide
  have c4:¬((items.size:Int)*k > (2 ^ 63 - 1)/8):=by
   rw[hk];omega
  have c5:¬(Builtin.Tuple.tupleTooMany ((items.size:Int)*k)=true):=by
   rw[hk];unfold Builtin.Tuple.tupleTooMany;simp only[decide_eq_true_eq];omega
  have L:∀(m:Nat) (F:Array Value),((List.replicate m items).foldl (·++·) F).size=F.size+m*items.size:=by
   intro m
   induction m with
   | zero=>intro F;simp
   | succ m ih=>intro F;rw[List.replicate_succ,List.foldl_cons,ih,Array.size_append,Nat.succ_mul];omega
  have J:sizeOk (.seq ((List.replicate k.toNat items).foldl (·++·) #[])):=by
   show ((List.replicate k.toNat items).foldl (·++·) #[]).size<=sizeLine;rw[L,Nat.mul_comm]
   simpa using hsz
  wp_walk
  rw[if_neg c1];show wpAny _ _ (Builtin.Tuple.tupleItemsOf (.ref l)>>=_) _ _ _;refine A0 (tupleItemsOf_ ⟨_,hl,rfl,n,rfl⟩ ?_);dsimp only;rw[if_neg c2,if_neg c3];rw[if_neg c4,if_neg c5];exact A0 (m:=Builtin.Tuple.tupleExact _) (H0 (A1 ⟨_,rfl,h⟩) J)
def gp0(K:W.Frag):R2:=λx y H Q=>∃a xs k,x=.ref a/\y=.int k/\SqT K H a xs/\xs≠[]/\2<=k/\k<2 ^ 62/\xs.length*k.toNat<=sizeLine/\∀p,H p=none->Q (.ref p) (upd H p (.tup (List.replicate k.toNat xs).flatten))
theorem d10:OpR X (binaryOp .Mult) (gp0 X.K):=by
 intro pins s σ H x y v u Q I rx ry h;obtain⟨a,xs,k,rfl,rfl,ha,hx,h2,h3,hz,q⟩:=h;cases rx;obtain⟨t,rfl⟩:=ry;obtain⟨its,r1,p1,_⟩:=I.tuple ha;obtain⟨⟨cls,dd,data,sl⟩,ho,hc,n,hd⟩:=id p1;simp only at hc hd;subst hc hd;have hl:=r1.length;have he:its.toArray.isEmpty=false:=by
  cases its with
  | nil=>exact absurd (r1.nil_iff.mp rfl) hx
  | cons a b=>rfl
 have L:its.toArray.size*k.toNat<=sizeLine:=by rw[List.size_toArray,← hl];exact hz
 have J:(List.replicate k.toNat its.toArray).foldl (·++·) #[]=(List.replicate k.toNat its).flatten.toArray:=by
  have:=foldl_rep its k.toNat [];rw[List.nil_append] at this;exact this
 refine wpAny_binaryOp_repeat_ref (T := "tuple") (U := "int") (by decide) ⟨_,ho,rfl⟩ (λs'=>N2 s' k t) sd0 F.fills_int_mul F.slot_int_rmul lf0 F.slot_int_index.lookup
  (U1 F.slot_int_rmul (N2 s k t) F.entry_int_rmul (F.args_int_rmul_2 _ _) (pv0 k t a its.toArray n dd sl)
   ⟨ho,rfl,⟨_,ho,rfl⟩,U1 F.slot_tuple_mul ⟨_,ho,rfl⟩ F.entry_tuple_mul (F.args_tuple_mul_2 _ _) (iu0 a its.toArray n dd sl k t h2 h3 he L) ⟨ho,?_⟩⟩)
 rw[J];refine⟨.ref s.heap.objs.size,_,I.laid (t':=s.toks) (o:=.tup (List.replicate k.toNat xs).flatten) (λb ob q=>A7 _ q) (A4 _) ?_,rfl,q _ (I.hok.fresh (A4 _))⟩;exact⟨by rw[len_rep,Nat.mul_comm];exact hz,_,r1.rep k.toNat,IsTupN.new _ _⟩
end L2
namespace DL
open Spec PyProof.Rows L2
mutual
theorem uu0:∀(d:D) (n:Nat),lean d n=true->deq d d=true
 | .non,_,_=>by unfold deq;rfl
 | .bl b,_,_=>by unfold deq;simp
 | .int b,_,_=>by unfold deq;simp
 | .str b,_,_=>by unfold deq;simp
 | .tup ds,0,h=>by unfold lean at h;cases h
 | .tup ds,n+1,h=>by unfold lean at h;unfold deq;exact v80 ds n h
 | .lst ds,0,h=>by unfold lean at h;cases h
 | .lst ds,n+1,h=>by unfold lean at h;unfold deq;exact v80 ds n h
 | .dct _ _,n,h=>by unfold lean at h;cases h
 | .fn _ _,n,h=>by unfold lean at h;cases h
theorem v80:∀(ds:List D) (n:Nat),leans ds n=true->K9 ds ds=true
 | [],_,_=>by unfold K9;rfl
 | d::ds,n,h=>by
  unfold leans at h;rw[Bool.and_eq_true] at h;unfold K9;rw[uu0 d n h.1,v80 ds n h.2];rfl
end
theorem zr0:∀ds es:List D,K9 ds es=((List.range (min ds.length es.length)).all (λj=>deq (ds.getD j .non) (es.getD j .non))&&ds.length==es.length)
 | [],[]=>by unfold K9;simp
 | [],_::_=>by unfold K9;simp
 | _::_,[]=>by unfold K9;simp
 | d::ds,e::es=>by
  unfold K9;rw[zr0 ds es];have h1:min (d::ds).length (e::es).length=min ds.length es.length+1:=by simp only[List.length_cons];omega
  rw[h1,List.range_succ_eq_map,List.all_cons,List.all_map];have h2:((d::ds).length==(e::es).length)=(ds.length==es.length):=by
   rw[Bool.eq_iff_iff];simp
  rw[h2,Bool.and_assoc];rfl
theorem vu0:∀{ds:List D} {n j:Nat} {d:D},leans ds n=true->ds[j]?=some d->lean d n=true
 | [],_,_,_,_,h=>by simp at h
 | d::ds,n,0,_,h,e=>by
  unfold leans at h;rw[Bool.and_eq_true] at h;simp at e;subst e;exact h.1
 | d::ds,n,j+1,_,h,e=>by
  unfold leans at h;rw[Bool.and_eq_true] at h;exact vu0 (j:=j) h.2 (by simpa using e)
section
variable{σ:St}{s:Shared}
mutual
theorem Rp.inj(I:Inv X pins σ H s):∀{d e:D} {n m:Nat} {v:V},lean d n=true->lean e m=true->Rp X.K H B d v->Rp X.K H B' e v->d=e
 | .non,e,_,m,v,_,le,h,h'=>by
  rw[T3] at h;subst h;cases e with
  | non=>rfl
  | bl b=>rw[W7] at h';cases h'
  | int b=>rw[m9] at h';cases h'
  | str b=>rw[Y8] at h';cases h'
  | tup b=>rw[X8] at h';obtain⟨_,_,z,_⟩:=h';cases z
  | lst b=>rw[W2] at h';obtain⟨_,_,z,_⟩:=h';cases z
  | dct a b=>unfold lean at le;cases le
  | fn a b=>unfold lean at le;cases le
 | .bl c,e,_,m,v,_,le,h,h'=>by
  rw[W7] at h;subst h;cases e with
  | non=>rw[T3] at h';cases h'
  | bl b=>rw[W7] at h';cases h';rfl
  | int b=>rw[m9] at h';cases h'
  | str b=>rw[Y8] at h';cases h'
  | tup b=>rw[X8] at h';obtain⟨_,_,z,_⟩:=h';cases z
  | lst b=>rw[W2] at h';obtain⟨_,_,z,_⟩:=h';cases z
  | dct a b=>unfold lean at le;cases le
  | fn a b=>unfold lean at le;cases le
 | .int c,e,_,m,v,_,le,h,h'=>by
  rw[m9] at h;subst h;cases e with
  | non=>rw[T3] at h';cases h'
  | bl b=>rw[W7] at h';cases h'
  | int b=>rw[m9] at h';cases h';rfl
  | str b=>rw[Y8] at h';cases h'
  | tup b=>rw[X8] at h';obtain⟨_,_,z,_⟩:=h';cases z
  | lst b=>rw[W2] at h';obtain⟨_,_,z,_⟩:=h';cases z
  | dct a b=>unfold lean at le;cases le
  | fn a b=>unfold lean at le;cases le
 | .str c,e,_,m,v,_,le,h,h'=>by
  rw[Y8] at h;subst h;cases e with
  | non=>rw[T3] at h';cases h'
  | bl b=>rw[W7] at h';cases h'
  | int b=>rw[m9] at h';cases h'
  | str b=>rw[Y8] at h';cases h';rfl
  | tup b=>rw[X8] at h';obtain⟨_,_,z,_⟩:=h';cases z
  | lst b=>rw[W2] at h';obtain⟨_,_,z,_⟩:=h';cases z
  | dct a b=>unfold lean at le;cases le
  | fn a b=>unfold lean at le;cases le
 | .tup ds,e,0,m,v,ld,_,_,_=>by unfold lean at ld;cases ld
 | .tup ds,e,n+1,m,v,ld,le,h,h'=>by
  rw[X8] at h;obtain⟨a,xs,rfl,q,r⟩:=h;unfold lean at ld;cases e with
  | non=>rw[T3] at h';cases h'
  | bl b=>rw[W7] at h';cases h'
  | int b=>rw[m9] at h';cases h'
  | str b=>rw[Y8] at h';cases h'
  | tup es =>
   cases m with
   | zero=>unfold lean at le;cases le
   | succ m =>
    unfold lean at le;rw[X8] at h';obtain⟨a',ys,z,q',r'⟩:=h';cases z;have:=I.tuple_inj q.to q'.to;subst this;rw[Rps.inj I ld le r r']
  | lst es =>
   rw[W2] at h';obtain⟨a',ys,z,q',r'⟩:=h';cases z;obtain⟨_,_,⟨o,e1,c1,_⟩,_⟩:=I.tuple q.to;obtain⟨_,_,p,_⟩:=I.list q'.to;obtain⟨o',e2,c2,_⟩:=p.isList;rw[e1] at e2;cases e2;rw[c1] at c2;injection c2 with z
   exact absurd z (by decide)
  | dct a b=>unfold lean at le;cases le
  | fn a b=>unfold lean at le;cases le
 | .lst ds,e,0,m,v,ld,_,_,_=>by unfold lean at ld;cases ld
 | .lst ds,e,n+1,m,v,ld,le,h,h'=>by
  rw[W2] at h;obtain⟨a,xs,rfl,q,r⟩:=h;unfold lean at ld;cases e with
  | non=>rw[T3] at h';cases h'
  | bl b=>rw[W7] at h';cases h'
  | int b=>rw[m9] at h';cases h'
  | str b=>rw[Y8] at h';cases h'
  | lst es =>
   cases m with
   | zero=>unfold lean at le;cases le
   | succ m =>
    unfold lean at le;rw[W2] at h';obtain⟨a',ys,z,q',r'⟩:=h';cases z;have:=I.list_inj q.to q'.to;subst this;rw[Rps.inj I ld le r r']
  | tup es =>
   rw[X8] at h';obtain⟨a',ys,z,q',r'⟩:=h';cases z;obtain⟨_,_,⟨o,e1,c1,_⟩,_⟩:=I.tuple q'.to;obtain⟨_,_,p,_⟩:=I.list q.to;obtain⟨o',e2,c2,_⟩:=p.isList;rw[e1] at e2;cases e2;rw[c1] at c2;injection c2 with z
   exact absurd z (by decide)
  | dct a b=>unfold lean at le;cases le
  | fn a b=>unfold lean at le;cases le
 | .dct a b,e,n,m,v,ld,_,_,_=>by unfold lean at ld;cases ld
 | .fn a b,e,n,m,v,ld,_,_,_=>by unfold lean at ld;cases ld
theorem Rps.inj(I:Inv X pins σ H s):∀{ds es:List D} {n m:Nat} {xs:List V},leans ds n=true->leans es m=true->Rps X.K H B ds xs->Rps X.K H B' es xs->ds=es
 | [],es,_,_,_,_,_,h,h'=>by
  rw[j5] at h;subst h;have:=h'.length;cases es with
  | nil=>rfl
  | cons a b=>simp at this
 | d::ds,es,n,m,_,ld,le,h,h'=>by
  rw[o8] at h;obtain⟨x,r,rfl,h1,h2⟩:=h;cases es with
  | nil=>rw[j5] at h';cases h'
  | cons e es =>
   rw[o8] at h';obtain⟨x',r',z,F,J⟩:=h';cases z;unfold leans at ld le;rw[Bool.and_eq_true] at ld le;rw[Rp.inj I ld.1 le.1 h1 F,Rps.inj I ld.2 le.2 h2 J]
end
theorem view(I:Inv X pins σ H s){d:D}{x:V}(l:lean d n=true)(h:Rp X.K H B d x)(r:RelV x u) :
  (d=.non/\u=.none)∨(∃b,d=.bl b/\u=.bool b)∨(∃i t,d=.int i/\u=.int i t)∨(∃z t,d=.str z/\u=.str z t) ∨
  (∃m ds a xs its,n=m+1/\leans ds m=true/\d=.tup ds/\x=.ref a/\u=.ref a/\Rps X.K H B ds xs/\Vals xs its/\s.heap.IsTuple a its.toArray) ∨
  (∃m ds a xs its,n=m+1/\leans ds m=true/\d=.lst ds/\x=.ref a/\u=.ref a/\Rps X.K H B ds xs/\Vals xs its/\s.heap.IsList a its.toArray):=by
 cases d with
 | non=>rw[T3] at h;subst h;exact .inl ⟨rfl,r⟩
 | bl b=>rw[W7] at h;subst h;exact .inr (.inl ⟨b,rfl,r⟩)
 | int i=>rw[m9] at h;subst h;obtain⟨t,e⟩:=r;exact .inr (.inr (.inl ⟨i,t,rfl,e⟩))
 | str z=>rw[Y8] at h;subst h;obtain⟨t,e⟩:=r;exact .inr (.inr (.inr (.inl ⟨z,t,rfl,e⟩)))
 | tup ds =>
  cases n with
  | zero=>unfold lean at l;cases l
  | succ m =>
   unfold lean at l;rw[X8] at h;obtain⟨a,xs,rfl,q,rr⟩:=h;obtain⟨its,rv,p,_⟩:=I.tuple q.to;exact .inr (.inr (.inr (.inr (.inl ⟨m,ds,a,xs,its,rfl,l,rfl,rfl,r,rr,rv,p⟩))))
 | lst ds =>
  cases n with
  | zero=>unfold lean at l;cases l
  | succ m =>
   unfold lean at l;rw[W2] at h;obtain⟨a,xs,rfl,q,rr⟩:=h;obtain⟨its,rv,p,_⟩:=I.list q.to;exact .inr (.inr (.inr (.inr (.inr ⟨m,ds,a,xs,its,rfl,l,rfl,rfl,r,rr,rv,p.isList⟩))))
 | dct a b=>unfold lean at l;cases l
 | fn a b=>unfold lean at l;cases l
theorem in1_units:A.in1.units=A.units+1:=rfl
theorem wm0{es:List D}{ys:List V}{ws:List Value}{A:Around}(ld:leans ds n=true)(le:leans es m=true)(r1:Rps X.K H B ds xs)(r2:Rps X.K H B' es ys)(v1:Vals xs us)(v2:Vals ys ws)
  (ih:∀d e x y u w,lean d n=true->lean e m=true->Rp X.K H B d x->Rp X.K H B' e y->RelV x u->RelV y w->SeqAt.EqAt A s u w (deq d e)) :
  ∀j (h1:j<us.toArray.size) (h2:j<ws.toArray.size),SeqAt.EqAt A s us.toArray[j] ws.toArray[j] (deq (ds.getD j .non) (es.getD j .non)):=by
 intro j h1 h2;have l1:j<ds.length:=by rw[← r1.length,v1.length];simpa using h1
 have l2:j<es.length:=by rw[← r2.length,v2.length];simpa using h2
 obtain⟨x,ex,rx⟩:=r1.get (C9 l1);obtain⟨y,ey,ry⟩:=r2.get (C9 l2);obtain⟨u,eu,ru⟩:=v1.get ex;obtain⟨w,ew,F⟩:=v2.get ey;have hu:us.toArray[j]=u:=by
  have:us[j]?=some u:=eu;simp at h1;rw[List.getElem?_eq_getElem h1] at this
  simpa using B1 this
 have hw:ws.toArray[j]=w:=by
  have:ws[j]?=some w:=ew;simp at h2;rw[List.getElem?_eq_getElem h2] at this
  simpa using B1 this
 rw[hu,hw];have e1:ds.getD j .non=ds[j]:=by simp[List.getD_eq_getElem?_getD,l1]
 have e2:es.getD j .non=es[j]:=by simp[List.getD_eq_getElem?_getD,l2]
 rw[e1,e2];exact ih _ _ _ _ _ _ (vu0 ld (C9 l1)) (vu0 le (C9 l2)) rx ry ru F
theorem j10(I:Inv X pins σ H s):∀(n m:Nat) (d e:D) (x y:V) (u w:Value) (A:Around),A.units+n<cLine->lean d n=true->lean e m=true->Rp X.K H B d x->Rp X.K H B' e y->RelV x u->RelV y w->SeqAt.EqAt A s u w (deq d e):=by
 intro n
 induction n with
 | zero =>
  intro m d e x y u w A hu ld le hx hy rx ry;have F:A.units<cLine:=by omega
  rcases view I ld hx rx with⟨rfl,rfl⟩|⟨b,rfl,rfl⟩|⟨i,t,rfl,rfl⟩|⟨z,t,rfl,rfl⟩|⟨n',_,_,_,_,hn,_⟩|⟨n',_,_,_,_,hn,_⟩<;>(try (exact absurd hn (by omega))) <;>
  rcases view I le hy ry with⟨rfl,rfl⟩|⟨b',rfl,rfl⟩|⟨i',t',rfl,rfl⟩|⟨z',t',rfl,rfl⟩|⟨m',es,a',ys,M,rfl,O,rfl,rfl,rfl,L,J,p'⟩|⟨m',es,a',ys,M,rfl,O,rfl,rfl,rfl,L,J,p'⟩ <;>
  unfold deq <;>
  first
  | with_reducible exact b9 _|with_reducible exact SeqAt.EqAt.bool_bool _ _|with_reducible exact SeqAt.EqAt.int_int _ _ _ _|with_reducible exact SeqAt.EqAt.str_str _ _ _ _|with_reducible exact SeqAt.EqAt.bool_int _ _ _|with_reducible exact SeqAt.EqAt.int_bool _ _ _
  | with_reducible exact SeqAt.EqAt.none_bool _|with_reducible exact SeqAt.EqAt.none_int _ _|with_reducible exact SeqAt.EqAt.none_str _ _|with_reducible exact SeqAt.EqAt.bool_none _|with_reducible exact SeqAt.EqAt.bool_str _ _ _|with_reducible exact SeqAt.EqAt.int_none _ _|with_reducible exact n9 _ _ _ _
  | with_reducible exact SeqAt.EqAt.str_none _ _|with_reducible exact SeqAt.EqAt.str_bool _ _ _|with_reducible exact o0 _ _ _ _
  | with_reducible exact SeqAt.EqAt.none_list p' F|with_reducible exact SeqAt.EqAt.bool_list _ p' F|with_reducible exact SeqAt.EqAt.int_list _ _ p' F|with_reducible exact SeqAt.EqAt.str_list _ _ p' F
  | with_reducible exact SeqAt.EqAt.none_tuple p' F|with_reducible exact SeqAt.EqAt.bool_tuple _ p' F|with_reducible exact SeqAt.EqAt.int_tuple _ _ p' F|with_reducible exact SeqAt.EqAt.str_tuple _ _ p' F
 | succ n ih =>
  intro m d e x y u w A hu ld le hx hy rx ry;have F:A.units<cLine:=by omega
  have U:A.in1.units+n<cLine:=by rw[in1_units];omega
  rcases view I ld hx rx with⟨rfl,rfl⟩|⟨b,rfl,rfl⟩|⟨i,t,rfl,rfl⟩|⟨z,t,rfl,rfl⟩|⟨n',ds,a,xs,its,hn,S,rfl,rfl,rfl,rr,rv,p⟩|⟨n',ds,a,xs,its,hn,S,rfl,rfl,rfl,rr,rv,p⟩ <;>
  rcases view I le hy ry with⟨rfl,rfl⟩|⟨b',rfl,rfl⟩|⟨i',t',rfl,rfl⟩|⟨z',t',rfl,rfl⟩|⟨m',es,a',ys,M,rfl,O,rfl,rfl,rfl,L,J,p'⟩|⟨m',es,a',ys,M,rfl,O,rfl,rfl,rfl,L,J,p'⟩
  case inr.inr.inr.inr.inl.inr.inr.inr.inr.inl =>
   cases hn
   by_cases hab:a=a'
   ·subst hab
    have e:D.tup ds=D.tup es:=Rp.inj I ld le hx hy;rw[← e,uu0 _ _ ld];exact b9 _
   ·refine SeqAt.EqAt.of_refs hab ?_
    have:=SeqAt.RcAt.tuples (e:=λj=>deq (ds.getD j .non) (es.getD j .non)) p p' F (wm0 S O rr L rv J λd e x y u w h1 h2 h3 h4 h5 h6=>ih m' d e x y u w A.in1 U h1 h2 h3 h4 h5 h6);unfold deq;rw[zr0]
    simpa [← rv.length,← J.length,rr.length,L.length] using this
  case inr.inr.inr.inr.inr.inr.inr.inr.inr.inr =>
   cases hn
   by_cases hab:a=a'
   ·subst hab
    have e:D.lst ds=D.lst es:=Rp.inj I ld le hx hy;rw[← e,uu0 _ _ ld];exact b9 _
   ·refine SeqAt.EqAt.of_refs hab ?_
    have s1:its.toArray.size=ds.length:=by rw[List.size_toArray,← rv.length,rr.length]
    have s2:M.toArray.size=es.length:=by rw[List.size_toArray,← J.length,L.length]
    unfold deq;rw[zr0]
    by_cases hl:ds.length=es.length
    ·have:=SeqAt.RcAt.lists (e:=λj=>deq (ds.getD j .non) (es.getD j .non)) p p' (by rw[s1,s2,hl]) F (wm0 S O rr L rv J λd e x y u w h1 h2 h3 h4 h5 h6=>ih m' d e x y u w A.in1 U h1 h2 h3 h4 h5 h6)
     rw[s1] at this;rw[hl] at this ⊢
     simpa using this
    ·have:=Bu0 (A:=A) p p' (by rw[s1,s2];simpa using hl) F
     rw[beq_eq_false_iff_ne.mpr hl,Bool.and_false];exact this
  all_goals
   unfold deq
   first
   | with_reducible exact b9 _|with_reducible exact SeqAt.EqAt.bool_bool _ _|with_reducible exact SeqAt.EqAt.int_int _ _ _ _|with_reducible exact SeqAt.EqAt.str_str _ _ _ _|with_reducible exact SeqAt.EqAt.bool_int _ _ _|with_reducible exact SeqAt.EqAt.int_bool _ _ _
   | with_reducible exact SeqAt.EqAt.none_bool _|with_reducible exact SeqAt.EqAt.none_int _ _|with_reducible exact SeqAt.EqAt.none_str _ _|with_reducible exact SeqAt.EqAt.bool_none _|with_reducible exact SeqAt.EqAt.bool_str _ _ _|with_reducible exact SeqAt.EqAt.int_none _ _|with_reducible exact n9 _ _ _ _
   | with_reducible exact SeqAt.EqAt.str_none _ _|with_reducible exact SeqAt.EqAt.str_bool _ _ _|with_reducible exact o0 _ _ _ _
   | with_reducible exact SeqAt.EqAt.none_list p' F|with_reducible exact SeqAt.EqAt.bool_list _ p' F|with_reducible exact SeqAt.EqAt.int_list _ _ p' F|with_reducible exact SeqAt.EqAt.str_list _ _ p' F
   | with_reducible exact SeqAt.EqAt.none_tuple p' F|with_reducible exact SeqAt.EqAt.bool_tuple _ p' F|with_reducible exact SeqAt.EqAt.int_tuple _ _ p' F|with_reducible exact SeqAt.EqAt.str_tuple _ _ p' F
   | with_reducible exact SeqAt.EqAt.list_none p F|with_reducible exact SeqAt.EqAt.list_bool _ p F|with_reducible exact SeqAt.EqAt.list_int _ _ p F|with_reducible exact SeqAt.EqAt.list_str _ _ p F
   | with_reducible exact SeqAt.EqAt.tuple_none p F|with_reducible exact SeqAt.EqAt.tuple_bool _ p F|with_reducible exact SeqAt.EqAt.tuple_int _ _ p F|with_reducible exact SeqAt.EqAt.tuple_str _ _ p F
   | with_reducible exact SeqAt.EqAt.list_tuple p p' F|with_reducible exact SeqAt.EqAt.tuple_list p p' F
end
end DL
namespace DL
open Spec PyProof.Rows L2
section
variable{σ:St}{s:Shared}
theorem ke0(I:Inv X pins σ H s)(n m:Nat)(d e:D)(x y:V)(u w:Value)(A:Around)(hu:A.units+n<cLine)(ld:lean d n=true)(le:lean e m=true)(hx:Rp X.K H B d x)(hy:Rp X.K H B' e y)(rx:RelV x u)(ry:RelV y w) :
  SeqAt.RcAt A s u w (deq d e)/\SeqAt.RcNeAt A s u w (!deq d e):=by
 have F:A.units<cLine:=by omega
 rcases view I ld hx rx with⟨rfl,rfl⟩|⟨b,rfl,rfl⟩|⟨i,t,rfl,rfl⟩|⟨z,t,rfl,rfl⟩|⟨n',ds,a,xs,its,hn,Y,rfl,rfl,rfl,rr,rv,p⟩|⟨n',ds,a,xs,its,hn,Y,rfl,rfl,rfl,rr,rv,p⟩ <;>
 rcases view I le hy ry with⟨rfl,rfl⟩|⟨b',rfl,rfl⟩|⟨i',t',rfl,rfl⟩|⟨z',t',rfl,rfl⟩|⟨m',es,a',ys,O,rfl,U,rfl,rfl,rfl,M,J,p'⟩|⟨m',es,a',ys,O,rfl,U,rfl,rfl,rfl,M,J,p'⟩
 case inr.inr.inr.inr.inl.inr.inr.inr.inr.inl =>
  subst hn;have S:A.in1.units+n'<cLine:=by rw[in1_units];omega
  have L:=wm0 (A:=A.in1) Y U rr M rv J λd e x y u w h1 h2 h3 h4 h5 h6=>j10 I n' m' d e x y u w A.in1 S h1 h2 h3 h4 h5 h6
  have q1:=SeqAt.RcAt.tuples (e:=λj=>deq (ds.getD j .non) (es.getD j .non)) p p' F L;have q2:=SeqAt.RcNeAt.tuples (e:=λj=>deq (ds.getD j .non) (es.getD j .non)) p p' F L;unfold deq;rw[zr0];have s1:its.toArray.size=ds.length:=by rw[List.size_toArray,← rv.length,rr.length]
  have s2:O.toArray.size=es.length:=by rw[List.size_toArray,← J.length,M.length]
  rw[s1,s2] at q1 q2;exact⟨q1,q2⟩
 case inr.inr.inr.inr.inr.inr.inr.inr.inr.inr =>
  subst hn;have S:A.in1.units+n'<cLine:=by rw[in1_units];omega
  have L:=wm0 (A:=A.in1) Y U rr M rv J λd e x y u w h1 h2 h3 h4 h5 h6=>j10 I n' m' d e x y u w A.in1 S h1 h2 h3 h4 h5 h6
  have s1:its.toArray.size=ds.length:=by rw[List.size_toArray,← rv.length,rr.length]
  have s2:O.toArray.size=es.length:=by rw[List.size_toArray,← J.length,M.length]
  unfold deq;rw[zr0]
  by_cases hl:ds.length=es.length
  ·have q1:=SeqAt.RcAt.lists (e:=λj=>deq (ds.getD j .non) (es.getD j .non)) p p' (by rw[s1,s2,hl]) F L
   have q2:=SeqAt.RcNeAt.lists (e:=λj=>deq (ds.getD j .non) (es.getD j .non)) p p' (by rw[s1,s2,hl]) F L;rw[s1] at q1 q2;rw[hl] at q1 q2 ⊢;simp only[Nat.min_self,beq_self_eq_true,Bool.and_true];exact⟨q1,q2⟩
  ·have q1:=Bu0 (A:=A) p p' (by rw[s1,s2];simpa using hl) F
   have q2:=SeqAt.RcNeAt.lists_lengths (A:=A) p p' (by rw[s1,s2];simpa using hl) F;rw[beq_eq_false_iff_ne.mpr hl,Bool.and_false];exact⟨q1,q2⟩
 all_goals
  unfold deq;constructor
  ·first
   | with_reducible exact SeqAt.RcAt.none_none|with_reducible exact SeqAt.RcAt.bool_bool _ _|with_reducible exact SeqAt.RcAt.int_int _ _ _ _|with_reducible exact SeqAt.RcAt.str_str _ _ _ _|with_reducible exact SeqAt.RcAt.bool_int _ _ _|with_reducible exact SeqAt.RcAt.int_bool _ _ _
   | with_reducible exact SeqAt.RcAt.none_bool _|with_reducible exact SeqAt.RcAt.none_int _ _|with_reducible exact SeqAt.RcAt.none_str _ _|with_reducible exact SeqAt.RcAt.bool_none _|with_reducible exact SeqAt.RcAt.bool_str _ _ _|with_reducible exact SeqAt.RcAt.int_none _ _|with_reducible exact SeqAt.RcAt.int_str _ _ _ _
   | with_reducible exact SeqAt.RcAt.str_none _ _|with_reducible exact SeqAt.RcAt.str_bool _ _ _|with_reducible exact SeqAt.RcAt.str_int _ _ _ _
   | with_reducible exact SeqAt.RcAt.none_list p' F|with_reducible exact SeqAt.RcAt.bool_list _ p' F|with_reducible exact SeqAt.RcAt.int_list _ _ p' F|with_reducible exact SeqAt.RcAt.str_list _ _ p' F
   | with_reducible exact SeqAt.RcAt.none_tuple p' F|with_reducible exact SeqAt.RcAt.bool_tuple _ p' F|with_reducible exact SeqAt.RcAt.int_tuple _ _ p' F|with_reducible exact SeqAt.RcAt.str_tuple _ _ p' F
   | with_reducible exact SeqAt.RcAt.list_none p F|with_reducible exact SeqAt.RcAt.list_bool _ p F|with_reducible exact SeqAt.RcAt.list_int _ _ p F|with_reducible exact SeqAt.RcAt.list_str _ _ p F
   | with_reducible exact SeqAt.RcAt.tuple_none p F|with_reducible exact SeqAt.RcAt.tuple_bool _ p F|with_reducible exact SeqAt.RcAt.tuple_int _ _ p F|with_reducible exact SeqAt.RcAt.tuple_str _ _ p F
   | with_reducible exact SeqAt.RcAt.list_tuple p p' F|with_reducible exact SeqAt.RcAt.tuple_list p p' F
  ·try rw[Bool.not_false]
   try rw[Bool.not_true]
   first
   | with_reducible exact SeqAt.RcNeAt.none_none|with_reducible exact SeqAt.RcNeAt.bool_bool _ _|with_reducible exact SeqAt.RcNeAt.int_int _ _ _ _|with_reducible exact SeqAt.RcNeAt.str_str _ _ _ _|with_reducible exact SeqAt.RcNeAt.bool_int _ _ _|with_reducible exact SeqAt.RcNeAt.int_bool _ _ _
   | with_reducible exact SeqAt.RcNeAt.none_bool _|with_reducible exact SeqAt.RcNeAt.none_int _ _|with_reducible exact SeqAt.RcNeAt.none_str _ _|with_reducible exact SeqAt.RcNeAt.bool_none _|with_reducible exact SeqAt.RcNeAt.bool_str _ _ _|with_reducible exact SeqAt.RcNeAt.int_none _ _|with_reducible exact SeqAt.RcNeAt.int_str _ _ _ _
   | with_reducible exact SeqAt.RcNeAt.str_none _ _|with_reducible exact SeqAt.RcNeAt.str_bool _ _ _|with_reducible exact SeqAt.RcNeAt.str_int _ _ _ _
   | with_reducible exact SeqAt.RcNeAt.none_list p' F|with_reducible exact SeqAt.RcNeAt.bool_list _ p' F|with_reducible exact SeqAt.RcNeAt.int_list _ _ p' F|with_reducible exact SeqAt.RcNeAt.str_list _ _ p' F
   | with_reducible exact SeqAt.RcNeAt.none_tuple p' F|with_reducible exact SeqAt.RcNeAt.bool_tuple _ p' F|with_reducible exact SeqAt.RcNeAt.int_tuple _ _ p' F|with_reducible exact SeqAt.RcNeAt.str_tuple _ _ p' F
   | with_reducible exact SeqAt.RcNeAt.list_none p F|with_reducible exact SeqAt.RcNeAt.list_bool _ p F|with_reducible exact SeqAt.RcNeAt.list_int _ _ p F|with_reducible exact SeqAt.RcNeAt.list_str _ _ p F
   | with_reducible exact SeqAt.RcNeAt.tuple_none p F|with_reducible exact SeqAt.RcNeAt.tuple_bool _ p F|with_reducible exact SeqAt.RcNeAt.tuple_int _ _ p F|with_reducible exact SeqAt.RcNeAt.tuple_str _ _ p F
   | with_reducible exact SeqAt.RcNeAt.list_tuple p p' F|with_reducible exact SeqAt.RcNeAt.tuple_list p p' F
end
section
variable{a:Expr}{ga:Ds->Option D}
def mk0(K:W.Frag)(neg:Bool):R2:=λx y H Q=>∃B B' dx dy,Rp K H B dx x/\Rp K H B' dy y/\lean dx 50=true/\lean dy 50=true/\Q (.bl (xor neg (deq dx dy))) H
theorem vp0(hu:X.A.units+64<cLine):OpR X (compareOp .Eq) (mk0 X.K false):=by
 intro pins s σ H x y v u Q I rx ry h;obtain⟨B,B',dx,dy,hx,hy,lx,ly,q⟩:=h;exact(ke0 I 50 50 dx dy x y v u X.A (by omega) lx ly hx hy rx ry).1 _ _ _ _ ⟨.bl _,H,I,rfl,by rw[Bool.false_xor] at q;exact q⟩
theorem yy0(hu:X.A.units+64<cLine):OpR X (compareOp .NotEq) (mk0 X.K true):=by
 intro pins s σ H x y v u Q I rx ry h;obtain⟨B,B',dx,dy,hx,hy,lx,ly,q⟩:=h;exact(ke0 I 50 50 dx dy x y v u X.A (by omega) lx ly hx hy rx ry).2 _ _ _ _ ⟨.bl _,H,I,rfl,by rw[Bool.true_xor] at q;exact q⟩
theorem xv0:Op2 K (mk0 K false) G7:=by
 intro H B x y dx dy d Q hb rx ry h k;unfold G7 at h;split at h
 ·rename_i hl
  cases h;exact⟨B,B,dx,dy,rx,ry,hl.1,hl.2,k _ H (Same.refl H) (by rw[W7,Bool.false_xor])⟩
 ·cases h
theorem y20:Op2 K (mk0 K true) S7:=by
 intro H B x y dx dy d Q hb rx ry h k;unfold S7 at h;split at h
 ·rename_i hl
  cases h;exact⟨B,B,dx,dy,rx,ry,hl.1,hl.2,k _ H (Same.refl H) (by rw[W7,Bool.true_xor])⟩
 ·cases h
theorem h40:Op2 K (λx y H Q=>rI0 (λi j=>.int (i+j)) x y H Q∨(∃i j,x=.str i/\y=.str j/\i.length+j.length<=sizeLine/\Q (.str (i++j)) H)∨f30 K x y H Q∨gj0 K x y H Q∨i10 K x y H Q) j7:=by
 intro H B x y dx dy d Q hb rx ry h k;cases dx<;>cases dy<;>simp only[j7] at h<;>try cases h
 ·rw[m9] at rx ry
  subst rx ry;exact .inl ⟨_,_,rfl,rfl,k _ H (Same.refl H) (by rw[m9])⟩
 ·split at h
  ·cases h
   rw[Y8] at rx ry;subst rx ry;exact .inr (.inl ⟨_,_,rfl,rfl,by assumption,k _ H (Same.refl H) (by rw[Y8])⟩)
  ·cases h
 ·split at h
  ·rename_i hz
   cases h;have L:=ry;have J:=rx;rw[X8] at rx ry;obtain⟨a,xs,rfl,q1,r1⟩:=rx;obtain⟨b,ys,rfl,q2,r2⟩:=ry
   by_cases he:xs=[]
   ·subst he
    have e:‹List D›=‹List D›:=rfl;have hn:=r1.length;simp at hn;have F:=d3.mp hn.symm;subst F;exact .inr (.inr (.inr (.inr ⟨a,b,ys,rfl,rfl,q1.to,q2.to,k _ H (Same.refl H) (by rw[List.nil_append];exact L)⟩)))
   ·refine .inr (.inr (.inr (.inl ⟨a,b,xs,ys,rfl,rfl,q1.to,q2.to,he,by rw[r1.length,r2.length];exact hz,λz=>?_,λz p hp=>k _ _ (Y5 hp) (u10 hb hp (r1.append r2))⟩)))
    subst z;have hn:=r2.length;simp at hn;have F:=d3.mp hn.symm;subst F;exact k _ H (Same.refl H) (by rw[List.append_nil];exact J)
  ·cases h
 ·split at h
  ·rename_i hz
   cases h;rw[W2] at rx ry;obtain⟨a,xs,rfl,q1,r1⟩:=rx;obtain⟨b,ys,rfl,q2,r2⟩:=ry;exact .inr (.inr (.inl ⟨a,b,xs,ys,rfl,rfl,q1.to,q2.to,by rw[r1.length,r2.length];exact hz,λp hp=>k _ _ (Y5 hp) (sa0 hb hp (r1.append r2))⟩))
  ·cases h
theorem Z5(ha:PD X a ga)(hb:PD X b gb):PD X (.BinOp a .Add b pos) (o2 ga gb j7):=wh0 (co0.or (la0.or (eq0.or (ej0.or iq0)))) h40 ha hb
theorem nt0(h:Rps K H B ds xs):∀k:Nat,Rps K H B (List.replicate k ds).flatten (List.replicate k xs).flatten
 | 0=>by simp[j5]
 | k+1=>by
  rw[List.replicate_succ,List.replicate_succ,List.flatten_cons,List.flatten_cons];exact h.append (nt0 h k)
theorem ig0:Op2 K (λx y H Q=>rI CMul (λi j=>.int (i*j)) x y H Q∨gm0 x y H Q∨gp0 K x y H Q) U0:=by
 intro H B x y dx dy d Q hb rx ry h k;cases dx<;>cases dy<;>simp only[U0] at h<;>try cases h
 ·split at h
  ·cases h
   rw[m9] at rx ry;subst rx ry;exact .inl ⟨_,_,rfl,rfl,by assumption,k _ H (Same.refl H) (by rw[m9])⟩
  ·cases h
 ·split at h
  ·rename_i hz
   cases h;rw[Y8] at rx;rw[m9] at ry;subst rx ry;exact .inr (.inl ⟨_,_,rfl,rfl,hz.1,hz.2.1,hz.2.2,k _ H (Same.refl H) (by rw[Y8];rfl)⟩)
  ·cases h
 ·split at h
  ·rename_i hz
   cases h;rw[X8] at rx;rw[m9] at ry;subst ry;obtain⟨a,xs,rfl,q1,r1⟩:=rx;refine .inr (.inr ⟨a,xs,_,rfl,rfl,q1.to,λz=>hz.1 ?_,hz.2.1,hz.2.2.1,by rw[r1.length];exact hz.2.2.2,λp hp=>k _ _ (Y5 hp) (u10 hb hp (nt0 r1 _))⟩);subst z;have hn:=r1.length;simp at hn;exact d3.mp hn.symm
  ·cases h
theorem O3(ha:PD X a ga)(hb:PD X b gb):PD X (.BinOp a .Mult b pos) (o2 ga gb U0):=wh0 (cz0.or (em0.or d10)) ig0 ha hb
theorem lw0{xs:List D}(h:sIx xs.length 0 lo=0/\sIx xs.length xs.length hi=xs.length):cutD xs lo hi=xs:=by
 unfold cutD;rw[h.1,h.2];simp
theorem J0{lo hi:Option Expr}{gl gh:Ds->Option (Option Int)}{p2:Pos}(he:PD X e g)(hl:PDO X lo gl)(hh:PDO X hi gh) :
  PD X (.Subscript e (.Slice lo hi none p2) pos) (N5 g gl gh):=.mk λB δ =>
 (g60 (cq0.or (eh0.or (dj0.or fn0))) (he B δ) (hl B δ) (hh B δ)).imp fun σ H Q ⟨d,en,h,k⟩=>by
  unfold N5 at h;cases e1:g δ with
  | none=>rw[e1] at h;cases h
  | some x =>
   cases e2:gl δ with
   | none=>rw[e1,e2] at h;cases h
   | some l =>
    cases e3:gh δ with
    | none=>rw[e1,e2,e3] at h;cases h
    | some u =>
     rw[e1,e2,e3] at h;simp only[Option.bind_some] at h;refine⟨x,en,e1,λv H1 s1 r1=>⟨l,en.same s1,(by first|exact e2|rfl),λH2 s2=>⟨u,(en.same s1).same s2,(by first|exact e3|rfl),λH3 s3=>?_⟩⟩⟩;have S:=(s1.trans s2).trans s3;have r3:=(r1.same s2).same s3;have hb:=(((en.same s1).same s2).same s3).bad;cases x<;>simp only[slA] at h<;>try cases h
     ·split at h
      ·cases h
       rw[Y8] at r3;exact .inl ⟨_,r3,by assumption,k _ H3 S (by rw[Y8])⟩
      ·cases h
     ·have r4:=r3
      rw[X8] at r3;obtain⟨a,xs,rfl,q,r⟩:=r3;rename_i dxs
      by_cases hw:sIx dxs.length 0 l=0/\sIx dxs.length dxs.length u=dxs.length
      ·refine .inr (.inr (.inr ⟨a,xs,rfl,q.to,by rw[r.length,w40,w40];exact hw,k _ _ S ?_⟩))
       rw[lw0 hw];exact r4
      ·exact .inr (.inr (.inl ⟨a,xs,rfl,q.to,by rw[r.length,w40,w40];exact hw,λp hp=>k _ _ (S.trans (Y5 hp)) (u10 hb hp (m30 r l u))⟩))
     ·rw[W2] at r3
      obtain⟨a,xs,rfl,q,r⟩:=r3;exact .inr (.inl ⟨a,xs,rfl,q.to,λp hp=>k _ _ (S.trans (Y5 hp)) (sa0 hb hp (m30 r l u))⟩)
theorem j40:FnR K (λxs H Q=>(∃i,xs=[.int i]/\Q (.int i) H)∨∃k,xs=[.bl k]/\Q (.int (if k then 1 else 0)) H) intOfD:=by
 intro H B xs ds d Q hb r h k;unfold intOfD at h;split at h
 ·cases h
  obtain⟨v,rfl,r1⟩:=J9 r;rw[m9] at r1;subst r1;exact .inl ⟨_,rfl,k _ H (Same.refl H) (by rw[m9])⟩
 ·cases h
  obtain⟨v,rfl,r1⟩:=J9 r;rw[W7] at r1;subst r1;exact .inr ⟨_,rfl,k _ H (Same.refl H) (by rw[m9])⟩
 ·cases h
end
end DL
namespace DL
open Spec PyProof.Rows
theorem W3{gA:GA}(h:gA δ=some ds)(hl:ds.length<=sizeLine):Z2 gA δ=some (.tup ds):=by
 unfold Z2;rw[h,Option.bind_some,if_pos hl]
theorem zq0{gA:GA}(h:gA δ=some ds)(hl:ds.length<=sizeLine):X5 gA δ=some (.lst ds):=by
 unfold X5;rw[h,Option.bind_some,if_pos hl]
theorem e80{n:Int}{d:D}(h:d∈W4 0 n):∃k:Nat,(k:Int)<n/\d=.int (k:Int):=by
 obtain⟨k,hk,rfl⟩:=A9.mp h;have:=D9.mp hk;exact⟨k,by omega,by rw[Int.zero_add]⟩
theorem eo0(f:D->α)(n:Int):(W4 0 n).map f=(List.range n.toNat).map λ(k:Nat)=>f (.int (k:Int)):=by
 unfold W4;rw[List.map_map];have:n - 0=n:=by omega
 rw[this];refine Bv0 λk _=>?_
 show f (.int (0+(k:Int)))=_;rw[Int.zero_add]
theorem ye0(n:Int):(W4 0 n).length=n.toNat:=by unfold W4;simp
theorem zj0{n:Int}{d:D}(h:(W4 0 n)[j]?=some d):j<n.toNat/\d=.int (j:Int):=by
 have hj:j<n.toNat:=by
  have:=(E1.mp h).1
  rwa [ye0] at this
 refine⟨hj,?_⟩;unfold W4 at h;rw[List.getElem?_map,List.getElem?_range (by simpa using hj)] at h;have:=B1 h;rw[← this];show D.int (0+(j:Int))=_;rw[Int.zero_add]
theorem qd0{gt:GB}{ge:GE}{n:Int}(h:Nat->D)(H:∀k:Nat,(k:Int)<n->∃δ',gN 0 (.int (k:Int)) δ=some δ'/\gt δ'=some true/\ge δ'=some (h k)) :
  Q8 (gN 0) gt ge δ (W4 0 n)=some ((List.range n.toNat).map h):=by
 rw[z20 (λd=>match d with|.int j=>h j.toNat|_=>.non) (λd hd=>by
  obtain⟨k,hk,rfl⟩:=e80 hd;exact H k hk),eo0]
 rfl
end DL
namespace DL
open Spec PyProof.Rows L2
section
variable{a:Expr}{ga:Ds->Option D}
theorem pw0(hm:X.mg x=none)(hv:bootBuiltins x=some (.type "list"))(ha:PD X e g)(hg:Gl X x:=by rfl)
  (hn:x ≠"__name__" := by decide) (hdb:(x==("__debug__" : Str))=false:=by decide) (he:starEach [e] X.env=(false,eval e X.env)::starEach [] X.env:=by rfl) (hpl:(backTo pos (starEach [] X.env)).any (·.1)=false:=by rfl) :
  PDF X (.Call (.Name x p) [e] [] pos) (oA (z9 g v8) t10):=.mk λB δ=>(rc0 pl0 hg hm hv (J7 (ha B δ) xh0 he) hn hdb he hpl).imp fun σ H Q ⟨d,en,h,k⟩=>by
 unfold oA z9 v8 at h;cases e1:g δ with
 | none=>rw[e1] at h;cases h
 | some x =>
  rw[e1] at h;simp only[Option.bind_some,Option.map_some] at h;refine⟨x,en,e1,λv H1 s1 r1=>?_⟩;cases x<;>simp only[t10] at h<;>try cases h
  ·rw[X8] at r1
   obtain⟨q,xs,rfl,hq,rr⟩:=r1;exact⟨q,xs,rfl,.inr hq.to,λl hl=>k l _ (s1.free hl) (s1.trans (Y5 hl)) ⟨_,Z6,rr.mono (Gr.fresh hl)⟩⟩
  ·rw[W2] at r1
   obtain⟨q,xs,rfl,hq,rr⟩:=r1;exact⟨q,xs,rfl,.inl hq.to,λl hl=>k l _ (s1.free hl) (s1.trans (Y5 hl)) ⟨_,Z6,rr.mono (Gr.fresh hl)⟩⟩
end
def FnN(P:Program)(w:World)(K:W.Frag)(mg:Str->Option Value)(base:Heap)(x:Str)(k:Nat)(ps:List Str)(f:List D->Option D):Prop :=
 ∃(fa:Addr) (fd:FuncData),FnOk P w K mg base CX0 k fa fd ps (spN K f)/\mg x=some (.ref fa)/\W.keepIn K (.ref fa)=true/\Binds K fd ps []
theorem o60{k:Nat}{ps:List Str}{f:List D->Option D}(C:FnN X.prog X.w X.K X.mg X.base x k ps f)(hr:Room m X.A)(hk:k<=m)(ha:PDA X (e::es) gA)(hg:Gl X x:=by rfl)(hdb:(x==("__debug__" : Str))=false:=by decide)
  (he:starEach (e::es) X.env=(false,eval e X.env)::starEach es X.env:=by rfl) (hpl:(backTo pos (starEach es X.env)).any (·.1)=false:=by rfl):PDF X (.Call (.Name x p) (e::es) [] pos) (oA gA f):=by
 obtain⟨fa,fd,F,hm,kp,hb⟩:=C;exact .mk λB δ=>(tz0 (E:=E0) F (hr.mono hk) hg hm kp hb .nil ld0 (ha B δ) hdb he hpl).imp fun σ H Q h=>by
  obtain⟨d,en,h,k⟩:=h;unfold oA at h;cases e1:gA δ with
  | none=>rw[e1] at h;cases h
  | some ds =>
   rw[e1] at h;refine⟨ds,en,e1,λvs H1 s1 r1=>?_⟩;show spN X.K f (vs++[]) H1 Q E0;rw[List.append_nil];exact⟨B,ds,d,(en.same s1).bad,r1,h,λp H' hp s r=>k p H' (s1.free hp) (s1.trans s) r⟩
theorem z90{k:Nat}{ps:List Str}{f:List D->Option D}(C:FnN X.prog X.w X.K X.mg X.base x k ps f)(hr:Room m X.A)(hk:k<=m)(ha:PDA X (e::es) gA)(hg:Gl X x:=by rfl)(hdb:(x==("__debug__" : Str))=false:=by decide)
  (he:starEach (e::es) X.env=(false,eval e X.env)::starEach es X.env:=by rfl) (hpl:(backTo pos (starEach es X.env)).any (·.1)=false:=by rfl):PD X (.Call (.Name x p) (e::es) [] pos) (oA gA f):=(o60 C hr hk ha hg hdb he hpl).pd
theorem O6(h:PDF X e g):PSD X (.Return (some e) pos) (z80 g):=.mk λH₀ B₀ δ pins s σ H D I ⟨r,en,e1,k⟩=>by
 unfold z80 at e1;obtain⟨B,b1,b2,env⟩:=en.ex;cases e2:g δ with
 | none=>rw[e2] at e1;cases e1
 | some d =>
  rw[e2] at e1;cases e1;exact o00 (h B δ) pins s σ H D I ⟨d,env,e2,λp H' hp s' r=>k p H' (en.same.free hp) (en.same.trans s') (r.mono (λo h=>h) (Gr.less λa z=>z.imp (b1 a) id)).toL⟩
theorem qk0(i:Nat){px:Pos}(hN:X.N[i]?=some x:=by rfl)(hv:Vis X.env.scope x:=by first|exact Or.inl rfl|exact Or.inr (Or.inl rfl)|exact Or.inr (Or.inr rfl))(hd:(x==("__debug__" : Str))=false:=by decide)(hcd:(x==("__classdict__" : Str))=false:=by decide) :
  PSD X (.Return (some (.Name x px)) pos) (lj0 i):=.mk λH₀ B₀ δ pins s σ H D I ⟨r,en,e1,k⟩=>by
 unfold lj0 at e1;obtain⟨B,b1,b2,env⟩:=en.ex;split at e1
 ·rename_i d hi
  obtain⟨a,hs,hb,ro⟩:=env.at hi;cases e1;exact o00 (zs0 (i:=i) hN hv hd hcd) pins s σ H D I ⟨_,hs,k a H (en.fr i d a hi hs) en.same (ro.mono (λo h=>h) (Gr.less λb z=>z.elim (b1 b) λq=>by rw[q];exact hb))⟩
 ·cases e1
end DL
namespace DL
@[simp] def hf0:List D->Option D
 | [.lst ds]=>some (.lst ds.reverse)
 | _=>none
def q90(ds:List D):List D:=(List.range ds.length).map λ(k:Nat)=>.tup [.int (k:Int),ds.getD k .non]
mutual
def tree:D->Bool
 | .lst _=>false
 | .dct _ _=>false
 | .fn _ _=>false
 | .tup ds=>trees ds
 | _=>true
def trees:List D->Bool
 | []=>true
 | d::ds=>tree d&&trees ds
end
def yl0(g:GE):GE:=fun δ=>(g (frz δ)).bind λd=>if tree d=true then some d else none
theorem s30{g:GE}{d:D}(h:g (frz δ)=some d)(ht:tree d=true):yl0 g δ=some d:=by
 unfold yl0;rw[h,Option.bind_some,if_pos ht]
theorem J6{gA:GA}{n:Int}(h:gA δ=some [.int n])(h1:-(2 ^ 62)<=n)(h2:n<2 ^ 62):S5 gA δ=some (W4 0 n):=by
 unfold S5;rw[h,Option.bind_some];simp only[mi0];rw[if_pos ⟨h1,h2⟩]
theorem dt0{g:GE}(h:g δ=some (.lst ds)):oA (z9 g v8) W0 δ=some (.int (ds.length:Int)):=by
 rw[m5 (cons_of h rfl)];rfl
end DL
namespace RevL
open Spec PyProof.Rows
theorem l80:typeLookup (.type "list_reverseiterator") "__len__"=pure none:=by rw[typeLookup_type,builtinLookup_eq_fast];kernel_rfl
theorem iw0:typeLookup (.type "list_reverseiterator") "__length_hint__"=pure (some (.builtin "list_reverseiterator.__length_hint__")):=by rw[typeLookup_type,builtinLookup_eq_fast];kernel_rfl
theorem fd0:isSubtype (.type "list_reverseiterator") (.type "list_reverseiterator")=pure true:=by rw[isSubtype_type];kernel_rfl
section
variable{w:World}{s:Shared}
variable{wr:List Addr}{G:Array GenState->Array GenState->Prop}{P:Nat->Value->Prop}{St:Nat->Shared->Prop}
theorem ey0(W:WalksS prog w A.in1 I fp wr G n P St)(hT:∀i s,St i s->s.TypeIs (.ref I) "list_reverseiterator")(C:Addr)(res:Value)(c0:Nat)(st:St 0 s)(hC:C∉fp)(hI:I∈fp)
  (gC:s.heap.get? C=some { cls:=.type "list",data:=.seq #[] c0 })
  (hR:∀s' acc' c',Moved (C::wr) G s s'->s'.heap.get? C=some { cls:=.type "list",dict:=none,data:=.seq acc' c',slots:=#[] }->ItemsOf P acc' n->R (.ok (.ret res)) s') (hn:n<=sizeLine) :
  wpAny (model prog w) A.in1 (Builtin.List.listExtendWith (.ref C) (.ref I) res)
   (λfin s'=>match fin with|.done f=>R (.ok f) s'|.again c'=>c'.quiet=true/\codeAny (model prog w) A c' R s') (λe s'=>R (.error e) s') s:=by
 have ne:C≠I:=λe=>hC (e▸hI)
 unfold Builtin.List.listExtendWith;refine A0 (T0 (hT 0 _ st) (by
  have q1:Builtin.List.listSameRef (.ref C) (.ref I)=false:=by simp[Builtin.List.listSameRef,ne]
  have q2:(Value.type "list_reverseiterator"==Value.type "list")=false:=by decide
  have q3:(Value.type "list_reverseiterator"==Value.type "tuple")=false:=by decide
  simp only[q1,q2,q3,Bool.or_false,Bool.false_eq_true,if_false];refine A0 (W.self 0 _ _ _ st (A0 (C7 (by
   unfold Builtin.List.listLengthHint;refine A0 (x5 (hT 0 _ st) l80 (by
    show wpAny _ A.in1 (specialOf (Value.ref I) (Str.ofString "__length_hint__")>>=_) _ _ _;refine A0 (x5 (hT 0 _ st) iw0 ?_);refine A0 (y4 (hT 0 _ st) fd0 ?_);rw[if_neg (by decide)];dsimp only;rw[if_pos (by decide +kernel),if_neg (by decide)];refine A1 ?_;rw[if_neg (by decide +kernel)];refine A1 ⟨plainId_quiet PySem.F.plain_extend_loop _,?_⟩;exact codeAny_extend_loopS W hn _ hC _ n 0 _ _ _ rfl (E8 _) st gC (ItemsOf.nil P) λs' acc' c' m e J=>hR s' acc' c' m e J))))))))
theorem h90(W:WalksS prog w A.in1 I fp wr G n P St)(hT:∀i s,St i s->s.TypeIs (.ref I) "list_reverseiterator")(C:Addr)(st:St 0 s)(hC:C∉fp)(hI:I∈fp)
  (gC:s.heap.get? C=some { cls:=.type "list",data:=.seq #[] })
  (hR:∀s' acc' c',Moved (C::wr) G s s'->s'.heap.get? C=some { cls:=.type "list",dict:=none,data:=.seq acc' c',slots:=#[] }->ItemsOf P acc' n->R (.ok (.ret .none)) s') (hn:n<=sizeLine) :
  wpAny (model prog w) A.in1 (Builtin.«list.__init__» ⟨[.ref C,.ref I],[]⟩)
   (λfin s'=>match fin with|.done f=>R (.ok f) s'|.again c'=>c'.quiet=true/\codeAny (model prog w) A c' R s') (λe s'=>R (.error e) s') s:=by
 show wpAny _ A.in1 (do let old ← Builtin.List.listItems (.ref C);Builtin.List.listUpdate (.ref C) (λ_=>#[]);letGo old.toList.reverse;Builtin.List.listExtendWith (.ref C) (.ref I) .none) _ _ s;refine A0 (by
  unfold Builtin.List.listItems;refine A0 (K0 gC rfl (A1 (by
   show wpAny _ A.in1 (updateSeq C (λ_=>#[])>>=λ_=>letGo (#[]:Array Value).toList.reverse>>=λ_=>Builtin.List.listExtendWith (.ref C) (.ref I) .none) _ _ s;have g2:=Heap.get?_update_self (Obj.mapSeq (λ_=>(#[]:Array Value))) gC rfl;have oth:∀b o,b≠C->s.heap.get? b=some o->(s.heap.update C (Obj.mapSeq (λ_=>(#[]:Array Value)))).get? b=some o:=λb o hb e=>(w4 _ _ (C6 hb)).trans e
   refine A0 (wpAny_updateSeq gC rfl (A0 (U2 (ey0 W hT C .none _ (W.frame 0 s _ s.toks st (A4 _) λb hb o e=>oth b o (λh=>hC (h▸hb)) e) hC hI g2 (λs' acc' c' m e F=>?_) hn))));exact hR s' acc' c' (Moved.trans W.gtrans ((Moved.refl W.grefl).then_heap (A4 _) λb o hb e=>oth b o (λh=>hb (h▸A5)) e) m) e F))))
end
section
variable{w:World}{s:Shared}
variable{wr:List Addr}{G:Array GenState->Array GenState->Prop}{P:Nat->Value->Prop}{St:Nat->Shared->Prop}
theorem rt0{Q:Value->Shared->Prop}(W:WalksS prog w A.in1.in1 I fp wr G n P St)(hT:∀i s,St i s->s.TypeIs (.ref I) "list_reverseiterator")(st:St 0 s)(hfp:∀b∈fp,b<s.heap.objs.size)(hI:I∈fp)
  (hQ:∀s' acc' c',Moved (s.heap.objs.size::wr) G { s with heap:=s.heap.push { cls:=.type "list",data:=.seq #[] } } s' ->
   s'.heap.get? s.heap.objs.size=some { cls:=.type "list",dict:=none,data:=.seq acc' c',slots:=#[] }->ItemsOf P acc' n->Q (.ref s.heap.objs.size) s') (hn:n<=sizeLine) :
  wpAny (model prog w) A (call (.type "list") [.ref I]) Q E s:=by
 have hC:s.heap.objs.size∉fp:=λz=>E6 _ (hfp _ z)
 refine callType_codes (Q₁:=λob s1=>ob=.ref s.heap.objs.size/\s1={ s with heap:=s.heap.push { cls:=.type "list",data:=.seq #[] } }) PySem.F.called_list (PySem.F.typeCall_list_1 _) PySem.F.entry_list_init (code_list_new _ ⟨rfl,rfl⟩) λob s1 h1=>?_
 obtain⟨rfl,rfl⟩:=h1;have gC:(s.heap.push { cls:=.type "list",data:=.seq #[] }).get? s.heap.objs.size=some { cls:=.type "list",data:=.seq #[] }:=B7 _ rfl;exact⟨⟨_,gC,rfl⟩,PySem.F.args_list_init_2 _ _,h90 W hT _ (W.frame 0 s _ s.toks st (A4 _) λb _ o e=>A7 _ e) hC hI gC (λs' acc' c' m e J=>⟨rfl,hQ s' acc' c' m e J⟩) hn⟩
theorem rv0{l:Addr}{its:Array Value}{Q:Value->Shared->Prop}(hh:A.handled=none)(hl:s.heap.IsList l its)(hz:its.size<=sizeLine)
  (h:∀(h':Heap) (tk c:Nat) (a:Addr),s.heap.objs.size<=a->h'.get? a=some { cls:=.type "list",dict:=none,data:=.seq its.reverse c,slots:=#[] }->(∀b o,s.heap.get? b=some o->h'.get? b=some o)->Q (.ref a) { s with heap:=h',toks:=tk }) :
  wpAny (model prog w) A (call (.type "reversed") [.ref l]) (λv s1=>wpAny (model prog w) A (call (.type "list") [v]) Q E s1) E s:=by
 refine call_reversed_list hl ?_;obtain⟨ol,gl,_,_⟩:=id hl;have L:l<s.heap.objs.size:=A6 gl;have M:A.in1.in1.handled=none:=by simp[hh]
 have Wk:=(Walks.listRev (prog:=prog) (w:=w) M s.heap.objs.size l (B0 L) its).toS;refine rt0 Wk (λi s x=>x.2.1.typeIs) ⟨E8 _,⟨_,B7 _ rfl,rfl,by
  show Data.fields #[.ref l,rawInt ((its.size:Int) - 1)]=_;have z:(its.size:Int) - 1 - ((0:Nat):Int)=(its.size:Int) - 1:=by omega
  rw[z]⟩,hl.push _⟩ (λb hb=>?_) (by simp) (λs' J c' m e F=>?_) hz
 ·show b<(s.heap.push _).objs.size
  rw[Heap.size_push];simp only[List.mem_cons,List.not_mem_nil,or_false] at hb;rcases hb with rfl|rfl
  ·exact x9 _
  ·exact N3 L
 ·obtain⟨h',g',d',O,S⟩:=s'
  obtain rfl:g'=s.gens:=m.gens;obtain rfl:d'=s.drawn:=m.drawn;obtain rfl:S=s.os:=m.os;have ea:J=its.reverse:=by
   apply Array.ext
   ·rw[F.1,Array.size_reverse]
   ·intro i h1 h2
    have q:its[its.size - 1 - i]?=some J[i]:=F.2 i J[i] (Array.getElem?_eq_getElem h1);have hi:i<its.size:=by rw[← F.1];exact h1
    rw[Array.getElem?_eq_getElem (by omega)] at q;rw[Array.getElem_reverse];exact(B1 q).symm
  subst ea;have U:(s.heap.push (revObj l ((its.size:Int) - 1))).objs.size=s.heap.objs.size+1:=Heap.size_push ..;refine h h' O c' _ ?_ e λb o eb=>?_
  ·show s.heap.objs.size<=(s.heap.push _).objs.size
   rw[Heap.size_push];exact y6 _
  ·have lb:=A6 eb
   refine m.heap b o ?_ (A7 _ (A7 _ eb));simp only[List.mem_cons,List.not_mem_nil,or_false,not_or];refine⟨?_,B0 lb⟩;show b≠(s.heap.push _).objs.size;rw[Heap.size_push];exact B0 (N3 lb)
end
end RevL
namespace DL
open Spec PyProof.Rows L2
theorem Rps.reverse:∀{ds:List D} {xs:List V},Rps K H B ds xs->Rps K H B ds.reverse xs.reverse
 | [],_,h=>by rw[j5] at h;subst h;simp[j5]
 | d::ds,_,h=>by
  rw[o8] at h;obtain⟨x,r,rfl,h1,h2⟩:=h;rw[List.reverse_cons,List.reverse_cons];exact Rps.snoc (Rps.reverse h2) h1
theorem n90:bootBuiltins "reversed"=some (.type "reversed"):=by decide +kernel
theorem ei0:bootBuiltins "list"=some (.type "list"):=by decide +kernel
theorem fh0(hc:X.calm=true)(hl:X.mg "list"=none)(hs:X.mg "reversed"=none)(he:PE X e te)(hgl:Gl X "list" := by rfl)(hgs:Gl X "reversed" := by rfl)
  (e1:starEach [.Call (.Name "reversed" p2) [e] [] pos2] X.env=(false,eval (.Call (.Name "reversed" p2) [e] [] pos2) X.env)::starEach [] X.env:=by rfl) (e2:starEach [e] X.env=(false,eval e X.env)::starEach [] X.env:=by rfl)
  (h1:(backTo pos (starEach [] X.env)).any (·.1)=false:=by rfl) (h2:(backTo pos2 (starEach [] X.env)).any (·.1)=false:=by rfl) :
  PE X (.Call (.Name "list" p) [.Call (.Name "reversed" p2) [e] [] pos2] [] pos) (fun σ H Q=>te σ H λv H'=>∃q xs,v=.ref q/\SqL X.K H' q xs/\∀l,H' l=none->Q (.ref l) (upd H' l (.lst xs.reverse))):=by
 intro pins s σ H Q I h;refine P1 (zo0 I hgl hl ei0 ?_ (by decide) (by decide));refine M1 ?_ e1 h1;rw[e1];show wpAny _ _ (spliced ((false,eval (.Call (.Name "reversed" p2) [e] [] pos2) X.env)::backTo pos (starEach [] X.env))) _ _ s;refine Y1 ?_;refine P1 (zo0 I hgs hs n90 ?_ (by decide) (by decide));refine M1 ?_ e2 h2;rw[e2];show wpAny _ _ (spliced ((false,eval e X.env)::backTo pos2 (starEach [] X.env))) _ _ s;refine Y1 (thn (he pins s σ H _ I h) λu s1 ⟨v,H1,I1,r1,q,xs,ev,hq,k⟩=>X9 ?_);subst ev;obtain rfl:u=Value.ref q:=r1;obtain⟨its,rv,pl,hz⟩:=I1.list hq;have F:=rv.length;refine thn (RevL.rv0 (I1.ok.hd hc) pl.isList (by rw[List.size_toArray,← F];exact hz) (Q:=EP X pins σ Q) (E:=X.xe) λh' tk c a ha ga hk=>?_) λv s2 hv=>X9 hv
 have hf:H1 a=none:=I1.hok.fresh ha;refine⟨.ref a,_,I1.laid (a:=a) (o:=.lst xs.reverse) (t':=tk) hk ha ?_,rfl,k a hf⟩;exact⟨by rw[List.length_reverse];exact hz,its.reverse,c,rv.reverse,by rw[ga];simp⟩
theorem g70(hl:X.mg "list"=none)(hs:X.mg "reversed"=none)(he:PD X e g)(hc:X.calm=true:=by rfl)(hgl:Gl X "list" := by rfl)(hgs:Gl X "reversed" := by rfl)
  (e1:starEach [.Call (.Name "reversed" p2) [e] [] pos2] X.env=(false,eval (.Call (.Name "reversed" p2) [e] [] pos2) X.env)::starEach [] X.env:=by rfl) (e2:starEach [e] X.env=(false,eval e X.env)::starEach [] X.env:=by rfl)
  (h1:(backTo pos (starEach [] X.env)).any (·.1)=false:=by rfl) (h2:(backTo pos2 (starEach [] X.env)).any (·.1)=false:=by rfl) :
  PDF X (.Call (.Name "list" p) [.Call (.Name "reversed" p2) [e] [] pos2] [] pos) (oA (z9 g v8) hf0):=.mk λB δ =>
 (fh0 hc hl hs (he B δ) hgl hgs e1 e2 h1 h2).imp fun σ H Q ⟨d,en,h,k⟩=>by
  unfold oA z9 v8 at h;cases e3:g δ with
  | none=>rw[e3] at h;cases h
  | some x =>
   rw[e3] at h;simp only[Option.bind_some,Option.map_some] at h;cases x<;>simp only[hf0] at h<;>try cases h
   refine⟨_,en,e3,λv H1 s1 r=>?_⟩;rw[W2] at r;obtain⟨q,xs,rfl,hq,rr⟩:=r;exact⟨q,xs,rfl,hq.to,λl hl=>k l _ (s1.free hl) (s1.trans (Y5 hl)) ⟨_,Z6,rr.reverse.mono (Gr.fresh hl)⟩⟩
theorem w00[DecidableEq κ]:∀{ks:List κ} {ds:List D} {xs:List V} {q:κ},Rps K H B ds xs->(∀d,zu0 ks ds q=some d->∃x,zx0 (ks.zip xs) q=some x/\Rp K H B d x)/\(ks.length=xs.length->(zx0 (ks.zip xs) q).isSome=K1 ks q)
 | [],ds,xs,q,h=>by
  refine⟨λd e=>?_,λ_=>?_⟩
  ·unfold zu0 at e;cases e
  ·rfl
 | k::ks,[],xs,q,h=>by
  rw[j5] at h;subst h;refine⟨λd e=>?_,λz=>?_⟩
  ·unfold zu0 at e;cases e
  ·simp at z
 | k::ks,d::ds,xs,q,h=>by
  rw[o8] at h;obtain⟨x,r,rfl,h1,h2⟩:=h;obtain⟨i1,i2⟩:=w00 (ks:=ks) (q:=q) h2
  by_cases e:k=q
  ·subst e
   refine⟨λd' e'=>?_,λ_=>?_⟩
   ·unfold zu0 at e'
    rw[if_pos rfl] at e';cases e';exact⟨x,yk0 rfl,h1⟩
   ·rw[List.zip_cons_cons,yk0 rfl]
    unfold K1;simp
  ·refine⟨λd' e'=>?_,λz=>?_⟩
   ·unfold zu0 at e'
    rw[if_neg e] at e';rw[List.zip_cons_cons,yn0 e];exact i1 d' e'
   ·rw[List.zip_cons_cons,yn0 e,i2 (by simpa using z)]
    unfold K1;simp[e]
theorem m40[DecidableEq κ]:∀{ks:List κ} {xs:List V} {q:κ},ks.length=xs.length->((ks.zip xs).any λkv=>decide (kv.1=q))=K1 ks q
 | [],_,_,_=>rfl
 | k::ks,[],_,h=>by simp at h
 | k::ks,x::xs,q,h=>by
  rw[List.zip_cons_cons,List.any_cons,m40 (by simpa using h)];rfl
theorem el0[DecidableEq κ]{ks:List κ}{q:κ}{v:V}(h:ks.length=xs.length):∃ys,putK (ks.zip xs) q v=(zt0 ks q).zip ys/\(zt0 ks q).length=ys.length/\(K1 ks q=true->ys=(ks.zip xs).map λp=>if p.1=q then v else p.2)/\(K1 ks q=false->ys=xs++[v]):=by
 unfold putK zt0;rw[m40 h];cases hk:K1 ks q with
 | true =>
  rw[if_pos rfl,if_pos rfl];refine⟨(ks.zip xs).map λp=>if p.1=q then v else p.2,?_,by simp[h],λ_=>rfl,λz=>by cases z⟩;clear hk
  induction ks generalizing xs with
  | nil=>rfl
  | cons k ks ih =>
   cases xs with
   | nil=>simp at h
   | cons x xs =>
    rw[List.zip_cons_cons,List.map_cons,List.map_cons,List.zip_cons_cons,ih (by simpa using h)]
    by_cases e:k=q<;>simp[e]
 | false =>
  rw[if_neg (by simp),if_neg (by simp)];refine⟨xs++[v],?_,by simp[h],λz=>(by cases z),λ_=>rfl⟩;rw[List.zip_append h];rfl
theorem tm0[DecidableEq κ]{q:κ}{d:D}{v:V}(hv:Rp K H B d v):∀{ks:List κ} {ds:List D} {xs:List V},Rps K H B ds xs->Rps K H B ((ks.zip ds).map λp=>if p.1=q then d else p.2) ((ks.zip xs).map λp=>if p.1=q then v else p.2)
 | [],_,_,_=>by simp[j5]
 | k::ks,[],xs,h=>by rw[j5] at h;subst h;simp[j5]
 | k::ks,d'::ds,xs,h=>by
  rw[o8] at h;obtain⟨x,r,rfl,h1,h2⟩:=h;rw[List.zip_cons_cons,List.zip_cons_cons,List.map_cons,List.map_cons,o8];refine⟨_,_,rfl,?_,tm0 hv h2⟩
  by_cases e:k=q
  ·simp only[e,if_true];exact hv
  ·simp only[e,if_false];exact h1
section
variable{a:Expr}{ga:Ds->Option D}
theorem mv0{d:D}{k:N6}{v:V}(h:xm0 d=some k)(r:Rp K H B d v):v=kV k:=by
 cases d<;>simp[xm0] at h
 ·subst h;rw[m9] at r;subst r;rfl
 ·subst h;rw[Y8] at r;subst r;rfl
theorem i00:∀{ds:List D} {ks:List N6} {xs:List V},vl0 ds=some ks->Rps K H B ds xs->xs=ks.map kV
 | [],ks,xs,h,r=>by cases h;rw[j5] at r;exact r
 | d::ds,ks,xs,h,r=>by
  unfold vl0 at h;rw[o8] at r;obtain⟨x,r',rfl,h1,h2⟩:=r;cases e1:xm0 d with
  | none=>rw[e1] at h;cases h
  | some k =>
   cases e2:vl0 ds with
   | none=>rw[e1,e2] at h;cases h
   | some l =>
    rw[e1,e2] at h;cases h;rw[mv0 e1 h1,i00 e2 h2];rfl
theorem tb0{d:D}{k:List N6}{v:V}(h:G5 d=some k)(r:Rp K H B d v):∃b,v=.ref b/\H b=some (.tup (k.map kV)):=by
 cases d<;>simp only[G5] at h<;>try cases h
 rw[X8] at r;obtain⟨a,xs,rfl,q,rr⟩:=r;exact⟨a,rfl,by rw[← i00 h rr];exact q.2⟩
theorem nm0(hu:X.A.units+1<cLine)(ha:PD X a ga)(hb:PD X b gb)(hs:i90 b:=by exact λ_ _=>rfl):PD X (.Subscript a b pos) (o2 ga gb vz0):=.mk λB δ=>(d80 hu (ha B δ) (hb B δ) hs).imp fun σ H Q ⟨d,en,h,k⟩=>by
 unfold o2 at h;cases e1:ga δ with
 | none=>rw[e1] at h;cases h
 | some x =>
  cases e2:gb δ with
  | none=>rw[e1,e2] at h;cases h
  | some y =>
   rw[e1,e2] at h;simp only[Option.bind_some] at h;refine⟨x,en,e1,λv1 H1 s1 r1=>⟨y,en.same s1,e2,λv2 H2 s2 r2=>?_⟩⟩;cases x<;>simp only[vz0] at h<;>try cases h
   rename_i ks ds;have r1:=r1.same s2;cases ks with
   | inl ks =>
    simp only at h;cases e3:xm0 y with
    | none=>rw[e3] at h;cases h
    | some q =>
     rw[e3] at h;simp only[Option.bind_some] at h;rw[lt0] at r1;obtain⟨p,xs,rfl,_,hp,hl,rr⟩:=r1;obtain⟨v,hv,rv⟩:=(w00 rr).1 d h;have:=mv0 e3 r2;subst this;exact⟨p,v,rfl,by rw[← hv];exact DGet.k hp,k v H2 (s1.trans s2) rv⟩
   | inr ks =>
    simp only at h;cases e3:G5 y with
    | none=>rw[e3] at h;cases h
    | some q =>
     rw[e3] at h;simp only[Option.bind_some] at h;rw[vy0] at r1;obtain⟨p,xs,rfl,_,hp,hl,rr⟩:=r1;obtain⟨v,hv,rv⟩:=(w00 rr).1 d h;obtain⟨b,rfl,hb⟩:=tb0 e3 r2;exact⟨p,v,rfl,by rw[← hv];exact DGet.t hp hb,k v H2 (s1.trans s2) rv⟩
theorem pk0(hu:X.A.units+1<cLine)(ha:PD X a ga)(hb:PD X b gb)(hm:behindInMarks .NotIn b=false:=by first|rfl|with_unfolding_all rfl):PTD X (.Compare a [.NotIn] [b] pos) (ob (o2 ga gb (J4 true))):=.mk λB δ=>(cc0 (jz0 hu (ha B δ) (hb B δ)) hm).imp fun σ H Q ⟨t,en,h,k⟩=>by
 unfold ob o2 at h;cases e1:ga δ with
 | none=>rw[e1] at h;cases h
 | some x =>
  cases e2:gb δ with
  | none=>rw[e1,e2] at h;cases h
  | some y =>
   rw[e1,e2] at h;simp only[Option.bind_some] at h;refine⟨x,en,e1,λv1 H1 s1 r1=>⟨y,en.same s1,e2,λv2 H2 s2 r2=>?_⟩⟩;cases y<;>simp only[J4] at h<;>try cases h
   rename_i ks ds;cases ks with
   | inl ks =>
    simp only at h;cases e3:xm0 x with
    | none=>rw[e3] at h;cases h
    | some q =>
     rw[e3] at h;simp only[Option.map_some,Option.bind_some,asB,Bool.true_xor] at h;cases h;rw[lt0] at r2;obtain⟨p,xs,rfl,_,hp,hl,rr⟩:=r2;have:=mv0 e3 r1;subst this;refine⟨p,_,rfl,DGet.k hp,_,rfl,?_⟩;rw[(w00 rr).2 hl];exact k H2 (s1.trans s2)
   | inr ks =>
    simp only at h;cases e3:G5 x with
    | none=>rw[e3] at h;cases h
    | some q =>
     rw[e3] at h;simp only[Option.map_some,Option.bind_some,asB,Bool.true_xor] at h;cases h;rw[vy0] at r2;obtain⟨p,xs,rfl,_,hp,hl,rr⟩:=r2;obtain⟨b,rfl,hb⟩:=tb0 e3 (r1.same s2);refine⟨p,_,rfl,DGet.t hp hb,_,rfl,?_⟩;rw[(w00 rr).2 hl];exact k H2 (s1.trans s2)
theorem es0{r:List (List N6)×List D}(h:tr0 i δ=some r):δ[i]?=some (.ow (.dct (.inr r.1) r.2)):=by
 unfold tr0 at h;split at h
 ·cases h;assumption
 ·cases h
theorem ql0(i:Nat)(hu:X.A.units+1<cLine)(h:PD X e g)(hN:X.N[i]?=some x:=by rfl)(hv:Vis X.env.scope x:=by first|exact Or.inl rfl|exact Or.inr (Or.inl rfl)|exact Or.inr (Or.inr rfl))(hd:(x==("__debug__" : Str))=false:=by decide)(hcd:(x==("__classdict__" : Str))=false:=by decide)
  (ha:∀v,assign (.Subscript (.Name x px) e pos) X.env v=(do
   let ov ← holding [v] (eval (.Name x px) X.env)
   let iv ← holding [v,ov] (eval e X.env)
   standAt pos
   holding [v,ov,iv] (setItem ov iv v)
   release [v,ov,iv] []):=by intro _;rfl):PTG X (.Subscript (.Name x px) e pos) (yi0 i g):=.mk λH₀ B₀ d δ pins s σ H v u Q I r ⟨δ',en,e1,k⟩=>by
 unfold yi0 at e1;obtain⟨B,b1,b2,env,rv⟩:=en.ex;cases e2:tr0 i δ with
 | none=>rw[e2] at e1;cases e1
 | some pr =>
  cases e3:g δ with
  | none=>rw[e2,e3] at e1;cases e1
  | some dk =>
   rw[e2,e3] at e1;simp only[Option.bind_some] at e1;cases e4:G5 dk with
   | none=>rw[e4] at e1;cases e1
   | some q =>
    rw[e4] at e1;simp only[Option.bind_some] at e1;split at e1
    ·rename_i hz
     cases e1;have hi:=es0 e2;obtain⟨a,F,hb,xs,hx,hl,rx⟩:=env.at hi;have hl:pr.1.length=xs.length:=hl;refine lv0 (zs0 (i:=i) hN hv hd hcd) (h B δ) (set_dict hu) ha pins s σ H v u Q I r ⟨_,F,_,env,e3,λiv H1 s1 r1=>?_⟩;obtain⟨kb,rfl,O⟩:=tb0 e4 r1;obtain⟨ys,hy,S,M,L⟩:=el0 (q:=q) (v:=v) hl;refine⟨a,_,rfl,DPut.t (s1 _ _ hx) O (by rw[List.length_zip,← hl,Nat.min_self];exact hz),?_⟩;have rr:Rps X.K H1 B (yc0 pr.1 pr.2 q d) ys:=by
      unfold yc0;cases hk:K1 pr.1 q with
      | true=>rw[if_pos rfl,M hk];exact tm0 (rv.same s1) (rx.same s1)
      | false=>rw[if_neg (by simp),L hk];exact Rps.snoc (rx.same s1) (rv.same s1)
     rw[hy];have J:Env X.K (upd H1 a (.dT ((zt0 pr.1 q).zip ys))) B σ (δ.set i (.ow (.dct (.inr (zt0 pr.1 q)) (yc0 pr.1 pr.2 q d)))):=(env.same s1).mut hi F ⟨ys,Z6,S,rr.mono (Gr.own hb)⟩;exact k _ _ (en.s.mut s1 b1 b2 hi F J)
    ·cases e1
end
end DL
namespace DL
open Spec PyProof.Rows L2
section
variable{a:Expr}{ga:Ds->Option D}
theorem we0{sc scope:Scope}{elt iter tg:Expr}{ifs:List Expr}{N N':List Str}{n:Nat}{caps:List Nat}{gi:Ds->Option (List D)}{idx:List Nat}{f:D->Ds->Option Ds}{gt:Ds->Option Bool}{ge:Ds->Option D}
  (ok:CompOk sc scope N N' n caps) (hidx:∀j∈idx,j<n) (hi:PID X tg iter gi)
  (hg:∀cl s H ex,PGD (W9 X scope cl N' s H ex) tg idx f) (ht:∀cl s H ex,PFD (W9 X scope cl N' s H ex) ifs gt) (he:∀cl s H ex,PD (W9 X scope cl N' s H ex) elt ge)
  (hc:X.calm=true:=by rfl) (hsc:X.env.scope=sc:=by rfl) (hN:X.N=N:=by rfl) (hs:∀x,foldedSetIterable iter X.env x=pure x:=by intro _;rfl) :
  PDF X (.ListComp elt [⟨tg,iter,ifs,0⟩] scope pos) (R4 n caps gi f gt ge):=p20 hc hsc (hN▸ok) hidx hi hg ht he hs
end
end DL
namespace ZipL
open Spec PyProof.Rows
abbrev IsZ(h:Heap)(z TI TO a:Addr)(f:Bool):Prop :=
 h.get? z=some { cls:=.type "zip",dict:=none,data:=.fields #[rawInt a,.bool f,.bool false,.ref TI,.ref TO],slots:=#[] }
section
variable{w:World}{s:Shared}
theorem alive{o:Obj}{Q:Option Obj->Shared->Prop}(ho:s.heap.get? a=some o)(h:Q (some o) s):wpAny (model prog w) A (loadIfAlive a) Q E s:=by
 have h':Q (s.heap.get? a) s:=by rw[ho];exact h
 exact λ_ _ _=>h'
theorem qe0{TI TO:Addr}{f:Bool}{Q:Bool->Shared->Prop}(hz:IsZ s.heap z TI TO a f)(ha:s.heap.get? a=some oa)
  (hQ:∀h',IsZ h' z TI TO a true->Heap.SameBut z s.heap h'->Q false { s with heap:=h' }):wpAny (model prog w) A (Builtin.SmallTypes.ownedTupleIsFree (.ref z)) Q E s:=by
 unfold Builtin.SmallTypes.ownedTupleIsFree;refine A0 (B5 hz rfl (x:=rawInt a) rfl ?_);show wpAny _ _ (loadIfAlive ((a:Int).toNat)>>=_) _ _ _;rw[Int.toNat_natCast];refine A0 (alive ha ?_);simp only[Option.isNone_some,Bool.false_eq_true,if_false];refine A0 (B5 hz rfl (x:=.bool f) rfl ?_);cases f with
 | true =>
  rw[if_neg (show ¬((Value.bool true != Value.bool true)=true) from B4)];exact A1 (hQ _ hz (Heap.SameBut.refl _ _))
 | false =>
  rw[if_pos (show (Value.bool false != Value.bool true)=true from rfl)];exact A0 (D5 hz (by simp) λh3 J F=>A1 (hQ h3 J F))
theorem hh0{TI TO a:Addr}{f:Bool}{oa:Obj}{k1 k2:Nat}{xs ys:Array Value}{x y:Value}{Q:Value->Shared->Prop}(D:ZipApart z TI TO i1 i2 l1 l2)
  (hz:IsZ s.heap z TI TO a f) (ha:s.heap.get? a=some oa) (hTI:IsPair s.heap TI (.ref i1) (.ref i2))
  (h1:s.heap.IsListIter i1 l1 k1) (h2:s.heap.IsListIter i2 l2 k2) (hl1:s.heap.IsList l1 xs) (hl2:s.heap.IsList l2 ys) (hx:xs[k1]?=some x) (hy:ys[k2]?=some y)
  (hQ:∀h',IsZ h' z TI TO a true->h'.IsListIter i1 l1 (k1+1)->h'.IsListIter i2 l2 (k2+1)->IsPair h' s.heap.objs.size x y->h'.objs.size=s.heap.objs.size+1 ->
   (∀c o,c≠z->c≠i1->c≠i2->s.heap.get? c=some o->h'.get? c=some o)->Q (.ref s.heap.objs.size) { s with heap:=h' }) :
  wpAny (model prog w) A (Builtin.«zip.__next__» ⟨[.ref z],[]⟩) (λfin s'=>∃v,fin=.done (.ret v)/\Q v s') E s:=by
 show wpAny _ _ (field (.ref z) 2>>=_) _ _ _;refine A0 (B5 hz rfl (x:=.bool false) rfl ?_);show wpAny _ _ (field (.ref z) 3>>=_) _ _ _;refine A0 (B5 hz rfl (x:=.ref TI) rfl ?_);refine A0 (K0 hTI rfl ?_);show wpAny _ _ (Builtin.SmallTypes.ownedTupleIsFree (.ref z)>>=_) _ _ _;refine A0 (qe0 hz ha λh₁ S F=>?_);simp only[Bool.false_eq_true,if_false];refine A0 ?_;simp only[List.forIn_toArray,List.forIn_cons,List.forIn_nil];refine A0 (A0 (C7 ?_));show wpAny _ _ (Builtin.SmallTypes.nextOf (.ref i1)>>=_) _ _ _;refine A0 (P7 (h1.extBut F.extBut D.i1z) (hl1.extBut F.extBut D.l1z) hx λh₂ Z J=>A1 ?_);refine A1 ?_;refine A0 (A0 (C7 ?_));show wpAny _ _ (Builtin.SmallTypes.nextOf (.ref i2)>>=_) _ _ _;refine A0 (P7 ((h2.extBut F.extBut D.i2z).extBut J.extBut D.i12.symm) ((hl2.extBut F.extBut D.l2z).extBut J.extBut D.l2i1) hy λh₄ O L=>A1 ?_);refine A1 (A1 ?_);refine A0 (d4 (hsz:=by show 2<=sizeLine;decide) ?_);have M:h₄.objs.size=s.heap.objs.size:=by rw[L.1,J.1,F.1]
 have U:IsZ h₄ z TI TO a true:=L.extBut _ _ D.i2z.symm (J.extBut _ _ D.i1z.symm S);have Y:∀c o,c≠z->c≠i1->c≠i2->s.heap.get? c=some o->h₄.get? c=some o:=λc o c1 c3 c4 e=>L.extBut _ _ c4 (J.extBut _ _ c3 (F.extBut _ _ c1 e))
 refine A1 ⟨_,rfl,?_⟩;show Q (.ref h₄.objs.size) _;have hq:=hQ (h₄.push { cls:=.type "tuple",data:=.seq #[x,y] }) (A7 _ U) ((Z.extBut L.extBut D.i12).at λo e=>A7 _ e) (O.at λo e=>A7 _ e)
  (by rw[← M];exact B7 _ rfl) (by rw[Heap.size_push,M]) λc o c1 c3 c4 e=>A7 _ (Y c o c1 c3 c4 e)
 rw[M];exact hq
theorem fw0{TI TO a:Addr}{f:Bool}{oa:Obj}{k1 k2:Nat}{xs ys:Array Value}{Q:Fin->Shared->Prop}(hh:A.handled=none)(D:ZipApart z TI TO i1 i2 l1 l2)
  (hz:IsZ s.heap z TI TO a f) (ha:s.heap.get? a=some oa) (hTI:IsPair s.heap TI (.ref i1) (.ref i2))
  (h1:s.heap.IsListIter i1 l1 k1) (h2:s.heap.IsListIter i2 l2 k2) (hl1:s.heap.IsList l1 xs) (hl2:s.heap.IsList l2 ys) (hend:xs[k1]?=none∨ys[k2]?=none)
  (hE:∀h' e,(∀c o,c≠z->c≠i1->c≠i2->s.heap.get? c=some o->h'.get? c=some o)->(∃o,h'.get? e=some o/\o.cls=.type "StopIteration")->E (.ref e) { s with heap:=h' }) :
  wpAny (model prog w) A (Builtin.«zip.__next__» ⟨[.ref z],[]⟩) Q E s:=by
 show wpAny _ _ (field (.ref z) 2>>=_) _ _ _;refine A0 (B5 hz rfl (x:=.bool false) rfl ?_);show wpAny _ _ (field (.ref z) 3>>=_) _ _ _;refine A0 (B5 hz rfl (x:=.ref TI) rfl ?_);refine A0 (K0 hTI rfl ?_);show wpAny _ _ (Builtin.SmallTypes.ownedTupleIsFree (.ref z)>>=_) _ _ _;refine A0 (qe0 hz ha λh₁ M F=>?_);simp only[Bool.false_eq_true,if_false];refine A0 ?_;simp only[List.forIn_toArray,List.forIn_cons,List.forIn_nil];refine A0 (A0 (C7 ?_));show wpAny _ _ (Builtin.SmallTypes.nextOf (.ref i1)>>=_) _ _ _;cases hx:xs[k1]? with
 | none =>
  refine A0 (d5 hh (h1.extBut F.extBut D.i1z) (hl1.extBut F.extBut D.l1z) hx λh₂ e J he=>?_);exact hE h₂ e (λc o c1 c3 _ x=>J _ _ c3 (F.extBut _ _ c1 x)) he
 | some x =>
  have hy:ys[k2]?=none:=by rcases hend with h|h;rw[hx] at h;cases h;exact h
  refine A0 (P7 (h1.extBut F.extBut D.i1z) (hl1.extBut F.extBut D.l1z) hx λh₂ O J=>A1 ?_);refine A1 ?_;refine A0 (A0 (C7 ?_));show wpAny _ _ (Builtin.SmallTypes.nextOf (.ref i2)>>=_) _ _ _;refine A0 (d5 hh ((h2.extBut F.extBut D.i2z).extBut J.extBut D.i12.symm) ((hl2.extBut F.extBut D.l2z).extBut J.extBut D.l2i1) hy λh₄ e L he=>?_);exact hE h₄ e (λc o c1 c3 c4 x=>L _ _ c4 (J.extBut _ _ c3 (F.extBut _ _ c1 x))) he
end
end ZipL
namespace L2
open Spec PyProof.Rows
section
variable{s:Shared}
theorem Inv.turnedL(I:Inv X pins σ H s)(hf:∀b∈fp,ym0 X pins H b)(k:∀b o,b∉fp->s.heap.get? b=some o->h'.get? b=some o):Inv X pins σ H { s with heap:=h',toks:=t' }:=by
 have F:∀b u,H b=some u->b∉fp:=λb u e z=>by rw[(hf b z).1] at e;cases e
 refine I.step (g':=s.gens) (d':=s.drawn) (ch:=fp) (λb hb=>⟨(hf b hb).2.2.2.1,(hf b hb).2.1,(hf b hb).2.2.2.2.1,(hf b hb).2.2.2.2.2⟩) (λb o _ _ hc e _=>k b o hc e) (λb o _ _ hc e _=>⟨o.slots,k b o hc e⟩) (λ_ _ _ _ n=>n)
  (λb o hc e=>⟨o,k b o hc e⟩) (λ_ _ e=>e) (λ_ _ _ e=>e) (λb ps e=>⟨#[],by rw[e];simp⟩) (λm hm=>?_) (λb u e=>?_) I.bare
 ·obtain⟨o,es,ep,ho,r⟩:=hm
  exact⟨o,es,ep,k _ o (λz=>(hf _ z).2.1 rfl) ho,r⟩
 ·refine(I.hok b u e).stay (λc v hc q=>k c v ?_ q) (λ_ q=>q) (λ_ _ q=>q) λ_ _ _ q=>q
  rcases hc with z|z
  ·rw[z];exact F b u e
  ·exact F c _ z
theorem Inv.turnedNew{t':Nat}{x:V}{w:Value}(I:Inv X pins σ H s)(hf:∀b∈fp,ym0 X pins H b)(rx:RelV x u)(ry:RelV y w)(hlt:∀b∈fp,b<s.heap.objs.size)
  (hob:h'.get? s.heap.objs.size=some { cls:=.type "tuple",data:=.seq #[u,w] }) (k:∀b o,b∉fp->s.heap.get? b=some o->h'.get? b=some o) :
  Inv X pins σ (upd H s.heap.objs.size (.tup [x,y])) { s with heap:=h',toks:=t' }/\∀b∈fp,upd H s.heap.objs.size (.tup [x,y]) b=none:=by
 have ne:∀b∈fp,b≠s.heap.objs.size:=λb hb=>B0 (hlt b hb)
 have fr:∀b∈fp,upd H s.heap.objs.size (.tup [x,y]) b=none:=λb hb=>by rw[Z8 (ne b hb)];exact(hf b hb).1
 have I1:Inv X pins σ (upd H s.heap.objs.size (.tup [x,y])) { s with heap:=s.heap.push { cls:=.type "tuple",data:=.seq #[u,w] },toks:=t' } :=
  I.laid (λb o e=>A7 _ e) (A4 _) ⟨(by show 2<=sizeLine;decide),[u,w],.cons rx (.cons ry .nil),⟨_,B7 _ rfl,rfl,_,rfl,rfl⟩⟩
 refine⟨Inv.turnedL (s:={ s with heap:=s.heap.push { cls:=.type "tuple",data:=.seq #[u,w] },toks:=t' }) (t':=t') (fp:=fp) I1 (λb hb=>⟨fr b hb,(hf b hb).2⟩) λb o hb e=>?_,fr⟩;rcases Heap.get?_push_cases e with⟨rfl,rfl⟩|e
 ·exact hob
 ·exact k b o hb e
end
theorem boot_zip:bootBuiltins "zip"=some (.type "zip"):=by decide +kernel
theorem lp0:bootBuiltins "enumerate"=some (.type "enumerate"):=by decide +kernel
end L2
namespace DL
open Spec PyProof.Rows L2
section
variable{a:Expr}
theorem m70{t:Addr}{x:V}{d e:D}(hn:¬B t)(ht:H t=some (.tup [x,y]))(r1:Rp K H B d x)(r2:Rp K H B e y):Rp K H B (.tup [d,e]) (.ref t):=by
 rw[X8];refine⟨t,[x,y],rfl,⟨hn,ht⟩,?_⟩;rw[o8];refine⟨_,_,rfl,r1,?_⟩;rw[o8];exact⟨_,_,rfl,r2,by rw[j5]⟩
end
mutual
theorem mc0(hB:∀a,B a->B' a∨(∃xs,H a=some (.lst xs))∨∃ks xs,H a=some (dOb ks xs)):∀(d:D) (v:V),tree d=true->Rp K H B' d v->Rp K H B d v
 | .non,v,_,r=>by rw[T3] at r ⊢;exact r
 | .bl _,v,_,r=>by rw[W7] at r ⊢;exact r
 | .int _,v,_,r=>by rw[m9] at r ⊢;exact r
 | .str _,v,_,r=>by rw[Y8] at r ⊢;exact r
 | .lst _,v,h,_=>by unfold tree at h;cases h
 | .dct _ _,v,h,_=>by unfold tree at h;cases h
 | .fn _ _,v,h,_=>by unfold tree at h;cases h
 | .tup ds,v,h,r=>by
  unfold tree at h;rw[X8] at r ⊢;obtain⟨a,xs,rfl,q,rs⟩:=r;refine⟨a,xs,rfl,?_,pd0 hB ds xs h rs⟩;obtain⟨n,q⟩:=q;refine⟨λz=>?_,q⟩;rcases hB a z with z|⟨ys,z⟩|⟨ks,ys,z⟩
  ·exact n z
  ·rw[z] at q;cases q
  ·rw[z] at q;cases ks<;>cases q
theorem pd0(hB:∀a,B a->B' a∨(∃xs,H a=some (.lst xs))∨∃ks xs,H a=some (dOb ks xs)):∀(ds:List D) (vs:List V),trees ds=true->Rps K H B' ds vs->Rps K H B ds vs
 | [],vs,_,r=>by rw[j5] at r ⊢;exact r
 | d::ds,vs,h,r=>by
  unfold trees at h;rw[Bool.and_eq_true] at h;rw[o8] at r ⊢;obtain⟨x,t,rfl,r1,r2⟩:=r;exact⟨x,t,rfl,mc0 hB d x h.1 r1,pd0 hB ds t h.2 r2⟩
end
theorem sj0{g:GE}(h:PD X e g):PD X e (yl0 g):=.mk λB δ pins s σ H Q I ⟨d,en,hq,k⟩=>by
 obtain⟨B',c1,c2,F⟩:=en.frz;unfold yl0 at hq;cases e1:g (frz δ) with
 | none=>rw[e1] at hq;cases hq
 | some x =>
  rw[e1] at hq
  by_cases hf:tree x=true
  ·simp only[Option.bind_some,if_pos hf] at hq
   cases hq;refine h B' (frz δ) pins s σ H Q I ⟨_,F,e1,λv H' s' r=>k v H' s' (mc0 (λa z=>?_) _ _ hf r)⟩;rcases c2 a z with q|⟨i,d',h1,h2⟩
   ·exact .inl q
   ·obtain⟨o,h3,a',e4,_,ro⟩:=Pd.get en.all h1
    rw[h2] at h3;cases h3;cases e4;cases d'<;>try exact ro.elim
    ·obtain⟨_,_,xs,e5,_⟩:=ro;exact .inr (.inl ⟨xs,s' _ _ e5⟩)
    ·obtain⟨xs,e5,_⟩:=ro;exact .inr (.inl ⟨xs,s' _ _ e5⟩)
    ·obtain⟨xs,e5,_⟩:=ro;exact .inr (.inr ⟨_,_,s' _ _ e5⟩)
  ·simp only[Option.bind_some,if_neg hf] at hq
   cases hq
end DL
namespace DL
open Spec PyProof.Rows L2
@[simp] def s70:D->D->Option D
 | .int n,.str x=>if -(2 ^ 62)<=n/\n<2 ^ 62/\x.length*n.toNat<=sizeLine then some (.str (mu0 x n)) else none
 | _,_=>none
section
variable{a:Expr}{ga gc:Ds->Option D}
open Builtin Builtin.Str Builtin.Int in
theorem mf0{prog:Program}{w:World}{A:Around}{E:Value->Shared->Prop}{s:Shared}{x:Str}{n:Int}{t u:Tok}{Q:Value->Shared->Prop}(hr:(decide (n < -(2 ^ 63:Int))||decide (n ≥ 2 ^ 63))=false)
  (hb:¬n<1->(n==1||x.length==0)=false->¬((x.length:Int) > (2 ^ 63 - 1)/n)) (hl:¬n<1->(n==1||x.length==0)=false->tooLong (x.length*n.toNat)=false)
  (h:(if n<1 then Made.str Str.empty else if (n==1||x.length==0)=true then Made.val (.str x t) else Made.str ⟨(List.replicate n.toNat x.cps).foldl (·++·) #[]⟩).post Q s) :
  wpAny (model prog w) A (binaryOp .Mult (.int n u) (.str x t)) Q E s :=
 PySem.lm_binaryOp_repeat_right (T := "str") (U := "int") (by decide) (λs'=>N2 s' n u) (P4 s x t) PySem.F.fills_int_mul PySem.noFill_str_mul Bx0 PySem.lm_noRepeat_int PySem.repeat_str PySem.F.slot_int_index.lookup
  (call_gives Bx0 (N2 s n u) PySem.F.entry_int_mul (PySem.F.args_int_mul_2 _ _) (PySem.AutoIntG3.int___mul___int_str_0 n u x t)
   ⟨rfl,P4 _ x t,call_gives PySem.F.slot_str_mul (P4 s x t) PySem.F.entry_str_mul (PySem.F.args_str_mul_2 _ _) (gives_str_mul x n t u hr hb hl) h⟩)
def gi0:R2:=λx y H Q=>∃z n,y=.str z/\x=.int n/\-(2 ^ 62)<=n/\n<2 ^ 62/\z.length*n.toNat<=sizeLine/\Q (.str (zw0 z n)) H
theorem fy0:OpR X (binaryOp .Mult) gi0:=by
 intro pins s σ H x y v u Q I rx ry h;obtain⟨z,n,rfl,rfl,h1,h2,hz,q⟩:=h;obtain⟨t,rfl⟩:=ry;obtain⟨t',rfl⟩:=rx;have fin:∀L k,EP X pins σ Q (.str (zw0 z n) L) { s with toks:=k }:=λL k=>⟨.str _,H,I.tok k,⟨L,rfl⟩,q⟩
 have U:(sizeLine:Nat)<2 ^ 40:=by decide
 have M:¬n<1->¬((z.length:Int) > (2 ^ 63 - 1)/n):=by
  intro hn;have O:0<n:=by omega
  have:(z.length:Int)*n<=2 ^ 63 - 1:=by
   have e:n=(n.toNat:Int):=by omega
   rw[e];have:((z.length*n.toNat:Nat):Int)<=2 ^ 40:=by exact_mod_cast (by omega:z.length*n.toNat<=2 ^ 40)
   rw[Int.natCast_mul] at this;omega
  exact Int.not_lt.mpr ((B10 O).mpr this)
 refine mf0 (by rw[decide_eq_false (by omega),decide_eq_false (by omega)];rfl) (λhn _=>M hn) (λ_ _=>?_) ?_
 ·show decide (z.length*n.toNat > sizeLine)=false
  exact O0 (by omega)
 ·by_cases hn:n<1
  ·rw[if_pos hn]
   have e:zw0 z n=Str.empty:=by
    unfold zw0;rw[show n.toNat=0 by omega];rfl
   refine⟨by decide,?_⟩;rw[← e];exact fin _ _
  ·rw[if_neg hn]
   by_cases h3:(n==1||z.length==0)=true
   ·rw[if_pos h3]
    have e:zw0 z n=z:=by
     rw[Bool.or_eq_true] at h3;rcases h3 with h3|h3
     ·have:n=1:=P3 h3
      subst this;unfold zw0;show (⟨#[]++z.cps⟩:Str)=z;rw[Array.empty_append]
     ·have h3:z.length=0:=P3 h3
      have J:z.cps=#[]:=B20 h3;have:∀k:Nat,(List.replicate k (#[]:Array Nat)).foldl (·++·) #[]=#[]:=by
       intro k
       induction k with
       | zero=>rfl
       | succ k ih=>rw[List.replicate_succ,List.foldl_cons];exact ih
      unfold zw0;rw[J,this];cases z;simp at J;rw[J]
    have:=fin t s.toks;rw[e] at this;exact this
   ·rw[if_neg h3]
    have S:∀(k:Nat) (F:Array Nat),((List.replicate k z.cps).foldl (·++·) F).size=F.size+k*z.cps.size:=by
     intro k
     induction k with
     | zero=>intro F;simp
     | succ k ih=>intro F;rw[List.replicate_succ,List.foldl_cons,ih,Array.size_append,Nat.succ_mul];omega
    refine⟨?_,fin _ _⟩;show ((List.replicate n.toNat z.cps).foldl (·++·) #[]).size<=_;rw[S];have:z.length=z.cps.size:=rfl;rw[this,Nat.mul_comm] at hz
    simpa using hz
theorem h70:Op2 K gi0 s70:=by
 intro H B x y dx dy d Q hb rx ry h k;cases dx<;>cases dy<;>simp only[s70] at h<;>try cases h
 split at h
 ·rename_i hz
  cases h;rw[Y8] at ry;rw[m9] at rx;subst rx ry;exact⟨_,_,rfl,rfl,hz.1,hz.2.1,hz.2.2,k _ H (Same.refl H) (by rw[Y8];rfl)⟩
 ·cases h
theorem ef0(ha:PD X a ga)(hb:PD X b gb):PD X (.BinOp a .Mult b pos) (o2 ga gb s70):=wh0 fy0 h70 ha hb
end
end DL
namespace DL
open Spec PyProof.Rows L2
@[simp] def pe0(i:Nat):GX:=fun δ=>(owL i δ).map λ_=>(.non,δ.set i (.ow (.lst [])))
section
variable{a:Expr}{ga gc:Ds->Option D}
theorem i40(i:Nat)(hN:X.N[i]?=some x:=by rfl)(hv:Vis X.env.scope x:=by first|exact Or.inl rfl|exact Or.inr (Or.inl rfl)|exact Or.inr (Or.inr rfl))(hd:(x==("__debug__" : Str))=false:=by decide)(hcd:(x==("__classdict__" : Str))=false:=by decide)
  (hbase:attributeBase (.Name x px) "clear" X.env (eval (.Name x px) X.env)=eval (.Name x px) X.env:=by rfl) (hline:(apos.endLine==cpos.line)=true:=by rfl) :
  PX X (.Call (.Attribute (.Name x px) "clear" apos) [] [] cpos) (pe0 i):=.mk λH₀ B₀ δ pins s σ H Q I ⟨r,en,e1,k⟩=>by
 unfold pe0 at e1;obtain⟨B,b1,b2,env⟩:=en.ex;cases e2:owL i δ with
 | none=>rw[e2] at e1;cases e1
 | some ds =>
  rw[e2] at e1;cases e1;have hi:=tl0 e2;obtain⟨a,J,hb,xs,hx,rx⟩:=env.at hi;refine j80 x8 PySem.F.slot_list_clear PySem.F.type_list_clear iz0 (zs0 (i:=i) hN hv hd hcd) hbase hline pins s σ H Q I
   ⟨_,J,.inl ⟨rfl,xs,.inl (.inl hx)⟩,a,xs,rfl,rfl,hx,?_⟩
  have L:Env X.K (upd H a (.lst [])) B σ (δ.set i (.ow (.lst []))):=env.mut hi J ⟨_,Z6,by rw[j5]⟩;exact k _ _ (EnvV.mk' (en.mut (Same.refl _) b1 b2 hi J L) b1 b2 L (by rw[T3]))
end
end DL
namespace ZipL
open Spec PyProof.Rows
abbrev zz0(h:Heap)(z TI TO:Addr)(v:Value)(f:Bool):Prop :=
 h.get? z=some { cls:=.type "zip",dict:=none,data:=.fields #[v,.bool f,.bool false,.ref TI,.ref TO],slots:=#[] }
section
variable{w:World}{s:Shared}
theorem dead{Q:Option Obj->Shared->Prop}(ho:s.heap.get? a=none)(h:Q none s):wpAny (model prog w) A (loadIfAlive a) Q E s:=by
 have h':Q (s.heap.get? a) s:=by rw[ho];exact h
 exact λ_ _ _=>h'
theorem sp0{TI TO:Addr}{f:Bool}{Q:Bool->Shared->Prop}(hz:IsZ s.heap z TI TO a f)(ha:s.heap.get? a=none)(hQ:Q true s):wpAny (model prog w) A (Builtin.SmallTypes.ownedTupleIsFree (.ref z)) Q E s:=by
 unfold Builtin.SmallTypes.ownedTupleIsFree;refine A0 (B5 hz rfl (x:=rawInt a) rfl ?_);show wpAny _ _ (loadIfAlive ((a:Int).toNat)>>=_) _ _ _;rw[Int.toNat_natCast];refine A0 (dead ha ?_);simp only[Option.isNone_none,if_true];exact A1 hQ
theorem my0{TI TO:Addr}{v0:Value}{f:Bool}{k1 k2:Nat}{xs ys:Array Value}{x y a b:Value}{Q:Value->Shared->Prop}(D:ZipApart z TI TO i1 i2 l1 l2)
  (hz:zz0 s.heap z TI TO v0 f) (hfree:∀Q':Bool->Shared->Prop,Q' true s->wpAny (model prog w) A (Builtin.SmallTypes.ownedTupleIsFree (.ref z)) Q' E s) (hTI:IsPair s.heap TI (.ref i1) (.ref i2)) (hTO:IsPair s.heap TO a b)
  (h1:s.heap.IsListIter i1 l1 k1) (h2:s.heap.IsListIter i2 l2 k2) (hl1:s.heap.IsList l1 xs) (hl2:s.heap.IsList l2 ys) (hx:xs[k1]?=some x) (hy:ys[k2]?=some y)
  (hQ:∀h',IsZ h' z TI TO s.heap.objs.size false->IsPair h' TO x y->h'.IsListIter i1 l1 (k1+1)->h'.IsListIter i2 l2 (k2+1)->IsPair h' s.heap.objs.size x y->h'.objs.size=s.heap.objs.size+1 ->
   (∀c o,c≠z->c≠TO->c≠i1->c≠i2->s.heap.get? c=some o->h'.get? c=some o)->Q (.ref s.heap.objs.size) { s with heap:=h' }) :
  wpAny (model prog w) A (Builtin.«zip.__next__» ⟨[.ref z],[]⟩) (λfin s'=>∃v,fin=.done (.ret v)/\Q v s') E s:=by
 show wpAny _ _ (field (.ref z) 2>>=_) _ _ _;refine A0 (B5 hz rfl (x:=.bool false) rfl ?_);show wpAny _ _ (field (.ref z) 3>>=_) _ _ _;refine A0 (B5 hz rfl (x:=.ref TI) rfl ?_);refine A0 (K0 hTI rfl ?_);show wpAny _ _ (Builtin.SmallTypes.ownedTupleIsFree (.ref z)>>=_) _ _ _;refine A0 (hfree _ ?_);simp only[if_true];refine A0 (E2 ?_);refine A0 (B5 hz rfl (x:=.ref TO) rfl ?_);refine A0 (D5 hz (by simp) λg1 L e1=>?_)
 replace L:zz0 g1 z TI TO .ellipsis f:=L
 refine A0 ?_;simp only[List.zipIdx_cons,List.zipIdx_nil,List.forIn_cons,List.forIn_nil];refine A0 (A0 (d6 ?_));show wpAny _ _ (Builtin.SmallTypes.nextOf (.ref i1)>>=_) _ _ _;refine A0 (P7 (h1.extBut e1.extBut D.i1z) (hl1.extBut e1.extBut D.l1z) hx λg2 U e2=>A1 ?_);have M:IsPair g2 TO a b:=e2.extBut _ _ D.TOi1 (e1.extBut _ _ D.TOz hTO);refine A0 (K0 M rfl ?_);refine A0 (y8 M λg3 J e3=>?_)
 replace J:IsPair g3 TO x b:=J
 refine A0 (U2 (A1 ?_));refine A0 (A0 (d6 ?_));show wpAny _ _ (Builtin.SmallTypes.nextOf (.ref i2)>>=_) _ _ _;refine A0 (P7 (((h2.extBut e1.extBut D.i2z).extBut e2.extBut D.i12.symm).extBut e3.extBut D.TOi2.symm) (((hl2.extBut e1.extBut D.l2z).extBut e2.extBut D.l2i1).extBut e3.extBut D.l2TO) hy λg4 S e4=>A1 ?_);have O:IsPair g4 TO x b:=e4.extBut _ _ D.TOi2 J;refine A0 (K0 O rfl ?_);refine A0 (y8 O λg5 F e5=>?_)
 replace F:IsPair g5 TO x y:=F
 refine A0 (U2 (A1 (A1 ?_)));refine A0 (K0 F rfl ?_);refine A0 (d4 (hsz:=by show 2<=sizeLine;decide) ?_);have sz:g5.objs.size=s.heap.objs.size:=by rw[e5.1,e4.1,e3.1,e2.1,e1.1]
 have z5:zz0 g5 z TI TO .ellipsis f:=e5.extBut _ _ D.TOz.symm (e4.extBut _ _ D.i2z.symm (e3.extBut _ _ D.TOz.symm (e2.extBut _ _ D.i1z.symm L)));have keep:∀c o,c≠z->c≠TO->c≠i1->c≠i2->s.heap.get? c=some o->g5.get? c=some o:=λc o c1 c2 c3 c4 e=>e5.extBut _ _ c2 (e4.extBut _ _ c4 (e3.extBut _ _ c2 (e2.extBut _ _ c3 (e1.extBut _ _ c1 e))))
 have j1:g5.IsListIter i1 l1 (k1+1):=((U.extBut e3.extBut D.TOi1.symm).extBut e4.extBut D.i12).extBut e5.extBut D.TOi1.symm;have j2:g5.IsListIter i2 l2 (k2+1):=S.extBut e5.extBut D.TOi2.symm;have lz:z<g5.objs.size:=A6 z5;show wpAny _ _ (Builtin.SmallTypes.ownedTupleHandOut (.ref z) (.ref g5.objs.size)>>=_) _ _ _;refine A0 ?_;unfold Builtin.SmallTypes.ownedTupleHandOut;have z6:zz0 (g5.push { cls:=.type "tuple",data:=.seq #[x,y] }) z TI TO .ellipsis f:=A7 _ z5;refine A0 (D5 z6 (by simp) λg7 z7 e7=>?_)
 replace z7:zz0 g7 z TI TO (rawInt g5.objs.size) f:=z7
 refine D5 z7 (by simp) λg8 z8 e8=>?_
 replace z8:IsZ g8 z TI TO g5.objs.size false:=z8
 have up:∀c o,c≠z->g5.get? c=some o->g8.get? c=some o:=λc o c1 e=>e8.extBut _ _ c1 (e7.extBut _ _ c1 (A7 _ e))
 have t8:IsPair g8 g5.objs.size x y:=e8.extBut _ _ (L1 lz) (e7.extBut _ _ (L1 lz) (B7 _ rfl));have s8:g8.objs.size=g5.objs.size+1:=by rw[e8.1,e7.1,Heap.size_push]
 rw[sz] at z8 t8 s8;refine A1 ⟨_,rfl,?_⟩;show Q (.ref g5.objs.size) _;rw[sz];exact hQ g8 z8 (up _ _ D.TOz F) (j1.at λo e=>up _ o D.i1z e) (j2.at λo e=>up _ o D.i2z e) t8 s8 λc o c1 c2 c3 c4 e=>up c o c1 (keep c o c1 c2 c3 c4 e)
theorem lx0{TI TO:Addr}{v0:Value}{f:Bool}{k1 k2:Nat}{xs ys:Array Value}{a b:Value}{Q:Fin->Shared->Prop}(hh:A.handled=none)(D:ZipApart z TI TO i1 i2 l1 l2)
  (hz:zz0 s.heap z TI TO v0 f) (hfree:∀Q':Bool->Shared->Prop,Q' true s->wpAny (model prog w) A (Builtin.SmallTypes.ownedTupleIsFree (.ref z)) Q' E s) (hTI:IsPair s.heap TI (.ref i1) (.ref i2)) (hTO:IsPair s.heap TO a b)
  (h1:s.heap.IsListIter i1 l1 k1) (h2:s.heap.IsListIter i2 l2 k2) (hl1:s.heap.IsList l1 xs) (hl2:s.heap.IsList l2 ys) (hend:xs[k1]?=none∨ys[k2]?=none)
  (hE:∀h' e,(∀c o,c≠z->c≠TO->c≠i1->c≠i2->s.heap.get? c=some o->h'.get? c=some o)->(∃o,h'.get? e=some o/\o.cls=.type "StopIteration")->E (.ref e) { s with heap:=h' }) :
  wpAny (model prog w) A (Builtin.«zip.__next__» ⟨[.ref z],[]⟩) Q E s:=by
 show wpAny _ _ (field (.ref z) 2>>=_) _ _ _;refine A0 (B5 hz rfl (x:=.bool false) rfl ?_);show wpAny _ _ (field (.ref z) 3>>=_) _ _ _;refine A0 (B5 hz rfl (x:=.ref TI) rfl ?_);refine A0 (K0 hTI rfl ?_);show wpAny _ _ (Builtin.SmallTypes.ownedTupleIsFree (.ref z)>>=_) _ _ _;refine A0 (hfree _ ?_);simp only[if_true];refine A0 (E2 ?_);refine A0 (B5 hz rfl (x:=.ref TO) rfl ?_);refine A0 (D5 hz (by simp) λg1 L e1=>?_)
 replace L:zz0 g1 z TI TO .ellipsis f:=L
 refine A0 ?_;simp only[List.zipIdx_cons,List.zipIdx_nil,List.forIn_cons,List.forIn_nil];refine A0 (A0 (d6 ?_));show wpAny _ _ (Builtin.SmallTypes.nextOf (.ref i1)>>=_) _ _ _;cases hx:xs[k1]? with
 | none =>
  refine A0 (d5 hh (h1.extBut e1.extBut D.i1z) (hl1.extBut e1.extBut D.l1z) hx λg2 e e2 he=>?_);obtain⟨oe,F,J⟩:=he;have z2:zz0 g2 z TI TO .ellipsis f:=e2 _ _ D.i1z.symm L;have M:e≠z:=λx=>by subst x;rw[z2] at F;cases F;simp at J
  exact D5 z2 (by simp) λg3 _ e3=>hE g3 e (λc o c1 _ c3 _ x=>e3.extBut _ _ c1 (e2 _ _ c3 (e1.extBut _ _ c1 x))) ⟨oe,e3.extBut _ _ M F,J⟩
 | some x =>
  have hy:ys[k2]?=none:=by rcases hend with h|h;rw[hx] at h;cases h;exact h
  refine A0 (P7 (h1.extBut e1.extBut D.i1z) (hl1.extBut e1.extBut D.l1z) hx λg2 U e2=>A1 ?_);have O:IsPair g2 TO a b:=e2.extBut _ _ D.TOi1 (e1.extBut _ _ D.TOz hTO);refine A0 (K0 O rfl ?_);refine A0 (y8 O λg3 S e3=>?_);refine A0 (U2 (A1 ?_));refine A0 (A0 (d6 ?_));show wpAny _ _ (Builtin.SmallTypes.nextOf (.ref i2)>>=_) _ _ _;refine A0 (d5 hh (((h2.extBut e1.extBut D.i2z).extBut e2.extBut D.i12.symm).extBut e3.extBut D.TOi2.symm) (((hl2.extBut e1.extBut D.l2z).extBut e2.extBut D.l2i1).extBut e3.extBut D.l2TO) hy λg4 e e4 he=>?_);obtain⟨oe,F,J⟩:=he;have z4:zz0 g4 z TI TO .ellipsis f:=e4 _ _ D.i2z.symm (e3.extBut _ _ D.TOz.symm (e2.extBut _ _ D.i1z.symm L));have M:e≠z:=λx=>by subst x;rw[z4] at F;cases F;simp at J
  exact D5 z4 (by simp) λg5 _ e5=>hE g5 e (λc o c1 c2 c3 c4 x=>e5.extBut _ _ c1 (e4 _ _ c4 (e3.extBut _ _ c2 (e2.extBut _ _ c3 (e1.extBut _ _ c1 x))))) ⟨oe,e5.extBut _ _ M F,J⟩
theorem ri0{TI TO:Addr}{f:Bool}{Q:Bool->Shared->Prop}(hz:zz0 s.heap z TI TO .none f)(hQ:Q true s):wpAny (model prog w) A (Builtin.SmallTypes.ownedTupleIsFree (.ref z)) Q E s:=by
 unfold Builtin.SmallTypes.ownedTupleIsFree;exact A0 (B5 hz rfl (x:=.none) rfl (A1 hQ))
theorem oe0{TI TO:Addr}{f:Bool}(hz:zz0 s.heap z TI TO v f)(h:Q (.ref z) s):wpAny (model prog w) A (pyIter (.ref z)) Q E s:=by
 have hT:s.TypeIs (.ref z) "zip" := ⟨_,hz,rfl⟩;refine wpAny_pyIter_slot hT F.slot_zip_iter (D0 F.slot_zip_iter hT F.entry_zip_iter ?_ (F.args_zip_iter_1 _));exact A1 ⟨_,rfl, "zip",_,hT,K2.lookup,h⟩
def oh0(h:Heap)(z TI TO:Addr):Prop:=∃v f,zz0 h z TI TO v f/\(v=.none∨∃a:Addr,v=rawInt a)
end
end ZipL
namespace L2
open Spec PyProof.Rows
theorem j30{s:Shared}{d b:Addr}{k:List Key}{v:V}{r:Value}{Q:Unit->Shared->Prop}(hu:A.units<cLine)(I:Inv X pins σ H s)(e:H d=some (.dT kvs))(eb:H b=some (.tup (k.map kV)))(l:kvs.length<sizeLine)(rv:RelV v r)
  (h:∀h' tk,Inv X pins σ (upd H d (.dT (putK kvs k v))) { s with heap:=h',toks:=tk }->Q () { s with heap:=h',toks:=tk }) :
  wpAny (model X.prog X.w) A (dictSet d (.ref b) r) Q E s:=by
 obtain⟨z,hd,xs,F,dd⟩:=f70 I.hok e;have hz:xs.length<=sizeLine:=by rw[← Paired.length F];exact z
 have hl:(putK kvs k v).length<=sizeLine:=by have:=xr0 kvs k v;omega
 refine wpAny_dictSet_heap (hsz:=hz) (knd:=tupleKind (Q4 X.prog X.w)) (show A.units<cLine from hu) (vj0 I.hok eb) dd λh' J hs=>h _ _ ?_
 obtain⟨q,es,ep,hq,h2,h3,h4,_,h5⟩:=J;refine sh0 I (by rw[e];exact True.intro) hs ⟨q,hq⟩ ⟨hl,hd,_,(F.put k eb rv).keeps λc ys ec=>?_,q,es,ep,hq,h2,h3,h4,h5⟩;rw[Z8 (f60 ec e (λz=>nomatch z))];exact ec
end L2
namespace DL
open Spec PyProof.Rows L2
def yp0(gk gv:GE):GE:=fun δ=>(gk δ).bind λa=>(G5 a).bind λk=>(gv δ).map λb=>.dct (.inr [k]) [b]
section
variable{σ:St}
theorem Env.fresh{p:Addr}{o:HO}(e:Env K H B σ δ)(hp:H p=none)(no:∀ob u,o≠.frz ob u:=by exact λ_ _ z=>nomatch z)(nt:∀xs,o≠.tup xs:=by exact λ_ z=>nomatch z):Env K (upd H p o) (λa=>B a∨a=p) σ δ:=by
 refine⟨Pd.imp (λv s h=>?_) e.all,λa z=>?_,e.own⟩
 ·cases s with
  | un=>trivial
  | ex c n=>obtain⟨u,q,r⟩:=h;exact⟨u,q,r.mono (Gr.fresh hp)⟩
  | sh d=>obtain⟨u,q,r⟩:=h;exact⟨u,q,r.mono (Gr.fresh hp)⟩
  | ow d =>
   obtain⟨a,q,hb,r⟩:=h;exact⟨a,q,.inl hb,r.mono (λo ho=>by rw[Z8 (T5 ho hp)];exact ho) (Gr.fresh hp)⟩
 ·rcases z with z|z
  ·have:=e.bad a z
   by_cases q:a=p
   ·rw[q,Z6];exact .of rfl no nt
   ·rw[Z8 q];exact this
  ·rw[z,Z6];exact .of rfl no nt
end
section
variable{ke ve:Expr}{gk gv:Ds->Option D}
theorem rf0(hu:X.A.units<cLine)(hk:PD X ke gk)(hv:PD X ve gv):PDF X (.Dict [some ke] [ve] pos) (yp0 gk gv):=.mk λB δ pins s σ H Q I ⟨d,en,h,k⟩=>by
 unfold yp0 at h;cases e1:gk δ with
 | none=>rw[e1] at h;cases h
 | some a =>
  rw[e1] at h;simp only[Option.bind_some] at h;cases e2:G5 a with
  | none=>rw[e2] at h;cases h
  | some key =>
   rw[e2] at h;simp only[Option.bind_some] at h;cases e3:gv δ with
   | none=>rw[e3] at h;cases h
   | some b =>
    rw[e3] at h;cases h;have hb:sysModules<s.heap.objs.size:=Nat.lt_trans (by decide) ((I.mod.glob.keeps I.bk).lt:mainGlobals<s.heap.objs.size);have hp:H s.heap.objs.size=none:=I.hok.fresh (A4 _);have I1:Inv X pins σ (upd H s.heap.objs.size (.dT [])) { s with heap:=s.heap.push { cls:=.type "dict",data:=.dict #[] } }:=I.laid (a:=s.heap.objs.size) (o:=.dT []) (t':=s.toks) (λ_ _ q=>A7 _ q) (A4 _) (h20 s.heap hb);have F:Env X.K (upd H s.heap.objs.size (.dT [])) (λa=>B a∨a=s.heap.objs.size) σ δ:=en.fresh hp;have pp:=ix0 (pos:=pos) (hk (λa=>B a∨a=s.heap.objs.size) δ) (hv (λa=>B a∨a=s.heap.objs.size) δ) (fr0 (X:=X) (pos:=pos));rw[arm_eval_Dict,zip_pairTrees [some ke] [ve] X.env pos rfl rfl,dictDisplay_pairs (pairTrees [some ke] [ve] X.env pos) (λz=>by have hn:=pairTrees_length [some ke] [ve] X.env pos rfl rfl;rw[z] at hn;cases hn) (by rw[pairTrees_length [some ke] [ve] X.env pos rfl rfl];simp)];refine A0 (p9 (A0 ?_));unfold subDict;refine A0 (wpAny_alloc ?_);refine A0 (C7 ?_);rw[if_pos (by rw[pairTrees_length [some ke] [ve] X.env pos rfl rfl];simp)];refine A0 (thn (pp pins _ σ _ (λps H2=>∃v1 v2,ps=[(v1,v2)]/\Rp X.K H2 (λa=>B a∨a=s.heap.objs.size) a v1/\Rp X.K H2 (λa=>B a∨a=s.heap.objs.size) b v2/\Same (upd H s.heap.objs.size (.dT [])) H2) I1
     ⟨a,F,e1,λv1 H1 s1 r1=>⟨b,F.same s1,e3,λv2 H2 s2 r2=>⟨v1,v2,rfl,r1.same s2,r2,s1.trans s2⟩⟩⟩) λvs s2 ⟨ps,H2,I2,J,v1,v2,L,r1,r2,sm⟩=>?_)
    subst L;cases J with
    | @cons _ q _ _ rh rt =>
     cases rt;obtain⟨q1,q2⟩:=q;obtain⟨kb,rfl,S⟩:=tb0 e2 r1;obtain⟨O,M⟩:=rh;cases (show q1=Value.ref kb from O);refine C7 ?_;refine A0 ?_;simp only[List.forIn_cons,List.forIn_nil];refine A0 (A0 (j30 hu I2 (sm _ _ Z6) S (by decide) M λh' tk I3=>A1 ?_));refine A1 (A1 (A1 (A1 ⟨.ref s.heap.objs.size,_,I3,rfl,?_⟩)));refine k s.heap.objs.size _ hp (λc o e=>?_) ⟨[v2],Z6,rfl,?_⟩
     ·have hc:c≠s.heap.objs.size:=T5 e hp
      rw[Z8 hc];exact sm c o (by rw[Z8 hc];exact e)
     ·have:=r2.mono (Gr.own (H:=H2) (B:=λa=>B a∨a=s.heap.objs.size) (a:=s.heap.objs.size) (o:=.dT (putK [] key v2)) (.inr rfl))
      rw[o8];exact⟨v2,[],rfl,this,by rw[j5]⟩
end
def l60(i:Nat)(g:GE):GS:=fun δ=>match δ[i]? with
 | some (.sh (.int a))=>(g δ).bind λd=>match d with
  | .int b=>some (.nx (δ.set i (.sh (.int (a+b)))))
  | _=>none
 | _=>none
theorem ep0(i:Nat)(hN:X.N.Nodup)(h:PD X e g)(hi:X.N[i]?=some x:=by rfl)(hx:Loc X.env.scope x:=by first|exact Or.inl rfl|exact Or.inr rfl)
  (hf:X.fn x=true∨X.env.scope.names.lookup x=some .local:=by first|exact .inl rfl|exact .inr rfl|assumption):PSD X (.AugAssign (.Name x pos') .Add e pos) (l60 i g):=.mk λH₀ B₀ δ pins s σ H D I ⟨r,en,e1,k⟩=>by
 unfold l60 at e1;obtain⟨B,b1,b2,env⟩:=en.ex;split at e1
 ·rename_i a ha
  cases e2:g δ with
  | none=>rw[e2] at e1;cases e1
  | some d =>
   rw[e2] at e1;simp only[Option.bind_some] at e1;cases d<;>simp only at e1<;>try cases e1
   rename_i b;obtain⟨v,hv,rv⟩:=env.get ha;rw[m9] at rv;subst rv;refine bl0 hN hi hx (h B δ) df0 hf pins s σ H D I ⟨_,hv,.int b,env,e2,λv2 H1 s1 r1=>?_⟩;rw[m9] at r1;subst r1;refine⟨a,b,rfl,rfl,?_⟩;exact k _ H1 (en.wr b1 b2 s1 ka0 ((env.same s1).set i (by rw[m9])))
 ·cases e1
section
variable{g:GE}
theorem kg0(h:PDF X e g):PSD X (.Return (some e) pos) (z80 (zi0 g)):=.mk λH₀ B₀ δ pins s σ H D I ⟨r,en,hq,k⟩ =>
 O6 h H₀ B₀ (frz δ) pins s σ H D I ⟨r,en.frz,hq,k⟩
end
end DL
namespace DL
open Spec PyProof.Rows L2
def wi0(x y:D):Option D:=match y with
 | .non=>some (.bl (match x with|.non=>false|_=>true))
 | _=>none
theorem wj0:Op2 K (λx y H Q=>y=.non/\Q (.bl (!decide (x=.non))) H) wi0:=by
 intro H B x y dx dy d Q hb rx ry h k;have hy:dy=.non:=by cases dy<;>first|rfl|cases h
 subst hy;cases h;rw[T3] at ry;refine⟨ry,k _ H (Same.refl H) ?_⟩;rw[W7];cases dx<;>simp only[T3,W7,m9,Y8,X8,W2,yg0,mh0] at rx
 all_goals first
  | (subst rx;rfl)
  | (obtain⟨a,xs,rfl,_⟩:=rx;rfl)
end DL
namespace DL
def mj0:List D->Option (List Int)
 | []=>some []
 | .int i::ds=>(mj0 ds).map λr=>i::r
 | _=>none
def ux0:List D->Option D
 | [.lst ds]=>(mj0 ds).map λis=>.int is.sum
 | _=>none
end DL
namespace L2
open Spec PyProof.Rows
theorem ee0{is:List Int}(rv:Vals (is.map V.int) its)(h:its[i]?=some v):∃t,v=.int (is.getD i 0) t:=by
 have hl:=rv.length;rw[List.length_map] at hl;have hi:i<is.length:=by have:=(E1.mp h).1;omega
 obtain⟨u,hu,ru⟩:=rv.get (i:=i) (x:=.int is[i]) (by simp[hi]);rw[h] at hu;cases hu;obtain⟨t,rfl⟩:=ru;exact⟨t,by simp[hi]⟩
theorem m60(is:List Int):∀n,n<=is.length->preSum (λi=>is.getD i 0) n=(is.take n).sum
 | 0,_=>by simp[preSum]
 | n+1,h=>by
  rw[preSum,m60 is n (by omega),List.take_succ,List.getElem?_eq_getElem (by omega),List.sum_append];simp[show n<is.length by omega]
theorem sq0(hc:X.calm=true):CallR X (.builtin "sum") (λxs H Q=>∃(p:Addr) (is:List Int),xs=[.ref p]/\SqL X.K H p (is.map V.int)/\Q (.int is.sum) H):=by
 intro pins s σ H xs us Q I rs h;obtain⟨p,is,rfl,hq,q⟩:=h;obtain⟨u,rfl,ru⟩:=rs.one;cases ru;obtain⟨its,rv,pl,hz⟩:=I.list hq;have hp:p<s.heap.objs.size:=by
  obtain⟨o,n,e,_⟩:=pl;exact A6 e
 refine call_sum_walkG (wpAny_pyIter_list pl.isList ?_);refine⟨_,_,_,_,_,_,λi=>is.getD i 0,rfl,Walks.list (A:=X.A.in1) (I.ok.hd hc) s.heap.objs.size p (B0 hp) its.toArray,⟨⟨_,B7 _ rfl,rfl,rfl⟩,pl.isList.push _⟩,λb hb=>?_,λi v hP=>ee0 rv (by simpa using hP),λh' tk t' hk=>?_⟩
 ·show b<(s.heap.push _).objs.size
  rw[Heap.size_push];simp only[List.mem_cons,List.not_mem_nil,or_false] at hb;rcases hb with rfl|rfl
  ·exact x9 _
  ·exact N3 hp
 ·have e1:its.toArray.size=is.length:=by
   have:=rv.length;simp at this;simp[this]
  rw[e1,m60 is _ (A4 _),List.take_length];refine⟨.int is.sum,H,I.kept (t':=tk) λb o e=>?_,⟨_,rfl⟩,q⟩;refine hk b o ?_ (A7 _ e);have:=A6 e;simp only[List.mem_cons,List.not_mem_nil,or_false];exact B0 this
end L2
namespace DL
open Spec PyProof.Rows L2
theorem m00:∀{ds:List D} {xs:List V} {is:List Int},Rps K H B ds xs->mj0 ds=some is->xs=is.map V.int
 | [],xs,is,r,h=>by rw[j5] at r;cases h;exact r
 | d::ds,xs,is,r,h=>by
  rw[o8] at r;obtain⟨x,t,rfl,r1,r2⟩:=r;cases d with
  | int i =>
   have h:(mj0 ds).map (λr=>i::r)=some is:=h;obtain⟨js,e,rfl⟩:=P6.mp h;rw[m9] at r1;rw[r1,m00 r2 e];rfl
  | _=>cases h
theorem k40:FnR K (λxs H Q=>∃(p:Addr) (is:List Int),xs=[.ref p]/\SqL K H p (is.map V.int)/\Q (.int is.sum) H) ux0:=by
 intro H B xs ds d Q hb r h k;unfold ux0 at h;split at h
 ·obtain⟨is,e,rfl⟩:=P6.mp h
  obtain⟨v,rfl,r1⟩:=J9 r;rw[W2] at r1;obtain⟨a,ys,rfl,q,rr⟩:=r1;have:=m00 rr e;subst this;exact⟨a,is,rfl,q.to,k _ H (Same.refl H) (by rw[m9])⟩
 ·cases h
end DL
namespace SoT
open PyProof.Rows
section
variable{P:Program}{w:World}{s:Shared}{b:Array Keyed}{κ:SortKind}{cmp:Keyed->Keyed->Bool}
structure Go(b:Array Keyed)(κ:SortKind)(st:SortSt):Prop where
 kd:kindOf st=κ
 pm:(arrOf st).Perm b
 pe:pendingOf st=#[]
 fa:failedOf st=none
structure Cp(P:Program)(w:World)(A:Around)(E:Value->Shared->Prop)(s:Shared)(b:Array Keyed)(κ:SortKind)(cmp:Keyed->Keyed->Bool):Prop where
 ask:∀(st:SortSt) (i j:Nat) (x y:Keyed) (Q:Option Bool->SortSt->Prop),Go b κ st->(arrOf st)[i]?=some x->(arrOf st)[j]?=some y->Q (some (cmp x y)) st->wpS (model P w) A E s (ltAt' i j) Q st
 nd:b.toList.Nodup
 tr:∀x∈b.toList,∀y∈b.toList,∀z∈b.toList,cmp x y=true->cmp y z=true->cmp x z=true
 to:∀x∈b.toList,∀y∈b.toList,x≠y->cmp y x=false->cmp x y=true
theorem Go.sz{st:SortSt}(h:Go b κ st):(arrOf st).size=b.size:=h.pm.size_eq
theorem Go.mem{st:SortSt}(h:Go b κ st){x:Keyed}(e:(arrOf st)[i]?=some x):x∈b.toList/\i<b.size:=by
 obtain⟨hi,rfl⟩:=g9.mp e;exact⟨(N4.mp h.pm).mem_iff.mp (by simp),by rw[← h.sz];exact hi⟩
def Up(cmp:Keyed->Keyed->Bool)(xs:Array Keyed)(n:Nat):Prop:=∀i j x y,i<j->j<n->xs[i]?=some x->xs[j]?=some y->cmp x y=true
variable(C:Cp P w A E s b κ cmp)
include C
end
def PairAt(h:Heap)(v:Value)(q:Int×Int):Prop:=∃a o n t u,v=.ref a/\h.get? a=some o/\o.cls=.type "tuple"/\o.data=.seq #[.int q.1 t,.int q.2 u] n
theorem PairAt.one{h:Heap}{q r:Int×Int}(x:PairAt h v q)(y:PairAt h v r):q=r:=by
 obtain⟨a,o,n,t,u,e,e1,_,e2⟩:=x;obtain⟨a',o',n',t',u',f,f1,_,f2⟩:=y;rw[e] at f;cases f;rw[e1] at f1;cases f1;rw[e2] at f2;injection f2 with f2 _
 have f3:=C1 Array.toList f2;simp only at f3;injection f3 with g1 g2
 injection g1 with g1 _
 injection g2 with g2 _
 injection g2 with g2 _
 exact L4 g1 g2
def lt2(a b:Int×Int):Bool:=decide (a.1<b.1∨(a.1=b.1/\a.2<b.2))
theorem xu0{a b:Int×Int}:lt2 a b=true↔(a.1<b.1∨(a.1=b.1/\a.2<b.2)):=by unfold lt2;exact decide_eq_true_iff
open Classical in
def pk(h:Heap)(v:Value):Int×Int:=if e:∃q,PairAt h v q then e.choose else (0,0)
theorem wg0{h:Heap}{q:Int×Int}(x:PairAt h v q):pk h v=q:=by
 unfold pk;have e:∃q,PairAt h v q:=⟨q,x⟩;rw[dif_pos e];exact e.choose_spec.one x
section
variable{P:Program}{w:World}{s:Shared}
theorem ko0(f:Bool)(x y:Value):keyLt' (tuples' f) x y=(do
  let xs ← Builtin.List.listItems x;let ys ← Builtin.List.listItems y
  for ((p,q),i) in (xs.toList.zip ys.toList).zipIdx do
   if !(← eqBool p q) then return ← oneLt' (f&&i==0) p q
  return decide (xs.size<ys.size)):=rfl
theorem td0{f:Bool}{a c:Int}{t u:Tok}{Q:Bool->Shared->Prop}(h:Q (decide (a<c)) s):wpAny (model P w) A (oneLt' f (.int a t) (.int c u)) Q E s:=by
 cases f with
 | true=>exact oneLt_int h
 | false =>
  rw[oneLt'_eq];rw[if_neg (by simp)];refine A0 (wpAny_richCompare_same (N2 s a t) (N2 s c u) slot_int_lt (call_int_lt ⟨(λz=>nomatch z),?_⟩));exact S1 h
theorem th0{f:Bool}{x y:Value}{q r:Int×Int}{Q:Bool->Shared->Prop}(hx:PairAt s.heap x q)(hy:PairAt s.heap y r)(h:Q (lt2 q r) s):wpAny (model P w) A (keyLt' (tuples' f) x y) Q E s:=by
 obtain⟨a,o,n,t,u,rfl,e1,_,e2⟩:=hx;obtain⟨a',o',n',t',u',rfl,f1,_,f2⟩:=hy;rw[ko0];refine A0 (h8 e1 e2 (A0 (h8 f1 f2 ?_)));simp only[List.zip_cons_cons,List.zip_nil_right,List.zipIdx_cons,List.zipIdx_nil,List.forIn_cons,List.forIn_nil];refine A0 (A0 (A0 (n5 ?_)))
 by_cases e:q.1=r.1
 ·rw[show (q.1==r.1)=true by simpa using e]
  rw[if_neg (by simp)];refine A1 (A0 (A0 (n5 ?_)))
  by_cases e':q.2=r.2
  ·rw[show (q.2==r.2)=true by simpa using e']
   rw[if_neg (by simp)];refine A1 (A1 (A1 ?_));have:lt2 q r=false:=by unfold lt2;rw[e,e'];simp
   rw[this] at h;exact h
  ·rw[show (q.2==r.2)=false by simpa using e']
   rw[if_pos (by rfl)];refine A0 (td0 (A1 (A1 (A1 ?_))));have:lt2 q r=decide (q.2<r.2):=by unfold lt2;rw[e];simp
   rw[this] at h;exact h
 ·rw[show (q.1==r.1)=false by simpa using e]
  rw[if_pos (by rfl)];refine A0 (td0 (A1 (A1 (A1 ?_))));have:lt2 q r=decide (q.1<r.1):=by unfold lt2;simp[e]
  rw[this] at h;exact h
end
structure Prs(h:Heap)(vs:List Value):Prop where
 all:∀v∈vs,∃q,PairAt h v q
 nd:(vs.map (pk h)).Nodup
def xq0(h:Heap)(x y:Keyed):Bool:=lt2 (pk h x.1) (pk h y.1)
section
variable{P:Program}{w:World}{s:Shared}
theorem Zn0{b:Array Keyed}{f:Bool}(hb:∀x∈b.toList,∃q,PairAt s.heap x.1 q)(st:SortSt)(i j:Nat)(x y:Keyed)(Q:Option Bool->SortSt->Prop)(hg:Go b (tuples' f) st)(ei:(arrOf st)[i]?=some x)(ej:(arrOf st)[j]?=some y)(k:Q (some (xq0 s.heap x y)) st):wpS (model P w) A E s (ltAt' i j) Q st:=by
 obtain⟨q,hq⟩:=hb x (hg.mem ei).1;obtain⟨r,hr⟩:=hb y (hg.mem ej).1;unfold xq0 at k;rw[wg0 hq,wg0 hr] at k;rw[ltAt'_eq];refine A3 (D1 ?_);show wpS _ _ _ _ (elem' (arrOf st) i>>=λx=>elem' (arrOf st) j>>=λy=>lt' x y) Q st;rw[elem'_eq,elem'_eq,ei,ej];refine A3 (A2 (A3 (A2 ?_)));rw[lt'_eq];refine A3 (D1 ?_);rw[hg.kd];exact A3 (L5 (P8 (th0 hq hr ⟨rfl,A2 k⟩)))
theorem cpP(hv:Prs s.heap vs)(f:Bool):Cp P w A E s (pairsOf vs) (tuples' f) (xq0 s.heap):=by
 have el:∀x∈(pairsOf vs).toList,x.1∈vs/\x=(x.1,x.1):=λx hx=>by
  rw[pairsOf_toList] at hx;obtain⟨i,hi,e⟩:=E3.mp hx;rw[List.getElem_zip] at e;have e1:x.1=vs[i]'(by rw[List.length_zip] at hi;omega):=by rw[← e]
  rw[e1];exact⟨D3 _,e.symm⟩
 have hb:∀x∈(pairsOf vs).toList,∃q,PairAt s.heap x.1 q:=λx hx=>hv.all _ (el x hx).1
 have M:vs.Nodup:=by
  refine D6.mpr λi j hi hj F e=>?_
  have:=D6.mp hv.nd i j (by simpa using hi) (by simpa using hj) F;rw[List.getElem_map,List.getElem_map,e] at this;exact this rfl
 refine⟨Zn0 hb,?_,λx _ y _ z _ h1 h2=>?_,λx hx y hy L h=>?_⟩
 ·rw[pairsOf_toList]
  refine D6.mpr λi j hi hj F e=>?_
  rw[List.getElem_zip,List.getElem_zip] at e;have e1:=C1 Prod.fst e;simp only[List.length_zip] at hi hj;exact D6.mp M i j (by omega) (by omega) F e1
 ·unfold xq0 at *
  rw[xu0] at *;omega
 ·unfold xq0 at *
  have J:pk s.heap x.1≠pk s.heap y.1:=λe=>by
   apply L;obtain⟨mx,ex⟩:=el x hx;obtain⟨my,ey⟩:=el y hy;obtain⟨i,hi,e1⟩:=E3.mp mx;obtain⟨j,hj,e2⟩:=E3.mp my;have F:i=j:=by
    rcases Nat.lt_trichotomy i j with q|q|q
    ·have:=D6.mp hv.nd i j (by simpa using hi) (by simpa using hj) q
     rw[List.getElem_map,List.getElem_map,e1,e2] at this;exact absurd e this
    ·exact q
    ·have:=D6.mp hv.nd j i (by simpa using hj) (by simpa using hi) q
     rw[List.getElem_map,List.getElem_map,e1,e2] at this;exact absurd e.symm this
   subst F;rw[ex,ey,← e1,← e2]
  rw[xu0];have h':¬((pk s.heap y.1).1<(pk s.heap x.1).1∨((pk s.heap y.1).1=(pk s.heap x.1).1/\(pk s.heap y.1).2<(pk s.heap x.1).2)):=λz=>by
   rw[xu0.mpr z] at h;cases h
  have:(pk s.heap x.1).1≠(pk s.heap y.1).1∨(pk s.heap x.1).2≠(pk s.heap y.1).2:=by
   by_cases q1:(pk s.heap x.1).1=(pk s.heap y.1).1
   ·exact .inr λq2=>J (L4 q1 q2)
   ·exact .inl q1
  omega
theorem dg0{q:Int×Int}{Q:Option Value->Shared->Prop}(hv:PairAt s.heap v q)(h:∀t,Q (some (.int q.1 t)) s):wpAny (model P w) A (firstOfTuple' v) Q E s:=by
 obtain⟨a,o,n,t,u,rfl,e1,e2,e3⟩:=hv;show wpAny _ _ (typeOf (.ref a)>>=λT=>if (T != .type "tuple")=true then pure none else do return (← Builtin.List.listItems (.ref a))[0]?) _ _ _;refine A0 (T0 (T := "tuple") ⟨o,e1,e2⟩ ?_);rw[if_neg (by simp)];exact A0 (h8 e1 e3 (A1 (h t)))
theorem firstsP:∀{vs:List Value} {Q:List (Option Value)->Shared->Prop},(∀v∈vs,∃q,PairAt s.heap v q)->(∀(fs:List Value) (ns:List Int),IntsAre fs ns->fs.length=vs.length->Q (fs.map some) s)->wpAny (model P w) A (vs.mapM firstOfTuple') Q E s
 | [],Q,_,h=>by
  rw[List.mapM_nil];exact A1 (h [] [] .nil rfl)
 | v::vs,Q,hv,h=>by
  rw[List.mapM_cons];obtain⟨q,hq⟩:=hv v A5;refine A0 (dg0 hq λt=>A0 (firstsP (λu hu=>hv u (B9 _ hu)) λfs ns a c=>A1 ?_));exact h (.int q.1 t::fs) (q.1::ns) (.cons q.1 t a) (by rw[List.length_cons,List.length_cons,c])
theorem bz0{v₁ v₂:Value}{r:List Value}{Q:SortKind->Shared->Prop}(hv:∀v∈v₁::v₂::r,∃q,PairAt s.heap v q)(h:Q (tuples' true) s):wpAny (model P w) A (keyKind' (v₁::v₂::r).toArray) Q E s:=by
 rw[keyKind'_eq,List.mapM_toArray];refine A0 ?_;rw[map_eq_pure_bind];refine A0 (firstsP hv λfs ns a c=>A1 ?_);have h1:((fs.map some).toArray.all λx=>x.isSome)=true:=by simp
 rw[if_pos h1];have h2:(fs.map some).toArray.filterMap id=fs.toArray:=by
  simp
 refine A0 (E2 ?_);rw[h2,oneTypeOnly'_eq,List.mapM_toArray,mapM_typeOf_ints a];simp only[map_pure,pure_bind];obtain⟨f0,fr,rfl⟩:∃f0 fr,fs=f0::fr:=by
  cases fs with
  | nil=>simp at c
  | cons f0 fr=>exact⟨f0,fr,rfl⟩
 have h3:((f0::fr).map λ_=>Value.type "int").toArray[0]?=some (.type "int"):=by simp
 rw[h3];have h4:(((f0::fr).map λ_=>Value.type "int").toArray.all λx=>x==Value.type "int")=true:=by
  simp only[List.all_toArray,List.all_map,List.all_eq_true];exact λ_ _=>rfl
 simp only[h4,if_true,pure_bind];exact A1 h
end
section
variable{P:Program}{w:World}{s:Shared}
theorem PairAt.to{h:Heap}{q:Int×Int}(x:PairAt h v q)(k:∀a o,h.get? a=some o->o.cls=.type "tuple"->h'.get? a=some o):PairAt h' v q:=by
 obtain⟨a,o,n,t,u,e,e1,e2,e3⟩:=x;exact⟨a,o,n,t,u,e,k a o e1 e2,e2,e3⟩
theorem Prs.to{h:Heap}(x:Prs h vs)(k:∀a o,h.get? a=some o->o.cls=.type "tuple"->h'.get? a=some o):Prs h' vs/\∀v∈vs,pk h' v=pk h v:=by
 have e:∀v∈vs,pk h' v=pk h v:=λv hv=>by
  obtain⟨q,hq⟩:=x.all v hv;rw[wg0 hq,wg0 (hq.to k)]
 refine⟨⟨λv hv=>?_,?_⟩,e⟩
 ·obtain⟨q,hq⟩:=x.all v hv
  exact⟨q,hq.to k⟩
 ·rw[List.map_congr_left e]
  exact x.nd
end
end SoT
namespace SoT
def le2(a b:Int×Int):Bool:=!lt2 b a
def srt(ps:List (Int×Int)):List (Int×Int):=ps.mergeSort le2
theorem yf0{a b:Int×Int}:le2 a b=true↔¬(b.1<a.1∨(b.1=a.1/\b.2<a.2)):=by
 unfold le2 lt2;rw[Bool.not_eq_true',decide_eq_false_iff_not]
theorem dn0(a b c:Int×Int)(h1:le2 a b=true)(h2:le2 b c=true):le2 a c=true:=by rw[yf0] at *;omega
theorem c90(a b:Int×Int):(le2 a b||le2 b a)=true:=by rw[Bool.or_eq_true,yf0,yf0];omega
theorem cj0{a b:Int×Int}(h1:le2 a b=true)(h2:le2 b a=true):a=b:=by
 rw[yf0] at *;exact L4 (by omega) (by omega)
theorem tp0:∀{l m:List (Int×Int)},l.Perm m->l.Pairwise (λa b=>le2 a b=true)->m.Pairwise (λa b=>le2 a b=true)->l=m
 | [],m,h,_,_=>by rw[List.nil_perm.mp h]
 | a::l,[],h,_,_=>by exact absurd (List.perm_nil.mp h) (by simp)
 | a::l,b::m,h,h1,h2=>by
  have self:∀x:Int×Int,le2 x x=true:=λx=>by rw[yf0];omega
  have J:le2 a b=true:=by
   rcases B3.mp (h.mem_iff.mpr (A5 (a:=b) (l:=m))) with e|e
   ·rw[e];exact self a
   ·exact W1 h1 e
  have F:le2 b a=true:=by
   rcases B3.mp (h.mem_iff.mp (A5 (a:=a) (l:=l))) with e|e
   ·rw[e];exact self b
   ·exact W1 h2 e
  have e:=cj0 J F;subst e;rw[tp0 (List.Perm.cons_inv h) (i0.mp h1).2 (i0.mp h2).2]
theorem yh0(ps:List (Int×Int)):(srt ps).Perm ps:=List.mergeSort_perm ps le2
theorem p50(ps:List (Int×Int)):(srt ps).Pairwise (λa b=>le2 a b=true):=List.pairwise_mergeSort dn0 c90 ps
theorem kz0{l ps:List (Int×Int)}(hp:l.Perm ps)(h:l.Pairwise (λa b=>lt2 a b=true)):l=srt ps :=
 tp0 (hp.trans (yh0 ps).symm) (h.imp λ{a b} z=>by rw[xu0] at z;rw[yf0];omega) (p50 ps)
theorem qz0{l m:List (Int×Int)}(h:l.Perm m):srt l=srt m:=tp0 ((yh0 l).trans (h.trans (yh0 m).symm)) (p50 l) (p50 m)
end SoT
namespace L2
open Spec PyProof.Rows SoT
def PrV(H:Hp):List V->List (Int×Int)->Prop
 | [],[]=>True
 | v::vs,q::qs=>(∃a,v=.ref a/\H a=some (.tup [.int q.1,.int q.2]))/\PrV H vs qs
 | _,_=>False
section
variable{s:Shared}
theorem no0(I:Inv X pins σ H s){q:Int×Int}(h:H a=some (.tup [.int q.1,.int q.2])):PairAt s.heap (.ref a) q:=by
 obtain⟨its,rv,⟨o,e1,e2,n,e3⟩,_⟩:=I.tuple (X:=X) (xs:=[.int q.1,.int q.2]) (.inl (.inl h));cases rv with
 | cons r1 rv =>
  cases rv with
  | cons r2 rv =>
   cases rv;obtain⟨t,rfl⟩:=r1;obtain⟨u,rfl⟩:=r2;exact⟨a,o,n,t,u,rfl,e1,e2,e3⟩
theorem oj0(I:Inv X pins σ H s):∀{ys:List V} {its:List Value} {ps:List (Int×Int)},Vals ys its->PrV H ys ps->its.map (pk s.heap)=ps/\(∀v∈its,∃q,PairAt s.heap v q)/\∀v∈its,∃a,v=.ref a/\V.ref a∈ys/\H a=some (.tup [.int (pk s.heap v).1,.int (pk s.heap v).2])
 | [],_,[],.nil,_=>⟨rfl,(λv h=>by cases h),(λv h=>by cases h)⟩
 | [],_,_::_,.nil,h=>h.elim
 | y::ys,_,[],.cons _ _,h=>h.elim
 | y::ys,_,q::ps,.cons r rv,h=>by
  obtain⟨⟨a,rfl,ha⟩,h2⟩:=h;cases (show _=Value.ref a from r);obtain⟨i1,i2,i3⟩:=oj0 I rv h2;have e:=wg0 (no0 I ha);refine⟨by rw[List.map_cons,i1,e],λv hv=>?_,λv hv=>?_⟩
  ·rcases B3.mp hv with rfl|hv
   ·exact⟨q,no0 I ha⟩
   ·exact i2 v hv
  ·rcases B3.mp hv with rfl|hv
   ·exact⟨a,rfl,A5,by rw[e];exact ha⟩
   ·obtain⟨b,e1,e2,e3⟩:=i3 v hv
    exact⟨b,e1,B9 _ e2,e3⟩
theorem ur0{h:Heap}{ys:List V}:∀{vs:List Value},(∀v∈vs,∃a,v=.ref a/\V.ref a∈ys/\H a=some (.tup [.int (pk h v).1,.int (pk h v).2]))->∃zs,Vals zs vs/\PrV H zs (vs.map (pk h))/\∀z∈zs,z∈ys
 | [],_=>⟨[],.nil,trivial,λz hz=>by cases hz⟩
 | v::vs,hv=>by
  obtain⟨a,rfl,m,e⟩:=hv v A5;obtain⟨zs,z1,z2,z3⟩:=ur0 (vs:=vs) λu hu=>hv u (B9 _ hu)
  exact⟨.ref a::zs,.cons rfl z1,⟨⟨a,rfl,e⟩,z2⟩,λz hz=>by
   rcases B3.mp hz with rfl|hz
   ·exact m
   ·exact z3 z hz⟩
end
end L2
namespace DL
open Spec PyProof.Rows L2 SoT
def pD(q:Int×Int):D:=.tup [.int q.1,.int q.2]
def v20:List D->Option (List (Int×Int))
 | []=>some []
 | .tup [.int i,.int j]::ds=>(v20 ds).map λr=>(i,j)::r
 | _=>none
theorem ma0:∀ps:List (Int×Int),v20 (ps.map pD)=some ps
 | []=>rfl
 | q::ps=>by show (v20 (ps.map pD)).map _=_;rw[ma0 ps];rfl
theorem js0:∀{ds:List D} {ys:List V} {ps:List (Int×Int)},Rps K H B ds ys->v20 ds=some ps->PrV H ys ps/\∀y∈ys,∃a,y=.ref a/\¬B a
 | [],ys,ps,r,h=>by
  rw[j5] at r;subst r;cases h;exact⟨trivial,λy hy=>by cases hy⟩
 | d::ds,ys,ps,r,h=>by
  rw[o8] at r;obtain⟨x,t,rfl,r1,r2⟩:=r;unfold v20 at h;split at h
  ·rename_i e;cases e
  ·rename_i i j ds' e
   injection e with e1 e2
   subst e1;subst e2;obtain⟨rs,e3,rfl⟩:=P6.mp h;obtain⟨i1,i2⟩:=js0 r2 e3;rw[X8] at r1;obtain⟨a,xs,rfl,hq,rr⟩:=r1;rw[o8] at rr;obtain⟨x1,t1,rfl,q1,rr⟩:=rr;rw[o8] at rr;obtain⟨x2,t2,rfl,q2,rr⟩:=rr;rw[j5] at rr;subst rr;rw[m9] at q1 q2;subst q1;subst q2;exact⟨⟨⟨a,rfl,hq.2⟩,i1⟩,λy hy=>by
    rcases B3.mp hy with rfl|hy
    ·exact⟨a,rfl,hq.1⟩
    ·exact i2 y hy⟩
  ·cases h
theorem o70:∀{zs:List V} {qs:List (Int×Int)} {a:Addr},PrV H zs qs->V.ref a∈zs->H a≠none
 | [],_,_,_,hz=>by cases hz
 | _::_,[],_,h,_=>h.elim
 | z::zs,q::qs,a,h,hz=>by
  obtain⟨⟨b,e,hb⟩,h2⟩:=h;rcases B3.mp hz with e2|hz
  ·rw[e] at e2
   cases e2;rw[hb];exact λz=>nomatch z
  ·exact o70 h2 hz
theorem pj0:∀{zs:List V} {qs:List (Int×Int)},PrV H zs qs->(∀z∈zs,∃a,z=.ref a/\¬B a)->Rps K H B (qs.map pD) zs
 | [],[],_,_=>by rw[List.map_nil,j5]
 | [],_::_,h,_=>h.elim
 | _::_,[],h,_=>h.elim
 | z::zs,q::qs,h,hb=>by
  obtain⟨⟨a,rfl,ha⟩,h2⟩:=h;rw[List.map_cons,o8];refine⟨_,_,rfl,?_,pj0 h2 λy hy=>hb y (B9 _ hy)⟩;obtain⟨b,e,nb⟩:=hb _ A5;cases e;unfold pD;rw[X8];refine⟨a,_,rfl,⟨nb,ha⟩,?_⟩;rw[o8];refine⟨_,_,rfl,by rw[m9],?_⟩;rw[o8];exact⟨_,_,rfl,by rw[m9],by rw[j5]⟩
end DL
namespace SoT
open PyProof.Rows
def O5:Bool->Keyed->Array Keyed->Nat->Nat->Nat->StateT SortSt Sem (Option Nat):=sortPriv% PySem.Builtin.gallop
def uz0:Array Keyed->Array Keyed->StateT SortSt Sem (Array Keyed):=sortPriv% PySem.Builtin.mergeLo
def uo0:Array Keyed->Array Keyed->StateT SortSt Sem (Array Keyed):=sortPriv% PySem.Builtin.mergeHi
theorem mt0(left:Bool)(key:Keyed)(arr:Array Keyed)(base n hint:Nat):O5 left key arr base n hint=(do
 let beyond (i:Nat):StateT SortSt Sem (Option Bool):=do
  let x ← elem' arr (base+i)
  if left then lt' x key else return (← lt' key x).map (!·)
 let mut lastofs:=0
 let mut ofs:=1
 let mut lo:=0
 let mut hi:=0
 let some right ← beyond hint|return none
 if right then
  let maxofs:=n - hint
  for _ in [0:n] do
   if ofs ≥ maxofs then break
   let some more ← beyond (hint+ofs)|return none
   if !more then break
   lastofs:=ofs
   ofs:=2*ofs+1
  lo:=hint+lastofs+1
  hi:=hint+min ofs maxofs
 else
  let maxofs:=hint+1
  for _ in [0:n] do
   if ofs ≥ maxofs then break
   let some found ← beyond (hint - ofs)|return none
   if found then break
   lastofs:=ofs
   ofs:=2*ofs+1
  lo:=hint+1 - min ofs maxofs
  hi:=hint - lastofs
 for _ in [0:n] do
  if lo ≥ hi then break
  let m:=lo+(hi - lo)/2
  let some more ← beyond m|return none
  if more then lo:=m+1 else hi:=m
 return some hi):=rfl
section
variable{P:Program}{w:World}{s:Shared}{b:Array Keyed}{κ:SortKind}{cmp:Keyed->Keyed->Bool}
structure Gn(b:Array Keyed)(κ:SortKind)(st:SortSt):Prop where
 kd:kindOf st=κ
 pm:(arrOf st).Perm b
 fa:failedOf st=none
structure Cn(P:Program)(w:World)(A:Around)(E:Value->Shared->Prop)(s:Shared)(b:Array Keyed)(κ:SortKind)(cmp:Keyed->Keyed->Bool):Prop where
 ask:∀(st:SortSt) (x y:Keyed) (Q:Option Bool->SortSt->Prop),kindOf st=κ->x∈b.toList->y∈b.toList->Q (some (cmp x y)) st->wpS (model P w) A E s (lt' x y) Q st
 nd:b.toList.Nodup
 tr:∀x∈b.toList,∀y∈b.toList,∀z∈b.toList,cmp x y=true->cmp y z=true->cmp x z=true
 to:∀x∈b.toList,∀y∈b.toList,x≠y->cmp y x=false->cmp x y=true
 as:∀x∈b.toList,∀y∈b.toList,cmp x y=true->cmp y x=false
def bey(left:Bool)(key:Keyed)(arr:Array Keyed)(base i:Nat):StateT SortSt Sem (Option Bool):=do
 let x ← elem' arr (base+i)
 if left then lt' x key else return (← lt' key x).map (!·)
theorem c30(C:Cn P w A E s b κ cmp){st:SortSt}(hk:kindOf st=κ)(left:Bool){key x:Keyed}{arr:Array Keyed}{base:Nat}(h:arr[base+i]?=some x)(mx:x∈b.toList)(mk:key∈b.toList)(hn:x≠key){Q:Option Bool->SortSt->Prop}(k:Q (some (cmp x key)) st):wpS (model P w) A E s (bey left key arr base i) Q st:=by
 unfold bey;rw[elem'_eq,h];refine A3 (A2 ?_);cases left with
 | true=>exact C.ask _ _ _ _ hk mx mk k
 | false =>
  refine A3 (C.ask _ _ _ _ hk mk mx (A2 ?_));show Q (some (!cmp key x)) st;have:(!cmp key x)=cmp x key:=by
   cases e:cmp key x with
   | true=>rw[C.as _ mk _ mx e];rfl
   | false=>rw[C.to _ mx _ mk hn e];rfl
  rw[this];exact k
structure Sr(P:Program)(w:World)(A:Around)(E:Value->Shared->Prop)(s:Shared)(B:Nat->StateT SortSt Sem (Option Bool))(pos:Nat->Bool)(n:Nat)(st:SortSt):Prop where
 ask:∀i,i<n->∀Q:Option Bool->SortSt->Prop,Q (some (pos i)) st->wpS (model P w) A E s (B i) Q st
 mono:∀i j,i<=j->j<n->pos j=true->pos i=true
theorem bin{B:Nat->StateT SortSt Sem (Option Bool)}{pos:Nat->Bool}{st:SortSt}(S:Sr P w A E s B pos n st){lo hi:Nat}(h1:lo<=hi)(h2:hi<=n)(h3:∀i,i<lo->pos i=true)(h4:∀i,hi<=i->i<n->pos i=false) :
  wpS (model P w) A E s (forIn [:n] ((none,lo,hi):Option (Option Nat)×Nat×Nat) λx __s =>
    if __s.snd.fst ≥ __s.snd.snd then pure (ForInStep.done (none,__s.snd.fst,__s.snd.snd))
    else do
     let __x ← B (__s.snd.fst+(__s.snd.snd - __s.snd.fst)/2)
     match __x with
     | some more=>if more=true then pure (ForInStep.yield (none,__s.snd.fst+(__s.snd.snd - __s.snd.fst)/2+1,__s.snd.snd)) else pure (ForInStep.yield (none,__s.snd.fst,__s.snd.fst+(__s.snd.snd - __s.snd.fst)/2))
     | x=>pure (ForInStep.done (some none,__s.snd.fst,__s.snd.snd))) (λc t=>t=st/\∃r,c=(none,r,r)/\r<=n/\(∀i,i<r->pos i=true)/\∀i,r<=i->i<n->pos i=false) st:=by
 refine(C2 (I:=λx c t=>t=st/\∃lo hi,c=(none,lo,hi)/\lo<=hi/\hi<=n/\hi - lo<=n - x/\(∀i,i<lo->pos i=true)/\∀i,hi<=i->i<n->pos i=false)
  (Q:=λc t=>t=st/\∃r,c=(none,r,r)/\r<=n/\(∀i,i<r->pos i=true)/\∀i,r<=i->i<n->pos i=false) (λx c t _ hx hI=>?_) (λc t hI=>?_) ⟨rfl,lo,hi,rfl,h1,h2,by omega,h3,h4⟩)
 ·obtain⟨e1,lo,hi,e2,a1,a2,a3,a4,a5⟩:=hI
  subst e1;subst e2;dsimp only
  by_cases hge:lo ≥ hi
  ·rw[if_pos hge]
   have:lo=hi:=by omega
   subst this;exact A2 ⟨rfl,lo,rfl,a2,a4,a5⟩
  ·rw[if_neg hge]
   refine A3 (S.ask _ (by omega) _ ?_);dsimp only;cases hp:pos (lo+(hi - lo)/2) with
   | true =>
    rw[if_pos rfl];exact A2 ⟨rfl,_,_,rfl,by omega,a2,by omega,λi F=>S.mono i _ (by omega) (by omega) hp,a5⟩
   | false =>
    rw[if_neg (by simp)];refine A2 ⟨rfl,_,_,rfl,by omega,by omega,by omega,a4,λi F hn=>?_⟩;cases hq:pos i with
    | false=>rfl
    | true=>rw[S.mono _ i F hn hq] at hp;cases hp
 ·obtain⟨e1,lo,hi,e2,a1,a2,a3,a4,a5⟩:=hI
  subst e1;subst e2;have:lo=hi:=by omega
  subst this;exact⟨rfl,lo,rfl,a2,a4,a5⟩
theorem gal{left:Bool}{key:Keyed}{arr:Array Keyed}{base hint:Nat}{pos:Nat->Bool}{st:SortSt}(S:Sr P w A E s (bey left key arr base) pos n st)(hh:hint<n){Q:Option Nat->SortSt->Prop}
  (k:∀r,r<=n->(∀i,i<r->pos i=true)->(∀i,r<=i->i<n->pos i=false)->Q (some r) st):wpS (model P w) A E s (O5 left key arr base n hint) Q st:=by
 rw[mt0];have J:∀i j,i<=j->j<n->pos i=false->pos j=false:=λi j h1 h2 h3=>by
  cases hq:pos j with
  | false=>rfl
  | true=>rw[S.mono i j h1 h2 hq] at h3;cases h3
 refine A3 (S.ask hint hh _ ?_);dsimp only;cases hp:pos hint with
 | true =>
  rw[if_pos rfl];refine A3 (B6 (C2 (I:=λx c t=>t=st/\∃lo F,c=(none,lo,F)/\lo<F/\hint+lo<n/\pos (hint+lo)=true/\x+1<=F)
   (Q:=λc t=>t=st/\∃lo F,c=(none,lo,F)/\lo<F/\hint+lo<n/\pos (hint+lo)=true/\(n - hint<=F∨(hint+F<n/\pos (hint+F)=false))) (λx c t _ hx hI=>?_) (λc t hI=>?_) ⟨rfl,0,1,rfl,by omega,by omega,hp,by omega⟩) λc t hI=>?_)
  ·obtain⟨e1,lo,F,e2,a1,a2,a3,a4⟩:=hI
   subst e1;subst e2;dsimp only
   by_cases hge:F ≥ n - hint
   ·rw[if_pos hge]
    exact A2 ⟨rfl,lo,F,rfl,a1,a2,a3,.inl hge⟩
   ·rw[if_neg hge]
    refine A3 (S.ask (hint+F) (by omega) _ ?_);dsimp only;cases hq:pos (hint+F) with
    | false=>exact A2 ⟨rfl,lo,F,rfl,a1,a2,a3,.inr ⟨by omega,hq⟩⟩
    | true=>exact A2 ⟨rfl,F,2*F+1,rfl,by omega,by omega,hq,by omega⟩
  ·obtain⟨e1,lo,F,e2,a1,a2,a3,a4⟩:=hI
   exact⟨e1,lo,F,e2,a1,a2,a3,.inl (by omega)⟩
  ·obtain⟨e1,lo,F,e2,a1,a2,a3,a4⟩:=hI
   subst e1;subst e2;dsimp only;refine A3 (B6 (bin S (lo:=hint+lo+1) (hi:=hint+min F (n - hint)) (by omega) (by omega) (λi hi=>S.mono i _ (by omega) a2 a3) (λi h1 h2=>by
    rcases a4 with a4|⟨a4,a5⟩
    ·omega
    ·exact J _ i (by omega) h2 a5)) λc t hI=>?_)
   obtain⟨e1,r,e2,b2,b4,b5⟩:=hI;subst e1;subst e2;exact A2 (k r b2 b4 b5)
 | false =>
  rw[if_neg (by simp)];refine A3 (B6 (C2 (I:=λx c t=>t=st/\∃lo F,c=(none,lo,F)/\lo<F/\lo<=hint/\pos (hint - lo)=false/\x+1<=F)
   (Q:=λc t=>t=st/\∃lo F,c=(none,lo,F)/\lo<F/\lo<=hint/\pos (hint - lo)=false/\(hint+1<=F∨(F<=hint/\pos (hint - F)=true))) (λx c t _ hx hI=>?_) (λc t hI=>?_) ⟨rfl,0,1,rfl,by omega,by omega,hp,by omega⟩) λc t hI=>?_)
  ·obtain⟨e1,lo,F,e2,a1,a2,a3,a4⟩:=hI
   subst e1;subst e2;dsimp only
   by_cases hge:F ≥ hint+1
   ·rw[if_pos hge]
    exact A2 ⟨rfl,lo,F,rfl,a1,a2,a3,.inl hge⟩
   ·rw[if_neg hge]
    refine A3 (S.ask (hint - F) (by omega) _ ?_);dsimp only;cases hq:pos (hint - F) with
    | true=>exact A2 ⟨rfl,lo,F,rfl,a1,a2,a3,.inr ⟨by omega,hq⟩⟩
    | false=>exact A2 ⟨rfl,F,2*F+1,rfl,by omega,by omega,hq,by omega⟩
  ·obtain⟨e1,lo,F,e2,a1,a2,a3,a4⟩:=hI
   exact⟨e1,lo,F,e2,a1,a2,a3,.inl (by omega)⟩
  ·obtain⟨e1,lo,F,e2,a1,a2,a3,a4⟩:=hI
   subst e1;subst e2;dsimp only;refine A3 (B6 (bin S (lo:=hint+1 - min F (hint+1)) (hi:=hint - lo) (by omega) (by omega) (λi hi=>by
    rcases a4 with a4|⟨a4,a5⟩
    ·omega
    ·exact S.mono i _ (by omega) (by omega) a5) (λi h1 h2=>J _ i h1 h2 a3)) λc t hI=>?_)
   obtain⟨e1,r,e2,b2,b4,b5⟩:=hI;subst e1;subst e2;exact A2 (k r b2 b4 b5)
end
def z00(st:SortSt)(g:Nat):SortSt:=SortSt.mk' (kindOf st) (arrOf st) (pendingOf st) g (failedOf st)
theorem ov0(a b:Array Keyed):uz0 a b=(do
 rule "list.sort.merge-lo"
 let total:=a.size+b.size
 let done (out:Array Keyed) (ia ib:Nat):=out++a.extract ia a.size++b.extract ib b.size
 let lastOfA (out:Array Keyed) (ia ib:Nat):=out++b.extract ib b.size++a.extract ia a.size
 let mut out:Array Keyed:=#[← elem' b 0]
 let mut ia:=0
 let mut ib:=1
 if ib==b.size then return done out ia ib
 if ia+1==a.size then return lastOfA out ia ib
 let mut minGallop:=gallopOf (← get)
 for _ in [0:total] do
  let mut acount:=0
  let mut bcount:=0
  for _ in [0:total] do
   let some bWins ← lt' (← elem' b ib) (← elem' a ia)|return done out ia ib
   if bWins then
    out:=out.push (← elem' b ib);ib:=ib+1;bcount:=bcount+1;acount:=0
    if ib==b.size then return done out ia ib
    if bcount ≥ minGallop then break
   else
    out:=out.push (← elem' a ia);ia:=ia+1;acount:=acount+1;bcount:=0
    if ia+1==a.size then return lastOfA out ia ib
    if acount ≥ minGallop then break
  rule "list.sort.gallop"
  minGallop:=minGallop+1
  for _ in [0:total] do
   if minGallop > 1 then minGallop:=minGallop - 1
   modify λs=>z00 s minGallop
   let some k ← O5 false (← elem' b ib) a ia (a.size - ia) 0|return done out ia ib
   acount:=k
   if k > 0 then
    out:=out++a.extract ia (ia+k);ia:=ia+k
    if ia+1==a.size then return lastOfA out ia ib
    if ia==a.size then return done out ia ib
   out:=out.push (← elem' b ib);ib:=ib+1
   if ib==b.size then return done out ia ib
   let some k ← O5 true (← elem' a ia) b ib (b.size - ib) 0|return done out ia ib
   bcount:=k
   if k > 0 then
    out:=out++b.extract ib (ib+k);ib:=ib+k
    if ib==b.size then return done out ia ib
   out:=out.push (← elem' a ia);ia:=ia+1
   if ia+1==a.size then return lastOfA out ia ib
   if acount<7&&bcount<7 then break
  minGallop:=minGallop+1
  modify λs=>z00 s minGallop
 unsupported "internal:list.sort.merge-bound"):=rfl
section
variable{P:Program}{w:World}{s:Shared}{b:Array Keyed}{κ:SortKind}{cmp:Keyed->Keyed->Bool}
structure Mg(b:Array Keyed)(cmp:Keyed->Keyed->Bool)(T out la lb:List Keyed):Prop where
 pm:(out++(la++lb)).Perm T
 sa:(out++la).Pairwise λx y=>cmp x y=true
 sb:(out++lb).Pairwise λx y=>cmp x y=true
 me:∀x∈T,x∈b.toList
 nd:T.Nodup
theorem Mg.flip{T out la lb:List Keyed}(h:Mg b cmp T out la lb):Mg b cmp T out lb la:=⟨(List.perm_append_comm.append_left _).trans h.pm,h.sb,h.sa,h.me,h.nd⟩
theorem Mg.ma{T out la lb:List Keyed}(h:Mg b cmp T out la lb){x:Keyed}(hx:x∈la):x∈b.toList:=h.me x (h.pm.mem_iff.mp (C8 _ (L8 _ hx)))
theorem Mg.mb{T out la lb:List Keyed}(h:Mg b cmp T out la lb){x:Keyed}(hx:x∈lb):x∈b.toList:=h.me x (h.pm.mem_iff.mp (C8 _ (C8 _ hx)))
theorem Mg.move(tr:∀x∈b.toList,∀y∈b.toList,∀z∈b.toList,cmp x y=true->cmp y z=true->cmp x z=true){T out l1 l2 lb:List Keyed}{y:Keyed}(h:Mg b cmp T out (l1++l2) (y::lb))(hl:∀x∈l1,cmp x y=true):Mg b cmp T (out++l1) l2 (y::lb):=by
 refine⟨?_,?_,?_,h.me,h.nd⟩
 ·have:=h.pm
  rw[List.append_assoc] at this ⊢;exact this
 ·have:=h.sa
  rw[List.append_assoc];exact this
 ·have h1:=h.sa
  have h2:=h.sb;rw[List.pairwise_append] at h1 h2;rw[List.pairwise_append];obtain⟨o1,o2,o3⟩:=h1;obtain⟨p1,p2,p3⟩:=h2;rw[List.pairwise_append] at o2;refine⟨N9.mpr ⟨o1,o2.1,λx hx z hz=>o3 x hx z (L8 _ hz)⟩,p2,λx hx z hz=>?_⟩;rcases B8.mp hx with hx|hx
  ·exact p3 x hx z hz
  ·rcases B3.mp hz with rfl|F
   ·exact hl x hx
   ·exact tr x (h.ma (L8 _ hx)) y (h.mb A5) z (h.mb hz) (hl x hx) (W1 p2 F)
structure Md(cmp:Keyed->Keyed->Bool)(T out:List Keyed):Prop where
 pm:out.Perm T
 so:out.Pairwise λx y=>cmp x y=true
theorem Mg.endA{T out la:List Keyed}(h:Mg b cmp T out la []):Md cmp T (out++la):=⟨by have:=h.pm;rwa [List.append_nil] at this,h.sa⟩
theorem Mg.endB{T out lb:List Keyed}(h:Mg b cmp T out [] lb):Md cmp T (out++lb):=⟨h.pm,h.sb⟩
theorem Mg.last{T out lb:List Keyed}{x:Keyed}(h:Mg b cmp T out [x] lb)(hx:∀z∈lb,cmp z x=true):Md cmp T (out++lb++[x]):=by
 refine⟨?_,?_⟩
 ·have:=h.flip.pm
  rw[List.append_assoc];exact this
 ·rw[List.pairwise_append]
  refine⟨h.sb,List.pairwise_singleton _ _,λy hy z hz=>?_⟩;rw[List.mem_singleton] at hz;subst hz;rcases B8.mp hy with hy|hy
  ·have:=h.sa
   rw[List.pairwise_append] at this;exact this.2.2 y hy z (L6.mpr rfl)
  ·exact hx y hy
theorem Mg.ne{T out la lb:List Keyed}(h:Mg b cmp T out la lb){x y:Keyed}(hx:x∈la)(hy:y∈lb):x≠y:=by
 have:=h.pm.nodup_iff.mpr h.nd;rw[List.nodup_append] at this;have:=this.2.1;rw[List.nodup_append] at this;exact this.2.2 x hx y hy
theorem ty0(C:Cn P w A E s b κ cmp){st:SortSt}(hk:kindOf st=κ){left:Bool}{key:Keyed}{arr:Array Keyed}{base hint:Nat}(mk:key∈b.toList)(l:List Keyed)(hl:∀i,i<n->arr[base+i]?=l[i]?)(hn:l.length=n)(ml:∀x∈l,x∈b.toList/\x≠key)(sl:l.Pairwise λx y=>cmp x y=true)(hh:hint<n){Q:Option Nat->SortSt->Prop}
  (k:∀l1 l2,l=l1++l2->(∀x∈l1,cmp x key=true)->(∀x∈l2,cmp key x=true)->Q (some l1.length) st):wpS (model P w) A E s (O5 left key arr base n hint) Q st:=by
 subst hn;refine gal (pos:=λi=>match l[i]? with|some x=>cmp x key|none=>false) ⟨λi hi Q' hQ=>?_,λi j F hj hp=>?_⟩ hh λr hr h1 h2=>?_
 ·have e:l[i]?=some l[i]:=C5 l i hi
  have m:=ml l[i] (D3 hi);refine c30 C hk left (x:=l[i]) ((hl i hi).trans e) m.1 mk m.2 ?_;simp only[e] at hQ;exact hQ
 ·have e1:l[i]?=some l[i]:=C5 l i (by omega)
  have e2:l[j]?=some l[j]:=C5 l j hj;simp only[e1,e2] at hp ⊢
  by_cases hij':i=j
  ·subst hij';exact hp
  ·exact C.tr _ (ml _ (D3 (by omega))).1 _ (ml _ (D3 hj)).1 _ mk (D6.mp sl i j (by omega) hj (by omega)) hp
 ·have:=k (l.take r) (l.drop r) (List.take_append_drop r l).symm (λx hx=>?_) (λx hx=>?_)
  ·rw[List.length_take,Nat.min_eq_left hr] at this
   exact this
  ·obtain⟨i,hi,e⟩:=E3.mp hx
   rw[List.getElem_take] at e;rw[List.length_take] at hi;have:=h1 i (by omega);simp only[getElem?_pos l i (show i<l.length by omega),e] at this;exact this
  ·obtain⟨i,hi,e⟩:=E3.mp hx
   rw[List.getElem_drop] at e;rw[List.length_drop] at hi;have:=h2 (r+i) (by omega) (by omega);simp only[getElem?_pos l (r+i) (show r+i<l.length by omega),e] at this;have m:=ml x (e▸D3 _);exact C.to _ mk _ m.1 (λz=>m.2 z.symm) this
structure Sm(st t:SortSt):Prop where
 kd:kindOf t=kindOf st
 ar:arrOf t=arrOf st
 pe:pendingOf t=pendingOf st
 fa:failedOf t=failedOf st
theorem Sm.refl(st:SortSt):Sm st st:=⟨rfl,rfl,rfl,rfl⟩
theorem Sm.gal{st t:SortSt}(h:Sm st t)(g:Nat):Sm st (z00 t g):=⟨h.kd,h.ar,h.pe,h.fa⟩
theorem V5{a:Array Keyed}(h:i<a.size):a.toList.drop i=a[i]::a.toList.drop (i+1):=by
 rw[List.drop_eq_getElem_cons (by simpa using h)];simp
abbrev St7:=Option (Array Keyed)×Array Keyed×Nat×Nat×Nat×Nat×Nat
def loD(a y out:Array Keyed)(ia ib:Nat):Array Keyed:=out++a.extract ia a.size++y.extract ib y.size
def loL(a y out:Array Keyed)(ia ib:Nat):Array Keyed:=out++y.extract ib y.size++a.extract ia a.size
def lo3(a y:Array Keyed)(mg ac bc:Nat)(out:Array Keyed)(ia ib:Nat):StateT SortSt Sem (ForInStep St7):=do
 let x ← elem' a ia
 if (ia+1+1==a.size)=true then pure (.done (some (loL a y (out.push x) (ia+1) ib),out.push x,ia+1,ib,mg,ac,bc))
 else if (decide (ac<7)&&decide (bc<7))=true then pure (.done (none,out.push x,ia+1,ib,mg,ac,bc))
 else pure (.yield (none,out.push x,ia+1,ib,mg,ac,bc))
def lo2(a y:Array Keyed)(mg ac bc:Nat)(out:Array Keyed)(ia ib:Nat):StateT SortSt Sem (ForInStep St7):=do
 let x ← elem' y ib
 if (ib+1==y.size)=true then pure (.done (some (loD a y (out.push x) ia (ib+1)),out.push x,ia,ib+1,mg,ac,bc))
 else do
  let z ← elem' a ia
  let __x ← O5 true z y (ib+1) (y.size - (ib+1)) 0
  match __x with
  | some k =>
   if k > 0 then
    if (ib+1+k==y.size)=true then pure (.done (some (loD a y (out.push x++y.extract (ib+1) (ib+1+k)) ia (ib+1+k)),out.push x++y.extract (ib+1) (ib+1+k),ia,ib+1+k,mg,ac,k))
    else lo3 a y mg ac k (out.push x++y.extract (ib+1) (ib+1+k)) ia (ib+1+k)
   else lo3 a y mg ac k (out.push x) ia (ib+1)
  | x'=>pure (.done (some (loD a y (out.push x) ia (ib+1)),out.push x,ia,ib+1,mg,ac,bc))
def lo1(a y:Array Keyed)(mg ac bc:Nat)(out:Array Keyed)(ia ib:Nat):StateT SortSt Sem (ForInStep St7):=do
 modify λs=>z00 s mg
 let x ← elem' y ib
 let __x ← O5 false x a ia (a.size - ia) 0
 match __x with
 | some k =>
  if k > 0 then
   if (ia+k+1==a.size)=true then pure (.done (some (loL a y (out++a.extract ia (ia+k)) (ia+k) ib),out++a.extract ia (ia+k),ia+k,ib,mg,k,bc))
   else if (ia+k==a.size)=true then pure (.done (some (loD a y (out++a.extract ia (ia+k)) (ia+k) ib),out++a.extract ia (ia+k),ia+k,ib,mg,k,bc))
   else lo2 a y mg k bc (out++a.extract ia (ia+k)) (ia+k) ib
  else lo2 a y mg k bc out ia ib
 | x'=>pure (.done (some (loD a y out ia ib),out,ia,ib,mg,ac,bc))
structure Lo(b:Array Keyed)(cmp:Keyed->Keyed->Bool)(a y:Array Keyed)(n:Nat)(out:Array Keyed)(ia ib:Nat):Prop where
 mg:Mg b cmp (a.toList++y.toList) out.toList (a.toList.drop ia) (y.toList.drop ib)
 ia:ia+1<a.size
 ib:ib<y.size
 n:n<=out.size
def Oc(b:Array Keyed)(cmp:Keyed->Keyed->Bool)(a y:Array Keyed)(n:Nat)(o:Option (Array Keyed))(out:Array Keyed)(ia ib:Nat):Prop :=
 match o with
 | some r=>Md cmp (a.toList++y.toList) r.toList
 | none=>Lo b cmp a y n out ia ib
def Oc7(b:Array Keyed)(cmp:Keyed->Keyed->Bool)(a y:Array Keyed)(n:Nat)(st:SortSt)(r:ForInStep St7)(t:SortSt):Prop :=
 Sm st t/\match r with
 | .done c=>Oc b cmp a y n c.1 c.2.1 c.2.2.1 c.2.2.2.1
 | .yield c=>c.1=none/\Lo b cmp a y n c.2.1 c.2.2.1 c.2.2.2.1
section
variable{a y:Array Keyed}(C:Cn P w A E s b κ cmp){st t:SortSt}(hk:kindOf st=κ)(hl:∀z∈y.toList,∀x,a[a.size - 1]?=some x->cmp z x=true)
theorem U6(h:¬(m==n)=true):m≠n:=λz=>h (by rw[z];exact beq_self_eq_true n)
theorem gv0(c:Array Keyed)(i k:Nat):(c.extract i (i+k)).toList=(c.toList.drop i).take k:=by
 rw[Array.toList_extract];simp
theorem jk0(c:Array Keyed)(i:Nat):(c.extract i c.size).toList=c.toList.drop i:=by
 rw[Array.toList_extract];simp;rw[List.take_of_length_le (by simp)]
theorem gf0{c out:Array Keyed}{l1 l2:List Keyed}(h:c.toList.drop i=l1++l2):(out++c.extract i (i+l1.length)).toList=out.toList++l1/\c.toList.drop (i+l1.length)=l2:=by
 refine⟨?_,?_⟩
 ·rw[Array.toList_append,gv0,h,List.take_left]
 ·rw[← List.drop_drop,h,List.drop_left]
theorem c70{out:Array Keyed}:(loD a y out ia ib).toList=out.toList++a.toList.drop ia++y.toList.drop ib:=by
 unfold loD;simp only[Array.toList_append,jk0]
theorem ca0{out:Array Keyed}:(loL a y out ia ib).toList=out.toList++y.toList.drop ib++a.toList.drop ia:=by
 unfold loL;simp only[Array.toList_append,jk0]
include hl in
theorem qc0{out:Array Keyed}(M:Mg b cmp (a.toList++y.toList) out.toList (a.toList.drop ia) (y.toList.drop ib))(h:ia+1=a.size):Md cmp (a.toList++y.toList) (loL a y out ia ib).toList:=by
 rw[ca0];have e:=V5 (a:=a) (i:=ia) (by omega);rw[List.drop_eq_nil_of_le (i:=ia+1) (by simp;omega)] at e;rw[e] at M ⊢;refine M.last λz hz=>hl z (C10 hz) _ ?_
 rw[show a.size - 1=ia by omega];exact C5 a ia (by omega)
theorem pr0{out:Array Keyed}(M:Mg b cmp (a.toList++y.toList) out.toList (a.toList.drop ia) (y.toList.drop ib))(h:ia=a.size∨ib=y.size):Md cmp (a.toList++y.toList) (loD a y out ia ib).toList:=by
 rw[c70];rcases h with h|h
 ·rw[List.drop_eq_nil_of_le (as:=a.toList) (i:=ia) (by simp;omega)] at M ⊢
  rw[List.append_nil];exact M.endB
 ·rw[List.drop_eq_nil_of_le (as:=y.toList) (i:=ib) (by simp;omega)] at M ⊢
  rw[List.append_nil];exact M.endA
include hl C in
theorem k70{mg:Nat}{out:Array Keyed}(hs:Sm st t)(L:Lo b cmp a y n out ia ib)(hc:∀z,y[ib]?=some z->cmp (a[ia]'(by have:=L.ia;omega)) z=true):wpS (model P w) A E s (lo3 a y mg ac bc out ia ib) (Oc7 b cmp a y (n+1) st) t:=by
 have h1:=L.ia;have h2:=L.ib;have M:=L.mg;rw[V5 (a:=a) (i:=ia) (by omega),V5 (a:=y) (i:=ib) (by omega)] at M;have M2:=Mg.move C.tr (l1:=[a[ia]]) (l2:=a.toList.drop (ia+1)) M λx hx=>by
  rw[List.mem_singleton] at hx;subst hx;exact hc _ (C5 y ib h2)
 rw[← V5 (a:=y) (i:=ib) h2,← Array.toList_push] at M2;unfold lo3;rw[elem'_eq,getElem?_pos a ia (by omega)];refine A3 (A2 ?_);split
 ·rename_i e
  exact A2 ⟨hs,qc0 hl M2 (by simpa using e)⟩
 ·rename_i e
  have L2:Lo b cmp a y (n+1) (out.push a[ia]) (ia+1) ib:=⟨M2,by have:=U6 e;omega,h2,by rw[Array.size_push];have:=L.n;omega⟩;split
  ·exact A2 ⟨hs,L2⟩
  ·exact A2 ⟨hs,rfl,L2⟩
include hl C hk in
theorem j60{mg:Nat}{out:Array Keyed}(hs:Sm st t)(L:Lo b cmp a y n out ia ib)(hc:∀z,a[ia]?=some z->cmp (y[ib]'L.ib) z=true):wpS (model P w) A E s (lo2 a y mg ac bc out ia ib) (Oc7 b cmp a y (n+1) st) t:=by
 have h1:=L.ia;have h2:=L.ib;have M:=L.mg;have J:ia<a.size:=by omega
 rw[V5 (a:=a) (i:=ia) (by omega),V5 (a:=y) (i:=ib) (by omega)] at M;have M2:=(Mg.move C.tr (l1:=[y[ib]]) (l2:=y.toList.drop (ib+1)) M.flip λx hx=>by
  rw[List.mem_singleton] at hx;subst hx;exact hc _ (C5 a ia (by omega))).flip
 have mk:a[ia]∈b.toList:=M.ma A5;rw[← Array.toList_push] at M2;unfold lo2;rw[elem'_eq,getElem?_pos y ib h2];refine A3 (A2 ?_);split
 ·rename_i e
  rw[← V5 (a:=a) (i:=ia) J] at M2;exact A2 ⟨hs,pr0 M2 (.inr (by simpa using e))⟩
 ·rename_i e
  have e':ib+1<y.size:=by have:=U6 e;omega
  rw[elem'_eq,getElem?_pos a ia J];refine A3 (A2 (A3 (ty0 C (hs.kd.trans hk) mk (y.toList.drop (ib+1)) (λi hi=>?_) (by simp) (λx hx=>⟨M2.mb hx,λz=>M2.ne A5 hx z.symm⟩) (by have:=M2.sb;rw[List.pairwise_append] at this;exact this.2.1) (by omega) λl1 l2 h hb ha=>?_)))
  ·rw[List.getElem?_drop]
   simp
  ·dsimp only
   obtain⟨x1,x2⟩:=gf0 (out:=out.push y[ib]) h;rw[h] at M2;have M3:=(Mg.move C.tr M2.flip hb).flip;rw[← x1,← x2,← V5 (a:=a) (i:=ia) J] at M3;split
   ·rename_i hz
    split
    ·rename_i e2
     exact A2 ⟨hs,pr0 M3 (.inr (by simpa using e2))⟩
    ·rename_i e2
     have O:(y.toList.drop (ib+1)).length=(l1++l2).length:=by rw[h]
     rw[List.length_drop,List.length_append,Array.length_toList] at O;have e3:ib+1+l1.length<y.size:=by have:=U6 e2;omega
     refine k70 C hl hs ⟨M3,h1,e3,by rw[← Array.length_toList,x1,List.length_append,Array.length_toList,Array.size_push];have:=L.n;omega⟩ λz F=>ha z ?_
     rw[← x2,V5 (a:=y) e3];rw[getElem?_pos y _ e3] at F;cases F;exact A5
   ·rename_i hz
    have:l1=[]:=L7 (by omega);subst this;rw[List.nil_append] at h;rw[List.nil_append,← h,← V5 (a:=a) (i:=ia) J] at M2;refine k70 C hl hs ⟨M2,h1,e',by rw[Array.size_push];have:=L.n;omega⟩ λz F=>ha z ?_
    rw[← h,V5 (a:=y) e'];rw[getElem?_pos y _ e'] at F;cases F;exact A5
include hl C hk in
theorem ly0{mg:Nat}{out:Array Keyed}(hs:Sm st t)(L:Lo b cmp a y n out ia ib):wpS (model P w) A E s (lo1 a y mg ac bc out ia ib) (Oc7 b cmp a y (n+1) st) t:=by
 have h1:=L.ia;have h2:=L.ib;have M:=L.mg;rw[V5 (a:=y) (i:=ib) (by omega)] at M;have mk:y[ib]∈b.toList:=M.mb A5;unfold lo1;refine A3 (D4 ?_);have hs:=hs.gal mg;rw[elem'_eq,getElem?_pos y ib h2];refine A3 (A2 (A3 (ty0 C (hs.kd.trans hk) mk (a.toList.drop ia) (λi hi=>?_) (by simp) (λx hx=>⟨M.ma hx,M.ne hx A5⟩) (by have:=M.sa;rw[List.pairwise_append] at this;exact this.2.1) (by omega) λl1 l2 h hb ha=>?_)))
 ·rw[List.getElem?_drop]
  simp
 ·dsimp only
  obtain⟨x1,x2⟩:=gf0 (out:=out) h;have M0:=M;rw[h] at M;have M3:=Mg.move C.tr M hb;rw[← x1,← x2,← V5 (a:=y) h2] at M3;have J:(a.toList.drop ia).length=(l1++l2).length:=by rw[h]
  rw[List.length_drop,List.length_append,Array.length_toList] at J;split
  ·rename_i hz
   split
   ·rename_i e2
    exact A2 ⟨hs,qc0 hl M3 (by simpa using e2)⟩
   ·split
    ·rename_i e2
     exact A2 ⟨hs,pr0 M3 (.inl (by simpa using e2))⟩
    ·rename_i e1 e2
     have e3:ia+l1.length+1<a.size:=by
      have:=U6 e2;have:=U6 e1;omega
     refine j60 C hk hl hs ⟨M3,e3,h2,by rw[← Array.length_toList,x1,List.length_append,Array.length_toList];have:=L.n;omega⟩ λz F=>ha z ?_
     rw[← x2,V5 (a:=a) (i:=ia+l1.length) (by omega)];rw[getElem?_pos a _ (by omega)] at F;cases F;exact A5
  ·rename_i hz
   have:l1=[]:=L7 (by omega);subst this;rw[List.nil_append] at h;refine j60 C hk hl hs L λz F=>ha z ?_
   rw[← h,V5 (a:=a) (i:=ia) (by omega)];rw[getElem?_pos a _ (by omega)] at F;cases F;exact A5
theorem Lo.le{out:Array Keyed}(h:Lo b cmp a y n out ia ib)(k:m<=n):Lo b cmp a y m out ia ib:=⟨h.mg,h.ia,h.ib,C0 k h.n⟩
theorem Lo.lt{out:Array Keyed}(h:Lo b cmp a y n out ia ib):n<a.size+y.size:=by
 have h1:=h.mg.pm.length_eq;have h2:=h.ia;have h3:=h.ib;have h4:=h.n;simp only[List.length_append,List.length_drop,Array.length_toList] at h1;omega
include hl C hk in
theorem mergeLo(h0:0<y.size)(h1:0<a.size)(M:Mg b cmp (a.toList++y.toList) [y[0]] a.toList (y.toList.drop 1)){Q:Array Keyed->SortSt->Prop}
  (k:∀r t,Sm st t->Md cmp (a.toList++y.toList) r.toList->Q r t):wpS (model P w) A E s (uz0 a y) Q st:=by
 rw[ov0];refine A3 (L5 (E2 ⟨rfl,?_⟩));rw[elem'_eq,getElem?_pos y 0 h0];refine A3 (A2 ?_);dsimp only;have M':Mg b cmp (a.toList++y.toList) (#[y[0]]:Array Keyed).toList (a.toList.drop 0) (y.toList.drop 1):=M
 by_cases e1:(1==y.size)=true
 ·rw[if_pos e1]
  exact A2 (k _ _ (Sm.refl st) (pr0 (ia:=0) (ib:=1) M' (.inr (by simpa using e1))))
 rw[if_neg e1]
 by_cases e2:(0+1==a.size)=true
 ·rw[if_pos e2]
  exact A2 (k _ _ (Sm.refl st) (qc0 hl (ia:=0) (ib:=1) M' (by simpa using e2)))
 rw[if_neg e2];have L0:Lo b cmp a y (1+0) #[y[0]] 0 1:=⟨M',by have:=U6 e2;omega,by have:=U6 e1;omega,A4 1⟩;refine A3 (D1 ?_);refine A3 (B6 (C2 (I:=λx c t=>Sm st t/\c.1=none/\Lo b cmp a y (1+x) c.2.1 c.2.2.1 c.2.2.2.1)
  (Q:=λc t=>Sm st t/\∃r,c.1=some r/\Md cmp (a.toList++y.toList) r.toList) (λx c t _ hx hI=>?_) (λc t hI=>?_) ⟨Sm.refl st,rfl,L0⟩) λc t hI=>?_)
 ·obtain⟨hs,_,L⟩:=hI
  refine A3 (B6 (C2 (I:=λx' c t=>Sm st t/\c.1=none/\Lo b cmp a y (1+x+x') c.2.1 c.2.2.1 c.2.2.2.1)
   (Q:=λc t=>Sm st t/\Oc b cmp a y (1+x) c.1 c.2.1 c.2.2.1 c.2.2.2.1) (λx' c' t _ S hI=>?_) (λc t hI=>?_) ⟨hs,rfl,L⟩) λc' t hI=>?_)
  ·obtain⟨o,F,ia,ib,ac,bc⟩:=c'
   obtain⟨hs,_,L⟩:=hI;have L:Lo b cmp a y (1+x+x') F ia ib:=L;dsimp only;have h1:=L.ia;have h2:=L.ib;have M:=L.mg;have J:ia<a.size:=by omega
   rw[V5 (a:=a) (i:=ia) J,V5 (a:=y) (i:=ib) h2] at M;have m1:a[ia]∈b.toList:=M.ma A5;have m2:y[ib]∈b.toList:=M.mb A5;rw[elem'_eq,getElem?_pos y ib h2,elem'_eq,getElem?_pos a ia J];refine A3 (A2 (A3 (A2 (A3 (C.ask _ _ _ _ (hs.kd.trans hk) m2 m1 ?_)))));dsimp only;cases hc:cmp y[ib] a[ia] with
   | true =>
    have M2:=(Mg.move C.tr (l1:=[y[ib]]) (l2:=y.toList.drop (ib+1)) M.flip λx hx=>by
     rw[List.mem_singleton] at hx;subst hx;exact hc).flip
    rw[← V5 (a:=a) (i:=ia) J,← Array.toList_push] at M2;rw[if_pos rfl];refine A3 (A2 ?_)
    by_cases e:(ib+1==y.size)=true
    ·rw[if_pos e]
     exact A2 ⟨hs,pr0 M2 (.inr (by simpa using e))⟩
    ·rw[if_neg e]
     have L2:Lo b cmp a y (1+x+(x'+1)) (F.push y[ib]) ia (ib+1):=⟨M2,h1,by have:=U6 e;omega,by rw[Array.size_push];have:=L.n;omega⟩
     by_cases g:bc+1 ≥ c.2.2.2.2
     ·rw[if_pos g]
      exact A2 ⟨hs,L2.le (by omega)⟩
     ·rw[if_neg g]
      exact A2 ⟨hs,rfl,L2⟩
   | false =>
    have M2:=Mg.move C.tr (l1:=[a[ia]]) (l2:=a.toList.drop (ia+1)) M λx hx=>by
     rw[List.mem_singleton] at hx;subst hx;exact C.to _ m1 _ m2 (M.ne A5 A5) hc
    rw[← V5 (a:=y) (i:=ib) h2,← Array.toList_push] at M2;rw[if_neg (by decide)];refine A3 (A2 ?_)
    by_cases e:(ia+1+1==a.size)=true
    ·rw[if_pos e]
     exact A2 ⟨hs,qc0 hl M2 (by simpa using e)⟩
    ·rw[if_neg e]
     have L2:Lo b cmp a y (1+x+(x'+1)) (F.push a[ia]) (ia+1) ib:=⟨M2,by have:=U6 e;omega,h2,by rw[Array.size_push];have:=L.n;omega⟩
     by_cases g:ac+1 ≥ c.2.2.2.2
     ·rw[if_pos g]
      exact A2 ⟨hs,L2.le (by omega)⟩
     ·rw[if_neg g]
      exact A2 ⟨hs,rfl,L2⟩
  ·obtain⟨o,F,ia,ib,ac,bc⟩:=c
   obtain⟨hs,e,L⟩:=hI;cases e;exact⟨hs,L.le (by omega)⟩
  ·obtain⟨o,F,ia,ib,ac,bc⟩:=c'
   obtain⟨hs,O⟩:=hI;cases o with
   | some r=>exact A2 ⟨hs,r,rfl,O⟩
   | none =>
    have L:Lo b cmp a y (1+x) F ia ib:=O;dsimp only;refine A3 (L5 (E2 ⟨rfl,?_⟩));refine A3 (B6 (C2 (I:=λx' c t=>Sm st t/\c.1=none/\Lo b cmp a y (1+x+x') c.2.1 c.2.2.1 c.2.2.2.1)
     (Q:=λc t=>Sm st t/\Oc b cmp a y (1+x+1) c.1 c.2.1 c.2.2.1 c.2.2.2.1) (λx' c' t _ S hI=>?_) (λc t hI=>?_) ⟨hs,rfl,L⟩) λc' t hI=>?_)
    ·obtain⟨o,F,ia,ib,mg,ac,bc⟩:=c'
     obtain⟨hs,_,L⟩:=hI;have go:∀(mg:Nat) (r:ForInStep St7) (t':SortSt),Oc7 b cmp a y (1+x+x'+1) st r t'->match r with|.done c=>Sm st t'/\Oc b cmp a y (1+x+1) c.1 c.2.1 c.2.2.1 c.2.2.2.1|.yield c=>Sm st t'/\c.1=none/\Lo b cmp a y (1+x+(x'+1)) c.2.1 c.2.2.1 c.2.2.2.1:=λmg r t' h=>by
      cases r with
      | yield c=>exact⟨h.1,h.2⟩
      | done c =>
       obtain⟨o,F,ia,ib,mg,ac,bc⟩:=c;refine⟨h.1,?_⟩;cases o with
       | some r=>exact h.2
       | none=>exact Lo.le h.2 (by omega)
     dsimp only
     by_cases hg:mg > 1
     ·rw[if_pos hg]
      show wpS (model P w) A E s (lo1 a y (mg - 1) ac bc F ia ib) _ t;refine B6 (ly0 C hk hl (mg:=mg - 1) (ac:=ac) (bc:=bc) hs L) λr t' h=>?_
      have:=go mg r t' h;cases r<;>exact this
     ·rw[if_neg hg]
      show wpS (model P w) A E s (lo1 a y mg ac bc F ia ib) _ t;refine B6 (ly0 C hk hl (mg:=mg) (ac:=ac) (bc:=bc) hs L) λr t' h=>?_
      have:=go mg r t' h;cases r<;>exact this
    ·obtain⟨o,F,ia,ib,mg,ac,bc⟩:=c
     obtain⟨hs,e,L⟩:=hI;cases e;exact⟨hs,L.le (by omega)⟩
    ·obtain⟨o,F,ia,ib,mg,ac,bc⟩:=c'
     obtain⟨hs,O⟩:=hI;cases o with
     | some r=>exact A2 ⟨hs,r,rfl,O⟩
     | none=>exact A3 (D4 (A2 ⟨hs.gal _,rfl,O⟩))
 ·exact absurd hI.2.2.lt (by omega)
 ·obtain⟨o,F,ia,ib,mg⟩:=c
  obtain⟨hs,r,e,O⟩:=hI;cases e;exact A2 (k _ _ hs O)
end
end
theorem n80(a b:Array Keyed):uo0 a b=(do
 rule "list.sort.merge-hi"
 let total:=a.size+b.size
 let done (out:Array Keyed) (na nb:Nat):=a.extract 0 na++b.extract 0 nb++out.reverse
 let firstOfB (out:Array Keyed) (na nb:Nat):=b.extract 0 nb++a.extract 0 na++out.reverse
 let mut na:=a.size - 1
 let mut nb:=b.size
 let mut out:Array Keyed:=#[← elem' a na]
 if na==0 then return done out na nb
 if nb==1 then return firstOfB out na nb
 let mut minGallop:=gallopOf (← get)
 for _ in [0:total] do
  let mut acount:=0
  let mut bcount:=0
  for _ in [0:total] do
   let some aWins ← lt' (← elem' b (nb - 1)) (← elem' a (na - 1))|return done out na nb
   if aWins then
    na:=na - 1;out:=out.push (← elem' a na);acount:=acount+1;bcount:=0
    if na==0 then return done out na nb
    if acount ≥ minGallop then break
   else
    nb:=nb - 1;out:=out.push (← elem' b nb);bcount:=bcount+1;acount:=0
    if nb==1 then return firstOfB out na nb
    if bcount ≥ minGallop then break
  rule "list.sort.gallop"
  minGallop:=minGallop+1
  for _ in [0:total] do
   if minGallop > 1 then minGallop:=minGallop - 1
   modify λs=>z00 s minGallop
   let some at_ ← O5 false (← elem' b (nb - 1)) a 0 na (na - 1)|return done out na nb
   let k:=na - at_
   acount:=k
   if k > 0 then
    out:=out++(a.extract at_ na).reverse;na:=at_
    if na==0 then return done out na nb
   nb:=nb - 1;out:=out.push (← elem' b nb)
   if nb==1 then return firstOfB out na nb
   let some at_ ← O5 true (← elem' a (na - 1)) b 0 nb (nb - 1)|return done out na nb
   let k:=nb - at_
   bcount:=k
   if k > 0 then
    out:=out++(b.extract at_ nb).reverse;nb:=at_
    if nb==1 then return firstOfB out na nb
    if nb==0 then return done out na nb
   na:=na - 1;out:=out.push (← elem' a na)
   if na==0 then return done out na nb
   if acount<7&&bcount<7 then break
  minGallop:=minGallop+1
  modify λs=>z00 s minGallop
 unsupported "internal:list.sort.merge-bound"):=rfl
section
variable{P:Program}{w:World}{s:Shared}{b:Array Keyed}{κ:SortKind}{cmp:Keyed->Keyed->Bool}
def vm(cmp:Keyed->Keyed->Bool)(x y:Keyed):Bool:=cmp y x
def rt(c:Array Keyed)(n:Nat):List Keyed:=(c.toList.take n).reverse
theorem R6{c:Array Keyed}(h:0<n)(h':n<=c.size):rt c n=c[n - 1]::rt c (n - 1):=by
 obtain⟨m,rfl⟩:∃m,n=m+1:=⟨n - 1,by omega⟩;unfold rt;rw[List.take_succ,List.reverse_append];simp[show m<c.size by omega]
theorem bq0{c:Array Keyed}{x:Keyed}(h:x∈rt c n):x∈c.toList:=i4 (P9.mp h)
theorem ge0{c out:Array Keyed}{l1 l2:List Keyed}(h:c.toList.take n=l1++l2)(hn:n<=c.size):(out++(c.extract l1.length n).reverse).toList=out.toList++l2.reverse/\rt c l1.length=l1.reverse/\l1.length+l2.length=n/\rt c n=l2.reverse++l1.reverse:=by
 have e:=C1 List.length h;rw[List.length_take,List.length_append,Array.length_toList] at e;refine⟨?_,?_,by omega,?_⟩
 ·rw[Array.toList_append,Array.toList_reverse,Array.toList_extract]
  simp only[List.extract_eq_take_drop];rw[← List.drop_take,h,List.drop_left]
 ·unfold rt
  have:c.toList.take l1.length=(c.toList.take n).take l1.length:=by rw[List.take_take,Nat.min_eq_left (by omega)]
  rw[this,h,List.take_left]
 ·unfold rt
  rw[h,List.reverse_append]
theorem Md.rev{T r:List Keyed}(h:Md (vm cmp) T r.reverse):Md cmp T r:=⟨r.reverse_perm.symm.trans h.pm,X0.mp h.so⟩
def hiD(a y out:Array Keyed)(na nb:Nat):Array Keyed:=a.extract 0 na++y.extract 0 nb++out.reverse
def hiF(a y out:Array Keyed)(na nb:Nat):Array Keyed:=y.extract 0 nb++a.extract 0 na++out.reverse
abbrev Sv7:=Option (Array Keyed)×Nat×Nat×Array Keyed×Nat×Nat×Nat
def hi3(a y:Array Keyed)(mg ac bc:Nat)(out:Array Keyed)(na nb:Nat):StateT SortSt Sem (ForInStep Sv7):=do
 let x ← elem' a (na - 1)
 if (na - 1==0)=true then pure (.done (some (hiD a y (out.push x) (na - 1) nb),na - 1,nb,out.push x,mg,ac,bc))
 else if (decide (ac<7)&&decide (bc<7))=true then pure (.done (none,na - 1,nb,out.push x,mg,ac,bc))
 else pure (.yield (none,na - 1,nb,out.push x,mg,ac,bc))
def hi2(a y:Array Keyed)(mg ac bc:Nat)(out:Array Keyed)(na nb:Nat):StateT SortSt Sem (ForInStep Sv7):=do
 let x ← elem' y (nb - 1)
 if (nb - 1==1)=true then pure (.done (some (hiF a y (out.push x) na (nb - 1)),na,nb - 1,out.push x,mg,ac,bc))
 else do
  let z ← elem' a (na - 1)
  let __x ← O5 true z y 0 (nb - 1) (nb - 1 - 1)
  match __x with
  | some k =>
   if nb - 1 - k > 0 then
    if (k==1)=true then pure (.done (some (hiF a y (out.push x++(y.extract k (nb - 1)).reverse) na k),na,k,out.push x++(y.extract k (nb - 1)).reverse,mg,ac,nb - 1 - k))
    else if (k==0)=true then pure (.done (some (hiD a y (out.push x++(y.extract k (nb - 1)).reverse) na k),na,k,out.push x++(y.extract k (nb - 1)).reverse,mg,ac,nb - 1 - k))
    else hi3 a y mg ac (nb - 1 - k) (out.push x++(y.extract k (nb - 1)).reverse) na k
   else hi3 a y mg ac (nb - 1 - k) (out.push x) na (nb - 1)
  | x'=>pure (.done (some (hiD a y (out.push x) na (nb - 1)),na,nb - 1,out.push x,mg,ac,bc))
def hi1(a y:Array Keyed)(mg ac bc:Nat)(out:Array Keyed)(na nb:Nat):StateT SortSt Sem (ForInStep Sv7):=do
 modify λs=>z00 s mg
 let x ← elem' y (nb - 1)
 let __x ← O5 false x a 0 na (na - 1)
 match __x with
 | some k =>
  if na - k > 0 then
   if (k==0)=true then pure (.done (some (hiD a y (out++(a.extract k na).reverse) k nb),k,nb,out++(a.extract k na).reverse,mg,na - k,bc))
   else hi2 a y mg (na - k) bc (out++(a.extract k na).reverse) k nb
  else hi2 a y mg (na - k) bc out na nb
 | x'=>pure (.done (some (hiD a y out na nb),na,nb,out,mg,ac,bc))
structure Hi(b:Array Keyed)(cmp:Keyed->Keyed->Bool)(a y:Array Keyed)(n:Nat)(out:Array Keyed)(na nb:Nat):Prop where
 mg:Mg b (vm cmp) (a.toList++y.toList) out.toList (rt a na) (rt y nb)
 na':na<=a.size
 nb':nb<=y.size
 na:0<na
 nb:1<nb
 n:n<=out.size
def Ov(b:Array Keyed)(cmp:Keyed->Keyed->Bool)(a y:Array Keyed)(n:Nat)(o:Option (Array Keyed))(out:Array Keyed)(na nb:Nat):Prop :=
 match o with
 | some r=>Md cmp (a.toList++y.toList) r.toList
 | none=>Hi b cmp a y n out na nb
def Ov7(b:Array Keyed)(cmp:Keyed->Keyed->Bool)(a y:Array Keyed)(n:Nat)(st:SortSt)(r:ForInStep Sv7)(t:SortSt):Prop :=
 Sm st t/\match r with
 | .done c=>Ov b cmp a y n c.1 c.2.2.2.1 c.2.1 c.2.2.1
 | .yield c=>c.1=none/\Hi b cmp a y n c.2.2.2.1 c.2.1 c.2.2.1
variable{a y:Array Keyed}(C:Cn P w A E s b κ cmp){st t:SortSt}(hk:kindOf st=κ)(hl:∀z∈a.toList,∀x,y[0]?=some x->cmp x z=true)
include C in
theorem vtr:∀x∈b.toList,∀y∈b.toList,∀z∈b.toList,vm cmp x y=true->vm cmp y z=true->vm cmp x z=true:=λx hx y hy z hz h1 h2=>C.tr z hz y hy x hx h2 h1
theorem dp0{out:Array Keyed}{nb:Nat}:(hiD a y out na nb).toList.reverse=out.toList++rt y nb++rt a na:=by
 unfold hiD rt;simp
theorem ck0{out:Array Keyed}{nb:Nat}:(hiF a y out na nb).toList.reverse=out.toList++rt a na++rt y nb:=by
 unfold hiF rt;simp
include hl in
theorem to0{out:Array Keyed}{nb:Nat}(M:Mg b (vm cmp) (a.toList++y.toList) out.toList (rt a na) (rt y nb))(h:nb=1)(hy:0<y.size):Md cmp (a.toList++y.toList) (hiF a y out na nb).toList:=by
 refine Md.rev ?_;rw[ck0];subst h;have e:=R6 (c:=y) (n:=1) (by omega) (by omega);rw[show rt y (1 - 1)=[] from rfl] at e;rw[e] at M ⊢;exact M.flip.last λz hz=>hl z (bq0 hz) _ (C5 y 0 hy)
theorem pb0{out:Array Keyed}{nb:Nat}(M:Mg b (vm cmp) (a.toList++y.toList) out.toList (rt a na) (rt y nb))(h:na=0∨nb=0):Md cmp (a.toList++y.toList) (hiD a y out na nb).toList:=by
 refine Md.rev ?_;rw[dp0];rcases h with rfl|rfl
 ·rw[show rt a 0=[] from rfl] at M ⊢
  rw[List.append_nil];exact M.endB
 ·rw[show rt y 0=[] from rfl] at M ⊢
  rw[List.append_nil];exact M.endA
include C in
theorem kq0{mg:Nat}{out:Array Keyed}{nb:Nat}(hs:Sm st t)(L:Hi b cmp a y n out na nb)(hc:∀x z,a[na - 1]?=some x->y[nb - 1]?=some z->cmp z x=true):wpS (model P w) A E s (hi3 a y mg ac bc out na nb) (Ov7 b cmp a y (n+1) st) t:=by
 have h1:=L.na;have J:=L.na';have h2:=L.nb;have F:=L.nb';have M:=L.mg;rw[R6 (c:=a) h1 J,R6 (c:=y) (n:=nb) (by omega) F] at M;have M2:=Mg.move (vtr C) (l1:=[a[na - 1]]) (l2:=rt a (na - 1)) M λx hx=>by
  rw[List.mem_singleton] at hx;subst hx;exact hc _ _ (C5 a (na - 1) (by omega)) (C5 y (nb - 1) (by omega))
 rw[← R6 (c:=y) (n:=nb) (by omega) F,← Array.toList_push] at M2;unfold hi3;rw[elem'_eq,getElem?_pos a (na - 1) (by omega)];refine A3 (A2 ?_);split
 ·rename_i e
  exact A2 ⟨hs,pb0 M2 (.inl (by simpa using e))⟩
 ·rename_i e
  have L2:Hi b cmp a y (n+1) (out.push a[na - 1]) (na - 1) nb:=⟨M2,by omega,F,by have:=U6 e;omega,h2,by rw[Array.size_push];have:=L.n;omega⟩;split
  ·exact A2 ⟨hs,L2⟩
  ·exact A2 ⟨hs,rfl,L2⟩
include hl C hk in
theorem k00{mg:Nat}{out:Array Keyed}{nb:Nat}(hs:Sm st t)(L:Hi b cmp a y n out na nb)(hc:∀x z,a[na - 1]?=some x->y[nb - 1]?=some z->cmp x z=true):wpS (model P w) A E s (hi2 a y mg ac bc out na nb) (Ov7 b cmp a y (n+1) st) t:=by
 have h1:=L.na;have F:=L.na';have h2:=L.nb;have O:=L.nb';have M:=L.mg;rw[R6 (c:=a) h1 F,R6 (c:=y) (n:=nb) (by omega) O] at M;have M2:=(Mg.move (vtr C) (l1:=[y[nb - 1]]) (l2:=rt y (nb - 1)) M.flip λx hx=>by
  rw[List.mem_singleton] at hx;subst hx;exact hc _ _ (C5 a (na - 1) (by omega)) (C5 y (nb - 1) (by omega))).flip
 have mk:a[na - 1]∈b.toList:=M.ma A5;rw[← Array.toList_push] at M2;unfold hi2;rw[elem'_eq,getElem?_pos y (nb - 1) (by omega)];refine A3 (A2 ?_);split
 ·rename_i e
  rw[← R6 (c:=a) h1 F] at M2;exact A2 ⟨hs,to0 hl M2 (by simpa using e) (by omega)⟩
 ·rename_i e
  have e':=U6 e;rw[elem'_eq,getElem?_pos a (na - 1) (by omega)];refine A3 (A2 (A3 (ty0 C (hs.kd.trans hk) mk (y.toList.take (nb - 1)) (λi hi=>?_) (by rw[List.length_take,Array.length_toList];omega) (λx hx=>?_) ?_ (by omega) λl1 l2 h hb ha=>?_)))
  ·rw[Nat.zero_add,List.getElem?_take_of_lt hi]
   simp
  ·have hx:x∈rt y (nb - 1):=P9.mpr hx
   exact⟨M2.mb hx,λz=>M2.ne A5 hx z.symm⟩
  ·have:=M2.sb
   rw[List.pairwise_append] at this;exact X0.mp this.2.1
  ·dsimp only
   obtain⟨x1,x2,x3,x4⟩:=ge0 (out:=out.push y[nb - 1]) h (by omega);rw[x4] at M2;have M3:=(Mg.move (vtr C) M2.flip λx hx=>ha x (P9.mp hx)).flip;rw[← x1,← x2,← R6 (c:=a) h1 F] at M3;split
   ·rename_i hz
    split
    ·rename_i e2
     exact A2 ⟨hs,to0 hl M3 (by simpa using e2) (by omega)⟩
    ·split
     ·rename_i e2
      exact A2 ⟨hs,pb0 M3 (.inr (by simpa using e2))⟩
     ·rename_i e2 e3
      have e2:=U6 e2;have e3:=U6 e3;refine kq0 C hs ⟨M3,F,by omega,h1,by omega,by rw[← Array.length_toList,x1,List.length_append,Array.length_toList,Array.size_push];have:=L.n;omega⟩ λx z hx J=>?_
      rw[getElem?_pos a (na - 1) (by omega)] at hx;cases hx;refine hb z ?_;rw[getElem?_pos y _ (by omega)] at J;cases J;rw[← List.mem_reverse,← x2,R6 (by omega) (by omega)];exact A5
   ·rename_i hz
    have:l2=[]:=L7 (by omega);subst this;rw[← x4,← R6 (c:=a) h1 F] at M2;refine kq0 C hs ⟨M2,F,by omega,h1,by omega,by rw[Array.size_push];have:=L.n;omega⟩ λx z hx J=>?_
    rw[getElem?_pos a (na - 1) (by omega)] at hx;cases hx;refine hb z ?_;rw[getElem?_pos y _ (by omega)] at J;cases J;rw[← List.mem_reverse,← x2,show l1.length=nb - 1 from x3,R6 (by omega) (by omega)];exact A5
include hl C hk in
theorem kd0{mg:Nat}{out:Array Keyed}{nb:Nat}(hs:Sm st t)(L:Hi b cmp a y n out na nb):wpS (model P w) A E s (hi1 a y mg ac bc out na nb) (Ov7 b cmp a y (n+1) st) t:=by
 have h1:=L.na;have O:=L.na';have h2:=L.nb;have J:=L.nb';have M:=L.mg;rw[R6 (c:=y) (n:=nb) (by omega) J] at M;have mk:y[nb - 1]∈b.toList:=M.mb A5;unfold hi1;refine A3 (D4 ?_);have hs:=hs.gal mg;rw[elem'_eq,getElem?_pos y (nb - 1) (by omega)];refine A3 (A2 (A3 (ty0 C (hs.kd.trans hk) mk (a.toList.take na) (λi hi=>?_) (by rw[List.length_take,Array.length_toList];omega) (λx hx=>?_) ?_ (by omega) λl1 l2 h hb ha=>?_)))
 ·rw[Nat.zero_add,List.getElem?_take_of_lt hi]
  simp
 ·have hx:x∈rt a na:=P9.mpr hx
  exact⟨M.ma hx,M.ne hx A5⟩
 ·have:=M.sa
  rw[List.pairwise_append] at this;exact X0.mp this.2.1
 ·dsimp only
  obtain⟨x1,x2,x3,x4⟩:=ge0 (out:=out) h (by omega);rw[x4] at M;have M3:=Mg.move (vtr C) M λx hx=>ha x (P9.mp hx)
  rw[← x1,← x2,← R6 (c:=y) (n:=nb) (by omega) J] at M3;split
  ·rename_i hz
   split
   ·rename_i e2
    exact A2 ⟨hs,pb0 M3 (.inl (by simpa using e2))⟩
   ·rename_i e2
    have e2:=U6 e2;refine k00 C hk hl hs ⟨M3,by omega,J,by omega,h2,by rw[← Array.length_toList,x1,List.length_append,Array.length_toList];have:=L.n;omega⟩ λx z hx F=>?_
    rw[getElem?_pos y (nb - 1) (by omega)] at F;cases F;refine hb x ?_;rw[getElem?_pos a _ (by omega)] at hx;cases hx;rw[← List.mem_reverse,← x2,R6 (by omega) (by omega)];exact A5
  ·rename_i hz
   have:l2=[]:=L7 (by omega);subst this;refine k00 C hk hl hs L λx z hx F=>?_
   rw[getElem?_pos y (nb - 1) (by omega)] at F;cases F;refine hb x ?_;rw[getElem?_pos a _ (by omega)] at hx;cases hx;rw[← List.mem_reverse,← x2,show l1.length=na from x3,R6 (by omega) (by omega)];exact A5
theorem Hi.le{out:Array Keyed}{nb:Nat}(h:Hi b cmp a y n out na nb)(k:m<=n):Hi b cmp a y m out na nb:=⟨h.mg,h.na',h.nb',h.na,h.nb,C0 k h.n⟩
theorem Hi.lt{out:Array Keyed}{nb:Nat}(h:Hi b cmp a y n out na nb):n<a.size+y.size:=by
 have h1:=h.mg.pm.length_eq;have h2:=h.na;have F:=h.na';have h3:=h.nb;have h4:=h.n;unfold rt at h1;simp only[List.length_append,List.length_reverse,List.length_take,Array.length_toList] at h1;omega
include hl C hk in
theorem mergeHi(h0:0<y.size)(h1:0<a.size)(M:Mg b (vm cmp) (a.toList++y.toList) [a[a.size - 1]] (rt a (a.size - 1)) (rt y y.size)){Q:Array Keyed->SortSt->Prop}
  (k:∀r t,Sm st t->Md cmp (a.toList++y.toList) r.toList->Q r t):wpS (model P w) A E s (uo0 a y) Q st:=by
 rw[n80];refine A3 (L5 (E2 ⟨rfl,?_⟩));dsimp only;rw[elem'_eq,getElem?_pos a (a.size - 1) (by omega)];refine A3 (A2 ?_);have M':Mg b (vm cmp) (a.toList++y.toList) (#[a[a.size - 1]]:Array Keyed).toList (rt a (a.size - 1)) (rt y y.size):=M
 by_cases e1:(a.size - 1==0)=true
 ·rw[if_pos e1]
  exact A2 (k _ _ (Sm.refl st) (pb0 (nb:=y.size) M' (.inl (by simpa using e1))))
 rw[if_neg e1]
 by_cases e2:(y.size==1)=true
 ·rw[if_pos e2]
  exact A2 (k _ _ (Sm.refl st) (to0 hl (nb:=y.size) M' (by simpa using e2) h0))
 rw[if_neg e2];have L0:Hi b cmp a y (1+0) #[a[a.size - 1]] (a.size - 1) y.size:=⟨M',by omega,A4 _,by have:=U6 e1;omega,by have:=U6 e2;omega,A4 1⟩;refine A3 (D1 ?_);refine A3 (B6 (C2 (I:=λx c t=>Sm st t/\c.1=none/\Hi b cmp a y (1+x) c.2.2.2.1 c.2.1 c.2.2.1)
  (Q:=λc t=>Sm st t/\∃r,c.1=some r/\Md cmp (a.toList++y.toList) r.toList) (λx c t _ hx hI=>?_) (λc t hI=>?_) ⟨Sm.refl st,rfl,L0⟩) λc t hI=>?_)
 ·obtain⟨hs,_,L⟩:=hI
  refine A3 (B6 (C2 (I:=λx' c t=>Sm st t/\c.1=none/\Hi b cmp a y (1+x+x') c.2.2.2.1 c.2.1 c.2.2.1)
   (Q:=λc t=>Sm st t/\Ov b cmp a y (1+x) c.1 c.2.2.2.1 c.2.1 c.2.2.1) (λx' c' t _ U hI=>?_) (λc t hI=>?_) ⟨hs,rfl,L⟩) λc' t hI=>?_)
  ·obtain⟨o,na,nb,F,ac,bc⟩:=c'
   obtain⟨hs,_,L⟩:=hI;have L:Hi b cmp a y (1+x+x') F na nb:=L;dsimp only;have h1:=L.na;have S:=L.na';have h2:=L.nb;have J:=L.nb';have M:=L.mg;rw[R6 (c:=a) h1 S,R6 (c:=y) (n:=nb) (by omega) J] at M;have m1:a[na - 1]∈b.toList:=M.ma A5;have m2:y[nb - 1]∈b.toList:=M.mb A5;rw[elem'_eq,getElem?_pos y (nb - 1) (by omega),elem'_eq,getElem?_pos a (na - 1) (by omega)];refine A3 (A2 (A3 (A2 (A3 (C.ask _ _ _ _ (hs.kd.trans hk) m2 m1 ?_)))));dsimp only;cases hc:cmp y[nb - 1] a[na - 1] with
   | true =>
    have M2:=Mg.move (vtr C) (l1:=[a[na - 1]]) (l2:=rt a (na - 1)) M λx hx=>by
     rw[List.mem_singleton] at hx;subst hx;exact hc
    rw[← R6 (c:=y) (n:=nb) (by omega) J,← Array.toList_push] at M2;rw[if_pos rfl];refine A3 (A2 ?_)
    by_cases e:(na - 1==0)=true
    ·rw[if_pos e]
     exact A2 ⟨hs,pb0 M2 (.inl (by simpa using e))⟩
    ·rw[if_neg e]
     have L2:Hi b cmp a y (1+x+(x'+1)) (F.push a[na - 1]) (na - 1) nb:=⟨M2,by omega,J,by have:=U6 e;omega,h2,by rw[Array.size_push];have:=L.n;omega⟩
     by_cases g:ac+1 ≥ c.2.2.2.2
     ·rw[if_pos g]
      exact A2 ⟨hs,L2.le (by omega)⟩
     ·rw[if_neg g]
      exact A2 ⟨hs,rfl,L2⟩
   | false =>
    have M2:=(Mg.move (vtr C) (l1:=[y[nb - 1]]) (l2:=rt y (nb - 1)) M.flip λx hx=>by
     rw[List.mem_singleton] at hx;subst hx;exact C.to _ m1 _ m2 (M.ne A5 A5) hc).flip
    rw[← R6 (c:=a) h1 S,← Array.toList_push] at M2;rw[if_neg (by decide)];refine A3 (A2 ?_)
    by_cases e:(nb - 1==1)=true
    ·rw[if_pos e]
     exact A2 ⟨hs,to0 hl M2 (by simpa using e) (by omega)⟩
    ·rw[if_neg e]
     have L2:Hi b cmp a y (1+x+(x'+1)) (F.push y[nb - 1]) na (nb - 1):=⟨M2,S,by omega,h1,by have:=U6 e;omega,by rw[Array.size_push];have:=L.n;omega⟩
     by_cases g:bc+1 ≥ c.2.2.2.2
     ·rw[if_pos g]
      exact A2 ⟨hs,L2.le (by omega)⟩
     ·rw[if_neg g]
      exact A2 ⟨hs,rfl,L2⟩
  ·obtain⟨o,na,nb,F,ac,bc⟩:=c
   obtain⟨hs,e,L⟩:=hI;cases e;exact⟨hs,L.le (by omega)⟩
  ·obtain⟨o,na,nb,F,ac,bc⟩:=c'
   obtain⟨hs,O⟩:=hI;cases o with
   | some r=>exact A2 ⟨hs,r,rfl,O⟩
   | none =>
    have L:Hi b cmp a y (1+x) F na nb:=O;dsimp only;refine A3 (L5 (E2 ⟨rfl,?_⟩));refine A3 (B6 (C2 (I:=λx' c t=>Sm st t/\c.1=none/\Hi b cmp a y (1+x+x') c.2.2.2.1 c.2.1 c.2.2.1)
     (Q:=λc t=>Sm st t/\Ov b cmp a y (1+x+1) c.1 c.2.2.2.1 c.2.1 c.2.2.1) (λx' c' t _ U hI=>?_) (λc t hI=>?_) ⟨hs,rfl,L⟩) λc' t hI=>?_)
    ·obtain⟨o,na,nb,F,mg,ac,bc⟩:=c'
     obtain⟨hs,_,L⟩:=hI;have go:∀(r:ForInStep Sv7) (t':SortSt),Ov7 b cmp a y (1+x+x'+1) st r t'->match r with|.done c=>Sm st t'/\Ov b cmp a y (1+x+1) c.1 c.2.2.2.1 c.2.1 c.2.2.1|.yield c=>Sm st t'/\c.1=none/\Hi b cmp a y (1+x+(x'+1)) c.2.2.2.1 c.2.1 c.2.2.1:=λr t' h=>by
      cases r with
      | yield c=>exact⟨h.1,h.2⟩
      | done c =>
       obtain⟨o,na,nb,F,mg,ac,bc⟩:=c;refine⟨h.1,?_⟩;cases o with
       | some r=>exact h.2
       | none=>exact Hi.le h.2 (by omega)
     dsimp only
     by_cases hg:mg > 1
     ·rw[if_pos hg]
      show wpS (model P w) A E s (hi1 a y (mg - 1) ac bc F na nb) _ t;refine B6 (kd0 C hk hl (mg:=mg - 1) (ac:=ac) (bc:=bc) hs L) λr t' h=>?_
      have:=go r t' h;cases r<;>exact this
     ·rw[if_neg hg]
      show wpS (model P w) A E s (hi1 a y mg ac bc F na nb) _ t;refine B6 (kd0 C hk hl (mg:=mg) (ac:=ac) (bc:=bc) hs L) λr t' h=>?_
      have:=go r t' h;cases r<;>exact this
    ·obtain⟨o,na,nb,F,mg,ac,bc⟩:=c
     obtain⟨hs,e,L⟩:=hI;cases e;exact⟨hs,L.le (by omega)⟩
    ·obtain⟨o,na,nb,F,mg,ac,bc⟩:=c'
     obtain⟨hs,O⟩:=hI;cases o with
     | some r=>exact A2 ⟨hs,r,rfl,O⟩
     | none=>exact A3 (D4 (A2 ⟨hs.gal _,rfl,O⟩))
 ·exact absurd hI.2.2.lt (by omega)
 ·obtain⟨o,na,nb,F,mg⟩:=c
  obtain⟨hs,r,e,O⟩:=hI;cases e;exact A2 (k _ _ hs O)
end
theorem n00(i:Nat):mergeAt' i=(do
 let s ← get
 let (some (sa,na,power),some (sb,nb,_)):=((pendingOf s)[i]?,(pendingOf s)[i+1]?)|unsupported "internal:list.sort.pending"
 set (setPending s (((pendingOf s).setIfInBounds i (sa,na+nb,power)).eraseIdxIfInBounds (i+1)))
 let some k ← O5 false (← elem' (arrOf s) sb) (arrOf s) sa na 0|return false
 let (sa,na):=(sa+k,na - k)
 if na==0 then return true
 let some nb ← O5 true (← elem' (arrOf s) (sa+na - 1)) (arrOf s) sb nb (nb - 1)|return false
 if nb==0 then return true
 let x:=(arrOf s).extract sa sb
 let y:=(arrOf s).extract sb (sb+nb)
 let merged ← if na<=nb then uz0 x y else uo0 x y
 modify λs=>setArr s (merged.toList.zipIdx.foldl (λa (p,j)=>a.setIfInBounds (sa+j) p) (arrOf s))
 return (failedOf (← get)).isNone):=rfl
theorem fo0{M:Model}{s:Shared}{σ:Type}{u:σ}{Q:PUnit->σ->Prop}{st:σ}(h:Q ⟨⟩ u):wpS M A E s (set u:StateT σ Sem PUnit) Q st:=by
 unfold wpS;rw[StateT.run_set];exact A1 ⟨rfl,h⟩
theorem put{sa:Nat}:∀(r:List Keyed) (n:Nat) (arr:Array Keyed) (Pr o S:List Keyed),arr.toList=Pr++o++S->o.length=r.length->Pr.length=sa+n->((r.zipIdx n).foldl (λa (p,j)=>a.setIfInBounds (sa+j) p) arr).toList=Pr++r++S
 | [],n,arr,Pr,o,S,h,ho,hp=>by
  rw[List.length_nil] at ho;rw[List.eq_nil_of_length_eq_zero ho] at h;exact h
 | p::r,n,arr,Pr,[],S,h,ho,hp=>by simp at ho
 | p::r,n,arr,Pr,q::o,S,h,ho,hp=>by
  rw[List.zipIdx_cons,List.foldl_cons];have e:(arr.setIfInBounds (sa+n) p).toList=(Pr++[p])++o++S:=by
   rw[Array.toList_setIfInBounds,h,← hp];simp
  rw[put r (n+1) _ (Pr++[p]) o S e (by simpa using ho) (by simp;omega)];simp
section
variable{P:Program}{w:World}{s:Shared}{b:Array Keyed}{κ:SortKind}{cmp:Keyed->Keyed->Bool}(C:Cn P w A E s b κ cmp){st:SortSt}
def Asc(cmp:Keyed->Keyed->Bool)(l:List Keyed):Prop:=l.Pairwise λx y=>cmp x y=true
theorem seg_at{arr:Array Keyed}{L0 l S:List Keyed}(h:arr.toList=L0++l++S)(hi:i<l.length):arr[L0.length+i]?=l[i]?:=by
 rw[← Array.getElem?_toList,h,List.append_assoc,List.getElem?_append_right (by omega),Nat.add_sub_cancel_left,List.getElem?_append_left hi]
theorem ky0{arr:Array Keyed}{L0 l S:List Keyed}(h:arr.toList=L0++l++S)(hi:i=L0.length)(hj:j=i+l.length):(arr.extract i j).toList=l:=by
 subst hj;rw[gv0,h,hi,List.append_assoc,List.drop_left,List.take_left]
include C in
theorem kc0(hg:Gn b κ st){sa pw sb nb pq:Nat}{L0 la lb S:List Keyed}(e1:(pendingOf st)[i]?=some (sa,na,pw))(e2:(pendingOf st)[i+1]?=some (sb,nb,pq))(h:(arrOf st).toList=L0++la++lb++S)
  (h0:sa=L0.length) (h1:na=la.length) (h2:sb=sa+na) (h3:nb=lb.length) (p1:0<na) (p2:0<nb) (s1:Asc cmp la) (s2:Asc cmp lb) {Q:Bool->SortSt->Prop}
  (k:∀t m,Gn b κ t->pendingOf t=((pendingOf st).setIfInBounds i (sa,na+nb,pw)).eraseIdxIfInBounds (i+1)->(arrOf t).toList=L0++m++S->m.length=na+nb->Asc cmp m->Q true t):wpS (model P w) A E s (mergeAt' i) Q st:=by
 rw[n00];refine A3 (D1 ?_);rw[e1,e2];dsimp only;refine A3 (fo0 ?_);obtain⟨u,hu⟩:∃u,u=setPending st (((pendingOf st).setIfInBounds i (sa,na+nb,pw)).eraseIdxIfInBounds (i+1)):=⟨_,rfl⟩;rw[← hu];have uk:kindOf u=κ:=by rw[hu];exact hg.kd
 have ua:arrOf u=arrOf st:=by rw[hu]
 have uf:failedOf u=none:=by rw[hu];exact hg.fa
 have up:pendingOf u=((pendingOf st).setIfInBounds i (sa,na+nb,pw)).eraseIdxIfInBounds (i+1):=by rw[hu]
 have hT:∀x∈L0++la++lb++S,x∈b.toList:=λx hx=>(N4.mp hg.pm).mem_iff.mp (by rw[h];exact hx)
 have hN:(L0++la++lb++S).Nodup:=by
  rw[← h];exact(N4.mp hg.pm).nodup_iff.mpr C.nd
 have ma:∀x∈la,x∈b.toList:=λx hx=>hT x (by simp[hx])
 have mb:∀x∈lb,x∈b.toList:=λx hx=>hT x (by simp[hx])
 have a7:(la++lb).Nodup:=by
  refine C20 ?_ hN;rw[List.append_assoc L0 la lb];exact(C30 L0 (la++lb)).trans (C40 _ S)
 have ne:∀x∈la,∀y∈lb,x≠y:=λx hx y hy=>(List.nodup_append.mp a7).2.2 x hx y hy
 obtain⟨b0,a6,eb⟩:∃b0 a6,lb=b0::a6:=by
  cases lb with
  | nil=>simp at h3;omega
  | cons x l=>exact⟨x,l,rfl⟩
 have a9:(arrOf st)[sb]?=some b0:=by
  have:=seg_at (arr:=arrOf st) (L0:=L0++la) (l:=lb) (S:=S) h (i:=0) (by omega);rw[List.length_append,Nat.add_zero,← h0,← h1,← h2,eb] at this;exact this
 have J:b0∈lb:=by rw[eb];exact A5
 rw[elem'_eq,a9];refine A3 (A2 (A3 (ty0 C uk (mb b0 J) la (λi hi=>?_) h1.symm (λx hx=>⟨ma x hx,ne x hx b0 J⟩) s1 p1 λl1 l2 hl hb ha=>?_)))
 ·have:=seg_at (arr:=arrOf st) (L0:=L0) (l:=la) (S:=lb++S) (by rw[h];simp) (i:=i) (by omega)
  rw[← h0] at this;exact this
 dsimp only;have b2:na=l1.length+l2.length:=by rw[h1,hl,List.length_append]
 have Z:Asc cmp (la++lb)->Q true u:=λz=>k _ (la++lb) ⟨uk,by rw[ua];exact hg.pm,uf⟩ up (by rw[ua,h];simp) (by rw[List.length_append,h1,h3]) z
 by_cases z1:(na - l1.length==0)=true
 ·rw[if_pos z1]
  have b6:na - l1.length=0:=by simpa using z1
  have:l2=[]:=L7 (by omega);subst this;rw[List.append_nil] at hl;subst hl;refine A2 (Z ?_);refine N9.mpr ⟨s1,s2,λx hx y hy=>?_⟩;rw[eb] at hy;rcases B3.mp hy with rfl|a0
  ·exact hb x hx
  ·rw[eb] at s2
   exact C.tr x (ma x hx) b0 (mb b0 J) y (mb y (by rw[eb];exact hy)) (hb x hx) (W1 s2 a0)
 rw[if_neg z1];have b5:=U6 z1;have x2:l2≠[]:=λz=>by rw[z,List.length_nil] at b2;omega
 have ml:l2.getLast x2∈l2:=List.getLast_mem x2;have F:∀x∈l2,x∈la:=λx hx=>by rw[hl];exact C8 _ hx
 have a8:∀x∈l1,x∈la:=λx hx=>by rw[hl];exact L8 _ hx
 have a3:(arrOf st)[sa+l1.length+(na - l1.length) - 1]?=some (l2.getLast x2):=by
  have:=seg_at (arr:=arrOf st) (L0:=L0++l1) (l:=l2) (S:=lb++S) (by rw[h,hl];simp) (i:=l2.length - 1) (by omega);rw[List.length_append,← h0,List.getElem?_eq_getElem (by omega),← List.getLast_eq_getElem x2] at this;rw[← this];congr 1;omega
 have o1:Asc cmp l1/\Asc cmp l2/\∀x∈l1,∀y∈l2,cmp x y=true:=by
  have:=s1;rw[hl] at this;exact N9.mp this
 rw[elem'_eq,a3];refine A3 (A2 (A3 (ty0 C uk (ma _ (F _ ml)) lb (λi hi=>?_) h3.symm (λx hx=>⟨mb x hx,λz=>ne _ (F _ ml) x hx z.symm⟩) s2 (by omega) λm1 m2 hm a4 U=>?_)))
 ·have:=seg_at (arr:=arrOf st) (L0:=L0++la) (l:=lb) (S:=S) h (i:=i) (by omega)
  rw[List.length_append,← h0,← h1,← h2] at this;exact this
 dsimp only;have c0:nb=m1.length+m2.length:=by rw[h3,hm,List.length_append]
 have b4:cmp b0 (l2.getLast x2)=true:=ha _ ml
 by_cases z2:(m1.length==0)=true
 ·exfalso
  have:m1=[]:=L7 (by simpa using z2);subst this;have:=U b0 (by rw[List.nil_append] at hm;rw[← hm];exact J);rw[C.as _ (mb b0 J) _ (ma _ (F _ ml)) b4] at this;cases this
 rw[if_neg z2];have b3:=U6 z2;have o2:Asc cmp m1/\Asc cmp m2/\∀x∈m1,∀y∈m2,cmp x y=true:=by
  have:=s2;rw[hm] at this;exact N9.mp this
 have a2:∀x∈m1,x∈lb:=λx hx=>by rw[hm];exact L8 _ hx
 have a1:∀x∈m2,x∈lb:=λx hx=>by rw[hm];exact C8 _ hx
 obtain⟨M,em⟩:∃M,m1=b0::M:=by
  cases m1 with
  | nil=>exact absurd rfl b3
  | cons x l =>
   rw[eb] at hm;injection hm with hm _
   exact⟨l,by rw[hm]⟩
 have ex:((arrOf st).extract (sa+l1.length) sb).toList=l2:=ky0 (L0:=L0++l1) (S:=lb++S) (by rw[h,hl];simp) (by rw[List.length_append,h0]) (by omega);have ey:((arrOf st).extract sb (sb+m1.length)).toList=m1:=ky0 (L0:=L0++la) (S:=m2++S) (by rw[h,hm];simp) (by rw[List.length_append,h2,h0,h1]) rfl;obtain⟨X,eX⟩:∃X,X=(arrOf st).extract (sa+l1.length) sb:=⟨_,rfl⟩;obtain⟨Y,eY⟩:∃Y,Y=(arrOf st).extract sb (sb+m1.length):=⟨_,rfl⟩;rw[← eX] at ex ⊢;rw[← eY] at ey ⊢;have sX:X.size=l2.length:=by rw[← ex,Array.length_toList]
 have sY:Y.size=m1.length:=by rw[← ey,Array.length_toList]
 have bl:∀x∈l1,∀y∈lb,cmp x y=true:=λx hx y hy=>by
  rw[eb] at hy;rcases B3.mp hy with rfl|a0
  ·exact hb x hx
  ·rw[eb] at s2
   exact C.tr x (ma x (a8 x hx)) b0 (mb b0 J) y (mb y (by rw[eb];exact hy)) (hb x hx) (W1 s2 a0)
 have b1:∀x∈l2,∀y∈m2,cmp x y=true:=λx hx y hy=>by
  rw[← List.dropLast_concat_getLast x2] at hx;rcases B8.mp hx with L|L
  ·have o:=o1.2.1
   rw[← List.dropLast_concat_getLast x2] at o;have:=(N9.mp o).2.2 x L _ (L6.mpr rfl);exact C.tr x (ma x (F x (List.dropLast_subset l2 L))) _ (ma _ (F _ ml)) y (mb y (a1 y hy)) this (U y hy)
  ·rw[List.mem_singleton] at L
   subst L;exact U y hy
 have fin:∀(r:Array Keyed) (t:SortSt),Sm u t->Md cmp (X.toList++Y.toList) r.toList->wpS (model P w) A E s (do
   modify λs=>setArr s (List.foldl (λa x=>a.setIfInBounds (sa+l1.length+x.snd) x.fst) (arrOf s) r.toList.zipIdx)
   let __do_lift ← get
   pure (failedOf __do_lift).isNone) Q t:=λr t hs hr=>by
  refine A3 (D4 (A3 (D1 (A2 ?_))));rw[ex,ey] at hr;have a5:r.toList.length=l2.length+m1.length:=by rw[hr.pm.length_eq,List.length_append]
  have O:∀x,x∈r.toList->x∈l2∨x∈m1:=λx hx=>B8.mp (hr.pm.mem_iff.mp hx)
  have ep:=put (sa:=sa+l1.length) r.toList 0 (arrOf t) (L0++l1) (l2++m1) (m2++S) (by rw[hs.ar,ua,h,hl,hm];simp) (by rw[a5,List.length_append]) (by rw[List.length_append,h0];rfl);have ef:(failedOf (setArr t (List.foldl (λa x=>a.setIfInBounds (sa+l1.length+x.snd) x.fst) (arrOf t) r.toList.zipIdx))).isNone=true:=by
   show (failedOf t).isNone=true;rw[hs.fa,uf];rfl
  show Q (failedOf (setArr t (List.foldl (λa x=>a.setIfInBounds (sa+l1.length+x.snd) x.fst) (arrOf t) r.toList.zipIdx))).isNone _;rw[ef];refine k _ (l1++r.toList++m2) ⟨hs.kd.trans uk,?_,hs.fa.trans uf⟩ (hs.pe.trans up) ?_ ?_ ?_
  ·refine Array.Perm.trans ?_ hg.pm
   rw[Array.perm_iff_toList_perm];show (List.foldl (λa x=>a.setIfInBounds (sa+l1.length+x.snd) x.fst) (arrOf t) r.toList.zipIdx).toList.Perm _;refine(List.Perm.of_eq ep).trans ?_;rw[h,hl,hm];have:=(hr.pm.append_left (L0++l1)).append_right (m2++S);refine this.trans (List.Perm.of_eq (by simp))
  ·refine ep.trans (by simp)
  ·rw[List.length_append,List.length_append,a5];omega
  ·refine N9.mpr ⟨N9.mpr ⟨o1.1,hr.so,λx hx y hy=>?_⟩,o2.2.1,λx hx y hy=>?_⟩
   ·rcases O y hy with q|q
    ·exact o1.2.2 x hx y q
    ·exact bl x hx y (a2 y q)
   ·rcases B8.mp hx with q|q
    ·exact bl x q y (a1 y hy)
    ·rcases O x q with q|q
     ·exact b1 x q y hy
     ·exact o2.2.2 x q y hy
 have mT:∀x∈X.toList++Y.toList,x∈b.toList:=λx hx=>by
  rw[ex,ey] at hx;rcases B8.mp hx with q|q
  ·exact ma x (F x q)
  ·exact mb x (a2 x q)
 have nT:(X.toList++Y.toList).Nodup:=by
  rw[ex,ey];refine C20 ?_ a7;rw[hl,hm];exact(C30 l1 l2).append (C40 m1 m2)
 have y0:Y[0]'(by omega)=b0:=by
  have:Y.toList[0]?=some b0:=by rw[ey,em];rfl
  rw[Array.getElem?_toList,getElem?_pos Y 0 (by omega)] at this;injection this
 have xl:X[X.size - 1]'(by omega)=l2.getLast x2:=by
  have:X.toList[X.size - 1]?=some (l2.getLast x2):=by rw[ex,sX,List.getElem?_eq_getElem (by omega),← List.getLast_eq_getElem x2]
  rw[Array.getElem?_toList,getElem?_pos X _ (by omega)] at this;injection this
 by_cases hle:na - l1.length<=m1.length
 ·rw[if_pos hle]
  refine A3 (mergeLo C uk ?_ (by omega) (by omega) ⟨?_,?_,?_,mT,nT⟩ fin)
  ·intro z hz x hx
   rw[getElem?_pos X _ (by omega),xl] at hx;cases hx;rw[ey] at hz;exact a4 z hz
  ·rw[y0,ex,ey,em]
   show (b0::(l2++M)).Perm (l2++b0::M);exact List.perm_middle.symm
  ·rw[y0,ex]
   exact i0.mpr ⟨λx hx=>ha x hx,o1.2.1⟩
  ·rw[y0,ey,em]
   rw[em] at o2;exact o2.1
 ·rw[if_neg hle]
  refine A3 (mergeHi C uk ?_ (by omega) (by omega) ⟨?_,?_,?_,mT,nT⟩ fin)
  ·intro z hz x hx
   rw[getElem?_pos Y _ (by omega),y0] at hx;cases hx;rw[ex] at hz;exact ha z hz
  ·have:[X[X.size - 1]]++(rt X (X.size - 1)++rt Y Y.size)=rt X X.size++rt Y Y.size:=by
    rw[R6 (c:=X) (n:=X.size) (by omega) (A4 _)];rfl
   rw[this];unfold rt;rw[List.take_of_length_le (by simp),List.take_of_length_le (by simp)];exact(C60 _).append (C60 _)
  ·have:[X[X.size - 1]]++rt X (X.size - 1)=rt X X.size:=by
    rw[R6 (c:=X) (n:=X.size) (by omega) (A4 _)];rfl
   rw[this];unfold rt;rw[List.take_of_length_le (by simp),ex];exact X0.mpr o1.2.1
  ·rw[xl]
   unfold rt;rw[List.take_of_length_le (by simp),ey];refine i0.mpr ⟨λx hx=>a4 x (P9.mp hx),X0.mpr o2.1⟩
end
section
variable{P:Program}{w:World}{s:Shared}{b:Array Keyed}{κ:SortKind}{cmp:Keyed->Keyed->Bool}
structure Ro(b:Array Keyed)(κ:SortKind)(st:SortSt)(o:Nat)(t:SortSt):Prop where
 kd:kindOf t=κ
 pm:(arrOf t).Perm b
 fa:failedOf t=none
 pe:pendingOf t=pendingOf st
 ke:∀i,i<o->(arrOf t)[i]?=(arrOf st)[i]?
theorem Ro.sz{st t:SortSt}{o:Nat}(h:Ro b κ st o t):(arrOf t).size=b.size:=h.pm.size_eq
theorem Ro.el{st t:SortSt}{o:Nat}(h:Ro b κ st o t)(hi:i<b.size):∃x,(arrOf t)[i]?=some x/\x∈b.toList:=by
 have F:i<(arrOf t).size:=by rw[h.sz];exact hi
 exact⟨(arrOf t)[i],C5 _ i F,(N4.mp h.pm).mem_iff.mp (by simp)⟩
theorem Ro.mem{st t:SortSt}{o:Nat}(h:Ro b κ st o t){x:Keyed}(e:(arrOf t)[i]?=some x):x∈b.toList:=by
 obtain⟨hi,rfl⟩:=g9.mp e;exact(N4.mp h.pm).mem_iff.mp (by simp)
theorem Ro.ne{st t:SortSt}{o:Nat}(h:Ro b κ st o t)(hn:b.toList.Nodup){x y:Keyed}(e1:(arrOf t)[i]?=some x)(e2:(arrOf t)[j]?=some y)(hij:i<j):x≠y:=by
 have F:(arrOf t).toList.Nodup:=(N4.mp h.pm).nodup_iff.mpr hn;obtain⟨h1,rfl⟩:=g9.mp e1;obtain⟨h2,rfl⟩:=g9.mp e2;have:=D6.mp F i j (by simpa using h1) (by simpa using h2) hij
 simpa using this
def UpO(cmp:Keyed->Keyed->Bool)(xs:Array Keyed)(o n:Nat):Prop:=∀i j x y,i<j->j<n->xs[o+i]?=some x->xs[o+j]?=some y->cmp x y=true
def DnO(cmp:Keyed->Keyed->Bool)(xs:Array Keyed)(o n:Nat):Prop:=∀i j x y,i<j->j<n->xs[o+i]?=some x->xs[o+j]?=some y->cmp y x=true
variable(C:Cn P w A E s b κ cmp){st:SortSt}{o:Nat}
include C
theorem u70{t:SortSt}(hr:Ro b κ st o t){x y:Keyed}(ei:(arrOf t)[i]?=some x)(ej:(arrOf t)[j]?=some y){Q:Option Bool->SortSt->Prop}(k:Q (some (cmp x y)) t):wpS (model P w) A E s (ltAt' i j) Q t:=by
 rw[ltAt'_eq];refine A3 (D1 ?_);show wpS _ _ _ _ (elem' (arrOf t) i>>=λx=>elem' (arrOf t) j>>=λy=>lt' x y) Q t;rw[elem'_eq,elem'_eq,ei,ej];exact A3 (A2 (A3 (A2 (C.ask _ _ _ _ hr.kd (hr.mem ei) (hr.mem ej) k))))
theorem o90{t:SortSt}(hr:Ro b κ st o t)(h1:1<=n)(h:UpO cmp (arrOf t) o n){u v:Keyed}(eu:(arrOf t)[o+n - 1]?=some u)(ev:(arrOf t)[o+n]?=some v)(huv:cmp u v=true):UpO cmp (arrOf t) o (n+1):=λi j x y F hj ex ey=>by
 by_cases hjn:j<n
 ·exact h i j x y F hjn ex ey
 ·have:j=n:=by omega
  subst this;rw[ev] at ey;cases ey;rw[show o+j - 1=o+(j - 1) by omega] at eu
  by_cases hi:i=j - 1
  ·subst hi;rw[eu] at ex;cases ex;exact huv
  ·exact C.tr x (hr.mem ex) u (hr.mem eu) v (hr.mem ev) (h i (j - 1) x u (by omega) (by omega) ex eu) huv
theorem g80{t:SortSt}(hr:Ro b κ st o t)(h1:1<=n)(h:DnO cmp (arrOf t) o n){u v:Keyed}(eu:(arrOf t)[o+n - 1]?=some u)(ev:(arrOf t)[o+n]?=some v)(huv:cmp v u=true):DnO cmp (arrOf t) o (n+1):=λi j x y F hj ex ey=>by
 by_cases hjn:j<n
 ·exact h i j x y F hjn ex ey
 ·have:j=n:=by omega
  subst this;rw[ev] at ey;cases ey;rw[show o+j - 1=o+(j - 1) by omega] at eu
  by_cases hi:i=j - 1
  ·subst hi;rw[eu] at ex;cases ex;exact huv
  ·exact C.tr v (hr.mem ev) u (hr.mem eu) x (hr.mem ex) huv (h i (j - 1) x u (by omega) (by omega) ex eu)
theorem Zt0{t:SortSt}(hr:Ro b κ st o t)(hm:o+m<=b.size)(h1:1<=m){Q:Option Nat->SortSt->Prop}
  (k:∀r t,Ro b κ st o t->1<=r->r<=m->UpO cmp (arrOf t) o r->Q (some r) t):wpS (model P w) A E s (countRun' o m) Q t:=by
 rw[countRun'_eq];dsimp only;refine A3 (B6 (C2 (I:=λx c t'=>t'=t/\c=(none,x)/\UpO cmp (arrOf t) o x)
  (Q:=λc t'=>t'=t/\∃n,c=(none,n)/\1<=n/\n<=m/\UpO cmp (arrOf t) o n/\(n=m∨∃u v,(arrOf t)[o+n - 1]?=some u/\(arrOf t)[o+n]?=some v/\cmp v u=true)) (λx c t' J O hI=>?_) (λc t' hI=>?_) ⟨rfl,rfl,λi j x y a c _ _=>by omega⟩) λc t' hI=>?_)
 ·obtain⟨e1,e2,F⟩:=hI
  subst e1;subst e2;obtain⟨v,ev,mv⟩:=hr.el (i:=o+x) (by omega);obtain⟨u,eu,mu⟩:=hr.el (i:=o+x - 1) (by omega);refine A3 (u70 C hr ev eu ?_);cases hc:cmp v u with
  | true=>exact A2 ⟨rfl,x,rfl,J,by omega,F,.inr ⟨u,v,eu,ev,hc⟩⟩
  | false=>exact A2 ⟨rfl,rfl,o90 C hr (by omega) F eu ev (C.to u mu v mv (hr.ne C.nd eu ev (by omega)) hc)⟩
 ·obtain⟨e1,e2,F⟩:=hI
  subst e1;subst e2;have e:max 1 m=m:=by omega
  rw[e] at F ⊢;exact⟨rfl,m,rfl,h1,A4 _,F,.inl rfl⟩
 obtain⟨e1,n,e2,n1,n2,hu,Z⟩:=hI;subst e1;subst e2;dsimp only
 by_cases hnm:n=m
 ·rw[if_pos (by rw[hnm];simp)]
  exact A2 (k n _ hr n1 n2 hu)
 rw[if_neg (by simpa using hnm)];obtain⟨u,v,eu,ev,hc⟩:=Z.resolve_left hnm
 by_cases hg1:n > 1
 ·rw[if_pos hg1]
  obtain⟨x,ex,mx⟩:=hr.el (i:=o) (by omega);refine A3 (u70 C hr ex eu ?_);rw[hu 0 (n - 1) x u (by omega) (by omega) ex (by rw[← eu];congr 1;omega)];exact A2 (k n _ hr n1 n2 hu)
 rw[if_neg hg1];have:n=1:=by omega
 subst this;refine A3 (L5 (E2 ⟨rfl,?_⟩));have d2:DnO cmp (arrOf t') o (1+1):=λi j x y Y hj ex ey=>by
  have hi:i=0:=by omega
  have S:j=1:=by omega
  subst hi;subst S;rw[show o+1 - 1=o+0 by omega,ex] at eu;rw[ey] at ev;cases eu;cases ev;exact hc
 refine A3 (B6 (C2 (I:=λx c t=>t=t'/\c=(none,x,0)/\DnO cmp (arrOf t') o x)
  (Q:=λc t=>t=t'/\∃n,c=(none,n,0)/\2<=n/\n<=m/\DnO cmp (arrOf t') o n) (λx c t J O hI=>?_) (λc t hI=>?_) ⟨rfl,rfl,d2⟩) λc t hI=>?_)
 ·obtain⟨e1,e2,F⟩:=hI
  subst e1;subst e2;obtain⟨v,ev,mv⟩:=hr.el (i:=o+x) (by omega);obtain⟨u,eu,mu⟩:=hr.el (i:=o+x - 1) (by omega);refine A3 (u70 C hr ev eu ?_);cases hc:cmp v u with
  | true =>
   dsimp only;rw[if_pos rfl,if_neg (by omega)];exact A2 ⟨rfl,rfl,g80 C hr (by omega) F eu ev hc⟩
  | false =>
   dsimp only;rw[if_neg (by simp)];refine A3 (u70 C hr eu ev ?_);rw[C.to u mu v mv (hr.ne C.nd eu ev (by omega)) hc];exact A2 ⟨rfl,x,rfl,by omega,by omega,F⟩
 ·obtain⟨e1,e2,F⟩:=hI
  subst e1;subst e2;have e:max (1+1) m=m:=by omega
  rw[e] at F ⊢;exact⟨rfl,m,rfl,by omega,A4 _,F⟩
 obtain⟨e1,n,e2,n1,n2,hd⟩:=hI;subst e1;subst e2;dsimp only;rw[if_neg (by omega),reverseSlice'_eq];refine A3 (D4 ?_);have a0:o+n<=(arrOf t).size:=by rw[hr.sz];omega
 have L:∀i,(mirror (arrOf t) o (o+n) ((o+n - o)/2))[i]?=if o<=i/\i<o+n then (arrOf t)[o+(o+n) - 1 - i]? else (arrOf t)[i]?:=λi=>by
  rw[getElem?_mirror_all a0]
 have g2:Ro b κ st o (setArr t (mirror (arrOf t) o (o+n) ((o+n - o)/2))):=⟨hr.kd,(mirror_perm _ _ _ _).trans hr.pm,hr.fa,hr.pe,λi hi=>by
  show (mirror (arrOf t) o (o+n) ((o+n - o)/2))[i]?=_;rw[L,if_neg (by omega)];exact hr.ke i hi⟩
 obtain⟨t2,M⟩:∃t2,t2=setArr t (mirror (arrOf t) o (o+n) ((o+n - o)/2)):=⟨_,rfl⟩;show wpS _ _ _ _ _ _ (setArr t (mirror (arrOf t) o (o+n) ((o+n - o)/2)));rw[← M] at g2 ⊢;have U:UpO cmp (arrOf t2) o n:=λi j x y Y hj ex ey=>by
  rw[M] at ex ey;have ex:(mirror (arrOf t) o (o+n) ((o+n - o)/2))[o+i]?=some x:=ex;have ey:(mirror (arrOf t) o (o+n) ((o+n - o)/2))[o+j]?=some y:=ey;rw[L,if_pos (by omega)] at ex ey;exact hd (n - 1 - j) (n - 1 - i) y x (by omega) (by omega) (by rw[← ey];congr 1;omega) (by rw[← ex];congr 1;omega)
 refine A3 (B6 (C2 (I:=λx c t'=>t'=t2/\c=(none,x)/\UpO cmp (arrOf t2) o x)
  (Q:=λc t'=>t'=t2/\∃n,c=(none,n)/\1<=n/\n<=m/\UpO cmp (arrOf t2) o n) (λx c t' J O hI=>?_) (λc t' hI=>?_) ⟨rfl,rfl,U⟩) λc t' hI=>?_)
 ·obtain⟨e1,e2,F⟩:=hI
  subst e1;subst e2;obtain⟨v,ev,mv⟩:=g2.el (i:=o+x) (by omega);obtain⟨u,eu,mu⟩:=g2.el (i:=o+x - 1) (by omega);refine A3 (u70 C g2 ev eu ?_);cases hc:cmp v u with
  | true=>exact A2 ⟨rfl,x,rfl,by omega,by omega,F⟩
  | false=>exact A2 ⟨rfl,rfl,o90 C g2 (by omega) F eu ev (C.to u mu v mv (g2.ne C.nd eu ev (by omega)) hc)⟩
 ·obtain⟨e1,e2,F⟩:=hI
  subst e1;subst e2;have e:max n m=m:=by omega
  rw[e] at F ⊢;exact⟨rfl,m,rfl,h1,A4 _,F⟩
 obtain⟨e1,n,e2,n1,n2,hu⟩:=hI;subst e1;subst e2;exact A2 (k n _ g2 n1 n2 hu)
theorem Y10{a:Nat}{t:SortSt}(hr:Ro b κ st o t)(hn:o+n<=b.size)(ha:a<=n)(hu:UpO cmp (arrOf t) o a){Q:Bool->SortSt->Prop}
  (k:∀t,Ro b κ st o t->UpO cmp (arrOf t) o n->Q true t):wpS (model P w) A E s (binarySort' o n a) Q t:=by
 rw[binarySort'_eq];refine A3 (B6 (C2 (I:=λx c t=>c=(none,())/\Ro b κ st o t/\UpO cmp (arrOf t) o (min x n)) (Q:=λc t=>c=(none,())/\Ro b κ st o t/\UpO cmp (arrOf t) o n) (λx c t Y U hI=>?_) (λc t hI=>?_) ⟨rfl,hr,?_⟩) λc t hI=>?_)
 ·obtain⟨e1,g2,u2⟩:=hI
  subst e1;have ex:min x n=x:=by omega
  rw[ex] at u2;have hx:o+x<b.size:=by omega
  obtain⟨v,ev,mv⟩:=g2.el hx;refine A3 (B6 (C2 (I:=λy c t2=>t2=t/\∃l r,c=(none,l,r)/\l<=r/\r<=x/\r - l<=x - y/\(∀i z,i<l->(arrOf t)[o+i]?=some z->cmp z v=true)/\∀i z,r<=i->i<x->(arrOf t)[o+i]?=some z->cmp v z=true)
   (Q:=λc t2=>t2=t/\∃l r,c=(none,l,r)/\l<=x/\(∀i z,i<l->(arrOf t)[o+i]?=some z->cmp z v=true)/\∀i z,l<=i->i<x->(arrOf t)[o+i]?=some z->cmp v z=true) (λy c t2 _ Z hJ=>?_) (λc t2 hJ=>?_)
   ⟨rfl,0,x,rfl,by omega,by omega,by omega,λi z hi=>by omega,λi z h1 h2=>by omega⟩) λc t2 hJ=>?_)
  ·obtain⟨e1,l,r,e2,S,J,hm,lo,hi⟩:=hJ
   subst e1;subst e2;dsimp only
   by_cases hge:l ≥ r
   ·rw[if_pos hge]
    have:l=r:=by omega
    subst this;exact A2 ⟨rfl,l,l,rfl,J,lo,hi⟩
   ·rw[if_neg hge]
    obtain⟨u,eu,mu⟩:=g2.el (i:=o+(l+r)/2) (by omega);refine A3 (u70 C g2 ev eu ?_);cases hc:cmp v u with
    | true =>
     refine A2 ⟨rfl,l,(l+r)/2,rfl,by omega,by omega,by omega,lo,λi z h1 h2 ez=>?_⟩
     by_cases q:i=(l+r)/2
     ·subst q;rw[eu] at ez;cases ez;exact hc
     ·exact C.tr v mv u mu z (g2.mem ez) hc (u2 _ i u z (by omega) (by omega) eu ez)
    | false =>
     have M:=C.to u mu v mv (g2.ne C.nd eu ev (by omega)) hc;refine A2 ⟨rfl,(l+r)/2+1,r,rfl,by omega,by omega,by omega,λi z h1 ez=>?_,hi⟩
     by_cases q:i=(l+r)/2
     ·subst q;rw[eu] at ez;cases ez;exact M
     ·exact C.tr z (g2.mem ez) u mu v mv (u2 i _ z u (by omega) (by omega) ez eu) M
  ·obtain⟨e1,l,r,e2,S,J,hm,lo,hi⟩:=hJ
   subst e1;subst e2;have:l=r:=by omega
   subst this;exact⟨rfl,l,l,rfl,J,lo,hi⟩
  ·obtain⟨e1,l,r,e2,a0,lo,hi⟩:=hJ
   subst e1;subst e2;show wpS _ _ _ _ (do moveDown' (o+x) (o+l);pure (ForInStep.yield (none,()))) _ _;rw[moveDown'_eq];have O:o+x<(arrOf t2).size:=by rw[g2.sz];exact hx
   have L:∀i,(bubble (arrOf t2) (o+x) (o+x - (o+l)))[i]?=if i=o+l then some v else if o+l<i/\i<=o+x then (arrOf t2)[i - 1]? else (arrOf t2)[i]?:=λi=>by
    rw[getElem?_bubble O _ (by omega),show o+x - (o+x - (o+l))=o+l by omega,ev]
   refine A3 (D4 (A2 ⟨rfl,⟨g2.kd,(bubble_perm _ _ _).trans g2.pm,g2.fa,g2.pe,λi hi=>?_⟩,?_⟩))
   ·show (bubble (arrOf t2) (o+x) (o+x - (o+l)))[i]?=_
    rw[L,if_neg (by omega),if_neg (by omega)];exact g2.ke i hi
   have e3:min (x+1) n=x+1:=by omega
   rw[e3];intro i j y z F hj ey ez;have ey:(bubble (arrOf t2) (o+x) (o+x - (o+l)))[o+i]?=some y:=ey;have ez:(bubble (arrOf t2) (o+x) (o+x - (o+l)))[o+j]?=some z:=ez;rw[L] at ey ez
   by_cases q1:j=l
   ·rw[if_pos (by omega)] at ez
    rw[if_neg (by omega),if_neg (by omega)] at ey;cases ez;exact lo i y (by omega) ey
   ·rw[if_neg (by omega)] at ez
    by_cases q2:i=l
    ·rw[if_pos (by omega)] at ey
     rw[if_pos ⟨by omega,by omega⟩,show o+j - 1=o+(j - 1) by omega] at ez;cases ey;exact hi (j - 1) z (by omega) (by omega) ez
    ·rw[if_neg (by omega)] at ey
     by_cases q3:l<i
     ·rw[if_pos ⟨by omega,by omega⟩,show o+i - 1=o+(i - 1) by omega] at ey
      rw[if_pos ⟨by omega,by omega⟩,show o+j - 1=o+(j - 1) by omega] at ez;exact u2 (i - 1) (j - 1) y z (by omega) (by omega) ey ez
     ·rw[if_neg (by omega)] at ey
      by_cases q4:l<j
      ·rw[if_pos ⟨by omega,by omega⟩,show o+j - 1=o+(j - 1) by omega] at ez
       exact u2 i (j - 1) y z (by omega) (by omega) ey ez
      ·rw[if_neg (by omega)] at ez
       exact u2 i j y z F (by omega) ey ez
 ·obtain⟨hc,g2,u2⟩:=hI
  refine⟨hc,g2,?_⟩
  rwa [show min (max (max a 1) n) n=n by omega] at u2
 ·intro i j x y F hj ex ey
  exact hu i j x y F (by omega) ex ey
 ·obtain⟨e1,g2,u2⟩:=hI
  subst e1;exact A2 (k t g2 u2)
end
def Rn(cmp:Keyed->Keyed->Bool):Nat->List (Nat×Nat×Nat)->List (List Keyed)->Prop
 | _,[],[]=>True
 | o,p::ps,r::rs=>p.1=o/\p.2.1=r.length/\0<r.length/\Asc cmp r/\Rn cmp (o+r.length) ps rs
 | _,_,_=>False
section
variable{cmp:Keyed->Keyed->Bool}
theorem cy0{p:Prop}[Decidable p]{k:Nat}(h1:m+1<k)(h2:n+1<k):(if p then m else n)+1<k:=by split<;>assumption
theorem qp0:∀{ps:List (Nat×Nat×Nat)} {rs:List (List Keyed)} {o:Nat},Rn cmp o ps rs->ps.length=rs.length/\ps.length<=rs.flatten.length
 | [],[],_,_=>⟨rfl,E8 _⟩
 | p::ps,r::rs,o,h=>by
  obtain⟨_,_,h3,_,h5⟩:=h;obtain⟨i1,i2⟩:=qp0 h5;refine⟨by rw[List.length_cons,List.length_cons,i1],?_⟩;rw[List.flatten_cons,List.length_append,List.length_cons];omega
 | [],_::_,_,h=>h.elim
 | _::_,[],_,h=>h.elim
theorem kp0:∀{i:Nat} {ps:List (Nat×Nat×Nat)} {rs:List (List Keyed)} {o:Nat},Rn cmp o ps rs->i+1<ps.length ->
  ∃ps1 sa na pw sb nb pq ps2 rs1 la lb rs2,ps=ps1++(sa,na,pw)::(sb,nb,pq)::ps2/\ps1.length=i/\rs=rs1++la::lb::rs2/\sa=o+rs1.flatten.length/\na=la.length/\sb=sa+na/\nb=lb.length/\0<na/\0<nb/\Asc cmp la/\Asc cmp lb /\
   ∀m:List Keyed,Asc cmp m->m.length=na+nb->Rn cmp o (ps1++(sa,na+nb,pw)::ps2) (rs1++m::rs2)
 | 0,(sa,na,pw)::(sb,nb,pq)::ps,la::lb::rs,o,h,_=>by
  obtain⟨h1,h2,h3,h4,g1,g2,g3,g4,g5⟩:=h;dsimp only at h1 h2 g1 g2;subst h1;subst h2;subst g1;subst g2;refine⟨[],_,_,pw,_,_,pq,ps,[],la,lb,rs,rfl,rfl,rfl,rfl,rfl,rfl,rfl,h3,g3,h4,g4,λm hm hl=>?_⟩;refine⟨rfl,hl.symm,by omega,hm,?_⟩;rw[hl,← Nat.add_assoc];exact g5
 | i+1,p::ps,r::rs,o,h,hi=>by
  obtain⟨h1,h2,h3,h4,h5⟩:=h;obtain⟨ps1,sa,na,pw,sb,nb,pq,ps2,rs1,la,lb,rs2,e1,e2,e3,e4,e5,e6,e7,e8,e9,f1,f2,k⟩:=kp0 (i:=i) h5 (by simpa using hi);subst e1;subst e3;refine⟨p::ps1,sa,na,pw,sb,nb,pq,ps2,r::rs1,la,lb,rs2,rfl,by rw[List.length_cons,e2],rfl,?_,e5,e6,e7,e8,e9,f1,f2,λm hm hl=>⟨h1,h2,h3,h4,k m hm hl⟩⟩;rw[e4,List.flatten_cons,List.length_append];omega
 | _,[],[],_,_,hi=>by simp at hi
 | _,[_],_,_,_,hi=>by simp at hi
 | _,[],_::_,_,h,_=>h.elim
 | _,_::_,[],_,h,_=>h.elim
 | 0,_::_::_,[_],_,h,_=>h.2.2.2.2.elim
theorem gx0:∀{ps:List (Nat×Nat×Nat)} {rs:List (List Keyed)} {o:Nat} (k pw:Nat),Rn cmp o ps rs->Rn cmp o (ps.modify k λq=>(q.1,q.2.1,pw)) rs
 | [],_,_,k,pw,h=>by rw[List.modify_nil];exact h
 | p::ps,r::rs,o,0,pw,h=>h
 | p::ps,r::rs,o,k+1,pw,h=>⟨h.1,h.2.1,h.2.2.1,h.2.2.2.1,gx0 k pw h.2.2.2.2⟩
 | _::_,[],_,_,_,h=>h.elim
theorem m20:∀{ps:List (Nat×Nat×Nat)} {rs:List (List Keyed)} {o:Nat} {r:List Keyed} {pw:Nat},Rn cmp o ps rs->0<r.length->Asc cmp r->Rn cmp o (ps++[(o+rs.flatten.length,r.length,pw)]) (rs++[r])
 | [],[],o,r,pw,_,h1,h2=>⟨rfl,rfl,h1,h2,trivial⟩
 | p::ps,q::rs,o,r,pw,h,h1,h2=>by
  have:=m20 (pw:=pw) h.2.2.2.2 h1 h2;refine⟨h.1,h.2.1,h.2.2.1,h.2.2.2.1,?_⟩;rw[List.flatten_cons,List.length_append,← Nat.add_assoc];exact this
 | [],_::_,_,_,_,h,_,_=>h.elim
 | _::_,[],_,_,_,h,_,_=>h.elim
end
section
variable{P:Program}{w:World}{s:Shared}{b:Array Keyed}{κ:SortKind}{cmp:Keyed->Keyed->Bool}
structure Sv(b:Array Keyed)(κ:SortKind)(cmp:Keyed->Keyed->Bool)(rest:List Keyed)(lo:Nat)(t:SortSt):Prop where
 gn:Gn b κ t
 rn:∃rs,(arrOf t).toList=rs.flatten++rest/\rs.flatten.length=lo/\Rn cmp 0 (pendingOf t).toList rs
variable(C:Cn P w A E s b κ cmp)
include C
theorem v40{rest:List Keyed}{lo:Nat}{t:SortSt}(h:Sv b κ cmp rest lo t)(hi:i+1<(pendingOf t).size){Q:Bool->SortSt->Prop}
  (k:∀t',Sv b κ cmp rest lo t'->(pendingOf t').size+1=(pendingOf t).size->Q true t'):wpS (model P w) A E s (mergeAt' i) Q t:=by
 obtain⟨rs,e1,e2,e3⟩:=h.rn;obtain⟨L,sa,na,pw,sb,nb,pq,M,F,la,lb,J,f1,f2,f3,f4,f5,f6,f7,f8,f9,g1,g2,kk⟩:=kp0 e3 (by simpa using hi);rw[Nat.zero_add] at f4;subst f3;have q1:(pendingOf t)[i]?=some (sa,na,pw):=by
  rw[← Array.getElem?_toList,f1,← f2];simp
 have q2:(pendingOf t)[i+1]?=some (sb,nb,pq):=by
  rw[← Array.getElem?_toList,f1,← f2,List.getElem?_append_right (by omega),Nat.add_sub_cancel_left];rfl
 refine kc0 C h.gn q1 q2 (L0:=F.flatten) (la:=la) (lb:=lb) (S:=J.flatten++rest) (by rw[e1];simp) f4 f5 f6 f7 f8 f9 g1 g2 λt' m gn pe ar ml ma=>?_
 have pl:(pendingOf t').toList=L++(sa,na+nb,pw)::M:=by
  rw[pe,Array.toList_eraseIdxIfInBounds,Array.toList_setIfInBounds,f1,← f2];simp only[List.set_append_right _ _ (A4 _),Nat.sub_self,List.set_cons_zero];rw[List.eraseIdx_append_of_length_le (by omega),Nat.add_sub_cancel_left];rfl
 refine k t' ⟨gn,F++m::J,by rw[ar];simp,?_,by rw[pl];exact kk m ma ml⟩ ?_
 ·rw[← e2]
  simp only[List.flatten_append,List.flatten_cons,List.length_append];omega
 ·rw[← Array.length_toList,pl,← Array.length_toList,f1]
  simp only[List.length_append,List.length_cons];omega
theorem Z80{st:SortSt}{Q:Unit->SortSt->Prop}(hk:kindOf st=κ)(hp:(arrOf st).Perm b)(hf:failedOf st=none)(he:pendingOf st=#[])(h2:2<=b.size)
  (k:∀t,(arrOf t).Perm b->failedOf t=none->Up cmp (arrOf t) b.size->Q () t):wpS (model P w) A E s sortRuns' Q st:=by
 rw[sortRuns'_eq];refine A3 (D1 ?_);dsimp only;rw[show (arrOf st).size=b.size from hp.size_eq];have S0:Sv b κ cmp (arrOf st).toList 0 st:=⟨⟨hk,hp,hf⟩,[],rfl,rfl,by rw[he];trivial⟩;refine A3 (B6 (C2 (I:=λx c t=>∃lo rest,c=(none,lo)/\x<=lo/\lo<=b.size/\Sv b κ cmp rest lo t)
  (Q:=λc t=>c=(none,b.size)/\∃rest,Sv b κ cmp rest b.size t) (λx c t _ hx hI=>?_) (λc t hI=>?_) ⟨0,_,rfl,A4 0,E8 _,S0⟩) λc t hI=>?_)
 ·obtain⟨lo,rest,e1,a4,a5,S⟩:=hI
  subst e1;dsimp only
  by_cases hge:lo ≥ b.size
  ·rw[if_pos hge]
   have:lo=b.size:=by omega
   subst this;exact A2 ⟨rfl,rest,S⟩
  rw[if_neg hge];have hr:Ro b κ t lo t:=⟨S.gn.kd,S.gn.pm,S.gn.fa,rfl,λi _=>rfl⟩;refine A3 (Zt0 C hr (m:=b.size - lo) (by omega) (by omega) λJ t2 a1 r1 r2 u2=>?_);dsimp only;have M:∀(n:Nat) (t3:SortSt),Ro b κ t lo t3->UpO cmp (arrOf t3) lo n->1<=n->lo+n<=b.size->∃r F,Sv b κ cmp (r++F) lo t3/\r.length=n/\Asc cmp r:=λn t3 L u3 n1 n2=>by
   obtain⟨rs,e1,e2,e3⟩:=S.rn;have a0:(arrOf t3).toList.length=b.size:=by rw[Array.length_toList];exact L.sz
   have a2:(arrOf t3).toList.take lo=rs.flatten:=by
    refine i5 λi=>?_
    by_cases hi:i<lo
    ·rw[List.getElem?_take_of_lt hi,Array.getElem?_toList,L.ke i hi,← Array.getElem?_toList,e1,List.getElem?_append_left (by omega)]
    ·rw[List.getElem?_eq_none (by rw[List.length_take];omega),List.getElem?_eq_none (by omega)]
   refine⟨((arrOf t3).toList.drop lo).take n,((arrOf t3).toList.drop lo).drop n,⟨⟨L.kd,L.pm,L.fa⟩,rs,?_,e2,by rw[L.pe];exact e3⟩,?_,?_⟩
   ·rw[List.take_append_drop,← a2,List.take_append_drop]
   ·rw[List.length_take,List.length_drop,a0];omega
   ·refine D6.mpr λi j hi hj O=>?_
    rw[List.length_take,List.length_drop,a0] at hi hj;have ei:(arrOf t3)[lo+i]?=some (((arrOf t3).toList.drop lo).take n)[i]:=by
     rw[List.getElem_take,List.getElem_drop,← Array.getElem?_toList];exact C5 (arrOf t3).toList (lo+i) _
    have ej:(arrOf t3)[lo+j]?=some (((arrOf t3).toList.drop lo).take n)[j]:=by
     rw[List.getElem_take,List.getElem_drop,← Array.getElem?_toList];exact C5 (arrOf t3).toList (lo+j) _
    exact u3 i j _ _ O (by omega) ei ej
  have push:∀(n:Nat) (t4:SortSt) (r F:List Keyed),Sv b κ cmp (r++F) lo t4->r.length=n->Asc cmp r->1<=n->Sv b κ cmp F (lo+n) (setPending t4 ((pendingOf t4).push (lo,n,0))):=λn t4 r F S4 hl ha n1=>by
   obtain⟨rs,e1,e2,e3⟩:=S4.rn;refine⟨⟨S4.gn.kd,S4.gn.pm,S4.gn.fa⟩,rs++[r],?_,?_,?_⟩
   ·show (arrOf t4).toList=_
    rw[e1];simp
   ·rw[← e2,← hl];simp
   ·show Rn cmp 0 ((pendingOf t4).push (lo,n,0)).toList _
    rw[Array.toList_push];have:=m20 (pw:=0) e3 (r:=r) (by omega) ha;rw[Nat.zero_add,e2,hl] at this;exact this
  have Z:∀(rest:List Keyed) (t4:SortSt) (i pw:Nat),Sv b κ cmp rest lo t4->Sv b κ cmp rest lo (setPending t4 ((pendingOf t4).modify i λx=>(x.1,x.2.1,pw))):=λrest t4 i pw S4=>by
   obtain⟨rs,e1,e2,e3⟩:=S4.rn;refine⟨⟨S4.gn.kd,S4.gn.pm,S4.gn.fa⟩,rs,e1,e2,?_⟩;show Rn cmp 0 ((pendingOf t4).modify i λx=>(x.1,x.2.1,pw)).toList _;rw[Array.toList_modify];exact gx0 i pw e3
  by_cases hlt:J<minRun' b.size b.size 0
  ·rw[if_pos hlt]
   refine A3 (L5 (E2 ⟨rfl,?_⟩));refine A3 (Y10 C a1 (by omega) (by omega) u2 λt3 L u3=>?_);simp only[Bool.not_true,Bool.false_eq_true,if_false];obtain⟨n,hn⟩:∃n,n=min (b.size - lo) (minRun' b.size b.size 0):=⟨_,rfl⟩;rw[← hn] at u3 ⊢;have n1:1<=n:=by omega
   have n2:lo+n<=b.size:=by omega
   clear hn;obtain⟨r,F,S3,hl,ha⟩:=M n t3 L u3 n1 n2;refine A3 (D1 ?_);cases hb:(pendingOf t3).back? with
   | none=>exact A3 (D4 (A2 ⟨lo+n,F,rfl,by omega,by omega,push n t3 r F S3 hl ha n1⟩))
   | some q =>
    obtain⟨s1,n3,pw⟩:=q;dsimp only;refine A3 (B6 (C2 (I:=λx c t=>c=(none,())/\Sv b κ cmp (r++F) lo t) (Q:=λc t=>c=(none,())/\Sv b κ cmp (r++F) lo t) (λx c t _ _ hJ=>?_) (λ_ _ hJ=>hJ) ⟨rfl,S3⟩) λc t hJ=>?_)
    ·obtain⟨e1,S4⟩:=hJ
     subst e1;refine A3 (D1 ?_)
     by_cases h1:(pendingOf t).size > 1
     ·rw[if_pos h1]
      cases hq:(pendingOf t)[(pendingOf t).size - 2]? with
      | none=>exact A2 ⟨rfl,S4⟩
      | some q =>
       obtain⟨q1,q2,U⟩:=q;dsimp only;split
       ·exact A2 ⟨rfl,S4⟩
       ·exact A3 (v40 C S4 (by omega) λt' S' _=>A2 ⟨rfl,S'⟩)
     ·rw[if_neg h1]
      exact A2 ⟨rfl,S4⟩
    ·obtain⟨e1,S4⟩:=hJ
     subst e1;exact A3 (D4 (A3 (D4 (A2 ⟨lo+n,F,rfl,by omega,by omega,push n _ r F (Z _ _ _ _ S4) hl ha n1⟩))))
  ·rw[if_neg hlt]
   have n1:=r1;have n2:lo+J<=b.size:=by omega
   obtain⟨r,F,S3,hl,ha⟩:=M J t2 a1 u2 n1 n2;refine A3 (D1 ?_);cases hb:(pendingOf t2).back? with
   | none=>exact A3 (D4 (A2 ⟨lo+J,F,rfl,by omega,by omega,push J t2 r F S3 hl ha n1⟩))
   | some q =>
    obtain⟨s1,n3,pw⟩:=q;dsimp only;refine A3 (B6 (C2 (I:=λx c t=>c=(none,())/\Sv b κ cmp (r++F) lo t) (Q:=λc t=>c=(none,())/\Sv b κ cmp (r++F) lo t) (λx c t _ _ hJ=>?_) (λ_ _ hJ=>hJ) ⟨rfl,S3⟩) λc t hJ=>?_)
    ·obtain⟨e1,S4⟩:=hJ
     subst e1;refine A3 (D1 ?_)
     by_cases h1:(pendingOf t).size > 1
     ·rw[if_pos h1]
      cases hq:(pendingOf t)[(pendingOf t).size - 2]? with
      | none=>exact A2 ⟨rfl,S4⟩
      | some q =>
       obtain⟨q1,q2,U⟩:=q;dsimp only;split
       ·exact A2 ⟨rfl,S4⟩
       ·exact A3 (v40 C S4 (by omega) λt' S' _=>A2 ⟨rfl,S'⟩)
     ·rw[if_neg h1]
      exact A2 ⟨rfl,S4⟩
    ·obtain⟨e1,S4⟩:=hJ
     subst e1;exact A3 (D4 (A3 (D4 (A2 ⟨lo+J,F,rfl,by omega,by omega,push J _ r F (Z _ _ _ _ S4) hl ha n1⟩))))
 ·obtain⟨lo,rest,e1,a4,a5,S⟩:=hI
  have:lo=b.size:=by omega
  subst this;exact⟨e1,rest,S⟩
 ·obtain⟨e1,rest,S⟩:=hI
  subst e1;dsimp only;have a8:(pendingOf t).size<=b.size:=by
   obtain⟨rs,e1,e2,e3⟩:=S.rn;have:=qp0 e3;rw[Array.length_toList,e2] at this;exact this.2
  refine A3 (B6 (C2 (I:=λx c t=>c=(none,())/\Sv b κ cmp rest b.size t/\(pendingOf t).size<=max 1 (b.size - x))
   (Q:=λc t=>c=(none,())/\Sv b κ cmp rest b.size t/\(pendingOf t).size<=1) (λx c t _ hx hI=>?_) (λc t hI=>?_) ⟨rfl,S,by omega⟩) λc t hI=>?_)
  ·obtain⟨e1,S,hz⟩:=hI
   subst e1;refine A3 (D1 ?_)
   by_cases hle:(pendingOf t).size<=1
   ·rw[if_pos hle]
    exact A2 ⟨rfl,S,hle⟩
   rw[if_neg hle];refine A3 (v40 C S ?_ λt' S' a7=>?_)
   ·exact cy0 (by omega) (by omega)
   ·exact A2 ⟨rfl,S',by omega⟩
  ·obtain⟨e1,S,hz⟩:=hI
   exact⟨e1,S,by omega⟩
  ·obtain⟨e1,S,hz⟩:=hI
   subst e1;refine A2 (k t S.gn.pm S.gn.fa ?_);obtain⟨rs,e1,e2,e3⟩:=S.rn;have hl:=(qp0 e3).1;rw[Array.length_toList] at hl;have Y:rest=[]:=by
    have:=C1 List.length e1;rw[List.length_append,e2,Array.length_toList,S.gn.pm.size_eq] at this;exact L7 (by omega)
   subst Y;rw[List.append_nil] at e1;have ha:Asc cmp (arrOf t).toList:=by
    match rs,e1,e3,hl with
    | [],e1,_,_=>rw[e1];exact List.Pairwise.nil
    | [r],e1,e3,_ =>
     rw[e1]
     match hq:(pendingOf t).toList,e3 with
     | p::ps,e3=>simpa using e3.2.2.2.1
     | [],e3=>exact e3.elim
    | _::_::_,_,_,hl=>simp at hl;omega
   intro i j x y O hj ex ey;rw[← Array.getElem?_toList] at ex ey;obtain⟨a6,rfl⟩:=E1.mp ex;obtain⟨a3,rfl⟩:=E1.mp ey;exact D6.mp ha i j a6 a3 O
end
section
variable{P:Program}{w:World}{s:Shared}
theorem cnP(hv:Prs s.heap vs)(f:Bool):Cn P w A E s (pairsOf vs) (tuples' f) (xq0 s.heap):=by
 have C:=cpP (P:=P) (w:=w) (A:=A) (E:=E) hv f;refine⟨λst x y Q hk hx hy k=>?_,C.nd,C.tr,C.to,λx _ y _ h=>?_⟩
 ·have el:∀x∈(pairsOf vs).toList,x.1∈vs:=λx hx=>by
   rw[pairsOf_toList] at hx;obtain⟨i,hi,e⟩:=E3.mp hx;rw[List.getElem_zip] at e;rw[← e];exact D3 _
  obtain⟨q,hq⟩:=hv.all _ (el x hx);obtain⟨r,hr⟩:=hv.all _ (el y hy);unfold xq0 at k;rw[wg0 hq,wg0 hr] at k;rw[lt'_eq];refine A3 (D1 ?_);rw[hk];exact A3 (L5 (P8 (th0 hq hr ⟨rfl,A2 k⟩)))
 ·unfold xq0 at *
  cases e:lt2 (pk s.heap y.1) (pk s.heap x.1) with
  | false=>rfl
  | true=>rw[xu0] at *;omega
theorem k30{F:Fin->Shared->Prop}(ho:s.heap.get? a=some (seqObj "list" vs.toArray n))(hv:Prs s.heap vs)(h64:vs.length<=sizeLine)
  (h:∀out:Array Value,out.toList.Perm vs->(out.toList.map (pk s.heap)).Pairwise (λx y=>lt2 x y=true)->F (.done (.ret .none)) { s with heap:=sortedHeap s.heap a vs out }) :
  wpAny (model P w) A (Builtin.«list.sort» ⟨[.ref a],[]⟩) F E s:=by
 rw[list_sort_plain];have la:a<s.heap.objs.size:=A6 ho;obtain⟨ep,hu⟩:∃ep,(s.heap.update a (Obj.mapSeq λ_=>#[])).get? a=some (seqObj "list" #[] ep):=⟨_,get?_update_seq ho (λ_=>#[])⟩;refine A0 (h8 ho rfl (A0 (listUpdate_at ho rfl (A0 (seqEpoch_at hu rfl (A0 (d4 (A0 (A00 (C7 ?_))))))))));obtain⟨g,J⟩:∃g,g=((s.heap.update a (Obj.mapSeq λ_=>#[])).push (seqObj "tuple" vs.toArray 0)).push (seqObj "list" #[] 0):=⟨_,rfl⟩;have a0:a≠(s.heap.update a (Obj.mapSeq λ_=>#[])).objs.size:=by rw[Heap.size_update];exact B0 la
 have h6:g.get? a=some (seqObj "list" #[] ep):=by
  rw[J,Heap.get?_push_ne _ _ _ (by rw[size_push',Heap.size_update];exact B0 (N3 la)),Heap.get?_push_ne _ _ _ a0];exact hu
 have kp:∀c o,s.heap.get? c=some o->o.cls=.type "tuple"->g.get? c=some o:=λc o e1 e2=>by
  have Z:c≠a:=λz=>by
   subst z;rw[ho] at e1;cases e1;have e3:Value.type "list"=Value.type "tuple" := e2;injection e3 with e3
   exact absurd e3 (by decide)
  rw[J];exact A7 _ (A7 _ (by rw[Heap.get?_update_ne _ _ _ _ Z];exact e1))
 obtain⟨Y,U⟩:=hv.to kp;show wpAny (model P w) A _ F E { s with heap:=((s.heap.update a (Obj.mapSeq λ_=>#[])).push (seqObj "tuple" vs.toArray 0)).push (seqObj "list" #[] 0) };rw[← J];dsimp only;have a6:vs.toArray.size=vs.length:=by simp
 have fin:∀out:Array Value,out.toList.Perm vs->(out.toList.map (pk s.heap)).Pairwise (λx y=>lt2 x y=true)->F (.done (.ret .none)) { s with heap:=g.update a (Obj.mapSeq λ_=>out) }:=λout p1 p2=>by
  rw[J];exact h out p1 p2
 by_cases h2:vs.toArray.size<2
 ·rw[if_pos h2,if_pos h2]
  refine A0 (A1 ?_);rw[StateT.run_pure];refine A0 (A1 ?_);dsimp only;refine A0 (seqEpoch_at h6 rfl (A0 (listUpdate_at h6 rfl ?_ (hsz2:=by rw[Array.size_map];show (pairsOf vs).size<=_;rw[pairsOf_size];exact C70 h64))));simp only[bne_self_eq_false,Bool.false_eq_true,if_false];have e0:((vs.toArray.zip vs.toArray).map (·.2)).toList=vs:=by
   have:=i6 (A4 vs.length)
   simpa using this
  refine A1 (fin _ (by rw[e0]) ?_);rw[e0];refine D6.mpr λi j hi hj S=>?_
  rw[List.length_map] at hi hj;omega
 ·rw[if_neg h2,if_neg h2]
  obtain⟨v₁,v₂,r,rfl⟩:∃v₁ v₂ r,vs=v₁::v₂::r:=by
   match vs,a6,h2 with
   | [],_,h2=>simp at h2
   | [_],_,h2=>simp at h2
   | v₁::v₂::r,_,_=>exact⟨v₁,v₂,r,rfl⟩
  refine A0 (bz0 (s:={ s with heap:=g }) Y.all ?_);have C:=cnP (P:=P) (w:=w) (A:=A) (E:=E) (s:={ s with heap:=g }) Y true;refine A0 (D2 (Z80 C (st:=SortSt.mk' (tuples' true) ((v₁::v₂::r).toArray.zip (v₁::v₂::r).toArray) #[] 7 none)
   (Q:=λ_ t=>(arrOf t).Perm (pairsOf (v₁::v₂::r))/\failedOf t=none/\Up (xq0 g) (arrOf t) (pairsOf (v₁::v₂::r)).size)
   rfl (Array.Perm.refl _) rfl rfl (by rw[pairsOf_size];simp) λt a1 a2 a3=>⟨a1,a2,a3⟩) ?_ λ_ _ e=>e)
  rintro⟨⟨⟩,t⟩ s' ⟨es,hp,hf,a5⟩;subst es;dsimp only;refine A0 (seqEpoch_at h6 rfl (A0 (listUpdate_at h6 rfl ?_ (hsz2:=by refine C0 (P5 ((Array.size_map ..).trans (hp.size_eq.trans (pairsOf_size _)))) ?_;exact C70 h64))));rw[hf];simp only[bne_self_eq_false,Bool.false_eq_true,if_false];have O:(arrOf t).toList.Perm ((v₁::v₂::r).zip (v₁::v₂::r)):=by
   have:=N4.mp hp
   rwa [pairsOf_toList] at this
  have L:∀x∈(arrOf t).toList,x.1=x.2/\x.2∈v₁::v₂::r:=λx hx=>by
   have hm:=O.mem_iff.mp hx;obtain⟨i,hi,e⟩:=E3.mp hm;rw[List.getElem_zip] at e;rw[← e];exact⟨rfl,D3 _⟩
  have e2:((arrOf t).map (·.2)).toList=(arrOf t).toList.map (·.2):=by simp
  refine A1 (fin _ ?_ ?_)
  ·rw[e2]
   have:=O.map Prod.snd
   rwa [i6 (A4 _)] at this
  ·rw[e2,List.map_map]
   refine D6.mpr λi j hi hj S=>?_
   rw[List.length_map] at hi hj;rw[List.getElem_map,List.getElem_map];have a4:i<(arrOf t).size:=by simpa using hi
   have M:j<(arrOf t).size:=by simpa using hj
   have:=a5 i j (arrOf t)[i] (arrOf t)[j] S (by rw[← hp.size_eq];exact M) (C5 _ i a4) (C5 _ j M);have m1:=L (arrOf t)[i] (by simp);have m2:=L (arrOf t)[j] (by simp);unfold xq0 at this;rw[m1.1,m2.1,U _ m1.2,U _ m2.2] at this
   simpa using this
theorem h80{l:Addr}{Q:Value->Shared->Prop}(hl:s.heap.IsList l vs.toArray)(hv:Prs s.heap vs)(h64:vs.length<=sizeLine)
  (h:∀out:Array Value,out.toList.Perm vs->(out.toList.map (pk s.heap)).Pairwise (λx y=>lt2 x y=true)->Q (.ref (s.heap.objs.size+1)) { s with heap:=sortedAll s.heap vs out }) :
  wpAny (model P w) A (call (.builtin "sorted") [.ref l]) Q E s:=by
 refine C80 kind_sorted plain_sorted entry_sorted (args_sorted1 _) ?_;unfold Builtin.«sorted»;refine A0 (m:=checkCount "sorted" 1 1 _) (A1 (A0 (collect_list hl (A0 (A00 ?_)))));have J:((s.heap.push (seqObj "list" #[] 0)).update s.heap.objs.size (Obj.mapSeq (·++vs.toArray))).objs.size=s.heap.objs.size+1:=by rw[Heap.size_update,size_push']
 obtain⟨g,hg⟩:∃g,g=((s.heap.push (seqObj "list" #[] 0)).update s.heap.objs.size (Obj.mapSeq (·++vs.toArray))).push (seqObj "list" vs.toArray 0):=⟨_,rfl⟩;have F:g.get? (s.heap.objs.size+1)=some (seqObj "list" vs.toArray 0):=by
  rw[← J,hg];exact B7 _ rfl
 have kp:∀c o,s.heap.get? c=some o->o.cls=.type "tuple"->g.get? c=some o:=λc o e1 _=>by
  have lc:=A6 e1;rw[hg];refine A7 _ ?_;rw[Heap.get?_update_ne _ _ _ _ (B0 lc)];exact A7 _ e1
 obtain⟨L,M⟩:=hv.to kp;show wpAny _ _ _ _ _ { s with heap:=((s.heap.push (seqObj "list" #[] 0)).update s.heap.objs.size (Obj.mapSeq (·++vs.toArray))).push (seqObj "list" vs.toArray 0) };rw[J,← hg];refine A0 (C7 (D0 slot_list_sort ⟨_,F,rfl⟩ entry_list_sort (k30 (s:={ s with heap:=g }) F L h64 λout p1 p2=>⟨_,rfl,?_⟩) (args_list_sort _)));refine A1 ⟨_,rfl,?_⟩;have p3:(out.toList.map (pk s.heap)).Pairwise (λx y=>lt2 x y=true):=by
  rw[← List.map_congr_left λv hv=>M v (p1.mem_iff.mp hv)];exact p2
 have:=h out p1 p3;unfold sortedAll at this;rw[hg];exact this
end
end SoT
namespace L2
open Spec PyProof.Rows SoT
section
variable{s:Shared}
theorem mo0:CallR X (.builtin "sorted") (λxs H Q=>∃(p:Addr) (ys:List V) (ps:List (Int×Int)),xs=[.ref p]/\SqL X.K H p ys/\PrV H ys ps/\ps.Nodup/\∀l zs,H l=none->PrV H zs (srt ps)->(∀z∈zs,z∈ys)->Q (.ref l) (upd H l (.lst zs))):=by
 intro pins s σ H xs us Q I r h;obtain⟨p,ys,ps,rfl,hq,hp,hn,k⟩:=h;obtain⟨u,rfl,rx⟩:=vals1 r;cases rx;obtain⟨its,rv,pl,hz⟩:=I.list hq;obtain⟨i1,i2,i3⟩:=oj0 I rv hp;have hl:its.length=ps.length:=by rw[← i1,List.length_map]
 refine h80 pl.isList ⟨i2,by rw[i1];exact hn⟩ (by rw[rv.length] at hz;exact hz) λF p1 p2=>?_
 have hs:F.toList.map (pk s.heap)=srt ps:=by
  refine kz0 ?_ p2;have:=p1.map (pk s.heap)
  rwa [i1] at this
 obtain⟨zs,z1,z2,z3⟩:=ur0 (H:=H) (h:=s.heap) (ys:=ys) (vs:=F.toList) λv hv=>i3 v (p1.mem_iff.mp hv)
 rw[hs] at z2;obtain⟨e,he⟩:=sortedAll_at s.heap its F;have J:H (s.heap.objs.size+1)=none:=I.hok.fresh (y6 _);refine⟨.ref (s.heap.objs.size+1),_,I.laid (t':=s.toks) (a:=s.heap.objs.size+1) (o:=.lst zs) (λb o hb=>sortedAll_old hb) (y6 _) ⟨?_,F.toList,e,z1,he⟩,rfl,k _ zs J z2 z3⟩;rw[z1.length,p1.length_eq];rw[rv.length] at hz;exact hz
end
end L2
namespace DL
open Spec PyProof.Rows L2 SoT
def w50:List D->Option D
 | [.lst ds]=>(v20 ds).bind λps=>if ps.Nodup then some (.lst ((srt ps).map pD)) else none
 | _=>none
theorem pt0{ps:List (Int×Int)}(h1:ps.Nodup):w50 [.lst (ps.map pD)]=some (.lst ((srt ps).map pD)):=by
 show (v20 (ps.map pD)).bind _=_;rw[ma0,Option.bind_some,if_pos h1]
theorem so0(hm:X.mg "sorted"=none)(hv:bootBuiltins "sorted"=some (.builtin "sorted"))(ha:PD X e g)(hg:Gl X "sorted" := by rfl)
  (he:starEach [e] X.env=(false,eval e X.env)::starEach [] X.env:=by rfl) (hpl:(backTo pos (starEach [] X.env)).any (·.1)=false:=by rfl) :
  PDF X (.Call (.Name "sorted" p) [e] [] pos) (oA (z9 g v8) w50):=.mk λB δ=>(wl0 mo0 hg hm hv (J7 (ha B δ) xh0 he) (by decide) (by decide) he hpl).imp fun σ H Q ⟨d,en,h,k⟩=>by
 unfold oA z9 v8 at h;cases e1:g δ with
 | none=>rw[e1] at h;cases h
 | some x =>
  rw[e1] at h;simp only[Option.bind_some,Option.map_some] at h;refine⟨x,en,e1,λv H1 s1 r1=>?_⟩;unfold w50 at h;split at h
  ·rename_i ds he1
   injection he1 with he1
   subst he1;cases e2:v20 ds with
   | none=>rw[e2] at h;cases h
   | some ps =>
    rw[e2] at h;simp only[Option.bind_some] at h;split at h
    ·rename_i hz
     cases h;rw[W2] at r1;obtain⟨q,ys,rfl,hq,rr⟩:=r1;obtain⟨v1,v2⟩:=js0 rr e2;refine⟨q,ys,ps,rfl,hq.to,v1,hz,λl zs F J L=>?_⟩;refine k l _ (s1.free F) (s1.trans (Y5 F)) ⟨zs,Z6,?_⟩;refine Rps.same (Y5 F) (pj0 J λz hz=>?_);obtain⟨a,rfl,nb⟩:=v2 z (L z hz);refine⟨a,rfl,λq=>q.elim nb λq=>?_⟩;subst q;exact o70 J hz F
    ·cases h
  ·cases h
end DL
namespace DL
open Spec PyProof.Rows L2
def uq0(i j:Nat)(gx:GX)(f:List D->Option D):GX:=fun δ=>(gv i δ).bind λ_=>(gv j δ).bind λ_=>(gx δ).bind λr=>(gv i r.2).bind λa=>(gv j r.2).bind λb=>(f [a,b,r.1]).map λd=>(d,r.2)
section
variable{py:Pos}
theorem fk0{k:Nat}{ps:List Str}{z x y:Str}{f:List D->Option D}(i j:Nat)(C:FnD X.prog X.w X.K X.mg X.base z k ps f)(hr:Room m X.A)(hk:k<=m)(h:PX X e gx)
  (hN:X.N[i]?=some x:=by rfl) (hv:Vis X.env.scope x:=by first|exact Or.inl rfl|exact Or.inr (Or.inl rfl)|exact Or.inr (Or.inr rfl)) (hd:(x==("__debug__" : Str))=false:=by decide) (hcd:(x==("__classdict__" : Str))=false:=by decide)
  (hN2:X.N[j]?=some y:=by rfl) (hv2:Vis X.env.scope y:=by first|exact Or.inl rfl|exact Or.inr (Or.inl rfl)|exact Or.inr (Or.inr rfl)) (hd2:(y==("__debug__" : Str))=false:=by decide) (hcd2:(y==("__classdict__" : Str))=false:=by decide)
  (hg:Gl X z:=by rfl) (hdb:(z==("__debug__" : Str))=false:=by decide)
  (he1:starEach [.Name x px,.Name y py,e] X.env=(false,eval (.Name x px) X.env)::starEach [.Name y py,e] X.env:=by rfl) (he2:starEach [.Name y py,e] X.env=(false,eval (.Name y py) X.env)::starEach [e] X.env:=by rfl) (he3:starEach [e] X.env=(false,eval e X.env)::starEach [] X.env:=by rfl)
  (hpl:(backTo pos (starEach [.Name y py,e] X.env)).any (·.1)=false:=by rfl):PX X (.Call (.Name z p) [.Name x px,.Name y py,e] [] pos) (uq0 i j gx f):=.mk λH₀ B₀ δ pins s σ H Q I ⟨r,en,e1,k⟩=>by
 obtain⟨fa,fd,F,hm,kp,hb⟩:=C;unfold uq0 at e1;obtain⟨B,b1,b2,env⟩:=en.ex;cases a1:gv i δ with
 | none=>rw[a1] at e1;cases e1
 | some d1 =>
 cases a2:gv j δ with
 | none=>rw[a1,a2] at e1;cases e1
 | some d2 =>
 cases a3:gx δ with
 | none=>rw[a1,a2,a3] at e1;cases e1
 | some r' =>
 rw[a1,a2,a3] at e1;simp only[Option.bind_some] at e1;cases a4:gv i r'.2 with
 | none=>rw[a4] at e1;cases e1
 | some c1 =>
 cases a5:gv j r'.2 with
 | none=>rw[a4,a5] at e1;cases e1
 | some c2 =>
 rw[a4,a5] at e1;simp only[Option.bind_some] at e1;cases a6:f [c1,c2,r'.1] with
 | none=>rw[a6] at e1;cases e1
 | some d =>
 rw[a6] at e1;cases e1;obtain⟨v1,s1,_⟩:=env.get (ti0 a1);obtain⟨v2,s2,_⟩:=env.get (ti0 a2);refine tz0 (E:=E0) F (hr.mono hk) hg hm kp hb .nil ld0 (J7 (zs0 (i:=i) hN hv hd hcd) (J7 (zs0 (i:=j) hN2 hv2 hd2 hcd2) (J7 (h H₀ B₀ δ) xh0 he3) he2) he1) hdb he1 hpl pins s σ H Q I
  ⟨v1,s1,v2,s2,r',en,a3,λv H1 ev=>?_⟩
 obtain⟨B2,q1,q2,J,rv⟩:=ev.ex;obtain⟨w1,t1,r1⟩:=J.get (ti0 a4);obtain⟨w2,t2,r2⟩:=J.get (ti0 a5);rw[s1] at t1;rw[s2] at t2;cases t1;cases t2;show spD X.K f [v1,v2,v] H1 Q E0;refine⟨B2,[c1,c2,r'.1],d,J.bad,?_,a6,λv' H' s' L=>k v' H' (EnvV.mk' (ev.s.grow s') q1 q2 (J.same s') L)⟩;rw[o8];refine⟨_,_,rfl,r1,?_⟩;rw[o8];refine⟨_,_,rfl,r2,?_⟩;rw[o8];exact⟨_,_,rfl,rv,by rw[j5]⟩
end
end DL
namespace RawD
open PyProof.Rows PySem.W
def At(d:Addr)(es:Array DictEntry)(ep:Nat)(h:Heap):Prop:=∃o,h.get? d=some o/\o.ExactDict/\o.data=.dict es ep
section
variable{P:Program}{w:World}{s:Shared}{d:Addr}{es:Array DictEntry}{ep:Nat}
theorem At.ty(x:At d es ep s.heap):s.TypeIs (.ref d) "dict" := by obtain⟨o,e,c,_⟩:=x;exact⟨o,e,c.1⟩
theorem At.lt{h:Heap}(x:At d es ep h):d<h.objs.size:=by obtain⟨o,e,_⟩:=x;exact A6 e
theorem At.to{h:Heap}(x:At d es ep h)(k:∀o,h.get? d=some o->h'.get? d=some o):At d es ep h':=by obtain⟨o,e,r⟩:=x;exact⟨o,k o e,r⟩
theorem Zh0{Q:Value->Shared->Prop}(lo:(d==sysModules)=false)(x:At d es ep s.heap)
  (k:Q (.ref s.heap.objs.size) { s with heap:=s.heap.push { cls:=.type "dict_keyiterator",data:=.fields #[.ref d,.int 0 0,.int es.size 0,.int ep 0] } }):wpAny (model P w) A (pyIter (.ref d)) Q E s:=by
 have ty:=x.ty;obtain⟨o,e,c,da⟩:=x;refine wpAny_pyIter_slot ty F.slot_dict_iter (D0 F.slot_dict_iter ty F.entry_dict_iter ?_ (F.args_dict_iter_1 _));unfold Builtin.«dict.__iter__»;refine A0 ?_;unfold Builtin.Dict.dictSlotNone;refine A0 (wpAny_notOrdered_dict ty ?_);show wpAny _ _ (pure (Value.ref d)) _ _ s;refine A1 ?_;show wpAny _ _ (Builtin.Dict.showsAll d>>=_) _ _ s;unfold Builtin.Dict.showsAll;rw[if_neg (by rw[lo];decide)];refine A0 (A1 (A0 (A10 e da (A0 (A20 e da (A0 (H0 (A1 ⟨_,rfl, "dict_keyiterator",_,⟨_,B7 _ rfl,rfl⟩,X1.lookup,?_⟩))))))))
 simpa [rawInt] using k
theorem ap0{Q:Option Value->Shared->Prop}(hi:s.heap.IsKeyIter it d i es.size ep)(x:At d es ep s.heap)(hl:i<es.size)
  (k:∀h',h'.IsKeyIter it d (i+1) es.size ep->Heap.SameBut it s.heap h'->Q (some es[i].key) { s with heap:=h' }):wpAny (model P w) A (pyNext (.ref it)) Q E s:=by
 have ti:=hi.typeIs;obtain⟨u,eu,cu,du⟩:=hi;obtain⟨o,e,c,da⟩:=x;unfold pyNext;refine A0 (P8 (E7 (name:=Str.ofString "__next__") ti X1 (D0 X1 ti Ch0 ?_ (Ci0 _))));refine A0 (A1 (A0 (A0 ?_)));refine A0 (i7 ti (A1 (A0 (wpAny_fieldsOf eu du ?_))));simp only[show Builtin.Dict_items.ownsTuple "dict_keyiterator"=false from by decide,Bool.false_eq_true,if_false];show wpAny _ _ (if (Value.ref d==.none)=true then _ else _) _ _ s;rw[if_neg (show ¬(Value.ref d==.none)=true by simp)];refine A0 (A1 (A0 (A10 e da ?_)));rw[if_neg (by simp)];refine A0 (A1 (A0 (A20 e da ?_)));rw[if_neg (by simp)];refine A1 ?_;simp only[show ¬(i:Int)<0 by omega,if_false,Int.toNat_natCast,Array.getElem?_eq_getElem hl];refine A0 (A0 (i7 ti (A1 (A0 (wpAny_isOneOf_keyiter ti ?_)))));show wpAny _ _ (setField (.ref it) 1 (rawInt ((i:Int)+1))>>=_) _ _ s;refine A0 (wpAny_setField eu du (by simp) ?_);have F:(s.heap.update it (Obj.mapFields (·.setIfInBounds 1 (rawInt ((i:Int)+1))))).IsKeyIter it d (i+1) es.size ep :=
  ⟨_,Heap.get?_update_self _ eu (Obj.isFreed_of_fields (Obj.data_mapFields du _)),(Obj.cls_mapFields ..).trans cu,by rw[Obj.data_mapFields du];simp[rawInt]⟩
 refine A0 (C7 (A0 (wpAny_isOneOf_keyiter (s:={ s with heap:=s.heap.update it (Obj.mapFields (·.setIfInBounds 1 (rawInt ((i:Int)+1)))) }) F.typeIs ?_)));show wpAny _ _ (pure es[i].key) _ _ _;exact A1 (A1 ⟨_,rfl,A1 (k _ F (Heap.SameBut.update ..))⟩)
theorem Zq0{Q:Option Value->Shared->Prop}(hh:A.handled=none)(hi:s.heap.IsKeyIter it d i es.size ep)(x:At d es ep s.heap)(hl:es.size<=i)
  (k:∀h',Heap.ExtBut it s.heap h'->Q none { s with heap:=h' }):wpAny (model P w) A (pyNext (.ref it)) Q E s:=by
 have ti:=hi.typeIs;obtain⟨u,eu,cu,du⟩:=hi;obtain⟨o,e,c,da⟩:=x;unfold pyNext;refine A0 (P8 (E7 (name:=Str.ofString "__next__") ti X1 (D0 X1 ti Ch0 ?_ (Ci0 _))));refine A0 (A1 (A0 (A0 ?_)));refine A0 (i7 ti (A1 (A0 (wpAny_fieldsOf eu du ?_))));simp only[show Builtin.Dict_items.ownsTuple "dict_keyiterator"=false from by decide,Bool.false_eq_true,if_false];show wpAny _ _ (if (Value.ref d==.none)=true then _ else _) _ _ s;rw[if_neg (show ¬(Value.ref d==.none)=true by simp)];refine A0 (A1 (A0 (A10 e da ?_)));rw[if_neg (by simp)];refine A0 (A1 (A0 (A20 e da ?_)));rw[if_neg (by simp)];refine A1 ?_;simp only[show ¬(i:Int)<0 by omega,if_false,Int.toNat_natCast,Array.getElem?_eq_none hl];refine A0 (A0 (i7 ti (A1 ?_)));show wpAny _ _ (setField (.ref it) 0 .none>>=_) _ _ s;refine A0 (wpAny_setField eu du (by simp) ?_);show wpAny _ _ (newExc (.type "StopIteration") []>>=_) _ _ _;refine A0 ?_;simp only[newExc,newTuple];refine A0 (H0 (A0 (m:=firstArgMember _ _) (wpAny_of_eq (a:=Value.none) (by first|rfl|(simp only[firstArgMember];rfl)) (H0 ?_ (by size_fits)))) (by size_fits));simp only[raiseNew];refine A0 (wpAny_handled ?_);rw[show A.in1.handled=none from hh];refine A0 (A1 (wpAny_throw ?_));refine A0 (y4 (b:=true) (T := "StopIteration") ⟨_,B7 _ rfl,rfl⟩ isSubtype_stop (A1 (k _ ?_)));exact((Heap.SameBut.update ..).extBut.push _).push _
theorem Zb0(hh:A.handled=none)(ne:d≠it):Walks P w A it [it,d] [it] es.size (λi v=>∃e,es[i]?=some e/\v=e.key) (λi h=>h.IsKeyIter it d i es.size ep/\At d es ep h) where
 sub:=λb hb=>by simp at hb;simp[hb]
 frame:=λ_ _ _ st hk=>⟨st.1.at λo e=>hk it (by simp) o e,st.2.to λo e=>hk d (by simp) o e⟩
 item:=λi s Q E hi st hQ=>ap0 st.1 st.2 hi λh' F sb=>hQ _ h' s.toks ⟨es[i],C5 es i hi,rfl⟩ ⟨F,st.2.to λo e=>sb.extBut d o ne e⟩ λb o hb e=>sb.extBut b o (λh=>hb (by simp[h])) e
 done:=λs Q E st hQ=>Zq0 hh st.1 st.2 (A4 _) λh' J=>hQ h' s.toks λb o hb e=>J b o (λh=>hb (by simp[h])) e
 self:=λ_ _ _ _ st hQ=>wpAny_pyIter_keyiter st.1 hQ
theorem src(lo:(d==sysModules)=false):KdlSrc P w "dict" d d es.size (λi v=>∃e,es[i]?=some e/\v=e.key) (At d es ep) where
 type:=λ_ x=>x.ty
 there:=λ_ x=>⟨x.lt,x.lt⟩
 keep:=λ_ _ x hk=>x.to λo e=>hk d (.inl rfl) o e
 notList:=by decide
 notTuple:=by decide
 hint:=λ_ _ _ _ x hq=>kdl_hint_dict x.ty hq
 iter:=λ_ _ hh x=>⟨_,_,(λ_ _ hq=>Zh0 lo x hq),Zb0 hh (B0 x.lt),⟨⟨_,B7 _ rfl,rfl,rfl⟩,x.to λo e=>A7 _ e⟩⟩
end
end RawD
namespace L2
open Spec PyProof.Rows
def KyV(H:Hp):List (List Key)->List V->Prop
 | [],[]=>True
 | k::ks,v::vs=>(∃b,v=.ref b/\H b=some (.tup (k.map kV)))/\KyV H ks vs
 | _,_=>False
theorem li0(hc:X.calm=true:=by rfl):CallR X (.type "list") (λxs H Q=>∃(d:Addr) (kvs:List (List Key×V)),xs=[.ref d]/\H d=some (.dT kvs)/\∀l ys,H l=none->KyV H (kvs.map (·.1)) ys->Q (.ref l) (upd H l (.lst ys))):=by
 intro pins s σ H xs us Q I r h;obtain⟨d,kvs,rfl,e,k⟩:=h;obtain⟨u,rfl,rx⟩:=vals1 r;cases rx;obtain⟨z,hd,zs,L,o,es,ep,h1,h2,h3,h4,h5⟩:=(show ObjOk X.prog X.w H s.heap d (.dT kvs) from I.hok d _ e);have hl:=L.length;have M:es.size=kvs.length:=by rw[← Array.length_toList,h4,List.length_map,hl]
 have ky:∀{a:List (List Key×V)} {b:List (List Key×Addr×Value)},Paired (λ(p:List Key×V) (q:List Key×Addr×Value)=>p.1=q.1/\H q.2.1=some (.tup (p.1.map kV))/\RelV p.2 q.2.2) a b->KyV H (a.map (·.1)) (b.map λq=>V.ref q.2.1):=by
  intro a b q
  induction q with
  | nil=>trivial
  | cons q t ih=>exact⟨⟨_,rfl,q.2.1⟩,ih⟩
 refine W.kdl_call (RawD.src (es:=es) (ep:=ep) hd) (I.ok.hd hc) ⟨o,h1,h2,h3⟩ (by rw[M];exact z) λh' tk F c' hk hS J=>?_
 have hv:Vals (zs.map λq=>V.ref q.2.1) F.toList:=by
  have e1:F.toList=zs.map λq=>Value.ref q.2.1:=by
   refine i5 λi=>?_
   cases hq:F.toList[i]? with
   | none =>
    rw[List.getElem?_eq_none_iff,Array.length_toList,J.1,M] at hq;rw[List.getElem?_eq_none (by rw[List.length_map];omega)]
   | some v =>
    obtain⟨en,e2,e3⟩:=J.2 i v (by rw[← Array.getElem?_toList];exact hq);rw[← Array.getElem?_toList,h4,List.getElem?_map] at e2;rw[List.getElem?_map];cases hz:zs[i]? with
    | none=>rw[hz] at e2;cases e2
    | some q=>rw[hz] at e2;cases e2;rw[e3];rfl
  rw[e1];have:∀l:List (List Key×Addr×Value),Vals (l.map λq=>V.ref q.2.1) (l.map λq=>Value.ref q.2.1):=λl=>by
   induction l with
   | nil=>exact .nil
   | cons q l ih=>exact .cons rfl ih
  exact this zs
 refine⟨.ref s.heap.objs.size,_,I.laid (t':=tk) hk (A4 _) (show ObjOk X.prog X.w _ h' _ (.lst _) from ⟨?_,F.toList,c',hv,hS⟩),rfl,k _ _ (I.hok.fresh (A4 _)) (ky L)⟩;rw[List.length_map,← hl];exact z
end L2
namespace DL
open Spec PyProof.Rows L2
def kD:N6->D
 | .inl i=>.int i
 | .inr x=>.str x
def ktD(k:List N6):D:=.tup (k.map kD)
def vk0:List D->Option D
 | [.dct (.inr ks) _]=>some (.lst (ks.map ktD))
 | _=>none
theorem pc0:∀k:List N6,Rps K H B (k.map kD) (k.map kV)
 | []=>by rw[List.map_nil,List.map_nil,j5]
 | .inl i::k=>by rw[List.map_cons,List.map_cons,o8];exact⟨_,_,rfl,by unfold kD;rw[m9];rfl,pc0 k⟩
 | .inr i::k=>by rw[List.map_cons,List.map_cons,o8];exact⟨_,_,rfl,by unfold kD;rw[Y8];rfl,pc0 k⟩
theorem ju0(hb:∀a,B a->NB (H a)):∀{ks:List (List N6)} {ys:List V},KyV H ks ys->Rps K H B (ks.map ktD) ys
 | [],[],_=>by rw[List.map_nil,j5]
 | [],_::_,h=>h.elim
 | _::_,[],h=>h.elim
 | k::ks,y::ys,h=>by
  obtain⟨⟨b,rfl,e⟩,h2⟩:=h;rw[List.map_cons,o8];refine⟨_,_,rfl,?_,ju0 hb h2⟩;unfold ktD;rw[X8];exact⟨b,_,rfl,⟨λz=>(hb b z).nt _ e,e⟩,pc0 k⟩
theorem ik0:FnR K (λxs H Q=>∃(d:Addr) (kvs:List (List Key×V)),xs=[.ref d]/\H d=some (.dT kvs)/\∀l ys,H l=none->KyV H (kvs.map (·.1)) ys->Q (.ref l) (upd H l (.lst ys))) vk0:=by
 intro H B xs ds d Q hb r h k;unfold vk0 at h;split at h
 ·cases h
  obtain⟨v,rfl,r1⟩:=J9 r;rw[vy0] at r1;obtain⟨p,ys,rfl,_,hp,hl,rr⟩:=r1;refine⟨p,_,rfl,hp,λl zs F hk=>k _ _ (Y5 F) ?_⟩;rw[List.map_fst_zip (P5 hl)] at hk;exact sa0 hb F (ju0 hb hk)
 ·cases h
end DL
namespace ZipL
open Spec PyProof.Rows
section
variable{w:World}{s:Shared}
theorem l90{TI TO:Addr}{k1 k2:Nat}{xs ys:Array Value}{x y a b:Value}{Q:Value->Shared->Prop}(D:ZipApart z TI TO i1 i2 l1 l2)
  (hz:oh0 s.heap z TI TO) (hTI:IsPair s.heap TI (.ref i1) (.ref i2)) (hTO:IsPair s.heap TO a b)
  (h1:s.heap.IsListIter i1 l1 k1) (h2:s.heap.IsListIter i2 l2 k2) (hl1:s.heap.IsList l1 xs) (hl2:s.heap.IsList l2 ys) (hx:xs[k1]?=some x) (hy:ys[k2]?=some y)
  (hQ:∀h',oh0 h' z TI TO->(∃p q,IsPair h' TO p q)->h'.IsListIter i1 l1 (k1+1)->h'.IsListIter i2 l2 (k2+1)->IsPair h' s.heap.objs.size x y->h'.objs.size=s.heap.objs.size+1 ->
   (∀c o,c≠z->c≠TO->c≠i1->c≠i2->s.heap.get? c=some o->h'.get? c=some o)->Q (.ref s.heap.objs.size) { s with heap:=h' }) :
  wpAny (model prog w) A (Builtin.SmallTypes.nextOf (.ref z)) Q E s:=by
 obtain⟨v,f,hz,hv⟩:=hz;have hT:s.TypeIs (.ref z) "zip" := ⟨_,hz,rfl⟩;have again:(∀(E':Value->Shared->Prop) (A':Around) (Q':Bool->Shared->Prop),Q' true s->wpAny (model prog w) A' (Builtin.SmallTypes.ownedTupleIsFree (.ref z)) Q' E' s)->wpAny (model prog w) A (Builtin.SmallTypes.nextOf (.ref z)) Q E s:=λhf=>by
  unfold Builtin.SmallTypes.nextOf;exact A0 (E7 (name:=Str.ofString "__next__") hT K2
   (D0 K2 hT i8
    (my0 D hz (λQ' q=>hf _ _ Q' q) hTI hTO h1 h2 hl1 hl2 hx hy λh' a1 a2 a3 a4 a5 a6 a7=>A1 (hQ h' ⟨_,_,a1,.inr ⟨_,rfl⟩⟩ ⟨_,_,a2⟩ a3 a4 a5 a6 a7)) (i9 _)))
 rcases hv with rfl|⟨a0,rfl⟩
 ·exact again λE' A' Q' q=>ri0 hz q
 ·cases e:s.heap.get? a0 with
  | none=>exact again λE' A' Q' q=>sp0 hz e q
  | some oa =>
   unfold Builtin.SmallTypes.nextOf;exact A0 (E7 (name:=Str.ofString "__next__") hT K2
    (D0 K2 hT i8
     (hh0 D hz e hTI h1 h2 hl1 hl2 hx hy λh' b1 b2 b3 b4 b5 b6=>A1 (hQ h' ⟨_,_,b1,.inr ⟨_,rfl⟩⟩ ⟨_,_,b6 _ _ D.TOz D.TOi1 D.TOi2 hTO⟩ b2 b3 b4 b5 λc o c1 _ c3 c4 q=>b6 c o c1 c3 c4 q)) (i9 _)))
theorem s40{TI TO:Addr}{k1 k2:Nat}{xs ys:Array Value}{a b:Value}{Q:Value->Shared->Prop}(hh:A.handled=none)(D:ZipApart z TI TO i1 i2 l1 l2)
  (hz:oh0 s.heap z TI TO) (hTI:IsPair s.heap TI (.ref i1) (.ref i2)) (hTO:IsPair s.heap TO a b)
  (h1:s.heap.IsListIter i1 l1 k1) (h2:s.heap.IsListIter i2 l2 k2) (hl1:s.heap.IsList l1 xs) (hl2:s.heap.IsList l2 ys) (hend:xs[k1]?=none∨ys[k2]?=none)
  (hE:∀h' e,(∀c o,c≠z->c≠TO->c≠i1->c≠i2->s.heap.get? c=some o->h'.get? c=some o)->(∃o,h'.get? e=some o/\o.cls=.type "StopIteration")->E (.ref e) { s with heap:=h' }) :
  wpAny (model prog w) A (Builtin.SmallTypes.nextOf (.ref z)) Q E s:=by
 obtain⟨v,f,hz,hv⟩:=hz;have hT:s.TypeIs (.ref z) "zip" := ⟨_,hz,rfl⟩;have again:(∀(E':Value->Shared->Prop) (A':Around) (Q':Bool->Shared->Prop),Q' true s->wpAny (model prog w) A' (Builtin.SmallTypes.ownedTupleIsFree (.ref z)) Q' E' s)->wpAny (model prog w) A (Builtin.SmallTypes.nextOf (.ref z)) Q E s:=λhf=>by
  unfold Builtin.SmallTypes.nextOf;exact A0 (E7 (name:=Str.ofString "__next__") hT K2
   (D0 K2 hT i8 (lx0 hh D hz (λQ' q=>hf _ _ Q' q) hTI hTO h1 h2 hl1 hl2 hend hE) (i9 _)))
 rcases hv with rfl|⟨a0,rfl⟩
 ·exact again λE' A' Q' q=>ri0 hz q
 ·cases e:s.heap.get? a0 with
  | none=>exact again λE' A' Q' q=>sp0 hz e q
  | some oa =>
   unfold Builtin.SmallTypes.nextOf;exact A0 (E7 (name:=Str.ofString "__next__") hT K2
    (D0 K2 hT i8 (fw0 hh D hz e hTI h1 h2 hl1 hl2 hend λh' e hk he=>hE h' e (λc o c1 _ c3 c4 q=>hk c o c1 c3 c4 q) he) (i9 _)))
theorem jp0{e:Addr}{old:Value}{Q:Value->Shared->Prop}{R:Value->Heap->Prop}(he:IsEnum s.heap e it i old)
  (inner:∀(Q':Value->Shared->Prop),(∀x h₁,R x h₁->IsEnum h₁ e it i old->Q' x { s with heap:=h₁ })->wpAny (model prog w) A (Builtin.SmallTypes.nextOf (.ref it)) Q' E s)
  (hQ:∀x h₁ h',R x h₁->IsEnumOut h' e it ((i:Int)+1) x h₁.objs.size->h'.get? h₁.objs.size=some { cls:=.type "tuple",data:=.seq #[.int i s.toks,x] } ->
   (∀b o,b≠e->h₁.get? b=some o->h'.get? b=some o)->Q (.ref h₁.objs.size) { s with heap:=h',toks:=s.toks+1 }) :
  wpAny (model prog w) A (Builtin.«enumerate.__next__» ⟨[.ref e],[]⟩) (λfin s'=>∃v,fin=.done (.ret v)/\Q v s') E s:=by
 obtain⟨hp,g,d,tk,os⟩:=s;show wpAny _ _ (field (.ref e) 2>>=_) _ _ _;refine A0 (B5 he rfl (x:=.ref it) rfl ?_);refine A0 (inner _ λx h₁ hR S=>?_);show wpAny _ _ (field (.ref e) 3>>=_) _ _ ⟨h₁,g,d,tk,os⟩;refine A0 (B5 S rfl (x:=rawInt i) rfl ?_);show wpAny _ _ (field (.ref e) 4>>=_) _ _ ⟨h₁,g,d,tk,os⟩;refine A0 (B5 S rfl (x:=.none) rfl ?_);show wpAny _ _ (mkInt i>>=_) _ _ ⟨h₁,g,d,tk,os⟩;refine A0 (wpAny_mkInt ?_);show wpAny _ _ (setField (.ref e) 3 (rawInt ((i:Int)+1))>>=_) _ _ ⟨h₁,g,d,tk+1,os⟩;refine A0 (D5 S (by simp) λh₂ a1 J=>?_)
 replace J:Heap.SameBut e h₁ h₂:=J
 replace a1:IsEnum h₂ e it ((i:Int)+1) old:=a1
 show wpAny _ _ (setField (.ref e) 4 .none>>=_) _ _ ⟨h₂,g,d,tk+1,os⟩;refine A0 (D5 a1 (by simp) λh₃ a0 L=>?_)
 replace L:Heap.SameBut e h₂ h₃:=L
 replace a0:IsEnum h₃ e it ((i:Int)+1) old:=a0
 show wpAny _ _ (newTuple [.int i tk,x]>>=_) _ _ ⟨h₃,g,d,tk+1,os⟩;refine A0 (d4 ?_);have Y:IsEnum (h₃.push { cls:=.type "tuple",data:=.seq #[.int i tk,x] }) e it ((i:Int)+1) old:=A7 _ a0;generalize hh₄:h₃.push { cls:=.type "tuple",data:=.seq #[.int i tk,x] }=h₄ at Y;have a5:h₃.objs.size=h₁.objs.size:=by rw[L.1,J.1]
 have Z:e<h₁.objs.size:=A6 S;have a6:h₄.get? h₁.objs.size=some { cls:=.type "tuple",data:=.seq #[.int i tk,x] }:=by rw[← hh₄,← a5];exact B7 _ rfl
 have a7:∀b o,b≠e->h₁.get? b=some o->h₄.get? b=some o:=λb o F hb=>by
  rw[← hh₄];exact A7 _ (L.extBut b o F (J.extBut b o F hb))
 show wpAny _ _ (Builtin.SmallTypes.ownedTupleIsFree (.ref e)>>=_) _ _ ⟨h₄,g,d,tk+1,os⟩;rw[a5];refine A0 ?_
 ·unfold Builtin.SmallTypes.ownedTupleIsFree
  refine A0 (B5 Y rfl (x:=.none) rfl (A1 ?_));simp only[if_true];refine A0 (E2 ?_);refine A0 (B5 Y rfl (x:=old) rfl ?_);refine A0 (D5 Y (by simp) λh₅ a3 O=>?_)
  replace O:Heap.SameBut e h₄ h₅:=O
  replace a3:IsEnum h₅ e it ((i:Int)+1) x:=a3
  show wpAny _ _ (Builtin.SmallTypes.ownedTupleHandOut (.ref e) (.ref h₁.objs.size)>>=_) _ _ ⟨h₅,g,d,tk+1,os⟩;refine A0 ?_
  ·unfold Builtin.SmallTypes.ownedTupleHandOut
   refine A0 (D5 a3 (by simp) λh₆ a4 M=>?_)
   replace M:Heap.SameBut e h₅ h₆:=M
   replace a4:IsEnumOut h₆ e it ((i:Int)+1) x h₁.objs.size:=a4
   refine D5 a4 (by simp) λh₇ a2 U=>?_
   replace U:Heap.SameBut e h₆ h₇:=U
   replace a2:IsEnumOut h₇ e it ((i:Int)+1) x h₁.objs.size:=a2
   refine A0 (U2 (A1 ⟨_,rfl,hQ x h₁ h₇ hR a2 ?_ ?_⟩))
   ·exact U.extBut _ _ (L1 Z) (M.extBut _ _ (L1 Z) (O.extBut _ _ (L1 Z) a6))
   ·exact λb o F hb=>U.extBut b o F (M.extBut b o F (O.extBut b o F (a7 b o F hb)))
end
set_option maxHeartbeats 1000000 in
theorem sk0(z TI TO:Addr)(v:Value)(f:Bool) :
  Meets (Builtin.«enumerate.__new__» ⟨[.type "enumerate",.ref z],[]⟩) (λ_ R s=>zz0 s.heap z TI TO v f /\
   R (.ok (.ret (.ref s.heap.objs.size))) { s with heap:=s.heap.push { cls:=.type "enumerate",data:=.fields #[.none,.bool false,.ref z,rawInt 0,.none,.none] } }) :=
 .of_wp λprog w A R s h=>by
  obtain⟨hp,g,d,tk,os⟩:=s;obtain⟨hl,h⟩:=h;have F:=sub_enumerate
  wp_walk using j0 hl
  refine wpAny_stack_any λst=>A1 ?_
  split
  ·rename_i c _ _ _ _ _
   cases (c==Value.type "enumerate")
   ·wp_walk using j0 hl,oe0 (s:=⟨hp,g,d,tk,os⟩) hl
    exact⟨_,rfl,h⟩
   ·wp_walk using j0 hl,oe0 (s:=⟨hp,g,d,tk,os⟩) hl
    exact⟨_,rfl,h⟩
  ·wp_walk using j0 hl,oe0 (s:=⟨hp,g,d,tk,os⟩) hl
   exact⟨_,rfl,h⟩
theorem rk0{prog:Program}{w:World}{A:Around}{E:Value->Shared->Prop}{s:Shared}{TI TO:Addr}{f:Bool}{Q:Value->Shared->Prop}(hz:zz0 s.heap z TI TO v f)
  (h:∀h',IsEnum h' s.heap.objs.size z 0 .none->h'.objs.size=s.heap.objs.size+1->(∀b o,s.heap.get? b=some o->h'.get? b=some o)->Q (.ref s.heap.objs.size) { s with heap:=h' }) :
  wpAny (model prog w) A (call (.type "enumerate") [.ref z]) Q E s:=by
 refine callType_new F.called_enumerate (by decide) (F.typeCall_enumerate_1 _) (F.newCall_enumerate_1 _) (λobj=>F.args_object_init_2 obj _) F.entry_enumerate_new
  (sk0 z TI TO v f) ⟨hz,?_⟩
 have he:IsEnum (s.heap.push { cls:=.type "enumerate",data:=.fields #[.none,.bool false,.ref z,rawInt 0,.none,.none] }) s.heap.objs.size z 0 .none:=B7 _ rfl;exact⟨⟨_,he,rfl⟩,h _ he (by rw[Heap.size_push]) λb o x=>A7 _ x⟩
end ZipL
namespace L2
open Spec PyProof.Rows
def b20(K:W.Frag)(a b:Addr):It :=
 ⟨λi H=>∃xs ys x y,SqL K H a xs/\SqL K H b ys/\xs[i]?=some x/\ys[i]?=some y,
   λi H v H'=>∃t u x y,v=.ref t/\H u=none/\upd H u (.tup [x,y]) t=none/\H'=upd (upd H u (.tup [x,y])) t (.tup [.int (i:Int),.ref u])/\(∀xs,SqL K H a xs->xs[i]?=some x)/\∀ys,SqL K H b ys->ys[i]?=some y,
   λi H=>∃xs ys,SqL K H a xs/\SqL K H b ys/\(xs.length<=i∨ys.length<=i)⟩
theorem le0{P:Program}{w:World}{K:W.Frag}{elts:List Expr}{x1}{pos:Pos}{e TI TO b:Addr}(D:ZipApart z TI TO i1 i2 a b)(hne:∀c∈[z,TI,TO,i1,i2],c≠e) :
  Turn P w K (.Tuple elts x1 pos) (b20 K a b) [e,z,TI,TO,i1,i2] e
  (λi h=>(∃old,IsEnum h e z i old)/\ZipL.oh0 h z TI TO/\IsPair h TI (.ref i1) (.ref i2)/\(∃p q,IsPair h TO p q)/\h.IsListIter i1 a i/\h.IsListIter i2 b i) where
 mem:=by simp
 obj:=λi h st c hc=>by
  obtain⟨⟨old,he⟩,⟨v,f,hz,_⟩,F,⟨p,q,J⟩,⟨o1,e1,c1,d1⟩,⟨o2,e2,c2,d2⟩⟩:=st;simp only[List.mem_cons,List.not_mem_nil,or_false] at hc;rcases hc with rfl|rfl|rfl|rfl|rfl|rfl
  ·exact⟨_,he,λv z=>nomatch z⟩
  ·exact⟨_,hz,λv z=>nomatch z⟩
  ·exact⟨_,F,λv z=>nomatch z⟩
  ·exact⟨_,J,λv z=>nomatch z⟩
  ·exact⟨_,e1,λv z=>by rw[d1] at z;cases z⟩
  ·exact⟨_,e2,λv z=>by rw[d2] at z;cases z⟩
 keep:=λi h h' st k=>by
  obtain⟨⟨old,he⟩,⟨v,f,hz,hv⟩,F,⟨p,q,J⟩,h1,h2⟩:=st;exact⟨⟨old,k e (by simp) _ he⟩,⟨v,f,k z (by simp) _ hz,hv⟩,k TI (by simp) _ F,⟨p,q,k TO (by simp) _ J⟩,h1.at λo e=>k i1 (by simp) o e,h2.at λo e=>k i2 (by simp) o e⟩
 item:=by
  intro X hP hw hK hc i pins s σ H E I hf st hg;subst hP hw hK;obtain⟨⟨old,he⟩,hz,F,⟨p,q,J⟩,h1,h2⟩:=st;obtain⟨xs,ys,x,y,L,M,hx,hy⟩:=hg;obtain⟨us,U,p1,z1⟩:=I.list L;obtain⟨ws,S,p2,z2⟩:=I.list M;obtain⟨u,hu,ru⟩:=U.get hx;obtain⟨w,hw,c4⟩:=S.get hy;have hT:s.TypeIs (.ref e) "enumerate" := ⟨_,he,rfl⟩;have ez:e≠z:=(hne z (by simp)).symm;have c0:e≠TI:=(hne TI (by simp)).symm;have a8:e≠TO:=(hne TO (by simp)).symm;have a0:e≠i1:=(hne i1 (by simp)).symm;have Y:e≠i2:=(hne i2 (by simp)).symm;unfold pyNext;refine A0 (P8 (E7 (name:=Str.ofString "__next__") hT j3
   (D0 j3 hT Co0
    (ZipL.jp0 he (R:=λv h'=>v=.ref s.heap.objs.size/\ZipL.oh0 h' z TI TO/\(∃p q,IsPair h' TO p q)/\h'.IsListIter i1 a (i+1)/\h'.IsListIter i2 b (i+1)/\IsPair h' s.heap.objs.size u w/\h'.objs.size=s.heap.objs.size+1 /\
      (∀c o,c≠z->c≠TO->c≠i1->c≠i2->s.heap.get? c=some o->h'.get? c=some o))
     (λQ' b0=>ZipL.l90 D hz F J h1 h2 p1.isList p2.isList (x:=u) (y:=w) (by simpa using hu) (by simpa using hw) λh' a1 a2 a3 a4 a5 a6 hk=>b0 _ h' ⟨rfl,a1,a2,a3,a4,a5,a6,hk⟩ (hk _ _ ez a8 a0 Y he))
     λv h₁ h' hR ho b5 b4=>A1 ?_) (Cp0 _))))
  obtain⟨rfl,a1,a2,a3,a4,a5,a6,hk⟩:=hR;refine⟨_,rfl,wpAny_letOwnedTupleGo_enum (s:={ s with heap:=h',toks:=s.toks+1 }) ho λZ b1 hs=>?_⟩;have lt:∀{c o},s.heap.get? c=some o->c<s.heap.objs.size:=λe=>A6 e
  obtain⟨v0,f0,b6,_⟩:=id hz;have le:=lt he;have lz:=lt b6;have c6:=lt J;have c5:=lt F;obtain⟨o1,e1,_⟩:=id h1;obtain⟨o2,e2,_⟩:=id h2;have l1:=lt e1;have l2:=lt e2;have a7:∀c∈[e,z,TI,TO,i1,i2],c<s.heap.objs.size:=λc hc=>by
   simp only[List.mem_cons,List.not_mem_nil,or_false] at hc;rcases hc with rfl|rfl|rfl|rfl|rfl|rfl<;>assumption
  obtain⟨I1,fr⟩:=I.turnedNew (h':=h₁) (t':=s.toks) (fp:=[e,z,TI,TO,i1,i2]) hf ru c4 a7 a5 (λc o hc e=>by
   simp only[List.mem_cons,List.not_mem_nil,or_false,not_or] at hc;exact hk c o hc.2.1 hc.2.2.2.1 hc.2.2.2.2.1 hc.2.2.2.2.2 e)
  have up:∀c o,c≠e->h₁.get? c=some o->Z.get? c=some o:=λc o hc q=>(hs.2 c hc).trans (b4 c o hc q)
  obtain⟨I2,b2⟩:=I1.turnedNew (h':=Z) (t':=s.toks+1) (fp:=[e,z,TI,TO,i1,i2]) (x:=.int (i:Int)) (u:=.int i s.toks) (y:=.ref s.heap.objs.size) (w:=.ref s.heap.objs.size) (λb hb=>⟨fr b hb,(hf b hb).2⟩) ⟨_,rfl⟩ rfl
   (λc hc=>by show c<h₁.objs.size;rw[a6];exact N3 (a7 c hc)) ((hs.2 _ (by show h₁.objs.size≠e;rw[a6];exact L1 (N3 le))).trans b5) (λc o hc q=>by
   simp only[List.mem_cons,List.not_mem_nil,or_false,not_or] at hc;exact up c o hc.1 q)
  refine⟨.ref h₁.objs.size,_,I2,rfl,⟨_,s.heap.objs.size,x,y,rfl,I.hok.fresh (A4 _),I1.hok.fresh (A4 _),rfl,λys O=>by rw[I.list_inj O L];exact hx,λc7 O=>by rw[I.list_inj O M];exact hy⟩,
   ⟨⟨_,by simpa using b1⟩,?_,up _ _ c0.symm (hk _ _ D.TIz D.TITO D.TIi1 D.TIi2 F),?_,a3.at λo q=>up _ o a0.symm q,a4.at λo q=>up _ o Y.symm q⟩,b2⟩
  ·obtain⟨v,f,q1,q2⟩:=a1
   exact⟨v,f,up _ _ ez.symm q1,q2⟩
  ·obtain⟨p',q',r⟩:=a2
   exact⟨p',q',up _ _ a8.symm r⟩
 done:=by
  intro X hP hw hK hc i pins s σ H E I hf st hg;subst hP hw hK;obtain⟨⟨old,he⟩,hz,F,⟨p,q,J⟩,h1,h2⟩:=st;obtain⟨xs,ys,L,M,a9⟩:=hg;obtain⟨us,U,p1,z1⟩:=I.list L;obtain⟨ws,S,p2,z2⟩:=I.list M;have l1:=U.length;have l2:=S.length;have hT:s.TypeIs (.ref e) "enumerate" := ⟨_,he,rfl⟩;unfold pyNext;refine A0 (P8 (E7 (name:=Str.ofString "__next__") hT j3
   (D0 j3 hT Co0 ?_ (Cp0 _))))
  show wpAny _ _ (field (.ref e) 2>>=_) _ _ _;refine A0 (B5 he rfl (x:=.ref z) rfl ?_);refine A0 (ZipL.s40 (A:=X.A.in1) (I.ok.hd hc) D hz F J h1 h2 p1.isList p2.isList (a9.imp (λh=>by simp;omega) λh=>by simp;omega) λh' x hk b3=>?_);obtain⟨o,ho,c3⟩:=b3;refine A0 (y4 (T := "StopIteration") (b:=true) ⟨o,ho,c3⟩ isSubtype_stop ?_);refine A1 ⟨rfl,I.turnedL (t':=s.toks) (fp:=[e,z,TI,TO,i1,i2]) hf λc o hc e=>?_⟩;simp only[List.mem_cons,List.not_mem_nil,or_false,not_or] at hc;exact hk c o hc.2.1 hc.2.2.2.1 hc.2.2.2.2.1 hc.2.2.2.2.2 e
 self:=λ_ _ _ _ _ st h=>by
  obtain⟨⟨old,he⟩,_⟩:=st;exact wpAny_pyIter_enum he h
def bm0(K:W.Frag)(ta:TA):TI:=fun σ H R=>ta σ H λvs H1=>∃a b,vs=[.ref a,.ref b]/\(∃xs,SqL K H1 a xs)/\(∃ys,SqL K H1 b ys)/\R (b20 K a b) H1
theorem gc0{a:Expr}{ta:TA}{p pos p2 pos2:Pos}(hg1:Gl X "enumerate")(hm1:X.mg "enumerate"=none)(hg:Gl X "zip")(hm:X.mg "zip"=none)(ha:PA X [a,b] ta)
  (e1:starEach [.Call (.Name "zip" p2) [a,b] [] pos2] X.env=(false,eval (.Call (.Name "zip" p2) [a,b] [] pos2) X.env)::starEach [] X.env:=by rfl) (h1':(backTo pos (starEach [] X.env)).any (·.1)=false:=by rfl)
  (hs:starEach [a,b] X.env=(false,eval a X.env)::starEach [b] X.env:=by rfl) (hs2:(backTo pos2 (starEach [b] X.env)).any (·.1)=false:=by rfl) :
  PI X (.Tuple elts x1 tpos) (.Call (.Name "enumerate" p) [.Call (.Name "zip" p2) [a,b] [] pos2] [] pos) (bm0 X.K ta):=by
 intro pins s σ H R I h;refine Call_ (zo0 I hg1 hm1 lp0 ?_);refine M1 ?_ e1 h1';rw[e1];show wpAny _ _ (spliced ((false,eval (.Call (.Name "zip" p2) [a,b] [] pos2) X.env)::backTo pos (starEach [] X.env))) _ _ s;refine Y1 ?_;refine P1 (zo0 I hg hm boot_zip ?_);refine M1 (thn (ha pos2 pins s σ H _ I h) λus s1 ⟨vs,H1,I1,r1,q1⟩=>?_) hs hs2;obtain⟨qa,qb,e,⟨xs,h1⟩,⟨ys,h2⟩,q⟩:=q1;subst e;cases r1 with
 | cons r rr =>
  cases rr with
  | cons r' rr =>
   cases rr;obtain rfl:=r;obtain rfl:=r';obtain⟨us1,v1,p1,z1⟩:=I1.list h1;obtain⟨us2,v2,p2,z2⟩:=I1.list h2;have a1:qa<s1.heap.objs.size:=by obtain⟨_,e,_⟩:=p1.isList;exact A6 e
   have a2:qb<s1.heap.objs.size:=by obtain⟨_,e,_⟩:=p2.isList;exact A6 e
   refine call_zip_2 p1.isList p2.isList λh' hz L M hi1 hi2 O hk=>X9 ?_
   refine ZipL.rk0 (s:={ s1 with heap:=h' }) hz λJ he S F=>?_
   refine wpAny_pyIter_enum (s:={ s1 with heap:=J }) he ?_;have sz:h'.objs.size=s1.heap.objs.size+5:=O;refine⟨_,_,_,_,H1,rfl,I1.kept (t':=s1.toks) λb o q=>F b o (hk b o q),le0 (zipApart_new a1 a2) (λc hc=>?_),⟨⟨_,he⟩,⟨_,_,F _ _ hz,.inl rfl⟩,F _ _ L,⟨_,_,F _ _ M⟩,hi1.at λo q=>F _ o q,hi2.at λo q=>F _ o q⟩,λb hb=>?_,q⟩
   ·simp only[List.mem_cons,List.not_mem_nil,or_false] at hc
    show c≠h'.objs.size;rw[sz];rcases hc with rfl|rfl|rfl|rfl|rfl<;>exact B0 (by omega)
   ·simp only[List.mem_cons,List.not_mem_nil,or_false] at hb
    rcases hb with rfl|rfl|rfl|rfl|rfl|rfl
    ·show ym0 X pins H1 h'.objs.size
     rw[sz];exact I1.fpOk (D7 _ 5) (I1.hok.fresh (D7 _ 5))
    ·exact I1.fpOk (D7 _ 4) (I1.hok.fresh (D7 _ 4))
    ·exact I1.fpOk (D7 _ 2) (I1.hok.fresh (D7 _ 2))
    ·exact I1.fpOk (D7 _ 3) (I1.hok.fresh (D7 _ 3))
    ·exact I1.fpOk (A4 _) (I1.hok.fresh (A4 _))
    ·exact I1.fpOk (D7 _ 1) (I1.hok.fresh (D7 _ 1))
end L2
namespace DL
open Spec PyProof.Rows L2
def xj0(ds es:List D):List D:=q90 ((ds.zip es).map λp=>D.tup [p.1,p.2])
def nj0:List D->Option (List D)
 | [.lst ds,.lst es]=>some (xj0 ds es)
 | _=>none
theorem qr0{es:List D}(h1:i<ds.length)(h2:i<es.length):(xj0 ds es)[i]?=some (.tup [.int (i:Int),.tup [ds[i],es[i]]]):=by
 have hz:(ds.zip es)[i]?=some (ds[i],es[i]):=Cr0.mpr ⟨C9 h1,C9 h2⟩;unfold xj0 q90;rw[List.getElem?_map,List.getElem?_range (by rw[List.length_map,List.length_zip];omega),Option.map_some,List.getD_eq_getElem?_getD,List.getElem?_map,hz];rfl
def wa0(gA:Ds->Option (List D)):Ds->Option (List D):=fun δ=>(gA δ).bind nj0
section
variable{a:Expr}
theorem jh0(hm1:X.mg "enumerate"=none)(hm:X.mg "zip"=none)(ha:PDA X [a,b] gA)(hg1:Gl X "enumerate" := by rfl)(hg:Gl X "zip" := by rfl)
  (e1:starEach [.Call (.Name "zip" p2) [a,b] [] pos2] X.env=(false,eval (.Call (.Name "zip" p2) [a,b] [] pos2) X.env)::starEach [] X.env:=by rfl) (h1':(backTo pos (starEach [] X.env)).any (·.1)=false:=by rfl)
  (hs:starEach [a,b] X.env=(false,eval a X.env)::starEach [b] X.env:=by rfl) (hs2:(backTo pos2 (starEach [b] X.env)).any (·.1)=false:=by rfl) :
  PID X (.Tuple elts x1 tpos) (.Call (.Name "enumerate" p) [.Call (.Name "zip" p2) [a,b] [] pos2] [] pos) (wa0 gA):=.mk λB δ=>L2.PI.imp (gc0 hg1 hm1 hg hm (ha B δ) e1 h1' hs hs2) fun σ H R ⟨items,en,e1,k⟩=>by
 unfold wa0 at e1;cases e2:gA δ with
 | none=>rw[e2] at e1;cases e1
 | some ds =>
  rw[e2] at e1;simp only[Option.bind_some] at e1;unfold nj0 at e1;split at e1<;>try cases e1
  rename_i ds es;refine⟨_,en,e2,λvs H' s' r=>?_⟩;rw[o8] at r;obtain⟨x,t,rfl,r1,r⟩:=r;rw[o8] at r;obtain⟨y,t,rfl,r2,r⟩:=r;rw[j5] at r;subst r;rw[W2] at r1 r2;obtain⟨q1,us,rfl,s1,t1⟩:=r1;obtain⟨q2,ws,rfl,s2,t2⟩:=r2;have F:(xj0 ds es).length=min us.length ws.length:=by unfold xj0 q90;simp[t1.length,t2.length]
  refine⟨q1,q2,rfl,⟨us,s1.to⟩,⟨ws,s2.to⟩,k _ H' s' ⟨λi H2 g2 hi=>?_,λi H2 v H3 g2 y hi=>?_,λi H2 g2 hi=>?_⟩⟩
  ·rw[F] at hi
   have h1:i<us.length:=by omega
   have h2:i<ws.length:=by omega
   exact⟨us,ws,us[i],ws[i],(s1.mono g2).to,(s2.mono g2).to,by simp[h1],by simp[h2]⟩
  ·obtain⟨t,u,x,y,rfl,hu,ht,rfl,hx,hy⟩:=y
   rw[F,t1.length,t2.length] at hi;have h1:i<ds.length:=by omega
   have h2:i<es.length:=by omega
   obtain⟨x',e4,rx⟩:=t1.get (i:=i) (C9 h1);obtain⟨y',e5,ry⟩:=t2.get (i:=i) (C9 h2);have ex:=hx us (s1.mono g2).to;have ey:=hy ws (s2.mono g2).to;rw[e4] at ex;rw[e5] at ey;cases ex;cases ey;have tu:t≠u:=λz=>by subst z;rw[Z6] at ht;cases ht
   have J:H2 t=none:=by rw[Z8 tu] at ht;exact ht
   refine⟨(Y5 hu).trans (Y5 ht),.tup [.int (i:Int),.tup [ds[i],es[i]]],qr0 h1 h2,λB' gB hb=>?_⟩;exact m70 (λz=>hb t z J) Z6 (by rw[m9]) (m70 (λz=>hb u z hu) (by rw[Z8 tu.symm,Z6]) (rx.mono gB) (ry.mono gB))
  ·rw[F] at hi
   exact⟨us,ws,(s1.mono g2).to,(s2.mono g2).to,by omega⟩
end
end DL
namespace SoT
open PyProof.Rows
section
variable{P:Program}{w:World}{s:Shared}
theorem ir0{d:Value}{Q:Value->Shared->Prop}(col:∀(R:List Value->Shared->Prop) (E:Value->Shared->Prop),(∀h' tk,(∀b o,s.heap.get? b=some o->h'.get? b=some o)->R vs { s with heap:=h',toks:=tk })->wpAny (model P w) A.in1 (collect d) R E s)
  (hv:Prs s.heap vs) (h64:vs.length<=sizeLine)
  (h:∀(h' h1:Heap) (tk e:Nat) (out:Array Value),(∀b o,s.heap.get? b=some o->h'.get? b=some o)->out.toList.Perm vs->(out.toList.map (pk s.heap)).Pairwise (λx y=>lt2 x y=true)->(∀b o,h'.get? b=some o->h1.get? b=some o) ->
   h1.get? h'.objs.size=some (seqObj "list" out e)->Q (.ref h'.objs.size) { s with heap:=h1,toks:=tk }) :
  wpAny (model P w) A (call (.builtin "sorted") [d]) Q E s:=by
 refine C80 kind_sorted plain_sorted entry_sorted (args_sorted1 _) ?_;unfold Builtin.«sorted»;refine A0 (m:=checkCount "sorted" 1 1 _) (A1 (A0 (col _ _ λh' tk hk=>A0 (A00 ?_))));obtain⟨g,hg⟩:∃g,g=h'.push (seqObj "list" vs.toArray 0):=⟨_,rfl⟩;have F:g.get? h'.objs.size=some (seqObj "list" vs.toArray 0):=by rw[hg];exact B7 _ rfl
 have kg:∀c o,s.heap.get? c=some o->g.get? c=some o:=λc o e1=>by rw[hg];exact A7 _ (hk c o e1)
 obtain⟨J,L⟩:=hv.to λc o e1 _=>kg c o e1
 show wpAny _ _ _ _ _ { s with heap:=h'.push (seqObj "list" vs.toArray 0),toks:=tk };rw[← hg];refine A0 (C7 (D0 slot_list_sort ⟨_,F,rfl⟩ entry_list_sort (k30 (s:={ s with heap:=g,toks:=tk }) F J h64 λout p1 p2=>⟨_,rfl,?_⟩) (args_list_sort _)));refine A1 ⟨_,rfl,?_⟩;have p3:(out.toList.map (pk s.heap)).Pairwise (λx y=>lt2 x y=true):=by
  rw[← List.map_congr_left λv hv=>L v (p1.mem_iff.mp hv)];exact p2
 have M:g.objs.size=h'.objs.size+1:=by rw[hg,Heap.size_push]
 obtain⟨e,he⟩:=sortedHeap_at (out:=out) F;refine h h' _ tk e out hk p1 p3 (λc o q=>?_) he;have lc:=A6 q;rw[sortedHeap_old (B0 lc) (by rw[M];exact N3 lc),hg];exact A7 _ q
end
end SoT
namespace L2
open Spec PyProof.Rows SoT
section
variable{s:Shared}
theorem kl0:∀{ps:List (Int×Int)} {ys:List V},KyV H (ps.map λq=>[Sum.inl q.1,Sum.inl q.2]) ys->PrV H ys ps
 | [],[],_=>trivial
 | [],_::_,h=>h.elim
 | _::_,[],h=>h.elim
 | q::ps,y::ys,h=>⟨h.1,kl0 h.2⟩
theorem nq0:∀{zs:List V} {qs:List (Int×Int)} {z:V},PrV H zs qs->z∈zs->∃a,z=.ref a/\∃xs,H a=some (.tup xs)
 | [],_,_,_,hz=>by cases hz
 | _::_,[],_,h,_=>h.elim
 | y::zs,q::qs,z,h,hz=>by
  obtain⟨⟨b,e,hb⟩,h2⟩:=h;rcases B3.mp hz with rfl|hz
  ·exact⟨b,e,_,hb⟩
  ·exact nq0 h2 hz
theorem mn0(hc:X.calm=true:=by rfl):CallR X (.builtin "sorted") (λxs H Q=>∃(d:Addr) (kvs:List (List Key×V)) (ps:List (Int×Int)),xs=[.ref d]/\H d=some (.dT kvs)/\kvs.map (·.1)=(ps.map λq=>[Sum.inl q.1,Sum.inl q.2])/\ps.Nodup /\
  ∀l zs,H l=none->PrV H zs (srt ps)->Q (.ref l) (upd H l (.lst zs))):=by
 intro pins s σ H xs us Q I r h;obtain⟨d,kvs,ps,rfl,e,U,hn,k⟩:=h;obtain⟨u,rfl,rx⟩:=vals1 r;cases rx;obtain⟨z,hd,zs,L,o,es,ep,h1,h2,h3,h4,h5⟩:=(show ObjOk X.prog X.w H s.heap d (.dT kvs) from I.hok d _ e);have hl:=L.length;have O:es.size=kvs.length:=by rw[← Array.length_toList,h4,List.length_map,hl]
 have ky:∀{a:List (List Key×V)} {b:List (List Key×Addr×Value)},Paired (λ(p:List Key×V) (q:List Key×Addr×Value)=>p.1=q.1/\H q.2.1=some (.tup (p.1.map kV))/\RelV p.2 q.2.2) a b->KyV H (a.map (·.1)) (b.map λq=>V.ref q.2.1):=by
  intro a b q
  induction q with
  | nil=>trivial
  | cons q t ih=>exact⟨⟨_,rfl,q.2.1⟩,ih⟩
 have hp:PrV H (zs.map λq=>V.ref q.2.1) ps:=kl0 (by rw[← U];exact ky L);have rv:∀l:List (List Key×Addr×Value),Vals (l.map λq=>V.ref q.2.1) (l.map λq=>Value.ref q.2.1):=λl=>by
  induction l with
  | nil=>exact .nil
  | cons q l ih=>exact .cons rfl ih
 obtain⟨i1,i2,i3⟩:=oj0 I (rv zs) hp;refine ir0 (vs:=zs.map λq=>Value.ref q.2.1) (λR E hR=>?_) ⟨i2,by rw[i1];exact hn⟩ (by rw[List.length_map,← hl];exact z) λh' Y tk ee J hk p1 p2 S he=>?_
 ·refine W.kdu_collect (RawD.src (es:=es) (ep:=ep) hd) (I.ok.hd hc) ⟨o,h1,h2,h3⟩ (by rw[O];exact z) λh' tk M hk F=>?_
  have e1:M.toList=zs.map λq=>Value.ref q.2.1:=by
   refine i5 λi=>?_
   cases hq:M.toList[i]? with
   | none =>
    rw[List.getElem?_eq_none_iff,Array.length_toList,F.1,O] at hq;rw[List.getElem?_eq_none (by rw[List.length_map];omega)]
   | some v =>
    obtain⟨en,e2,e3⟩:=F.2 i v (by rw[← Array.getElem?_toList];exact hq);rw[← Array.getElem?_toList,h4,List.getElem?_map] at e2;rw[List.getElem?_map];cases hz:zs[i]? with
    | none=>rw[hz] at e2;cases e2
    | some q=>rw[hz] at e2;cases e2;rw[e3];rfl
  rw[e1];exact hR h' tk hk
 ·have hs:J.toList.map (pk s.heap)=srt ps:=by
   refine kz0 ?_ p2;have:=p1.map (pk s.heap)
   rwa [i1] at this
  obtain⟨ys,y1,y2,y3⟩:=ur0 (H:=H) (h:=s.heap) (ys:=zs.map λq=>V.ref q.2.1) (vs:=J.toList) λv hv=>i3 v (p1.mem_iff.mp hv)
  rw[hs] at y2;have I1:Inv X pins σ H { s with heap:=h',toks:=tk }:=I.kept (t':=tk) hk;refine⟨.ref h'.objs.size,_,I1.laid (t':=tk) (a:=h'.objs.size) (o:=.lst ys) (λb o hb=>S b o hb) (A4 _) ⟨?_,J.toList,ee,y1,he⟩,rfl,k _ ys (I1.hok.fresh (A4 _)) y2⟩;rw[y1.length,p1.length_eq,List.length_map,← hl];exact z
end
end L2
namespace DL
open Spec PyProof.Rows L2 SoT
def kyP:List (List N6)->Option (List (Int×Int))
 | []=>some []
 | [.inl i,.inl j]::ks=>(kyP ks).map λr=>(i,j)::r
 | _=>none
def xt0:List D->Option D
 | [.dct (.inr ks) _]=>(kyP ks).bind λps=>if ps.Nodup then some (.lst ((srt ps).map pD)) else none
 | _=>none
theorem je0:∀{ks:List (List N6)} {ps:List (Int×Int)},kyP ks=some ps->ks=ps.map λq=>[Sum.inl q.1,Sum.inl q.2]
 | [],ps,h=>by unfold kyP at h;cases h;rfl
 | [.inl i,.inl j]::ks,ps,h=>by
  unfold kyP at h;cases e:kyP ks with
  | none=>rw[e] at h;cases h
  | some r=>rw[e] at h;cases h;rw[List.map_cons,← je0 e]
 | []::_,_,h=>by simp[kyP] at h
 | [_]::_,_,h=>by simp[kyP] at h
 | (.inr _::_)::_,_,h=>by simp[kyP] at h
 | (_::.inr _::_)::_,_,h=>by simp[kyP] at h
 | (_::_::_::_)::_,_,h=>by simp[kyP] at h
theorem jr0:∀ps:List (Int×Int),kyP (ps.map λq=>[Sum.inl q.1,Sum.inl q.2])=some ps
 | []=>rfl
 | q::ps=>by show (kyP (ps.map _)).map _=_;rw[jr0 ps];rfl
theorem i60{ps:List (Int×Int)}(h1:ps.Nodup):xt0 [.dct (.inr (ps.map λq=>[Sum.inl q.1,Sum.inl q.2])) ds]=some (.lst ((srt ps).map pD)):=by
 show (kyP _).bind _=_;rw[jr0,Option.bind_some,if_pos h1]
theorem sw0(hc:X.calm=true)(hm:X.mg "sorted"=none)(hv:bootBuiltins "sorted"=some (.builtin "sorted"))(ha:PD X e g)(hg:Gl X "sorted" := by rfl)
  (he:starEach [e] X.env=(false,eval e X.env)::starEach [] X.env:=by rfl) (hpl:(backTo pos (starEach [] X.env)).any (·.1)=false:=by rfl) :
  PDF X (.Call (.Name "sorted" p) [e] [] pos) (oA (z9 g v8) xt0):=.mk λB δ=>(wl0 (mn0 hc) hg hm hv (J7 (ha B δ) xh0 he) (by decide) (by decide) he hpl).imp fun σ H Q ⟨d,en,h,k⟩=>by
 unfold oA z9 v8 at h;cases e1:g δ with
 | none=>rw[e1] at h;cases h
 | some x =>
  rw[e1] at h;simp only[Option.bind_some,Option.map_some] at h;refine⟨x,en,e1,λv H1 s1 r1=>?_⟩;unfold xt0 at h;split at h
  ·rename_i ks ds he1
   injection he1 with he1
   subst he1;cases e2:kyP ks with
   | none=>rw[e2] at h;cases h
   | some ps =>
    rw[e2] at h;simp only[Option.bind_some] at h;split at h
    ·rename_i hz
     cases h;rw[vy0] at r1;obtain⟨q,xs,rfl,_,hq,hl,rr⟩:=r1;refine⟨q,ks.zip xs,ps,rfl,hq,by rw[← je0 e2];exact List.map_fst_zip (P5 hl),hz,λl zs F L=>?_⟩;refine k l _ (s1.free F) (s1.trans (Y5 F)) ⟨zs,Z6,?_⟩;refine Rps.same (Y5 F) (pj0 L λz hz=>?_);obtain⟨a,rfl,M,J⟩:=nq0 L hz;exact⟨a,rfl,λw=>w.elim (λw=>((en.same s1).bad a w).nt _ J) λw=>by subst w;rw[F] at J;cases J⟩
    ·cases h
  ·cases h
end DL
namespace DL
open Spec PyProof.Rows L2
def orS(G1 G2:GS):GS:=fun δ=>match G1 δ with
 | some r=>some r
 | none=>G2 δ
section
variable{G1 G2:Ds->Option Res}
theorem bb0(h1:PSD X st G1)(h2:PSD X st G2):PSD X st (orS G1 G2):=.mk λH₀ B₀ δ=>by
 cases e:G1 δ with
 | some r =>
  have:orS G1 G2 δ=G1 δ:=by unfold orS;rw[e]
  intro pins s σ H Q I h;refine h1 H₀ B₀ δ pins s σ H Q I ?_;unfold tDS at h ⊢;rw[this] at h;exact h
 | none =>
  have:orS G1 G2 δ=G2 δ:=by unfold orS;rw[e]
  intro pins s σ H Q I h;refine h2 H₀ B₀ δ pins s σ H Q I ?_;unfold tDS at h ⊢;rw[this] at h;exact h
end
end DL
namespace W
open DL
def hasAll(x s:Str):Bool:=x.cps.toList.all λc=>decide (c∈s.cps.toList)
def nameS:Str := "0123456789abcdefghijklmnopqrstuvwxyz"
def q50:Str := " 0123456789abcdefghijklmnopqrstuvwxyz"
def isName(x:Str):Bool:=(decide ((x.length:Int)<=8)&&hasAll x nameS)&&decide (0<(x.length:Int))
def isWord(x:Str):Bool:=decide ((x.length:Int)<=20)&&hasAll x q50
def marks(x:D)(m:Str):Bool:=match x with
 | .str y=>decide (y=m)
 | _=>false
def sg0:D->Bool
 | .non=>true
 | .int _=>true
 | .tup [x,.int i]=>marks x "at"&&decide (0<=i)
 | _=>false
def Zo0:D->Str
 | .tup (.str n::_)=>n
 | _ => ""
inductive Pt where
 | text (w:Str)|row (vs:List D)|table (ps:List (Str×D))|rcd (c:Str) (ps:List (Str×D))
variable{ps qs:List W.Pt}
def pr(p:Str×D):D:=.tup [.str p.1,p.2]
def Pt.d:Pt->D
 | .text w=>.tup [.str "text",.str w]
 | .row vs=>.tup [.str "row",.tup vs]
 | .table ps=>.tup [.str "table",.tup (ps.map pr)]
 | .rcd c ps=>.tup [.str "record",.str c,.tup (ps.map pr)]
def Pt.vals:Pt->List D
 | .text _=>[]
 | .row vs=>vs
 | .table ps=>ps.map (·.2)
 | .rcd _ ps=>ps.map (·.2)
def Pt.pnames:Pt->List Str
 | .text _=>[]
 | .row _=>[]
 | .table ps=>ps.map (·.1)
 | .rcd _ ps=>ps.map (·.1)
def Pt.cls:Pt->List Str
 | .rcd c _=>[c]
 | _=>[]
def Pt.all(p:Pt):List Str:=p.pnames++p.cls
def lk:D->Option Int
 | .tup [_,.int i]=>some i
 | _=>none
structure PsOk(ps:List (Str×D)):Prop where
 len:ps.length<=12
 names:∀p∈ps,isName p.1=true
 vals:∀p∈ps,sg0 p.2=true
 nd:(ps.map (·.1)).Nodup
def Pt.Ok:Pt->Prop
 | .text w=>isWord w=true
 | .row vs=>vs.length<=12/\∀v∈vs,sg0 v=true
 | .table ps=>PsOk ps
 | .rcd c ps=>isName c=true/\PsOk ps
theorem ml0{n:Str}(h:isName n=true):n.length<=8:=by
 unfold isName at h;simp only[Bool.and_eq_true,decide_eq_true_eq] at h;omega
theorem po0(ps:List (Str×D)):Q8 (gN 0) noT (o2 (gv 0) (gc (.int 1)) ixD) [.un] (ps.map pr)=some (ps.map (·.2)):=by
 rw[z20 (λd=>match d with|.tup [_,v]=>v|_=>.non) (λd hd=>by
  obtain⟨p,hp,rfl⟩:=A9.mp hd;exact⟨[.sh (pr p)],rfl,rfl,rfl⟩),List.map_map]
 rfl
theorem qv0(ps:List (Str×D)):Q8 (gN 0) noT (o2 (gv 0) (gc (.int 0)) ixD) [.un] (ps.map pr)=some ((ps.map (·.1)).map .str):=by
 rw[z20 (λd=>.str (Zo0 d)) (λd hd=>by
  obtain⟨p,hp,rfl⟩:=A9.mp hd;exact⟨[.sh (pr p)],rfl,rfl,rfl⟩),List.map_map,List.map_map]
 rfl
def Pt.few(p:Pt):Prop:=p.vals.length<=sizeLine
theorem ss0{v:D}(h:sg0 v=true):v=.non∨(∃i,v=.int i)∨∃i,v=.tup [.str "at",.int i]/\0<=i:=by
 cases v with
 | non=>exact .inl rfl
 | int i=>exact .inr (.inl ⟨i,rfl⟩)
 | tup xs =>
  match xs,h with
  | [x,.int i],h =>
   simp only[sg0,Bool.and_eq_true,decide_eq_true_eq] at h;cases x<;>simp[marks] at h
   exact .inr (.inr ⟨i,by rw[h.1],h.2⟩)
 | _=>cases h
def V9:Str := "abcdefghijklmnopqrstuvwxyz0123456789"
def cg(i:Int):Nat:=V9.cps.toList.getD i.toNat 0
theorem nr0(i:Int)(h0:0<=i)(h1:i<36):ixD (.str V9) (.int i)=some (.str ⟨#[cg i]⟩):=by
 have hl:V9.cps.toList.length=36:=by decide +kernel
 have hz:V9.length<=sizeLine:=by decide +kernel
 have:=J2 (xs:=V9.cps.toList) (i:=i) h0 (by rw[hl];omega) 0;simp only[ixD,if_pos hz,this,Option.map_some];rfl
theorem ku0(i:Int)(h0:0<=i)(h1:i<36):cg i∈nameS.cps.toList:=by
 have h:∀n:Nat,n<36->V9.cps.toList.getD n 0∈nameS.cps.toList:=by decide +kernel
 exact h i.toNat (by omega)
theorem b00(i j:Int)(h0:0<=i)(h1:i<36)(h2:0<=j)(h3:j<36)(e:cg i=cg j):i=j:=by
 have h:∀n:Nat,n<36->∀m:Nat,m<36->V9.cps.toList.getD n 0=V9.cps.toList.getD m 0->n=m:=by decide +kernel
 have:=h i.toNat (by omega) j.toNat (by omega) e;omega
def ones(l:List Nat):List Str:=l.map λc=>⟨#[c]⟩
def strOf(l:List Nat):Str:=⟨l.toArray⟩
theorem join_ones(l:List Nat):Txt.join "" (ones l)=strOf l:=by
 have key:∀(l:List Nat) (F:List Nat),(ones l).foldl (λa p=>a++("" : Str).cps++p.cps) F.toArray=(F++l).toArray:=by
  intro l
  induction l with
  | nil=>intro F;simp[ones]
  | cons c l ih =>
   intro F;show (ones l).foldl _ (F.toArray++("" : Str).cps++#[c])=_;have e:F.toArray++("" : Str).cps++#[c]=(F++[c]).toArray:=by
    have:("" : Str).cps=#[]:=rfl;rw[this];simp
   rw[e,ih];simp
 cases l with
 | nil=>rfl
 | cons c l =>
  show (⟨_⟩:Str)=_;unfold strOf;congr 1;exact key l [c]
theorem r00:∀l:List Nat,((ones l).map (·.length)).sum=l.length
 | []=>rfl
 | c::l=>by
  show 1+((ones l).map (·.length)).sum=l.length+1;rw[r00 l];omega
theorem sr0(l:List Nat)(h1:0<l.length)(h2:l.length<=8)(h3:∀c∈l,c∈nameS.cps.toList):isName (strOf l)=true:=by
 unfold isName hasAll;have e:(strOf l).length=l.length:=by show l.toArray.size=_;simp
 have e2:(strOf l).cps.toList=l:=by simp[strOf]
 rw[e,e2];simp only[Bool.and_eq_true,decide_eq_true_eq,List.all_eq_true];exact⟨⟨by omega,λc hc=>by simpa using h3 c hc⟩,by omega⟩
theorem ra0{l m:List Nat}(h:strOf l=strOf m):l=m:=by
 unfold strOf at h;injection h with h
 simpa using C1 Array.toList h
end W
variable{ps qs:List W.Pt}
namespace La
open DL
def vc0:GS:=(v9 (ifD (yz0 (ob (o2 (o2 (gv 0) (gc (.int 0)) ixD) (gc (.str "text")) eqD)) (ob (o2 (o2 (gv 0) (gc (.int 0)) ixD) (gc (.str "row")) eqD)))
 (v9 (z80 (X5 v8))
 p8)
 p8)
 (v9 (z80 (R4 1 [] (tupI (o2 (gv 0) (unG y30 (gc (.int 1))) ixD)) (gN 0) noT (o2 (gv 0) (gc (.int 0)) ixD)))
 p8))
def p00:List Str:=["part"]
def K5:List D->Option D:=mkN 1 p00 vc0
def ki0:GS:=(v9 (ifD (ob (o2 (o2 (gv 0) (gc (.int 0)) ixD) (gc (.str "text")) eqD))
 (v9 (d9 (Z2 (z9 (gc (.str "text")) (z9 (o2 (gv 0) (gc (.int 1)) ixD) v8))))
 p8)
 p8)
 (v9 (ifD (ob (o2 (o2 (gv 0) (gc (.int 0)) ixD) (gc (.str "row")) eqD))
 (v9 (d9 (Z2 (z9 (gc (.str "row")) (z9 (oA (z9 (o2 (gv 0) (gc (.int 1)) ixD) v8) W0) v8))))
 p8)
 p8)
 (v9 (ifD (ob (o2 (o2 (gv 0) (gc (.int 0)) ixD) (gc (.str "table")) eqD))
 (v9 (d9 (Z2 (z9 (gc (.str "table")) (z9 (oA (z9 (oA (z9 (gv 0) v8) K5) v8) Q6) v8))))
 p8)
 p8)
 (v9 (d9 (Z2 (z9 (gc (.str "record")) (z9 (o2 (gv 0) (gc (.int 1)) ixD) (z9 (oA (z9 (oA (z9 (gv 0) v8) K5) v8) Q6) v8)))))
 p8))))
def cs0:List Str:=["part"]
def Q7:List D->Option D:=mkF 1 cs0 ki0
def o80:GS:=(v9 (ifD (ob (o2 (o2 (gv 0) (gc (.int 0)) ixD) (gc (.str "text")) eqD))
 (v9 (z80 (X5 v8))
 p8)
 p8)
 (v9 (ifD (ob (o2 (o2 (gv 0) (gc (.int 0)) ixD) (gc (.str "row")) eqD))
 (v9 (z80 (oA (z9 (o2 (gv 0) (gc (.int 1)) ixD) v8) t10))
 p8)
 p8)
 (v9 (z80 (R4 1 [] (tupI (o2 (gv 0) (unG y30 (gc (.int 1))) ixD)) (gN 0) noT (o2 (gv 0) (gc (.int 1)) ixD)))
 p8)))
def ih0:List Str:=["part"]
def m_values:List D->Option D:=mkN 1 ih0 o80
def uh0:GS:=(v9 (d9 (vm0 (Q5 isTup (o2 (gv 0) (gc (.int 0)) ixD)) (Q5 isTup (o2 (gv 0) (gc (.int 1)) ixD))))
 p8)
def ud0:List Str:=["both"]
def V3:List D->Option D:=mkF 1 ud0 uh0
def w60:GS:=(v9 (ifD (ob (o2 (gv 1) (oA (z9 (gv 0) v8) W0) ltD))
 (v9 (d9 (o2 (gv 0) (gv 1) ixD))
 p8)
 p8)
 (v9 (d9 (gc (.int 0)))
 p8))
def tu0:List Str:=["_law_script", "_law_k"]
def o9:List D->Option D:=mkF 2 tu0 w60
def ui0:GS:=(v9 (m7 (gN 2) (gc (.str "abcdefghijklmnopqrstuvwxyz0123456789")))
 (v9 (m7 (gN 3) (o2 (gc (.int 1)) (o2 (gv 0) (gc (.int 8)) m8) j7))
 (v9 (m7 (gN 0) (o2 (gv 0) (gc (.int 8)) b7))
 (v9 (U7 4 (X5 v8))
 (v9 (R7 (S5 (z9 (gv 3) v8)) (gN 5)
 (v9 (X7 (V8 4 (o2 (gv 0) (gc (.int 36)) m8)))
 (v9 (m7 (gN 0) (o2 (gv 0) (gc (.int 36)) b7))
 p8)))
 (v9 (m7 (gN 6) (y40 (vw0 (gc (.str "")) (z9 (R4 1 [2] (xg0 (gv 4)) (gN 0) noT (o2 (gv 1) (gv 0) ixD)) v8))))
 (v9 (ifD (ob (o2 (o2 (o2 (gv 1) (gc (.int 8)) b7) (gc (.int 3)) m8) (gc (.int 1)) eqD))
 (v9 (z80 (R4 1 [6] (lh0 (z9 (gc (.int 1)) (z9 (gc (.int 9)) v8))) (gN 0) noT (N5 (o2 (gc (.int 8)) (gv 1) s70) M7 (someO (gv 0)))))
 p8)
 p8)
 (v9 (m7 (gN 7) (o2 (gv 1) (gv 3) m8))
 (v9 (U7 8 (X5 v8))
 (v9 (R7 (S5 (z9 (gc (.int 8)) v8)) (gN 5)
 (v9 (m7 (gN 9) (o2 (gv 2) (o2 (o2 (y40 (o2 (gv 4) (gv 7) ixD)) (o2 (gc (.int 4)) (gv 5) U0) j7) (gc (.int 36)) m8) ixD))
 (v9 (X7 (V8 8 (o2 (o2 (N5 (gv 6) M7 (someO (gv 7))) (gv 9) j7) (N5 (gv 6) (someO (o2 (gv 7) (gc (.int 1)) j7)) M7) j7)))
 p8)))
 (v9 (lj0 8)
 p8)))))))))))
def oz0:List Str:=["_law_cell", "_law_turn", "_law_signs", "_law_size", "_law_places", "_law_k", "_law_word", "_law_at", "_law_found", "_law_sign"]
def J8:List D->Option D:=mkN 2 oz0 ui0
def t40:GS:=(v9 (d9 (o2 (o2 (o2 (o2 (gv 0) (gc (.int 2147483647)) m8) (gc (.int 1)) j7) (o2 (gc (.int 48271)) (o2 (gc (.int 7)) (gv 1) U0) j7) U0) (gc (.int 2147483647)) m8))
 p8)
def mm0:List Str:=["_law_cell", "_law_k"]
def X4:List D->Option D:=mkF 2 mm0 t40
def vs0:GS:=(v9 (m7 (gN 2) (o2 (gv 0) (gc (.int 10)) m8))
 (v9 (ifD (ob (o2 (gv 2) (gc (.int 6)) ltD))
 (v9 (d9 (Z2 (z9 (gc (.str "at")) (z9 (o2 (o2 (gv 0) (gc (.int 10)) b7) (gv 1) m8) v8))))
 p8)
 p8)
 (v9 (ifD (ob (o2 (gv 2) (gc (.int 6)) eqD))
 (v9 (d9 (gc .non))
 p8)
 p8)
 (v9 (ifD (ob (o2 (gv 2) (gc (.int 9)) ltD))
 (v9 (d9 (o2 (o2 (o2 (gv 0) (gc (.int 10)) b7) (gc (.int 3)) m8) (gc (.int 1)) iy0))
 p8)
 p8)
 (v9 (d9 (o2 (o2 (o2 (o2 (gv 0) (gc (.int 10)) b7) (gc (.int 7)) o50) (o2 (gc (.int 10)) (gc (.int 60)) o50) m8) (o2 (gc (.int 1)) (o2 (gc (.int 2)) (o2 (o2 (gv 0) (gc (.int 20)) b7) (gc (.int 2)) m8) U0) iy0) U0))
 p8)))))
def ps0:List Str:=["_law_number", "_law_many", "_law_kind"]
def U8:List D->Option D:=mkF 2 ps0 vs0
def wv0:GS:=(v9 (U7 3 (X5 v8))
 (v9 (R7 (S5 (z9 (gv 1) v8)) (gN 4)
 (v9 (m7 (gN 0) (o2 (o2 (gv 0) (gc (.int 48271)) U0) (gc (.int 2147483647)) m8))
 (v9 (X7 (V8 3 (oA (z9 (gv 0) (z9 (gv 2) v8)) U8)))
 p8)))
 (v9 (lj0 3)
 p8)))
def rn0:List Str:=["_law_number", "_law_count", "_law_many", "_law_found", "_law_k"]
def M6:List D->Option D:=mkN 3 rn0 wv0
def ua0:GS:=(v9 (m7 (gN 3) (o2 (gv 0) (gc (.int 8)) m8))
 (v9 (ifD (ob (o2 (gv 3) (gc (.int 0)) eqD))
 (v9 (d9 (Z2 (z9 (gc (.str "text")) (z9 (o2 (X5 (z9 (gc (.str "")) (z9 (gc (.str "a")) (z9 (gc (.str " a")) (z9 (o2 (o2 (gv 2) (gc (.int 0)) ixD) (gc (.str " 0")) j7) v8))))) (o2 (o2 (gv 0) (gc (.int 16)) b7) (gc (.int 4)) m8) ixD) v8))))
 p8)
 p8)
 (v9 (ifD (ob (o2 (gv 3) (gc (.int 4)) ltD))
 (v9 (d9 (Z2 (z9 (gc (.str "row")) (z9 (oA (z9 (gv 1) v8) Q6) v8))))
 p8)
 p8)
 (v9 (m7 (gN 4) (o2 (o2 (o2 (gv 0) (gc (.int 8)) b7) (gc (.int 2)) m8) (gc (.int 3)) U0))
 (v9 (m7 (gN 5) (oA (z9 (R4 1 [1,2,4] (S5 (z9 (oA (z9 (gv 1) v8) W0) v8)) (gN 0) noT (Z2 (z9 (o2 (gv 2) (o2 (o2 (gv 3) (gv 0) j7) (gc (.int 8)) m8) ixD) (z9 (o2 (gv 1) (gv 0) ixD) v8)))) v8) Q6))
 (v9 (ifD (ob (o2 (gv 3) (gc (.int 6)) ltD))
 (v9 (d9 (Z2 (z9 (gc (.str "table")) (z9 (gv 5) v8))))
 p8)
 p8)
 (v9 (d9 (Z2 (z9 (gc (.str "record")) (z9 (o2 (gv 2) (o2 (o2 (gv 0) (gc (.int 16)) b7) (gc (.int 2)) m8) ixD) (z9 (gv 5) v8)))))
 p8)))))))
def ng0:List Str:=["_law_number", "_law_some", "_law_pool_here", "_law_kind", "_law_start", "_law_pairs"]
def G3:List D->Option D:=mkF 3 ng0 ua0
def tc0:GS:=(v9 (U7 3 (X5 v8))
 (v9 (R7 (S5 (z9 (gv 1) v8)) (gN 4)
 (v9 (m7 (gN 5) (oA (z9 (o2 (o2 (gv 0) (o2 (gv 4) (oA (z9 (gv 0) v8) W0) m8) ixD) (o2 (gv 4) (o2 (gv 4) (oA (z9 (gv 0) v8) W0) b7) U0) j7) (z9 (gv 4) v8)) X4))
 (v9 (m7 (gN 6) (o2 (X5 (z9 (gc (.int 0)) (z9 (gc (.int 1)) (z9 (gc (.int 2)) (z9 (gc (.int 2)) (z9 (gc (.int 3)) (z9 (gc (.int 2)) (z9 (gc (.int 3)) (z9 (gc (.int 1)) v8))))))))) (o2 (o2 (gv 5) (gc (.int 32)) b7) (gc (.int 8)) m8) ixD))
 (v9 (ifD (ob (o2 (o2 (o2 (gv 5) (gc (.int 256)) b7) (gc (.int 16)) m8) (gc (.int 3)) eqD))
 (v9 (m7 (gN 6) (o2 (X5 (z9 (gc (.int 8)) (z9 (gc (.int 12)) v8))) (oA (z9 (o2 (o2 (gv 5) (gc (.int 8)) m8) (gc (.int 4)) ltD) v8) intOfD) ixD))
 p8)
 p8)
 (v9 (m7 (gN 7) (oA (z9 (o2 (o2 (gv 5) (gc (.int 8)) b7) (gc (.int 1)) j7) (z9 (gv 6) (z9 (gv 1) v8))) M6))
 (v9 (X7 (V8 3 (oA (z9 (gv 5) (z9 (gv 7) (z9 (gv 2) v8))) G3)))
 p8))))))
 (v9 (d9 (zi0 (oA (z9 (gv 3) v8) Q6)))
 p8)))
def mq0:List Str:=["_law_cells", "_law_many", "_law_pool_here", "_law_parts", "_law_k", "_law_number", "_law_count", "_law_some"]
def z60:List D->Option D:=mkF 3 mq0 tc0
def uc0:GS:=(v9 (ifD (ob (o2 (o2 (gv 0) (gc (.int 0)) ixD) (gc (.str "text")) eqD))
 (v9 (z80 (X5 v8))
 p8)
 p8)
 (v9 (ifD (ob (o2 (o2 (gv 0) (gc (.int 0)) ixD) (gc (.str "row")) eqD))
 (v9 (z80 (oA (z9 (o2 (gv 0) (gc (.int 1)) ixD) v8) t10))
 p8)
 p8)
 (v9 (z80 (R4 2 [] (tupI (o2 (gv 0) (unG y30 (gc (.int 1))) ixD)) (G9 0 1) noT (gv 1)))
 p8)))
def ow0:List Str:=["_law_part_here"]
def Z9:List D->Option D:=mkN 1 ow0 uc0
def uj0:GS:=(v9 (ifD (ob (o2 (o2 (gv 0) (gc (.int 0)) ixD) (gc (.str "row")) eqD))
 (v9 (d9 (Z2 (z9 (gc (.str "row")) (z9 (oA (z9 (o2 (gv 0) (gc (.int 1)) ixD) v8) W0) v8))))
 p8)
 p8)
 (v9 (ifD (ob (o2 (o2 (gv 0) (gc (.int 0)) ixD) (gc (.str "text")) eqD))
 (v9 (d9 (gv 0))
 p8)
 p8)
 (v9 (d9 (o2 (N5 (gv 0) M7 (someO (unG y30 (gc (.int 1))))) (Z2 (z9 (oA (z9 (R4 2 [] (tupI (o2 (gv 0) (unG y30 (gc (.int 1))) ixD)) (G9 0 1) noT (gv 0)) v8) Q6) v8)) j7))
 p8)))
def na0:List Str:=["_law_part_here"]
def O1:List D->Option D:=mkF 1 na0 uj0
def uf0:GS:=(v9 (ifD (ob (o2 (o2 (gv 0) (gc (.int 0)) ixD) (gc (.str "text")) eqD))
 (v9 (d9 (gv 0))
 p8)
 p8)
 (v9 (ifD (ob (o2 (o2 (gv 0) (gc (.int 0)) ixD) (gc (.str "row")) eqD))
 (v9 (d9 (Z2 (z9 (gc (.str "row")) (z9 (oA (z9 (gv 1) v8) Q6) v8))))
 p8)
 p8)
 (v9 (d9 (o2 (N5 (gv 0) M7 (someO (unG y30 (gc (.int 1))))) (Z2 (z9 (oA (z9 (R4 1 [0,1] (S5 (z9 (oA (z9 (gv 1) v8) W0) v8)) (gN 0) noT (Z2 (z9 (o2 (o2 (o2 (gv 1) (unG y30 (gc (.int 1))) ixD) (gv 0) ixD) (gc (.int 0)) ixD) (z9 (o2 (gv 2) (gv 0) ixD) v8)))) v8) Q6) v8)) j7))
 p8)))
def nh0:List Str:=["_law_part_here", "_law_some"]
def V2:List D->Option D:=mkF 2 nh0 uf0
def wu0:GS:=(v9 (U7 3 (X5 v8))
 (v9 (R7 (S5 (z9 (oA (z9 (gv 0) v8) W0) v8)) (gN 4)
 (v9 (R7 (S5 (z9 (gv 1) v8)) (gN 5)
 (v9 (U7 6 (X5 v8))
 (v9 (m7 (gN 7) (oA (z9 (o2 (gv 2) (o2 (gv 5) (gv 5) U0) j7) (z9 (o2 (gv 4) (gc (.int 31)) j7) v8)) X4))
 (v9 (R7 (xg0 (oA (z9 (o2 (gv 0) (gv 4) ixD) v8) Z9)) (gN 8)
 (v9 (m7 (gN 7) (o2 (o2 (gv 7) (gc (.int 48271)) U0) (gc (.int 2147483647)) m8))
 (v9 (ifD (ob (Q5 isTup (gv 8)))
 (v9 (m7 (gN 8) (Z2 (z9 (gc (.str "at")) (z9 (o2 (o2 (o2 (gv 8) (gc (.int 1)) ixD) (gv 1) U0) (o2 (gv 7) (gv 1) m8) j7) v8))))
 p8)
 p8)
 (v9 (X7 (V8 6 (gv 8)))
 p8))))
 (v9 (X7 (V8 3 (yl0 (oA (z9 (o2 (gv 0) (gv 4) ixD) (z9 (gv 6) v8)) V2))))
 p8)))))
 p8))
 (v9 (d9 (zi0 (oA (z9 (gv 3) v8) Q6)))
 p8)))
def rl0:List Str:=["_law_web_here", "_law_times", "_law_cell", "_law_parts", "_law_k", "_law_turn", "_law_some", "_law_number", "_law_value_here"]
def M4:List D->Option D:=mkF 3 rl0 wu0
def vo0:GS:=(v9 (m7 (gN 2) (oA (z9 (oA (z9 (gv 0) (z9 (gc (.int 0)) v8)) o9) (z9 (oA (z9 (gv 0) (z9 (gc (.int 1)) v8)) o9) v8)) J8))
 (v9 (m7 (gN 3) (oA (z9 (gv 0) (z9 (gc (.int 2)) v8)) o9))
 (v9 (m7 (gN 4) (o2 (gc (.int 1)) (o2 (gv 3) (gv 1) m8) j7))
 (v9 (d9 (oA (z9 (o2 (N5 (gv 0) (someO (gc (.int 9))) (someO (gc (.int 60)))) (X5 (z9 (oA (z9 (gv 0) (z9 (gc (.int 3)) v8)) o9) v8)) j7) (z9 (gv 4) (z9 (gv 2) v8))) z60))
 p8))))
def qj0:List Str:=["_law_script", "_law_most", "_law_pool_here", "_law_turn", "_law_many"]
def K8:List D->Option D:=mkF 2 qj0 vo0
def xx0:GS:=(v9 (m7 (gN 2) (o2 (gv 1) (oA (z9 (gv 0) v8) W0) m8))
 (v9 (U7 3 (oA (z9 (o2 (gv 0) (gv 2) ixD) v8) Z9))
 (v9 (ifD (ya0 (ob (o2 (gv 3) (X5 v8) G7)))
 (v9 (d9 (gv 0))
 p8)
 p8)
 (v9 (m7 (gN 4) (o2 (o2 (gv 1) (gc (.int 60)) b7) (y40 (oA (z9 (gv 3) v8) W0)) m8))
 (v9 (zv0 (y90 (oA (z9 (o2 (o2 (gv 1) (gc (.int 240)) b7) (gc (.int 1000000)) m8) (z9 (oA (z9 (gv 0) v8) W0) v8)) U8)) (setAt 3 (gv 4)))
 (v9 (d9 (zi0 (o2 (o2 (N5 (gv 0) M7 (someO (gv 2))) (Z2 (z9 (oA (z9 (o2 (gv 0) (gv 2) ixD) (z9 (gv 3) v8)) V2) v8)) j7) (N5 (gv 0) (someO (o2 (gv 2) (gc (.int 1)) j7)) M7) j7)))
 p8))))))
def s50:List Str:=["_law_web_here", "_law_cell", "_law_k", "_law_some", "_law_at"]
def R3:List D->Option D:=mkF 2 s50 xx0
def vi0:GS:=(v9 (U7 3 (X5 v8))
 (v9 (m7 (gN 4) (oA (z9 (o2 (gv 0) (o2 (gv 2) (gc (.int 0)) ixD) ixD) v8) Z9))
 (v9 (m7 (gN 5) (oA (z9 (o2 (gv 1) (o2 (gv 2) (gc (.int 1)) ixD) ixD) v8) Z9))
 (v9 (ifD (ob (o2 (oA (z9 (o2 (gv 0) (o2 (gv 2) (gc (.int 0)) ixD) ixD) v8) O1) (oA (z9 (o2 (gv 1) (o2 (gv 2) (gc (.int 1)) ixD) ixD) v8) O1) S7))
 (v9 (d9 (gc .non))
 p8)
 p8)
 (v9 (R7 (S5 (z9 (oA (z9 (gv 4) v8) W0) v8)) (gN 6)
 (v9 (ifD (K4 (ob (Q5 isTup (o2 (gv 4) (gv 6) ixD))) (ob (Q5 isTup (o2 (gv 5) (gv 6) ixD))))
 (v9 (X7 (V8 3 (Z2 (z9 (o2 (o2 (gv 4) (gv 6) ixD) (gc (.int 1)) ixD) (z9 (o2 (o2 (gv 5) (gv 6) ixD) (gc (.int 1)) ixD) v8)))))
 p8)
 (v9 (ifD (ob (o2 (o2 (gv 4) (gv 6) ixD) (o2 (gv 5) (gv 6) ixD) S7))
 (v9 (d9 (gc .non))
 p8)
 p8)
 p8))
 p8))
 (v9 (d9 (zi0 (gv 3)))
 p8))))))
def og0:List Str:=["_law_one", "_law_other", "_law_pair", "_law_found", "_law_first", "_law_second", "_law_k"]
def W6:List D->Option D:=mkF 3 og0 vi0
end La
namespace Pn
open La
open DL W
theorem v00(p:Pt)(h:p.few):m_values [p.d]=some (.lst p.vals):=by
 cases p with
 | text w=>kernel_rfl
 | row vs =>
  refine K6 rfl (u0 (δ':=[.sh (Pt.row vs).d]) (by rw[Z4 (by kernel_rfl)];rfl) (M8 (by rw[U4 (by kernel_rfl)];rfl)))
 | table ps =>
  refine K6 rfl (u0 (δ':=[.sh (Pt.table ps).d]) (by rw[Z4 (by kernel_rfl)];rfl) (u0 (δ':=[.sh (Pt.table ps).d]) (by rw[Z4 (by kernel_rfl)];rfl) (M8 (zk0 ?_))));exact O4 (items:=ps.map pr) rfl (by have:(ps.map (·.2)).length<=sizeLine:=h;simpa using this) (po0 ps)
 | rcd c ps =>
  refine K6 rfl (u0 (δ':=[.sh (Pt.rcd c ps).d]) (by rw[Z4 (by kernel_rfl)];rfl) (u0 (δ':=[.sh (Pt.rcd c ps).d]) (by rw[Z4 (by kernel_rfl)];rfl) (M8 (zk0 ?_))));exact O4 (items:=ps.map pr) rfl (by have:(ps.map (·.2)).length<=sizeLine:=h;simpa using this) (po0 ps)
theorem rj0(p:Pt)(h:p.few):K5 [p.d]=some (.lst (p.pnames.map .str)):=by
 cases p with
 | text w=>kernel_rfl
 | row vs=>kernel_rfl
 | table ps =>
  refine K6 rfl (u0 (δ':=[.sh (Pt.table ps).d]) (by rw[Z4 (by kernel_rfl)];rfl) (M8 (zk0 ?_)));exact O4 (items:=ps.map pr) rfl (by have:(ps.map (·.2)).length<=sizeLine:=h;simpa using this) (qv0 ps)
 | rcd c ps =>
  refine K6 rfl (u0 (δ':=[.sh (Pt.rcd c ps).d]) (by rw[Z4 (by kernel_rfl)];rfl) (M8 (zk0 ?_)));exact O4 (items:=ps.map pr) rfl (by have:(ps.map (·.2)).length<=sizeLine:=h;simpa using this) (qv0 ps)
def hd:Pt->D
 | .text w=>.tup [.str "text",.str w]
 | .row vs=>.tup [.str "row",.int vs.length]
 | .table ps=>.tup [.str "table",.tup ((ps.map (·.1)).map .str)]
 | .rcd c ps=>.tup [.str "record",.str c,.tup ((ps.map (·.1)).map .str)]
def put:Pt->List D->Pt
 | .text w,_=>.text w
 | .row _,vs=>.row vs
 | .table ps,vs=>.table ((ps.map (·.1)).zip vs)
 | .rcd c ps,vs=>.rcd c ((ps.map (·.1)).zip vs)
theorem d50(p:Pt)(h:p.few):Q7 [p.d]=some (hd p):=by
 have e:=rj0 p h;cases p with
 | text w=>kernel_rfl
 | row vs=>kernel_rfl
 | table ps =>
  refine d8 rfl (u0 (δ':=[.sh (Pt.table ps).d]) (by rw[Z4 (by kernel_rfl)];rfl) (u0 (δ':=[.sh (Pt.table ps).d]) (by rw[Z4 (by kernel_rfl)];rfl) (n8 ?_)));rw[U4 (by kernel_rfl)];refine n8 (Z7 (W3 (cons_of rfl (cons_of (d:=.tup ((ps.map (·.1)).map .str)) ?_ rfl)) (by show 2<=sizeLine;decide)));rw[m5 (cons_of (by rw[m5 (ds:=[(Pt.table ps).d]) rfl];exact e) rfl)];rfl
 | rcd c ps =>
  refine d8 rfl (u0 (δ':=[.sh (Pt.rcd c ps).d]) (by rw[Z4 (by kernel_rfl)];rfl) (u0 (δ':=[.sh (Pt.rcd c ps).d]) (by rw[Z4 (by kernel_rfl)];rfl) (u0 (δ':=[.sh (Pt.rcd c ps).d]) (by rw[Z4 (by kernel_rfl)];rfl) ?_)));refine n8 (Z7 (W3 (cons_of rfl (cons_of (d:=.str c) rfl (cons_of (d:=.tup ((ps.map (·.1)).map .str)) ?_ rfl))) (by show 3<=sizeLine;decide)));rw[m5 (cons_of (by rw[m5 (ds:=[(Pt.rcd c ps).d]) rfl];exact e) rfl)];rfl
theorem it0(h:∀d∈l,lean d n=true):leans l n=true:=by
 induction l with
 | nil=>unfold leans;rfl
 | cons d l ih =>
  unfold leans;rw[h d A5,ih λe he=>h e (B9 _ he)];rfl
theorem yx0(s:Str)(n:Nat):lean (.str s) n=true:=by unfold lean;rfl
theorem yo0(h:∀d∈l,lean d n=true):lean (.tup l) (n+1)=true:=by unfold lean;exact it0 h
mutual
theorem un0:∀(d:D) (n:Nat),lean d n=true->deq d d=true
 | .non,_,_=>by unfold deq;rfl
 | .bl b,_,_=>by unfold deq;simp
 | .int b,_,_=>by unfold deq;simp
 | .str b,_,_=>by unfold deq;simp
 | .tup ds,0,h=>by unfold lean at h;cases h
 | .tup ds,n+1,h=>by unfold lean at h;unfold deq;exact v70 ds n h
 | .lst ds,0,h=>by unfold lean at h;cases h
 | .lst ds,n+1,h=>by unfold lean at h;unfold deq;exact v70 ds n h
 | .dct _ _,n,h=>by unfold lean at h;cases h
 | .fn _ _,n,h=>by unfold lean at h;cases h
theorem v70:∀(ds:List D) (n:Nat),leans ds n=true->K9 ds ds=true
 | [],_,_=>by unfold K9;rfl
 | d::ds,n,h=>by
  unfold leans at h;rw[Bool.and_eq_true] at h;unfold K9;rw[un0 d n h.1,v70 ds n h.2];rfl
end
mutual
def nb:D->Bool
 | .bl _=>false
 | .dct _ _=>false
 | .fn _ _=>false
 | .tup xs=>nbs xs
 | .lst xs=>nbs xs
 | _=>true
def nbs:List D->Bool
 | []=>true
 | x::xs=>nb x&&nbs xs
end
mutual
theorem kv0:∀(d e:D),nb d=true->nb e=true->deq d e=true->d=e
 | .non,e,_,h2,h=>by cases e<;>unfold deq at h<;>first|rfl|(cases h)
 | .bl b,e,h1,_,_=>by unfold nb at h1;cases h1
 | .int i,e,_,h2,h=>by
  cases e<;>unfold deq at h<;>first|(cases h;done)|(unfold nb at h2;cases h2;done)|(rw[beq_iff_eq] at h;rw[h])
 | .str x,e,_,h2,h=>by cases e<;>unfold deq at h<;>first|(cases h;done)|(rw[beq_iff_eq] at h;rw[h])
 | .tup xs,e,h1,h2,h=>by
  cases e<;>unfold deq at h<;>try (cases h;done)
  unfold nb at h1 h2;rw[tw0 _ _ h1 h2 h]
 | .lst xs,e,h1,h2,h=>by
  cases e<;>unfold deq at h<;>try (cases h;done)
  unfold nb at h1 h2;rw[tw0 _ _ h1 h2 h]
 | .dct _ _,e,h1,_,_=>by unfold nb at h1;cases h1
 | .fn _ _,e,h1,_,_=>by unfold nb at h1;cases h1
theorem tw0:∀(ds es:List D),nbs ds=true->nbs es=true->K9 ds es=true->ds=es
 | [],[],_,_,_=>rfl
 | [],_::_,_,_,h=>by unfold K9 at h;cases h
 | _::_,[],_,_,h=>by unfold K9 at h;cases h
 | d::ds,e::es,h1,h2,h=>by
  unfold nbs at h1 h2;unfold K9 at h;rw[Bool.and_eq_true] at h1 h2 h;rw[kv0 d e h1.1 h2.1 h.1,tw0 ds es h1.2 h2.2 h.2]
end
theorem da0(h:∀d∈l,nb d=true):nbs l=true:=by
 induction l with
 | nil=>unfold nbs;rfl
 | cons d l ih =>
  unfold nbs;rw[h d A5,ih λe he=>h e (B9 _ he)];rfl
structure Pl(d:D):Prop where
 le:lean d 50=true
 nb:nb d=true
theorem Zm0{d:D}(h:lean d 50=true):G7 d d=some (.bl true):=by
 unfold G7;rw[if_pos ⟨h,h⟩,un0 d 50 h]
theorem pf0{d:D}(h:lean d 50=true):S7 d d=some (.bl false):=by
 unfold S7;rw[if_pos ⟨h,h⟩,un0 d 50 h];rfl
theorem ms0{d e:D}(h1:Pl d)(h2:Pl e)(n:d≠e):S7 d e=some (.bl true):=by
 unfold S7;rw[if_pos ⟨h1.le,h2.le⟩];cases q:deq d e with
 | false=>rfl
 | true=>exact absurd (kv0 d e h1.nb h2.nb q) n
theorem vd0(s:Str):nb (.str s)=true:=by unfold nb;rfl
theorem dl0(i:Int):nb (.int i)=true:=by unfold nb;rfl
theorem v30(h:∀d∈l,nb d=true):nb (.tup l)=true:=by unfold nb;exact da0 h
theorem vv0(p:Pt):Pl (hd p):=by
 have ls:∀(ns:List Str) (n:Nat),lean (.tup (ns.map .str)) (n+1)=true:=λns n=>yo0 λd hd=>by
  obtain⟨q,_,rfl⟩:=A9.mp hd;exact yx0 _ _
 have nn:∀(ns:List Str),nb (.tup (ns.map .str))=true:=λns=>v30 λd hd=>by
  obtain⟨q,_,rfl⟩:=A9.mp hd;exact vd0 _
 have li:∀(i:Int) (n:Nat),lean (.int i) n=true:=λi n=>by unfold lean;rfl
 cases p with
 | text w=>exact⟨yo0 λd hd=>by simp only[List.mem_cons,List.not_mem_nil,or_false] at hd;rcases hd with rfl|rfl<;>exact yx0 _ _,v30 λd hd=>by simp only[List.mem_cons,List.not_mem_nil,or_false] at hd;rcases hd with rfl|rfl<;>exact vd0 _⟩
 | row w=>exact⟨yo0 λd hd=>by simp only[List.mem_cons,List.not_mem_nil,or_false] at hd;rcases hd with rfl|rfl<;>first|exact yx0 _ _|exact li _ _,v30 λd hd=>by simp only[List.mem_cons,List.not_mem_nil,or_false] at hd;rcases hd with rfl|rfl<;>first|exact vd0 _|exact dl0 _⟩
 | table w=>exact⟨yo0 λd hd=>by simp only[List.mem_cons,List.not_mem_nil,or_false] at hd;rcases hd with rfl|rfl<;>first|exact yx0 _ _|exact ls _ _,v30 λd hd=>by simp only[List.mem_cons,List.not_mem_nil,or_false] at hd;rcases hd with rfl|rfl<;>first|exact vd0 _|exact nn _⟩
 | rcd c w=>exact⟨yo0 λd hd=>by simp only[List.mem_cons,List.not_mem_nil,or_false] at hd;rcases hd with rfl|rfl|rfl<;>first|exact yx0 _ _|exact ls _ _,v30 λd hd=>by simp only[List.mem_cons,List.not_mem_nil,or_false] at hd;rcases hd with rfl|rfl|rfl<;>first|exact vd0 _|exact nn _⟩
end Pn
namespace W
open DL StrLaws Builtin.Str
theorem zm0(l:List Nat):(strOf l).cps.toList=l:=by simp[strOf]
theorem z30(l:List Nat):(strOf l).length=l.length:=by show l.toArray.size=_;simp
theorem h00(x:PySem.Str):strOf x.cps.toList=x:=by cases x;simp[strOf]
end W
namespace Gw
open La
open DL W StrLaws
theorem mul_r(i j:Int)(h:-(2 ^ 64)<j/\j<2 ^ 64):U0 (.int i) (.int j)=some (.int (i*j)):=by simp only[U0];rw[if_pos (.inr h)]
theorem mw0(i j:Int)(h:-(2 ^ 64)<i/\i<2 ^ 64):U0 (.int i) (.int j)=some (.int (i*j)):=by simp only[U0];rw[if_pos (.inl h)]
theorem Q9(i j:Int)(h:0<j):m8 (.int i) (.int j)=some (.int (i%j)):=by simp only[m8,ii];rw[if_pos h]
theorem wc0(i j:Int)(h:0<j/\j<1073741824):b7 (.int i) (.int j)=some (.int (i/j)):=by simp only[b7,ii];rw[if_pos h]
theorem vt0{g:GE}{d:D}(h1:owL i δ=some l)(h2:g δ=some d)(h3:l.length<sizeLine):X7 (V8 i g) δ=some (.nx (δ.set i (.ow (.lst (l++[d]))))):=by
 unfold X7 V8;rw[h1,h2];simp only[Option.bind_some];rw[if_pos h3];rfl
theorem y70(ns:List Int)(k:Int)(h0:0<=k):∃z,o9 [.lst (ns.map .int),.int k]=some (.int z):=by
 by_cases h:k<ns.length
 ·have F:k.toNat<ns.length:=by omega
  refine⟨ns[k.toNat],d8 rfl (n8 ?_)⟩;rw[U4 (by
   show some (decide (k<(((ns.map D.int).length:Nat):Int)))=_;rw[decide_eq_true (by rw[List.length_map];exact h)])]
  refine n8 (Z7 ?_);show atI (ns.map D.int) k=_;rw[J2 h0 (by rw[List.length_map];exact h) .non];simp[List.getD_eq_getElem?_getD,F]
 ·refine⟨0,d8 rfl (u0 (δ':=[.sh (.lst (ns.map .int)),.sh (.int k)]) ?_ rfl)⟩
  rw[Z4 (by
   show some (decide (k<(((ns.map D.int).length:Nat):Int)))=_;rw[decide_eq_false (by rw[List.length_map];exact h)])]
  rfl
theorem im0(l:List Nat)(n:Nat):mu0 (strOf l) (n:Int)=strOf (List.replicate n l).flatten:=by
 have key:∀(k:Nat) (F:Array Nat),(List.replicate k l.toArray).foldl (·++·) F=F++(List.replicate k l).flatten.toArray:=by
  intro k
  induction k with
  | zero=>intro F;simp
  | succ k ih=>intro F;rw[List.replicate_succ,List.foldl_cons,ih,List.replicate_succ,List.flatten_cons];simp
 unfold mu0;show (⟨(List.replicate ((n:Int)).toNat l.toArray).foldl (·++·) #[]⟩:Str)=⟨_⟩;rw[Int.toNat_natCast,key];simp
theorem k60(l:List Nat)(k:Int)(h0:0<=k)(h1:k<=l.length):Txt.slice (strOf l) none (some k)=strOf (l.take k.toNat):=by
 show sliceText _ _ _=_;rw[sliceText_to ⟨h0,by rw[zm0];exact h1⟩,zm0];simp[strOf]
theorem do0(l:List Nat)(k:Int)(h0:0<=k)(h1:k<=l.length):Txt.slice (strOf l) (some k) none=strOf (l.drop k.toNat):=by
 show sliceText _ _ _=_;rw[sliceText_from ⟨h0,by rw[zm0];exact h1⟩,zm0];unfold strOf;congr 2;rw[List.take_of_length_le];rw[List.length_drop];omega
theorem Z20(a b:List Nat):strOf a++strOf b=strOf (a++b):=by
 show (⟨_⟩:Str)=⟨_⟩;simp[strOf]
theorem mp0(a b:List Nat)(h:a.length+b.length<=sizeLine):j7 (.str (strOf a)) (.str (strOf b))=some (.str (strOf (a++b))):=by
 simp only[j7];rw[if_pos (by rw[z30,z30];exact h),Z20]
structure Pool(nm:List Str):Prop where
 len:nm.length=8
 names:∀s∈nm,isName s=true
 nd:nm.Nodup
def PB:GS:=(v9 (X7 (V8 4 (o2 (gv 0) (gc (.int 36)) m8)))
 (v9 (m7 (gN 0) (o2 (gv 0) (gc (.int 36)) b7))
 p8))
def PC:GS:=(v9 (m7 (gN 9) (o2 (gv 2) (o2 (o2 (y40 (o2 (gv 4) (gv 7) ixD)) (o2 (gc (.int 4)) (gv 5) U0) j7) (gc (.int 36)) m8) ixD))
 (v9 (X7 (V8 8 (o2 (o2 (N5 (gv 6) M7 (someO (gv 7))) (gv 9) j7) (N5 (gv 6) (someO (o2 (gv 7) (gc (.int 1)) j7)) M7) j7)))
 p8))
theorem sm0(c t:Int):∃nm,J8 [.int c,.int t]=some (.lst (nm.map .str))/\Pool nm:=by
 have z:(1000:Nat)<=sizeLine:=by decide
 obtain⟨n,hn⟩:∃n:Nat,(n:Int)=1+c%8:=⟨(1+c%8).toNat,by omega⟩;obtain⟨δ',l1,l2⟩:=O8 (f:=gN 5) (G:=PB) (λi δ=>∃(c':Int) (l:List Int) (s5:Sl),δ=[.sh (.int c'),.sh (.int t),.sh (.str V9),.sh (.int (n:Int)),.ow (.lst (l.map .int)),s5,.un,.un,.un,.un]/\l.length=i/\∀x∈l,0<=x/\x<36) (W4 0 (n:Int)) 0
  [.sh (.int (c/8)),.sh (.int t),.sh (.str V9),.sh (.int (n:Int)),.ow (.lst []),.un,.un,.un,.un,.un] (by
   rintro j d δ hj ⟨c',l,s5,rfl,hl,hx⟩;obtain⟨M,rfl⟩:=zj0 hj;rw[Int.toNat_natCast] at M;refine⟨_,[.sh (.int (c'/36)),.sh (.int t),.sh (.str V9),.sh (.int (n:Int)),.ow (.lst ((l++[c'%36]).map .int)),.sh (.int (j:Int)),.un,.un,.un,.un],rfl,?_,c'/36,l++[c'%36],_,rfl,by simp[hl],λx a0=>?_⟩
   ·refine u0 (vt0 (l:=l.map .int) (d:=.int (c'%36)) rfl rfl (by rw[List.length_map];omega)) ?_
    rw[List.map_append];rfl
   ·rcases B8.mp a0 with q|q
    ·exact hx x q
    ·rw[List.mem_singleton.mp q];omega) ⟨_,[],_,rfl,rfl,λx hx=>by cases hx⟩
 obtain⟨c',pl,s5,rfl,U,L⟩:=l2;rw[ye0,Int.toNat_natCast,Nat.zero_add] at U;obtain⟨w,hw⟩:∃w:List Nat,w=pl.map cg:=⟨_,rfl⟩;have wl:w.length=n:=by rw[hw,List.length_map,U]
 have wm:∀x∈w,x∈nameS.cps.toList:=λx hx=>by
  rw[hw] at hx;obtain⟨i,hi,rfl⟩:=A9.mp hx;exact ku0 i (L i hi).1 (L i hi).2
 have S:∀(G:GS) (r:Option Res),G [.sh (.int c'),.sh (.int t),.sh (.str V9),.sh (.int (n:Int)),.ow (.lst (pl.map .int)),s5,.sh (.str (strOf w)),.un,.un,.un]=r ->
   (v9 (m7 (gN 2) (gc (.str "abcdefghijklmnopqrstuvwxyz0123456789")))
    (v9 (m7 (gN 3) (o2 (gc (.int 1)) (o2 (gv 0) (gc (.int 8)) m8) j7))
    (v9 (m7 (gN 0) (o2 (gv 0) (gc (.int 8)) b7))
    (v9 (U7 4 (X5 v8))
    (v9 (R7 (S5 (z9 (gv 3) v8)) (gN 5) PB)
    (v9 (m7 (gN 6) (y40 (vw0 (gc (.str "")) (z9 (R4 1 [2] (xg0 (gv 4)) (gN 0) noT (o2 (gv 1) (gv 0) ixD)) v8)))) G)))))) [.sh (.int c),.sh (.int t),.un,.un,.un,.un,.un,.un,.un,.un]=r:=λG r hG=>by
  refine u0 (j4 (d:=.str V9) rfl) (u0 (j4 (d:=.int (n:Int)) (by rw[hn];rfl)) (u0 (j4 (d:=.int (c/8)) rfl) (u0 (δ':=[.sh (.int (c/8)),.sh (.int t),.sh (.str V9),.sh (.int (n:Int)),.ow (.lst []),.un,.un,.un,.un,.un]) rfl (u0 (O7 (items:=W4 0 (n:Int)) (J6 (cons_of rfl rfl) (by omega) (by omega)) l1) (u0 (j4 (d:=.str (strOf w)) ?_) hG)))));show Option.bind _ _=_;rw[ec0 (x:=.str "") (ds:=[.lst ((ones w).map .str)]) rfl (cons_of (O4 (items:=pl.map .int) rfl (by rw[List.length_map];omega) (by
   rw[z20 (λd=>match d with|.int i=>.str ⟨#[cg i]⟩|_=>.non) (λd hd=>by
    obtain⟨i,hi,rfl⟩:=A9.mp hd;refine⟨[.sh (.int i),.sh (.str V9)],rfl,rfl,?_⟩;rw[o5 (x:=.str V9) (y:=.int i) rfl rfl];exact nr0 i (L i hi).1 (L i hi).2)]
   rw[hw];unfold ones;rw[List.map_map,List.map_map,List.map_map];rfl)) rfl)]
  have e1:=strs_map id (ones w);have Z:v10 ((ones w).map D.str)=some (ones w):=by simpa using e1
  simp only[q40];rw[Z,Option.bind_some,r00,join_ones,if_pos (by
   have:("" : PySem.Str).length=0:=by decide +kernel
   rw[this];omega)]
  rfl
 by_cases hb:t/8%3=1
 ·refine⟨(List.range 8).map λk=>strOf ((List.replicate 8 w).flatten.take (k+1)),K6 rfl (S _ _ (M8 ?_)),by simp,λs hs=>?_,?_⟩
  ·rw[U4 (by show some (decide (t/8%3=1))=_;rw[decide_eq_true hb])]
   refine M8 (zk0 (O4 (items:=(List.range 8).map λ(k:Nat)=>D.int ((k:Int)+1)) rfl (by simp;omega) ?_));rw[z20 (λd=>match d with|.int i=>.str (strOf ((List.replicate 8 w).flatten.take i.toNat))|_=>.non) (λd hd=>by
    obtain⟨k,hk,rfl⟩:=A9.mp hd;have hk:=D9.mp hk;refine⟨[.sh (.int ((k:Int)+1)),.sh (.str (strOf w))],rfl,rfl,?_⟩;have hm:o2 (gc (.int 8)) (gv 1) s70 [.sh (.int ((k:Int)+1)),.sh (.str (strOf w))]=some (.str (strOf (List.replicate 8 w).flatten)):=by
     rw[o5 (x:=.int 8) (y:=.str (strOf w)) rfl rfl];simp only[s70];rw[if_pos ⟨by decide,by decide,by rw[z30,wl];show n*8<=_;omega⟩];exact C1 (λs=>some (D.str s)) (im0 w 8)
    have J:(List.replicate 8 w).flatten.length=8*n:=by simp[wl];omega
    unfold N5;rw[hm];show slA (.str (strOf (List.replicate 8 w).flatten)) none (some ((k:Int)+1))=_;simp only[slA];rw[if_pos (by rw[z30,J];omega),k60 _ _ (by omega) (by rw[J];omega)])]
   rw[List.map_map,List.map_map];rfl
  ·obtain⟨k,hk,rfl⟩:=A9.mp hs
   have hk:=D9.mp hk;have J:(List.replicate 8 w).flatten.length=8*n:=by simp[wl];omega
   refine sr0 _ (by rw[List.length_take,J];omega) (by rw[List.length_take];omega) λx hx=>?_
   have:=i4 hx;obtain⟨l,hl,hx⟩:=List.mem_flatten.mp this;rw[(List.mem_replicate.mp hl).2] at hx;exact wm x hx
  ·refine A30.mpr (R1.mpr (A40 ?_ (A50 (n:=8))))
   intro a b ha Y a4 e;have ha:=D9.mp ha;have Y:=D9.mp Y;have e:=C1 List.length (ra0 e);have J:(List.replicate 8 w).flatten.length=8*n:=by simp[wl];omega
   rw[List.length_take,List.length_take,J] at e;omega
 ·obtain⟨a,ha⟩:∃a:Nat,(a:Int)=t%(n:Int):=⟨(t%(n:Int)).toNat,by have:=E4 t (by omega:(n:Int)≠0);omega⟩
  have a5:a<n:=by have:=E5 t (by omega:(0:Int)<n);omega
  obtain⟨p,hp⟩:∃p,p=pl.getD a 0:=⟨_,rfl⟩;have a1:0<=p/\p<36:=by
   have O:a<pl.length:=by omega
   have:p=pl[a]:=by rw[hp];simp[List.getD_eq_getElem?_getD,O]
   rw[this];exact L _ (D3 O)
  let F:Nat->List Nat:=λk=>w.take a++cg ((p+4*(k:Int))%36)::w.drop (a+1)
  have Fl:∀k,(F k).length=n:=λk=>by
   show (w.take a++cg ((p+4*(k:Int))%36)::w.drop (a+1)).length=n;rw[List.length_append,List.length_cons,List.length_take,List.length_drop];omega
  obtain⟨a3,m1,m2⟩:=O8 (f:=gN 5) (G:=PC) (λi δ=>∃(s5 s9:Sl),δ=[.sh (.int c'),.sh (.int t),.sh (.str V9),.sh (.int (n:Int)),.ow (.lst (pl.map .int)),s5,.sh (.str (strOf w)),.sh (.int (a:Int)),.ow (.lst (((List.range i).map λk=>strOf (F k)).map .str)),s9]) (W4 0 8) 0
   [.sh (.int c'),.sh (.int t),.sh (.str V9),.sh (.int (n:Int)),.ow (.lst (pl.map .int)),s5,.sh (.str (strOf w)),.sh (.int (a:Int)),.ow (.lst []),.un] (by
    rintro j d δ hj ⟨s5,s9,rfl⟩;obtain⟨M,rfl⟩:=zj0 hj;have M:j<8:=M;rw[Nat.zero_add];refine⟨_,[.sh (.int c'),.sh (.int t),.sh (.str V9),.sh (.int (n:Int)),.ow (.lst (pl.map .int)),.sh (.int (j:Int)),.sh (.str (strOf w)),.sh (.int (a:Int)),.ow (.lst (((List.range (j+1)).map λk=>strOf (F k)).map .str)),.sh (.str ⟨#[cg ((p+4*(j:Int))%36)]⟩)],rfl,?_,_,_,rfl⟩;refine u0 (j4 (d:=.str ⟨#[cg ((p+4*(j:Int))%36)]⟩) ?_) ?_
    ·rw[o5 (x:=.str V9) (y:=.int ((p+4*(j:Int))%36)) rfl (by
      rw[o5 (x:=.int (p+4*(j:Int))) (y:=.int 36) (by
       rw[o5 (x:=.int p) (y:=.int (4*(j:Int))) (by
        have q:o2 (gv 4) (gv 7) ixD (frz [.sh (.int c'),.sh (.int t),.sh (.str V9),.sh (.int (n:Int)),.ow (.lst (pl.map .int)),.sh (.int (j:Int)),.sh (.str (strOf w)),.sh (.int (a:Int)),.ow (.lst (((List.range j).map λk=>strOf (F k)).map .str)),s9])=some (.int p):=by
         rw[o5 (x:=.lst (pl.map .int)) (y:=.int (a:Int)) rfl rfl];show atI (pl.map D.int) (a:Int)=_;have O:a<pl.length:=by omega
         rw[J2 (by omega) (by rw[List.length_map];omega) .non,hp];simp[List.getD_eq_getElem?_getD,O]
        show Option.bind _ _=_;exact(C1 (λo=>Option.bind o _) q).trans rfl) (by rw[o5 (x:=.int 4) (y:=.int (j:Int)) rfl rfl];exact mul_r _ _ (by omega))]
       rfl) rfl]
      rfl)]
     exact nr0 _ (by omega) (by omega)
    ·refine u0 (vt0 (l:=((List.range j).map λk=>strOf (F k)).map .str) (d:=.str (strOf (F j))) rfl ?_ (by simp;omega)) ?_
     ·have t1:N5 (gv 6) M7 (someO (gv 7)) [.sh (.int c'),.sh (.int t),.sh (.str V9),.sh (.int (n:Int)),.ow (.lst (pl.map .int)),.sh (.int (j:Int)),.sh (.str (strOf w)),.sh (.int (a:Int)),.ow (.lst (((List.range j).map λk=>strOf (F k)).map .str)),.sh (.str ⟨#[cg ((p+4*(j:Int))%36)]⟩)]=some (.str (strOf (w.take a))):=by
       show slA (.str (strOf w)) none (some (a:Int))=_;simp only[slA];rw[if_pos (by rw[z30,wl];omega),k60 _ _ (by omega) (by omega),Int.toNat_natCast]
      have t2:N5 (gv 6) (someO (o2 (gv 7) (gc (.int 1)) j7)) M7 [.sh (.int c'),.sh (.int t),.sh (.str V9),.sh (.int (n:Int)),.ow (.lst (pl.map .int)),.sh (.int (j:Int)),.sh (.str (strOf w)),.sh (.int (a:Int)),.ow (.lst (((List.range j).map λk=>strOf (F k)).map .str)),.sh (.str ⟨#[cg ((p+4*(j:Int))%36)]⟩)]=some (.str (strOf (w.drop (a+1)))):=by
       show slA (.str (strOf w)) (some ((a:Int)+1)) none=_;simp only[slA];rw[if_pos (by rw[z30,wl];omega),do0 _ _ (by omega) (by omega),show ((a:Int)+1).toNat=a+1 by omega]
      change o2 _ _ _ [.sh (.int c'),.sh (.int t),.sh (.str V9),.sh (.int (n:Int)),.ow (.lst (pl.map .int)),.sh (.int (j:Int)),.sh (.str (strOf w)),.sh (.int (a:Int)),.ow (.lst (((List.range j).map λk=>strOf (F k)).map .str)),.sh (.str ⟨#[cg ((p+4*(j:Int))%36)]⟩)]=_
      rw[o5 (x:=.str (strOf (w.take a++[cg ((p+4*(j:Int))%36)]))) (y:=.str (strOf (w.drop (a+1)))) (by
       rw[o5 t1 rfl];exact mp0 _ [cg ((p+4*(j:Int))%36)] (by rw[List.length_take];simp;omega)) t2]
      rw[mp0 _ _ (by rw[List.length_append,List.length_take,List.length_drop];simp;omega)];show some (D.str (strOf _))=some (D.str (strOf (w.take a++cg ((p+4*(j:Int))%36)::w.drop (a+1))));rw[List.append_assoc];rfl
     ·rw[List.range_succ,List.map_append,List.map_append]
      rfl) ⟨_,_,rfl⟩
  obtain⟨a6,s9,rfl⟩:=m2;refine⟨(List.range 8).map λk=>strOf (F k),K6 rfl (S _ _ (u0 (δ':=[.sh (.int c'),.sh (.int t),.sh (.str V9),.sh (.int (n:Int)),.ow (.lst (pl.map .int)),s5,.sh (.str (strOf w)),.un,.un,.un]) ?_ (u0 (j4 (d:=.int (a:Int)) ?_) (u0 (δ':=[.sh (.int c'),.sh (.int t),.sh (.str V9),.sh (.int (n:Int)),.ow (.lst (pl.map .int)),s5,.sh (.str (strOf w)),.sh (.int (a:Int)),.ow (.lst []),.un]) rfl (u0 (O7 (items:=W4 0 8) rfl m1) (M8 rfl)))))),by simp,λs hs=>?_,?_⟩
  ·rw[Z4 (by show some (decide (t/8%3=1))=_;rw[decide_eq_false hb])];rfl
  ·rw[o5 (x:=.int t) (y:=.int (n:Int)) rfl rfl,Q9 _ _ (by omega),ha]
  ·obtain⟨k,hk,rfl⟩:=A9.mp hs
   refine sr0 _ (by rw[Fl];omega) (by rw[Fl];omega) λx hx=>?_
   rcases B8.mp hx with q|q
   ·exact wm x (i4 q)
   ·rcases B3.mp q with q|q
    ·rw[q];exact ku0 _ (by omega) (by omega)
    ·exact wm x (C10 q)
  ·refine A30.mpr (R1.mpr (A40 ?_ (A50 (n:=8))))
   intro x y hx hy a2 e;have hx:=D9.mp hx;have hy:=D9.mp hy;have e:w.take a++cg ((p+4*(x:Int))%36)::w.drop (a+1)=w.take a++cg ((p+4*(y:Int))%36)::w.drop (a+1):=ra0 e;have e:=List.append_cancel_left e;injection e with e _
   have:=b00 _ _ (by omega) (by omega) (by omega) (by omega) e;omega
end Gw
namespace Gw
open La
open DL W
theorem ve0(c k:Int)(hk:0<=k/\k<=1000000):∃x,0<=x/\x<2147483647/\X4 [.int c,.int k]=some (.int x):=by
 refine⟨(c%2147483647+1)*(48271+7*k)%2147483647,E4 _ (by decide),E5 _ (by decide),d8 rfl (n8 (Z7 ?_))⟩;rw[o5 (x:=.int ((c%2147483647+1)*(48271+7*k))) (y:=.int 2147483647) (by
  rw[o5 (x:=.int (c%2147483647+1)) (y:=.int (48271+7*k)) rfl (by
   rw[o5 (x:=.int 48271) (y:=.int (7*k)) rfl (by rw[o5 (x:=.int 7) (y:=.int k) rfl rfl];exact mul_r _ _ (by omega))];rfl)]
  exact mul_r _ _ (by omega)) rfl]
 rfl
structure Vk(v:D)(m:Int):Prop where
 ok:sg0 v=true
 bd:∀i,v=.int i->i.natAbs<10 ^ 60
 lk:∀k,lk v=some k->k<m
theorem aw0:o50 (.int 10) (.int 60)=some (.int (10 ^ 60)):=by kernel_rfl
theorem pa0(x m:Int)(hx:0<=x/\x<2 ^ 40)(hm:0<m):∃v,U8 [.int x,.int m]=some v/\Vk v m:=by
 have z:(100:Nat)<=sizeLine:=by decide
 have s0:m7 (gN 2) (o2 (gv 0) (gc (.int 10)) m8) [.sh (.int x),.sh (.int m),.un]=some (.nx [.sh (.int x),.sh (.int m),.sh (.int (x%10))]):=rfl;have el:∀k:Int,ob (o2 (gv 2) (gc (.int k)) ltD) [.sh (.int x),.sh (.int m),.sh (.int (x%10))]=some (decide (x%10<k)):=λk=>rfl
 have ee:∀k:Int,ob (o2 (gv 2) (gc (.int k)) eqD) [.sh (.int x),.sh (.int m),.sh (.int (x%10))]=some (decide (x%10=k)):=λk=>rfl
 have nl:∀(k:Int) (A:GS),¬x%10<k->ifD (ob (o2 (gv 2) (gc (.int k)) ltD)) A p8 [.sh (.int x),.sh (.int m),.sh (.int (x%10))]=some (.nx [.sh (.int x),.sh (.int m),.sh (.int (x%10))]):=λk A h=>by
  rw[Z4 (by rw[el,decide_eq_false h])];rfl
 have ne:∀(k:Int) (A:GS),¬x%10=k->ifD (ob (o2 (gv 2) (gc (.int k)) eqD)) A p8 [.sh (.int x),.sh (.int m),.sh (.int (x%10))]=some (.nx [.sh (.int x),.sh (.int m),.sh (.int (x%10))]):=λk A h=>by
  rw[Z4 (by rw[ee,decide_eq_false h])];rfl
 by_cases h6:x%10<6
 ·have M:0<=x/10%m:=E4 _ (by omega)
  have O:x/10%m<m:=E5 _ hm;refine⟨.tup [.str "at",.int (x/10%m)],d8 rfl (u0 s0 (n8 ?_)),by simp[sg0,marks,M],(λi hi=>by cases hi),λk hk=>?_⟩
  ·rw[U4 (by rw[el,decide_eq_true h6])]
   exact n8 (Z7 (W3 (cons_of rfl (cons_of (d:=.int (x/10%m)) (by
    rw[o5 (x:=.int (x/10)) (y:=.int m) rfl rfl];exact Q9 _ _ hm) rfl)) (by show 2<=sizeLine;omega)))
  ·have:=B1 hk
   omega
 by_cases e6:x%10=6
 ·refine⟨.non,d8 rfl (u0 s0 (u0 (nl 6 _ h6) (n8 ?_))),rfl,(λi hi=>by cases hi),λk hk=>by cases hk⟩
  rw[U4 (by rw[ee,decide_eq_true e6])];rfl
 have F:(10:Nat) ^ 60=1000000000000000000000000000000000000000000000000000000000000:=by decide
 by_cases h9:x%10<9
 ·refine⟨.int (x/10%3 - 1),d8 rfl (u0 s0 (u0 (nl 6 _ h6) (u0 (ne 6 _ e6) (n8 ?_)))),rfl,(λi hi=>?_),λk hk=>by cases hk⟩
  ·rw[U4 (by rw[el,decide_eq_true h9])];rfl
  ·injection hi with hi
   rw[F];omega
 ·obtain⟨b,hb⟩:∃b:Int,b=(x/10) ^ 7%10 ^ 60:=⟨_,rfl⟩
  have J:(10:Int) ^ 60=1000000000000000000000000000000000000000000000000000000000000:=by decide
  have b0:0<=b:=by rw[hb];exact E4 _ (by decide)
  have b1:b<10 ^ 60:=by rw[hb];exact E5 _ (by decide)
  obtain⟨q,hq,L⟩:∃q:Int,q=1 - 2*(x/20%2)/\(q=1∨q=-1):=⟨_,rfl,by omega⟩;refine⟨.int (b*q),d8 rfl (u0 s0 (u0 (nl 6 _ h6) (u0 (ne 6 _ e6) (u0 (nl 9 _ h9) (n8 (Z7 ?_)))))),rfl,(λi hi=>?_),λk hk=>by cases hk⟩
  ·rw[o5 (x:=.int b) (y:=.int q) (by
    rw[o5 (x:=.int ((x/10) ^ 7)) (y:=.int (10 ^ 60)) (by
     rw[o5 (x:=.int (x/10)) (y:=.int 7) rfl rfl];simp only[o50,ii];rw[if_pos ⟨by decide,by decide,by omega⟩];rfl) (by rw[o5 (x:=.int 10) (y:=.int 60) rfl rfl];exact aw0)]
    rw[Q9 _ _ (by decide),hb]) (by
    rw[o5 (x:=.int 1) (y:=.int (2*(x/20%2))) rfl (by rw[o5 (x:=.int 2) (y:=.int (x/20%2)) rfl rfl];exact mul_r _ _ (by omega)),hq];rfl)]
   exact mul_r _ _ (by omega)
  ·injection hi with hi
   rw[← hi,F];rw[J] at b1;rcases L with rfl|rfl
   ·rw[Int.mul_one];omega
   ·rw[Int.mul_neg,Int.mul_one,Int.natAbs_neg];omega
def VB:GS:=(v9 (m7 (gN 0) (o2 (o2 (gv 0) (gc (.int 48271)) U0) (gc (.int 2147483647)) m8))
 (v9 (X7 (V8 3 (oA (z9 (gv 0) (z9 (gv 2) v8)) U8)))
 p8))
theorem v00(x:Int)(c:Nat)(m:Int)(hc:c<=1000)(hm:0<m):∃vs,M6 [.int x,.int (c:Int),.int m]=some (.lst vs)/\vs.length=c/\∀v∈vs,Vk v m:=by
 have z:(10000:Nat)<=sizeLine:=by decide
 obtain⟨δ',l1,l2⟩:=O8 (f:=gN 4) (G:=VB) (λi δ=>∃(x':Int) (vs:List D) (s4:Sl),δ=[.sh (.int x'),.sh (.int (c:Int)),.sh (.int m),.ow (.lst vs),s4]/\vs.length=i/\∀v∈vs,Vk v m) (W4 0 (c:Int)) 0
  [.sh (.int x),.sh (.int (c:Int)),.sh (.int m),.ow (.lst []),.un] (by
   rintro j d δ hj ⟨x',vs,s4,rfl,hl,hv⟩;obtain⟨F,rfl⟩:=zj0 hj;rw[Int.toNat_natCast] at F;obtain⟨v,J,L⟩:=pa0 (x'*48271%2147483647) m ⟨E4 _ (by decide),by have:=E5 (x'*48271) (by decide:(0:Int)<2147483647);omega⟩ hm;refine⟨_,[.sh (.int (x'*48271%2147483647)),.sh (.int (c:Int)),.sh (.int m),.ow (.lst (vs++[v])),.sh (.int (j:Int))],rfl,?_,_,vs++[v],_,rfl,by simp[hl],λu hu=>?_⟩
   ·refine u0 (j4 (d:=.int (x'*48271%2147483647)) (by
     rw[o5 (x:=.int (x'*48271)) (y:=.int 2147483647) (by rw[o5 (x:=.int x') (y:=.int 48271) rfl rfl];exact mul_r _ _ (by omega)) rfl];rfl)) ?_
    refine u0 (vt0 (l:=vs) (d:=v) rfl (by rw[m5 (ds:=[.int (x'*48271%2147483647),.int m]) rfl];exact J) (by omega)) rfl
   ·rcases B8.mp hu with q|q
    ·exact hv u q
    ·rw[List.mem_singleton.mp q];exact L) ⟨_,[],_,rfl,rfl,λv hv=>by cases hv⟩
 obtain⟨x',vs,s4,rfl,hl,hv⟩:=l2;rw[ye0,Int.toNat_natCast,Nat.zero_add] at hl;exact⟨vs,K6 rfl (u0 (δ':=[.sh (.int x),.sh (.int (c:Int)),.sh (.int m),.ow (.lst []),.un]) rfl (u0 (O7 (items:=W4 0 (c:Int)) (J6 (cons_of rfl rfl) (by omega) (by omega)) l1) (M8 rfl))),hl,hv⟩
structure Gd(p:Pt)(m:Int)(nm:List Str):Prop where
 ok:p.Ok
 vk:∀v∈p.vals,Vk v m
 nms:∀s∈p.all,s∈nm
theorem w_a:isWord ("" : Str)=true/\isWord ("a" : Str)=true/\isWord (" a" : Str)=true:=by decide +kernel
theorem s_0:((" 0" : Str))=strOf [32,48]:=by decide +kernel
theorem jo0(l:List Nat)(h2:l.length<=20)(h3:∀c∈l,c∈q50.cps.toList):isWord (strOf l)=true:=by
 unfold isWord hasAll;rw[z30,zm0];simp only[Bool.and_eq_true,decide_eq_true_eq,List.all_eq_true];exact⟨by omega,λc hc=>by simpa using h3 c hc⟩
theorem jg0:∀c∈nameS.cps.toList,c∈q50.cps.toList:=by decide +kernel
theorem et0:∀c∈([32,48]:List Nat),c∈q50.cps.toList:=by decide +kernel
theorem name_mem{s:Str}(h:isName s=true):∀c∈s.cps.toList,c∈nameS.cps.toList:=by
 unfold isName hasAll at h;simp only[Bool.and_eq_true,decide_eq_true_eq,List.all_eq_true] at h;intro c hc;have:=h.1.2 c hc
 simpa using this
theorem q80(nm:List Str)(hp:Pool nm)(i:Int)(h0:0<=i)(h1:i<8):ixD (.lst (nm.map .str)) (.int i)=some (.str (nm.getD i.toNat ""))/\nm.getD i.toNat ""∈nm:=by
 have hl:=hp.len;have F:i.toNat<nm.length:=by omega
 refine⟨?_,?_⟩
 ·show atI (nm.map D.str) i=_
  rw[J2 h0 (by rw[List.length_map];omega) .non];simp[List.getD_eq_getElem?_getD,F]
 ·rw[show nm.getD i.toNat ""=nm[i.toNat] by simp[List.getD_eq_getElem?_getD,F]]
  exact D3 F
theorem ez0(x m:Int)(vs:List D)(nm:List Str)(hp:Pool nm)(hv:∀v∈vs,Vk v m)(hl:vs.length<=12)(hl8:¬x%8<4->vs.length<=8):∃p:Pt,G3 [.int x,.lst vs,.lst (nm.map .str)]=some p.d/\Gd p m nm:=by
 have z:(100:Nat)<=sizeLine:=by decide
 have Z:=hp.len;have s0:m7 (gN 3) (o2 (gv 0) (gc (.int 8)) m8) [.sh (.int x),.sh (.lst vs),.sh (.lst (nm.map .str)),.un,.un,.un]=some (.nx [.sh (.int x),.sh (.lst vs),.sh (.lst (nm.map .str)),.sh (.int (x%8)),.un,.un]):=rfl
 by_cases h0:x%8=0
 ·obtain⟨w,hw,U⟩:∃w:Str,o2 (X5 (z9 (gc (.str "")) (z9 (gc (.str "a")) (z9 (gc (.str " a")) (z9 (o2 (o2 (gv 2) (gc (.int 0)) ixD) (gc (.str " 0")) j7) v8))))) (o2 (o2 (gv 0) (gc (.int 16)) b7) (gc (.int 4)) m8) ixD [.sh (.int x),.sh (.lst vs),.sh (.lst (nm.map .str)),.sh (.int (x%8)),.un,.un]=some (.str w)/\isWord w=true:=by
   obtain⟨a1,a2⟩:=q80 nm hp 0 (by omega) (by omega);obtain⟨s,hs⟩:∃s,s=nm.getD (0:Int).toNat "" := ⟨_,rfl⟩;rw[← hs] at a1 a2;have hn:=hp.names s a2;have a5:=ml0 hn;have es:s=strOf s.cps.toList:=(h00 s).symm;have a4:s.cps.toList.length<=8:=by
    have:s.length=s.cps.toList.length:=by show s.cps.size=_;simp
    omega
   rw[o5 (x:=.lst [.str "",.str "a",.str " a",.str (strOf (s.cps.toList++[32,48]))]) (y:=.int (x/16%4)) (zq0 (cons_of rfl (cons_of rfl (cons_of rfl (cons_of (d:=.str (strOf (s.cps.toList++[32,48]))) (by
    rw[o5 (x:=.str s) (y:=.str " 0") (by rw[o5 (x:=.lst (nm.map .str)) (y:=.int 0) rfl rfl];exact a1) rfl];have e:j7 (.str (strOf s.cps.toList)) (.str (strOf [32,48]))=some (.str (strOf (s.cps.toList++[32,48]))):=mp0 _ _ (by simp only[List.length_cons,List.length_nil];omega);rw[← es,← s_0] at e;exact e) rfl)))) (by show 4<=sizeLine;omega)) rfl]
   have q:x/16%4=0∨x/16%4=1∨x/16%4=2∨x/16%4=3:=by omega
   rcases q with q|q|q|q<;>rw[q]
   ·exact⟨_,rfl,w_a.1⟩
   ·exact⟨_,rfl,w_a.2.1⟩
   ·exact⟨_,rfl,w_a.2.2⟩
   ·refine⟨_,rfl,jo0 _ (by simp only[List.length_append,List.length_cons,List.length_nil];omega) λc hc=>?_⟩
    rcases B8.mp hc with q|q
    ·exact jg0 c (name_mem hn c q)
    ·exact et0 c q
  refine⟨.text w,d8 rfl (u0 s0 (n8 ?_)),U,(λv hv=>by cases hv),λs hs=>by cases hs⟩;rw[U4 (by show some (decide (x%8=0))=_;rw[decide_eq_true h0])];exact n8 (Z7 (W3 (cons_of rfl (cons_of hw rfl)) (by show 2<=sizeLine;omega)))
 have n0:∀A:GS,ifD (ob (o2 (gv 3) (gc (.int 0)) eqD)) A p8 [.sh (.int x),.sh (.lst vs),.sh (.lst (nm.map .str)),.sh (.int (x%8)),.un,.un]=some (.nx [.sh (.int x),.sh (.lst vs),.sh (.lst (nm.map .str)),.sh (.int (x%8)),.un,.un]):=λA=>by
  rw[Z4 (by show some (decide (x%8=0))=_;rw[decide_eq_false h0])];rfl
 by_cases h4:x%8<4
 ·refine⟨.row vs,d8 rfl (u0 s0 (u0 (n0 _) (n8 ?_))),⟨hl,λv q=>(hv v q).ok⟩,hv,λs hs=>by cases hs⟩
  rw[U4 (by show some (decide (x%8<4))=_;rw[decide_eq_true h4])];exact n8 (Z7 (W3 (cons_of rfl (cons_of (by rw[m5 (ds:=[.lst vs]) rfl];rfl) rfl)) (by show 2<=sizeLine;omega)))
 have n4:∀A:GS,ifD (ob (o2 (gv 3) (gc (.int 4)) ltD)) A p8 [.sh (.int x),.sh (.lst vs),.sh (.lst (nm.map .str)),.sh (.int (x%8)),.un,.un]=some (.nx [.sh (.int x),.sh (.lst vs),.sh (.lst (nm.map .str)),.sh (.int (x%8)),.un,.un]):=λA=>by
  rw[Z4 (by show some (decide (x%8<4))=_;rw[decide_eq_false h4])];rfl
 have a3:=hl8 h4;obtain⟨st,S⟩:∃st:Int,st=x/8%2*3:=⟨_,rfl⟩;have Y:0<=st/\st<=3:=by omega
 obtain⟨ns,L⟩:∃ns:Nat->Str,ns=λ(j:Nat)=>nm.getD ((st+(j:Int))%8).toNat "" := ⟨_,rfl⟩
 have O:∀j,ns j∈nm:=λj=>by rw[L];exact(q80 nm hp ((st+(j:Int))%8) (by omega) (by omega)).2
 obtain⟨ps,J⟩:∃ps:List (Str×D),ps=(List.range vs.length).map λj=>(ns j,vs.getD j .non):=⟨_,rfl⟩
 have snd:ps.map (·.2)=vs:=by
  rw[J,List.map_map];refine Cs0 (by simp) λi h1 h2=>?_
  simp[List.getD_eq_getElem?_getD,h2]
 have fst:∀s∈ps.map (·.1),s∈nm:=λs hs=>by
  obtain⟨p,F,rfl⟩:=A9.mp hs;rw[J] at F;obtain⟨j,_,rfl⟩:=A9.mp F;exact O j
 have M:PsOk ps:=by
  refine⟨by rw[J];simp;omega,λp F=>hp.names _ (fst _ (A9.mpr ⟨p,F,rfl⟩)),λp F=>(hv p.2 (by rw[← snd];exact A9.mpr ⟨p,F,rfl⟩)).ok,?_⟩;rw[J,List.map_map];refine A30.mpr (R1.mpr (A40 ?_ (A50 (n:=vs.length))));intro a b ha hb a0 e;have ha:=D9.mp ha;have hb:=D9.mp hb;have e:ns a=ns b:=e;rw[L] at e;have la:((st+(a:Int))%8).toNat<nm.length:=by omega
  have lb:((st+(b:Int))%8).toNat<nm.length:=by omega
  have e:nm.getD ((st+(a:Int))%8).toNat ""=nm.getD ((st+(b:Int))%8).toNat "" := e;rw[show nm.getD ((st+(a:Int))%8).toNat ""=nm[((st+(a:Int))%8).toNat] by simp[List.getD_eq_getElem?_getD,la],show nm.getD ((st+(b:Int))%8).toNat ""=nm[((st+(b:Int))%8).toNat] by simp[List.getD_eq_getElem?_getD,lb]] at e;have:=(Ac0 hp.nd).mp e;omega
 have s4:m7 (gN 4) (o2 (o2 (o2 (gv 0) (gc (.int 8)) b7) (gc (.int 2)) m8) (gc (.int 3)) U0) [.sh (.int x),.sh (.lst vs),.sh (.lst (nm.map .str)),.sh (.int (x%8)),.un,.un]=some (.nx [.sh (.int x),.sh (.lst vs),.sh (.lst (nm.map .str)),.sh (.int (x%8)),.sh (.int st),.un]):=j4 (d:=.int st) (by
  rw[o5 (x:=.int (x/8%2)) (y:=.int 3) rfl rfl,mul_r _ _ (by omega),S])
 have s5:m7 (gN 5) (oA (z9 (R4 1 [1,2,4] (S5 (z9 (oA (z9 (gv 1) v8) W0) v8)) (gN 0) noT (Z2 (z9 (o2 (gv 2) (o2 (o2 (gv 3) (gv 0) j7) (gc (.int 8)) m8) ixD) (z9 (o2 (gv 1) (gv 0) ixD) v8)))) v8) Q6) [.sh (.int x),.sh (.lst vs),.sh (.lst (nm.map .str)),.sh (.int (x%8)),.sh (.int st),.un]=some (.nx [.sh (.int x),.sh (.lst vs),.sh (.lst (nm.map .str)),.sh (.int (x%8)),.sh (.int st),.sh (.tup (ps.map pr))]):=j4 (d:=.tup (ps.map pr)) (by
  rw[m5 (ds:=[.lst (ps.map pr)]) (cons_of (O4 (items:=W4 0 (vs.length:Int)) (J6 (cons_of rfl rfl) (by omega) (by omega)) (by rw[ye0];omega) (by
   rw[J,List.map_map];have q:=qd0 (gt:=noT) (ge:=(Z2 (z9 (o2 (gv 2) (o2 (o2 (gv 3) (gv 0) j7) (gc (.int 8)) m8) ixD) (z9 (o2 (gv 1) (gv 0) ixD) v8)))) (δ:=[.un,.sh (.lst vs),.sh (.lst (nm.map .str)),.sh (.int st)]) (n:=(vs.length:Int)) (λj=>pr (ns j,vs.getD j .non)) (λk hk=>⟨[.sh (.int (k:Int)),.sh (.lst vs),.sh (.lst (nm.map .str)),.sh (.int st)],rfl,rfl,by
    refine W3 (cons_of (d:=.str (ns k)) ?_ (cons_of (d:=vs.getD k .non) ?_ rfl)) (by show 2<=sizeLine;omega)
    ·rw[o5 (x:=.lst (nm.map .str)) (y:=.int ((st+(k:Int))%8)) rfl rfl,L]
     exact(q80 nm hp _ (by omega) (by omega)).1
    ·rw[o5 (x:=.lst vs) (y:=.int (k:Int)) rfl rfl]
     show atI vs (k:Int)=_;rw[J2 (by omega) (by omega) .non,Int.toNat_natCast]⟩)
   rw[Int.toNat_natCast] at q;exact q)) rfl)]
  rfl)
 by_cases h6:x%8<6
 ·refine⟨.table ps,d8 rfl (u0 s0 (u0 (n0 _) (u0 (n4 _) (u0 s4 (u0 s5 (n8 ?_)))))),M,by show ∀v∈ps.map (·.2),Vk v m;rw[snd];exact hv,λs hs=>fst s (by simpa [Pt.all,Pt.pnames,Pt.cls] using hs)⟩
  rw[U4 (by show some (decide (x%8<6))=_;rw[decide_eq_true h6])];exact n8 (Z7 (W3 (cons_of rfl (cons_of rfl rfl)) (by show 2<=sizeLine;omega)))
 ·obtain⟨a1,a2⟩:=q80 nm hp (x/16%2) (by omega) (by omega)
  refine⟨.rcd (nm.getD (x/16%2).toNat "") ps,d8 rfl (u0 s0 (u0 (n0 _) (u0 (n4 _) (u0 s4 (u0 s5 (u0 (δ':=[.sh (.int x),.sh (.lst vs),.sh (.lst (nm.map .str)),.sh (.int (x%8)),.sh (.int st),.sh (.tup (ps.map pr))]) ?_ (n8 (Z7 ?_)))))))),⟨hp.names _ a2,M⟩,by show ∀v∈ps.map (·.2),Vk v m;rw[snd];exact hv,λs hs=>?_⟩
  ·rw[Z4 (by show some (decide (x%8<6))=_;rw[decide_eq_false h6])];rfl
  ·exact W3 (cons_of rfl (cons_of (by
    rw[o5 (x:=.lst (nm.map .str)) (y:=.int (x/16%2)) rfl rfl];exact a1) (cons_of rfl rfl))) (by show 3<=sizeLine;omega)
  ·rcases B8.mp hs with q|q
   ·exact fst s q
   ·have:=L6.mp q
    rw[this];exact a2
def WB:GS:=(v9 (m7 (gN 5) (oA (z9 (o2 (o2 (gv 0) (o2 (gv 4) (oA (z9 (gv 0) v8) W0) m8) ixD) (o2 (gv 4) (o2 (gv 4) (oA (z9 (gv 0) v8) W0) b7) U0) j7) (z9 (gv 4) v8)) X4))
 (v9 (m7 (gN 6) (o2 (X5 (z9 (gc (.int 0)) (z9 (gc (.int 1)) (z9 (gc (.int 2)) (z9 (gc (.int 2)) (z9 (gc (.int 3)) (z9 (gc (.int 2)) (z9 (gc (.int 3)) (z9 (gc (.int 1)) v8))))))))) (o2 (o2 (gv 5) (gc (.int 32)) b7) (gc (.int 8)) m8) ixD))
 (v9 (ifD (ob (o2 (o2 (o2 (gv 5) (gc (.int 256)) b7) (gc (.int 16)) m8) (gc (.int 3)) eqD))
 (v9 (m7 (gN 6) (o2 (X5 (z9 (gc (.int 8)) (z9 (gc (.int 12)) v8))) (oA (z9 (o2 (o2 (gv 5) (gc (.int 8)) m8) (gc (.int 4)) ltD) v8) intOfD) ixD))
 p8)
 p8)
 (v9 (m7 (gN 7) (oA (z9 (o2 (o2 (gv 5) (gc (.int 8)) b7) (gc (.int 1)) j7) (z9 (gv 6) (z9 (gv 1) v8))) M6))
 (v9 (X7 (V8 3 (oA (z9 (gv 5) (z9 (gv 7) (z9 (gv 2) v8))) G3)))
 p8)))))
theorem Zf0(cs:List Int)(hc:0<cs.length/\cs.length<=1000)(m:Int)(hm:0<m/\m<=1000)(nm:List Str)(hp:Pool nm)(k:Nat)(hk:k<=1000)(acc:List D)(ha:acc.length<=2000)(s5 s6 s7:Sl) :
  ∃(p:Pt) (t5 t6 t7:Sl),Gd p m nm/\WB [.sh (.lst (cs.map .int)),.sh (.int m),.sh (.lst (nm.map .str)),.ow (.lst acc),.sh (.int (k:Int)),s5,s6,s7]=some (.nx [.sh (.lst (cs.map .int)),.sh (.int m),.sh (.lst (nm.map .str)),.ow (.lst (acc++[p.d])),.sh (.int (k:Int)),t5,t6,t7]):=by
 have z:(10000:Nat)<=sizeLine:=by decide
 obtain⟨l,hl⟩:∃l:Int,l=(cs.length:Int):=⟨_,rfl⟩;have a0:0<=(k:Int)%l:=E4 _ (by omega);have hi1:(k:Int)%l<l:=E5 _ (by omega);obtain⟨c,Z⟩:∃c:Int,ixD (.lst (cs.map .int)) (.int ((k:Int)%l))=some (.int c):=by
  have O:((k:Int)%l).toNat<cs.length:=by omega
  refine⟨cs[((k:Int)%l).toNat],?_⟩;show atI (cs.map D.int) _=_;rw[J2 a0 (by rw[List.length_map];omega) .non];simp[List.getD_eq_getElem?_getD,O]
 have a4:(k:Int)/l<=1000/\0<=(k:Int)/l:=by
  have h1:=Int.ediv_le_self l (show (0:Int)<=(k:Int) by omega);have h2:=Int.ediv_nonneg (show (0:Int)<=(k:Int) by omega) (show (0:Int)<=l by omega);omega
 obtain⟨x,a5,a2,hx⟩:=ve0 (c+(k:Int)*((k:Int)/l)) (k:Int) ⟨by omega,by omega⟩;obtain⟨n,hn,a1,M⟩:∃n:Nat,(n:Int)=(if x/256%16=3 then (if x%8<4 then 12 else 8) else [0,1,2,2,3,2,3,1].getD (x/32%8).toNat 0)/\n<=12/\(¬x%8<4->n<=8):=by
  split
  ·split
   ·exact⟨12,rfl,by omega,λh=>absurd (by assumption) h⟩
   ·exact⟨8,rfl,by omega,λ_=>by omega⟩
  ·have q:x/32%8=0∨x/32%8=1∨x/32%8=2∨x/32%8=3∨x/32%8=4∨x/32%8=5∨x/32%8=6∨x/32%8=7:=by omega
   rcases q with q|q|q|q|q|q|q|q<;>rw[q]
   ·exact⟨0,rfl,by omega,λ_=>by omega⟩
   ·exact⟨1,rfl,by omega,λ_=>by omega⟩
   ·exact⟨2,rfl,by omega,λ_=>by omega⟩
   ·exact⟨2,rfl,by omega,λ_=>by omega⟩
   ·exact⟨3,rfl,by omega,λ_=>by omega⟩
   ·exact⟨2,rfl,by omega,λ_=>by omega⟩
   ·exact⟨3,rfl,by omega,λ_=>by omega⟩
   ·exact⟨1,rfl,by omega,λ_=>by omega⟩
 obtain⟨vs,L,a3,Y⟩:=v00 (x/8+1) n m (by omega) (by omega);obtain⟨p,U,S⟩:=ez0 x m vs nm hp Y (by omega) (λh=>by have:=M h;omega);refine⟨p,.sh (.int x),.sh (.int (n:Int)),.sh (.lst vs),S,?_⟩;unfold WB;have F:∀(s5 s6 s7:Sl),oA (z9 (gv 0) v8) W0 [.sh (.lst (cs.map .int)),.sh (.int m),.sh (.lst (nm.map .str)),.ow (.lst acc),.sh (.int (k:Int)),s5,s6,s7]=some (.int l):=λs5 s6 s7=>by
  rw[m5 (ds:=[.lst (cs.map .int)]) rfl];show some (D.int (((cs.map D.int).length:Nat):Int))=_;rw[List.length_map,hl]
 refine u0 (j4 (d:=.int x) ?_) ?_
 ·rw[m5 (ds:=[.int (c+(k:Int)*((k:Int)/l)),.int (k:Int)]) (cons_of (d:=.int (c+(k:Int)*((k:Int)/l))) (by
   rw[o5 (x:=.int c) (y:=.int ((k:Int)*((k:Int)/l))) (by
    rw[o5 (x:=.lst (cs.map .int)) (y:=.int ((k:Int)%l)) rfl (by rw[o5 (x:=.int (k:Int)) (y:=.int l) rfl (F _ _ _)];exact Q9 _ _ (by omega))];exact Z) (by
    rw[o5 (x:=.int (k:Int)) (y:=.int ((k:Int)/l)) rfl (by rw[o5 (x:=.int (k:Int)) (y:=.int l) rfl (F _ _ _)];exact wc0 _ _ ⟨by omega,by omega⟩)];exact mul_r _ _ (by omega))]
   rfl) rfl)]
  exact hx
 obtain⟨n0,J⟩:∃n0:Int,n0=[0,1,2,2,3,2,3,1].getD (x/32%8).toNat 0:=⟨_,rfl⟩;refine u0 (j4 (d:=.int n0) ?_) ?_
 ·rw[o5 (x:=.lst [.int 0,.int 1,.int 2,.int 2,.int 3,.int 2,.int 3,.int 1]) (y:=.int (x/32%8)) (zq0 rfl (by show 8<=sizeLine;omega)) rfl]
  rw[J];have q:x/32%8=0∨x/32%8=1∨x/32%8=2∨x/32%8=3∨x/32%8=4∨x/32%8=5∨x/32%8=6∨x/32%8=7:=by omega
  rcases q with q|q|q|q|q|q|q|q<;>rw[q]<;>rfl
 refine u0 (δ':=[.sh (.lst (cs.map .int)),.sh (.int m),.sh (.lst (nm.map .str)),.ow (.lst acc),.sh (.int (k:Int)),.sh (.int x),.sh (.int (n:Int)),s7]) ?_ ?_
 ·change ifD _ _ _ [.sh (.lst (cs.map .int)),.sh (.int m),.sh (.lst (nm.map .str)),.ow (.lst acc),.sh (.int (k:Int)),.sh (.int x),.sh (.int n0),s7]=_
  rw[hn]
  by_cases h:x/256%16=3
  ·rw[U4 (by show some (decide (x/256%16=3))=_;rw[decide_eq_true h]),if_pos h]
   refine u0 (j4 (d:=.int (if x%8<4 then 12 else 8)) ?_) rfl;rw[o5 (x:=.lst [.int 8,.int 12]) (y:=.int (if decide (x%8<4)=true then 1 else 0)) (zq0 rfl (by show 2<=sizeLine;omega)) rfl]
   by_cases q:x%8<4
   ·rw[if_pos (decide_eq_true q),if_pos q];rfl
   ·rw[if_neg (by simpa using q),if_neg q];rfl
  ·rw[Z4 (by show some (decide (x/256%16=3))=_;rw[decide_eq_false h]),if_neg h,J];rfl
 refine u0 (j4 (d:=.lst vs) (by
  rw[m5 (ds:=[.int (x/8+1),.int (n:Int),.int m]) rfl];exact L)) ?_
 refine u0 (vt0 (l:=acc) (d:=p.d) rfl (by
  rw[m5 (ds:=[.int x,.lst vs,.lst (nm.map .str)]) rfl];exact U) (by omega)) rfl
theorem qy0(cs:List Int)(hc:0<cs.length/\cs.length<=1000)(m:Nat)(hm:0<m/\m<=1000)(nm:List Str)(hp:Pool nm) :
  ∃ps:List Pt,z60 [.lst (cs.map .int),.int (m:Int),.lst (nm.map .str)]=some (.tup (ps.map Pt.d))/\ps.length=m/\∀p∈ps,Gd p (m:Int) nm:=by
 have z:(10000:Nat)<=sizeLine:=by decide
 obtain⟨δ',l1,l2⟩:=O8 (f:=gN 4) (G:=WB) (λi δ=>∃(ps:List Pt) (s4 s5 s6 s7:Sl),δ=[.sh (.lst (cs.map .int)),.sh (.int (m:Int)),.sh (.lst (nm.map .str)),.ow (.lst (ps.map Pt.d)),s4,s5,s6,s7]/\ps.length=i/\∀p∈ps,Gd p (m:Int) nm) (W4 0 (m:Int)) 0
  [.sh (.lst (cs.map .int)),.sh (.int (m:Int)),.sh (.lst (nm.map .str)),.ow (.lst []),.un,.un,.un,.un] (by
   rintro j d δ hj ⟨ps,s4,s5,s6,s7,rfl,hl,hg⟩;obtain⟨F,rfl⟩:=zj0 hj;rw[Int.toNat_natCast] at F;obtain⟨p,t5,t6,t7,h1,h2⟩:=Zf0 cs hc (m:Int) (by omega) nm hp j (by omega) (ps.map Pt.d) (by rw[List.length_map];omega) s5 s6 s7;refine⟨_,_,rfl,h2,ps++[p],_,t5,t6,t7,by rw[List.map_append];rfl,by simp[hl],λq hq=>?_⟩;rcases B8.mp hq with a|a
   ·exact hg q a
   ·rw[List.mem_singleton.mp a];exact h1) ⟨[],_,_,_,_,rfl,rfl,λp hp=>by cases hp⟩
 obtain⟨ps,s4,s5,s6,s7,rfl,hl,hg⟩:=l2;rw[ye0,Int.toNat_natCast,Nat.zero_add] at hl;refine⟨ps,d8 rfl (u0 (δ':=[.sh (.lst (cs.map .int)),.sh (.int (m:Int)),.sh (.lst (nm.map .str)),.ow (.lst []),.un,.un,.un,.un]) rfl (u0 (O7 (items:=W4 0 (m:Int)) (J6 (cons_of rfl rfl) (by omega) (by omega)) l1) (n8 (Z7 ?_)))),hl,hg⟩;show oA (z9 (gv 3) v8) Q6 (frz _)=_;rw[m5 (ds:=[.lst (ps.map Pt.d)]) rfl];rfl
theorem rh0(ps:List (Str×D)):Q8 (G9 0 1) noT (gv 1) [.un,.un] (ps.map pr)=some (ps.map (·.2)):=by
 rw[z20 (λd=>match d with|.tup [_,v]=>v|_=>.non) (λd hd=>by
  obtain⟨p,hp,rfl⟩:=A9.mp hd;exact⟨_,rfl,rfl,rfl⟩),List.map_map]
 rfl
theorem ns0(p:Pt)(h:p.few):Z9 [p.d]=some (.lst p.vals):=by
 cases p with
 | text w=>kernel_rfl
 | row vs =>
  refine K6 rfl (u0 (δ':=[.sh (Pt.row vs).d]) (by rw[Z4 (by kernel_rfl)];rfl) (M8 (by rw[U4 (by kernel_rfl)];rfl)))
 | table ps =>
  refine K6 rfl (u0 (δ':=[.sh (Pt.table ps).d]) (by rw[Z4 (by kernel_rfl)];rfl) (u0 (δ':=[.sh (Pt.table ps).d]) (by rw[Z4 (by kernel_rfl)];rfl) (M8 (zk0 ?_))));exact O4 (items:=ps.map pr) rfl (by have:(ps.map (·.2)).length<=sizeLine:=h;simpa using this) (rh0 ps)
 | rcd c ps =>
  refine K6 rfl (u0 (δ':=[.sh (Pt.rcd c ps).d]) (by rw[Z4 (by kernel_rfl)];rfl) (u0 (δ':=[.sh (Pt.rcd c ps).d]) (by rw[Z4 (by kernel_rfl)];rfl) (M8 (zk0 ?_))));exact O4 (items:=ps.map pr) rfl (by have:(ps.map (·.2)).length<=sizeLine:=h;simpa using this) (rh0 ps)
theorem g90(xs:List D)(x:D):cutD (xs++[x]) none (some (-1))=xs:=by
 unfold cutD;have i1:sIx (xs++[x]).length (xs++[x]).length (some (-1))=xs.length:=by
  show (if (-1:Int)<0 then ((-1:Int)+((xs++[x]).length:Int)).toNat else min (-1:Int).toNat (xs++[x]).length)=_;rw[if_pos (by decide),List.length_append];simp only[List.length_cons,List.length_nil];omega
 rw[i1];show ((xs++[x]).drop 0).take (xs.length - 0)=_;simp
theorem ho0(xs:List D)(x:D):atI (xs++[x]) (-1)=some x:=by
 unfold atI ixN;rw[if_neg (by decide),if_pos (by rw[List.length_append];simp only[List.length_cons,List.length_nil];omega)];rw[show ((-1:Int)+((xs++[x]).length:Int)).toNat=xs.length by rw[List.length_append];simp only[List.length_cons,List.length_nil];omega];simp
theorem nn0(p:Pt)(h:p.few)(vs:List D)(hl:vs.length=p.vals.length∨p.vals=[]/\vs=[]):V2 [p.d,.lst vs]=some (Pn.put p vs).d:=by
 have z:(100:Nat)<=sizeLine:=by decide
 have zz:(sizeLine:Int)<2 ^ 62:=by decide
 have key:∀(xs:List D) (ps:List (Str×D)),ps.length=vs.length->ps.length<=sizeLine->xs.length<=10 ->
   o2 (N5 (gv 0) M7 (someO (unG y30 (gc (.int 1))))) (Z2 (z9 (oA (z9 (R4 1 [0,1] (S5 (z9 (oA (z9 (gv 1) v8) W0) v8)) (gN 0) noT (Z2 (z9 (o2 (o2 (o2 (gv 1) (unG y30 (gc (.int 1))) ixD) (gv 0) ixD) (gc (.int 0)) ixD) (z9 (o2 (gv 2) (gv 0) ixD) v8)))) v8) Q6) v8)) j7 [.sh (.tup (xs++[.tup (ps.map pr)])),.sh (.lst vs)]=some (.tup (xs++[.tup (((ps.map (·.1)).zip vs).map pr)])):=λxs ps hp hz hx=>by
  have hc:oA (z9 (R4 1 [0,1] (S5 (z9 (oA (z9 (gv 1) v8) W0) v8)) (gN 0) noT (Z2 (z9 (o2 (o2 (o2 (gv 1) (unG y30 (gc (.int 1))) ixD) (gv 0) ixD) (gc (.int 0)) ixD) (z9 (o2 (gv 2) (gv 0) ixD) v8)))) v8) Q6 [.sh (.tup (xs++[.tup (ps.map pr)])),.sh (.lst vs)]=some (.tup (((ps.map (·.1)).zip vs).map pr)):=by
   rw[m5 (ds:=[.lst (((ps.map (·.1)).zip vs).map pr)]) (cons_of (O4 (items:=W4 0 (vs.length:Int)) (J6 (cons_of rfl rfl) (by omega) (by omega)) (by rw[ye0];omega) (by
    have q:=qd0 (gt:=noT) (ge:=(Z2 (z9 (o2 (o2 (o2 (gv 1) (unG y30 (gc (.int 1))) ixD) (gv 0) ixD) (gc (.int 0)) ixD) (z9 (o2 (gv 2) (gv 0) ixD) v8)))) (δ:=[.un,.sh (.tup (xs++[.tup (ps.map pr)])),.sh (.lst vs)]) (n:=(vs.length:Int)) (λj=>pr ((ps.map (·.1)).getD j "",vs.getD j .non)) (λk hk=>⟨[.sh (.int (k:Int)),.sh (.tup (xs++[.tup (ps.map pr)])),.sh (.lst vs)],rfl,rfl,by
     have J:k<ps.length:=by omega
     refine W3 (cons_of (d:=.str ((ps.map (·.1)).getD k "")) ?_ (cons_of (d:=vs.getD k .non) ?_ rfl)) (by show 2<=sizeLine;omega)
     ·rw[o5 (x:=pr ps[k]) (y:=.int 0) (by
       rw[o5 (x:=.tup (ps.map pr)) (y:=.int (k:Int)) (by
        rw[o5 (x:=.tup (xs++[.tup (ps.map pr)])) (y:=.int (-1)) rfl rfl];exact ho0 _ _) rfl]
       show atI (ps.map pr) (k:Int)=_;rw[J2 (by omega) (by rw[List.length_map];omega) .non,Int.toNat_natCast];simp[List.getD_eq_getElem?_getD,J]) rfl]
      simp[List.getD_eq_getElem?_getD,J];rfl
     ·rw[o5 (x:=.lst vs) (y:=.int (k:Int)) rfl rfl]
      show atI vs (k:Int)=_;rw[J2 (by omega) (by omega) .non,Int.toNat_natCast]⟩)
    rw[Int.toNat_natCast] at q;refine q.trans ?_;congr 1;refine Cs0 (by simp;omega) λi h1 h2=>?_
    have hi:i<vs.length:=by simpa using h1
    have hi2:i<ps.length:=by omega
    simp[List.getD_eq_getElem?_getD,hi,hi2])) rfl)]
   rfl
  rw[o5 (x:=.tup xs) (y:=.tup [.tup (((ps.map (·.1)).zip vs).map pr)]) (by
   show slA (.tup (xs++[.tup (ps.map pr)])) none (some (-1))=_;simp only[slA];rw[g90]) (W3 (cons_of hc rfl) (by show 1<=sizeLine;omega))]
  simp only[j7];rw[if_pos (by simp only[List.length_cons,List.length_nil];omega)]
 have F:∀ps:List (Str×D),p.vals=ps.map (·.2)->ps.length=vs.length:=λps e=>by
  rcases hl with q|⟨q1,q2⟩
  ·rw[q,e,List.length_map]
  ·rw[q2];rw[q1] at e;have:=C1 List.length e;simp at this;simpa using this.symm
 cases p with
 | text w=>kernel_rfl
 | row us=>kernel_rfl
 | table ps =>
  exact d8 rfl (u0 (δ':=[.sh (Pt.table ps).d,.sh (.lst vs)]) (by rw[Z4 (by kernel_rfl)];rfl) (u0 (δ':=[.sh (Pt.table ps).d,.sh (.lst vs)]) (by rw[Z4 (by kernel_rfl)];rfl) (n8 (Z7 (key [.str "table"] ps (F ps rfl) (by have:(ps.map (·.2)).length<=sizeLine:=h;simpa using this) (by simp))))))
 | rcd c ps =>
  exact d8 rfl (u0 (δ':=[.sh (Pt.rcd c ps).d,.sh (.lst vs)]) (by rw[Z4 (by kernel_rfl)];rfl) (u0 (δ':=[.sh (Pt.rcd c ps).d,.sh (.lst vs)]) (by rw[Z4 (by kernel_rfl)];rfl) (n8 (Z7 (key [.str "record",.str c] ps (F ps rfl) (by have:(ps.map (·.2)).length<=sizeLine:=h;simpa using this) (by simp))))))
end Gw
namespace K22
open DL W
section
end
theorem bf0{g1 g2:GB}{b1 b2:Bool}(h1:g1 δ=some b1)(h2:g2 δ=some b2):K4 g1 g2 δ=some (b1&&b2):=by
 unfold K4;rw[h1];cases b1
 ·rfl
 ·show g2 δ=_
  rw[h2];rfl
def Lv(n:Nat)(v:D):Prop:=v=.non∨(∃z,v=.int z)∨∃j:Nat,v=.tup [.str "at",.int (j:Int)]/\j<n
structure Pw(n:Nat)(p:Pt):Prop where
 few:p.vals.length<=12
 lv:∀v∈p.vals,Lv n v
theorem Pw.f{p:Pt}(h:Pw n p):p.few:=by
 have z:(12:Nat)<=sizeLine:=by decide
 exact C0 h.few z
structure Web(ps:List Pt):Prop where
 len:0<ps.length/\ps.length<=60
 pw:∀p∈ps,Pw ps.length p
def wd(ps:List Pt):D:=.tup (ps.map Pt.d)
theorem Web.at(h:Web ps)(hi:i<ps.length):ixD (wd ps) (.int (i:Int))=some ps[i].d/\(ps.map Pt.d).getD i .non=ps[i].d/\Pw ps.length ps[i]:=by
 refine⟨?_,?_,h.pw _ (D3 hi)⟩
 ·show atI (ps.map Pt.d) (i:Int)=_
  rw[J2 (by omega) (by rw[List.length_map];omega) .non,Int.toNat_natCast];simp[hi]
 ·simp[hi]
theorem pq0(p:Pt)(vs:List D)(h:vs.length=p.vals.length):(Pn.put p vs).vals=vs:=by
 cases p with
 | text w=>exact(L7 h).symm
 | row us=>rfl
 | table ps =>
  show ((ps.map (·.1)).zip vs).map (·.2)=vs;refine i6 ?_;have h':vs.length=(ps.map (·.2)).length:=h;simp only[List.length_map] at h' ⊢;omega
 | rcd c ps =>
  show ((ps.map (·.1)).zip vs).map (·.2)=vs;refine i6 ?_;have h':vs.length=(ps.map (·.2)).length:=h;simp only[List.length_map] at h' ⊢;omega
end K22
namespace K22
open DL W
section
variable(h:Web ps){x:Nat}(hx:x<ps.length)
include h hx
end
end K22
namespace K22
open DL W
theorem bu0{p:Pt}{nm:List Str}(h:Gw.Gd p (m:Int) nm):Pw m p:=by
 refine⟨?_,λv hv=>?_⟩
 ·have ok:=h.ok
  cases p with
  | text w=>show 0<=12;decide
  | row vs=>exact ok.1
  | table ps=>show (ps.map (·.2)).length<=12;rw[List.length_map];exact ok.len
  | rcd c ps=>show (ps.map (·.2)).length<=12;rw[List.length_map];exact ok.2.len
 ·have k:=h.vk v hv
  rcases ss0 k.ok with rfl|⟨i,rfl⟩|⟨i,rfl,hi⟩
  ·exact .inl rfl
  ·exact .inr (.inl ⟨i,rfl⟩)
  ·have:=k.lk i rfl
   exact .inr (.inr ⟨i.toNat,by rw[Int.toNat_of_nonneg hi],by omega⟩)
theorem j70{v:D}(h:Lv n v)(k:Nat):lean v (k+1)=true:=by
 rcases h with rfl|⟨z,rfl⟩|⟨j,rfl,_⟩<;>simp[lean,leans]
theorem sx0{k:Nat}(h:∀x∈l,lean x k=true):leans l k=true:=by
 induction l with
 | nil=>rfl
 | cons a l ih=>rw[leans,h a A5,ih λx hx=>h x (B9 _ hx)];rfl
end K22
namespace Bw
open DL W
theorem yu0{g:GE}{b:Bool}(h:g δ=some (.bl b)):ob g δ=some b:=by
 unfold ob;rw[h];rfl
end Bw
namespace Ta
open La
open DL W K22
def pN(p:Nat×Nat):D:=.tup [.int (p.1:Int),.int (p.2:Int)]
def k2(p:Nat×Nat):List N6:=[.inl (p.1:Int),.inl (p.2:Int)]
theorem t30{p:Nat×Nat}(h:k2 p=k2 q):p=q:=by
 unfold k2 at h;injection h with h1 h2
 injection h2 with h2 _
 injection h1 with h1
 injection h2 with h2
 exact L4 (by omega) (by omega)
theorem lk0(ks:List (List N6))(k:List N6):K1 ks k=true↔k∈ks:=by
 unfold K1;rw[List.any_eq_true];constructor
 ·rintro⟨x,hx,e⟩
  rw[← of_decide_eq_true e];exact hx
 ·intro h
  exact⟨k,h,decide_eq_true rfl⟩
def Dc(L:List (Nat×Nat))(d:D):Prop:=∃ks vs,d=.dct (.inr ks) vs/\∀x,x∈ks↔∃p∈L,x=k2 p
theorem gk0{L:List (Nat×Nat)}{d:D}(h:Dc L d)(p:Nat×Nat):J4 true (pN p) d=some (.bl (decide (p∉L))):=by
 obtain⟨ks,vs,rfl,hk⟩:=h;show some (D.bl (xor true (K1 ks (k2 p))))=_
 by_cases z:p∈L
 ·rw[(lk0 ks _).mpr ((hk _).mpr ⟨p,z,rfl⟩),decide_eq_false (λq=>q z)];rfl
 ·have:K1 ks (k2 p)=false:=by
   cases e:K1 ks (k2 p) with
   | false=>rfl
   | true =>
    obtain⟨q,hq,e2⟩:=(hk _).mp ((lk0 ks _).mp e);exact absurd (t30 e2▸hq) z
  rw[this,decide_eq_true z];rfl
theorem ic0{v:D}(h:Lv n v):Pn.Pl v:=by
 refine⟨j70 h 49,?_⟩;rcases h with rfl|⟨z,rfl⟩|⟨j,rfl,_⟩<;>simp[Pn.nb,Pn.nbs]
def lg0(p:Prop)(o:Option D):Prop:=(p->o=some (.bl true))/\(¬p->o=some (.bl false))
theorem Yg0{v w:D}(hv:Lv n v)(hw:Lv m w):lg0 (v≠w) (S7 v w) :=
 ⟨λe=>Pn.ms0 (ic0 hv) (ic0 hw) e,λe=>by
  have:=A60.mp e;subst this;exact Pn.pf0 (ic0 hv).le⟩
theorem u30{p:Prop}{g:GE}(h:lg0 p (g δ)):(p->ob g δ=some true)/\(¬p->ob g δ=some false) :=
 ⟨λz=>by unfold ob;rw[h.1 z];rfl,λz=>by unfold ob;rw[h.2 z];rfl⟩
theorem d00(v w:D):V3 [.tup [v,w]]=some (.bl (isTup v&&isTup w)):=by
 refine d8 rfl (n8 (Z7 ?_));unfold vm0;rw[show ob (Q5 isTup (o2 (gv 0) (gc (.int 0)) ixD)) (X3 ud0 [.tup [v,w]])=some (isTup v) from rfl,Option.bind_some];cases isTup v with
 | false=>rfl
 | true=>rw[if_pos rfl];rfl
def pa(ps:List Pt)(i:Nat):Pt:=ps.getD i (.row [])
theorem y80(h:Web ps)(hi:i<ps.length):ixD (wd ps) (.int (i:Int))=some (pa ps i).d/\Pw ps.length (pa ps i):=by
 obtain⟨a,_,c⟩:=h.at hi;have:pa ps i=ps[i]:=by unfold pa;simp[hi]
 rw[this];exact⟨a,c⟩
theorem t90(ps:List Pt)(δ:Ds)(h:gv i δ=some (wd ps)):oA (z9 (gv i) v8) W0 δ=some (.int (ps.length:Int)):=by
 rw[m5 (ds:=[wd ps]) (cons_of h rfl)];show some (D.int ((ps.map Pt.d).length:Int))=_;rw[List.length_map]
end Ta
namespace Km
open DL W K22
section
end
end Km
namespace Ta
open La
open DL W K22
theorem qh0{p:Pt}(h:Pw n p):O1 [p.d]=some (Pn.hd p):=by
 have zs:(1000:Nat)<=sizeLine:=by decide
 have hf:=h.few;have nc:∀ps:List (Str×D),Q8 (G9 0 1) noT (gv 0) [.un,.un] (ps.map pr)=some ((ps.map (·.1)).map .str):=λps=>by
  rw[z20 (λd=>match d with|.tup [a,_]=>a|_=>.non) (λd hd=>by
   obtain⟨q,_,rfl⟩:=A9.mp hd;exact⟨[.sh (.str q.1),.sh q.2],rfl,rfl,rfl⟩),List.map_map,List.map_map]
  rfl
 cases p with
 | text w=>kernel_rfl
 | row vs =>
  have hf:vs.length<=12:=hf;refine d8 rfl (n8 ?_);rw[U4 (by kernel_rfl)];exact n8 (Z7 (W3 (cons_of rfl (cons_of rfl rfl)) (by show 2<=sizeLine;omega)))
 | table ps =>
  have hf:(ps.map (·.2)).length<=12:=hf;rw[List.length_map] at hf;refine d8 rfl (u0 (δ':=[.sh (Pt.table ps).d]) (by rw[Z4 (by kernel_rfl)];rfl) (u0 (δ':=[.sh (Pt.table ps).d]) (by rw[Z4 (by kernel_rfl)];rfl) (n8 (Z7 ?_))));rw[o5 (x:=.tup [.str "table"]) (y:=.tup [.tup ((ps.map (·.1)).map .str)]) rfl (W3 (cons_of (by
   rw[m5 (ds:=[.lst ((ps.map (·.1)).map .str)]) (cons_of (O4 (items:=ps.map pr) rfl (by rw[List.length_map];omega) (nc ps)) rfl)];rfl) rfl) (by show 1<=sizeLine;omega))]
  rfl
 | rcd c ps =>
  have hf:(ps.map (·.2)).length<=12:=hf;rw[List.length_map] at hf;refine d8 rfl (u0 (δ':=[.sh (Pt.rcd c ps).d]) (by rw[Z4 (by kernel_rfl)];rfl) (u0 (δ':=[.sh (Pt.rcd c ps).d]) (by rw[Z4 (by kernel_rfl)];rfl) (n8 (Z7 ?_))));rw[o5 (x:=.tup [.str "record",.str c]) (y:=.tup [.tup ((ps.map (·.1)).map .str)]) rfl (W3 (cons_of (by
   rw[m5 (ds:=[.lst ((ps.map (·.1)).map .str)]) (cons_of (O4 (items:=ps.map pr) rfl (by rw[List.length_map];omega) (nc ps)) rfl)];rfl) rfl) (by show 1<=sizeLine;omega))]
  rfl
theorem ia0{p q:Pt}(h:Pn.hd p=Pn.hd q):p.vals.length=q.vals.length:=by
 have inj:∀{a b:List (Str×D)},D.tup ((a.map (·.1)).map .str)=D.tup ((b.map (·.1)).map .str)->(a.map (·.2)).length=(b.map (·.2)).length:=λ{a b} e=>by
  injection e with e
  have:=C1 List.length e
  simpa using this
 cases p with
 | text w =>
  cases q with
  | text w'=>rfl
  | row vs=>injection h with h;injection h with h _;injection h with h;exact absurd h (by decide +kernel)
  | table ps=>injection h with h;injection h with h _;injection h with h;exact absurd h (by decide +kernel)
  | rcd c ps=>injection h with h;injection h with h _;injection h with h;exact absurd h (by decide +kernel)
 | row vs =>
  cases q with
  | text w'=>injection h with h;injection h with h _;injection h with h;exact absurd h (by decide +kernel)
  | row ws =>
   injection h with h
   injection h with _ h
   injection h with h _
   injection h with h
   show vs.length=ws.length;omega
  | table ps=>injection h with h;injection h with h _;injection h with h;exact absurd h (by decide +kernel)
  | rcd c ps=>injection h with h;injection h with h _;injection h with h;exact absurd h (by decide +kernel)
 | table as =>
  cases q with
  | text w'=>injection h with h;injection h with h _;injection h with h;exact absurd h (by decide +kernel)
  | row vs=>injection h with h;injection h with h _;injection h with h;exact absurd h (by decide +kernel)
  | table ps =>
   injection h with h
   injection h with _ h
   injection h with h _
   exact inj h
  | rcd c ps=>injection h with h;injection h with h _;injection h with h;exact absurd h (by decide +kernel)
 | rcd c as =>
  cases q with
  | text w'=>injection h with h;injection h with h _;injection h with h;exact absurd h (by decide +kernel)
  | row vs=>injection h with h;injection h with h _;injection h with h;exact absurd h (by decide +kernel)
  | table ps=>injection h with h;injection h with h _;injection h with h;exact absurd h (by decide +kernel)
  | rcd c' ps =>
   injection h with h
   injection h with _ h
   injection h with _ h
   injection h with h _
   exact inj h
def gl1:D×D->Option (Nat×Nat)
 | (.tup [_,.int i],.tup [_,.int j])=>some (i.toNat,j.toNat)
 | _=>none
def gl(z:List (D×D)):List (Nat×Nat):=z.filterMap gl1
def nl(q:D×D):Prop:=(isTup q.1=true/\isTup q.2=true)∨q.1=q.2
def GB:GS:=(v9 (ifD (K4 (ob (Q5 isTup (o2 (gv 4) (gv 6) ixD))) (ob (Q5 isTup (o2 (gv 5) (gv 6) ixD))))
 (v9 (X7 (V8 3 (Z2 (z9 (o2 (o2 (gv 4) (gv 6) ixD) (gc (.int 1)) ixD) (z9 (o2 (o2 (gv 5) (gv 6) ixD) (gc (.int 1)) ixD) v8)))))
 p8)
 (v9 (ifD (ob (o2 (o2 (gv 4) (gv 6) ixD) (o2 (gv 5) (gv 6) ixD) S7))
 (v9 (d9 (gc .non))
 p8)
 p8)
 p8))
 p8)
theorem jc0(z:List (D×D)):(gl z).length<=z.length:=List.length_filterMap_le _ _
theorem av0{vs ws:List D}(hv:∀v∈vs,Lv n v)(hw:∀w∈ws,Lv m w)(hl:vs.length=ws.length)(h12:vs.length<=12)(a b c:Sl)(i:Nat)(hi:i<vs.length) :
  (nl (vs[i],ws[i]'(by omega))->GB [a,b,c,.ow (.lst ((gl ((vs.zip ws).take i)).map pN)),.sh (.lst vs),.sh (.lst ws),.sh (.int (i:Int))]=some (.nx [a,b,c,.ow (.lst ((gl ((vs.zip ws).take (i+1))).map pN)),.sh (.lst vs),.sh (.lst ws),.sh (.int (i:Int))])) /\
  (¬nl (vs[i],ws[i]'(by omega))->GB [a,b,c,.ow (.lst ((gl ((vs.zip ws).take i)).map pN)),.sh (.lst vs),.sh (.lst ws),.sh (.int (i:Int))]=some (.rt .non)):=by
 have zs:(1000:Nat)<=sizeLine:=by decide
 have M:i<ws.length:=by omega
 have g4:∀s:Sl,o2 (gv 4) (gv 6) ixD [a,b,c,s,.sh (.lst vs),.sh (.lst ws),.sh (.int (i:Int))]=some vs[i]:=λs=>by
  rw[o5 (x:=.lst vs) (y:=.int (i:Int)) rfl rfl];show atI vs (i:Int)=_;rw[J2 (by omega) (by omega) .non,Int.toNat_natCast];simp[List.getD_eq_getElem?_getD,hi]
 have g5:∀s:Sl,o2 (gv 5) (gv 6) ixD [a,b,c,s,.sh (.lst vs),.sh (.lst ws),.sh (.int (i:Int))]=some ws[i]:=λs=>by
  rw[o5 (x:=.lst ws) (y:=.int (i:Int)) rfl rfl];show atI ws (i:Int)=_;rw[J2 (by omega) (by omega) .non,Int.toNat_natCast];simp[List.getD_eq_getElem?_getD,M]
 have tk:(vs.zip ws).take (i+1)=(vs.zip ws).take i++[(vs[i],ws[i])]:=by
  rw[List.take_succ,List.getElem?_eq_getElem (by rw[List.length_zip];omega),List.getElem_zip];rfl
 have F:gl ((vs.zip ws).take (i+1))=gl ((vs.zip ws).take i)++(gl1 (vs[i],ws[i])).toList:=by
  rw[tk];unfold gl;rw[List.filterMap_append];congr 1
 have L:=hv _ (D3 hi);have J:=hw _ (D3 M);have O:(gl ((vs.zip ws).take i)).length<=12:=C0 (jc0 _) (by rw[List.length_take,List.length_zip];omega);generalize gl ((vs.zip ws).take (i+1))=Z' at F ⊢;generalize gl ((vs.zip ws).take i)=Z at F O ⊢;generalize vs[i]=v at g4 F L ⊢;generalize ws[i]=w at g5 F J ⊢;have ht:K4 (ob (Q5 isTup (o2 (gv 4) (gv 6) ixD))) (ob (Q5 isTup (o2 (gv 5) (gv 6) ixD))) [a,b,c,.ow (.lst (Z.map pN)),.sh (.lst vs),.sh (.lst ws),.sh (.int (i:Int))]=some (isTup v&&isTup w):=by
  refine bf0 ?_ ?_
  ·unfold ob Q5;rw[g4];rfl
  ·unfold ob Q5;rw[g5];rfl
 by_cases hb:isTup v=true/\isTup w=true
 ·refine⟨λ_=>?_,λz=>absurd (.inl hb) z⟩
  rw[hb.1,hb.2] at ht;obtain⟨x,rfl,_⟩:∃j:Nat,v=.tup [.str "at",.int (j:Int)]/\j<n:=by
   rcases L with rfl|⟨z,rfl⟩|h
   ·exact absurd hb.1 (by simp)
   ·exact absurd hb.1 (by simp)
   ·exact h
  obtain⟨y,rfl,_⟩:∃j:Nat,w=.tup [.str "at",.int (j:Int)]/\j<m:=by
   rcases J with rfl|⟨z,rfl⟩|h
   ·exact absurd hb.2 (by simp)
   ·exact absurd hb.2 (by simp)
   ·exact h
  have e:gl1 (D.tup [.str "at",.int (x:Int)],D.tup [.str "at",.int (y:Int)])=some (x,y):=by
   unfold gl1;simp only[Int.toNat_natCast]
  rw[e] at F;rw[F];refine u0 (δ':=[a,b,c,.ow (.lst ((Z++[(x,y)]).map pN)),.sh (.lst vs),.sh (.lst ws),.sh (.int (i:Int))]) ?_ rfl;rw[U4 ht];refine u0 ((Gw.vt0 (l:=Z.map pN) (d:=pN (x,y)) rfl ?_ (by rw[List.length_map];omega)).trans ?_) rfl
  ·exact W3 (cons_of (by rw[o5 (x:=.tup [.str "at",.int (x:Int)]) (y:=.int 1) (g4 _) rfl];rfl) (cons_of (by rw[o5 (x:=.tup [.str "at",.int (y:Int)]) (y:=.int 1) (g5 _) rfl];rfl) rfl)) (by show 2<=sizeLine;omega)
  ·rw[List.map_append];rfl
 ·have S:(isTup v&&isTup w)=false:=by
   cases e1:isTup v with
   | false=>rfl
   | true =>
    cases e2:isTup w with
    | false=>rfl
    | true=>exact absurd ⟨e1,e2⟩ hb
  rw[S] at ht;have en:gl1 (v,w)=none:=by
   rcases L with rfl|⟨z,rfl⟩|⟨j,rfl,_⟩<;>rcases J with rfl|⟨z',rfl⟩|⟨j',rfl,_⟩<;>first|rfl|exact absurd ⟨rfl,rfl⟩ hb
  rw[en] at F;have F:Z'=Z:=by rw[F];simp
  rw[F];have U:nl (v,w)↔v=w:=⟨λz=>z.resolve_left hb,.inr⟩;rw[U];obtain⟨t1,t2⟩:=u30 (g:=o2 (o2 (gv 4) (gv 6) ixD) (o2 (gv 5) (gv 6) ixD) S7) (δ:=[a,b,c,.ow (.lst (Z.map pN)),.sh (.lst vs),.sh (.lst ws),.sh (.int (i:Int))]) (p:=v≠w) (by
   rw[o5 (x:=v) (y:=w) (g4 _) (g5 _)];exact Yg0 L J)
  refine⟨λz=>?_,λz=>?_⟩
  ·refine u0 (δ':=[a,b,c,.ow (.lst (Z.map pN)),.sh (.lst vs),.sh (.lst ws),.sh (.int (i:Int))]) ?_ rfl
   rw[Z4 ht];refine u0 (δ':=[a,b,c,.ow (.lst (Z.map pN)),.sh (.lst vs),.sh (.lst ws),.sh (.int (i:Int))]) ?_ rfl;rw[Z4 (t2 λq=>q z)];rfl
  ·refine n8 ?_
   rw[Z4 ht];refine n8 ?_;rw[U4 (t1 z)];rfl
theorem tn0(n:Nat):W4 0 (n:Int)=(List.range' 0 n).map λ(k:Nat)=>D.int (k:Int):=by
 unfold W4;rw[List.range_eq_range',show ((n:Int) - 0).toNat=n by omega];refine Bv0 λk _=>?_
 congr 1;omega
theorem ni0(n:Nat)(st:Nat->Sl->Ds)(hf:∀i s d,gN j d (st i s)=some (st i (.sh d)))(ok:Nat->Prop)(r:D)(hG:∀i,i<n->(ok i->G (st i (.sh (.int (i:Int))))=some (.nx (st (i+1) (.sh (.int (i:Int))))))/\(¬ok i->G (st i (.sh (.int (i:Int))))=some (.rt r))) :
  ∀(m i:Nat) (s:Sl),i+m=n->((∀k,i<=k->k<n->ok k)->∃s',V7 (gN j) G ((List.range' i m).map λ(k:Nat)=>D.int (k:Int)) (st i s)=some (.nx (st n s')))/\(¬(∀k,i<=k->k<n->ok k)->V7 (gN j) G ((List.range' i m).map λ(k:Nat)=>D.int (k:Int)) (st i s)=some (.rt r))
 | 0,i,s,h=>by
  have:i=n:=by omega
  subst this;exact⟨λ_=>⟨s,rfl⟩,λz=>absurd (λk h1 h2=>by omega) z⟩
 | m+1,i,s,h=>by
  obtain⟨g1,g2⟩:=hG i (by omega);rw[List.range'_succ,List.map_cons];have un:V7 (gN j) G (D.int (i:Int)::(List.range' (i+1) m).map λ(k:Nat)=>D.int (k:Int)) (st i s)=(match G (st i (.sh (.int (i:Int)))) with|some (.nx δ')=>V7 (gN j) G ((List.range' (i+1) m).map λ(k:Nat)=>D.int (k:Int)) δ'|some (.ct δ')=>V7 (gN j) G ((List.range' (i+1) m).map λ(k:Nat)=>D.int (k:Int)) δ'|some (.bk δ')=>some (.nx δ')|r=>r):=by
   conv=>lhs;unfold V7
   rw[hf];rfl
  rw[un]
  by_cases hk:ok i
  ·rw[g1 hk]
   obtain⟨i1,i2⟩:=ni0 n st hf ok r hG m (i+1) (.sh (.int (i:Int))) (by omega);refine⟨λz=>i1 λk h1 h2=>z k (by omega) h2,λz=>i2 λq=>z λk h1 h2=>?_⟩
   by_cases e:k=i
   ·subst e;exact hk
   ·exact q k (by omega) h2
  ·rw[g2 hk]
   exact⟨λz=>absurd (z i (A4 _) (by omega)) hk,λ_=>rfl⟩
theorem uy0{p:Pt}(h:Pw n p):Z9 [p.d]=some (.lst p.vals):=Gw.ns0 p h.f
theorem ac0(hp:Web ps)(hq:Web qs){p:Nat×Nat}(h1:p.1<ps.length)(h2:p.2<qs.length) :
  (Pn.hd (pa ps p.1)=Pn.hd (pa qs p.2)/\(∀q∈(pa ps p.1).vals.zip (pa qs p.2).vals,nl q)->W6 [wd ps,wd qs,pN p]=some (.lst ((gl ((pa ps p.1).vals.zip (pa qs p.2).vals)).map pN))) /\
  (¬(Pn.hd (pa ps p.1)=Pn.hd (pa qs p.2)/\(∀q∈(pa ps p.1).vals.zip (pa qs p.2).vals,nl q))->W6 [wd ps,wd qs,pN p]=some .non):=by
 obtain⟨a1,a2⟩:=y80 hp h1;obtain⟨b1,b2⟩:=y80 hq h2;generalize pa ps p.1=P at a1 a2 ⊢;generalize pa qs p.2=R at b1 b2 ⊢;have g1:∀δ:Ds,o2 (gv 0) (o2 (gv 2) (gc (.int 0)) ixD) ixD (.sh (wd ps)::.sh (wd qs)::.sh (pN p)::δ)=some P.d:=fun δ=>by
  rw[o5 (x:=wd ps) (y:=.int (p.1:Int)) rfl rfl];exact a1
 have g2:∀δ:Ds,o2 (gv 1) (o2 (gv 2) (gc (.int 1)) ixD) ixD (.sh (wd ps)::.sh (wd qs)::.sh (pN p)::δ)=some R.d:=fun δ=>by
  rw[o5 (x:=wd qs) (y:=.int (p.2:Int)) rfl rfl];exact b1
 obtain⟨t1,t2⟩:=u30 (g:=o2 (oA (z9 (o2 (gv 0) (o2 (gv 2) (gc (.int 0)) ixD) ixD) v8) O1) (oA (z9 (o2 (gv 1) (o2 (gv 2) (gc (.int 1)) ixD) ixD) v8) O1) S7) (δ:=[.sh (wd ps),.sh (wd qs),.sh (pN p),.ow (.lst []),.sh (.lst P.vals),.sh (.lst R.vals),.un]) (p:=Pn.hd P≠Pn.hd R) (by
  rw[o5 (x:=Pn.hd P) (y:=Pn.hd R) (by rw[m5 (ds:=[P.d]) (cons_of (g1 _) rfl)];exact qh0 a2) (by rw[m5 (ds:=[R.d]) (cons_of (g2 _) rfl)];exact qh0 b2)];exact⟨λe=>Pn.ms0 (Pn.vv0 P) (Pn.vv0 R) e,λe=>by rw[Classical.not_not.mp e];exact Pn.pf0 (Pn.vv0 R).le⟩)
 have s4:∀s:Sl,m7 (gN 4) (oA (z9 (o2 (gv 0) (o2 (gv 2) (gc (.int 0)) ixD) ixD) v8) Z9) [.sh (wd ps),.sh (wd qs),.sh (pN p),.ow (.lst []),s,.un,.un]=some (.nx [.sh (wd ps),.sh (wd qs),.sh (pN p),.ow (.lst []),.sh (.lst P.vals),.un,.un]):=λs=>j4 (by
  rw[m5 (ds:=[P.d]) (cons_of (g1 _) rfl)];exact uy0 a2)
 have s5:∀s:Sl,m7 (gN 5) (oA (z9 (o2 (gv 1) (o2 (gv 2) (gc (.int 1)) ixD) ixD) v8) Z9) [.sh (wd ps),.sh (wd qs),.sh (pN p),.ow (.lst []),.sh (.lst P.vals),s,.un]=some (.nx [.sh (wd ps),.sh (wd qs),.sh (pN p),.ow (.lst []),.sh (.lst P.vals),.sh (.lst R.vals),.un]):=λs=>j4 (by
  rw[m5 (ds:=[R.d]) (cons_of (g2 _) rfl)];exact uy0 b2)
 by_cases hh:Pn.hd P=Pn.hd R
 ·have hl:=ia0 hh
  have L:=a2.few;obtain⟨f1,f2⟩:=ni0 (G:=GB) (j:=6) P.vals.length (λi s=>[.sh (wd ps),.sh (wd qs),.sh (pN p),.ow (.lst ((gl ((P.vals.zip R.vals).take i)).map pN)),.sh (.lst P.vals),.sh (.lst R.vals),s]) (λ_ _ _=>rfl)
   (λi=>∀(h:i<P.vals.length) (h':i<R.vals.length),nl (P.vals[i],R.vals[i])) .non (λi hi=>by
    obtain⟨u1,u2⟩:=av0 a2.lv b2.lv hl L (.sh (wd ps)) (.sh (wd qs)) (.sh (pN p)) i hi;exact⟨λz=>u1 (z hi (by omega)),λz=>u2 λq=>z λ_ _=>q⟩) P.vals.length 0 .un (Nat.zero_add _)
  rw[← tn0] at f1 f2;have e0:gl ((P.vals.zip R.vals).take 0)=[]:=rfl;have en:(P.vals.zip R.vals).take P.vals.length=P.vals.zip R.vals:=List.take_of_length_le (by rw[List.length_zip];omega);simp only[e0,en,List.map_nil] at f1 f2;have hr:S5 (z9 (oA (z9 (gv 4) v8) W0) v8) [.sh (wd ps),.sh (wd qs),.sh (pN p),.ow (.lst []),.sh (.lst P.vals),.sh (.lst R.vals),.un]=some (W4 0 (P.vals.length:Int)):=J6 (cons_of (dt0 rfl) rfl) (by omega) (by omega);have F:(∀q∈P.vals.zip R.vals,nl q)↔∀k,0<=k->k<P.vals.length->∀(h:k<P.vals.length) (h':k<R.vals.length),nl (P.vals[k],R.vals[k]):=by
   constructor
   ·intro z k _ _ h h'
    refine z _ ?_;have:k<(P.vals.zip R.vals).length:=by rw[List.length_zip];omega
    have e:=D3 this
    rwa [List.getElem_zip] at e
   ·intro z q J
    obtain⟨k,hk,e⟩:=E3.mp J;rw[List.length_zip] at hk;rw[List.getElem_zip] at e;rw[← e];exact z k (E8 _) (by omega) (by omega) (by omega)
  refine⟨λz=>?_,λz=>?_⟩
  ·obtain⟨s',hs⟩:=f1 (F.mp z.2)
   refine d8 rfl (u0 (δ':=[.sh (wd ps),.sh (wd qs),.sh (pN p),.ow (.lst []),.un,.un,.un]) rfl (u0 (s4 _) (u0 (s5 _) (u0 (δ':=[.sh (wd ps),.sh (wd qs),.sh (pN p),.ow (.lst []),.sh (.lst P.vals),.sh (.lst R.vals),.un]) (by rw[Z4 (t2 λq=>q hh)];rfl) (u0 (O7 hr hs) (n8 rfl))))))
  ·refine d8 rfl (u0 (δ':=[.sh (wd ps),.sh (wd qs),.sh (pN p),.ow (.lst []),.un,.un,.un]) rfl (u0 (s4 _) (u0 (s5 _) (u0 (δ':=[.sh (wd ps),.sh (wd qs),.sh (pN p),.ow (.lst []),.sh (.lst P.vals),.sh (.lst R.vals),.un]) (by rw[Z4 (t2 λq=>q hh)];rfl) (n8 (O7 hr (f2 λq=>z ⟨hh,F.mpr q⟩)))))))
 ·refine⟨λz=>absurd z.1 hh,λ_=>?_⟩
  refine d8 rfl (u0 (δ':=[.sh (wd ps),.sh (wd qs),.sh (pN p),.ow (.lst []),.un,.un,.un]) rfl (u0 (s4 _) (u0 (s5 _) (n8 ?_))));rw[U4 (t1 hh)];rfl
def tr(A:List (Nat×Nat)):List D:=A.map λ_=>.bl true
def dT(A:List (Nat×Nat)):D:=.dct (.inr (A.map k2)) (tr A)
theorem go0{A:List (Nat×Nat)}{p:Nat×Nat}(h:p∉A):zt0 (A.map k2) (k2 p)=(A++[p]).map k2/\yc0 (A.map k2) (tr A) (k2 p) (.bl true)=tr (A++[p]):=by
 have hf:K1 (A.map k2) (k2 p)=false:=by
  cases e:K1 (A.map k2) (k2 p) with
  | false=>rfl
  | true =>
   obtain⟨q,hq,e2⟩:=A9.mp ((lk0 _ _).mp e);exact absurd (t30 e2▸hq) h
 unfold zt0 yc0;rw[hf,if_neg (by simp),if_neg (by simp)];constructor
 ·rw[List.map_append];rfl
 ·unfold tr;rw[List.map_append];rfl
theorem m90{l:List α}{a:α}:(l++[a]).Nodup↔l.Nodup/\a∉l:=by
 rw[List.nodup_append];constructor
 ·rintro⟨h1,_,h3⟩
  exact⟨h1,λz=>h3 a z a (L6.mpr rfl) rfl⟩
 ·rintro⟨h1,h2⟩
  exact⟨h1,by simp,λx hx y hy e=>by rw[List.mem_singleton.mp hy] at e;exact h2 (e▸hx)⟩
theorem Y00(A:List (Nat×Nat)):Dc A (dT A):=⟨_,_,rfl,λx=>by
 rw[List.mem_map];exact⟨λ⟨p,hp,e⟩=>⟨p,hp,e.symm⟩,λ⟨p,hp,e⟩=>⟨p,hp,e.symm⟩⟩⟩
end Ta
namespace Ta
open La
open DL W K22
theorem b40(h:j<n):ixN n (j:Int)=some j:=by
 unfold ixN;rw[if_pos (by omega),if_pos (by omega),Int.toNat_natCast]
end Ta
namespace Ta
open La
open DL W K22
theorem Z00(qs:List Pt)(j:Nat)(q:Pt):(qs.map Pt.d).set j q.d=(qs.set j q).map Pt.d:=by rw[List.map_set]
theorem bo0{g:GE}{gx:GE}{v:D}(h1:owL i δ=some ds)(h2:g δ=some (.int (j:Int)))(h3:j<ds.length)(h4:gx δ=some v):zv0 (y90 gx) (setAt i g) δ=some (.nx (δ.set i (.ow (.lst (ds.set j v))))):=by
 unfold zv0 y90;rw[h4];unfold setAt;rw[Option.map_some,Option.bind_some,h1,Option.bind_some,h2,Option.bind_some];simp only[];rw[b40 h3];rfl
theorem in0(xs:List D)(n:Nat):cutD xs none (some (n:Int))=xs.take n:=by
 unfold cutD;show (xs.drop 0).take (sIx xs.length xs.length (some (n:Int)) - 0)=_;rw[List.drop_zero,Nat.sub_zero];unfold sIx;simp only[];rw[if_neg (by omega),Int.toNat_natCast]
 by_cases h:n<=xs.length
 ·rw[Nat.min_eq_left h]
 ·rw[Nat.min_eq_right (by omega),List.take_length,List.take_of_length_le (by omega)]
theorem i70(xs:List D)(n:Nat):cutD xs (some (n:Int)) none=xs.drop n:=by
 unfold cutD;show (xs.drop (sIx xs.length 0 (some (n:Int)))).take (xs.length - sIx xs.length 0 (some (n:Int)))=_;unfold sIx;simp only[];rw[if_neg (by omega),Int.toNat_natCast]
 by_cases h:n<=xs.length
 ·rw[Nat.min_eq_left h,List.take_of_length_le (by rw[List.length_drop];exact A4 _)]
 ·rw[Nat.min_eq_right (by omega),List.drop_length,List.take_nil,List.drop_of_length_le (by omega)]
theorem ay0{g gh:GE}{xs:List D}(h1:g δ=some (.tup xs))(h2:gh δ=some (.int (n:Int))):N5 g M7 (someO gh) δ=some (.tup (xs.take n)):=by
 unfold N5 someO;rw[h1,h2,← in0];rfl
theorem ft0{g gh:GE}{xs:List D}(h1:g δ=some (.tup xs))(h2:gh δ=some (.int (n:Int))):N5 g (someO gh) M7 δ=some (.tup (xs.drop n)):=by
 unfold N5 someO;rw[h1,h2,← i70];rfl
end Ta
namespace Ta
open La
open DL W K22
theorem ja0(x m:Int)(hx:0<=x/\x<2 ^ 40)(hm:0<m):∃v,U8 [.int x,.int m]=some v/\Gw.Vk v m:=Gw.pa0 x m hx hm
theorem j20(p:Pt)(h:p.few)(vs:List D)(hl:vs.length=p.vals.length):V2 [p.d,.lst vs]=some (Pn.put p vs).d:=Gw.nn0 p h vs (.inl hl)
theorem ae0{v:D}(k:Gw.Vk v (m:Int)):Lv m v:=by
 rcases ss0 k.ok with rfl|⟨i,rfl⟩|⟨i,rfl,hi⟩
 ·exact .inl rfl
 ·exact .inr (.inl ⟨i,rfl⟩)
 ·have:=k.lk i rfl
  exact .inr (.inr ⟨i.toNat,by rw[Int.toNat_of_nonneg hi],by omega⟩)
theorem c00{p:Pt}(h:Pw n p){vs:List D}(hl:vs.length=p.vals.length)(hv:∀v∈vs,Lv n v):Pw n (Pn.put p vs):=by
 have e:=pq0 p vs hl;exact⟨by rw[e,hl];exact h.few,λv F=>by rw[e] at F;exact hv v F⟩
theorem eq_nil{vs:List D}(h:∀v∈vs,Lv n v):G7 (.lst vs) (.lst [])=some (.bl (decide (vs=[]))):=by
 unfold G7;have e:lean (.lst vs) 50=true:=by
  rw[lean];exact sx0 λx hx=>j70 (h x hx) 48
 rw[if_pos ⟨e,by simp[lean,leans]⟩];cases vs with
 | nil=>simp[deq,K9]
 | cons a vs=>simp[deq,K9]
theorem gw0{xs ys:List D}(h:xs.length+ys.length<=sizeLine):j7 (.tup xs) (.tup ys)=some (.tup (xs++ys)):=by
 simp only[j7];rw[if_pos h]
theorem l00(h:Web qs)(x:Int):∃rs,R3 [wd qs,.int x]=some (wd rs)/\Web rs/\rs.length=qs.length:=by
 have zs:(2000:Nat)<=sizeLine:=by decide
 have hq:=h.len;have b1:0<=x%(qs.length:Int):=E4 _ (by omega);have b2:x%(qs.length:Int)<qs.length:=E5 _ (by omega);obtain⟨k,hk⟩:∃k:Nat,x%(qs.length:Int)=(k:Int):=⟨(x%(qs.length:Int)).toNat,by omega⟩;have F:k<qs.length:=by omega
 obtain⟨e1,_,pw⟩:=h.at F;have gk:o2 (gv 1) (oA (z9 (gv 0) v8) W0) m8 [.sh (wd qs),.sh (.int x),.un,.un,.un]=some (.int (k:Int)):=by
  rw[o5 (x:=.int x) (y:=.int (qs.length:Int)) rfl (t90 qs _ rfl),Gw.Q9 _ _ (by omega),hk]
 have gp:∀s2 s3:Sl,o2 (gv 0) (gv 2) ixD [.sh (wd qs),.sh (.int x),.sh (.int (k:Int)),s2,s3]=some qs[k].d:=λs2 s3=>by
  rw[o5 (x:=wd qs) (y:=.int (k:Int)) rfl rfl];exact e1
 have L:oA (z9 (o2 (gv 0) (gv 2) ixD) v8) Z9 [.sh (wd qs),.sh (.int x),.sh (.int (k:Int)),.un,.un]=some (.lst qs[k].vals):=by
  rw[m5 (ds:=[qs[k].d]) (cons_of (gp _ _) rfl)];exact uy0 pw
 have s1:m7 (gN 2) (o2 (gv 1) (oA (z9 (gv 0) v8) W0) m8) [.sh (wd qs),.sh (.int x),.un,.un,.un]=some (.nx [.sh (wd qs),.sh (.int x),.sh (.int (k:Int)),.un,.un]):=j4 gk;have s2:U7 3 (oA (z9 (o2 (gv 0) (gv 2) ixD) v8) Z9) [.sh (wd qs),.sh (.int x),.sh (.int (k:Int)),.un,.un]=some (.nx [.sh (wd qs),.sh (.int x),.sh (.int (k:Int)),.ow (.lst qs[k].vals),.un]):=by
  unfold U7;rw[L];rfl
 have t:ya0 (ob (o2 (gv 3) (X5 v8) G7)) [.sh (wd qs),.sh (.int x),.sh (.int (k:Int)),.ow (.lst qs[k].vals),.un]=some (decide (qs[k].vals=[])):=by
  show ob (o2 (gv 3) (X5 v8) G7) [.sh (wd qs),.sh (.int x),.sh (.int (k:Int)),.sh (.lst qs[k].vals),.un]=_;exact Bw.yu0 (by rw[o5 (x:=.lst qs[k].vals) (y:=.lst []) rfl (zq0 rfl (by show 0<=sizeLine;omega))];exact eq_nil pw.lv)
 by_cases hn:qs[k].vals=[]
 ·refine⟨qs,d8 rfl (u0 s1 (u0 s2 (n8 ?_))),h,rfl⟩
  rw[U4 (t.trans (by rw[decide_eq_true hn]))];exact n8 (Z7 rfl)
 ·have M:0<qs[k].vals.length:=List.length_pos_iff.mpr hn
  have c1:0<=x/60%(qs[k].vals.length:Int):=E4 _ (by omega);have c2:x/60%(qs[k].vals.length:Int)<qs[k].vals.length:=E5 _ (by omega);obtain⟨j,hj⟩:∃j:Nat,x/60%(qs[k].vals.length:Int)=(j:Int):=⟨(x/60%(qs[k].vals.length:Int)).toNat,by omega⟩;obtain⟨v,hv,vk⟩:=ja0 (x/240%1000000) (qs.length:Int) (by omega) (by omega);have hl:(qs[k].vals.set j v).length=qs[k].vals.length:=List.length_set;have J:Pw qs.length (Pn.put qs[k] (qs[k].vals.set j v)):=c00 pw hl λu hu=>by
   rcases Cv0 hu with z|rfl
   ·exact pw.lv u z
   ·exact ae0 vk
  refine⟨qs.set k (Pn.put qs[k] (qs[k].vals.set j v)),d8 rfl (u0 s1 (u0 s2 (u0 (δ':=[.sh (wd qs),.sh (.int x),.sh (.int (k:Int)),.ow (.lst qs[k].vals),.un]) ?_ (u0 (δ':=[.sh (wd qs),.sh (.int x),.sh (.int (k:Int)),.ow (.lst qs[k].vals),.sh (.int (j:Int))]) (j4 ?_) (u0 (δ':=[.sh (wd qs),.sh (.int x),.sh (.int (k:Int)),.ow (.lst (qs[k].vals.set j v)),.sh (.int (j:Int))]) ?_ (n8 (Z7 ?_))))))),⟨by rw[List.length_set];exact hq,λp hp=>?_⟩,List.length_set⟩
  ·rw[Z4 (t.trans (by rw[decide_eq_false hn]))];rfl
  ·rw[o5 (x:=.int (x/60)) (y:=.int (qs[k].vals.length:Int)) (by rw[o5 (x:=.int x) (y:=.int 60) rfl rfl];rfl) rfl,Gw.Q9 _ _ (by omega),hj]
  ·rw[bo0 (ds:=qs[k].vals) (j:=j) (v:=v) rfl rfl (by omega) (by
    rw[m5 (ds:=[.int (x/240%1000000),.int (qs.length:Int)]) (cons_of (by
     rw[o5 (x:=.int (x/240)) (y:=.int 1000000) (by rw[o5 (x:=.int x) (y:=.int 240) rfl rfl];rfl) rfl];rfl) (cons_of (t90 qs _ rfl) rfl))]
    exact hv)]
   rfl
  ·show o2 _ _ _ [.sh (wd qs),.sh (.int x),.sh (.int (k:Int)),.sh (.lst (qs[k].vals.set j v)),.sh (.int (j:Int))]=_
   have g1:N5 (gv 0) M7 (someO (gv 2)) [.sh (wd qs),.sh (.int x),.sh (.int (k:Int)),.sh (.lst (qs[k].vals.set j v)),.sh (.int (j:Int))]=some (.tup ((qs.map Pt.d).take k)):=ay0 rfl rfl;have g2:Z2 (z9 (oA (z9 (o2 (gv 0) (gv 2) ixD) (z9 (gv 3) v8)) V2) v8) [.sh (wd qs),.sh (.int x),.sh (.int (k:Int)),.sh (.lst (qs[k].vals.set j v)),.sh (.int (j:Int))]=some (.tup [(Pn.put qs[k] (qs[k].vals.set j v)).d]):=W3 (cons_of (by
    rw[m5 (ds:=[qs[k].d,.lst (qs[k].vals.set j v)]) (cons_of (gp _ _) rfl)];exact j20 _ pw.f _ hl) rfl) (by show 1<=sizeLine;omega)
   have g3:N5 (gv 0) (someO (o2 (gv 2) (gc (.int 1)) j7)) M7 [.sh (wd qs),.sh (.int x),.sh (.int (k:Int)),.sh (.lst (qs[k].vals.set j v)),.sh (.int (j:Int))]=some (.tup ((qs.map Pt.d).drop (k+1))):=ft0 rfl (by rw[o5 (x:=.int (k:Int)) (y:=.int 1) rfl rfl];rfl);have l1:((qs.map Pt.d).take k).length<=60:=by rw[List.length_take,List.length_map];omega
   have l2:((qs.map Pt.d).drop (k+1)).length<=60:=by rw[List.length_drop,List.length_map];omega
   rw[o5 (o5 g1 g2 |>.trans (gw0 (by rw[List.length_singleton];omega))) g3,gw0 (by rw[List.length_append,List.length_singleton];omega)];have es:(qs.map Pt.d).take k++[(Pn.put qs[k] (qs[k].vals.set j v)).d]++(qs.map Pt.d).drop (k+1)=(qs.set k (Pn.put qs[k] (qs[k].vals.set j v))).map Pt.d:=by
    rw[← Z00,List.set_eq_take_append_cons_drop (l:=qs.map Pt.d),if_pos (by rw[List.length_map];exact F),List.append_assoc];rfl
   rw[es];rfl
  ·rw[List.length_set]
   rcases Cv0 hp with z|rfl
   ·exact h.pw p z
   ·exact J
end Ta
namespace Ta
open La
open DL W K22 SoT
theorem f00{g1 g2:DL.GB}(h1:g1 δ=some false)(h2:g2 δ=some false):yz0 g1 g2 δ=some false:=by unfold yz0;rw[h1];exact h2
end Ta
namespace Fa
open La
open DL W K22 Ta
def ir(n:Nat)(L:List (Nat×Nat)):Prop:=∀p∈L,p.1<n/\p.2<n
def WT:DL.GB:=(ob (o2 (y40 (oA (z9 (gv 4) v8) W0)) (gc (.int 0)) gtD))
def WF:GS:=(v9 (ifD (ya0 (ob (o2 (gv 6) (gv 3) (J4 true))))
 (v9 (zv0 (y90 (gc (.bl true))) (yi0 3 (gv 6)))
 (v9 (X7 (V8 4 (gv 6)))
 p8))
 p8)
 p8)
def WB:GS:=(v9 (zv0 (uq0 0 1 (vb0 4) W6) (gN 5))
 (v9 (ifD (ob (o2 (gv 5) (gc .non) qm0))
 (v9 (d9 (gc .non))
 p8)
 p8)
 (v9 (R7 (xg0 (gv 5)) (gN 6)
 WF)
 p8)))
def ws(W P:D)(A V:List (Nat×Nat))(m f:Sl):Ds:=[.sh W,.sh W,.sh P,.ow (dT A),.ow (.lst (V.map pN)),m,f]
theorem ao0(W P:D)(A V:List (Nat×Nat))(m f:Sl):WT (ws W P A V m f)=some (decide (0<V.length)):=by
 unfold WT ob;rw[o5 (x:=.int (V.length:Int)) (y:=.int 0) (by
  show some (D.int ((V.map pN).length:Int))=_;rw[List.length_map]) rfl]
 show some (decide ((0:Int)<(V.length:Int)))=_;congr 1;rw[decide_eq_decide];omega
theorem az0(W P:D)(A V:List (Nat×Nat))(m:Sl)(q:Nat×Nat)(hA:A.length<=5000)(hV:V.length<=5000) :
  (q∈A->WF (ws W P A V m (.sh (pN q)))=some (.nx (ws W P A V m (.sh (pN q))))) /\
  (q∉A->WF (ws W P A V m (.sh (pN q)))=some (.nx (ws W P (A++[q]) (V++[q]) m (.sh (pN q))))):=by
 have zs:(9000:Nat)<=sizeLine:=by decide
 have ht:ya0 (ob (o2 (gv 6) (gv 3) (J4 true))) (ws W P A V m (.sh (pN q)))=some (decide (q∉A)):=by
  show ob (o2 (gv 6) (gv 3) (J4 true)) [.sh W,.sh W,.sh P,.sh (dT A),.sh (.lst (V.map pN)),zg0 m,.sh (pN q)]=_;exact Bw.yu0 (by rw[o5 (x:=pN q) (y:=dT A) rfl rfl];exact gk0 (Y00 A) q)
 refine⟨λh=>?_,λh=>?_⟩
 ·rw[decide_eq_false (λz=>z h)] at ht
  refine u0 (δ':=ws W P A V m (.sh (pN q))) ?_ rfl;rw[Z4 ht];rfl
 ·rw[decide_eq_true h] at ht
  refine u0 (δ':=ws W P (A++[q]) (V++[q]) m (.sh (pN q))) ?_ rfl;rw[U4 ht];refine u0 (δ':=ws W P (A++[q]) V m (.sh (pN q))) ?_ (u0 (δ':=ws W P (A++[q]) (V++[q]) m (.sh (pN q))) ?_ rfl)
  ·show Option.map Res.nx (if (A.map k2).length<sizeLine then some ([.sh W,.sh W,.sh P,.ow (.dct (.inr (zt0 (A.map k2) (k2 q))) (yc0 (A.map k2) (tr A) (k2 q) (.bl true))),.ow (.lst (V.map pN)),m,.sh (pN q)]:Ds) else none)=_
   rw[if_pos (by rw[List.length_map];omega),(go0 h).1,(go0 h).2];rfl
  ·unfold X7 V8
   rw[show owL 4 (ws W P (A++[q]) V m (.sh (pN q)))=some (V.map pN) from rfl,Option.bind_some];show Option.map (λr:D×Ds=>Res.nx r.2) (if (V.map pN).length<sizeLine then some (D.non,([.sh W,.sh W,.sh P,.ow (dT (A++[q])),.ow (.lst (V.map pN++[pN q])),m,.sh (pN q)]:Ds)) else none)=_;rw[if_pos (by rw[List.length_map];omega)];show some (Res.nx [.sh W,.sh W,.sh P,.ow (dT (A++[q])),.ow (.lst (V.map pN++[pN q])),m,.sh (pN q)])=_;unfold ws;rw[List.map_append];rfl
theorem bw0{vs ws:List D}(hv:∀v∈vs,Lv n v)(hw:∀w∈ws,Lv n w):ir n (gl (vs.zip ws)):=λp hp=>by
 unfold gl at hp;obtain⟨q,hq,e⟩:=E9.mp hp;have h1:=hv q.1 (N1 hq).1;have h2:=hw q.2 (N1 hq).2;obtain⟨a,c⟩:=q;dsimp only at h1 h2;rcases h1 with rfl|⟨z,rfl⟩|⟨i,rfl,hi⟩
 ·cases e
 ·cases e
 ·rcases h2 with rfl|⟨z,rfl⟩|⟨j,rfl,hj⟩
  ·cases e
  ·cases e
  ·have e:some ((i:Int).toNat,(j:Int).toNat)=some p:=e
   cases e;exact⟨hi,hj⟩
theorem lb0{A:List (Nat×Nat)}(h:A.Nodup)(hA:ir n A):A.length<=n*n:=by
 have h2:(A.map λp=>p.1*n+p.2).Nodup:=by
  refine R1.mpr (h.imp_of_mem λ{p q} hp hq F z=>F ?_);have a1:=hA p hp;have a2:=hA q hq;have e1:p.1=q.1:=by
   have:=C1 (·/n) z;rw[Nat.add_comm,Nat.add_mul_div_right _ _ (by omega),Nat.div_eq_of_lt a1.2,Nat.add_comm (q.1*n),Nat.add_mul_div_right _ _ (by omega),Nat.div_eq_of_lt a2.2] at this;omega
  refine L4 e1 ?_;rw[e1] at z;omega
 have h3:(A.map λp=>p.1*n+p.2).length<=n*n:=by
  have sub:(A.map λp=>p.1*n+p.2) ⊆ List.range (n*n):=λx hx=>by
   obtain⟨p,hp,rfl⟩:=A9.mp hx;have:=hA p hp;rw[List.mem_range]
   calc p.1*n+p.2<p.1*n+n:=by omega
    _=(p.1+1)*n:=by rw[Nat.add_mul,Nat.one_mul]
    _<=n*n:=m3 n (by omega)
  have:=A70 h2 sub
  rwa [List.length_range] at this
 rwa [List.length_map] at h3
def c2(p:Nat×Nat):Int×Int:=((p.1:Int),(p.2:Int))
theorem ln0{A:List (Nat×Nat)}(h:A.Nodup):(A.map c2).Nodup:=R1.mpr (h.imp λ{p q} F z=>F (by
 unfold c2 at z;injection z with z1 z2
 exact L4 (by omega) (by omega)))
theorem y70(ns:List Int)(k:Int)(h0:0<=k):∃z,o9 [.lst (ns.map .int),.int k]=some (.int z):=Gw.y70 ns k h0
theorem sm0(c t:Int):∃nm,J8 [.int c,.int t]=some (.lst (nm.map .str))/\Gw.Pool nm:=Gw.sm0 c t
theorem ve0(c k:Int)(hk:0<=k/\k<=1000000):∃x,0<=x/\x<2147483647/\X4 [.int c,.int k]=some (.int x):=Gw.ve0 c k hk
theorem qy0(cs:List Int)(hc:0<cs.length/\cs.length<=1000)(m:Nat)(hm:0<m/\m<=1000)(nm:List Str)(hp:Gw.Pool nm) :
  ∃ps:List Pt,z60 [.lst (cs.map .int),.int (m:Int),.lst (nm.map .str)]=some (.tup (ps.map Pt.d))/\ps.length=m/\∀p∈ps,Gw.Gd p (m:Int) nm:=Gw.qy0 cs hc m hm nm hp
theorem Z60(p:Pt)(h:p.few)(vs:List D)(hl:vs.length=p.vals.length):V2 [p.d,.lst vs]=some (Pn.put p vs).d:=Gw.nn0 p h vs (.inl hl)
theorem jy0(ns:List Int)(hl:ns.length<=63){M:Nat}(hM:0<M/\M<=12):∃ps,K8 [.lst (ns.map .int),.int (M:Int)]=some (wd ps)/\Web ps/\ps.length<=M:=by
 have tm:∀t:Int,0<=t%(M:Int)/\t%(M:Int)<M:=λt=>⟨E4 _ (by omega),E5 _ (by omega)⟩
 have z:(1000:Nat)<=sizeLine:=by decide
 obtain⟨c0,h0⟩:=y70 ns 0 (by decide);obtain⟨c1,h1⟩:=y70 ns 1 (by decide);obtain⟨t,ht⟩:=y70 ns 2 (by decide);obtain⟨c3,h3⟩:=y70 ns 3 (by decide);obtain⟨nm,Z,J⟩:=sm0 c0 c1;obtain⟨m,hm,L⟩:∃m:Nat,(0<m/\m<=M)/\∀s4:Sl,o2 (gc (.int 1)) (o2 (gv 3) (gv 1) m8) j7 [.sh (.lst (ns.map .int)),.sh (.int (M:Int)),.sh (.lst (nm.map .str)),.sh (.int t),s4]=some (.int (m:Int)):=by
  obtain⟨y1,y2⟩:=tm t;refine⟨(1+t%(M:Int)).toNat,by omega,λs4=>?_⟩;have e:(((1+t%(M:Int)).toNat:Nat):Int)=1+t%(M:Int):=by omega
  rw[e,o5 (x:=.int 1) (y:=.int (t%(M:Int))) rfl (by
   rw[o5 (x:=.int t) (y:=.int (M:Int)) rfl rfl];exact Gw.Q9 _ _ (by omega))]
  rfl
 obtain⟨cs,S,Y⟩:∃cs:List Int,(0<cs.length/\cs.length<=1000)/\o2 (N5 (gv 0) (someO (gc (.int 9))) (someO (gc (.int 60)))) (X5 (z9 (oA (z9 (gv 0) (z9 (gc (.int 3)) v8)) o9) v8)) j7 [.sh (.lst (ns.map .int)),.sh (.int (M:Int)),.sh (.lst (nm.map .str)),.sh (.int t),.sh (.int (m:Int))]=some (.lst (cs.map .int)):=by
  obtain⟨us,hu,U⟩:∃us:List Int,us.length<=63/\cutD (ns.map D.int) (some 9) (some 60)=us.map .int:=by
   refine⟨(ns.drop (sIx (ns.map D.int).length 0 (some 9))).take (sIx (ns.map D.int).length (ns.map D.int).length (some 60) - sIx (ns.map D.int).length 0 (some 9)),?_,?_⟩
   ·rw[List.length_take,List.length_drop];omega
   ·unfold cutD
    rw[List.map_take,List.map_drop]
  refine⟨us++[c3],by simp;omega,?_⟩;rw[o5 (x:=.lst (us.map .int)) (y:=.lst [.int c3]) (by rw[← U];rfl) (zq0 (cons_of (by rw[m5 (ds:=[.lst (ns.map .int),.int 3]) rfl];exact h3) rfl) (by show (1:Nat)<=_;omega))];simp only[j7];rw[if_pos (by rw[List.length_map];show us.length+1<=_;omega),List.map_append];rfl
 obtain⟨ps,O,F,hg⟩:=qy0 cs S m ⟨hm.1,by omega⟩ nm J;refine⟨ps,d8 rfl (u0 (j4 (d:=.lst (nm.map .str)) ?_) (u0 (j4 (d:=.int t) ?_) (u0 (j4 (L _)) (n8 (Z7 ?_))))),⟨by rw[F];omega,λp hp=>by rw[F];exact bu0 (hg p hp)⟩,by rw[F];exact hm.2⟩
 ·rw[m5 (ds:=[.int c0,.int c1]) (cons_of (by rw[m5 (ds:=[.lst (ns.map .int),.int 0]) rfl];exact h0) (cons_of (by rw[m5 (ds:=[.lst (ns.map .int),.int 1]) rfl];exact h1) rfl))]
  exact Z
 ·rw[m5 (ds:=[.lst (ns.map .int),.int 2]) rfl]
  exact ht
 ·rw[m5 (ds:=[.lst (cs.map .int),.int (m:Int),.lst (nm.map .str)]) (cons_of (by exact Y) rfl)]
  exact O
def UV:GS:=(v9 (m7 (gN 7) (o2 (o2 (gv 7) (gc (.int 48271)) U0) (gc (.int 2147483647)) m8))
 (v9 (ifD (ob (Q5 isTup (gv 8)))
 (v9 (m7 (gN 8) (Z2 (z9 (gc (.str "at")) (z9 (o2 (o2 (o2 (gv 8) (gc (.int 1)) ixD) (gv 1) U0) (o2 (gv 7) (gv 1) m8) j7) v8))))
 p8)
 p8)
 (v9 (X7 (V8 6 (gv 8)))
 p8)))
def uS(W:D)(T:Nat)(C Ps K Tn:Sl)(us:List D)(z:Int)(s8:Sl):Ds:=[.sh W,.sh (.int (T:Int)),C,Ps,K,Tn,.ow (.lst us),.sh (.int z),s8]
theorem Zi0(W:D)(hT:0<T/\T<=7)(hn:n<=60)(C Ps K Tn:Sl)(us:List D)(z:Int){v:D}(hv:Lv n v)(hl:us.length<=100) :
  ∃z' v',UV (uS W T C Ps K Tn us z (.sh v))=some (.nx (uS W T C Ps K Tn (us++[v']) z' (.sh v')))/\Lv (n*T) v':=by
 have zs:(1000:Nat)<=sizeLine:=by decide
 have e7:∀s8,o2 (o2 (gv 7) (gc (.int 48271)) U0) (gc (.int 2147483647)) m8 (uS W T C Ps K Tn us z s8)=some (.int (z*48271%2147483647)):=λs8=>by
  rw[o5 (x:=.int (z*48271)) (y:=.int 2147483647) (by rw[o5 (x:=.int z) (y:=.int 48271) rfl rfl];exact Gw.mul_r _ _ (by decide)) rfl];exact Gw.Q9 _ _ (by decide)
 have app:∀(z':Int) (v':D),X7 (V8 6 (gv 8)) (uS W T C Ps K Tn us z' (.sh v'))=some (.nx (uS W T C Ps K Tn (us++[v']) z' (.sh v'))):=λz' v'=>by
  unfold X7 V8;rw[show owL 6 (uS W T C Ps K Tn us z' (.sh v'))=some us from rfl,Option.bind_some];show Option.map (λr:D×Ds=>Res.nx r.2) (if us.length<sizeLine then some (D.non,([.sh W,.sh (.int (T:Int)),C,Ps,K,Tn,.ow (.lst (us++[v'])),.sh (.int z'),.sh v']:Ds)) else none)=_;rw[if_pos (by omega)];rfl
 have plain:isTup v=false->UV (uS W T C Ps K Tn us z (.sh v))=some (.nx (uS W T C Ps K Tn (us++[v]) (z*48271%2147483647) (.sh v))):=λhi=>by
  refine u0 (δ':=uS W T C Ps K Tn us (z*48271%2147483647) (.sh v)) (j4 (e7 _)) (u0 (δ':=uS W T C Ps K Tn us (z*48271%2147483647) (.sh v)) ?_ (u0 (app _ _) rfl));rw[Z4 (show ob (Q5 isTup (gv 8)) (uS W T C Ps K Tn us (z*48271%2147483647) (.sh v))=some false from by
   show some (isTup v)=_;rw[hi])]
  rfl
 rcases hv with rfl|⟨i,rfl⟩|⟨j,rfl,hj⟩
 ·exact⟨_,_,plain rfl,.inl rfl⟩
 ·exact⟨_,_,plain rfl,.inr (.inl ⟨i,rfl⟩)⟩
 ·obtain⟨w,hw⟩:∃w,w=z*48271%2147483647:=⟨_,rfl⟩
  have b1:0<=w%(T:Int):=E4 _ (by omega);have b2:w%(T:Int)<T:=E5 _ (by omega);obtain⟨r,hr⟩:∃r:Nat,w%(T:Int)=(r:Int):=⟨(w%(T:Int)).toNat,by omega⟩;have F:j*T+r<n*T:=by
   calc j*T+r<j*T+T:=by omega
    _=(j+1)*T:=by rw[Nat.add_mul,Nat.one_mul]
    _<=n*T:=m3 T (by omega)
  refine⟨w,.tup [.str "at",.int ((j*T+r:Nat):Int)],u0 (δ':=uS W T C Ps K Tn us w (.sh (.tup [.str "at",.int (j:Int)]))) (by rw[hw];exact j4 (e7 _)) (u0 (δ':=uS W T C Ps K Tn us w (.sh (.tup [.str "at",.int ((j*T+r:Nat):Int)]))) ?_ (u0 (app _ _) rfl)),.inr (.inr ⟨_,rfl,F⟩)⟩;rw[U4 (show ob (Q5 isTup (gv 8)) (uS W T C Ps K Tn us w (.sh (.tup [.str "at",.int (j:Int)])))=some true from rfl)];refine u0 (δ':=uS W T C Ps K Tn us w (.sh (.tup [.str "at",.int ((j*T+r:Nat):Int)]))) (j4 ?_) rfl;have L:(n:Int)<=60:=by omega
  have J:(j:Int)<2 ^ 64:=by omega
  refine W3 (cons_of rfl (cons_of ?_ rfl)) (by show 2<=sizeLine;omega);rw[o5 (x:=.int ((j:Int)*(T:Int))) (y:=.int (r:Int)) (by
   rw[o5 (x:=.int (j:Int)) (y:=.int (T:Int)) rfl rfl];exact Gw.mw0 _ _ ⟨by omega,J⟩) (by
   rw[o5 (x:=.int w) (y:=.int (T:Int)) rfl rfl,Gw.Q9 _ _ (by omega),hr])]
  show some (D.int ((j:Int)*(T:Int)+(r:Int)))=_;rw[Int.natCast_add,Int.natCast_mul]
theorem g50(h:∀d∈l,tree d=true):trees l=true:=by
 induction l with
 | nil=>unfold trees;rfl
 | cons d l ih =>
  unfold trees;rw[h d A5,ih λe he=>h e (B9 _ he)];rfl
theorem z10(h:∀d∈l,tree d=true):tree (.tup l)=true:=by unfold tree;exact g50 h
theorem y00(s:Str):tree (.str s)=true:=by unfold tree;rfl
theorem e90{v:D}(h:Lv n v):tree v=true:=by
 rcases h with rfl|⟨i,rfl⟩|⟨i,rfl,_⟩
 ·unfold tree;rfl
 ·unfold tree;rfl
 ·exact z10 λd hd=>by
   simp only[List.mem_cons,List.not_mem_nil,or_false] at hd;rcases hd with rfl|rfl<;>(unfold tree;rfl)
theorem fe0(p:Pt)(h:∀v∈p.vals,tree v=true):tree p.d=true:=by
 have F:∀ps:List (Str×D),(∀v∈ps.map (·.2),tree v=true)->tree (.tup (ps.map pr))=true:=λps hv=>z10 λd hd=>by
  obtain⟨q,hq,rfl⟩:=A9.mp hd;refine z10 λe he=>?_
  simp only[List.mem_cons,List.not_mem_nil,or_false] at he;rcases he with rfl|rfl
  ·exact y00 _
  ·exact hv q.2 (A9.mpr ⟨q,hq,rfl⟩)
 cases p with
 | text w=>exact z10 λd hd=>by simp only[List.mem_cons,List.not_mem_nil,or_false] at hd;rcases hd with rfl|rfl<;>exact y00 _
 | row vs =>
   refine z10 λd hd=>?_
   simp only[List.mem_cons,List.not_mem_nil,or_false] at hd;rcases hd with rfl|rfl
   ·exact y00 _
   ·exact z10 λv hv=>(h v hv)
 | table ps =>
   refine z10 λd hd=>?_
   simp only[List.mem_cons,List.not_mem_nil,or_false] at hd;rcases hd with rfl|rfl
   ·exact y00 _
   ·exact F ps h
 | rcd c ps =>
   refine z10 λd hd=>?_
   simp only[List.mem_cons,List.not_mem_nil,or_false] at hd;rcases hd with rfl|rfl|rfl
   ·exact y00 _
   ·exact y00 _
   ·exact F ps h
theorem en0(W:D)(hT:0<T/\T<=7)(hn:n<=60)(C Ps K Tn:Sl)(z:Int)(s8:Sl)(vs:List D)(hv:∀v∈vs,Lv n v)(hl:vs.length<=12) :
  ∃us z' t8,V7 (gN 8) UV vs (uS W T C Ps K Tn [] z s8)=some (.nx (uS W T C Ps K Tn us z' t8))/\us.length=vs.length/\∀u∈us,Lv (n*T) u:=by
 obtain⟨δ',e,us,z',t8,rfl,h1,h2⟩:=O8 (f:=gN 8) (G:=UV) (λi δ=>∃us z t8,δ=uS W T C Ps K Tn us z t8/\us.length=i/\∀u∈us,Lv (n*T) u) vs 0 (uS W T C Ps K Tn [] z s8) (by
  rintro j d δ hj ⟨us,z,t8,rfl,h1,h2⟩;have F:j<vs.length:=(E1.mp hj).1;obtain⟨z',v',e,h3⟩:=Zi0 W hT hn C Ps K Tn us z (hv d (L3 hj)) (by omega);refine⟨_,_,rfl,e,us++[v'],z',_,rfl,by rw[List.length_append,List.length_singleton,h1],λu hu=>?_⟩;rcases B8.mp hu with hu|hu
  ·exact h2 u hu
  ·rw[List.mem_singleton.mp hu];exact h3) ⟨[],z,s8,rfl,rfl,λu hu=>by cases hu⟩
 exact⟨us,z',t8,e,by omega,h2⟩
def UT:GS:=(v9 (U7 6 (X5 v8))
 (v9 (m7 (gN 7) (oA (z9 (o2 (gv 2) (o2 (gv 5) (gv 5) U0) j7) (z9 (o2 (gv 4) (gc (.int 31)) j7) v8)) X4))
 (v9 (R7 (xg0 (oA (z9 (o2 (gv 0) (gv 4) ixD) v8) Z9)) (gN 8)
 UV)
 (v9 (X7 (V8 3 (yl0 (oA (z9 (o2 (gv 0) (gv 4) ixD) (z9 (gv 6) v8)) V2))))
 p8))))
def tS(W:D)(T:Nat)(c:Int)(Ps:List Pt)(k t:Nat)(s6 s7 s8:Sl):Ds:=[.sh W,.sh (.int (T:Int)),.sh (.int c),.ow (.lst (Ps.map Pt.d)),.sh (.int (k:Int)),.sh (.int (t:Int)),s6,s7,s8]
theorem br0(hp:Web ps)(hT:0<T/\T<=7)(c:Int)(Ps:List Pt){k t:Nat}(hk:k<ps.length)(ht:t<T)(hl:Ps.length<=500)(s6 s7 s8:Sl) :
  ∃p t6 t7 t8,UT (tS (wd ps) T c Ps k t s6 s7 s8)=some (.nx (tS (wd ps) T c (Ps++[p]) k t t6 t7 t8))/\Pw (ps.length*T) p:=by
 have zs:(1000:Nat)<=sizeLine:=by decide
 have F:=hp.len;obtain⟨hx,_,pw⟩:=hp.at hk;obtain⟨z,_,_,hz⟩:=ve0 (c+(t:Int)*(t:Int)) ((k:Int)+31) (by omega);obtain⟨us,z',t8,e,h1,h2⟩:=en0 (wd ps) hT F.2 (.sh (.int c)) (.ow (.lst (Ps.map Pt.d))) (.sh (.int (k:Int))) (.sh (.int (t:Int))) z s8 ps[k].vals pw.lv pw.few;have q1:=pq0 ps[k] us h1;refine⟨Pn.put ps[k] us,.ow (.lst us),.sh (.int z'),t8,?_,⟨by rw[q1,h1];exact pw.few,by rw[q1];exact h2⟩⟩;refine u0 (δ':=tS (wd ps) T c Ps k t (.ow (.lst [])) s7 s8) rfl (u0 (δ':=uS (wd ps) T (.sh (.int c)) (.ow (.lst (Ps.map Pt.d))) (.sh (.int (k:Int))) (.sh (.int (t:Int))) [] z s8) (j4 (d:=.int z) ?_) (u0 (O7 (items:=ps[k].vals) ?_ e) (u0 (δ':=tS (wd ps) T c (Ps++[Pn.put ps[k] us]) k t (.ow (.lst us)) (.sh (.int z')) t8) ?_ rfl)))
 ·rw[m5 (ds:=[.int (c+(t:Int)*(t:Int)),.int ((k:Int)+31)]) (cons_of (by
   rw[o5 (x:=.int c) (y:=.int ((t:Int)*(t:Int))) rfl (by
    rw[o5 (x:=.int (t:Int)) (y:=.int (t:Int)) rfl rfl];exact Gw.mw0 _ _ (by omega))]
   rfl) (cons_of rfl rfl))]
  exact hz
 ·show (oA (z9 (o2 (gv 0) (gv 4) ixD) v8) Z9 _).bind _=_
  rw[m5 (ds:=[ps[k].d]) (cons_of (by rw[o5 (x:=wd ps) (y:=.int (k:Int)) rfl rfl];exact hx) rfl),show Z9 [ps[k].d]=some (.lst ps[k].vals) from Gw.ns0 _ pw.f];rfl
 ·have eb:yl0 (oA (z9 (o2 (gv 0) (gv 4) ixD) (z9 (gv 6) v8)) V2) (uS (wd ps) T (.sh (.int c)) (.ow (.lst (Ps.map Pt.d))) (.sh (.int (k:Int))) (.sh (.int (t:Int))) us z' t8)=some (Pn.put ps[k] us).d:=by
   refine s30 ?_ (fe0 _ (by rw[q1];exact λv hv=>e90 (h2 v hv)));rw[m5 (ds:=[ps[k].d,.lst us]) (cons_of (by rw[o5 (x:=wd ps) (y:=.int (k:Int)) rfl rfl];exact hx) rfl)];exact Z60 _ pw.f us h1
  unfold X7 V8;rw[show owL 3 (uS (wd ps) T (.sh (.int c)) (.ow (.lst (Ps.map Pt.d))) (.sh (.int (k:Int))) (.sh (.int (t:Int))) us z' t8)=some (Ps.map Pt.d) from rfl,Option.bind_some,eb];show Option.map (λr:D×Ds=>Res.nx r.2) (if (Ps.map Pt.d).length<sizeLine then some (D.non,([.sh (wd ps),.sh (.int (T:Int)),.sh (.int c),.ow (.lst (Ps.map Pt.d++[(Pn.put ps[k] us).d])),.sh (.int (k:Int)),.sh (.int (t:Int)),.ow (.lst us),.sh (.int z'),t8]:Ds)) else none)=_;rw[if_pos (by rw[List.length_map];omega)];show some (Res.nx [.sh (wd ps),.sh (.int (T:Int)),.sh (.int c),.ow (.lst (Ps.map Pt.d++[(Pn.put ps[k] us).d])),.sh (.int (k:Int)),.sh (.int (t:Int)),.ow (.lst us),.sh (.int z'),t8])=_;unfold tS;rw[List.map_append];rfl
def tR(W:D)(T:Nat)(c:Int)(Ps:List Pt)(s4 s5 s6 s7 s8:Sl):Ds:=[.sh W,.sh (.int (T:Int)),.sh (.int c),.ow (.lst (Ps.map Pt.d)),s4,s5,s6,s7,s8]
theorem aa0(hp:Web ps)(hT:0<T/\T<=7)(c:Int)(Ps:List Pt){k:Nat}(hk:k<ps.length)(hl:Ps.length<=400)(hw:∀p∈Ps,Pw (ps.length*T) p)(s5 s6 s7 s8:Sl) :
  ∃Ps' t5 t6 t7 t8,V7 (gN 5) UT (W4 0 (T:Int)) (tR (wd ps) T c Ps (.sh (.int (k:Int))) s5 s6 s7 s8)=some (.nx (tR (wd ps) T c Ps' (.sh (.int (k:Int))) t5 t6 t7 t8))/\Ps'.length=Ps.length+T/\∀p∈Ps',Pw (ps.length*T) p:=by
 have F:(W4 0 (T:Int)).length=T:=by rw[tn0,List.length_map,List.length_range']
 obtain⟨δ',e,Ps',t5,t6,t7,t8,rfl,h1,h2⟩:=O8 (f:=gN 5) (G:=UT) (λi δ=>∃Ps' t5 t6 t7 t8,δ=tR (wd ps) T c Ps' (.sh (.int (k:Int))) t5 t6 t7 t8/\Ps'.length=Ps.length+i/\∀p∈Ps',Pw (ps.length*T) p) (W4 0 (T:Int)) 0 (tR (wd ps) T c Ps (.sh (.int (k:Int))) s5 s6 s7 s8) (by
  rintro j d δ hj ⟨Ps',t5,t6,t7,t8,rfl,h1,h2⟩;obtain⟨J,rfl⟩:=zj0 hj;obtain⟨p,u6,u7,u8,e,h3⟩:=br0 hp hT c Ps' hk (t:=j) (by omega) (by omega) t6 t7 t8;refine⟨_,_,rfl,e,Ps'++[p],_,u6,u7,u8,rfl,by rw[List.length_append,List.length_singleton];omega,λx hx=>?_⟩;rcases B8.mp hx with hx|hx
  ·exact h2 x hx
  ·rw[List.mem_singleton.mp hx];exact h3) ⟨Ps,s5,s6,s7,s8,rfl,rfl,hw⟩
 exact⟨Ps',t5,t6,t7,t8,e,by rw[F] at h1;omega,h2⟩
def UK:GS:=(v9 (R7 (S5 (z9 (gv 1) v8)) (gN 5)
 UT)
 p8)
theorem lm0(hp:Web ps)(h32:ps.length*T<=60)(hT:0<T/\T<=7)(c:Int):∃qs,M4 [wd ps,.int (T:Int),.int c]=some (wd qs)/\Web qs/\qs.length=ps.length*T:=by
 have zs:(1000:Nat)<=sizeLine:=by decide
 have L:=hp.len;have M:(W4 0 (ps.length:Int)).length=ps.length:=by rw[tn0,List.length_map,List.length_range']
 have S:0<ps.length*T:=Nat.mul_pos L.1 hT.1;obtain⟨δ',e,F,t4,t5,t6,t7,t8,rfl,h1,h2⟩:=O8 (f:=gN 4) (G:=UK) (λi δ=>∃F t4 t5 t6 t7 t8,δ=tR (wd ps) T c F t4 t5 t6 t7 t8/\F.length=i*T/\∀p∈F,Pw (ps.length*T) p) (W4 0 (ps.length:Int)) 0 (tR (wd ps) T c [] .un .un .un .un .un) (by
  rintro j d δ hj ⟨F,t4,t5,t6,t7,t8,rfl,h1,h2⟩;obtain⟨U,rfl⟩:=zj0 hj;have J:j<ps.length:=by omega
  have Y:j*T<=60:=C0 (m3 T (X2 J)) h32;rw[Nat.zero_add] at h1;obtain⟨Q,u5,u6,u7,u8,e,h3,h4⟩:=aa0 hp hT c F J (by omega) h2 t5 t6 t7 t8;refine⟨_,_,rfl,u0 (O7 (items:=W4 0 (T:Int)) (J6 (n:=(T:Int)) rfl (by omega) (by omega)) e) rfl,Q,_,u5,u6,u7,u8,rfl,?_,h4⟩;rw[h3,h1,Nat.zero_add,Nat.add_mul,Nat.one_mul]) ⟨[],.un,.un,.un,.un,.un,rfl,(by simp),λp O=>by cases O⟩
 rw[Nat.zero_add,M] at h1;refine⟨F,d8 rfl (u0 (δ':=tR (wd ps) T c [] .un .un .un .un .un) rfl (u0 (O7 (items:=W4 0 (ps.length:Int)) (J6 (n:=(ps.length:Int)) (cons_of (t90 ps _ rfl) rfl) (by omega) (by omega)) e) (n8 (Z7 ?_)))),⟨by omega,by rw[h1];exact h2⟩,h1⟩;rfl
theorem Yi0{k t:Nat}(hd:T ∣ n)(hk:k<n)(ht:t<T):k/T*T+t<n:=by
 obtain⟨m,rfl⟩:=hd;have:k/T<m:=Nat.div_lt_of_lt_mul hk
 calc k/T*T+t<k/T*T+T:=by omega
  _=(k/T+1)*T:=by rw[Nat.add_mul,Nat.one_mul]
  _<=m*T:=m3 T (by omega)
  _=T*m:=Nat.mul_comm _ _
end Fa
namespace La
open DL W
def wt0:GS:=(v9 (d9 (Z2 (z9 (o2 (o2 (gv 0) (gc (.int 0)) ixD) (gc (.int 1)) ixD) (z9 (o2 (o2 (gv 0) (gc (.int 1)) ixD) (gc (.int 1)) ixD) v8))))
 p8)
def rs0:List Str:=["both"]
def Z3:List D->Option D:=mkF 1 rs0 wt0
def ws0:GS:=(v9 (ifD (ob (oA (z9 (gv 2) v8) V3))
 (v9 (m7 (gN 3) (oA (z9 (gv 2) v8) Z3))
 (v9 (d9 (o2 (oA (z9 (o2 (gv 0) (o2 (gv 3) (gc (.int 0)) ixD) ixD) v8) Q7) (oA (z9 (o2 (gv 1) (o2 (gv 3) (gc (.int 1)) ixD) ixD) v8) Q7) S7))
 p8))
 p8)
 (v9 (d9 (o2 (o2 (gv 2) (gc (.int 0)) ixD) (o2 (gv 2) (gc (.int 1)) ixD) S7))
 p8))
def ru0:List Str:=["one", "other", "both", "pair"]
def U3:List D->Option D:=mkF 3 ru0 ws0
def pn0:GS:=(v9 (U7 2 (X5 v8))
 (v9 (m7 (gN 3) (o2 (gv 0) (gv 1) vz0))
 (v9 (R9 (ob (o2 (gv 3) (gc .non) wi0))
 (v9 (X7 (V8 2 (o2 (gv 3) (gc (.int 1)) ixD)))
 (v9 (m7 (gN 3) (o2 (gv 0) (o2 (gv 3) (gc (.int 0)) ixD) vz0))
 p8)) 100000)
 (v9 (z80 (zi0 (oA (z9 (gv 2) v8) hf0)))
 p8))))
def is0:List Str:=["came", "pair", "backward", "step"]
def zh0:List D->Option D:=mkN 2 is0 pn0
def ww0:GS:=(v9 (U7 3 (yp0 (gv 2) (gc .non)))
 (v9 (ifD (ob (o2 (oA (z9 (o2 (gv 0) (o2 (gv 2) (gc (.int 0)) ixD) ixD) v8) Q7) (oA (z9 (o2 (gv 1) (o2 (gv 2) (gc (.int 1)) ixD) ixD) v8) Q7) S7))
 (v9 (d9 (zi0 (Z2 (z9 (gv 3) (z9 (X5 v8) v8)))))
 p8)
 p8)
 (v9 (U7 4 (X5 (z9 (gv 2) v8)))
 (v9 (m7 (gN 5) (gc (.int 0)))
 (v9 (R9 (ob (o2 (gv 5) (y40 (oA (z9 (gv 4) v8) W0)) ltD))
 (v9 (m7 (gN 6) (yl0 (o2 (gv 4) (gv 5) ixD)))
 (v9 (l60 5 (gc (.int 1)))
 (v9 (R7 (wa0 (z9 (oA (z9 (o2 (gv 0) (o2 (gv 6) (gc (.int 0)) ixD) ixD) v8) m_values) (z9 (oA (z9 (o2 (gv 1) (o2 (gv 6) (gc (.int 1)) ixD) ixD) v8) m_values) v8))) (G9 7 8)
 (v9 (ifD (ob (oA (z9 (gv 0) (z9 (gv 1) (z9 (gv 8) v8))) U3))
 (v9 (d9 (zi0 (Z2 (z9 (gv 3) (z9 (o2 (oA (z9 (gv 3) (z9 (gv 6) v8)) zh0) (X5 (z9 (gv 7) v8)) j7) v8)))))
 p8)
 p8)
 (v9 (ifD (K4 (ob (oA (z9 (gv 8) v8) V3)) (ya0 (ob (o2 (oA (z9 (gv 8) v8) Z3) (gv 3) (J4 true)))))
 (v9 (zv0 (y90 (Z2 (z9 (gv 6) (z9 (gv 7) v8)))) (yi0 3 (oA (z9 (gv 8) v8) Z3)))
 (v9 (X7 (V8 4 (oA (z9 (gv 8) v8) Z3)))
 p8))
 p8)
 p8)))
 p8))) 100000)
 (v9 (d9 (zi0 (Z2 (z9 (gv 3) (z9 (gc .non) v8)))))
 p8))))))
def yb0:List Str:=["one", "other", "start", "came", "waiting", "number", "pair", "place", "both"]
def Y0:List D->Option D:=mkF 3 yb0 ww0
def vh0:GS:=(v9 (m7 (gN 3) (oA (z9 (gv 0) (z9 (gv 0) (z9 (Z2 (z9 (gv 1) (z9 (gv 2) v8))) v8))) Y0))
 (v9 (ifD (ob (o2 (o2 (gv 3) (gc (.int 1)) ixD) (gc .non) wi0))
 (v9 (d9 (gc .non))
 p8)
 p8)
 (v9 (d9 (oA (z9 (o2 (gv 3) (gc (.int 0)) ixD) v8) xt0))
 p8)))
def qf0:List Str:=["web", "p", "q", "walk"]
def U9:List D->Option D:=mkF 3 qf0 vh0
def zp0:GS:=(v9 (m7 (gN 3) (oA (z9 (gv 0) (z9 (gv 0) (z9 (Z2 (z9 (gv 1) (z9 (gv 2) v8))) v8))) Y0))
 (v9 (ifD (ob (o2 (o2 (gv 3) (gc (.int 1)) ixD) (gc .non) wi0))
 (v9 (d9 (gc .non))
 p8)
 p8)
 (v9 (z80 (oA (z9 (o2 (gv 3) (gc (.int 0)) ixD) v8) xt0))
 p8)))
def xo0:List Str:=["web", "p", "q", "walk"]
def W8:List D->Option D:=mkN 3 xo0 zp0
def wr0:GS:=(v9 (d9 (o2 (oA (z9 (gv 0) (z9 (gv 0) (z9 (Z2 (z9 (gv 1) (z9 (gv 2) v8))) v8))) Y0) (gc (.int 1)) ixD))
 p8)
def rq0:List Str:=["web", "p", "q"]
def M5:List D->Option D:=mkF 3 rq0 wr0
def ug0:GS:=(v9 (U7 3 (yp0 (gv 2) (gc (.bl true))))
 (v9 (U7 4 (X5 (z9 (gv 2) v8)))
 (v9 (R9 (ob (o2 (y40 (oA (z9 (gv 4) v8) W0)) (gc (.int 0)) gtD))
 (v9 (zv0 (uq0 0 1 (vb0 4) W6) (gN 5))
 (v9 (ifD (ob (o2 (gv 5) (gc .non) qm0))
 (v9 (d9 (gc .non))
 p8)
 p8)
 (v9 (R7 (xg0 (gv 5)) (gN 6)
 (v9 (ifD (ya0 (ob (o2 (gv 6) (gv 3) (J4 true))))
 (v9 (zv0 (y90 (gc (.bl true))) (yi0 3 (gv 6)))
 (v9 (X7 (V8 4 (gv 6)))
 p8))
 p8)
 p8))
 p8))) 100000)
 (v9 (d9 (zi0 (oA (z9 (oA (z9 (gv 3) v8) vk0) v8) w50)))
 p8))))
def ue0:List Str:=["_law_one", "_law_other", "_law_pair", "_law_known", "_law_waiting", "_law_more", "_law_fresh"]
def O2:List D->Option D:=mkF 3 ue0 ug0
def xi0:GS:=(v9 (ifD (z70 (ob (Q5 l40 (gv 0))))
 (v9 (d9 (gc (.bl false)))
 p8)
 p8)
 (v9 (R7 (xg0 (gv 0)) (gN 1)
 (v9 (ifD (yz0 (z70 (ob (Q5 isTup (gv 1)))) (ob (o2 (oA (z9 (gv 1) v8) W0) (gc (.int 2)) neD)))
 (v9 (d9 (gc (.bl false)))
 p8)
 p8)
 (v9 (R7 (tupI (gv 1)) (gN 2)
 (v9 (ifD (yz0 (z70 (ob (Q5 isInt (gv 2)))) (ob (Q5 isBool (gv 2))))
 (v9 (d9 (gc (.bl false)))
 p8)
 p8)
 p8))
 p8)))
 (v9 (d9 (gc (.bl true)))
 p8)))
def tj0:List Str:=["_law_found", "_law_pair", "_law_number"]
def T4:List D->Option D:=mkF 1 tj0 xi0
def vr0:GS:=(v9 (m7 (gN 3) (oA (z9 (gv 0) (z9 (gv 0) (z9 (Z2 (z9 (gv 1) (z9 (gv 2) v8))) v8))) O2))
 (v9 (orS (U7 4 (oA (z9 (gv 0) (z9 (gv 1) (z9 (gv 2) v8))) W8)) (m7 (gN 4) (oA (z9 (gv 0) (z9 (gv 1) (z9 (gv 2) v8))) U9)))
 (v9 (m7 (gN 5) (oA (z9 (gv 0) (z9 (gv 1) (z9 (gv 2) v8))) M5))
 (v9 (ifD (ob (o2 (gv 3) (gc .non) qm0))
 (v9 (d9 (zi0 (vm0 (o2 (gv 4) (gc .non) qm0) (Q5 l40 (gv 5)))))
 p8)
 p8)
 (v9 (ifD (yz0 (ob (o2 (gv 5) (gc .non) wi0)) (yz0 (z70 (ob (yl0 (oA (z9 (gv 4) v8) T4)))) (ya0 (ob (o2 (gv 4) (gv 3) S7)))))
 (v9 (d9 (gc (.bl false)))
 p8)
 p8)
 (v9 (X7 (pe0 4))
 (v9 (m7 (gN 6) (oA (z9 (gv 0) (z9 (gv 2) (z9 (gv 1) v8))) U9))
 (v9 (d9 (vm0 (o2 (gv 6) (oA (z9 (R4 2 [] (xg0 (gv 3)) (G9 0 1) noT (Z2 (z9 (gv 1) (z9 (gv 0) v8)))) v8) w50) G7) (o2 (oA (z9 (gv 0) (z9 (gv 1) (z9 (gv 2) v8))) U9) (gv 3) G7)))
 p8))))))))
def yj0:List Str:=["_law_web_here", "_law_p", "_law_q", "_law_due", "_law_found", "_law_way", "_law_back"]
def R8:List D->Option D:=mkF 3 yj0 vr0
def va0:GS:=(v9 (m7 (gN 2) (X5 (z9 (o2 (gc (.int 2)) (o2 (gv 0) (gc (.int 8)) m8) j7) (z9 (o2 (gc (.int 2)) (o2 (o2 (gv 0) (gc (.int 8)) b7) (gc (.int 8)) m8) j7) v8))))
 (v9 (m7 (gN 3) (oA (z9 (gv 2) v8) ux0))
 (v9 (ifD (ob (o2 (o2 (o2 (gv 0) (gc (.int 64)) b7) (gc (.int 2)) m8) (gc (.int 1)) eqD))
 (v9 (m7 (gN 3) (o2 (gv 1) (oA (z9 (gv 2) v8) ux0) m8))
 p8)
 p8)
 (v9 (U7 4 (X5 v8))
 (v9 (R7 (xg0 (gv 2)) (gN 5)
 (v9 (m7 (gN 6) (y40 (oA (z9 (gv 4) v8) W0)))
 (v9 (R7 (S5 (z9 (gv 5) v8)) (gN 7)
 (v9 (X7 (V8 4 (Z2 (z9 (gc (.str "row")) (z9 (Z2 (z9 (oA (z9 (o2 (o2 (gv 6) (gv 7) j7) (gv 3) eqD) v8) intOfD) (z9 (Z2 (z9 (gc (.str "at")) (z9 (o2 (gv 6) (o2 (o2 (gv 7) (gc (.int 1)) j7) (gv 5) m8) j7) v8))) v8))) v8)))))
 p8))
 p8)))
 (v9 (d9 (zi0 (oA (z9 (gv 4) v8) Q6)))
 p8))))))
def yt0:List Str:=["_law_cell", "_law_spare", "_law_sizes", "_law_odd", "_law_parts", "_law_size", "_law_start", "_law_k"]
def K7:List D->Option D:=mkF 2 yt0 va0
def f50:GS:=(v9 (m7 (gN 1) (oA (z9 (gv 0) (z9 (gc (.int 9)) v8)) K8))
 (v9 (m7 (gN 2) (oA (z9 (gv 0) (z9 (gc (.int 4)) v8)) o9))
 (v9 (m7 (gN 3) (o2 (X5 (z9 (gc (.int 1)) (z9 (gc (.int 2)) (z9 (gc (.int 3)) (z9 (gc (.int 6)) v8))))) (o2 (gv 2) (gc (.int 4)) m8) ixD))
 (v9 (m7 (gN 1) (oA (z9 (gv 1) (z9 (gv 3) (z9 (oA (z9 (gv 0) (z9 (gc (.int 5)) v8)) o9) v8))) M4))
 (v9 (ifD (ob (o2 (o2 (o2 (gv 2) (gc (.int 4)) b7) (gc (.int 2)) m8) (gc (.int 1)) G7))
 (v9 (m7 (gN 1) (oA (z9 (gv 1) (z9 (oA (z9 (oA (z9 (gv 0) (z9 (gc (.int 6)) v8)) o9) (z9 (gc (.int 9)) v8)) X4) v8)) R3))
 p8)
 p8)
 (v9 (ifD (ob (o2 (o2 (o2 (gv 2) (gc (.int 8)) b7) (gc (.int 4)) m8) (gc (.int 1)) G7))
 (v9 (m7 (gN 1) (oA (z9 (oA (z9 (gv 0) (z9 (gc (.int 5)) v8)) o9) (z9 (oA (z9 (gv 0) (z9 (gc (.int 6)) v8)) o9) v8)) K7))
 p8)
 p8)
 (v9 (R7 (S5 (z9 (gc (.int 10)) v8)) (gN 4)
 (v9 (m7 (gN 5) (oA (z9 (o2 (oA (z9 (gv 0) (z9 (gc (.int 7)) v8)) o9) (o2 (gv 4) (gv 4) U0) j7) (z9 (o2 (gv 4) (gc (.int 70)) j7) v8)) X4))
 (v9 (m7 (gN 6) (o2 (gv 5) (oA (z9 (gv 1) v8) W0) m8))
 (v9 (m7 (gN 7) (o2 (o2 (gv 5) (gc (.int 60)) b7) (oA (z9 (gv 1) v8) W0) m8))
 (v9 (ifD (K4 (ob (o2 (o2 (gv 4) (gc (.int 4)) m8) (gc (.int 0)) gtD)) (ob (o2 (o2 (o2 (gv 2) (gc (.int 8)) b7) (gc (.int 4)) m8) (gc (.int 1)) S7)))
 (v9 (m7 (gN 7) (o2 (o2 (o2 (gv 6) (gv 3) b7) (gv 3) U0) (o2 (o2 (gv 5) (gc (.int 60)) b7) (gv 3) m8) j7))
 p8)
 p8)
 (v9 (ifD (z70 (ob (oA (z9 (gv 1) (z9 (gv 6) (z9 (gv 7) v8))) R8)))
 (v9 (d9 (gc (.bl false)))
 p8)
 p8)
 p8))))))
 (v9 (d9 (oA (z9 (gv 1) (z9 (gc (.int 0)) (z9 (gc (.int 0)) v8))) R8))
 p8))))))))
def Z90:List Str:=["_law_script", "_law_web_here", "_law_turn", "_law_times", "_law_j", "_law_number", "_law_p", "_law_q"]
def u50:List D->Option D:=mkF 1 Z90 f50
end La
namespace La
open DL W K22 Ta
abbrev Bk:=Option ((Nat×Nat)×Nat)
abbrev Cs:=List (Nat×Nat)×List Bk
def cD:Bk->D
 | none=>.non
 | some (p,k)=>.tup [pN p,.int (k:Int)]
def cm(s:Cs):D:=.dct (.inr (s.1.map k2)) (s.2.map cD)
def nI(k:Nat):D:=.int (k:Int)
def ex1(q:Nat×Nat)(k:Nat)(v:D×D)(s:Cs):Cs:=match gl1 v with
 | some x=>if x∈s.1 then s else (s.1++[x],s.2++[some (q,k)])
 | none=>s
def exs(q:Nat×Nat):Nat->List (D×D)->Cs->Cs
 | _,[],s=>s
 | k,v::z,s=>exs q (k+1) z (ex1 q k v s)
def prt(ps qs:List Pt)(v:D×D):Prop:=match gl1 v with
 | some x=>Pn.hd (pa ps x.1)≠Pn.hd (pa qs x.2)
 | none=>v.1≠v.2
def zp(ps qs:List Pt)(q:Nat×Nat):List (D×D):=(pa ps q.1).vals.zip (pa qs q.2).vals
def lk(s:Cs)(q:Nat×Nat)(b:Bk):Prop:=zu0 (s.1.map k2) (s.2.map cD) (k2 q)=some (cD b)
inductive Wy (s:Cs):(Nat×Nat)->List Nat->Prop
 | top {q:Nat×Nat}:lk s q none->Wy s q []
 | go {q:Nat×Nat} {p:Nat×Nat} {k:Nat} {w:List Nat}:lk s q (some (p,k))->Wy s p w->Wy s q (w++[k])
theorem Wy.lk{s:Cs}{w:List Nat}(h:Wy s q w):∃b,lk s q b:=by
 cases h with
 | top h=>exact⟨_,h⟩
 | go h _=>exact⟨_,h⟩
theorem ed0{ks:List (List N6)}{k:List N6}{d:D}(ks':List (List N6))(ds':List D)(h:zu0 ks ds k=some d):zu0 (ks++ks') (ds++ds') k=some d:=by
 induction ks generalizing ds with
 | nil=>cases ds<;>exact nomatch h
 | cons q ks ih =>
  cases ds with
  | nil=>exact nomatch h
  | cons x ds =>
   rw[List.cons_append,List.cons_append];unfold zu0 at h ⊢;split at h
   ·rename_i e;rw[if_pos e];exact h
   ·rename_i e;rw[if_neg e];exact ih h
theorem fq0{ks:List (List N6)}{k:List N6}{d:D}(hl:ks.length=ds.length)(h:k∉ks):zu0 (ks++[k]) (ds++[d]) k=some d:=by
 induction ks generalizing ds with
 | nil =>
  cases ds with
  | nil=>show (if k=k then some d else _)=_;rw[if_pos rfl]
  | cons=>cases hl
 | cons q ks ih =>
  cases ds with
  | nil=>cases hl
  | cons x ds =>
   rw[List.cons_append,List.cons_append];unfold zu0;rw[if_neg (λe=>h (by rw[e];exact A5))];exact ih (by simpa using hl) λz=>h (B9 _ z)
theorem Wy.app{s:Cs}{w:List Nat}(A:List (Nat×Nat))(B:List Bk)(h:Wy s q w):Wy (s.1++A,s.2++B) q w:=by
 have up:∀{q b},La.lk s q b->La.lk (s.1++A,s.2++B) q b:=λ{q b} e=>by
  unfold La.lk;rw[List.map_append,List.map_append];exact ed0 _ _ e
 induction h with
 | top e=>exact .top (up e)
 | go e _ ih=>exact .go (up e) ih
def WW:GS:=(v9 (X7 (V8 2 (o2 (gv 3) (gc (.int 1)) ixD)))
 (v9 (m7 (gN 3) (o2 (gv 0) (o2 (gv 3) (gc (.int 0)) ixD) vz0))
 p8))
theorem bg0(p:Nat×Nat):G5 (pN p)=some (k2 p):=rfl
theorem kx0{s:Cs}{b:Bk}(h:lk s q b):vz0 (cm s) (pN q)=some (cD b):=h
theorem il0{s:Cs}(P:Sl):∀{q:Nat×Nat} {w:List Nat},Wy s q w->∀(b:Bk),lk s q b->∀(f:Nat) (bk:List Nat),w.length<f->bk.length+w.length<=5000 ->
  R9 (ob (o2 (gv 3) (gc .non) wi0)) WW f [.sh (cm s),P,.ow (.lst (bk.map nI)),.sh (cD b)]=some (.nx [.sh (cm s),P,.ow (.lst ((bk++w.reverse).map nI)),.sh .non]):=by
 intro q w h;have one:∀{q:Nat×Nat} {b c:Bk},lk s q b->lk s q c->cD b=cD c:=λh1 h2=>B1 (h1.symm.trans h2)
 have zs:(5000:Nat)<=sizeLine:=by decide
 induction h with
 | top e =>
  intro b hb f bk hf _;rw[one hb e];obtain⟨f,rfl⟩:∃g,f=g+1:=⟨f - 1,by simp at hf;omega⟩;rw[List.reverse_nil,List.append_nil];rfl
 | @go q p k w e hw ih =>
  intro b hb f bk hf hl;rw[one hb e];rw[List.length_append,List.length_singleton] at hf hl;obtain⟨f,rfl⟩:∃g,f=g+1:=⟨f - 1,by omega⟩;obtain⟨c,hc⟩:=hw.lk;have body:WW [.sh (cm s),P,.ow (.lst (bk.map nI)),.sh (cD (some (p,k)))]=some (.nx [.sh (cm s),P,.ow (.lst ((bk++[k]).map nI)),.sh (cD c)]):=by
   refine u0 (δ':=[.sh (cm s),P,.ow (.lst ((bk++[k]).map nI)),.sh (cD (some (p,k)))]) ?_ (u0 (j4 (d:=cD c) ?_) rfl)
   ·unfold X7 V8
    show Option.map (λr:D×Ds=>Res.nx r.2) (if (bk.map nI).length<sizeLine then some (D.non,([.sh (cm s),P,.ow (.lst (bk.map nI++[nI k])),.sh (cD (some (p,k)))]:Ds)) else none)=_;rw[if_pos (by rw[List.length_map];omega),List.map_append];rfl
   ·rw[o5 (x:=cm s) (y:=pN p) rfl rfl]
    exact kx0 hc
  have:=ih c hc f (bk++[k]) (by omega) (by rw[List.length_append,List.length_singleton];omega);unfold R9;rw[show ob (o2 (gv 3) (gc .non) wi0) [.sh (cm s),P,.ow (.lst (bk.map nI)),.sh (cD (some (p,k)))]=some true from rfl];dsimp only;rw[body];dsimp only;rw[this,List.reverse_append,List.append_assoc];rfl
theorem cw0{s:Cs}{w:List Nat}(h:Wy s q w)(hl:w.length<=4000):zh0 [cm s,pN q]=some (.lst (w.map nI)):=by
 obtain⟨b,hb⟩:=h.lk;refine K6 rfl (u0 (δ':=[.sh (cm s),.sh (pN q),.ow (.lst ([].map nI)),.un]) rfl (u0 (j4 (d:=cD b) ?_) (u0 (il0 (.sh (pN q)) h b hb 100000 [] (by omega) (by simp only[List.length_nil];omega)) (M8 ?_))))
 ·rw[o5 (x:=cm s) (y:=pN q) rfl rfl]
  exact kx0 hb
 ·show some (Res.rf (.lst ((([]++w.reverse).map nI).reverse)))=_
  rw[List.nil_append,← List.map_reverse,List.reverse_reverse]
theorem gs0(p:Pt)(h:p.few):Q7 [p.d]=some (Pn.hd p):=Pn.d50 p h
theorem nw0(p:Pt)(h:p.few):m_values [p.d]=some (.lst p.vals):=Pn.v00 p h
theorem jt0(v w:D):V3 [.tup [v,w]]=some (.bl (isTup v&&isTup w)):=Ta.d00 v w
theorem qa0(i j:Nat):Z3 [.tup [.tup [.str "at",.int (i:Int)],.tup [.str "at",.int (j:Int)]]]=some (pN (i,j)):=d8 rfl (n8 (Z7 (W3 (cons_of rfl (cons_of rfl rfl)) (by show 2<=sizeLine;decide))))
theorem l50{v:D}(h:Lv n v):Pn.Pl v:=by
 rcases h with rfl|⟨z,rfl⟩|⟨j,rfl,_⟩<;>exact⟨rfl,rfl⟩
theorem wb0{v w:D}(hv:Lv n v)(hw:Lv m w):(∃i j:Nat,i<n/\j<m/\v=.tup [.str "at",.int (i:Int)]/\w=.tup [.str "at",.int (j:Int)]/\gl1 (v,w)=some (i,j))∨(gl1 (v,w)=none/\(isTup v&&isTup w)=false):=by
 rcases hv with rfl|⟨z,rfl⟩|⟨i,rfl,hi⟩
 ·exact .inr ⟨rfl,rfl⟩
 ·exact .inr ⟨rfl,rfl⟩
 ·rcases hw with rfl|⟨z,rfl⟩|⟨j,rfl,hj⟩
  ·exact .inr ⟨rfl,rfl⟩
  ·exact .inr ⟨rfl,rfl⟩
  ·exact .inl ⟨i,j,hi,hj,rfl,rfl,rfl⟩
theorem t50(hp:Web ps)(hq:Web qs){x:Nat×Nat}(h1:x.1<ps.length)(h2:x.2<qs.length){g1 g2:GE}(e1:g1 δ=ixD (wd ps) (.int (x.1:Int)))(e2:g2 δ=ixD (wd qs) (.int (x.2:Int))) :
  lg0 (Pn.hd (pa ps x.1)≠Pn.hd (pa qs x.2)) (o2 (oA (z9 g1 v8) Q7) (oA (z9 g2 v8) Q7) S7 δ):=by
 obtain⟨a1,a2⟩:=y80 hp h1;obtain⟨b1,b2⟩:=y80 hq h2;rw[o5 (x:=Pn.hd (pa ps x.1)) (y:=Pn.hd (pa qs x.2)) (by rw[m5 (ds:=[(pa ps x.1).d]) (cons_of (e1.trans a1) rfl)];exact gs0 _ a2.f) (by rw[m5 (ds:=[(pa qs x.2).d]) (cons_of (e2.trans b1) rfl)];exact gs0 _ b2.f)];exact⟨λe=>Pn.ms0 (Pn.vv0 _) (Pn.vv0 _) e,λe=>by rw[Classical.not_not.mp e];exact Pn.pf0 (Pn.vv0 _).le⟩
theorem lc0(hp:Web ps)(hq:Web qs){v w:D}(hv:Lv ps.length v)(hw:Lv qs.length w):lg0 (prt ps qs (v,w)) (U3 [wd ps,wd qs,.tup [v,w]]):=by
 have hl:ob (oA (z9 (gv 2) v8) V3) [.sh (wd ps),.sh (wd qs),.sh (.tup [v,w]),.un]=some (isTup v&&isTup w):=Bw.yu0 (by rw[m5 (ds:=[.tup [v,w]]) rfl];exact jt0 v w);rcases wb0 hv hw with⟨i,j,hi,hj,rfl,rfl,e⟩|⟨e,e2⟩
 ·unfold prt
  rw[e];dsimp only;obtain⟨t1,t2⟩:=t50 hp hq (x:=(i,j)) hi hj (g1:=o2 (gv 0) (o2 (gv 3) (gc (.int 0)) ixD) ixD) (g2:=o2 (gv 1) (o2 (gv 3) (gc (.int 1)) ixD) ixD) (δ:=[.sh (wd ps),.sh (wd qs),.sh (.tup [.tup [.str "at",.int (i:Int)],.tup [.str "at",.int (j:Int)]]),.sh (pN (i,j))]) rfl rfl;have k:∀b,o2 (oA (z9 (o2 (gv 0) (o2 (gv 3) (gc (.int 0)) ixD) ixD) v8) Q7) (oA (z9 (o2 (gv 1) (o2 (gv 3) (gc (.int 1)) ixD) ixD) v8) Q7) S7 [.sh (wd ps),.sh (wd qs),.sh (.tup [.tup [.str "at",.int (i:Int)],.tup [.str "at",.int (j:Int)]]),.sh (pN (i,j))]=some (.bl b)->U3 [wd ps,wd qs,.tup [.tup [.str "at",.int (i:Int)],.tup [.str "at",.int (j:Int)]]]=some (.bl b):=λb hb=>by
   refine d8 rfl (n8 ?_)
   change ifD _ _ _ [.sh (wd ps),.sh (wd qs),.sh (.tup [.tup [.str "at",.int (i:Int)],.tup [.str "at",.int (j:Int)]]),.un]=_
   rw[U4 hl];refine u0 (j4 (d:=pN (i,j)) (by rw[m5 (ds:=[.tup [.tup [.str "at",.int (i:Int)],.tup [.str "at",.int (j:Int)]]]) rfl];exact qa0 i j)) (n8 (Z7 hb))
  exact⟨λz=>k _ (t1 z),λz=>k _ (t2 z)⟩
 ·unfold prt
  rw[e];dsimp only;rw[e2] at hl;have k:∀b,S7 v w=some (.bl b)->U3 [wd ps,wd qs,.tup [v,w]]=some (.bl b):=λb hb=>by
   refine d8 rfl (u0 (δ':=[.sh (wd ps),.sh (wd qs),.sh (.tup [v,w]),.un]) ?_ (n8 (Z7 ?_)))
   ·change ifD _ _ _ [.sh (wd ps),.sh (wd qs),.sh (.tup [v,w]),.un]=_
    rw[Z4 hl];rfl
   ·rw[o5 (x:=v) (y:=w) rfl rfl]
    exact hb
  exact⟨λz=>k _ (Pn.ms0 (l50 hv) (l50 hw) z),λz=>k _ (by rw[Classical.not_not.mp z];exact Pn.pf0 (l50 hw).le)⟩
def PB:GS:=(v9 (ifD (ob (oA (z9 (gv 0) (z9 (gv 1) (z9 (gv 8) v8))) U3))
 (v9 (d9 (zi0 (Z2 (z9 (gv 3) (z9 (o2 (oA (z9 (gv 3) (z9 (gv 6) v8)) zh0) (X5 (z9 (gv 7) v8)) j7) v8)))))
 p8)
 p8)
 (v9 (ifD (K4 (ob (oA (z9 (gv 8) v8) V3)) (ya0 (ob (o2 (oA (z9 (gv 8) v8) Z3) (gv 3) (J4 true)))))
 (v9 (zv0 (y90 (Z2 (z9 (gv 6) (z9 (gv 7) v8)))) (yi0 3 (oA (z9 (gv 8) v8) Z3)))
 (v9 (X7 (V8 4 (oA (z9 (gv 8) v8) Z3)))
 p8))
 p8)
 p8))
def pS(ps qs:List Pt)(P:Sl)(s:Cs)(n:Nat)(a b c:Sl):Ds:=[.sh (wd ps),.sh (wd qs),P,.ow (cm s),.ow (.lst (s.1.map pN)),.sh (.int (n:Int)),a,b,c]
theorem Z50(s:Cs):Dc s.1 (cm s):=⟨_,_,rfl,λx=>by
 rw[List.mem_map];constructor
 ·rintro⟨p,h,e⟩;exact⟨p,h,e.symm⟩
 ·rintro⟨p,h,e⟩;exact⟨p,h,e.symm⟩⟩
theorem e20{s:Cs}{x:Nat×Nat}(h:x∉s.1)(b:Bk):zt0 (s.1.map k2) (k2 x)=(s.1++[x]).map k2/\yc0 (s.1.map k2) (s.2.map cD) (k2 x) (cD b)=(s.2++[b]).map cD:=by
 have hf:K1 (s.1.map k2) (k2 x)=false:=by
  cases e:K1 (s.1.map k2) (k2 x) with
  | false=>rfl
  | true =>
   obtain⟨q,hq,e2⟩:=A9.mp ((lk0 _ _).mp e);exact absurd (t30 e2▸hq) h
 unfold zt0 yc0;rw[hf];simp
theorem bx0(hp:Web ps)(hq:Web qs)(P:Sl){s:Cs}(n:Nat){w:List Nat}(hw:Wy s q w)(hwl:w.length<=4000)(hs:s.1.length<=4000)(k:Nat){v u:D}(hv:Lv ps.length v)(hu:Lv qs.length u) :
  (prt ps qs (v,u)->PB (pS ps qs P s n (.sh (pN q)) (.sh (nI k)) (.sh (.tup [v,u])))=some (.rt (.tup [cm s,.lst ((w++[k]).map nI)]))) /\
  (¬prt ps qs (v,u)->PB (pS ps qs P s n (.sh (pN q)) (.sh (nI k)) (.sh (.tup [v,u])))=some (.nx (pS ps qs P (ex1 q k (v,u) s) n (.sh (pN q)) (.sh (nI k)) (.sh (.tup [v,u]))))):=by
 have zs:(9000:Nat)<=sizeLine:=by decide
 obtain⟨t1,t2⟩:=u30 (g:=oA (z9 (gv 0) (z9 (gv 1) (z9 (gv 8) v8))) U3) (δ:=pS ps qs P s n (.sh (pN q)) (.sh (nI k)) (.sh (.tup [v,u]))) (p:=prt ps qs (v,u)) (by
  rw[m5 (ds:=[wd ps,wd qs,.tup [v,u]]) rfl];exact lc0 hp hq hv hu)
 refine⟨λz=>?_,λz=>?_⟩
 ·refine n8 ?_
  rw[U4 (t1 z)];refine n8 (Z7 ?_);show Z2 (z9 (gv 3) (z9 (o2 (oA (z9 (gv 3) (z9 (gv 6) v8)) zh0) (X5 (z9 (gv 7) v8)) j7) v8)) [.sh (wd ps),.sh (wd qs),zg0 P,.sh (cm s),.sh (.lst (s.1.map pN)),.sh (.int (n:Int)),.sh (pN q),.sh (nI k),.sh (.tup [v,u])]=_;refine W3 (cons_of rfl (cons_of (d:=.lst ((w++[k]).map nI)) ?_ rfl)) (by show 2<=sizeLine;omega);rw[o5 (x:=.lst (w.map nI)) (y:=.lst [nI k]) (by rw[m5 (ds:=[cm s,pN q]) rfl];exact cw0 hw hwl) (zq0 rfl (by show 1<=sizeLine;omega))];show (if (w.map nI).length+1<=sizeLine then some (D.lst (w.map nI++[nI k])) else none)=_;rw[if_pos (by rw[List.length_map];omega),List.map_append];rfl
 ·refine u0 (δ':=pS ps qs P s n (.sh (pN q)) (.sh (nI k)) (.sh (.tup [v,u]))) (by rw[Z4 (t2 z)];rfl) ?_
  have hl:ob (oA (z9 (gv 8) v8) V3) (pS ps qs P s n (.sh (pN q)) (.sh (nI k)) (.sh (.tup [v,u])))=some (isTup v&&isTup u):=Bw.yu0 (by rw[m5 (ds:=[.tup [v,u]]) rfl];exact jt0 v u);unfold ex1;rcases wb0 hv hu with⟨i,j,hi,hj,rfl,rfl,e⟩|⟨e,e2⟩
  ·rw[e]
   dsimp only;have lp:∀s':Cs,oA (z9 (gv 8) v8) Z3 (pS ps qs P s' n (.sh (pN q)) (.sh (nI k)) (.sh (.tup [.tup [.str "at",.int (i:Int)],.tup [.str "at",.int (j:Int)]])))=some (pN (i,j)):=λs'=>by
    rw[m5 (ds:=[.tup [.tup [.str "at",.int (i:Int)],.tup [.str "at",.int (j:Int)]]]) rfl];exact qa0 i j
   have F:ya0 (ob (o2 (oA (z9 (gv 8) v8) Z3) (gv 3) (J4 true))) (pS ps qs P s n (.sh (pN q)) (.sh (nI k)) (.sh (.tup [.tup [.str "at",.int (i:Int)],.tup [.str "at",.int (j:Int)]])))=some (decide ((i,j)∉s.1)):=by
    show ob (o2 (oA (z9 (gv 8) v8) Z3) (gv 3) (J4 true)) [.sh (wd ps),.sh (wd qs),zg0 P,.sh (cm s),.sh (.lst (s.1.map pN)),.sh (.int (n:Int)),.sh (pN q),.sh (nI k),.sh (.tup [.tup [.str "at",.int (i:Int)],.tup [.str "at",.int (j:Int)]])]=_;refine Bw.yu0 ?_;rw[o5 (x:=pN (i,j)) (y:=cm s) (by rw[m5 (ds:=[.tup [.tup [.str "at",.int (i:Int)],.tup [.str "at",.int (j:Int)]]]) rfl];exact qa0 i j) rfl];exact gk0 (Z50 s) (i,j)
   have ht:K4 (ob (oA (z9 (gv 8) v8) V3)) (ya0 (ob (o2 (oA (z9 (gv 8) v8) Z3) (gv 3) (J4 true)))) (pS ps qs P s n (.sh (pN q)) (.sh (nI k)) (.sh (.tup [.tup [.str "at",.int (i:Int)],.tup [.str "at",.int (j:Int)]])))=some (decide ((i,j)∉s.1)):=by
    unfold K4;rw[hl,Option.bind_some];exact F
   by_cases h:(i,j)∈s.1
   ·rw[if_pos h]
    rw[decide_eq_false (λz=>z h)] at ht;refine u0 (δ':=pS ps qs P s n (.sh (pN q)) (.sh (nI k)) (.sh (.tup [.tup [.str "at",.int (i:Int)],.tup [.str "at",.int (j:Int)]]))) ?_ rfl;rw[Z4 ht];rfl
   ·rw[if_neg h]
    rw[decide_eq_true h] at ht;obtain⟨k1,J⟩:=e20 h (some (q,k));refine u0 (δ':=pS ps qs P (s.1++[(i,j)],s.2++[some (q,k)]) n (.sh (pN q)) (.sh (nI k)) (.sh (.tup [.tup [.str "at",.int (i:Int)],.tup [.str "at",.int (j:Int)]]))) ?_ rfl;rw[U4 ht];refine u0 (δ':=[.sh (wd ps),.sh (wd qs),P,.ow (cm (s.1++[(i,j)],s.2++[some (q,k)])),.ow (.lst (s.1.map pN)),.sh (.int (n:Int)),.sh (pN q),.sh (nI k),.sh (.tup [.tup [.str "at",.int (i:Int)],.tup [.str "at",.int (j:Int)]])]) ?_ (u0 (δ':=pS ps qs P (s.1++[(i,j)],s.2++[some (q,k)]) n (.sh (pN q)) (.sh (nI k)) (.sh (.tup [.tup [.str "at",.int (i:Int)],.tup [.str "at",.int (j:Int)]]))) ?_ rfl)
    ·unfold zv0
     rw[show y90 (Z2 (z9 (gv 6) (z9 (gv 7) v8))) (pS ps qs P s n (.sh (pN q)) (.sh (nI k)) (.sh (.tup [.tup [.str "at",.int (i:Int)],.tup [.str "at",.int (j:Int)]])))=some (cD (some (q,k)),pS ps qs P s n (.sh (pN q)) (.sh (nI k)) (.sh (.tup [.tup [.str "at",.int (i:Int)],.tup [.str "at",.int (j:Int)]]))) from rfl,Option.bind_some];unfold yi0;show Option.map Res.nx ((tr0 3 _).bind _)=_;rw[lp s,show tr0 3 (pS ps qs P s n (.sh (pN q)) (.sh (nI k)) (.sh (.tup [.tup [.str "at",.int (i:Int)],.tup [.str "at",.int (j:Int)]])))=some (s.1.map k2,s.2.map cD) from rfl,Option.bind_some,Option.bind_some,bg0,Option.bind_some];dsimp only;rw[if_pos (by rw[List.length_map];omega),k1,J];rfl
    ·unfold X7 V8
     have L:oA (z9 (gv 8) v8) Z3 [.sh (wd ps),.sh (wd qs),P,.ow (cm (s.1++[(i,j)],s.2++[some (q,k)])),.ow (.lst (s.1.map pN)),.sh (.int (n:Int)),.sh (pN q),.sh (nI k),.sh (.tup [.tup [.str "at",.int (i:Int)],.tup [.str "at",.int (j:Int)]])]=some (pN (i,j)):=by
      rw[m5 (ds:=[.tup [.tup [.str "at",.int (i:Int)],.tup [.str "at",.int (j:Int)]]]) rfl];exact qa0 i j
     rw[L];show Option.map (λr:D×Ds=>Res.nx r.2) (if (s.1.map pN).length<sizeLine then some (D.non,([.sh (wd ps),.sh (wd qs),P,.ow (cm (s.1++[(i,j)],s.2++[some (q,k)])),.ow (.lst (s.1.map pN++[pN (i,j)])),.sh (.int (n:Int)),.sh (pN q),.sh (nI k),.sh (.tup [.tup [.str "at",.int (i:Int)],.tup [.str "at",.int (j:Int)]])]:Ds)) else none)=_;rw[if_pos (by rw[List.length_map];omega)];unfold pS;rw[List.map_append];rfl
  ·rw[e]
   dsimp only;rw[e2] at hl;refine u0 (δ':=pS ps qs P s n (.sh (pN q)) (.sh (nI k)) (.sh (.tup [v,u]))) ?_ rfl;rw[Z4 (by unfold K4;rw[hl];rfl)];rfl
inductive Rch (ps qs:List Pt) (p0:Nat×Nat):Nat×Nat->Prop
 | top:Rch ps qs p0 p0
 | go {q x:Nat×Nat}:Rch ps qs p0 q->x∈gl (zp ps qs q)->Rch ps qs p0 x
structure Pi(ps qs:List Pt)(p0:Nat×Nat)(s:Cs):Prop where
 len:s.1.length=s.2.length
 nd:s.1.Nodup
 inr:∀x∈s.1,x.1<ps.length/\x.2<qs.length
 way:∀x∈s.1,∃w,Wy s x w/\w.length<s.1.length
 hds:∀x∈s.1,Pn.hd (pa ps x.1)=Pn.hd (pa qs x.2)
 rc:∀x∈s.1,Rch ps qs p0 x
theorem Pi.few(hp:Web ps)(hq:Web qs){s:Cs}(h:Pi ps qs p0 s):s.1.length<=3600 :=
 Fa.lb0 (n:=60) h.nd λx hx=>by
  have:=h.inr x hx;have:=hp.len.2;have:=hq.len.2;omega
theorem ta0(hp:Web ps)(hq:Web qs)(h1:q.1<ps.length)(h2:q.2<qs.length){v:D×D}(hv:v∈zp ps qs q):Lv ps.length v.1/\Lv qs.length v.2 :=
 ⟨(y80 hp h1).2.lv _ (N1 hv).1,(y80 hq h2).2.lv _ (N1 hv).2⟩
theorem jm0(hp:Web ps)(hq:Web qs){s:Cs}(h:Pi ps qs p0 s)(hm:q∈s.1)(k:Nat){v:D×D}(hv:v∈zp ps qs q)(hn:¬prt ps qs v) :
  Pi ps qs p0 (ex1 q k v s)/\(∀x∈s.1,x∈(ex1 q k v s).1)/\∀x,gl1 v=some x->x∈(ex1 q k v s).1:=by
 obtain⟨i1,i2⟩:=h.inr q hm;obtain⟨l1,l2⟩:=ta0 hp hq i1 i2 hv;unfold ex1;unfold prt at hn;cases e:gl1 v with
 | none=>exact⟨h,λx hx=>hx,λx hx=>nomatch hx⟩
 | some x =>
  rw[e] at hn;dsimp only at hn ⊢
  by_cases hx:x∈s.1
  ·rw[if_pos hx]
   exact⟨h,λy hy=>hy,λy hy=>by cases hy;exact hx⟩
  ·rw[if_neg hx]
   have J:x.1<ps.length/\x.2<qs.length:=by
    rcases wb0 l1 l2 with⟨i,j,hi,hj,_,_,e2⟩|⟨e2,_⟩
    ·rw[show (v.1,v.2)=v from rfl,e] at e2
     cases e2;exact⟨hi,hj⟩
    ·rw[show (v.1,v.2)=v from rfl,e] at e2
     cases e2
   have mem:∀y,y∈s.1++[x]↔y∈s.1∨y=x:=λy=>by simp
   refine⟨⟨by rw[List.length_append,List.length_append,h.len];rfl,m90.mpr ⟨h.nd,hx⟩,λy hy=>?_,λy hy=>?_,λy hy=>?_,λy hy=>?_⟩,λy hy=>(mem y).mpr (.inl hy),λy hy=>by cases hy;exact(mem x).mpr (.inr rfl)⟩
   ·rcases (mem y).mp hy with hy|rfl
    ·exact h.inr y hy
    ·exact J
   ·rw[List.length_append,List.length_singleton]
    rcases (mem y).mp hy with hy|rfl
    ·obtain⟨w,w1,w2⟩:=h.way y hy
     exact⟨w,w1.app _ _,by omega⟩
    ·obtain⟨w,w1,w2⟩:=h.way q hm
     refine⟨w++[k],.go ?_ (w1.app _ _),by rw[List.length_append,List.length_singleton];omega⟩;unfold lk;rw[List.map_append,List.map_append];refine fq0 (by rw[List.length_map,List.length_map,h.len]) λz=>hx ?_
     obtain⟨y',F,e2⟩:=A9.mp z;exact t30 e2▸F
   ·rcases (mem y).mp hy with hy|rfl
    ·exact h.hds y hy
    ·exact A60.mp hn
   ·rcases (mem y).mp hy with hy|rfl
    ·exact h.rc y hy
    ·exact .go (h.rc q hm) (E9.mpr ⟨v,hv,e⟩)
theorem v90(hp:Web ps)(hq:Web qs):∀(z:List (D×D)) (k:Nat) (s:Cs),Pi ps qs p0 s->q∈s.1->(∀v∈z,v∈zp ps qs q/\¬prt ps qs v) ->
  Pi ps qs p0 (exs q k z s)/\(∀x∈s.1,x∈(exs q k z s).1)/\∀x∈gl z,x∈(exs q k z s).1
 | [],k,s,h,hm,_=>⟨h,λx hx=>hx,λx hx=>by cases hx⟩
 | v::z,k,s,h,hm,hz=>by
  obtain⟨h1,h2⟩:=hz v A5;obtain⟨a1,a2,a3⟩:=jm0 hp hq h hm k h1 h2;obtain⟨b1,b2,b3⟩:=v90 hp hq z (k+1) (ex1 q k v s) a1 (a2 q hm) λu hu=>hz u (B9 _ hu)
  refine⟨b1,λx hx=>b2 x (a2 x hx),λx hx=>?_⟩;obtain⟨u,hu,e⟩:=E9.mp hx;rcases B3.mp hu with rfl|hu
  ·exact b2 x (a3 x e)
  ·exact b3 x (E9.mpr ⟨u,hu,e⟩)
def itm:Nat->List (D×D)->List D
 | _,[]=>[]
 | k,v::z=>.tup [nI k,.tup [v.1,v.2]]::itm (k+1) z
theorem lz0:∀(z:List (D×D)) (k i:Nat),(itm k z)[i]?=z[i]?.map λv=>.tup [nI (k+i),.tup [v.1,v.2]]
 | [],k,i=>by simp[itm]
 | v::z,k,0=>rfl
 | v::z,k,i+1=>by
  unfold itm;rw[List.getElem?_cons_succ,List.getElem?_cons_succ,lz0 z (k+1) i,show k+1+i=k+(i+1) by omega]
theorem io0(ds es:List D):xj0 ds es=itm 0 (ds.zip es):=by
 refine i5 λi=>?_
 rw[lz0,Nat.zero_add]
 by_cases h:i<(ds.zip es).length
 ·have h':=h
  rw[List.length_zip] at h';have h1:i<ds.length:=by omega
  have h2:i<es.length:=by omega
  rw[qr0 h1 h2,show (ds.zip es)[i]?=some (ds[i],es[i]) from Cr0.mpr ⟨C9 h1,C9 h2⟩];rfl
 ·rw[List.getElem?_eq_none (Aw0 h),List.getElem?_eq_none (by unfold xj0 q90;simp at h ⊢;omega)]
  rfl
theorem jf0(hp:Web ps)(hq:Web qs)(P:Sl)(n:Nat):∀(z:List (D×D)) (k:Nat) (s:Cs) (b c:Sl),(∀v∈z,v∈zp ps qs q)->Pi ps qs p0 s->q∈s.1 ->
  (∃b' c',V7 (G9 7 8) PB (itm k z) (pS ps qs P s n (.sh (pN q)) b c)=some (.nx (pS ps qs P (exs q k z s) n (.sh (pN q)) b' c'))/\∀v∈z,¬prt ps qs v) ∨
  (∃j v w,z[j]?=some v/\(∀u∈z.take j,¬prt ps qs u)/\prt ps qs v/\Wy (exs q k (z.take j) s) q w/\V7 (G9 7 8) PB (itm k z) (pS ps qs P s n (.sh (pN q)) b c)=some (.rt (.tup [cm (exs q k (z.take j) s),.lst ((w++[k+j]).map nI)])))
 | [],k,s,b,c,_,h,hm=>.inl ⟨b,c,rfl,λv hv=>by cases hv⟩
 | v::z,k,s,b,c,hz,h,hm=>by
  have hv:=hz v A5;obtain⟨i1,i2⟩:=h.inr q hm;obtain⟨l1,l2⟩:=ta0 hp hq i1 i2 hv;obtain⟨w,w1,w2⟩:=h.way q hm;have few:=h.few hp hq;obtain⟨t1,t2⟩:=bx0 hp hq P n w1 (by omega) (by omega) k l1 l2;have un:V7 (G9 7 8) PB (itm k (v::z)) (pS ps qs P s n (.sh (pN q)) b c)=(match PB (pS ps qs P s n (.sh (pN q)) (.sh (nI k)) (.sh (.tup [v.1,v.2]))) with|some (.nx δ')=>V7 (G9 7 8) PB (itm (k+1) z) δ'|some (.ct δ')=>V7 (G9 7 8) PB (itm (k+1) z) δ'|some (.bk δ')=>some (.nx δ')|r=>r):=by
   rw[show itm k (v::z)=.tup [nI k,.tup [v.1,v.2]]::itm (k+1) z from rfl]
   conv=>lhs;unfold V7
   rfl
  rw[un]
  by_cases hc:prt ps qs v
  ·refine .inr ⟨0,v,w,rfl,(λu hu=>absurd hu (by simp)),hc,w1,?_⟩
   rw[t1 hc];rfl
  ·rw[t2 hc]
   obtain⟨a1,a2,a3⟩:=jm0 hp hq h hm k hv hc;rcases jf0 hp hq P n z (k+1) (ex1 q k v s) (.sh (nI k)) (.sh (.tup [v.1,v.2])) (λu hu=>hz u (B9 _ hu)) a1 (a2 q hm) with⟨b',c',e,f⟩|⟨j,u,w',e1,e2,e3,e4,e5⟩
   ·refine .inl ⟨b',c',e,λu hu=>?_⟩
    rcases B3.mp hu with rfl|hu
    ·exact hc
    ·exact f u hu
   ·refine .inr ⟨j+1,u,w',e1,λy hy=>?_,e3,e4,?_⟩
    ·rw[List.take_succ_cons] at hy
     rcases B3.mp hy with rfl|hy
     ·exact hc
     ·exact e2 y hy
    ·rw[show k+(j+1)=k+1+j by omega]
     exact e5
inductive Run (ps qs:List Pt):Nat->Cs->Cs->Option ((Nat×Nat)×Nat)->Prop
 | fin {n:Nat} {s:Cs}:s.1.length=n->Run ps qs n s s none
 | go {n:Nat} {s s':Cs} {r:Option ((Nat×Nat)×Nat)} {q:Nat×Nat}:s.1[n]?=some q->(∀v∈zp ps qs q,¬prt ps qs v)->Run ps qs (n+1) (exs q 0 (zp ps qs q) s) s' r->Run ps qs n s s' r
 | prt {n:Nat} {s:Cs} {q:Nat×Nat} {j:Nat} {v:D×D}:s.1[n]?=some q->(zp ps qs q)[j]?=some v->(∀u∈(zp ps qs q).take j,¬prt ps qs u)->prt ps qs v->Run ps qs n s (exs q 0 ((zp ps qs q).take j) s) (some (q,j))
def PT:DL.GB:=(ob (o2 (gv 5) (y40 (oA (z9 (gv 4) v8) W0)) ltD))
def PW:GS:=(v9 (m7 (gN 6) (yl0 (o2 (gv 4) (gv 5) ixD)))
 (v9 (l60 5 (gc (.int 1)))
 (v9 (R7 (wa0 (z9 (oA (z9 (o2 (gv 0) (o2 (gv 6) (gc (.int 0)) ixD) ixD) v8) m_values) (z9 (oA (z9 (o2 (gv 1) (o2 (gv 6) (gc (.int 1)) ixD) ixD) v8) m_values) v8))) (G9 7 8)
 PB)
 p8)))
theorem a70(ps qs:List Pt)(P:Sl)(s:Cs)(n:Nat)(a b c:Sl):PT (pS ps qs P s n a b c)=some (decide (n<s.1.length)):=by
 unfold PT ob;rw[o5 (x:=.int (n:Int)) (y:=.int (s.1.length:Int)) rfl (by
  show some (D.int ((s.1.map pN).length:Int))=_;rw[List.length_map])]
 show some (decide ((n:Int)<(s.1.length:Int)))=_;congr 1;rw[decide_eq_decide];omega
theorem gh0(hp:Web ps)(hq:Web qs)(P:Sl){s:Cs}(e:s.1[n]?=some q)(i1:q.1<ps.length)(i2:q.2<qs.length)(a b c:Sl){r:Option Res}(hr:V7 (G9 7 8) PB (itm 0 (zp ps qs q)) (pS ps qs P s (n+1) (.sh (pN q)) b c)=r) :
  PW (pS ps qs P s n a b c)=r:=by
 have hn:n<s.1.length:=(E1.mp e).1;obtain⟨a1,a2⟩:=y80 hp i1;obtain⟨b1,b2⟩:=y80 hq i2;refine u0 (δ':=pS ps qs P s n (.sh (pN q)) b c) (j4 (d:=pN q) ?_) (u0 (δ':=pS ps qs P s (n+1) (.sh (pN q)) b c) ?_ ?_)
 ·refine s30 ?_ rfl
  show o2 (gv 4) (gv 5) ixD [.sh (wd ps),.sh (wd qs),zg0 P,.sh (cm s),.sh (.lst (s.1.map pN)),.sh (.int (n:Int)),zg0 a,zg0 b,zg0 c]=_;rw[o5 (x:=.lst (s.1.map pN)) (y:=.int (n:Int)) rfl rfl];show atI (s.1.map pN) (n:Int)=_;rw[J2 (by omega) (by rw[List.length_map];omega) .non,Int.toNat_natCast,List.getD_eq_getElem?_getD,List.getElem?_map,e];rfl
 ·rfl
 ·have hz:wa0 (z9 (oA (z9 (o2 (gv 0) (o2 (gv 6) (gc (.int 0)) ixD) ixD) v8) m_values) (z9 (oA (z9 (o2 (gv 1) (o2 (gv 6) (gc (.int 1)) ixD) ixD) v8) m_values) v8)) (pS ps qs P s (n+1) (.sh (pN q)) b c)=some (itm 0 (zp ps qs q)):=by
   unfold wa0;rw[cons_of (d:=.lst (pa ps q.1).vals) (ds:=[.lst (pa qs q.2).vals]) (by
    rw[m5 (ds:=[(pa ps q.1).d]) (cons_of (by rw[o5 (x:=wd ps) (y:=.int (q.1:Int)) rfl rfl];exact a1) rfl)];exact nw0 _ a2.f) (cons_of (by
    rw[m5 (ds:=[(pa qs q.2).d]) (cons_of (by rw[o5 (x:=wd qs) (y:=.int (q.2:Int)) rfl rfl];exact b1) rfl)];exact nw0 _ b2.f) rfl)]
   show some (xj0 _ _)=_;rw[io0];rfl
  unfold v9;rw[O7 hz hr];rcases r with _|r
  ·rfl
  ·cases r<;>rfl
theorem gb0(hp:Web ps)(hq:Web qs)(P:Sl):∀(f n:Nat) (s:Cs) (a b c:Sl),Pi ps qs p0 s->n<=s.1.length->3600 - n<f ->
  ∃s' r,Run ps qs n s s' r/\Pi ps qs p0 s'/\((r=none/\∃n' a' b' c',R9 PT PW f (pS ps qs P s n a b c)=some (.nx (pS ps qs P s' n' a' b' c'))) ∨
   ∃q j w,r=some (q,j)/\Wy s' q w/\R9 PT PW f (pS ps qs P s n a b c)=some (.rt (.tup [cm s',.lst ((w++[j]).map nI)]))):=by
 intro f
 induction f with
 | zero=>intro n s a b c _ _ h;omega
 | succ f ih =>
  intro n s a b c h hn hf;have few:=h.few hp hq;unfold R9;rw[a70]
  by_cases h0:n<s.1.length
  ·rw[decide_eq_true h0]
   dsimp only;obtain⟨q,e⟩:∃q,s.1[n]?=some q:=⟨_,C9 h0⟩;have hm:q∈s.1:=L3 e;obtain⟨i1,i2⟩:=h.inr q hm;rcases jf0 hp hq P (n+1) (zp ps qs q) 0 s b c (λv hv=>hv) h hm with⟨b',c',e1,e2⟩|⟨j,v,w,e1,e2,e3,e4,e5⟩
   ·obtain⟨p1,p2,_⟩:=v90 hp hq (zp ps qs q) 0 s h hm λv hv=>⟨hv,e2 v hv⟩
    have hl:s.1.length<=(exs q 0 (zp ps qs q) s).1.length:=A70 h.nd p2;obtain⟨s',r,R,Q,k⟩:=ih (n+1) _ (.sh (pN q)) b' c' p1 (by omega) (by omega);rw[gh0 hp hq P e i1 i2 a b c e1];exact⟨s',r,.go e e2 R,Q,k⟩
   ·rw[Nat.zero_add] at e5
    rw[gh0 hp hq P e i1 i2 a b c e5];obtain⟨p1,_,_⟩:=v90 hp hq ((zp ps qs q).take j) 0 s h hm λv hv=>⟨i4 hv,e2 v hv⟩
    exact⟨_,_,.prt e e1 e2 e3,p1,.inr ⟨q,j,w,rfl,e4,rfl⟩⟩
  ·rw[decide_eq_false h0]
   exact⟨s,none,.fin (by omega),h,.inl ⟨rfl,n,a,b,c,rfl⟩⟩
theorem e70(hp:Web ps)(hq:Web qs)(h1:p0.1<ps.length)(h2:p0.2<qs.length) :
  (Pn.hd (pa ps p0.1)≠Pn.hd (pa qs p0.2)/\Y0 [wd ps,wd qs,pN p0]=some (.tup [cm ([p0],[none]),.lst []])) ∨
  (Pn.hd (pa ps p0.1)=Pn.hd (pa qs p0.2)/\∃s r,Run ps qs 0 ([p0],[none]) s r/\Pi ps qs p0 s/\((r=none/\Y0 [wd ps,wd qs,pN p0]=some (.tup [cm s,.non])) ∨
   ∃q j w,r=some (q,j)/\Wy s q w/\Y0 [wd ps,wd qs,pN p0]=some (.tup [cm s,.lst ((w++[j]).map nI)]))):=by
 have zs:(9000:Nat)<=sizeLine:=by decide
 obtain⟨t1,t2⟩:=u30 (t50 hp hq (x:=p0) h1 h2 (g1:=o2 (gv 0) (o2 (gv 2) (gc (.int 0)) ixD) ixD) (g2:=o2 (gv 1) (o2 (gv 2) (gc (.int 1)) ixD) ixD) (δ:=[.sh (wd ps),.sh (wd qs),.sh (pN p0),.ow (cm ([p0],[none])),.un,.un,.un,.un,.un]) rfl rfl);have F:U7 3 (yp0 (gv 2) (gc .non)) (X3 yb0 [wd ps,wd qs,pN p0])=some (.nx [.sh (wd ps),.sh (wd qs),.sh (pN p0),.ow (cm ([p0],[none])),.un,.un,.un,.un,.un]):=rfl
 by_cases hh:Pn.hd (pa ps p0.1)=Pn.hd (pa qs p0.2)
 ·refine .inr ⟨hh,?_⟩
  have L:Pi ps qs p0 ([p0],[none]):=by
   have one:∀x,x∈[p0]->x=p0:=λx hx=>L6.mp hx
   refine⟨rfl,N0.mpr ⟨by simp,Y3⟩,λx hx=>by rw[one x hx];exact⟨h1,h2⟩,λx hx=>?_,λx hx=>by rw[one x hx];exact hh,λx hx=>by rw[one x hx];exact .top⟩;rw[one x hx];refine⟨[],.top ?_,by simp⟩;show (if k2 p0=k2 p0 then some (cD none) else _)=_;rw[if_pos rfl]
  obtain⟨s,r,R,Q,k⟩:=gb0 hp hq (.sh (pN p0)) 100000 0 ([p0],[none]) .un .un .un L (by simp) (by decide);have J:∀rest:GS,v9 (U7 3 (yp0 (gv 2) (gc .non))) (v9 (ifD (ob (o2 (oA (z9 (o2 (gv 0) (o2 (gv 2) (gc (.int 0)) ixD) ixD) v8) Q7) (oA (z9 (o2 (gv 1) (o2 (gv 2) (gc (.int 1)) ixD) ixD) v8) Q7) S7)) (v9 (d9 (zi0 (Z2 (z9 (gv 3) (z9 (X5 v8) v8))))) p8) p8) (v9 (U7 4 (X5 (z9 (gv 2) v8))) (v9 (m7 (gN 5) (gc (.int 0))) rest))) (X3 yb0 [wd ps,wd qs,pN p0])=rest (pS ps qs (.sh (pN p0)) ([p0],[none]) 0 .un .un .un):=λrest =>
   u0 F (u0 (by rw[Z4 (t2 λz=>z hh)];rfl) (u0 (by rfl) (u0 (by rfl) rfl)))
  refine⟨s,r,R,Q,?_⟩;rcases k with⟨rfl,n',a',b',c',e⟩|⟨q,j,w,rfl,hw,e⟩
  ·refine .inl ⟨rfl,d8 rfl ((J _).trans (u0 e (n8 (Z7 ?_))))⟩
   exact W3 (cons_of rfl (cons_of rfl rfl)) (by show 2<=sizeLine;omega)
  ·exact .inr ⟨q,j,w,rfl,hw,d8 rfl ((J _).trans (n8 e))⟩
 ·refine .inl ⟨hh,d8 rfl (u0 F (n8 ?_))⟩
  rw[U4 (t1 hh)];refine n8 (Z7 ?_);exact W3 (cons_of rfl (cons_of (zq0 rfl (by show 0<=sizeLine;omega)) rfl)) (by show 2<=sizeLine;omega)
end La
namespace La
open DL W K22 Ta Fa
def okp(ps qs:List Pt)(q:Nat×Nat):Prop:=Pn.hd (pa ps q.1)=Pn.hd (pa qs q.2)/\∀v∈zp ps qs q,nl v
theorem nv0(q:Nat×Nat):∀(z:List (D×D)) (k:Nat) (s:Cs),∃A B,exs q k z s=(s.1++A,s.2++B)
 | [],k,s=>⟨[],[],by simp[exs]⟩
 | v::z,k,s=>by
  obtain⟨A,B,e⟩:=nv0 q z (k+1) (ex1 q k v s);unfold exs;rw[e];unfold ex1;cases gl1 v with
  | none=>exact⟨A,B,rfl⟩
  | some x =>
   dsimp only;split
   ·exact⟨A,B,rfl⟩
   ·exact⟨x::A,some (q,k)::B,by simp⟩
theorem by0{v:D×D}(l1:Lv n v.1)(l2:Lv m v.2)(h:¬prt ps qs v):nl v:=by
 unfold prt at h;rcases wb0 l1 l2 with⟨i,j,_,_,e1,e2,e⟩|⟨e,_⟩
 ·exact .inl ⟨by rw[e1];rfl,by rw[e2];rfl⟩
 ·rw[show (v.1,v.2)=v from rfl] at e
  rw[e] at h;exact .inr (A60.mp h)
theorem g20(hp:Web ps)(hq:Web qs){s s':Cs}{r:Option ((Nat×Nat)×Nat)}(R:Run ps qs n s s' r):r=none->Pi ps qs p0 s->(∀i q,i<n->s.1[i]?=some q->(∀v∈zp ps qs q,¬prt ps qs v)/\∀x∈gl (zp ps qs q),x∈s.1) ->
  (∀x∈s.1,x∈s'.1)/\∀q∈s'.1,(∀v∈zp ps qs q,¬prt ps qs v)/\∀x∈gl (zp ps qs q),x∈s'.1:=by
 induction R with
 | @fin n s hl =>
  intro _ h hc;refine⟨λx hx=>hx,λq hq=>?_⟩;obtain⟨i,hi,e⟩:=E3.mp hq;exact hc i q (by omega) (by rw[List.getElem?_eq_getElem hi,e])
 | @go n s s' r q e hn R ih =>
  intro hr h hc;have hm:=L3 e;obtain⟨p1,p2,p3⟩:=v90 hp hq (zp ps qs q) 0 s h hm λv hv=>⟨hv,hn v hv⟩
  have F:=(E1.mp e).1;obtain⟨A,B,ee⟩:=nv0 q (zp ps qs q) 0 s;obtain⟨i1,i2⟩:=ih hr p1 λi q' hi e'=>by
   by_cases hin:i=n
   ·subst hin
    rw[ee,List.getElem?_append_left F,e] at e';cases e';exact⟨hn,p3⟩
   ·have J:i<n:=by omega
    rw[ee,List.getElem?_append_left (by omega)] at e';obtain⟨c1,c2⟩:=hc i q' J e';exact⟨c1,λx hx=>p2 x (c2 x hx)⟩
  exact⟨λx hx=>i1 x (p2 x hx),i2⟩
 | prt=>intro hr;cases hr
theorem d70(hp:Web ps)(hq:Web qs){s:Cs}(R:Run ps qs 0 ([p0],[none]) s none)(h0:Pi ps qs p0 ([p0],[none]))(h:Pi ps qs p0 s):(∀x,x∈s.1↔Rch ps qs p0 x)/\∀x,Rch ps qs p0 x->okp ps qs x:=by
 obtain⟨c1,c2⟩:=g20 hp hq R rfl h0 λi q hi=>by omega
 have all:∀x,Rch ps qs p0 x->x∈s.1:=λx hx=>by
  induction hx with
  | top=>exact c1 _ (by simp)
  | go _ hg ih=>exact(c2 _ ih).2 _ hg
 refine⟨λx=>⟨h.rc x,all x⟩,λx hx=>⟨h.hds x (all x hx),λv hv=>?_⟩⟩;obtain⟨i1,i2⟩:=h.inr x (all x hx);obtain⟨l1,l2⟩:=ta0 hp hq i1 i2 hv;exact by0 l1 l2 ((c2 x (all x hx)).1 v hv)
theorem cg0(hp:Web ps)(hq:Web qs)(hr:Rch ps qs p0 q)(i1:q.1<ps.length)(i2:q.2<qs.length){v:D×D}(hv:v∈zp ps qs q)(h:prt ps qs v):∃x,Rch ps qs p0 x/\¬okp ps qs x:=by
 obtain⟨l1,l2⟩:=ta0 hp hq i1 i2 hv;unfold prt at h;rcases wb0 l1 l2 with⟨i,j,_,_,e1,e2,e⟩|⟨e,e2⟩
 ·rw[show (v.1,v.2)=v from rfl] at e
  rw[e] at h;exact⟨(i,j),.go hr (E9.mpr ⟨v,hv,e⟩),λz=>h z.1⟩
 ·rw[show (v.1,v.2)=v from rfl] at e
  rw[e] at h;refine⟨q,hr,λz=>?_⟩;rcases z.2 v hv with⟨a,b⟩|z
  ·rw[a,b] at e2
   cases e2
  ·exact h z
theorem fm0(hp:Web ps)(hq:Web qs){s s':Cs}{r:Option ((Nat×Nat)×Nat)}(R:Run ps qs n s s' r):r≠none->Pi ps qs p0 s->∃x,Rch ps qs p0 x/\¬okp ps qs x:=by
 induction R with
 | fin=>intro hr;exact absurd rfl hr
 | @go n s s' r q e hn R ih =>
  intro hr h;obtain⟨p1,_,_⟩:=v90 hp hq (zp ps qs q) 0 s h (L3 e) λv hv=>⟨hv,hn v hv⟩
  exact ih hr p1
 | @prt n s q j v e e1 e2 e3 =>
  intro _ h;have hm:=L3 e;obtain⟨i1,i2⟩:=h.inr q hm;exact cg0 hp hq (h.rc q hm) i1 i2 (L3 e1) e3
def Tab(ps qs:List Pt)(p0:Nat×Nat)(A:List (Nat×Nat)):Prop:=A.Nodup/\(∀x,x∈A↔Rch ps qs p0 x)/\∀x,Rch ps qs p0 x->okp ps qs x
theorem gd0(hp:Web ps)(hq:Web qs)(h1:p0.1<ps.length)(h2:p0.2<qs.length) :
  ((∃x,Rch ps qs p0 x/\¬okp ps qs x)/\∃(s:Cs) (w:List Nat),Y0 [wd ps,wd qs,pN p0]=some (.tup [cm s,.lst (w.map nI)])) ∨
  ∃s:Cs,Tab ps qs p0 s.1/\Y0 [wd ps,wd qs,pN p0]=some (.tup [cm s,.non]):=by
 rcases e70 hp hq h1 h2 with⟨hh,e⟩|⟨hh,s,r,R,Q,k⟩
 ·exact .inl ⟨⟨p0,.top,λz=>hh z.1⟩,_,[],e⟩
 ·have F:Pi ps qs p0 ([p0],[none]):=by
   have one:∀x,x∈[p0]->x=p0:=λx hx=>L6.mp hx
   refine⟨rfl,N0.mpr ⟨by simp,Y3⟩,λx hx=>by rw[one x hx];exact⟨h1,h2⟩,λx hx=>?_,λx hx=>by rw[one x hx];exact hh,λx hx=>by rw[one x hx];exact .top⟩;rw[one x hx];refine⟨[],.top ?_,by simp⟩;show (if k2 p0=k2 p0 then some (cD none) else _)=_;rw[if_pos rfl]
  rcases k with⟨rfl,e⟩|⟨q,j,w,rfl,_,e⟩
  ·obtain⟨a1,a2⟩:=d70 hp hq R F Q
   exact .inr ⟨s,⟨Q.nd,a1,a2⟩,e⟩
  ·exact .inl ⟨fm0 hp hq R (λz=>nomatch z) F,s,_,e⟩
theorem up0(hp:Web ps){p q:Nat}(h1:p<ps.length)(h2:q<ps.length) :
  ((∃x,Rch ps ps (p,q) x/\¬okp ps ps x)/\U9 [wd ps,nI p,nI q]=some .non/\W8 [wd ps,nI p,nI q]=none/\∃w:List Nat,M5 [wd ps,nI p,nI q]=some (.lst (w.map nI))) ∨
  ∃A,Tab ps ps (p,q) A/\U9 [wd ps,nI p,nI q]=some (.lst ((SoT.srt (A.map c2)).map pD))/\W8 [wd ps,nI p,nI q]=some (.lst ((SoT.srt (A.map c2)).map pD))/\M5 [wd ps,nI p,nI q]=some .non:=by
 have zs:(9000:Nat)<=sizeLine:=by decide
 have ca:∀(d:D) (δ:Ds),Y0 [wd ps,wd ps,pN (p,q)]=some d->oA (z9 (gv 0) (z9 (gv 0) (z9 (Z2 (z9 (gv 1) (z9 (gv 2) v8))) v8))) Y0 (.sh (wd ps)::.sh (nI p)::.sh (nI q)::δ)=some d:=λd δ e=>by
  rw[m5 (ds:=[wd ps,wd ps,pN (p,q)]) (cons_of rfl (cons_of rfl (cons_of (W3 (cons_of rfl (cons_of rfl rfl)) (by show 2<=sizeLine;omega)) rfl)))];exact e
 rcases gd0 hp hp (p0:=(p,q)) h1 h2 with⟨hb,s,w,e⟩|⟨s,ht,e⟩
 ·refine .inl ⟨hb,d8 rfl (u0 (j4 (ca _ _ e)) (n8 ?_)),?_,w,d8 rfl (n8 (Z7 ?_))⟩
  ·change ifD _ _ _ [.sh (wd ps),.sh (nI p),.sh (nI q),.sh (.tup [cm s,.lst (w.map nI)])]=_
   rw[U4 (by rfl)];rfl
  ·have:zp0 (X3 xo0 [wd ps,nI p,nI q])=some (.rt .non):=by
    refine u0 (j4 (ca _ _ e)) (n8 ?_)
    change ifD _ _ _ [.sh (wd ps),.sh (nI p),.sh (nI q),.sh (.tup [cm s,.lst (w.map nI)])]=_
    rw[U4 (by rfl)];rfl
   unfold W8 mkN;rw[if_pos (by rfl),this]
  ·exact(o5 (x:=.tup [cm s,.lst (w.map nI)]) (y:=.int 1) (ca _ [] e) rfl).trans rfl
 ·have so:oA (z9 (o2 (gv 3) (gc (.int 0)) ixD) v8) xt0 [.sh (wd ps),.sh (nI p),.sh (nI q),.sh (.tup [cm s,.non])]=some (.lst ((SoT.srt (s.1.map c2)).map pD)):=by
   rw[m5 (ds:=[cm s]) (cons_of rfl rfl)];have:=i60 (ps:=s.1.map c2) (ds:=s.2.map cD) (ln0 ht.1);rw[List.map_map] at this;exact this
  refine .inr ⟨s.1,ht,d8 rfl (u0 (j4 (ca _ _ e)) (u0 (δ':=[.sh (wd ps),.sh (nI p),.sh (nI q),.sh (.tup [cm s,.non])]) ?_ (n8 (Z7 so)))),K6 rfl (u0 (j4 (ca _ _ e)) (u0 (δ':=[.sh (wd ps),.sh (nI p),.sh (nI q),.sh (.tup [cm s,.non])]) ?_ (M8 (zk0 so)))),d8 rfl (n8 (Z7 ?_))⟩
  ·change ifD _ _ _ [.sh (wd ps),.sh (nI p),.sh (nI q),.sh (.tup [cm s,.non])]=_
   rw[Z4 (by rfl)];rfl
  ·change ifD _ _ _ [.sh (wd ps),.sh (nI p),.sh (nI q),.sh (.tup [cm s,.non])]=_
   rw[Z4 (by rfl)];rfl
  ·exact(o5 (x:=.tup [cm s,.non]) (y:=.int 1) (ca _ [] e) rfl).trans rfl
structure Wi(ps:List Pt)(p0:Nat×Nat)(A V:List (Nat×Nat)):Prop where
 nd:A.Nodup
 inr:ir ps.length A
 sub:∀x∈V,x∈A
 rc:∀x∈A,Rch ps ps p0 x
 st:p0∈A
 cl:∀x∈A,x∉V->okp ps ps x/\∀y∈gl (zp ps ps x),y∈A
theorem ut0(W P:D)(m:Sl):∀(M A V:List (Nat×Nat)) (f:Sl),A.length+M.length<=5000->V.length+M.length<=5000->A.Nodup ->
  ∃A' V' f',V7 (gN 6) WF (M.map pN) (ws W P A V m f)=some (.nx (ws W P A' V' m f'))/\A'.Nodup/\A'.length+V.length=A.length+V'.length/\(∀x,x∈A'↔x∈A∨x∈M)/\(∀x∈V,x∈V')/\(∀x∈V',x∈V∨x∈A')/\∀x∈A',x∈A∨x∈V'
 | [],A,V,f,_,_,hn=>⟨A,V,f,rfl,hn,rfl,λx=>by simp,λx hx=>hx,λx hx=>.inl hx,λx hx=>.inl hx⟩
 | q::M,A,V,f,l1,l2,hn=>by
  rw[List.length_cons] at l1 l2;obtain⟨w1,w2⟩:=az0 W P A V m q (by omega) (by omega);have un:∀δ',WF (ws W P A V m (.sh (pN q)))=some (.nx δ')->V7 (gN 6) WF ((q::M).map pN) (ws W P A V m f)=V7 (gN 6) WF (M.map pN) δ':=fun δ' h=>by
   rw[List.map_cons]
   conv=>lhs;unfold V7
   show (match WF (ws W P A V m (.sh (pN q))) with|some (.nx δ')=>V7 (gN 6) WF (M.map pN) δ'|some (.ct δ')=>V7 (gN 6) WF (M.map pN) δ'|some (.bk δ')=>some (.nx δ')|r=>r)=_;rw[h]
  by_cases h:q∈A
  ·obtain⟨A',V',f',e,r1,r2,r3,r4,r5,r6⟩:=ut0 W P m M A V (.sh (pN q)) (by omega) (by omega) hn
   refine⟨A',V',f',(un _ (w1 h)).trans e,r1,r2,λx=>?_,r4,r5,r6⟩;rw[r3,List.mem_cons];constructor
   ·rintro (z|z)
    ·exact .inl z
    ·exact .inr (.inr z)
   ·rintro (z|rfl|z)
    ·exact .inl z
    ·exact .inl h
    ·exact .inr z
  ·obtain⟨A',V',f',e,r1,r2,r3,r4,r5,r6⟩:=ut0 W P m M (A++[q]) (V++[q]) (.sh (pN q)) (by rw[List.length_append,List.length_singleton];omega) (by rw[List.length_append,List.length_singleton];omega) (m90.mpr ⟨hn,h⟩)
   rw[List.length_append,List.length_append,List.length_singleton] at r2;have qA:q∈A':=(r3 q).mpr (.inl (by simp));refine⟨A',V',f',(un _ (w2 h)).trans e,r1,by omega,λx=>?_,λx hx=>r4 x (by simp[hx]),λx hx=>?_,λx hx=>?_⟩
   ·rw[r3,List.mem_append,List.mem_singleton,List.mem_cons,or_assoc]
   ·rcases r5 x hx with z|z
    ·rcases B8.mp z with z|z
     ·exact .inl z
     ·rw[List.mem_singleton.mp z];exact .inr qA
    ·exact .inr z
   ·rcases r6 x hx with z|z
    ·rcases B8.mp z with z|z
     ·exact .inl z
     ·rw[List.mem_singleton.mp z];exact .inr (r4 q (by simp))
    ·exact .inr z
theorem wb2(hp:Web ps)(P:D){A V:List (Nat×Nat)}(m f:Sl)(h:Wi ps p0 A (V++[q]))(l1:A.length<=4000)(l2:V.length<=4000) :
  (¬okp ps ps q/\WB (ws (wd ps) P A (V++[q]) m f)=some (.rt .non))∨∃A' V' m' f',WB (ws (wd ps) P A (V++[q]) m f)=some (.nx (ws (wd ps) P A' V' m' f'))/\Wi ps p0 A' V'/\A.length<=A'.length/\A'.length+V.length=A.length+V'.length:=by
 have J:=h.sub q (by simp);have hq:=h.inr q J;obtain⟨g1,g2⟩:=ac0 hp hp hq.1 hq.2;have L:vb0 4 (ws (wd ps) P A (V++[q]) m f)=some (pN q,ws (wd ps) P A V m f):=by
  unfold vb0;rw[show owL 4 (ws (wd ps) P A (V++[q]) m f)=some ((V++[q]).map pN) from rfl,Option.bind_some,List.map_append,List.map_cons,List.map_nil];show Option.map _ ((V.map pN++[pN q]).getLast?)=_;rw[List.getLast?_concat,List.dropLast_concat];rfl
 have F:∀d:D,La.W6 [wd ps,wd ps,pN q]=some d->zv0 (uq0 0 1 (vb0 4) La.W6) (gN 5) (ws (wd ps) P A (V++[q]) m f)=some (.nx (ws (wd ps) P A V (.sh d) f)):=λd hd=>by
  have e:uq0 0 1 (vb0 4) La.W6 (ws (wd ps) P A (V++[q]) m f)=some (d,ws (wd ps) P A V m f):=by
   unfold uq0;rw[show gv 0 (ws (wd ps) P A (V++[q]) m f)=some (wd ps) from rfl,Option.bind_some,show gv 1 (ws (wd ps) P A (V++[q]) m f)=some (wd ps) from rfl,Option.bind_some,L,Option.bind_some];show Option.map _ (La.W6 [wd ps,wd ps,pN q])=_;rw[show La.W6 [wd ps,wd ps,pN q]=some d from hd];rfl
  unfold zv0;rw[e];rfl
 by_cases hg:okp ps ps q
 ·refine .inr ?_
  have a1:=(y80 hp hq.1).2;have a2:=(y80 hp hq.2).2;have hM:ir ps.length (gl (zp ps ps q)):=bw0 a1.lv a2.lv;have O:(gl (zp ps ps q)).length<=12:=C0 (jc0 _) (by unfold zp;rw[List.length_zip];have:=a1.few;omega);have M:∀x∈gl (zp ps ps q),Rch ps ps p0 x:=λx hx=>.go (h.rc q J) hx
  have e1:=F _ (g1 hg);rw[show (pa ps q.1).vals.zip (pa ps q.2).vals=zp ps ps q from rfl] at e1;obtain⟨A',V',f',e2,r1,r2,r3,r4,r5,r6⟩:=ut0 (wd ps) P (.sh (.lst ((gl (zp ps ps q)).map pN))) (gl (zp ps ps q)) A V f (by omega) (by omega) h.nd;refine⟨A',V',_,f',u0 e1 (u0 (δ':=ws (wd ps) P A V (.sh (.lst ((gl (zp ps ps q)).map pN))) f) (by rw[Z4 (by rfl)];rfl) (u0 (O7 (items:=(gl (zp ps ps q)).map pN) rfl e2) rfl)),⟨r1,λx hx=>?_,λx hx=>?_,λx hx=>?_,(r3 p0).mpr (.inl h.st),λx hx hv=>?_⟩,A70 h.nd λx hx=>(r3 x).mpr (.inl hx),r2⟩
  ·rcases (r3 x).mp hx with z|z
   ·exact h.inr x z
   ·exact hM x z
  ·rcases r5 x hx with z|z
   ·exact(r3 x).mpr (.inl (h.sub x (by simp[z])))
   ·exact z
  ·rcases (r3 x).mp hx with z|z
   ·exact h.rc x z
   ·exact M x z
  ·rcases r6 x hx with z|z
   ·by_cases hxq:x=q
    ·subst hxq
     exact⟨hg,λy hy=>(r3 y).mpr (.inr hy)⟩
    ·obtain⟨c1,c2⟩:=h.cl x z λy=>by
      rcases B8.mp y with y|y
      ·exact hv (r4 x y)
      ·exact hxq (L6.mp y)
     exact⟨c1,λy hy=>(r3 y).mpr (.inl (c2 y hy))⟩
   ·exact absurd z hv
 ·refine .inl ⟨hg,u0 (F _ (g2 hg)) (n8 ?_)⟩
  rw[U4 (by rfl)];rfl
theorem wh2(hp:Web ps)(P:D):∀(f:Nat) (A V:List (Nat×Nat)) (m g:Sl),Wi ps p0 A V->V.length<=A.length->(3600 - A.length)+V.length<f ->
  ((∃x,Rch ps ps p0 x/\¬okp ps ps x)/\R9 WT WB f (ws (wd ps) P A V m g)=some (.rt .non))∨∃A' m' g',R9 WT WB f (ws (wd ps) P A V m g)=some (.nx (ws (wd ps) P A' [] m' g'))/\Wi ps p0 A' []:=by
 intro f
 induction f with
 | zero=>intro A V m g _ _ h;omega
 | succ f ih =>
  intro A V m g hw hl h;have few:∀{A V},Wi ps p0 A V->A.length<=3600:=λhw=>lb0 (n:=60) hw.nd λx hx=>by
   have:=hw.inr x hx;have:=hp.len.2;omega
  have hz:=few hw;unfold R9;rw[ao0]
  by_cases h0:0<V.length
  ·rw[decide_eq_true h0]
   obtain⟨V0,q,rfl⟩:∃V0 q,V=V0++[q]:=⟨V.dropLast,V.getLast (List.length_pos_iff.mp h0),(List.dropLast_concat_getLast _).symm⟩;rw[List.length_append,List.length_singleton] at h hl;dsimp only;rcases wb2 hp P m g hw (by omega) (by omega) with⟨hb,e⟩|⟨A',V',m',g',e,r1,r2,r3⟩
   ·rw[e];exact .inl ⟨⟨q,hw.rc q (hw.sub q (by simp)),hb⟩,rfl⟩
   ·rw[e]
    have F:=few r1;exact ih A' V' m' g' r1 (by omega) (by omega)
  ·rw[decide_eq_false h0]
   have:V=[]:=d3.mp (by omega);subst this;exact .inr ⟨A,m,g,rfl,hw⟩
theorem a90(hp:Web ps){p:Nat×Nat}(hq:p.1<ps.length/\p.2<ps.length) :
  ((∃x,Rch ps ps p x/\¬okp ps ps x)/\O2 [wd ps,wd ps,pN p]=some .non)∨∃A,Tab ps ps p A/\O2 [wd ps,wd ps,pN p]=some (.lst ((SoT.srt (A.map c2)).map pD)):=by
 have h1:Wi ps p [p] [p]:=by
  have one:∀x,x∈[p]->x=p:=λx hx=>L6.mp hx
  exact⟨N0.mpr ⟨by simp,Y3⟩,λx hx=>by rw[one x hx];exact hq,λx hx=>hx,λx hx=>by rw[one x hx];exact .top,by simp,λx hx hn=>absurd hx hn⟩
 have F:∀rest:GS,v9 (U7 3 (yp0 (gv 2) (gc (.bl true)))) (v9 (U7 4 (X5 (z9 (gv 2) v8))) rest) (X3 ue0 [wd ps,wd ps,pN p])=rest (ws (wd ps) (pN p) [p] [p] .un .un):=λrest=>rfl
 rcases wh2 hp (pN p) 100000 [p] [p] .un .un h1 (A4 _) (by simp only[List.length_singleton];omega) with⟨hb,e⟩|⟨A,m,g,e,r⟩
 ·exact .inl ⟨hb,d8 rfl ((F _).trans (n8 e))⟩
 ·have all:∀x,Rch ps ps p x->x∈A:=λx hx=>by
   induction hx with
   | top=>exact r.st
   | go _ hg ih=>exact(r.cl _ ih (by simp)).2 _ hg
  refine .inr ⟨A,⟨r.nd,λx=>⟨r.rc x,all x⟩,λx hx=>(r.cl x (all x hx) (by simp)).1⟩,d8 rfl ((F _).trans (u0 e (n8 (Z7 ?_))))⟩;show oA (z9 (oA (z9 (gv 3) v8) vk0) v8) w50 [.sh (wd ps),.sh (wd ps),.sh (pN p),.sh (dT A),.sh (.lst []),zg0 m,zg0 g]=_;have e1:oA (z9 (gv 3) v8) vk0 [.sh (wd ps),.sh (wd ps),.sh (pN p),.sh (dT A),.sh (.lst []),zg0 m,zg0 g]=some (.lst ((A.map c2).map pD)):=by
   show some (D.lst ((A.map k2).map ktD))=_;rw[List.map_map,List.map_map];rfl
  rw[m5 (ds:=[.lst ((A.map c2).map pD)]) (cons_of e1 rfl),pt0 (ln0 r.nd)]
def sw(p:Nat×Nat):Nat×Nat:=(p.2,p.1)
def sI(p:Int×Int):Int×Int:=(p.2,p.1)
theorem gg0{v:D×D}(h:v∈zp ps ps q):(v.2,v.1)∈zp ps ps (sw q):=by
 unfold zp sw at *;obtain⟨i,hi,e⟩:=E3.mp h;rw[List.getElem_zip] at e;subst e;have hi2:=hi;rw[List.length_zip] at hi2;refine E3.mpr ⟨i,by rw[List.length_zip];exact A80.mpr ⟨(A80.mp hi2).2,(A80.mp hi2).1⟩,?_⟩;rw[List.getElem_zip]
theorem gz0(hp:Web ps){x:Nat×Nat}(h1:q.1<ps.length)(h2:q.2<ps.length)(h:x∈gl (zp ps ps q)):sw x∈gl (zp ps ps (sw q))/\x.1<ps.length/\x.2<ps.length:=by
 obtain⟨v,hv,e⟩:=E9.mp h;obtain⟨l1,l2⟩:=ta0 hp hp h1 h2 hv;rcases wb0 l1 l2 with⟨i,j,hi,hj,e1,e2,e3⟩|⟨e3,_⟩
 ·rw[show (v.1,v.2)=v from rfl,e] at e3
  cases e3;refine⟨E9.mpr ⟨_,gg0 hv,?_⟩,hi,hj⟩;rw[e1,e2];rfl
 ·rw[show (v.1,v.2)=v from rfl,e] at e3
  cases e3
theorem jl0(hp:Web ps){p x:Nat×Nat}(h1:p.1<ps.length)(h2:p.2<ps.length)(h:Rch ps ps p x):x.1<ps.length/\x.2<ps.length:=by
 induction h with
 | top=>exact⟨h1,h2⟩
 | go _ hg ih=>exact(gz0 hp ih.1 ih.2 hg).2
theorem qu0(hp:Web ps){p x:Nat×Nat}(h1:p.1<ps.length)(h2:p.2<ps.length)(h:Rch ps ps p x):Rch ps ps (sw p) (sw x):=by
 induction h with
 | top=>exact .top
 | go hr hg ih =>
  have:=jl0 hp h1 h2 hr;exact .go ih (gz0 hp this.1 this.2 hg).1
theorem cn0{x:Nat×Nat}(h:okp ps ps x):okp ps ps (sw x):=⟨h.1.symm,λv hv=>by
 have h2:=gg0 hv;rcases h.2 _ h2 with⟨a,b⟩|z
 ·exact .inl ⟨b,a⟩
 ·exact .inr z.symm⟩
theorem bj0(hp:Web ps){p:Nat×Nat}(h1:p.1<ps.length)(h2:p.2<ps.length){A:List (Nat×Nat)}(h:Tab ps ps p A):Tab ps ps (sw p) (A.map sw):=by
 refine⟨R1.mpr (h.1.imp λ{a b} F z=>F (by
  unfold sw at z;injection z with z1 z2
  exact L4 z2 z1)),λx=>⟨λhx=>?_,λhx=>?_⟩,λx hx=>?_⟩
 ·obtain⟨y,hy,rfl⟩:=A9.mp hx
  exact qu0 hp h1 h2 ((h.2.1 y).mp hy)
 ·exact A9.mpr ⟨sw x,(h.2.1 _).mpr (qu0 (p:=sw p) hp h2 h1 hx),rfl⟩
 ·exact cn0 (x:=sw x) (h.2.2 _ (qu0 (p:=sw p) hp h2 h1 hx))
theorem pp0{p:Nat×Nat}{A B:List (Nat×Nat)}(ha:Tab ps qs p A)(hb:Tab ps qs p B):SoT.srt (A.map c2)=SoT.srt (B.map c2) :=
 SoT.qz0 (((List.perm_ext_iff_of_nodup ha.1 hb.1).mpr λx=>(ha.2.1 x).trans (hb.2.1 x).symm).map c2)
theorem fg0(hp:Web ps){p:Nat×Nat}(h1:p.1<ps.length)(h2:p.2<ps.length){A:List (Nat×Nat)}(h:Tab ps ps p A):A.length<=3600:=lb0 (n:=60) h.1 λx hx=>by
 have:=jl0 hp h1 h2 ((h.2.1 x).mp hx);have:=hp.len.2;omega
theorem gt0(l:List (Int×Int)):G7 (.lst (l.map pD)) (.lst (l.map pD))=some (.bl true)/\S7 (.lst (l.map pD)) (.lst (l.map pD))=some (.bl false):=by
 have:lean (.lst (l.map pD)) 50=true:=by
  show leans (l.map pD) 49=true;refine sx0 λx hx=>?_
  obtain⟨p,_,rfl⟩:=A9.mp hx;rfl
 exact⟨Pn.Zm0 this,Pn.pf0 this⟩
theorem ox0(l:List (Int×Int)):T4 [.lst (l.map pD)]=some (.bl true):=by
 obtain⟨δ',lo,s1,s2,rfl⟩:=O8 (f:=gN 1) (G:=v9 (ifD (yz0 (z70 (ob (Q5 isTup (gv 1)))) (ob (o2 (oA (z9 (gv 1) v8) W0) (gc (.int 2)) neD)))
   (v9 (d9 (gc (.bl false))) p8) p8)
   (v9 (R7 (tupI (gv 1)) (gN 2) (v9 (ifD (yz0 (z70 (ob (Q5 isInt (gv 2)))) (ob (Q5 isBool (gv 2)))) (v9 (d9 (gc (.bl false))) p8) p8) p8)) p8))
  (λ_ δ=>∃s1 s2:Sl,δ=[.sh (.lst (l.map pD)),s1,s2]) (l.map pD) 0 [.sh (.lst (l.map pD)),.un,.un] (by
   rintro j d δ hj ⟨s1,s2,rfl⟩;obtain⟨p,_,rfl⟩:=A9.mp (L3 hj);exact⟨_,[.sh (.lst (l.map pD)),.sh (pD p),.sh (.int p.2)],rfl,rfl,_,_,rfl⟩) ⟨.un,.un,rfl⟩
 exact d8 rfl (u0 (δ':=[.sh (.lst (l.map pD)),.un,.un]) rfl (u0 (O7 (items:=l.map pD) rfl lo) (n8 rfl)))
theorem swapped(δ:Ds)(h:∃a b rest,δ=a::b::rest):∀l:List (Int×Int),Q8 (G9 0 1) noT (Z2 (z9 (gv 1) (z9 (gv 0) v8))) δ (l.map pD)=some ((l.map sI).map pD):=by
 obtain⟨a,b,rest,rfl⟩:=h;have zs:(9:Nat)<=sizeLine:=by decide
 intro l
 induction l with
 | nil=>rfl
 | cons p l ih =>
  rw[List.map_cons,List.map_cons,List.map_cons];unfold Q8;rw[show G9 0 1 (pD p) (a::b::rest)=some (.sh (.int p.1)::.sh (.int p.2)::rest) from rfl];dsimp only;rw[show noT (.sh (.int p.1)::.sh (.int p.2)::rest)=some true from rfl];dsimp only;rw[W3 (ds:=[.int p.2,.int p.1]) (cons_of rfl (cons_of rfl rfl)) (by show 2<=sizeLine;omega)];dsimp only;rw[ih];rfl
theorem p30(hp:Web ps){p q:Nat}(h1:p<ps.length)(h2:q<ps.length):R8 [wd ps,nI p,nI q]=some (.bl true):=by
 have zs:(9000:Nat)<=sizeLine:=by decide
 have ca:∀(d:D) (δ:Ds),O2 [wd ps,wd ps,pN (p,q)]=some d->oA (z9 (gv 0) (z9 (gv 0) (z9 (Z2 (z9 (gv 1) (z9 (gv 2) v8))) v8))) O2 (.sh (wd ps)::.sh (nI p)::.sh (nI q)::δ)=some d:=λd δ e=>by
  rw[m5 (ds:=[wd ps,wd ps,pN (p,q)]) (cons_of rfl (cons_of rfl (cons_of (W3 (cons_of rfl (cons_of rfl rfl)) (by show 2<=sizeLine;omega)) rfl)))];exact e
 rcases a90 hp (p:=(p,q)) ⟨h1,h2⟩ with⟨⟨x,F,J⟩,e⟩|⟨A,ht,e⟩
 ·rcases up0 hp h1 h2 with⟨_,e1,e2,w,e3⟩|⟨A,ht,_⟩
  ·refine d8 rfl (u0 (j4 (ca _ _ e)) (u0 (δ':=[.sh (wd ps),.sh (nI p),.sh (nI q),.sh .non,.sh .non,.un,.un]) ?_ (u0 (j4 (d:=.lst (w.map nI)) ?_) (n8 ?_))))
   ·unfold orS
    rw[show U7 4 (oA (z9 (gv 0) (z9 (gv 1) (z9 (gv 2) v8))) W8) ((X3 yj0 [wd ps,nI p,nI q]).set 3 (.sh .non))=none from by
     unfold U7;rw[m5 (ds:=[wd ps,nI p,nI q]) rfl,e2];rfl]
    exact j4 (d:=.non) (by rw[m5 (ds:=[wd ps,nI p,nI q]) rfl];exact e1)
   ·rw[m5 (ds:=[wd ps,nI p,nI q]) rfl];exact e3
   ·change ifD _ _ _ [.sh (wd ps),.sh (nI p),.sh (nI q),.sh .non,.sh .non,.sh (.lst (w.map nI)),.un]=_
    rw[U4 (by rfl)];rfl
  ·exact absurd (ht.2.2 x F) J
 ·rcases up0 hp h1 h2 with⟨⟨x,F,J⟩,_⟩|⟨B,hb,e1,e2,e3⟩
  ·exact absurd (ht.2.2 x F) J
  ·rw[pp0 hb ht] at e1 e2
   have few:=fg0 hp (p:=(p,q)) h1 h2 ht;have hl:(SoT.srt (A.map c2)).length=A.length:=by rw[(SoT.yh0 _).length_eq,List.length_map]
   have tq:=bj0 hp (p:=(p,q)) h1 h2 ht;obtain⟨C,hc,e4⟩:∃C,Tab ps ps (q,p) C/\U9 [wd ps,nI q,nI p]=some (.lst ((SoT.srt (C.map c2)).map pD)):=by
    rcases up0 hp h2 h1 with⟨⟨x,F,J⟩,_⟩|⟨C,hc,e4,_⟩
    ·exact absurd (tq.2.2 x F) J
    ·exact⟨C,hc,e4⟩
   rw[pp0 hc tq] at e4;have L:((SoT.srt (A.map c2)).map sI).Perm ((A.map sw).map c2):=by
    have:=(SoT.yh0 (A.map c2)).map sI
    rwa [List.map_map,show A.map (sI ∘ c2)=(A.map sw).map c2 by rw[List.map_map];rfl] at this
   have hs:SoT.srt ((SoT.srt (A.map c2)).map sI)=SoT.srt ((A.map sw).map c2):=SoT.qz0 L;have M:((SoT.srt (A.map c2)).map sI).Nodup:=L.nodup_iff.mpr (ln0 tq.1);generalize SoT.srt (A.map c2)=S at e e1 e2 hl hs M;generalize SoT.srt ((A.map sw).map c2)=S2 at e4 hs;obtain⟨q1,q2⟩:=gt0 S;refine d8 rfl (u0 (j4 (ca _ _ e)) (u0 (δ':=[.sh (wd ps),.sh (nI p),.sh (nI q),.sh (.lst (S.map pD)),.ow (.lst (S.map pD)),.un,.un]) ?_ (u0 (j4 (d:=.non) ?_) (u0 (δ':=[.sh (wd ps),.sh (nI p),.sh (nI q),.sh (.lst (S.map pD)),.ow (.lst (S.map pD)),.sh .non,.un]) ?_ (u0 (δ':=[.sh (wd ps),.sh (nI p),.sh (nI q),.sh (.lst (S.map pD)),.ow (.lst (S.map pD)),.sh .non,.un]) ?_ (u0 (δ':=[.sh (wd ps),.sh (nI p),.sh (nI q),.sh (.lst (S.map pD)),.ow (.lst []),.sh .non,.un]) rfl (u0 (j4 (d:=.lst (S2.map pD)) ?_) (n8 (Z7 ?_)))))))))
   ·unfold orS
    rw[show U7 4 (oA (z9 (gv 0) (z9 (gv 1) (z9 (gv 2) v8))) W8) ((X3 yj0 [wd ps,nI p,nI q]).set 3 (.sh (.lst (S.map pD))))=some (.nx [.sh (wd ps),.sh (nI p),.sh (nI q),.sh (.lst (S.map pD)),.ow (.lst (S.map pD)),.un,.un]) from by
     unfold U7;rw[m5 (ds:=[wd ps,nI p,nI q]) rfl,e2];rfl]
   ·rw[m5 (ds:=[wd ps,nI p,nI q]) rfl];exact e3
   ·change ifD _ _ _ [.sh (wd ps),.sh (nI p),.sh (nI q),.sh (.lst (S.map pD)),.ow (.lst (S.map pD)),.sh .non,.un]=_
    rw[Z4 (by rfl)];rfl
   ·rw[Z4]
    ·rfl
    ·have t1:yl0 (oA (z9 (gv 4) v8) T4) [.sh (wd ps),.sh (nI p),.sh (nI q),.sh (.lst (S.map pD)),.ow (.lst (S.map pD)),.sh .non,.un]=some (.bl true):=s30 (by
      show oA (z9 (gv 4) v8) T4 [.sh (wd ps),.sh (nI p),.sh (nI q),.sh (.lst (S.map pD)),.sh (.lst (S.map pD)),.sh .non,.un]=_;rw[m5 (ds:=[.lst (S.map pD)]) rfl];exact ox0 S) rfl
     have t2:ya0 (ob (o2 (gv 4) (gv 3) S7)) [.sh (wd ps),.sh (nI p),.sh (nI q),.sh (.lst (S.map pD)),.ow (.lst (S.map pD)),.sh .non,.un]=some false:=by
      show ob (o2 (gv 4) (gv 3) S7) [.sh (wd ps),.sh (nI p),.sh (nI q),.sh (.lst (S.map pD)),.sh (.lst (S.map pD)),.sh .non,.un]=_;exact Bw.yu0 (by rw[o5 (x:=.lst (S.map pD)) (y:=.lst (S.map pD)) rfl rfl];exact q2)
     refine f00 (by rfl) (f00 ?_ t2);unfold z70;rw[Bw.yu0 t1];rfl
   ·rw[m5 (ds:=[wd ps,nI q,nI p]) rfl];exact e4
   ·change vm0 _ _ [.sh (wd ps),.sh (nI p),.sh (nI q),.sh (.lst (S.map pD)),.ow (.lst []),.sh .non,.sh (.lst (S2.map pD))]=_
    unfold vm0;rw[Bw.yu0 (b:=true),Option.bind_some,if_pos rfl]
    ·rw[o5 (x:=.lst (S.map pD)) (y:=.lst (S.map pD)) (by rw[m5 (ds:=[wd ps,nI p,nI q]) rfl];exact e1) rfl]
     exact q1
    ·rw[o5 (x:=.lst (S2.map pD)) (y:=.lst (S2.map pD)) rfl]
     ·exact(gt0 S2).1
     ·rw[m5 (ds:=[.lst ((S.map sI).map pD)]) (cons_of (O4 (items:=S.map pD) rfl (by rw[List.length_map];omega) (swapped _ ⟨_,_,_,rfl⟩ S)) rfl),pt0 M,hs]
def RB:GS:=(v9 (X7 (V8 4 (Z2 (z9 (gc (.str "row")) (z9 (Z2 (z9 (oA (z9 (o2 (o2 (gv 6) (gv 7) j7) (gv 3) eqD) v8) intOfD) (z9 (Z2 (z9 (gc (.str "at")) (z9 (o2 (gv 6) (o2 (o2 (gv 7) (gc (.int 1)) j7) (gv 5) m8) j7) v8))) v8))) v8)))))
 p8)
def rS(a b:Sl)(z:D)(o:Int)(Ps:List Pt)(s5 s6 s7:Sl):Ds:=[a,b,.sh z,.sh (.int o),.ow (.lst (Ps.map Pt.d)),s5,s6,s7]
theorem ax0(a b:Sl)(z:D)(o:Int)(Ps:List Pt){st k N:Nat}(hn:0<n)(hN:st+n<=N)(hl:Ps.length<=100) :
  ∃p,RB (rS a b z o Ps (.sh (nI n)) (.sh (nI st)) (.sh (nI k)))=some (.nx (rS a b z o (Ps++[p]) (.sh (nI n)) (.sh (nI st)) (.sh (nI k))))/\Pw N p:=by
 have zs:(1000:Nat)<=sizeLine:=by decide
 have hm:(k+1)%n<n:=Nat.mod_lt _ hn;obtain⟨y,hy⟩:∃y:Int,∀s:Sl,oA (z9 (o2 (o2 (gv 6) (gv 7) j7) (gv 3) eqD) v8) intOfD (rS a b z o Ps (.sh (nI n)) (.sh (nI st)) (.sh (nI k)))=some (.int y):=⟨_,λ_=>rfl⟩;have e:Z2 (z9 (gc (.str "row")) (z9 (Z2 (z9 (oA (z9 (o2 (o2 (gv 6) (gv 7) j7) (gv 3) eqD) v8) intOfD) (z9 (Z2 (z9 (gc (.str "at")) (z9 (o2 (gv 6) (o2 (o2 (gv 7) (gc (.int 1)) j7) (gv 5) m8) j7) v8))) v8))) v8)) (rS a b z o Ps (.sh (nI n)) (.sh (nI st)) (.sh (nI k)))=some (Pt.row [.int y,.tup [.str "at",.int ((st+(k+1)%n:Nat):Int)]]).d:=by
  refine W3 (cons_of rfl (cons_of (W3 (cons_of (hy .un) (cons_of (W3 (cons_of rfl (cons_of (d:=.int ((st+(k+1)%n:Nat):Int)) ?_ rfl)) (by show 2<=sizeLine;omega)) rfl)) (by show 2<=sizeLine;omega)) rfl)) (by show 2<=sizeLine;omega);rw[o5 (x:=.int (st:Int)) (y:=.int (((k:Int)+1)%(n:Int))) rfl (by
   rw[o5 (x:=.int ((k:Int)+1)) (y:=.int (n:Int)) rfl rfl];exact Gw.Q9 _ _ (by omega))]
  show some (D.int ((st:Int)+((k:Int)+1)%(n:Int)))=_;rw[Int.natCast_add,Int.natCast_emod,Int.natCast_add];rfl
 refine⟨.row [.int y,.tup [.str "at",.int ((st+(k+1)%n:Nat):Int)]],u0 (δ':=rS a b z o (Ps++[.row [.int y,.tup [.str "at",.int ((st+(k+1)%n:Nat):Int)]]]) (.sh (nI n)) (.sh (nI st)) (.sh (nI k))) ?_ rfl,⟨by show 2<=12;decide,λv hv=>?_⟩⟩
 ·unfold X7 V8
  rw[show owL 4 (rS a b z o Ps (.sh (nI n)) (.sh (nI st)) (.sh (nI k)))=some (Ps.map Pt.d) from rfl,Option.bind_some,e];show Option.map (λr:D×Ds=>Res.nx r.2) (if (Ps.map Pt.d).length<sizeLine then some (D.non,([a,b,.sh z,.sh (.int o),.ow (.lst (Ps.map Pt.d++[(Pt.row [.int y,.tup [.str "at",.int ((st+(k+1)%n:Nat):Int)]]).d])),.sh (nI n),.sh (nI st),.sh (nI k)]:Ds)) else none)=_;rw[if_pos (by rw[List.length_map];omega)];unfold rS;rw[List.map_append];rfl
 ·rcases B3.mp hv with rfl|hv
  ·exact .inr (.inl ⟨y,rfl⟩)
  ·rw[List.mem_singleton.mp hv]
   exact .inr (.inr ⟨_,rfl,by omega⟩)
def RO:GS:=(v9 (m7 (gN 6) (y40 (oA (z9 (gv 4) v8) W0)))
 (v9 (R7 (S5 (z9 (gv 5) v8)) (gN 7)
 RB)
 p8))
theorem gl0(a b:Sl)(z:D)(o:Int)(Ps:List Pt){N:Nat}(hn:0<n/\n<=9)(hN:Ps.length+n<=N)(hl:N<=60)(hw:∀p∈Ps,Pw N p)(s6 s7:Sl) :
  ∃Qs t6 t7,RO (rS a b z o Ps (.sh (nI n)) s6 s7)=some (.nx (rS a b z o Qs (.sh (nI n)) t6 t7))/\Qs.length=Ps.length+n/\∀p∈Qs,Pw N p:=by
 have F:(W4 0 (n:Int)).length=n:=by rw[tn0,List.length_map,List.length_range']
 obtain⟨δ',e,Qs,t7,rfl,h1,h2⟩:=O8 (f:=gN 7) (G:=RB) (λi δ=>∃Qs t7,δ=rS a b z o Qs (.sh (nI n)) (.sh (nI Ps.length)) t7/\Qs.length=Ps.length+i/\∀p∈Qs,Pw N p) (W4 0 (n:Int)) 0 (rS a b z o Ps (.sh (nI n)) (.sh (nI Ps.length)) s7) (by
  rintro j d δ hj ⟨Qs,t7,rfl,h1,h2⟩;obtain⟨J,rfl⟩:=zj0 hj;obtain⟨p,e,h3⟩:=ax0 a b z o Qs (n:=n) (st:=Ps.length) (k:=j) hn.1 hN (by omega);refine⟨_,_,rfl,e,Qs++[p],_,rfl,by rw[List.length_append,List.length_singleton];omega,λx hx=>?_⟩;rcases B8.mp hx with hx|hx
  ·exact h2 x hx
  ·rw[List.mem_singleton.mp hx];exact h3) ⟨Ps,s7,rfl,rfl,hw⟩
 refine⟨Qs,_,t7,u0 (j4 (d:=nI Ps.length) ?_) (u0 (O7 (items:=W4 0 (n:Int)) (J6 (n:=(n:Int)) rfl (by omega) (by omega)) e) rfl),by rw[F] at h1;omega,h2⟩;show some (D.int ((Ps.map Pt.d).length:Int))=_;rw[List.length_map];rfl
theorem ga0(c sp:Int):∃rs,K7 [.int c,.int sp]=some (wd rs)/\Web rs:=by
 have zs:(1000:Nat)<=sizeLine:=by decide
 obtain⟨n1,e1,h1⟩:∃n:Nat,2+c%8=(n:Int)/\2<=n/\n<=9:=⟨(2+c%8).toNat,by omega,by omega,by omega⟩;obtain⟨n2,e2,h2⟩:∃n:Nat,2+c/8%8=(n:Int)/\2<=n/\n<=9:=⟨(2+c/8%8).toNat,by omega,by omega,by omega⟩;have g1:o2 (gc (.int 2)) (o2 (gv 0) (gc (.int 8)) m8) j7 (X3 yt0 [.int c,.int sp])=some (nI n1):=by
  rw[o5 (x:=.int 2) (y:=.int (c%8)) rfl (by rw[o5 (x:=.int c) (y:=.int 8) rfl rfl];exact Gw.Q9 _ _ (by decide))];show some (D.int (2+c%8))=_;rw[e1];rfl
 have g2:o2 (gc (.int 2)) (o2 (o2 (gv 0) (gc (.int 8)) b7) (gc (.int 8)) m8) j7 (X3 yt0 [.int c,.int sp])=some (nI n2):=by
  rw[o5 (x:=.int 2) (y:=.int (c/8%8)) rfl (by rw[o5 (x:=.int (c/8)) (y:=.int 8) (by rw[o5 (x:=.int c) (y:=.int 8) rfl rfl];exact Gw.wc0 _ _ (by decide)) rfl];exact Gw.Q9 _ _ (by decide))];show some (D.int (2+c/8%8))=_;rw[e2];rfl
 have sm:∀δ:Ds,oA (z9 (gv 2) v8) ux0 (.sh (.int c)::.sh (.int sp)::.sh (.lst [nI n1,nI n2])::δ)=some (nI (n1+n2)):=fun δ=>by
  rw[m5 (ds:=[.lst [nI n1,nI n2]]) rfl];have:ux0 [.lst [nI n1,nI n2]]=some (.int (((n1:Int)+((n2:Int)+0)))):=rfl;rw[this];unfold nI;rw[Int.add_zero,Int.natCast_add]
 obtain⟨o,ho⟩:∃o:Int,ifD (ob (o2 (o2 (o2 (gv 0) (gc (.int 64)) b7) (gc (.int 2)) m8) (gc (.int 1)) eqD)) (v9 (m7 (gN 3) (o2 (gv 1) (oA (z9 (gv 2) v8) ux0) m8)) p8) p8 [.sh (.int c),.sh (.int sp),.sh (.lst [nI n1,nI n2]),.sh (nI (n1+n2)),.un,.un,.un,.un]=some (.nx [.sh (.int c),.sh (.int sp),.sh (.lst [nI n1,nI n2]),.sh (.int o),.un,.un,.un,.un]):=by
  obtain⟨b,hb⟩:∃b,ob (o2 (o2 (o2 (gv 0) (gc (.int 64)) b7) (gc (.int 2)) m8) (gc (.int 1)) eqD) [.sh (.int c),.sh (.int sp),.sh (.lst [nI n1,nI n2]),.sh (nI (n1+n2)),.un,.un,.un,.un]=some b:=⟨_,rfl⟩;cases b with
  | true =>
   refine⟨sp%((n1+n2:Nat):Int),?_⟩;rw[U4 hb];refine u0 (j4 (d:=.int (sp%((n1+n2:Nat):Int))) ?_) rfl;rw[o5 (x:=.int sp) (y:=nI (n1+n2)) rfl (sm _)];exact Gw.Q9 _ _ (by omega)
  | false =>
   refine⟨((n1+n2:Nat):Int),?_⟩;rw[Z4 hb];rfl
 obtain⟨Q1,u6,u7,r1,l1,w1⟩:=gl0 (.sh (.int c)) (.sh (.int sp)) (.lst [nI n1,nI n2]) o [] (n:=n1) (N:=n1+n2) ⟨by omega,h1.2⟩ (by simp) (by omega) (λp hp=>by cases hp) .un .un;rw[List.length_nil,Nat.zero_add] at l1;obtain⟨Q2,v6,v7,r2,l2,w2⟩:=gl0 (.sh (.int c)) (.sh (.int sp)) (.lst [nI n1,nI n2]) o Q1 (n:=n2) (N:=n1+n2) ⟨by omega,h2.2⟩ (by omega) (by omega) w1 u6 u7;refine⟨Q2,d8 rfl (u0 (j4 (d:=.lst [nI n1,nI n2]) (zq0 (cons_of g1 (cons_of g2 rfl)) (by show 2<=sizeLine;omega))) (u0 (j4 (sm _)) (u0 ho (u0 (δ':=rS (.sh (.int c)) (.sh (.int sp)) (.lst [nI n1,nI n2]) o [] .un .un .un) rfl (u0 (δ':=rS (.sh (.int c)) (.sh (.int sp)) (.lst [nI n1,nI n2]) o Q2 (.sh (nI n2)) v6 v7) (O7 (items:=[nI n1,nI n2]) rfl ?_) (n8 (Z7 ?_))))))),⟨by omega,λp hp=>by rw[l2,l1];exact w2 p hp⟩⟩
 ·change V7 (gN 5) RO [nI n1,nI n2] _=_
  rw[op0 (f:=gN 5) (δ1:=rS (.sh (.int c)) (.sh (.int sp)) (.lst [nI n1,nI n2]) o [] (.sh (nI n1)) .un .un) rfl r1,op0 (f:=gN 5) (δ1:=rS (.sh (.int c)) (.sh (.int sp)) (.lst [nI n1,nI n2]) o Q1 (.sh (nI n2)) u6 u7) rfl r2];rfl
 ·rfl
theorem wk0(ns:List Int)(k:Int)(h0:0<=k):∃z,o9 [.lst (ns.map .int),.int k]=some (.int z):=Gw.y70 ns k h0
theorem nz0(c k:Int)(hk:0<=k/\k<=1000000):∃x,0<=x/\x<2147483647/\X4 [.int c,.int k]=some (.int x):=Gw.ve0 c k hk
theorem nc0(h:Web qs)(x:Int):∃rs,R3 [wd qs,.int x]=some (wd rs)/\Web rs/\rs.length=qs.length:=Ta.l00 h x
theorem jn0(ns:List Int)(hl:ns.length<=63){M:Nat}(hM:0<M/\M<=12):∃ps,K8 [.lst (ns.map .int),.int (M:Int)]=some (wd ps)/\Web ps/\ps.length<=M:=Fa.jy0 ns hl hM
theorem ll0(hp:Web ps)(h:ps.length*T<=60)(hT:0<T/\T<=7)(c:Int):∃qs,M4 [wd ps,.int (T:Int),.int c]=some (wd qs)/\Web qs/\qs.length=ps.length*T:=Fa.lm0 hp h hT c
def LB:GS:=(v9 (m7 (gN 5) (oA (z9 (o2 (oA (z9 (gv 0) (z9 (gc (.int 7)) v8)) o9) (o2 (gv 4) (gv 4) U0) j7) (z9 (o2 (gv 4) (gc (.int 70)) j7) v8)) X4))
 (v9 (m7 (gN 6) (o2 (gv 5) (oA (z9 (gv 1) v8) W0) m8))
 (v9 (m7 (gN 7) (o2 (o2 (gv 5) (gc (.int 60)) b7) (oA (z9 (gv 1) v8) W0) m8))
 (v9 (ifD (K4 (ob (o2 (o2 (gv 4) (gc (.int 4)) m8) (gc (.int 0)) gtD)) (ob (o2 (o2 (o2 (gv 2) (gc (.int 8)) b7) (gc (.int 4)) m8) (gc (.int 1)) S7)))
 (v9 (m7 (gN 7) (o2 (o2 (o2 (gv 6) (gv 3) b7) (gv 3) U0) (o2 (o2 (gv 5) (gc (.int 60)) b7) (gv 3) m8) j7))
 p8)
 p8)
 (v9 (ifD (z70 (ob (oA (z9 (gv 1) (z9 (gv 6) (z9 (gv 7) v8))) R8)))
 (v9 (d9 (gc (.bl false)))
 p8)
 p8)
 p8)))))
def lS(ns:List Int)(qs:List Pt)(t:Int)(T:Nat)(s4 s5 s6 s7:Sl):Ds:=[.sh (.lst (ns.map .int)),.sh (wd qs),.sh (.int t),.sh (.int (T:Int)),s4,s5,s6,s7]
theorem au0(ns:List Int)(hq:Web qs)(t:Int)(hT:0<T/\T<=7)(hd:t/8%4≠1->T ∣ qs.length)(j:Nat)(hj:j<10)(s5 s6 s7:Sl) :
  ∃t5 t6 t7,LB (lS ns qs t T (.sh (nI j)) s5 s6 s7)=some (.nx (lS ns qs t T (.sh (nI j)) t5 t6 t7)):=by
 have zs:(4000:Nat)<=sizeLine:=by decide
 have hl:=hq.len;obtain⟨c7,h7⟩:=wk0 ns 7 (by decide);obtain⟨x,_,_,hx⟩:=nz0 (c7+(j:Int)*(j:Int)) ((j:Int)+70) (by omega);have nn:∀(y:Int) (n:Nat),0<n->0<=y%(n:Int)/\y%(n:Int)<n:=λy n h=>⟨E4 _ (by omega),E5 _ (by omega)⟩
 obtain⟨p,ep,hp⟩:∃a:Nat,x%(qs.length:Int)=(a:Int)/\a<qs.length:=⟨(x%(qs.length:Int)).toNat,by have:=nn x _ hl.1;omega,by have:=nn x _ hl.1;omega⟩;obtain⟨q,eq,O⟩:∃b:Nat,x/60%(qs.length:Int)=(b:Int)/\b<qs.length:=⟨(x/60%(qs.length:Int)).toNat,by have:=nn (x/60) _ hl.1;omega,by have:=nn (x/60) _ hl.1;omega⟩;obtain⟨r,er,hr⟩:∃b:Nat,x/60%(T:Int)=(b:Int)/\b<T:=⟨(x/60%(T:Int)).toNat,by have:=nn (x/60) _ hT.1;omega,by have:=nn (x/60) _ hT.1;omega⟩;have e5:∀s5 s6 s7,oA (z9 (o2 (oA (z9 (gv 0) (z9 (gc (.int 7)) v8)) o9) (o2 (gv 4) (gv 4) U0) j7) (z9 (o2 (gv 4) (gc (.int 70)) j7) v8)) X4 (lS ns qs t T (.sh (nI j)) s5 s6 s7)=some (.int x):=λs5 s6 s7=>by
  rw[m5 (ds:=[.int (c7+(j:Int)*(j:Int)),.int ((j:Int)+70)]) (cons_of (by
   rw[o5 (x:=.int c7) (y:=.int ((j:Int)*(j:Int))) (by rw[m5 (ds:=[.lst (ns.map .int),.int 7]) rfl];exact h7) (by
    rw[o5 (x:=.int (j:Int)) (y:=.int (j:Int)) rfl rfl];exact Gw.mw0 _ _ (by omega))]
   rfl) (cons_of rfl rfl))]
  exact hx
 have ln:∀s5 s6 s7,oA (z9 (gv 1) v8) W0 (lS ns qs t T (.sh (nI j)) s5 s6 s7)=some (.int (qs.length:Int)):=λs5 s6 s7=>t90 qs _ rfl
 have J:∀s6 s7,o2 (gv 5) (gc (.int 60)) b7 (lS ns qs t T (.sh (nI j)) (.sh (.int x)) s6 s7)=some (.int (x/60)):=λs6 s7=>by
  rw[o5 (x:=.int x) (y:=.int 60) rfl rfl];exact Gw.wc0 _ _ (by decide)
 have last:∀k:Nat,k<qs.length->v9 (ifD (z70 (ob (oA (z9 (gv 1) (z9 (gv 6) (z9 (gv 7) v8))) R8))) (v9 (d9 (gc (.bl false))) p8) p8) p8 (lS ns qs t T (.sh (nI j)) (.sh (.int x)) (.sh (nI p)) (.sh (nI k)))=some (.nx (lS ns qs t T (.sh (nI j)) (.sh (.int x)) (.sh (nI p)) (.sh (nI k)))):=λk hk=>by
  refine u0 (δ':=lS ns qs t T (.sh (nI j)) (.sh (.int x)) (.sh (nI p)) (.sh (nI k))) ?_ rfl;rw[Z4 (by
   unfold z70;rw[Bw.yu0 (b:=true) (by rw[m5 (ds:=[wd qs,nI p,nI k]) rfl];exact p30 hq hp hk)];rfl)]
  rfl
 obtain⟨b,hb⟩:∃b,K4 (ob (o2 (o2 (gv 4) (gc (.int 4)) m8) (gc (.int 0)) gtD)) (ob (o2 (o2 (o2 (gv 2) (gc (.int 8)) b7) (gc (.int 4)) m8) (gc (.int 1)) S7)) (lS ns qs t T (.sh (nI j)) (.sh (.int x)) (.sh (nI p)) (.sh (nI q)))=some b/\(b=true->t/8%4≠1):=by
  have u:ob (o2 (o2 (o2 (gv 2) (gc (.int 8)) b7) (gc (.int 4)) m8) (gc (.int 1)) S7) (lS ns qs t T (.sh (nI j)) (.sh (.int x)) (.sh (nI p)) (.sh (nI q)))=some (!(t/8%4==1)):=by
   refine Bw.yu0 ?_;rw[o5 (x:=.int (t/8%4)) (y:=.int 1) (by rw[o5 (x:=.int (t/8)) (y:=.int 4) (by rw[o5 (x:=.int t) (y:=.int 8) rfl rfl];exact Gw.wc0 _ _ (by decide)) rfl];exact Gw.Q9 _ _ (by decide)) rfl];rfl
  have v:∃c,ob (o2 (o2 (gv 4) (gc (.int 4)) m8) (gc (.int 0)) gtD) (lS ns qs t T (.sh (nI j)) (.sh (.int x)) (.sh (nI p)) (.sh (nI q)))=some c:=⟨_,rfl⟩;obtain⟨c,hc⟩:=v;unfold K4;rw[hc,Option.bind_some];cases c with
  | false=>exact⟨false,rfl,λz=>nomatch z⟩
  | true =>
   refine⟨!(t/8%4==1),u,λz=>?_⟩;intro w;rw[w] at z;cases z
 have M:b=true->∃k:Nat,k<qs.length/\o2 (o2 (o2 (gv 6) (gv 3) b7) (gv 3) U0) (o2 (o2 (gv 5) (gc (.int 60)) b7) (gv 3) m8) j7 (lS ns qs t T (.sh (nI j)) (.sh (.int x)) (.sh (nI p)) (.sh (nI q)))=some (nI k):=λz=>by
  refine⟨p/T*T+r,Yi0 (hd (hb.2 z)) hp hr,?_⟩;have S:p/T<=p:=Nat.div_le_self _ _;rw[o5 (x:=.int (((p/T:Nat):Int)*(T:Int))) (y:=.int (r:Int)) (by
   rw[o5 (x:=.int ((p/T:Nat):Int)) (y:=.int (T:Int)) (by
    rw[o5 (x:=.int (p:Int)) (y:=.int (T:Int)) rfl rfl,Gw.wc0 _ _ (by omega),Int.natCast_ediv]) rfl]
   exact Gw.mul_r _ _ (by omega)) (by
   rw[o5 (x:=.int (x/60)) (y:=.int (T:Int)) (J _ _) rfl,Gw.Q9 _ _ (by omega),er])]
  show some (D.int (((p/T:Nat):Int)*(T:Int)+(r:Int)))=_;unfold nI;rw[Int.natCast_add,Int.natCast_mul]
 have F:m7 (gN 6) (o2 (gv 5) (oA (z9 (gv 1) v8) W0) m8) (lS ns qs t T (.sh (nI j)) (.sh (.int x)) s6 s7)=some (.nx (lS ns qs t T (.sh (nI j)) (.sh (.int x)) (.sh (nI p)) s7)):=j4 (d:=nI p) (by
  rw[o5 (x:=.int x) (y:=.int (qs.length:Int)) rfl (ln _ _ _),Gw.Q9 _ _ (by omega),ep];rfl)
 have L:m7 (gN 7) (o2 (o2 (gv 5) (gc (.int 60)) b7) (oA (z9 (gv 1) v8) W0) m8) (lS ns qs t T (.sh (nI j)) (.sh (.int x)) (.sh (nI p)) s7)=some (.nx (lS ns qs t T (.sh (nI j)) (.sh (.int x)) (.sh (nI p)) (.sh (nI q)))):=j4 (d:=nI q) (by
  rw[o5 (x:=.int (x/60)) (y:=.int (qs.length:Int)) (J _ _) (ln _ _ _),Gw.Q9 _ _ (by omega),eq];rfl)
 cases b with
 | false =>
  refine⟨_,_,_,u0 (j4 (e5 _ _ _)) (u0 F (u0 L (u0 (δ':=lS ns qs t T (.sh (nI j)) (.sh (.int x)) (.sh (nI p)) (.sh (nI q))) ?_ (last q O))))⟩;rw[Z4 hb.1];rfl
 | true =>
  obtain⟨k,hk,ek⟩:=M rfl;refine⟨_,_,_,u0 (j4 (e5 _ _ _)) (u0 F (u0 L (u0 (δ':=lS ns qs t T (.sh (nI j)) (.sh (.int x)) (.sh (nI p)) (.sh (nI k))) ?_ (last k hk))))⟩;rw[U4 hb.1];exact u0 (j4 ek) rfl
theorem ib0(ns:List Int)(hl:ns.length<=63):u50 [.lst (ns.map .int)]=some (.bl true):=by
 obtain⟨ps,a1,L,l9⟩:=jn0 ns hl (M:=9) (by decide);obtain⟨t,ht⟩:=wk0 ns 4 (by decide);obtain⟨c5,h5⟩:=wk0 ns 5 (by decide);obtain⟨c6,h6⟩:=wk0 ns 6 (by decide);obtain⟨x6,_,_,Y⟩:=nz0 c6 9 (by decide);obtain⟨T,hT,eT⟩:∃T:Nat,(0<T/\T<=6)/\o2 (X5 (z9 (gc (.int 1)) (z9 (gc (.int 2)) (z9 (gc (.int 3)) (z9 (gc (.int 6)) v8))))) (o2 (gv 2) (gc (.int 4)) m8) ixD [.sh (.lst (ns.map .int)),.sh (wd ps),.sh (.int t),.un,.un,.un,.un,.un]=some (.int (T:Int)):=by
  have zs:(4:Nat)<=sizeLine:=by decide
  have h:t%4=0∨t%4=1∨t%4=2∨t%4=3:=by omega
  have e:o2 (X5 (z9 (gc (.int 1)) (z9 (gc (.int 2)) (z9 (gc (.int 3)) (z9 (gc (.int 6)) v8))))) (o2 (gv 2) (gc (.int 4)) m8) ixD [.sh (.lst (ns.map .int)),.sh (wd ps),.sh (.int t),.un,.un,.un,.un,.un]=ixD (.lst [.int 1,.int 2,.int 3,.int 6]) (.int (t%4)) :=
   o5 (zq0 rfl zs) (by rw[o5 (x:=.int t) (y:=.int 4) rfl rfl];exact Gw.Q9 _ _ (by decide))
  rw[e];rcases h with h|h|h|h<;>rw[h]
  ·exact⟨1,by decide,rfl⟩
  ·exact⟨2,by decide,rfl⟩
  ·exact⟨3,by decide,rfl⟩
  ·exact⟨6,by decide,rfl⟩
 obtain⟨q0,S,F,l0⟩:=ll0 L (T:=T) (C0 (Nat.mul_le_mul l9 hT.2) (by decide)) ⟨hT.1,by omega⟩ c5;obtain⟨q1,J,U,O⟩:=nc0 F x6;obtain⟨q2,Z,a0⟩:=ga0 c5 c6;have tb:∀(a b:Int) (qs:List Pt),0<a->0<b->a<1073741824->ob (o2 (o2 (o2 (gv 2) (gc (.int a)) b7) (gc (.int b)) m8) (gc (.int 1)) G7) (lS ns qs t T .un .un .un .un)=some (t/a%b==1):=λa b qs h1 h2 h3=>Bw.yu0 (by
  rw[o5 (x:=.int (t/a%b)) (y:=.int 1) (by rw[o5 (x:=.int (t/a)) (y:=.int b) (by rw[o5 (x:=.int t) (y:=.int a) rfl rfl];exact Gw.wc0 _ _ ⟨h1,h3⟩) rfl];exact Gw.Q9 _ _ h2) rfl];rfl)
 have ce:∀(k z:Int) (qs:List Pt),o9 [.lst (ns.map .int),.int k]=some (.int z)->oA (z9 (gv 0) (z9 (gc (.int k)) v8)) o9 (lS ns qs t T .un .un .un .un)=some (.int z):=λk z qs h=>by rw[m5 (ds:=[.lst (ns.map .int),.int k]) rfl];exact h
 obtain⟨qs,wq,dq,e3⟩:∃qs:List Pt,Web qs/\T ∣ qs.length/\ifD (ob (o2 (o2 (o2 (gv 2) (gc (.int 4)) b7) (gc (.int 2)) m8) (gc (.int 1)) G7)) (v9 (m7 (gN 1) (oA (z9 (gv 1) (z9 (oA (z9 (oA (z9 (gv 0) (z9 (gc (.int 6)) v8)) o9) (z9 (gc (.int 9)) v8)) X4) v8)) R3)) p8) p8 (lS ns q0 t T .un .un .un .un)=some (.nx (lS ns qs t T .un .un .un .un)):=by
  have hb:=tb 4 2 q0 (by decide) (by decide) (by decide);have dv:T ∣ q0.length:=by rw[l0];exact Nat.dvd_mul_left T _
  cases hc:(t/4%2==1) with
  | true =>
   rw[hc] at hb;refine⟨q1,U,by rw[O];exact dv,?_⟩;rw[U4 hb];refine u0 (j4 (d:=wd q1) ?_) rfl;rw[m5 (ds:=[wd q0,.int x6]) (cons_of rfl (cons_of (by
    rw[m5 (ds:=[.int c6,.int 9]) (cons_of (ce 6 c6 q0 h6) rfl)];exact Y) rfl))]
   exact J
  | false =>
   rw[hc] at hb;refine⟨q0,F,dv,?_⟩;rw[Z4 hb];rfl
 obtain⟨rs,wr,dr,e4⟩:∃rs:List Pt,Web rs/\(t/8%4≠1->T ∣ rs.length)/\ifD (ob (o2 (o2 (o2 (gv 2) (gc (.int 8)) b7) (gc (.int 4)) m8) (gc (.int 1)) G7)) (v9 (m7 (gN 1) (oA (z9 (oA (z9 (gv 0) (z9 (gc (.int 5)) v8)) o9) (z9 (oA (z9 (gv 0) (z9 (gc (.int 6)) v8)) o9) v8)) K7)) p8) p8 (lS ns qs t T .un .un .un .un)=some (.nx (lS ns rs t T .un .un .un .un)):=by
  have hb:=tb 8 4 qs (by decide) (by decide) (by decide);cases hc:(t/8%4==1) with
  | true =>
   rw[hc] at hb;refine⟨q2,a0,λz=>absurd (by simpa using hc) z,?_⟩;rw[U4 hb];refine u0 (j4 (d:=wd q2) ?_) rfl;rw[m5 (ds:=[.int c5,.int c6]) (cons_of (ce 5 c5 qs h5) (cons_of (ce 6 c6 qs h6) rfl))];exact Z
  | false =>
   rw[hc] at hb;refine⟨qs,wq,λ_=>dq,?_⟩;rw[Z4 hb];rfl
 obtain⟨δ',lo,s4,s5,s6,s7,rfl⟩:=O8 (f:=gN 4) (G:=LB) (λ_ δ=>∃s4 s5 s6 s7:Sl,δ=lS ns rs t T s4 s5 s6 s7) (W4 0 10) 0 (lS ns rs t T .un .un .un .un) (by
  rintro j d δ hj ⟨s4,s5,s6,s7,rfl⟩;obtain⟨a2,rfl⟩:=zj0 hj;obtain⟨t5,t6,t7,e⟩:=au0 ns wr t (T:=T) ⟨hT.1,by omega⟩ dr j (by omega) s5 s6 s7;exact⟨_,_,rfl,e,_,t5,t6,t7,rfl⟩) ⟨.un,.un,.un,.un,rfl⟩
 refine d8 rfl (u0 (j4 (d:=wd ps) ?_) (u0 (j4 (d:=.int t) ?_) (u0 (j4 (d:=.int (T:Int)) eT) (u0 (j4 (d:=wd q0) ?_) (u0 e3 (u0 e4 (u0 (O7 (J6 (n:=10) rfl (by decide) (by decide)) lo) (n8 (Z7 ?_)))))))))
 ·rw[m5 (ds:=[.lst (ns.map .int),.int 9]) rfl]
  exact a1
 ·rw[m5 (ds:=[.lst (ns.map .int),.int 4]) rfl]
  exact ht
 ·rw[m5 (ds:=[wd ps,.int (T:Int),.int c5]) (cons_of rfl (cons_of rfl (cons_of (by rw[m5 (ds:=[.lst (ns.map .int),.int 5]) rfl];exact h5) rfl)))]
  exact S
 ·rw[m5 (ds:=[wd rs,nI 0,nI 0]) rfl]
  exact p30 wr wr.len.1 wr.len.1
end La
namespace La
open L2 DL W
def top(i:Nat):Stmt:=PySem.Challenge.pw_graphpack_k12_look_tables.main.body.getD i (.Pass ⟨0,0,0,0⟩)
theorem b_bool:bootBuiltins "bool"=some (.type "bool"):=by decide +kernel
theorem b_int:bootBuiltins "int"=some (.type "int"):=by decide +kernel
theorem b_list:bootBuiltins "list"=some (.type "list"):=by decide +kernel
theorem b_sorted:bootBuiltins "sorted"=some (.builtin "sorted"):=by decide +kernel
theorem b_sum:bootBuiltins "sum"=some (.builtin "sum"):=by decide +kernel
theorem b_tuple:bootBuiltins "tuple"=some (.type "tuple"):=by decide +kernel
structure Txt(mg:Str->Option Value):Prop where
 b_bool:mg "bool"=none
 b_enumerate:mg "enumerate"=none
 b_int:mg "int"=none
 b_isinstance:mg "isinstance"=none
 b_len:mg "len"=none
 b_list:mg "list"=none
 b_range:mg "range"=none
 b_reversed:mg "reversed"=none
 b_sorted:mg "sorted"=none
 b_sum:mg "sum"=none
 b_tuple:mg "tuple"=none
 b_zip:mg "zip"=none
section
variable{P:Program}{w:World}
theorem rm0:FnScope ["part"] ["part"] (o4 (top 1)):=⟨rfl,rfl,rfl,by decide +kernel,rfl,by decide +kernel,by decide +kernel⟩
theorem rw0(F:Fun K "pair_names" "pair_names" (top 1) fa fd)(T:Txt mg)  : FnOk P w K mg base CX0 1 fa fd ["part"] (spN K K5) :=
 okN (k:=0) (G:=vc0) F rm0 (λJ A outer s H E hr=>(v5 (d7 (PWD.pt (vg0 (j8 P0 T6 (o7 (w6 0) p6) Y4) (u00 (j8 P0 T6 (o7 (w6 0) p6) Y4))))
   (v5 (O6 (Q3 u9))
   p7)
   p7)
   (v5 (O6 (we0 (sc:=o4 (top 1)) (N:=["part"]) (N':=["pair"]) (n:=1) (caps:=[]) ⟨rfl,by decide +kernel,by decide +kernel,by decide +kernel,by decide +kernel,rfl,by decide +kernel⟩ (by decide) (w90 (o7 (w6 0) (xd0 p6))) (λcl s H ex=>o6 0 (by decide +kernel:(["pair"]:List Str).Nodup)) (λcl s H ex=>z50) (λcl s H ex=>(o7 (w6 0) p6))))
   p7))) (λds d h=>yw0 h)
theorem fi0:FnScope ["part"] ["part"] (o4 (top 2)):=⟨rfl,rfl,rfl,by decide +kernel,rfl,by decide +kernel,by decide +kernel⟩
theorem fj0(F:Fun K "head" "head" (top 2) fa fd)(T:Txt mg)(C_pair_names:FnN P w K mg base "pair_names" 1 ["part"] K5):FnOk P w K mg base CX0 2 fa fd ["part"] (spD K Q7) :=
 okD (k:=1) (G:=ki0) F fi0 (λJ A outer s H E hr=>(v5 (d7 (j8 P0 T6 (o7 (w6 0) p6) Y4)
   (v5 (j6 (Y7 (v4 Y4 (v4 (o7 (w6 0) p6) u9))))
   p7)
   p7)
   (v5 (d7 (j8 P0 T6 (o7 (w6 0) p6) Y4)
   (v5 (j6 (Y7 (v4 Y4 (v4 (S6 T.b_len (v4 (o7 (w6 0) p6) u9)) u9))))
   p7)
   p7)
   (v5 (d7 (j8 P0 T6 (o7 (w6 0) p6) Y4)
   (v5 (j6 (Y7 (v4 Y4 (v4 (U5 V4 za0 T.b_tuple b_tuple (v4 (z90 C_pair_names hr (by decide) (v4 (w6 0) u9)) u9)) u9))))
   p7)
   p7)
   (v5 (j6 (Y7 (v4 Y4 (v4 (o7 (w6 0) p6) (v4 (U5 V4 za0 T.b_tuple b_tuple (v4 (z90 C_pair_names hr (by decide) (v4 (w6 0) u9)) u9)) u9)))))
   p7))))) (λds d h=>V1 h)
theorem ji0:FnScope ["part"] ["part"] (o4 (top 3)):=⟨rfl,rfl,rfl,by decide +kernel,rfl,by decide +kernel,by decide +kernel⟩
theorem kh0(F:Fun K "values" "values" (top 3) fa fd)(T:Txt mg)  : FnOk P w K mg base CX0 1 fa fd ["part"] (spN K m_values) :=
 okN (k:=0) (G:=o80) F ji0 (λJ A outer s H E hr=>(v5 (d7 (j8 P0 T6 (o7 (w6 0) p6) Y4)
   (v5 (O6 (Q3 u9))
   p7)
   p7)
   (v5 (d7 (j8 P0 T6 (o7 (w6 0) p6) Y4)
   (v5 (O6 (pw0 T.b_list b_list (o7 (w6 0) p6)))
   p7)
   p7)
   (v5 (O6 (we0 (sc:=o4 (top 3)) (N:=["part"]) (N':=["pair"]) (n:=1) (caps:=[]) ⟨rfl,by decide +kernel,by decide +kernel,by decide +kernel,by decide +kernel,rfl,by decide +kernel⟩ (by decide) (w90 (o7 (w6 0) (xd0 p6))) (λcl s H ex=>o6 0 (by decide +kernel:(["pair"]:List Str).Nodup)) (λcl s H ex=>z50) (λcl s H ex=>(o7 (w6 0) p6))))
   p7)))) (λds d h=>yw0 h)
theorem wx0:FnScope ["web", "p", "q", "walk"] ["web", "p", "q"] (o4 (top 5)):=⟨rfl,rfl,rfl,by decide +kernel,rfl,by decide +kernel,by decide +kernel⟩
theorem rz0(F:Fun K "look_table" "look_table" (top 5) fa fd)(T:Txt mg)(C_paired_walk:FnD P w K mg base "paired_walk" 4 ["one", "other", "start"] Y0):FnOk P w K mg base CX0 5 fa fd ["web", "p", "q"] (spD K U9) :=
 okD (k:=4) (G:=vh0) F wx0 (λJ A outer s H E hr=>(v5 (n6 (Z1 C_paired_walk hr (by decide) (v4 (w6 0) (v4 (w6 0) (v4 (Y7 (v4 (w6 1) (v4 (w6 2) u9))) u9)))) (o6 3 wx0.nd))
   (v5 (d7 (j8 u60 wj0 (o7 (w6 3) p6) O9)
   (v5 (j6 O9)
   p7)
   p7)
   (v5 (j6 (PDF.pd (sw0 rfl T.b_sorted b_sorted (o7 (w6 3) p6))))
   p7)))) (λds d h=>V1 h)
theorem s20:FnScope ["web", "p", "q"] ["web", "p", "q"] (o4 (top 6)):=⟨rfl,rfl,rfl,by decide +kernel,rfl,by decide +kernel,by decide +kernel⟩
theorem sb0(F:Fun K "parting_way" "parting_way" (top 6) fa fd)(T:Txt mg)(C_paired_walk:FnD P w K mg base "paired_walk" 4 ["one", "other", "start"] Y0):FnOk P w K mg base CX0 5 fa fd ["web", "p", "q"] (spD K M5) :=
 okD (k:=4) (G:=wr0) F s20 (λJ A outer s H E hr=>(v5 (j6 (o7 (Z1 C_paired_walk hr (by decide) (v4 (w6 0) (v4 (w6 0) (v4 (Y7 (v4 (w6 1) (v4 (w6 2) u9))) u9)))) p6))
   p7)) (λds d h=>V1 h)
theorem R0:FnScope ["one", "other", "start", "came", "waiting", "number", "pair", "place", "both"] ["one", "other", "start"] (o4 (top 7)):=⟨rfl,rfl,rfl,by decide +kernel,rfl,by decide +kernel,by decide +kernel⟩
theorem tv0(F:Fun K "paired_walk" "paired_walk" (top 7) fa fd)(T:Txt mg)(C_are_links:FnD P w K mg base "are_links" 1 ["both"] V3)(C_are_parting:FnD P w K mg base "are_parting" 3 ["one", "other", "both"] U3)(C_head:FnD P w K mg base "head" 2 ["part"] Q7)(C_linked_pair:FnD P w K mg base "linked_pair" 1 ["both"] Z3)(C_values:FnN P w K mg base "values" 1 ["part"] m_values)(C_way_to:FnN P w K mg base "way_to" 1 ["came", "pair"] zh0):FnOk P w K mg base CX0 4 fa fd ["one", "other", "start"] (spD K Y0) :=
 okD (k:=3) (G:=ww0) F R0 (λJ A outer s H E hr=>(v5 (S8 3 (rf0 (w8 (D7 _ 64) hr.units) (w6 2) O9) R0.nd)
   (v5 (d7 (j8 (yy0 hr.units) y20 (Z1 C_head hr (by decide) (v4 (o7 (w6 0) (o7 (w6 2) p6)) u9)) (Z1 C_head hr (by decide) (v4 (o7 (w6 1) (o7 (w6 2) p6)) u9)))
   (v5 (K3 (Y7 (v4 (w6 3) (v4 (zn0 u9) u9))))
   p7)
   p7)
   (v5 (S8 4 (Q3 (v4 (w6 2) u9)) R0.nd)
   (v5 (n6 p6 (o6 5 R0.nd))
   (v5 (vn0 100000 C3 (j8 wf0 yq0 (w6 5) (xy0 (S6 T.b_len (v4 (w6 4) u9))))
   (v5 (n6 (sj0 (o7 (w6 4) (w6 5))) (o6 6 R0.nd))
   (v5 (ep0 5 R0.nd p6)
   (v5 (S9 C3 rfl (jh0 T.b_enumerate T.b_zip (v4 (z90 C_values hr (by decide) (v4 (o7 (w6 0) (o7 (w6 6) p6)) u9)) (v4 (z90 C_values hr (by decide) (v4 (o7 (w6 1) (o7 (w6 6) p6)) u9)) u9))) (wo0 7 8 R0.nd (by decide))
   (v5 (d7 (N8 (Z1 C_are_parting hr (by decide) (v4 (w6 0) (v4 (w6 1) (v4 (w6 8) u9)))))
   (v5 (K3 (Y7 (v4 (w6 3) (v4 (Z5 (z90 C_way_to hr (by decide) (v4 (w6 3) (v4 (w6 6) u9))) (zn0 (v4 (w6 7) u9))) u9))))
   p7)
   p7)
   (v5 (d7 (PWD.pt (s60 (N8 (Z1 C_are_links hr (by decide) (v4 (w6 8) u9))) (ul0 (vx0 (pk0 (u20 hr) (Z1 C_linked_pair hr (by decide) (v4 (w6 8) u9)) (w6 3))))))
   (v5 (wn0 (se0 (Y7 (v4 (w6 6) (v4 (w6 7) u9)))) (ql0 3 (u20 hr) (Z1 C_linked_pair hr (by decide) (v4 (w6 8) u9))))
   (v5 (T8 (G8 4 (Z1 C_linked_pair hr (by decide) (v4 (w6 8) u9))))
   p7))
   p7)
   p7)))
   p7))))
   (v5 (K3 (Y7 (v4 (w6 3) (v4 O9 u9))))
   p7))))))) (λds d h=>V1 h)
theorem xn0:FnScope ["came", "pair", "backward", "step"] ["came", "pair"] (o4 (top 8)):=⟨rfl,rfl,rfl,by decide +kernel,rfl,by decide +kernel,by decide +kernel⟩
theorem jb0(F:Fun K "way_to" "way_to" (top 8) fa fd)(T:Txt mg)  : FnOk P w K mg base CX0 1 fa fd ["came", "pair"] (spN K zh0) :=
 okN (k:=0) (G:=pn0) F xn0 (λJ A outer s H E hr=>(v5 (S8 2 (Q3 u9) xn0.nd)
   (v5 (n6 (nm0 (u20 hr) (w6 0) (w6 1)) (o6 3 xn0.nd))
   (v5 (vn0 100000 C3 (j8 u60 wj0 (w6 3) O9)
   (v5 (T8 (G8 2 (o7 (w6 3) p6)))
   (v5 (n6 (nm0 (u20 hr) (w6 0) (o7 (w6 3) p6)) (o6 3 xn0.nd))
   p7)))
   (v5 (kg0 (g70 T.b_list T.b_reversed (w6 2)))
   p7))))) (λds d h=>yw0 h)
theorem oq0:FnScope ["both"] ["both"] (o4 (top 9)):=⟨rfl,rfl,rfl,by decide +kernel,rfl,by decide +kernel,by decide +kernel⟩
theorem qn0(F:Fun K "are_links" "are_links" (top 9) fa fd)(T:Txt mg)  : FnOk P w K mg base CX0 1 fa fd ["both"] (spD K V3) :=
 okD (k:=0) (G:=uh0) F oq0 (λJ A outer s H E hr=>(v5 (j6 (qq0 (zb0 zl0 b_tuple T.b_isinstance T.b_tuple (o7 (w6 0) p6)) (qo0 (zb0 zl0 b_tuple T.b_isinstance T.b_tuple (o7 (w6 0) p6)))))
   p7)) (λds d h=>V1 h)
theorem s90:FnScope ["both"] ["both"] (o4 (top 10)):=⟨rfl,rfl,rfl,by decide +kernel,rfl,by decide +kernel,by decide +kernel⟩
theorem sf0(F:Fun K "linked_pair" "linked_pair" (top 10) fa fd)(T:Txt mg)  : FnOk P w K mg base CX0 1 fa fd ["both"] (spD K Z3) :=
 okD (k:=0) (G:=wt0) F s90 (λJ A outer s H E hr=>(v5 (j6 (Y7 (v4 (o7 (o7 (w6 0) p6) p6) (v4 (o7 (o7 (w6 0) p6) p6) u9))))
   p7)) (λds d h=>V1 h)
theorem xw0:FnScope ["one", "other", "both", "pair"] ["one", "other", "both"] (o4 (top 11)):=⟨rfl,rfl,rfl,by decide +kernel,rfl,by decide +kernel,by decide +kernel⟩
theorem s00(F:Fun K "are_parting" "are_parting" (top 11) fa fd)(T:Txt mg)(C_are_links:FnD P w K mg base "are_links" 1 ["both"] V3)(C_head:FnD P w K mg base "head" 2 ["part"] Q7)(C_linked_pair:FnD P w K mg base "linked_pair" 1 ["both"] Z3):FnOk P w K mg base CX0 3 fa fd ["one", "other", "both"] (spD K U3) :=
 okD (k:=2) (G:=ws0) F xw0 (λJ A outer s H E hr=>(v5 (d7 (N8 (Z1 C_are_links hr (by decide) (v4 (w6 2) u9)))
   (v5 (n6 (Z1 C_linked_pair hr (by decide) (v4 (w6 2) u9)) (o6 3 xw0.nd))
   (v5 (j6 (yv0 (yy0 hr.units) y20 (Z1 C_head hr (by decide) (v4 (o7 (w6 0) (o7 (w6 3) p6)) u9)) (Z1 C_head hr (by decide) (v4 (o7 (w6 1) (o7 (w6 3) p6)) u9))))
   p7))
   p7)
   (v5 (j6 (yv0 (yy0 hr.units) y20 (o7 (w6 2) p6) (o7 (w6 2) p6)))
   p7))) (λds d h=>V1 h)
theorem t00:FnScope ["_law_script", "_law_k"] ["_law_script", "_law_k"] (o4 (top 13)):=⟨rfl,rfl,rfl,by decide +kernel,rfl,by decide +kernel,by decide +kernel⟩
theorem t60(F:Fun K "_law_cell_at" "_law_cell_at" (top 13) fa fd)(T:Txt mg)  : FnOk P w K mg base CX0 1 fa fd ["_law_script", "_law_k"] (spD K o9) :=
 okD (k:=0) (G:=w60) F t00 (λJ A outer s H E hr=>(v5 (d7 (j8 wf0 yq0 (w6 1) (S6 T.b_len (v4 (w6 0) u9)))
   (v5 (j6 (o7 (w6 0) (w6 1)))
   p7)
   p7)
   (v5 (j6 p6)
   p7))) (λds d h=>V1 h)
theorem W5:FnScope ["_law_cell", "_law_turn", "_law_signs", "_law_size", "_law_places", "_law_k", "_law_word", "_law_at", "_law_found", "_law_sign"] ["_law_cell", "_law_turn"] (o4 (top 14)):=⟨rfl,rfl,rfl,by decide +kernel,rfl,by decide +kernel,by decide +kernel⟩
theorem p90(F:Fun K "_law_pool" "_law_pool" (top 14) fa fd)(T:Txt mg)  : FnOk P w K mg base CX0 1 fa fd ["_law_cell", "_law_turn"] (spN K J8) :=
 okN (k:=0) (G:=ui0) F W5 (λJ A outer s H E hr=>(v5 (n6 Y4 (o6 2 W5.nd))
   (v5 (n6 (Z5 p6 (Z0 (w6 0) p6)) (o6 3 W5.nd))
   (v5 (n6 (X6 (w6 0) p6) (o6 0 W5.nd))
   (v5 (S8 4 (Q3 u9) W5.nd)
   (v5 (S9 C3 rfl (T7 T.b_range (v4 (w6 3) u9)) (o6 5 W5.nd)
   (v5 (T8 (G8 4 (Z0 (w6 0) p6)))
   (v5 (n6 (X6 (w6 0) p6) (o6 0 W5.nd))
   p7)))
   (v5 (n6 (xy0 (fx0 Y4 (v4 (w80 (sc:=o4 (top 14)) (N:=["_law_cell", "_law_turn", "_law_signs", "_law_size", "_law_places", "_law_k", "_law_word", "_law_at", "_law_found", "_law_sign"]) (N':=["_law_k", "_law_signs"]) (n:=1) (caps:=[2]) ⟨rfl,by decide +kernel,by decide +kernel,by decide +kernel,by decide +kernel,rfl,by decide +kernel⟩ (by decide) (y60 (w6 4)) (λcl s H ex=>o6 0 (by decide +kernel:(["_law_k", "_law_signs"]:List Str).Nodup)) (λcl s H ex=>z50) (λcl s H ex=>(o7 (w6 1) (w6 0)))) u9))) (o6 6 W5.nd))
   (v5 (d7 (j8 P0 T6 (Z0 (X6 (w6 1) p6) p6) p6)
   (v5 (O6 (we0 (sc:=o4 (top 14)) (N:=["_law_cell", "_law_turn", "_law_signs", "_law_size", "_law_places", "_law_k", "_law_word", "_law_at", "_law_found", "_law_sign"]) (N':=["_law_k", "_law_word"]) (n:=1) (caps:=[6]) ⟨rfl,by decide +kernel,by decide +kernel,by decide +kernel,by decide +kernel,rfl,by decide +kernel⟩ (by decide) (me0 T.b_range (v4 p6 (v4 p6 u9))) (λcl s H ex=>o6 0 (by decide +kernel:(["_law_k", "_law_word"]:List Str).Nodup)) (λcl s H ex=>z50) (λcl s H ex=>(J0 (ef0 p6 (w6 1)) ze0 (J1 (w6 0))))))
   p7)
   p7)
   (v5 (n6 (Z0 (w6 1) (w6 3)) (o6 7 W5.nd))
   (v5 (S8 8 (Q3 u9) W5.nd)
   (v5 (S9 C3 rfl (T7 T.b_range (v4 p6 u9)) (o6 5 W5.nd)
   (v5 (n6 (o7 (w6 2) (Z0 (Z5 (xy0 (o7 (w6 4) (w6 7))) (O3 p6 (w6 5))) p6)) (o6 9 W5.nd))
   (v5 (T8 (G8 8 (Z5 (Z5 (J0 (w6 6) ze0 (J1 (w6 7))) (w6 9)) (J0 (w6 6) (J1 (Z5 (w6 7) p6)) ze0))))
   p7)))
   (v5 (qk0 8)
   p7)))))))))))) (λds d h=>yw0 h)
theorem oy0:FnScope ["_law_cell", "_law_k"] ["_law_cell", "_law_k"] (o4 (top 15)):=⟨rfl,rfl,rfl,by decide +kernel,rfl,by decide +kernel,by decide +kernel⟩
theorem n60(F:Fun K "_law_mix" "_law_mix" (top 15) fa fd)(T:Txt mg)  : FnOk P w K mg base CX0 1 fa fd ["_law_cell", "_law_k"] (spD K X4) :=
 okD (k:=0) (G:=t40) F oy0 (λJ A outer s H E hr=>(v5 (j6 (Z0 (O3 (Z5 (Z0 (w6 0) p6) p6) (Z5 p6 (O3 p6 (w6 1)))) p6))
   p7)) (λds d h=>V1 h)
theorem wp0:FnScope ["_law_number", "_law_many", "_law_kind"] ["_law_number", "_law_many"] (o4 (top 16)):=⟨rfl,rfl,rfl,by decide +kernel,rfl,by decide +kernel,by decide +kernel⟩
theorem q00(F:Fun K "_law_value" "_law_value" (top 16) fa fd)(T:Txt mg)  : FnOk P w K mg base CX0 1 fa fd ["_law_number", "_law_many"] (spD K U8) :=
 okD (k:=0) (G:=vs0) F wp0 (λJ A outer s H E hr=>(v5 (n6 (Z0 (w6 0) p6) (o6 2 wp0.nd))
   (v5 (d7 (j8 wf0 yq0 (w6 2) p6)
   (v5 (j6 (Y7 (v4 Y4 (v4 (Z0 (X6 (w6 0) p6) (w6 1)) u9))))
   p7)
   p7)
   (v5 (d7 (j8 P0 T6 (w6 2) p6)
   (v5 (j6 O9)
   p7)
   p7)
   (v5 (d7 (j8 wf0 yq0 (w6 2) p6)
   (v5 (j6 (j90 (Z0 (X6 (w6 0) p6) p6) p6))
   p7)
   p7)
   (v5 (j6 (O3 (Z0 (lq0 (X6 (w6 0) p6) p6) (lq0 p6 p6)) (j90 p6 (O3 p6 (Z0 (X6 (w6 0) p6) p6)))))
   p7)))))) (λds d h=>V1 h)
theorem z40:FnScope ["_law_number", "_law_count", "_law_many", "_law_found", "_law_k"] ["_law_number", "_law_count", "_law_many"] (o4 (top 17)):=⟨rfl,rfl,rfl,by decide +kernel,rfl,by decide +kernel,by decide +kernel⟩
theorem si0(F:Fun K "_law_values" "_law_values" (top 17) fa fd)(T:Txt mg)(C__law_value:FnD P w K mg base "_law_value" 1 ["_law_number", "_law_many"] U8):FnOk P w K mg base CX0 2 fa fd ["_law_number", "_law_count", "_law_many"] (spN K M6) :=
 okN (k:=1) (G:=wv0) F z40 (λJ A outer s H E hr=>(v5 (S8 3 (Q3 u9) z40.nd)
   (v5 (S9 C3 rfl (T7 T.b_range (v4 (w6 1) u9)) (o6 4 z40.nd)
   (v5 (n6 (Z0 (O3 (w6 0) p6) p6) (o6 0 z40.nd))
   (v5 (T8 (G8 3 (Z1 C__law_value hr (by decide) (v4 (w6 0) (v4 (w6 2) u9)))))
   p7)))
   (v5 (qk0 3)
   p7)))) (λds d h=>yw0 h)
theorem zy0:FnScope ["_law_number", "_law_some", "_law_pool_here", "_law_kind", "_law_start", "_law_pairs"] ["_law_number", "_law_some", "_law_pool_here"] (o4 (top 18)):=⟨rfl,rfl,rfl,by decide +kernel,rfl,by decide +kernel,by decide +kernel⟩
theorem qg0(F:Fun K "_law_part" "_law_part" (top 18) fa fd)(T:Txt mg)  : FnOk P w K mg base CX0 1 fa fd ["_law_number", "_law_some", "_law_pool_here"] (spD K G3) :=
 okD (k:=0) (G:=ua0) F zy0 (λJ A outer s H E hr=>(v5 (n6 (Z0 (w6 0) p6) (o6 3 zy0.nd))
   (v5 (d7 (j8 P0 T6 (w6 3) p6)
   (v5 (j6 (Y7 (v4 Y4 (v4 (o7 (zn0 (v4 Y4 (v4 Y4 (v4 Y4 (v4 (Z5 (o7 (w6 2) p6) Y4) u9))))) (Z0 (X6 (w6 0) p6) p6)) u9))))
   p7)
   p7)
   (v5 (d7 (j8 wf0 yq0 (w6 3) p6)
   (v5 (j6 (Y7 (v4 Y4 (v4 (U5 V4 za0 T.b_tuple b_tuple (v4 (w6 1) u9)) u9))))
   p7)
   p7)
   (v5 (n6 (O3 (Z0 (X6 (w6 0) p6) p6) p6) (o6 4 zy0.nd))
   (v5 (n6 (U5 V4 za0 T.b_tuple b_tuple (v4 (w80 (sc:=o4 (top 18)) (N:=["_law_number", "_law_some", "_law_pool_here", "_law_kind", "_law_start", "_law_pairs"]) (N':=["_law_k", "_law_some", "_law_pool_here", "_law_start"]) (n:=1) (caps:=[1,2,4]) ⟨rfl,by decide +kernel,by decide +kernel,by decide +kernel,by decide +kernel,rfl,by decide +kernel⟩ (by decide) (T7 T.b_range (v4 (S6 T.b_len (v4 (w6 1) u9)) u9)) (λcl s H ex=>o6 0 (by decide +kernel:(["_law_k", "_law_some", "_law_pool_here", "_law_start"]:List Str).Nodup)) (λcl s H ex=>z50) (λcl s H ex=>(Y7 (v4 (o7 (w6 2) (Z0 (Z5 (w6 3) (w6 0)) p6)) (v4 (o7 (w6 1) (w6 0)) u9))))) u9)) (o6 5 zy0.nd))
   (v5 (d7 (j8 wf0 yq0 (w6 3) p6)
   (v5 (j6 (Y7 (v4 Y4 (v4 (w6 5) u9))))
   p7)
   p7)
   (v5 (j6 (Y7 (v4 Y4 (v4 (o7 (w6 2) (Z0 (X6 (w6 0) p6) p6)) (v4 (w6 5) u9)))))
   p7)))))))) (λds d h=>V1 h)
theorem M9:FnScope ["_law_cells", "_law_many", "_law_pool_here", "_law_parts", "_law_k", "_law_number", "_law_count", "_law_some"] ["_law_cells", "_law_many", "_law_pool_here"] (o4 (top 19)):=⟨rfl,rfl,rfl,by decide +kernel,rfl,by decide +kernel,by decide +kernel⟩
theorem ot0(F:Fun K "_law_web" "_law_web" (top 19) fa fd)(T:Txt mg)(C__law_mix:FnD P w K mg base "_law_mix" 1 ["_law_cell", "_law_k"] X4)(C__law_part:FnD P w K mg base "_law_part" 1 ["_law_number", "_law_some", "_law_pool_here"] G3)(C__law_values:FnN P w K mg base "_law_values" 2 ["_law_number", "_law_count", "_law_many"] M6):FnOk P w K mg base CX0 3 fa fd ["_law_cells", "_law_many", "_law_pool_here"] (spD K z60) :=
 okD (k:=2) (G:=tc0) F M9 (λJ A outer s H E hr=>(v5 (S8 3 (Q3 u9) M9.nd)
   (v5 (S9 C3 rfl (T7 T.b_range (v4 (w6 1) u9)) (o6 4 M9.nd)
   (v5 (n6 (Z1 C__law_mix hr (by decide) (v4 (Z5 (o7 (w6 0) (Z0 (w6 4) (S6 T.b_len (v4 (w6 0) u9)))) (O3 (w6 4) (X6 (w6 4) (S6 T.b_len (v4 (w6 0) u9))))) (v4 (w6 4) u9))) (o6 5 M9.nd))
   (v5 (n6 (o7 (zn0 (v4 p6 (v4 p6 (v4 p6 (v4 p6 (v4 p6 (v4 p6 (v4 p6 (v4 p6 u9))))))))) (Z0 (X6 (w6 5) p6) p6)) (o6 6 M9.nd))
   (v5 (d7 (j8 P0 T6 (Z0 (X6 (w6 5) p6) p6) p6)
   (v5 (n6 (o7 (zn0 (v4 p6 (v4 p6 u9))) (U5 rb0 j40 T.b_int b_int (v4 (yv0 wf0 yq0 (Z0 (w6 5) p6) p6) u9))) (o6 6 M9.nd))
   p7)
   p7)
   (v5 (n6 (z90 C__law_values hr (by decide) (v4 (Z5 (X6 (w6 5) p6) p6) (v4 (w6 6) (v4 (w6 1) u9)))) (o6 7 M9.nd))
   (v5 (T8 (G8 3 (Z1 C__law_part hr (by decide) (v4 (w6 5) (v4 (w6 7) (v4 (w6 2) u9))))))
   p7))))))
   (v5 (K3 (U5 V4 za0 T.b_tuple b_tuple (v4 (w6 3) u9)))
   p7)))) (λds d h=>V1 h)
theorem oo0:FnScope ["_law_part_here"] ["_law_part_here"] (o4 (top 20)):=⟨rfl,rfl,rfl,by decide +kernel,rfl,by decide +kernel,by decide +kernel⟩
theorem ph0(F:Fun K "_law_vals" "_law_vals" (top 20) fa fd)(T:Txt mg)  : FnOk P w K mg base CX0 1 fa fd ["_law_part_here"] (spN K Z9) :=
 okN (k:=0) (G:=uc0) F oo0 (λJ A outer s H E hr=>(v5 (d7 (j8 P0 T6 (o7 (w6 0) p6) Y4)
   (v5 (O6 (Q3 u9))
   p7)
   p7)
   (v5 (d7 (j8 P0 T6 (o7 (w6 0) p6) Y4)
   (v5 (O6 (pw0 T.b_list b_list (o7 (w6 0) p6)))
   p7)
   p7)
   (v5 (O6 (we0 (sc:=o4 (top 20)) (N:=["_law_part_here"]) (N':=["_law_name", "_law_value_here"]) (n:=2) (caps:=[]) ⟨rfl,by decide +kernel,by decide +kernel,by decide +kernel,by decide +kernel,rfl,by decide +kernel⟩ (by decide) (w90 (o7 (w6 0) (xd0 p6))) (λcl s H ex=>wo0 0 1 (by decide +kernel:(["_law_name", "_law_value_here"]:List Str).Nodup) (by decide)) (λcl s H ex=>z50) (λcl s H ex=>(w6 1))))
   p7)))) (λds d h=>yw0 h)
theorem p10:FnScope ["_law_part_here"] ["_law_part_here"] (o4 (top 21)):=⟨rfl,rfl,rfl,by decide +kernel,rfl,by decide +kernel,by decide +kernel⟩
theorem p80(F:Fun K "_law_head" "_law_head" (top 21) fa fd)(T:Txt mg)  : FnOk P w K mg base CX0 1 fa fd ["_law_part_here"] (spD K O1) :=
 okD (k:=0) (G:=uj0) F p10 (λJ A outer s H E hr=>(v5 (d7 (j8 P0 T6 (o7 (w6 0) p6) Y4)
   (v5 (j6 (Y7 (v4 Y4 (v4 (S6 T.b_len (v4 (o7 (w6 0) p6) u9)) u9))))
   p7)
   p7)
   (v5 (d7 (j8 P0 T6 (o7 (w6 0) p6) Y4)
   (v5 (j6 (w6 0))
   p7)
   p7)
   (v5 (j6 (Z5 (J0 (w6 0) ze0 (J1 (xd0 p6))) (Y7 (v4 (U5 V4 za0 T.b_tuple b_tuple (v4 (w80 (sc:=o4 (top 21)) (N:=["_law_part_here"]) (N':=["_law_name", "_law_value_here"]) (n:=2) (caps:=[]) ⟨rfl,by decide +kernel,by decide +kernel,by decide +kernel,by decide +kernel,rfl,by decide +kernel⟩ (by decide) (w90 (o7 (w6 0) (xd0 p6))) (λcl s H ex=>wo0 0 1 (by decide +kernel:(["_law_name", "_law_value_here"]:List Str).Nodup) (by decide)) (λcl s H ex=>z50) (λcl s H ex=>(w6 0))) u9)) u9))))
   p7)))) (λds d h=>V1 h)
theorem pu0:FnScope ["_law_part_here", "_law_some"] ["_law_part_here", "_law_some"] (o4 (top 22)):=⟨rfl,rfl,rfl,by decide +kernel,rfl,by decide +kernel,by decide +kernel⟩
theorem pi0(F:Fun K "_law_with" "_law_with" (top 22) fa fd)(T:Txt mg)  : FnOk P w K mg base CX0 1 fa fd ["_law_part_here", "_law_some"] (spD K V2) :=
 okD (k:=0) (G:=uf0) F pu0 (λJ A outer s H E hr=>(v5 (d7 (j8 P0 T6 (o7 (w6 0) p6) Y4)
   (v5 (j6 (w6 0))
   p7)
   p7)
   (v5 (d7 (j8 P0 T6 (o7 (w6 0) p6) Y4)
   (v5 (j6 (Y7 (v4 Y4 (v4 (U5 V4 za0 T.b_tuple b_tuple (v4 (w6 1) u9)) u9))))
   p7)
   p7)
   (v5 (j6 (Z5 (J0 (w6 0) ze0 (J1 (xd0 p6))) (Y7 (v4 (U5 V4 za0 T.b_tuple b_tuple (v4 (w80 (sc:=o4 (top 22)) (N:=["_law_part_here", "_law_some"]) (N':=["_law_k", "_law_part_here", "_law_some"]) (n:=1) (caps:=[0,1]) ⟨rfl,by decide +kernel,by decide +kernel,by decide +kernel,by decide +kernel,rfl,by decide +kernel⟩ (by decide) (T7 T.b_range (v4 (S6 T.b_len (v4 (w6 1) u9)) u9)) (λcl s H ex=>o6 0 (by decide +kernel:(["_law_k", "_law_part_here", "_law_some"]:List Str).Nodup)) (λcl s H ex=>z50) (λcl s H ex=>(Y7 (v4 (o7 (o7 (o7 (w6 1) (xd0 p6)) (w6 0)) p6) (v4 (o7 (w6 2) (w6 0)) u9))))) u9)) u9))))
   p7)))) (λds d h=>V1 h)
theorem V6:FnScope ["_law_web_here", "_law_times", "_law_cell", "_law_parts", "_law_k", "_law_turn", "_law_some", "_law_number", "_law_value_here"] ["_law_web_here", "_law_times", "_law_cell"] (o4 (top 24)):=⟨rfl,rfl,rfl,by decide +kernel,rfl,by decide +kernel,by decide +kernel⟩
theorem tt0(F:Fun K "_law_unfold" "_law_unfold" (top 24) fa fd)(T:Txt mg)(C__law_mix:FnD P w K mg base "_law_mix" 1 ["_law_cell", "_law_k"] X4)(C__law_vals:FnN P w K mg base "_law_vals" 1 ["_law_part_here"] Z9)(C__law_with:FnD P w K mg base "_law_with" 1 ["_law_part_here", "_law_some"] V2):FnOk P w K mg base CX0 2 fa fd ["_law_web_here", "_law_times", "_law_cell"] (spD K M4) :=
 okD (k:=1) (G:=wu0) F V6 (λJ A outer s H E hr=>(v5 (S8 3 (Q3 u9) V6.nd)
   (v5 (S9 C3 rfl (T7 T.b_range (v4 (S6 T.b_len (v4 (w6 0) u9)) u9)) (o6 4 V6.nd)
   (v5 (S9 C3 rfl (T7 T.b_range (v4 (w6 1) u9)) (o6 5 V6.nd)
   (v5 (S8 6 (Q3 u9) V6.nd)
   (v5 (n6 (Z1 C__law_mix hr (by decide) (v4 (Z5 (w6 2) (O3 (w6 5) (w6 5))) (v4 (Z5 (w6 4) p6) u9))) (o6 7 V6.nd))
   (v5 (S9 C3 rfl (y60 (z90 C__law_vals hr (by decide) (v4 (o7 (w6 0) (w6 4)) u9))) (o6 8 V6.nd)
   (v5 (n6 (Z0 (O3 (w6 7) p6) p6) (o6 7 V6.nd))
   (v5 (d7 (N8 (zb0 zl0 b_tuple T.b_isinstance T.b_tuple (w6 8)))
   (v5 (n6 (Y7 (v4 Y4 (v4 (Z5 (O3 (o7 (w6 8) p6) (w6 1)) (Z0 (w6 7) (w6 1))) u9))) (o6 8 V6.nd))
   p7)
   p7)
   (v5 (T8 (G8 6 (w6 8)))
   p7))))
   (v5 (T8 (G8 3 (sj0 (Z1 C__law_with hr (by decide) (v4 (o7 (w6 0) (w6 4)) (v4 (w6 6) u9))))))
   p7)))))
   p7))
   (v5 (K3 (U5 V4 za0 T.b_tuple b_tuple (v4 (w6 3) u9)))
   p7)))) (λds d h=>V1 h)
theorem zc0:FnScope ["_law_script", "_law_most", "_law_pool_here", "_law_turn", "_law_many"] ["_law_script", "_law_most"] (o4 (top 25)):=⟨rfl,rfl,rfl,by decide +kernel,rfl,by decide +kernel,by decide +kernel⟩
theorem q20(F:Fun K "_law_small" "_law_small" (top 25) fa fd)(T:Txt mg)(C__law_cell_at:FnD P w K mg base "_law_cell_at" 1 ["_law_script", "_law_k"] o9)(C__law_pool:FnN P w K mg base "_law_pool" 1 ["_law_cell", "_law_turn"] J8)(C__law_web:FnD P w K mg base "_law_web" 3 ["_law_cells", "_law_many", "_law_pool_here"] z60):FnOk P w K mg base CX0 4 fa fd ["_law_script", "_law_most"] (spD K K8) :=
 okD (k:=3) (G:=vo0) F zc0 (λJ A outer s H E hr=>(v5 (n6 (z90 C__law_pool hr (by decide) (v4 (Z1 C__law_cell_at hr (by decide) (v4 (w6 0) (v4 p6 u9))) (v4 (Z1 C__law_cell_at hr (by decide) (v4 (w6 0) (v4 p6 u9))) u9))) (o6 2 zc0.nd))
   (v5 (n6 (Z1 C__law_cell_at hr (by decide) (v4 (w6 0) (v4 p6 u9))) (o6 3 zc0.nd))
   (v5 (n6 (Z5 p6 (Z0 (w6 3) (w6 1))) (o6 4 zc0.nd))
   (v5 (j6 (Z1 C__law_web hr (by decide) (v4 (Z5 (J0 (w6 0) (J1 p6) (J1 p6)) (zn0 (v4 (Z1 C__law_cell_at hr (by decide) (v4 (w6 0) (v4 p6 u9))) u9))) (v4 (w6 4) (v4 (w6 2) u9)))))
   p7))))) (λds d h=>V1 h)
theorem G4:FnScope ["_law_web_here", "_law_cell", "_law_k", "_law_some", "_law_at"] ["_law_web_here", "_law_cell"] (o4 (top 26)):=⟨rfl,rfl,rfl,by decide +kernel,rfl,by decide +kernel,by decide +kernel⟩
theorem tg0(F:Fun K "_law_changed" "_law_changed" (top 26) fa fd)(T:Txt mg)(C__law_vals:FnN P w K mg base "_law_vals" 1 ["_law_part_here"] Z9)(C__law_value:FnD P w K mg base "_law_value" 1 ["_law_number", "_law_many"] U8)(C__law_with:FnD P w K mg base "_law_with" 1 ["_law_part_here", "_law_some"] V2):FnOk P w K mg base CX0 2 fa fd ["_law_web_here", "_law_cell"] (spD K R3) :=
 okD (k:=1) (G:=xx0) F G4 (λJ A outer s H E hr=>(v5 (n6 (Z0 (w6 1) (S6 T.b_len (v4 (w6 0) u9))) (o6 2 G4.nd))
   (v5 (S8 3 (o60 C__law_vals hr (by decide) (v4 (o7 (w6 0) (w6 2)) u9)) G4.nd)
   (v5 (d7 (vx0 (j8 (vp0 hr.units) xv0 (w6 3) (zn0 u9)))
   (v5 (j6 (w6 0))
   p7)
   p7)
   (v5 (n6 (Z0 (X6 (w6 1) p6) (xy0 (S6 T.b_len (v4 (w6 3) u9)))) (o6 4 G4.nd))
   (v5 (wn0 (se0 (Z1 C__law_value hr (by decide) (v4 (Z0 (X6 (w6 1) p6) p6) (v4 (S6 T.b_len (v4 (w6 0) u9)) u9)))) (ev0 3 (w6 4)))
   (v5 (K3 (Z5 (Z5 (J0 (w6 0) ze0 (J1 (w6 2))) (Y7 (v4 (Z1 C__law_with hr (by decide) (v4 (o7 (w6 0) (w6 2)) (v4 (w6 3) u9))) u9))) (J0 (w6 0) (J1 (Z5 (w6 2) p6)) ze0)))
   p7))))))) (λds d h=>V1 h)
theorem J3:FnScope ["_law_one", "_law_other", "_law_pair", "_law_found", "_law_first", "_law_second", "_law_k"] ["_law_one", "_law_other", "_law_pair"] (o4 (top 27)):=⟨rfl,rfl,rfl,by decide +kernel,rfl,by decide +kernel,by decide +kernel⟩
theorem rr0(F:Fun K "_law_go_on" "_law_go_on" (top 27) fa fd)(T:Txt mg)(C__law_head:FnD P w K mg base "_law_head" 1 ["_law_part_here"] O1)(C__law_vals:FnN P w K mg base "_law_vals" 1 ["_law_part_here"] Z9):FnOk P w K mg base CX0 2 fa fd ["_law_one", "_law_other", "_law_pair"] (spD K W6) :=
 okD (k:=1) (G:=vi0) F J3 (λJ A outer s H E hr=>(v5 (S8 3 (Q3 u9) J3.nd)
   (v5 (n6 (z90 C__law_vals hr (by decide) (v4 (o7 (w6 0) (o7 (w6 2) p6)) u9)) (o6 4 J3.nd))
   (v5 (n6 (z90 C__law_vals hr (by decide) (v4 (o7 (w6 1) (o7 (w6 2) p6)) u9)) (o6 5 J3.nd))
   (v5 (d7 (j8 (yy0 hr.units) y20 (Z1 C__law_head hr (by decide) (v4 (o7 (w6 0) (o7 (w6 2) p6)) u9)) (Z1 C__law_head hr (by decide) (v4 (o7 (w6 1) (o7 (w6 2) p6)) u9)))
   (v5 (j6 O9)
   p7)
   p7)
   (v5 (S9 C3 rfl (T7 T.b_range (v4 (S6 T.b_len (v4 (w6 4) u9)) u9)) (o6 6 J3.nd)
   (v5 (d7 (PWD.pt (s60 (N8 (zb0 zl0 b_tuple T.b_isinstance T.b_tuple (o7 (w6 4) (w6 6)))) (ul0 (N8 (zb0 zl0 b_tuple T.b_isinstance T.b_tuple (o7 (w6 5) (w6 6)))))))
   (v5 (T8 (G8 3 (Y7 (v4 (o7 (o7 (w6 4) (w6 6)) p6) (v4 (o7 (o7 (w6 5) (w6 6)) p6) u9)))))
   p7)
   (v5 (d7 (j8 (yy0 hr.units) y20 (o7 (w6 4) (w6 6)) (o7 (w6 5) (w6 6)))
   (v5 (j6 O9)
   p7)
   p7)
   p7))
   p7))
   (v5 (K3 (w6 3))
   p7))))))) (λds d h=>V1 h)
theorem G6:FnScope ["_law_one", "_law_other", "_law_pair", "_law_known", "_law_waiting", "_law_more", "_law_fresh"] ["_law_one", "_law_other", "_law_pair"] (o4 (top 28)):=⟨rfl,rfl,rfl,by decide +kernel,rfl,by decide +kernel,by decide +kernel⟩
theorem qw0(F:Fun K "_law_shut" "_law_shut" (top 28) fa fd)(T:Txt mg)(C__law_go_on:FnD P w K mg base "_law_go_on" 2 ["_law_one", "_law_other", "_law_pair"] W6):FnOk P w K mg base CX0 3 fa fd ["_law_one", "_law_other", "_law_pair"] (spD K O2) :=
 okD (k:=2) (G:=ug0) F G6 (λJ A outer s H E hr=>(v5 (S8 3 (rf0 (w8 (D7 _ 64) hr.units) (w6 2) xk0) G6.nd)
   (v5 (S8 4 (Q3 (v4 (w6 2) u9)) G6.nd)
   (v5 (vn0 100000 C3 (j8 gr0 lu0 (xy0 (S6 T.b_len (v4 (w6 4) u9))) p6)
   (v5 (wn0 (fk0 0 1 C__law_go_on hr (by decide) (cf0 4)) (ba0 (o6 5 G6.nd)))
   (v5 (d7 (j8 py0 tx0 (w6 5) O9)
   (v5 (j6 O9)
   p7)
   p7)
   (v5 (S9 C3 rfl (y60 (w6 5)) (o6 6 G6.nd)
   (v5 (d7 (vx0 (pk0 (u20 hr) (w6 6) (w6 3)))
   (v5 (wn0 (se0 xk0) (ql0 3 (u20 hr) (w6 6)))
   (v5 (T8 (G8 4 (w6 6)))
   p7))
   p7)
   p7))
   p7))))
   (v5 (K3 (PDF.pd (so0 T.b_sorted b_sorted (U5 (li0 rfl) ik0 T.b_list b_list (v4 (w6 3) u9)))))
   p7))))) (λds d h=>V1 h)
theorem zf0:FnScope ["_law_found", "_law_pair", "_law_number"] ["_law_found"] (o4 (top 29)):=⟨rfl,rfl,rfl,by decide +kernel,rfl,by decide +kernel,by decide +kernel⟩
theorem uw0(F:Fun K "_law_is_table" "_law_is_table" (top 29) fa fd)(T:Txt mg)  : FnOk P w K mg base CX0 1 fa fd ["_law_found"] (spD K T4) :=
 okD (k:=0) (G:=xi0) F zf0 (λJ A outer s H E hr=>(v5 (d7 (xz0 (N8 (zb0 om0 b_list T.b_isinstance T.b_list (w6 0))))
   (v5 (j6 xk0)
   p7)
   p7)
   (v5 (S9 C3 rfl (y60 (w6 0)) (o6 1 zf0.nd)
   (v5 (d7 (PWD.pt (vg0 (xz0 (N8 (zb0 zl0 b_tuple T.b_isinstance T.b_tuple (w6 1)))) (u00 (j8 Z70 b80 (S6 T.b_len (v4 (w6 1) u9)) p6))))
   (v5 (j6 xk0)
   p7)
   p7)
   (v5 (S9 C3 rfl (w90 (w6 1)) (o6 2 zf0.nd)
   (v5 (d7 (PWD.pt (vg0 (xz0 (N8 (zb0 d30 b_int T.b_isinstance T.b_int (w6 2)))) (u00 (N8 (zb0 i80 b_bool T.b_isinstance T.b_bool (w6 2))))))
   (v5 (j6 xk0)
   p7)
   p7)
   p7))
   p7)))
   (v5 (j6 xk0)
   p7)))) (λds d h=>V1 h)
theorem N7:FnScope ["_law_web_here", "_law_p", "_law_q", "_law_due", "_law_found", "_law_way", "_law_back"] ["_law_web_here", "_law_p", "_law_q"] (o4 (top 30)):=⟨rfl,rfl,rfl,by decide +kernel,rfl,by decide +kernel,by decide +kernel⟩
theorem rp0(F:Fun K "_law_asked" "_law_asked" (top 30) fa fd)(T:Txt mg)(C__law_is_table:FnD P w K mg base "_law_is_table" 1 ["_law_found"] T4)(C__law_shut:FnD P w K mg base "_law_shut" 3 ["_law_one", "_law_other", "_law_pair"] O2)(C_look_table:FnD P w K mg base "look_table" 5 ["web", "p", "q"] U9)(C_look_table__n:FnN P w K mg base "look_table" 5 ["web", "p", "q"] W8)(C_parting_way:FnD P w K mg base "parting_way" 5 ["web", "p", "q"] M5):FnOk P w K mg base CX0 6 fa fd ["_law_web_here", "_law_p", "_law_q"] (spD K R8) :=
 okD (k:=5) (G:=vr0) F N7 (λJ A outer s H E hr=>(v5 (n6 (Z1 C__law_shut hr (by decide) (v4 (w6 0) (v4 (w6 0) (v4 (Y7 (v4 (w6 1) (v4 (w6 2) u9))) u9)))) (o6 3 N7.nd))
   (v5 (bb0 (S8 4 (o60 C_look_table__n hr (by decide) (v4 (w6 0) (v4 (w6 1) (v4 (w6 2) u9)))) N7.nd) (n6 (Z1 C_look_table hr (by decide) (v4 (w6 0) (v4 (w6 1) (v4 (w6 2) u9)))) (o6 4 N7.nd)))
   (v5 (n6 (Z1 C_parting_way hr (by decide) (v4 (w6 0) (v4 (w6 1) (v4 (w6 2) u9)))) (o6 5 N7.nd))
   (v5 (d7 (j8 py0 tx0 (w6 3) O9)
   (v5 (K3 (qq0 (yv0 py0 tx0 (w6 4) O9) (qo0 (zb0 om0 b_list T.b_isinstance T.b_list (w6 5)))))
   p7)
   p7)
   (v5 (d7 (PWD.pt (vg0 (j8 u60 wj0 (w6 5) O9) (vg0 (xz0 (N8 (sj0 (Z1 C__law_is_table hr (by decide) (v4 (w6 4) u9))))) (u00 (vx0 (j8 (yy0 hr.units) y20 (w6 4) (w6 3)))))))
   (v5 (j6 xk0)
   p7)
   p7)
   (v5 (T8 (i40 4))
   (v5 (n6 (Z1 C_look_table hr (by decide) (v4 (w6 0) (v4 (w6 2) (v4 (w6 1) u9)))) (o6 6 N7.nd))
   (v5 (j6 (qq0 (yv0 (vp0 hr.units) xv0 (w6 6) (PDF.pd (so0 T.b_sorted b_sorted (w80 (sc:=o4 (top 30)) (N:=["_law_web_here", "_law_p", "_law_q", "_law_due", "_law_found", "_law_way", "_law_back"]) (N':=["_law_j", "_law_k"]) (n:=2) (caps:=[]) ⟨rfl,by decide +kernel,by decide +kernel,by decide +kernel,by decide +kernel,rfl,by decide +kernel⟩ (by decide) (y60 (w6 3)) (λcl s H ex=>wo0 0 1 (by decide +kernel:(["_law_j", "_law_k"]:List Str).Nodup) (by decide)) (λcl s H ex=>z50) (λcl s H ex=>(Y7 (v4 (w6 1) (v4 (w6 0) u9)))))))) (qo0 (yv0 (vp0 hr.units) xv0 (Z1 C_look_table hr (by decide) (v4 (w6 0) (v4 (w6 1) (v4 (w6 2) u9)))) (w6 3)))))
   p7))))))))) (λds d h=>V1 h)
theorem T9:FnScope ["_law_cell", "_law_spare", "_law_sizes", "_law_odd", "_law_parts", "_law_size", "_law_start", "_law_k"] ["_law_cell", "_law_spare"] (o4 (top 31)):=⟨rfl,rfl,rfl,by decide +kernel,rfl,by decide +kernel,by decide +kernel⟩
theorem q10(F:Fun K "_law_rings" "_law_rings" (top 31) fa fd)(T:Txt mg)  : FnOk P w K mg base CX0 1 fa fd ["_law_cell", "_law_spare"] (spD K K7) :=
 okD (k:=0) (G:=va0) F T9 (λJ A outer s H E hr=>(v5 (n6 (zn0 (v4 (Z5 p6 (Z0 (w6 0) p6)) (v4 (Z5 p6 (Z0 (X6 (w6 0) p6) p6)) u9))) (o6 2 T9.nd))
   (v5 (n6 (us0 (sq0 rfl) k40 T.b_sum b_sum (v4 (w6 2) u9)) (o6 3 T9.nd))
   (v5 (d7 (j8 P0 T6 (Z0 (X6 (w6 0) p6) p6) p6)
   (v5 (n6 (Z0 (w6 1) (us0 (sq0 rfl) k40 T.b_sum b_sum (v4 (w6 2) u9))) (o6 3 T9.nd))
   p7)
   p7)
   (v5 (S8 4 (Q3 u9) T9.nd)
   (v5 (S9 C3 rfl (y60 (w6 2)) (o6 5 T9.nd)
   (v5 (n6 (xy0 (S6 T.b_len (v4 (w6 4) u9))) (o6 6 T9.nd))
   (v5 (S9 C3 rfl (T7 T.b_range (v4 (w6 5) u9)) (o6 7 T9.nd)
   (v5 (T8 (G8 4 (Y7 (v4 Y4 (v4 (Y7 (v4 (U5 rb0 j40 T.b_int b_int (v4 (yv0 P0 T6 (Z5 (w6 6) (w6 7)) (w6 3)) u9)) (v4 (Y7 (v4 Y4 (v4 (Z5 (w6 6) (Z0 (Z5 (w6 7) p6) (w6 5))) u9))) u9))) u9)))))
   p7))
   p7)))
   (v5 (K3 (U5 V4 za0 T.b_tuple b_tuple (v4 (w6 4) u9)))
   p7))))))) (λds d h=>V1 h)
theorem J5:FnScope ["_law_script", "_law_web_here", "_law_turn", "_law_times", "_law_j", "_law_number", "_law_p", "_law_q"] ["_law_script"] (o4 (top 32)):=⟨rfl,rfl,rfl,by decide +kernel,rfl,by decide +kernel,by decide +kernel⟩
theorem du0(F:Fun K "law" "law" (top 32) fa fd)(T:Txt mg)(C__law_asked:FnD P w K mg base "_law_asked" 6 ["_law_web_here", "_law_p", "_law_q"] R8)(C__law_cell_at:FnD P w K mg base "_law_cell_at" 1 ["_law_script", "_law_k"] o9)(C__law_changed:FnD P w K mg base "_law_changed" 2 ["_law_web_here", "_law_cell"] R3)(C__law_mix:FnD P w K mg base "_law_mix" 1 ["_law_cell", "_law_k"] X4)(C__law_rings:FnD P w K mg base "_law_rings" 1 ["_law_cell", "_law_spare"] K7)(C__law_small:FnD P w K mg base "_law_small" 4 ["_law_script", "_law_most"] K8)(C__law_unfold:FnD P w K mg base "_law_unfold" 2 ["_law_web_here", "_law_times", "_law_cell"] M4):FnOk P w K mg base CX0 7 fa fd ["_law_script"] (spD K u50) :=
 okD (k:=6) (G:=f50) F J5 (λJ A outer s H E hr=>(v5 (n6 (Z1 C__law_small hr (by decide) (v4 (w6 0) (v4 p6 u9))) (o6 1 J5.nd))
   (v5 (n6 (Z1 C__law_cell_at hr (by decide) (v4 (w6 0) (v4 p6 u9))) (o6 2 J5.nd))
   (v5 (n6 (o7 (zn0 (v4 p6 (v4 p6 (v4 p6 (v4 p6 u9))))) (Z0 (w6 2) p6)) (o6 3 J5.nd))
   (v5 (n6 (Z1 C__law_unfold hr (by decide) (v4 (w6 1) (v4 (w6 3) (v4 (Z1 C__law_cell_at hr (by decide) (v4 (w6 0) (v4 p6 u9))) u9)))) (o6 1 J5.nd))
   (v5 (d7 (j8 (vp0 hr.units) xv0 (Z0 (X6 (w6 2) p6) p6) p6)
   (v5 (n6 (Z1 C__law_changed hr (by decide) (v4 (w6 1) (v4 (Z1 C__law_mix hr (by decide) (v4 (Z1 C__law_cell_at hr (by decide) (v4 (w6 0) (v4 p6 u9))) (v4 p6 u9))) u9))) (o6 1 J5.nd))
   p7)
   p7)
   (v5 (d7 (j8 (vp0 hr.units) xv0 (Z0 (X6 (w6 2) p6) p6) p6)
   (v5 (n6 (Z1 C__law_rings hr (by decide) (v4 (Z1 C__law_cell_at hr (by decide) (v4 (w6 0) (v4 p6 u9))) (v4 (Z1 C__law_cell_at hr (by decide) (v4 (w6 0) (v4 p6 u9))) u9))) (o6 1 J5.nd))
   p7)
   p7)
   (v5 (S9 C3 rfl (T7 T.b_range (v4 p6 u9)) (o6 4 J5.nd)
   (v5 (n6 (Z1 C__law_mix hr (by decide) (v4 (Z5 (Z1 C__law_cell_at hr (by decide) (v4 (w6 0) (v4 p6 u9))) (O3 (w6 4) (w6 4))) (v4 (Z5 (w6 4) p6) u9))) (o6 5 J5.nd))
   (v5 (n6 (Z0 (w6 5) (S6 T.b_len (v4 (w6 1) u9))) (o6 6 J5.nd))
   (v5 (n6 (Z0 (X6 (w6 5) p6) (S6 T.b_len (v4 (w6 1) u9))) (o6 7 J5.nd))
   (v5 (d7 (PWD.pt (s60 (j8 gr0 lu0 (Z0 (w6 4) p6) p6) (ul0 (j8 (yy0 hr.units) y20 (Z0 (X6 (w6 2) p6) p6) p6))))
   (v5 (n6 (Z5 (O3 (X6 (w6 6) (w6 3)) (w6 3)) (Z0 (X6 (w6 5) p6) (w6 3))) (o6 7 J5.nd))
   p7)
   p7)
   (v5 (d7 (xz0 (N8 (Z1 C__law_asked hr (by decide) (v4 (w6 1) (v4 (w6 6) (v4 (w6 7) u9))))))
   (v5 (j6 xk0)
   p7)
   p7)
   p7))))))
   (v5 (j6 (Z1 C__law_asked hr (by decide) (v4 (w6 1) (v4 p6 (v4 p6 u9)))))
   p7))))))))) (λds d h=>V1 h)
theorem xa0:FnScope ["web", "p", "q", "walk"] ["web", "p", "q"] (o4 (top 5)):=⟨rfl,rfl,rfl,by decide +kernel,rfl,by decide +kernel,by decide +kernel⟩
theorem um0(F:Fun K "look_table" "look_table" (top 5) fa fd)(T:Txt mg)(C_paired_walk:FnD P w K mg base "paired_walk" 4 ["one", "other", "start"] Y0):FnOk P w K mg base CX0 5 fa fd ["web", "p", "q"] (spN K W8) :=
 okN (k:=4) (G:=zp0) F xa0 (λJ A outer s H E hr=>(v5 (n6 (Z1 C_paired_walk hr (by decide) (v4 (w6 0) (v4 (w6 0) (v4 (Y7 (v4 (w6 1) (v4 (w6 2) u9))) u9)))) (o6 3 xa0.nd))
   (v5 (d7 (j8 u60 wj0 (o7 (w6 3) p6) O9)
   (v5 (j6 O9)
   p7)
   p7)
   (v5 (O6 (sw0 rfl T.b_sorted b_sorted (o7 (w6 3) p6)))
   p7)))) (λds d h=>yw0 h)
end
theorem us1:∀{us:List α},us.length=1->∃a,us=[a]
 | [a],_=>⟨a,rfl⟩
theorem us2:∀{us:List α},us.length=2->∃a b,us=[a,b]
 | [a,b],_=>⟨a,b,rfl⟩
theorem us3:∀{us:List α},us.length=3->∃a b c,us=[a,b,c]
 | [a,b,c],_=>⟨a,b,c,rfl⟩
theorem all_mk{l:W.OpenLaw}{w:World}{h:Heap}(X:K.In h)(G:h.Ns mainGlobals mg)(hfa:mg "law"=some (.ref fa))
  {f0 f1 f2 f3 f4 f5 f6 f7 f8 f9 f10 f11 f12 f13 f14 f15 f16 f17 f18 f19 f20 f21 f22 f23 f24 f25 f26 f27 f28 f29:Addr}
  {od0 an0 od1 an1 od2 an2 od3 an3 od4 an4 od5 an5 od6 an6 od7 an7 od8 an8 od9 an9 od10 an10 od11 an11 od12 an12 od13 an13 od14 an14 od15 an15 od16 an16 od17 an17 od18 an18 od19 an19 od20 an20 od21 an21 od22 an22 od23 an23 od24 an24 od25 an25 od26 an26 od27 an27 od28 an28 od29 an29:Option Addr} {sl0 sl1 sl2 sl3 sl4 sl5 sl6 sl7 sl8 sl9 sl10 sl11 sl12 sl13 sl14 sl15 sl16 sl17 sl18 sl19 sl20 sl21 sl22 sl23 sl24 sl25 sl26 sl27 sl28 sl29:Array (Option Value)} {oc0 kV0 dc0 pm0 cd0 ct0 oc1 kV1 dc1 pm1 cd1 ct1 oc2 kV2 dc2 pm2 cd2 ct2 oc3 kV3 dc3 pm3 cd3 ct3 oc4 kV4 dc4 pm4 cd4 ct4 oc5 kV5 dc5 pm5 cd5 ct5 oc6 kV6 dc6 pm6 cd6 ct6 oc7 kV7 dc7 pm7 cd7 ct7 oc8 kV8 dc8 pm8 cd8 ct8 oc9 kV9 dc9 pm9 cd9 ct9 oc10 kV10 dc10 pm10 cd10 ct10 oc11 kV11 dc11 pm11 cd11 ct11 oc12 kV12 dc12 pm12 cd12 ct12 oc13 kV13 dc13 pm13 cd13 ct13 oc14 kV14 dc14 pm14 cd14 ct14 oc15 kV15 dc15 pm15 cd15 ct15 oc16 kV16 dc16 pm16 cd16 ct16 oc17 kV17 dc17 pm17 cd17 ct17 oc18 kV18 dc18 pm18 cd18 ct18 oc19 kV19 dc19 pm19 cd19 ct19 oc20 kV20 dc20 pm20 cd20 ct20 oc21 kV21 dc21 pm21 cd21 ct21 oc22 kV22 dc22 pm22 cd22 ct22 oc23 kV23 dc23 pm23 cd23 ct23 oc24 kV24 dc24 pm24 cd24 ct24 oc25 kV25 dc25 pm25 cd25 ct25 oc26 kV26 dc26 pm26 cd26 ct26 oc27 kV27 dc27 pm27 cd27 ct27 oc28 kV28 dc28 pm28 cd28 ct28 oc29 kV29 dc29 pm29 cd29 ct29:Value}
  (a0:W.nsIn K mainGlobals "pair_names"=some (some (.ref f0))) (l0:K.lookup f0=some ⟨oc0,od0,.func (W.fnOf "pair_names" "pair_names" (b8 (top 1)) (j9 (top 1)) (o4 (top 1)) .none kV0 dc0 pm0 an0 cd0 ct0),sl0⟩) (c0:W.codeIn K cd0 "pair_names"=true) (k0:W.keepIn K (.ref f0)=true)
  (a1:W.nsIn K mainGlobals "head"=some (some (.ref f1))) (l1:K.lookup f1=some ⟨oc1,od1,.func (W.fnOf "head" "head" (b8 (top 2)) (j9 (top 2)) (o4 (top 2)) .none kV1 dc1 pm1 an1 cd1 ct1),sl1⟩) (c1:W.codeIn K cd1 "head"=true) (k1:W.keepIn K (.ref f1)=true)
  (a2:W.nsIn K mainGlobals "values"=some (some (.ref f2))) (l2:K.lookup f2=some ⟨oc2,od2,.func (W.fnOf "values" "values" (b8 (top 3)) (j9 (top 3)) (o4 (top 3)) .none kV2 dc2 pm2 an2 cd2 ct2),sl2⟩) (c2:W.codeIn K cd2 "values"=true) (k2:W.keepIn K (.ref f2)=true)
  (a3:W.nsIn K mainGlobals "look_table"=some (some (.ref f3))) (l3:K.lookup f3=some ⟨oc3,od3,.func (W.fnOf "look_table" "look_table" (b8 (top 5)) (j9 (top 5)) (o4 (top 5)) .none kV3 dc3 pm3 an3 cd3 ct3),sl3⟩) (c3:W.codeIn K cd3 "look_table"=true) (k3:W.keepIn K (.ref f3)=true)
  (a4:W.nsIn K mainGlobals "parting_way"=some (some (.ref f4))) (l4:K.lookup f4=some ⟨oc4,od4,.func (W.fnOf "parting_way" "parting_way" (b8 (top 6)) (j9 (top 6)) (o4 (top 6)) .none kV4 dc4 pm4 an4 cd4 ct4),sl4⟩) (c4:W.codeIn K cd4 "parting_way"=true) (k4:W.keepIn K (.ref f4)=true)
  (a5:W.nsIn K mainGlobals "paired_walk"=some (some (.ref f5))) (l5:K.lookup f5=some ⟨oc5,od5,.func (W.fnOf "paired_walk" "paired_walk" (b8 (top 7)) (j9 (top 7)) (o4 (top 7)) .none kV5 dc5 pm5 an5 cd5 ct5),sl5⟩) (c5:W.codeIn K cd5 "paired_walk"=true) (k5:W.keepIn K (.ref f5)=true)
  (a6:W.nsIn K mainGlobals "way_to"=some (some (.ref f6))) (l6:K.lookup f6=some ⟨oc6,od6,.func (W.fnOf "way_to" "way_to" (b8 (top 8)) (j9 (top 8)) (o4 (top 8)) .none kV6 dc6 pm6 an6 cd6 ct6),sl6⟩) (c6:W.codeIn K cd6 "way_to"=true) (k6:W.keepIn K (.ref f6)=true)
  (a7:W.nsIn K mainGlobals "are_links"=some (some (.ref f7))) (l7:K.lookup f7=some ⟨oc7,od7,.func (W.fnOf "are_links" "are_links" (b8 (top 9)) (j9 (top 9)) (o4 (top 9)) .none kV7 dc7 pm7 an7 cd7 ct7),sl7⟩) (c7:W.codeIn K cd7 "are_links"=true) (k7:W.keepIn K (.ref f7)=true)
  (a8:W.nsIn K mainGlobals "linked_pair"=some (some (.ref f8))) (l8:K.lookup f8=some ⟨oc8,od8,.func (W.fnOf "linked_pair" "linked_pair" (b8 (top 10)) (j9 (top 10)) (o4 (top 10)) .none kV8 dc8 pm8 an8 cd8 ct8),sl8⟩) (c8:W.codeIn K cd8 "linked_pair"=true) (k8:W.keepIn K (.ref f8)=true)
  (a9:W.nsIn K mainGlobals "are_parting"=some (some (.ref f9))) (l9:K.lookup f9=some ⟨oc9,od9,.func (W.fnOf "are_parting" "are_parting" (b8 (top 11)) (j9 (top 11)) (o4 (top 11)) .none kV9 dc9 pm9 an9 cd9 ct9),sl9⟩) (c9:W.codeIn K cd9 "are_parting"=true) (k9:W.keepIn K (.ref f9)=true)
  (a10:W.nsIn K mainGlobals "_law_cell_at"=some (some (.ref f10))) (l10:K.lookup f10=some ⟨oc10,od10,.func (W.fnOf "_law_cell_at" "_law_cell_at" (b8 (top 13)) (j9 (top 13)) (o4 (top 13)) .none kV10 dc10 pm10 an10 cd10 ct10),sl10⟩) (c10:W.codeIn K cd10 "_law_cell_at"=true) (k10:W.keepIn K (.ref f10)=true)
  (a11:W.nsIn K mainGlobals "_law_pool"=some (some (.ref f11))) (l11:K.lookup f11=some ⟨oc11,od11,.func (W.fnOf "_law_pool" "_law_pool" (b8 (top 14)) (j9 (top 14)) (o4 (top 14)) .none kV11 dc11 pm11 an11 cd11 ct11),sl11⟩) (c11:W.codeIn K cd11 "_law_pool"=true) (k11:W.keepIn K (.ref f11)=true)
  (a12:W.nsIn K mainGlobals "_law_mix"=some (some (.ref f12))) (l12:K.lookup f12=some ⟨oc12,od12,.func (W.fnOf "_law_mix" "_law_mix" (b8 (top 15)) (j9 (top 15)) (o4 (top 15)) .none kV12 dc12 pm12 an12 cd12 ct12),sl12⟩) (c12:W.codeIn K cd12 "_law_mix"=true) (k12:W.keepIn K (.ref f12)=true)
  (a13:W.nsIn K mainGlobals "_law_value"=some (some (.ref f13))) (l13:K.lookup f13=some ⟨oc13,od13,.func (W.fnOf "_law_value" "_law_value" (b8 (top 16)) (j9 (top 16)) (o4 (top 16)) .none kV13 dc13 pm13 an13 cd13 ct13),sl13⟩) (c13:W.codeIn K cd13 "_law_value"=true) (k13:W.keepIn K (.ref f13)=true)
  (a14:W.nsIn K mainGlobals "_law_values"=some (some (.ref f14))) (l14:K.lookup f14=some ⟨oc14,od14,.func (W.fnOf "_law_values" "_law_values" (b8 (top 17)) (j9 (top 17)) (o4 (top 17)) .none kV14 dc14 pm14 an14 cd14 ct14),sl14⟩) (c14:W.codeIn K cd14 "_law_values"=true) (k14:W.keepIn K (.ref f14)=true)
  (a15:W.nsIn K mainGlobals "_law_part"=some (some (.ref f15))) (l15:K.lookup f15=some ⟨oc15,od15,.func (W.fnOf "_law_part" "_law_part" (b8 (top 18)) (j9 (top 18)) (o4 (top 18)) .none kV15 dc15 pm15 an15 cd15 ct15),sl15⟩) (c15:W.codeIn K cd15 "_law_part"=true) (k15:W.keepIn K (.ref f15)=true)
  (a16:W.nsIn K mainGlobals "_law_web"=some (some (.ref f16))) (l16:K.lookup f16=some ⟨oc16,od16,.func (W.fnOf "_law_web" "_law_web" (b8 (top 19)) (j9 (top 19)) (o4 (top 19)) .none kV16 dc16 pm16 an16 cd16 ct16),sl16⟩) (c16:W.codeIn K cd16 "_law_web"=true) (k16:W.keepIn K (.ref f16)=true)
  (a17:W.nsIn K mainGlobals "_law_vals"=some (some (.ref f17))) (l17:K.lookup f17=some ⟨oc17,od17,.func (W.fnOf "_law_vals" "_law_vals" (b8 (top 20)) (j9 (top 20)) (o4 (top 20)) .none kV17 dc17 pm17 an17 cd17 ct17),sl17⟩) (c17:W.codeIn K cd17 "_law_vals"=true) (k17:W.keepIn K (.ref f17)=true)
  (a18:W.nsIn K mainGlobals "_law_head"=some (some (.ref f18))) (l18:K.lookup f18=some ⟨oc18,od18,.func (W.fnOf "_law_head" "_law_head" (b8 (top 21)) (j9 (top 21)) (o4 (top 21)) .none kV18 dc18 pm18 an18 cd18 ct18),sl18⟩) (c18:W.codeIn K cd18 "_law_head"=true) (k18:W.keepIn K (.ref f18)=true)
  (a19:W.nsIn K mainGlobals "_law_with"=some (some (.ref f19))) (l19:K.lookup f19=some ⟨oc19,od19,.func (W.fnOf "_law_with" "_law_with" (b8 (top 22)) (j9 (top 22)) (o4 (top 22)) .none kV19 dc19 pm19 an19 cd19 ct19),sl19⟩) (c19:W.codeIn K cd19 "_law_with"=true) (k19:W.keepIn K (.ref f19)=true)
  (a20:W.nsIn K mainGlobals "_law_unfold"=some (some (.ref f20))) (l20:K.lookup f20=some ⟨oc20,od20,.func (W.fnOf "_law_unfold" "_law_unfold" (b8 (top 24)) (j9 (top 24)) (o4 (top 24)) .none kV20 dc20 pm20 an20 cd20 ct20),sl20⟩) (c20:W.codeIn K cd20 "_law_unfold"=true) (k20:W.keepIn K (.ref f20)=true)
  (a21:W.nsIn K mainGlobals "_law_small"=some (some (.ref f21))) (l21:K.lookup f21=some ⟨oc21,od21,.func (W.fnOf "_law_small" "_law_small" (b8 (top 25)) (j9 (top 25)) (o4 (top 25)) .none kV21 dc21 pm21 an21 cd21 ct21),sl21⟩) (c21:W.codeIn K cd21 "_law_small"=true) (k21:W.keepIn K (.ref f21)=true)
  (a22:W.nsIn K mainGlobals "_law_changed"=some (some (.ref f22))) (l22:K.lookup f22=some ⟨oc22,od22,.func (W.fnOf "_law_changed" "_law_changed" (b8 (top 26)) (j9 (top 26)) (o4 (top 26)) .none kV22 dc22 pm22 an22 cd22 ct22),sl22⟩) (c22:W.codeIn K cd22 "_law_changed"=true) (k22:W.keepIn K (.ref f22)=true)
  (a23:W.nsIn K mainGlobals "_law_go_on"=some (some (.ref f23))) (l23:K.lookup f23=some ⟨oc23,od23,.func (W.fnOf "_law_go_on" "_law_go_on" (b8 (top 27)) (j9 (top 27)) (o4 (top 27)) .none kV23 dc23 pm23 an23 cd23 ct23),sl23⟩) (c23:W.codeIn K cd23 "_law_go_on"=true) (k23:W.keepIn K (.ref f23)=true)
  (a24:W.nsIn K mainGlobals "_law_shut"=some (some (.ref f24))) (l24:K.lookup f24=some ⟨oc24,od24,.func (W.fnOf "_law_shut" "_law_shut" (b8 (top 28)) (j9 (top 28)) (o4 (top 28)) .none kV24 dc24 pm24 an24 cd24 ct24),sl24⟩) (c24:W.codeIn K cd24 "_law_shut"=true) (k24:W.keepIn K (.ref f24)=true)
  (a25:W.nsIn K mainGlobals "_law_is_table"=some (some (.ref f25))) (l25:K.lookup f25=some ⟨oc25,od25,.func (W.fnOf "_law_is_table" "_law_is_table" (b8 (top 29)) (j9 (top 29)) (o4 (top 29)) .none kV25 dc25 pm25 an25 cd25 ct25),sl25⟩) (c25:W.codeIn K cd25 "_law_is_table"=true) (k25:W.keepIn K (.ref f25)=true)
  (a26:W.nsIn K mainGlobals "_law_asked"=some (some (.ref f26))) (l26:K.lookup f26=some ⟨oc26,od26,.func (W.fnOf "_law_asked" "_law_asked" (b8 (top 30)) (j9 (top 30)) (o4 (top 30)) .none kV26 dc26 pm26 an26 cd26 ct26),sl26⟩) (c26:W.codeIn K cd26 "_law_asked"=true) (k26:W.keepIn K (.ref f26)=true)
  (a27:W.nsIn K mainGlobals "_law_rings"=some (some (.ref f27))) (l27:K.lookup f27=some ⟨oc27,od27,.func (W.fnOf "_law_rings" "_law_rings" (b8 (top 31)) (j9 (top 31)) (o4 (top 31)) .none kV27 dc27 pm27 an27 cd27 ct27),sl27⟩) (c27:W.codeIn K cd27 "_law_rings"=true) (k27:W.keepIn K (.ref f27)=true)
  (a28:W.nsIn K mainGlobals "law"=some (some (.ref f28))) (l28:K.lookup f28=some ⟨oc28,od28,.func (W.fnOf "law" "law" (b8 (top 32)) (j9 (top 32)) (o4 (top 32)) .none kV28 dc28 pm28 an28 cd28 ct28),sl28⟩) (c28:W.codeIn K cd28 "law"=true) (k28:W.keepIn K (.ref f28)=true)
  (a29:W.nsIn K mainGlobals "look_table"=some (some (.ref f29))) (l29:K.lookup f29=some ⟨oc29,od29,.func (W.fnOf "look_table" "look_table" (b8 (top 5)) (j9 (top 5)) (o4 (top 5)) .none kV29 dc29 pm29 an29 cd29 ct29),sl29⟩) (c29:W.codeIn K cd29 "look_table"=true) (k29:W.keepIn K (.ref f29)=true)
  (z_bool:W.nsIn K mainGlobals "bool"=some none)
  (z_enumerate:W.nsIn K mainGlobals "enumerate"=some none)
  (z_int:W.nsIn K mainGlobals "int"=some none)
  (z_isinstance:W.nsIn K mainGlobals "isinstance"=some none)
  (z_len:W.nsIn K mainGlobals "len"=some none)
  (z_list:W.nsIn K mainGlobals "list"=some none)
  (z_range:W.nsIn K mainGlobals "range"=some none)
  (z_reversed:W.nsIn K mainGlobals "reversed"=some none)
  (z_sorted:W.nsIn K mainGlobals "sorted"=some none)
  (z_sum:W.nsIn K mainGlobals "sum"=some none)
  (z_tuple:W.nsIn K mainGlobals "tuple"=some none)
  (z_zip:W.nsIn K mainGlobals "zip"=some none)
  : ∃fd:FuncData,(∀(s:Shared) (v:Value),BindsTo s fd ⟨[v],[]⟩ [("_law_script",v)])/\∀base:Heap,K.In base->base.Ns mainGlobals mg->FnOk l.prog w K mg base CX0 7 fa fd ["_law_script"] (spD K u50):=by
 have e:=hfa.symm.trans (A8 X G a28);cases e;have T:Txt mg:=⟨D8 X G z_bool,D8 X G z_enumerate,D8 X G z_int,D8 X G z_isinstance,D8 X G z_len,D8 X G z_list,D8 X G z_range,D8 X G z_reversed,D8 X G z_sorted,D8 X G z_sum,D8 X G z_tuple,D8 X G z_zip⟩;have F0:=Y9 (st:=top 1) l0 c0 k0;have F1:=Y9 (st:=top 2) l1 c1 k1;have F2:=Y9 (st:=top 3) l2 c2 k2;have F3:=Y9 (st:=top 5) l3 c3 k3;have F4:=Y9 (st:=top 6) l4 c4 k4;have F5:=Y9 (st:=top 7) l5 c5 k5;have F6:=Y9 (st:=top 8) l6 c6 k6;have F7:=Y9 (st:=top 9) l7 c7 k7;have F8:=Y9 (st:=top 10) l8 c8 k8;have F9:=Y9 (st:=top 11) l9 c9 k9;have h7:=Y9 (st:=top 13) l10 c10 k10;have g8:=Y9 (st:=top 14) l11 c11 k11;have g6:=Y9 (st:=top 15) l12 c12 k12;have j1:=Y9 (st:=top 16) l13 c13 k13;have h0:=Y9 (st:=top 17) l14 c14 k14;have g4:=Y9 (st:=top 18) l15 c15 k15;have h5:=Y9 (st:=top 19) l16 c16 k16;have g5:=Y9 (st:=top 20) l17 c17 k17;have h4:=Y9 (st:=top 21) l18 c18 k18;have i3:=Y9 (st:=top 22) l19 c19 k19;have m0:=Y9 (st:=top 24) l20 c20 k20;have g3:=Y9 (st:=top 25) l21 c21 k21;have h3:=Y9 (st:=top 26) l22 c22 k22;have g1:=Y9 (st:=top 27) l23 c23 k23;have h9:=Y9 (st:=top 28) l24 c24 k24;have g2:=Y9 (st:=top 29) l25 c25 k25;have j2:=Y9 (st:=top 30) l26 c26 k26;have h6:=Y9 (st:=top 31) l27 c27 k27;have m1:=Y9 (st:=top 32) l28 c28 k28;have g7:=Y9 (st:=top 5) l29 c29 k29;refine⟨W.fnOf "law" "law" (b8 (top 32)) (j9 (top 32)) (o4 (top 32)) .none kV28 dc28 pm28 an28 cd28 ct28,λs v=>.of_eq rfl,λbase _ _=>?_⟩;have d1:FnN l.prog w K mg base "pair_names" 1 ["part"] K5:=⟨f0,_,rw0 F0 T ,A8 X G a0,k0,F0.binds (ps:=["part"]) λ_ _ _ _ _ _ us hl=>by obtain⟨_,rfl⟩:=us1 hl;rfl⟩;have e8:FnN l.prog w K mg base "values" 1 ["part"] m_values:=⟨f2,_,kh0 F2 T ,A8 X G a2,k2,F2.binds (ps:=["part"]) λ_ _ _ _ _ _ us hl=>by obtain⟨_,rfl⟩:=us1 hl;rfl⟩;have e9:FnN l.prog w K mg base "way_to" 1 ["came", "pair"] zh0:=⟨f6,_,jb0 F6 T ,A8 X G a6,k6,F6.binds (ps:=["came", "pair"]) λ_ _ _ _ _ _ us hl=>by obtain⟨_,_,rfl⟩:=us2 hl;rfl⟩;have Y:FnD l.prog w K mg base "are_links" 1 ["both"] V3:=⟨f7,_,qn0 F7 T ,A8 X G a7,k7,F7.binds (ps:=["both"]) λ_ _ _ _ _ _ us hl=>by obtain⟨_,rfl⟩:=us1 hl;rfl⟩;have O:FnD l.prog w K mg base "linked_pair" 1 ["both"] Z3:=⟨f8,_,sf0 F8 T ,A8 X G a8,k8,F8.binds (ps:=["both"]) λ_ _ _ _ _ _ us hl=>by obtain⟨_,rfl⟩:=us1 hl;rfl⟩;have L:FnD l.prog w K mg base "_law_cell_at" 1 ["_law_script", "_law_k"] o9:=⟨f10,_,t60 h7 T ,A8 X G a10,k10,h7.binds (ps:=["_law_script", "_law_k"]) λ_ _ _ _ _ _ us hl=>by obtain⟨_,_,rfl⟩:=us2 hl;rfl⟩;have e4:FnN l.prog w K mg base "_law_pool" 1 ["_law_cell", "_law_turn"] J8:=⟨f11,_,p90 g8 T ,A8 X G a11,k11,g8.binds (ps:=["_law_cell", "_law_turn"]) λ_ _ _ _ _ _ us hl=>by obtain⟨_,_,rfl⟩:=us2 hl;rfl⟩;have M:FnD l.prog w K mg base "_law_mix" 1 ["_law_cell", "_law_k"] X4:=⟨f12,_,n60 g6 T ,A8 X G a12,k12,g6.binds (ps:=["_law_cell", "_law_k"]) λ_ _ _ _ _ _ us hl=>by obtain⟨_,_,rfl⟩:=us2 hl;rfl⟩;have S:FnD l.prog w K mg base "_law_value" 1 ["_law_number", "_law_many"] U8:=⟨f13,_,q00 j1 T ,A8 X G a13,k13,j1.binds (ps:=["_law_number", "_law_many"]) λ_ _ _ _ _ _ us hl=>by obtain⟨_,_,rfl⟩:=us2 hl;rfl⟩;have e2:FnD l.prog w K mg base "_law_part" 1 ["_law_number", "_law_some", "_law_pool_here"] G3:=⟨f15,_,qg0 g4 T ,A8 X G a15,k15,g4.binds (ps:=["_law_number", "_law_some", "_law_pool_here"]) λ_ _ _ _ _ _ us hl=>by obtain⟨_,_,_,rfl⟩:=us3 hl;rfl⟩;have J:FnN l.prog w K mg base "_law_vals" 1 ["_law_part_here"] Z9:=⟨f17,_,ph0 g5 T ,A8 X G a17,k17,g5.binds (ps:=["_law_part_here"]) λ_ _ _ _ _ _ us hl=>by obtain⟨_,rfl⟩:=us1 hl;rfl⟩;have e3:FnD l.prog w K mg base "_law_head" 1 ["_law_part_here"] O1:=⟨f18,_,p80 h4 T ,A8 X G a18,k18,h4.binds (ps:=["_law_part_here"]) λ_ _ _ _ _ _ us hl=>by obtain⟨_,rfl⟩:=us1 hl;rfl⟩;have U:FnD l.prog w K mg base "_law_with" 1 ["_law_part_here", "_law_some"] V2:=⟨f19,_,pi0 i3 T ,A8 X G a19,k19,i3.binds (ps:=["_law_part_here", "_law_some"]) λ_ _ _ _ _ _ us hl=>by obtain⟨_,_,rfl⟩:=us2 hl;rfl⟩;have Z:FnD l.prog w K mg base "_law_is_table" 1 ["_law_found"] T4:=⟨f25,_,uw0 g2 T ,A8 X G a25,k25,g2.binds (ps:=["_law_found"]) λ_ _ _ _ _ _ us hl=>by obtain⟨_,rfl⟩:=us1 hl;rfl⟩;have e0:FnD l.prog w K mg base "_law_rings" 1 ["_law_cell", "_law_spare"] K7:=⟨f27,_,q10 h6 T ,A8 X G a27,k27,h6.binds (ps:=["_law_cell", "_law_spare"]) λ_ _ _ _ _ _ us hl=>by obtain⟨_,_,rfl⟩:=us2 hl;rfl⟩;have e7:FnD l.prog w K mg base "head" 2 ["part"] Q7:=⟨f1,_,fj0 F1 T d1,A8 X G a1,k1,F1.binds (ps:=["part"]) λ_ _ _ _ _ _ us hl=>by obtain⟨_,rfl⟩:=us1 hl;rfl⟩;have b2:FnN l.prog w K mg base "_law_values" 2 ["_law_number", "_law_count", "_law_many"] M6:=⟨f14,_,si0 h0 T S,A8 X G a14,k14,h0.binds (ps:=["_law_number", "_law_count", "_law_many"]) λ_ _ _ _ _ _ us hl=>by obtain⟨_,_,_,rfl⟩:=us3 hl;rfl⟩;have b3:FnD l.prog w K mg base "_law_unfold" 2 ["_law_web_here", "_law_times", "_law_cell"] M4:=⟨f20,_,tt0 m0 T M J U,A8 X G a20,k20,m0.binds (ps:=["_law_web_here", "_law_times", "_law_cell"]) λ_ _ _ _ _ _ us hl=>by obtain⟨_,_,_,rfl⟩:=us3 hl;rfl⟩;have b1:FnD l.prog w K mg base "_law_changed" 2 ["_law_web_here", "_law_cell"] R3:=⟨f22,_,tg0 h3 T J S U,A8 X G a22,k22,h3.binds (ps:=["_law_web_here", "_law_cell"]) λ_ _ _ _ _ _ us hl=>by obtain⟨_,_,rfl⟩:=us2 hl;rfl⟩;have e1:FnD l.prog w K mg base "_law_go_on" 2 ["_law_one", "_law_other", "_law_pair"] W6:=⟨f23,_,rr0 g1 T e3 J,A8 X G a23,k23,g1.binds (ps:=["_law_one", "_law_other", "_law_pair"]) λ_ _ _ _ _ _ us hl=>by obtain⟨_,_,_,rfl⟩:=us3 hl;rfl⟩;have b5:FnD l.prog w K mg base "are_parting" 3 ["one", "other", "both"] U3:=⟨f9,_,s00 F9 T Y e7 O,A8 X G a9,k9,F9.binds (ps:=["one", "other", "both"]) λ_ _ _ _ _ _ us hl=>by obtain⟨_,_,_,rfl⟩:=us3 hl;rfl⟩;have e6:FnD l.prog w K mg base "_law_web" 3 ["_law_cells", "_law_many", "_law_pool_here"] z60:=⟨f16,_,ot0 h5 T M e2 b2,A8 X G a16,k16,h5.binds (ps:=["_law_cells", "_law_many", "_law_pool_here"]) λ_ _ _ _ _ _ us hl=>by obtain⟨_,_,_,rfl⟩:=us3 hl;rfl⟩;have e5:FnD l.prog w K mg base "_law_shut" 3 ["_law_one", "_law_other", "_law_pair"] O2:=⟨f24,_,qw0 h9 T e1,A8 X G a24,k24,h9.binds (ps:=["_law_one", "_law_other", "_law_pair"]) λ_ _ _ _ _ _ us hl=>by obtain⟨_,_,_,rfl⟩:=us3 hl;rfl⟩;have F:FnD l.prog w K mg base "paired_walk" 4 ["one", "other", "start"] Y0:=⟨f5,_,tv0 F5 T Y b5 e7 O e8 e9,A8 X G a5,k5,F5.binds (ps:=["one", "other", "start"]) λ_ _ _ _ _ _ us hl=>by obtain⟨_,_,_,rfl⟩:=us3 hl;rfl⟩;have d0:FnD l.prog w K mg base "_law_small" 4 ["_law_script", "_law_most"] K8:=⟨f21,_,q20 g3 T L e4 e6,A8 X G a21,k21,g3.binds (ps:=["_law_script", "_law_most"]) λ_ _ _ _ _ _ us hl=>by obtain⟨_,_,rfl⟩:=us2 hl;rfl⟩;have b6:FnD l.prog w K mg base "look_table" 5 ["web", "p", "q"] U9:=⟨f3,_,rz0 F3 T F,A8 X G a3,k3,F3.binds (ps:=["web", "p", "q"]) λ_ _ _ _ _ _ us hl=>by obtain⟨_,_,_,rfl⟩:=us3 hl;rfl⟩;have b4:FnD l.prog w K mg base "parting_way" 5 ["web", "p", "q"] M5:=⟨f4,_,sb0 F4 T F,A8 X G a4,k4,F4.binds (ps:=["web", "p", "q"]) λ_ _ _ _ _ _ us hl=>by obtain⟨_,_,_,rfl⟩:=us3 hl;rfl⟩;have b0:FnN l.prog w K mg base "look_table" 5 ["web", "p", "q"] W8:=⟨f29,_,um0 g7 T F,A8 X G a29,k29,g7.binds (ps:=["web", "p", "q"]) λ_ _ _ _ _ _ us hl=>by obtain⟨_,_,_,rfl⟩:=us3 hl;rfl⟩;have d2:FnD l.prog w K mg base "_law_asked" 6 ["_law_web_here", "_law_p", "_law_q"] R8:=⟨f26,_,rp0 j2 T Z e5 b6 b0 b4,A8 X G a26,k26,j2.binds (ps:=["_law_web_here", "_law_p", "_law_q"]) λ_ _ _ _ _ _ us hl=>by obtain⟨_,_,_,rfl⟩:=us3 hl;rfl⟩;exact du0 m1 T d2 L b1 M e0 d0 b3
theorem oa0:∀ns:List Int,Rps K H B (ns.map D.int) (ns.map V.int)
 | []=>by rw[List.map_nil,List.map_nil,j5]
 | n::ns=>by
  rw[List.map_cons,List.map_cons,o8];exact⟨_,_,rfl,by rw[m9],oa0 ns⟩
theorem i20{ns:List Int}(hS:SqL K H a (ns.map V.int))(hm:u50 [.lst (ns.map .int)]=some (.bl true)):spD K u50 [.ref a] H (λv _=>v=.bl true) λ_ _ _=>False:=by
 refine⟨λ_=>False,[.lst (ns.map .int)],.bl true,λ_ z=>z.elim,?_,hm,λv H' _ r=>by rw[W7] at r;exact r⟩;rw[o8];refine⟨_,[],rfl,?_,by rw[j5]⟩;rw[W2];refine⟨a,ns.map V.int,rfl,?_,oa0 ns⟩;rcases hS with h|h
 ·exact .inl ⟨λz=>z,h⟩
 ·exact .inr (.inr h)
end La
open PySem.W PyProof.Rows
theorem PySem.W.Fast.tw1582264186084090875:True:=trivial
theorem PySem.W.Fast.tw16951609438655478614:True:=trivial
theorem PySem.W.Fast.tw983857881404948947:True:=trivial
theorem PySem.W.Fast.tw12223939266088494913:True:=trivial
theorem PySem.W.Fast.tw16163241405249948810:True:=trivial
theorem PySem.W.Fast.tw3567291544692999884:True:=trivial
theorem PySem.W.Fast.tw9558347463668774573:True:=trivial
theorem PySem.W.Fast.tw2578106962290541855:True:=trivial
theorem PySem.W.Fast.tw11829689061907233554:True:=trivial
theorem PySem.W.Fast.tw8168146247053979969:True:=trivial
theorem PySem.W.Fast.tw9961410444444078749:True:=trivial
theorem PySem.W.Fast.tw1290044725379909158:True:=trivial
theorem PySem.W.Fast.tw12746834012514431334:True:=trivial
theorem PySem.W.Fast.tw4877501710961816807:True:=trivial
theorem PySem.W.Fast.tw12231957850666606559:True:=trivial
theorem PySem.W.Fast.tw8139380789322817589:True:=trivial
theorem PySem.W.Fast.tw5362189709352003517:True:=trivial
theorem PySem.W.Fast.tw10432481786110587017:True:=trivial
theorem PySem.W.Fast.tw11066594446441513390:True:=trivial
theorem PySem.W.Fast.tw14335852567073401463:True:=trivial
theorem PySem.W.Fast.tw3687027724233085373:True:=trivial
theorem PySem.W.Fast.tw11205091739224187128:True:=trivial
theorem PySem.W.Fast.tw16928341510541018089:True:=trivial
theorem PySem.W.Fast.tw6607300520557879100:True:=trivial
theorem PySem.W.Fast.tw3948358404609954317:True:=trivial
theorem PySem.W.Fast.tw18278069764480552815:True:=trivial
theorem PySem.W.Fast.tw7740645553604382969:True:=trivial
theorem PySem.W.Fast.tw4593681395461856575:True:=trivial
theorem PySem.W.Fast.tw3560147435658280902:True:=trivial
theorem PySem.W.Fast.tw3665526747942844980:True:=trivial
set_option maxRecDepth 100000 in
theorem PySem.Challenge.cw_graphpack_k12_look_tables_holds : PySem.Challenge.rw_graphpack_k12_look_tables.Holds := by
 w_on;o_law;k_head;(case hw=>w_witness2)
 k_fill
 refine L2.ie0 (l:=PySem.Challenge.rw_graphpack_k12_look_tables) (n:=63) (k:=7) (x := "_law_script") (CX:=L2.CX0) (sp:=λK=>DL.spD K La.u50) rfl (by decide) rfl ⟨rfl,by decide,by decide⟩ (λw h Y=>W.kIn_of Y) ?F ?S ?C
 case F =>
  intro w mg fa h KX G hmg;refine' La.all_mk KX G hmg ?a0 ?l0 ?c0 ?k0 ?a1 ?l1 ?c1 ?k1 ?a2 ?l2 ?c2 ?k2 ?a3 ?l3 ?c3 ?k3 ?a4 ?l4 ?c4 ?k4 ?a5 ?l5 ?c5 ?k5 ?a6 ?l6 ?c6 ?k6 ?a7 ?l7 ?c7 ?k7 ?a8 ?l8 ?c8 ?k8 ?a9 ?l9 ?c9 ?k9 ?a10 ?l10 ?c10 ?k10 ?a11 ?l11 ?c11 ?k11 ?a12 ?l12 ?c12 ?k12 ?a13 ?l13 ?c13 ?k13 ?a14 ?l14 ?c14 ?k14 ?a15 ?l15 ?c15 ?k15 ?a16 ?l16 ?c16 ?k16 ?a17 ?l17 ?c17 ?k17 ?a18 ?l18 ?c18 ?k18 ?a19 ?l19 ?c19 ?k19 ?a20 ?l20 ?c20 ?k20 ?a21 ?l21 ?c21 ?k21 ?a22 ?l22 ?c22 ?k22 ?a23 ?l23 ?c23 ?k23 ?a24 ?l24 ?c24 ?k24 ?a25 ?l25 ?c25 ?k25 ?a26 ?l26 ?c26 ?k26 ?a27 ?l27 ?c27 ?k27 ?a28 ?l28 ?c28 ?k28 ?a29 ?l29 ?c29 ?k29 ?z_bool ?z_enumerate ?z_int ?z_isinstance ?z_len ?z_list ?z_range ?z_reversed ?z_sorted ?z_sum ?z_tuple ?z_zip
  (case a0=>k_is)
  (case l0=>k_is)
  (case c0=>k_is)
  (case k0=>k_is)
  (case a1=>k_is)
  (case l1=>k_is)
  (case c1=>k_is)
  (case k1=>k_is)
  (case a2=>k_is)
  (case l2=>k_is)
  (case c2=>k_is)
  (case k2=>k_is)
  (case a3=>k_is)
  (case l3=>k_is)
  (case c3=>k_is)
  (case k3=>k_is)
  (case a4=>k_is)
  (case l4=>k_is)
  (case c4=>k_is)
  (case k4=>k_is)
  (case a5=>k_is)
  (case l5=>k_is)
  (case c5=>k_is)
  (case k5=>k_is)
  (case a6=>k_is)
  (case l6=>k_is)
  (case c6=>k_is)
  (case k6=>k_is)
  (case a7=>k_is)
  (case l7=>k_is)
  (case c7=>k_is)
  (case k7=>k_is)
  (case a8=>k_is)
  (case l8=>k_is)
  (case c8=>k_is)
  (case k8=>k_is)
  (case a9=>k_is)
  (case l9=>k_is)
  (case c9=>k_is)
  (case k9=>k_is)
  (case a10=>k_is)
  (case l10=>k_is)
  (case c10=>k_is)
  (case k10=>k_is)
  (case a11=>k_is)
  (case l11=>k_is)
  (case c11=>k_is)
  (case k11=>k_is)
  (case a12=>k_is)
  (case l12=>k_is)
  (case c12=>k_is)
  (case k12=>k_is)
  (case a13=>k_is)
  (case l13=>k_is)
  (case c13=>k_is)
  (case k13=>k_is)
  (case a14=>k_is)
  (case l14=>k_is)
  (case c14=>k_is)
  (case k14=>k_is)
  (case a15=>k_is)
  (case l15=>k_is)
  (case c15=>k_is)
  (case k15=>k_is)
  (case a16=>k_is)
  (case l16=>k_is)
  (case c16=>k_is)
  (case k16=>k_is)
  (case a17=>k_is)
  (case l17=>k_is)
  (case c17=>k_is)
  (case k17=>k_is)
  (case a18=>k_is)
  (case l18=>k_is)
  (case c18=>k_is)
  (case k18=>k_is)
  (case a19=>k_is)
  (case l19=>k_is)
  (case c19=>k_is)
  (case k19=>k_is)
  (case a20=>k_is)
  (case l20=>k_is)
  (case c20=>k_is)
  (case k20=>k_is)
  (case a21=>k_is)
  (case l21=>k_is)
  (case c21=>k_is)
  (case k21=>k_is)
  (case a22=>k_is)
  (case l22=>k_is)
  (case c22=>k_is)
  (case k22=>k_is)
  (case a23=>k_is)
  (case l23=>k_is)
  (case c23=>k_is)
  (case k23=>k_is)
  (case a24=>k_is)
  (case l24=>k_is)
  (case c24=>k_is)
  (case k24=>k_is)
  (case a25=>k_is)
  (case l25=>k_is)
  (case c25=>k_is)
  (case k25=>k_is)
  (case a26=>k_is)
  (case l26=>k_is)
  (case c26=>k_is)
  (case k26=>k_is)
  (case a27=>k_is)
  (case l27=>k_is)
  (case c27=>k_is)
  (case k27=>k_is)
  (case a28=>k_is)
  (case l28=>k_is)
  (case c28=>k_is)
  (case k28=>k_is)
  (case a29=>k_is)
  (case l29=>k_is)
  (case c29=>k_is)
  (case k29=>k_is)
  (case z_bool=>k_is)
  (case z_enumerate=>k_is)
  (case z_int=>k_is)
  (case z_isinstance=>k_is)
  (case z_len=>k_is)
  (case z_list=>k_is)
  (case z_range=>k_is)
  (case z_reversed=>k_is)
  (case z_sorted=>k_is)
  (case z_sum=>k_is)
  (case z_tuple=>k_is)
  (case z_zip=>k_is)
 case S=>exact λK H a ns hl hO hS=>La.i20 hS (La.ib0 ns hl)
 case C=>exact λ_ _ _ _ z=>z
#print axioms PySem.Challenge.cw_graphpack_k12_look_tables_holds
