import PyProof.Rows.All
import Wide.All
import OpenK.AllK
import Wide.FinOn
import Lean
import PyProof.EqAt
import PyProof.EqKinds
import PyProof.TupleCall
import PyProof.NeKinds
import PyProof.Rows.SetFrom
import KE.KRevIter
import PyProof.ZipIter
import PyProof.TupleOfGen
import PyProof.Rows.ZipGen
import PyProof.EnumMake
import PyProof.EnumFor
import PyProof.ListRange
import PyProof.LayNew
import KE.KDictOf
import KE.KIntText
import KE.IntTextLaws
import PyProof.StrCalls2
import PyProof.Rows.StrNews2
import PyProof.StrLawsTight
import PyProof.ExcArgsOwn
import PyProof.ExcAttrAll.ValueError
import PyProof.IsInstanceT
import PyProof.RulesAs
import PyProof.Rows.Tup
import OpenK.KOwn
import PyProof.ExcInit
import OpenK.KCls
import OpenK.KMake
import PyProof.InstStoreFacts
import PyProof.FactsAll.object
import PyProof.IsiStr
import KE.KIsAll
import PyProof.ListMulRight
import PyProof.AttrMissHeap
import PyProof.RaisesMany
import PyProof.RulesTry
import PyProof.NsDelKeeps
import PyProof.Rows.FStr
import OpenK.KWalk
import PyProof.AutoListH
import PyProof.CallFns
import PyProof.Rows.SortStr
import KE.KDictSum
import PyProof.Draws
import PyProof.Rows.CallKwBuiltin
import PyProof.SumWalkG
import KE.KDictLaws
import PyProof.DictTruth
import PyProof.Rows.SortShellK
import PyProof.Rows.SortWalk
import KE.KDictList
import PySem.Challenge.RW_graphpack_k13_least_parting_ways
set_option maxHeartbeats 0
noncomputable section
open PySem
def A0:=@PySem.wpAny_bind
def A1:=@PySem.wpAny_pure
def A2:=@PyProof.Rows.wpS_pure
def A3:=@PyProof.Rows.wpS_bind
def A4:=@Nat.le_refl
def A5:=@List.mem_cons_self
def A6:=@PySem.Heap.lt_size
def A7:=@List.getElem?_eq_some_iff
def A8:=@PySem.Heap.get?_push_of_some
def A9:=@List.mem_map
def B0:=@List.mem_of_getElem?
def B3:=@PySem.W.mg_of
def B4:=@Option.some.inj
def B5:=@PySem.wpAny_field
def B6:=@List.getElem?_eq_getElem
def B7:=@PyProof.Rows.wpS_mono
def B8:=@Nat.ne_of_lt
def B9:=@PySem.Heap.get?_push_size
def C0:=@List.mem_cons
def C1:=@Ne.symm
def C2:=@List.mem_cons_of_mem
def C3:=@List.mem_append
def C4:=@PySem.PassesOwn.never
def C5:=@Nat.le_trans
def C6:=@PySem.wpAny_holding
def C7:=@Bool.false_ne_true
def C8:=@PyProof.Rows.wpS_forRange
def C9:=@getElem?_pos
def D0:=@Nat.lt_of_lt_of_le
def D1:=@congrArg
def D2:=@List.mem_append_right
def D3:=@PySem.wpAny_call_entry
def D4:=@PyProof.Rows.wpS_get
def D5:=@List.getElem_mem
def D6:=@PySem.wpAny_mono
def D7:=@PySem.wpAny_rule
def D8:=@PyProof.Rows.wpS_modify
def D9:=@Nat.le_add_right
def E1:=@Prod.ext
def E2:=@PySem.wpAny_setField_rec
def E3:=@List.mem_iff_getElem
def E4:=@List.pairwise_iff_getElem
def E5:=@List.mem_range
def E6:=@PySem.wpAny_callSpecial?_slot
def E7:=@Int.emod_nonneg
def E8:=@Int.emod_lt_of_pos
def E9:=@PySem.W.mg_none_of
def G0:=@Nat.lt_irrefl
def H0:=@List.length_eq_zero_iff
def I0:=@PySem.mem_of_lookup
def K0:=@PySem.wpAny_newObj_type
def K2:=@Nat.zero_le
def L1:=@PySem.W.kia_one
def L3:=@PySem.wpAny_seqItems
def L4:=@PySem.F.slot_zip_next
def L5:=@List.mem_singleton
def L6:=@Nat.ne_of_gt
def L7:=@List.mem_filterMap
def L8:=@List.nodup_cons
def L9:=@PyProof.Rows.wpS_lift
def M1:=@List.eq_nil_of_length_eq_zero
def N0:=@Nat.lt_or_ge
def N1:=@List.mem_append_left
def N2:=@PySem.wpAny_truthy_bool
def N3:=@PySem.wpAny_passesOwn
def N4:=@PyProof.Rows.callWith_type1
def N9:=@List.of_mem_zip
def O0:=@PySem.typeIs_int
def P1:=@PySem.Heap.SameBut.update
def P2:=@Array.perm_iff_toList_perm
def P3:=@List.pairwise_append
def P4:=@decide_eq_false
def P5:=@PySem.wpAny_Call_Name_kw
def P6:=@PyProof.Rows.slot_tuple_getitem
def P7:=@LawfulBEq.eq_of_beq
def P8:=@PySem.typeIs_str
def P9:=@List.nodup_nil
def Q1:=@PySem.wpAny_nextOf_list_item
def Q2:=@PySem.wpAny_attempt
def R1:=@List.mem_reverse
def S1:=@List.getElem?_zip_eq_some
def S2:=@decide_eq_true
def T0:=@List.eq_nil_or_concat
def U1:=@PySem.wpAny_typeOf
def U2:=@Nat.le_of_eq
def W1:=@PySem.wpAny_letGo
def X0:=@Nat.lt_succ_of_lt
def X1:=@List.rel_of_pairwise_cons
def X2:=@List.pairwise_reverse
def X9:=@PySem.F.slot_dict_keyiterator_next
def Y1:=@List.pairwise_map
def Y2:=@Classical.not_not
def Y3:=@Nat.le_of_lt
def b9:=@PySem.Calls.spliced_nil
def d3:=@PySem.Calls.spliced_cons
def d4:=@PySem.concat_meets
def d5:=@PySem.call_meets
def d6:=@Nat.lt_of_le_of_lt
def g9:=@Option.map_eq_some_iff
def h8:=@PySem.Heap.get?_update_self
def i0:=@Nat.lt_succ_self
def i6:=@PySem.SeqAt.EqAt.same
def i7:=@PySem.wpAny_newTuple
def i8:=@PySem.wpAny_nextOf_list_end
def i9:=@PySem.wpAny_onRaise
def j0:=@Array.getElem?_eq_some_iff
def j3:=@PyProof.Rows.listItems_at
def m3:=@List.pairwise_cons
def m4:=@List.mem_of_mem_take
def n5:=@List.map_snd_zip
def n9:=@PySem.wpAny_typeNameOfWhole_keyiter
def p5:=@PySem.F.entry_zip_next
def p9:=@PySem.F.args_zip_next_1
def r0:=@PySem.wpAny_loadPart'
def r8:=@PySem.F.slot_enumerate_next
def r9:=@Nat.mul_le_mul_right
def t0:=@Nat.eq_zero_or_pos
def t9:=@PySem.F.typeOf_object_class
def v3:=@PySem.wpAny_eqBool_int
def w4:=@PySem.SeqAt.EqAt.int_str
def w8:=@PySem.SeqAt.EqAt.str_int
def x0:=@List.getElem_inj
def x6:=@PySem.wpAny_execs_nil
def x8:=@PySem.wpAny_standAt
def x9:=@PySem.codeAny_mono
def y6:=@PySem.noFill_tuple_add
def y8:=@PySem.seq_tuple_add
def y9:=@PySem.F.slot_tuple_add
def z0:=@PySem.F.entry_tuple_add
def A00:=@PySem.F.args_tuple_add_2
def A10:=@PySem.wpAny_sequenceKey
def A40:=@PySem.Heap.get?_update_other
def A50:=@PySem.tupleKind_room_in1
def A60:=@PySem.wpAny_specialOf
def A70:=@List.map_congr_left
def A80:=@PySem.wpAny_isInstance
def A90:=@Nat.le_succ
def Aa0:=@PySem.wpAny_updateSeq_pair
def Ab0:=@List.ext_getElem?
def Ae0:=@PySem.wpAny_dictEntries
def Af0:=@PySem.wpAny_dictEpoch
def Ag0:=@of_decide_eq_true
def Ah0:=@List.nodup_iff_pairwise_ne
def Ai0:=@List.Pairwise.imp_of_mem
def Aj0:=@List.nodup_range
def Ak0:=@List.Nodup.length_le_of_subset
def Al0:=@Nat.lt_or_eq_of_le
def An0:=@beq_eq_false_iff_ne
def Ar0:=@PySem.Calls.Name_function_global
def B50:=@PySem.Calls.callWith_builtin
def B60:=@Nat.le_of_not_lt
def B80:=@Bool.eq_false_iff
def Bg0:=@PySem.F.plainAttrs_list
def Bi0:=@Int.le_ediv_iff_mul_le
def Bj0:=@Array.eq_empty_of_size_eq_zero
def Bk0:=@PySem.F.slot_tuple_mul
def Bl0:=@PySem.F.slot_tuple_rmul
def Cb0:=@PySem.SeqAt.RcAt.lists_lengths
def Cc0:=@PySem.F.slot_int_mul
def Cg0:=@Nat.lt_trichotomy
def Ch0:=@List.mem_of_mem_drop
def Ci0:=@List.Sublist.nodup
def Cj0:=@List.sublist_append_right
def Ck0:=@List.sublist_append_left
def Cm0:=@List.reverse_perm
def Co0:=@Nat.le_succ_of_le
def Cq0:=@PySem.F.entry_dict_keyiterator_next
def Cr0:=@PySem.F.args_dict_keyiterator_next_1
def Cx0:=@List.mem_iff_getElem?
def Cy0:=@PySem.F.entry_enumerate_next
def Cz0:=@PySem.F.args_enumerate_next_1
def D10:=@List.ext_getElem
def D30:=@List.mem_or_eq_of_mem_set
set_option Elab.async false
set_option linter.all false
set_option maxRecDepth 100000
variable{prog:Program}{A:Around}{E Q:Value->Shared->Prop}{a it dx fa I z i1 i2 l1 l2:Addr}{o e b c tg iter value elt:Expr}{tl us vs its:List Value}{od:Option Addr}{x name qual x2 root:Str}{R:Result->Shared->Prop}{y:(Nat×Nat)×List Nat}{K:W.Frag}{u v vl vu:Value}{items ys:Array Value}{h' base:Heap}{α β κ:Type}{pins:List (Addr×Obj)}{t' i j n m k1 x1 ia ib ac bc na T:Nat}{ch fp:List Addr}{N loose N' cs rs:List Str}{s':Shared}{pos pos' p tpos apos p2 cpos px pos2 np:Pos}{rest body:List Stmt}{st:Stmt}{es ifs elts:List Expr}{lo hi:Option Int}{fd:FuncData}{sc scope:Scope}{mg:Str->Option Value}{q p0:Nat×Nat}{XP:(Str->Option Value)->Heap->Prop}{YP:World->Heap->Prop}{caps idx:List Nat}{oa:Obj}
namespace KfT
theorem sl:Slot "function" "__getattribute__" "object.__getattribute__" := by
 refine .of (owner := "object") (n := "__getattribute__") ?_ (by decide +kernel) (by decide +kernel) (by decide +kernel) ?_ ?_
 ·rw[typeLookup_type,builtinLookup_eq_fast];kernel_rfl
 ·first|exact .inl (by decide +kernel)|exact .inr (by decide +kernel)
 ·rw[isSubtype_type];kernel_rfl
theorem lk:typeLookup (.type "function") "__class__"=pure (some (.builtin "object.__class__")):=by
 rw[typeLookup_type,builtinLookup_eq_fast];kernel_rfl
theorem ow:isSubtype (.type "function") (.type (".".intercalate ("object.__class__".cutAt '.').dropLast))=pure true:=by
 rw[F.owner_object_class,isSubtype_type];kernel_rfl
section
variable{P:Program}{W:World}{X:Value->Shared->Prop}{s:Shared}{f:Addr}{y:Obj}
theorem gs(e:s.heap.get? f=some y)(c:y.cls=.type "function")(q:R (.ok (.ret (.type "function"))) s) :
  codeAny (model P W) A (.call (.builtin "getset_descriptor.__get__") ⟨[.builtin "object.__class__",.ref f,.type "function"],[]⟩) R s:=by
 obtain⟨hh,gg,dd,tt,oo⟩:=s;have z1:(⟨hh,gg,dd,tt,oo⟩:Shared).TypeIs (.ref f) "function" := ⟨_,e,c⟩;have z2:=ow;refine codeAny_call_builtin F.slot_gs_get.plain F.entry_gs_get (F.slot_gs_get.check _ _ _ _ _ _ _ _ t9 (F.args_gs_get _ _ _) ?_)
 repeat (any_goals (first|assumption|wp_step))
 refine⟨Code.quiet_builtin _ (by decide +kernel),codeAny_builtin F.entry_object_class ?_⟩
 repeat (any_goals (first|assumption|wp_step))
theorem ga{tk:Tok}{R:Fin->Shared->Prop}(e:s.heap.get? f=some y)(c:y.cls=.type "function")(q:R (.done (.ret (.type "function"))) s) :
  wpAny (model P W) A (Builtin.«object.__getattribute__» ⟨[.ref f,.str "__class__" tk],[]⟩) R X s:=by
 obtain⟨hh,gg,dd,tt,oo⟩:=s;have z1:(⟨hh,gg,dd,tt,oo⟩:Shared).TypeIs (.ref f) "function" := ⟨_,e,c⟩;have z2:(⟨hh,gg,dd,tt,oo⟩:Shared).TypeIs (.builtin "object.__class__") "getset_descriptor" := t9;have z3:=lk;have z4:=t9;have z5:=F.slot_gs_get.lookup;have z6:=F.slot_gs_set.lookup
 repeat (any_goals (first|assumption|wp_step))
 refine gs e c ?_
 repeat (any_goals (first|assumption|wp_step))
variable{hh:Heap}{gg:Array GenState}{dd:Drawn}{tt:Nat}{oo:OsState}
theorem by'{tk:Tok}{R:Value->Shared->Prop}(e:hh.get? f=some y)(c:y.cls=.type "function")(q:R (.type "function") ⟨hh,gg,dd,tt,oo⟩):wpAny (model P W) A (getAttrBy (.ref f) (.str "__class__" tk) false) R X ⟨hh,gg,dd,tt,oo⟩:=by
 have z1:(⟨hh,gg,dd,tt,oo⟩:Shared).TypeIs (.ref f) "function" := ⟨_,e,c⟩;have z2:=sl.lookup;have z3:=sl.bind (.ref f)
 repeat (any_goals (first|assumption|wp_step))
 refine codeAny_call_builtin sl.plain F.entry_object_getattribute (sl.check _ _ _ _ _ _ _ _ z1 (F.args_object_getattribute_2 _ _) (ga e c ?_))
 repeat (any_goals (first|assumption|wp_step))
theorem at'{R:Option Value->Shared->Prop}(e:hh.get? f=some y)(c:y.cls=.type "function")(q:R (some (.type "function")) ⟨hh,gg,dd,tt+1,oo⟩):wpAny (model P W) A (getAttr? (.ref f) "__class__") R X ⟨hh,gg,dd,tt,oo⟩:=by
 unfold getAttr? getAttrBy?
 repeat (any_goals (first|assumption|with_reducible apply by' e c|wp_step))
end
theorem kit{f:Addr}:W.KitX K (.ref f) (.type "function") (W.KitAt f "function"):=W.kitx_of W.kitAt_ty λ{_ _ _ _ _ s} p k=>by
 obtain⟨hh,gg,dd,tt,oo⟩:=s;obtain⟨_,e,c⟩:=p;exact at' e c k
end KfT
namespace L2
open Spec PyProof.Rows
abbrev Key:=Sum Int Str
def uj0:Key->Value->Bool
 | .inl k,v=>Value.isInt k v
 | .inr x,v=>Value.isStrOf x v
variable{ks:List L2.Key}
def We0(w:World):Key->Int
 | .inl k=>hashInt k
 | .inr x=>hashStr w x
theorem R7:∀{k:Key} {v:Value},uj0 k v=true->(∃i t,k=Sum.inl i/\v=Value.int i t)∨(∃x t,k=Sum.inr x/\v=Value.str x t)
 | .inl i,v,h=>by
  obtain⟨t,e⟩:=Value.isInt_shape (k:=i) (v:=v) h;exact .inl ⟨i,t,rfl,e⟩
 | .inr x,v,h=>by
  obtain⟨t,e⟩:=Value.isStrOf_shape (x:=x) (v:=v) h;exact .inr ⟨x,t,rfl,e⟩
theorem jb0(i:Int)(t:Tok):uj0 (.inl i) (.int i t)=true:=by simp[uj0,Value.isInt]
theorem ik0(x:Str)(t:Tok):uj0 (.inr x) (.str x t)=true:=by simp[uj0,Value.isStrOf]
theorem bp0(a b:Int):decide ((Sum.inl a:Key)=Sum.inl b)=(a==b):=by
 by_cases e:a=b
 ·subst e;simp
 ·have h:¬(Sum.inl a:Key)=Sum.inl b:=λq=>e (Sum.inl.inj q)
  rw[decide_eq_false h];exact(An0.mpr e).symm
theorem a00(a b:Str):decide ((Sum.inr a:Key)=Sum.inr b)=decide (a=b):=by
 by_cases e:a=b
 ·subst e;simp
 ·have h:¬(Sum.inr a:Key)=Sum.inr b:=λq=>e (Sum.inr.inj q)
  rw[decide_eq_false h,decide_eq_false e]
theorem Zx0(a:Int)(b:Str):decide ((Sum.inl a:Key)=Sum.inr b)=false:=P4 (λq=>nomatch q)
theorem b80(a:Str)(b:Int):decide ((Sum.inr a:Key)=Sum.inl b)=false:=P4 (λq=>nomatch q)
def Q7(prog:Program)(w:World):PySem.KeyKind prog w Key where
 is:=uj0
 hash:=We0 w
 inj:=λv a b ha hb=>by
  rcases R7 ha with⟨i,t,rfl,rfl⟩|⟨x,t,rfl,rfl⟩
  ·rcases R7 hb with⟨j,u,rfl,e⟩|⟨y,u,rfl,e⟩
   ·injection e with e1 _;rw[e1]
   ·exact nomatch e
  ·rcases R7 hb with⟨j,u,rfl,e⟩|⟨y,u,rfl,e⟩
   ·exact nomatch e
   ·injection e with e1 _;rw[e1]
 byValue:=λk v h=>by
  rcases R7 h with⟨i,t,rfl,rfl⟩|⟨x,t,rfl,rfl⟩<;>rfl
 pyHash:=λhv h=>by
  rcases R7 hv with⟨i,t,rfl,rfl⟩|⟨x,t,rfl,rfl⟩
  ·exact wpAny_pyHash_int h
  ·exact wpAny_pyHash_str h
 eqBool:=λhu hv h=>by
  rcases R7 hu with⟨i,t,rfl,rfl⟩|⟨x,t,rfl,rfl⟩
  ·rcases R7 hv with⟨j,u,rfl,rfl⟩|⟨y,u,rfl,rfl⟩
   ·rw[bp0] at h;exact v3 h
   ·rw[Zx0] at h;exact w4 i t y u _ _ _ _ h
  ·rcases R7 hv with⟨j,u,rfl,rfl⟩|⟨y,u,rfl,rfl⟩
   ·rw[b80] at h;exact w8 x t j u _ _ _ _ h
   ·rw[a00] at h;exact wpAny_eqBool_str h
 «strs»:=λk x t v h=>by
  rcases R7 h with⟨i,u,rfl,e⟩|⟨y,u,rfl,e⟩
  ·exact nomatch e
  ·injection e with e1 _
   subst e1;cases v<;>rfl
theorem mp0(prog:Program)(w:World)(i:Int)(t:Tok):(Q7 prog w).is (.inl i) (.int i t)=true:=jb0 i t
theorem mj0(prog:Program)(w:World)(x:Str)(t:Tok):(Q7 prog w).is (.inr x) (.str x t)=true:=ik0 x t
inductive V where
 | non|bl (b:Bool)|int (i:Int)|str (x:Str)|byt (b:Array UInt8)|flt (b:UInt64)|ref (a:Addr)|ty (n:String)
 deriving DecidableEq
variable{xs:List L2.V}{σ:List (Option L2.V)}{kvs:List (List L2.Key×L2.V)}
def RelV:V->Value->Prop
 | .non,u=>u=Value.none
 | .bl b,u=>u=Value.bool b
 | .int i,u=>∃t,u=Value.int i t
 | .str x,u=>∃t,u=Value.str x t
 | .byt b,u=>∃t,u=Value.bytes b t
 | .flt b,u=>∃t,u=Value.float b t
 | .ref a,u=>u=Value.ref a
 | .ty n,u=>u=Value.type n
abbrev Vals:List V->List Value->Prop:=Paired RelV
theorem Vals.length(r:Vals xs us):xs.length=us.length:=Paired.length r
theorem Vals.get:∀{xs:List V} {us:List Value} {i:Nat} {x:V},Vals xs us->xs[i]?=some x->∃u,us[i]?=some u/\RelV x u
 | _,_,_,_,.nil,e=>by simp at e
 | _,_,0,_,.cons r _,e=>by simp at e;subst e;exact⟨_,rfl,r⟩
 | _,_,i+1,x,.cons _ t,e=>by
  obtain⟨u,h1,h2⟩:=Vals.get (i:=i) (x:=x) t (by simpa using e);exact⟨u,by simpa using h1,h2⟩
theorem Vals.set{x:V}(r:RelV x u):∀{xs:List V} {us:List Value} (i:Nat),Vals xs us->Vals (xs.set i x) (us.set i u)
 | _,_,_,.nil=>.nil
 | _,_,0,.cons _ t=>.cons r t
 | _,_,i+1,.cons q t=>.cons q (Vals.set r i t)
theorem Vals.append:∀{xs ys:List V} {us ws:List Value},Vals xs us->Vals ys ws->Vals (xs++ys) (us++ws)
 | _,_,_,_,.nil,s=>s
 | _,_,_,_,.cons r t,s=>.cons r (Vals.append t s)
theorem Vals.take:∀{xs:List V} {us:List Value} (n:Nat),Vals xs us->Vals (xs.take n) (us.take n)
 | _,_,0,_=>.nil
 | _,_,_+1,.nil=>.nil
 | _,_,n+1,.cons r t=>.cons r (Vals.take n t)
theorem Vals.drop:∀{xs:List V} {us:List Value} (n:Nat),Vals xs us->Vals (xs.drop n) (us.drop n)
 | _,_,0,r=>r
 | _,_,_+1,.nil=>.nil
 | _,_,n+1,.cons _ t=>Vals.drop n t
def RelO:Option V->Option Value->Prop
 | some v,some u=>RelV v u
 | none,none=>True
 | _,_=>False
def KV{κ:Type}:List (κ×V)->List (κ×Value)->Prop:=Paired λ(p:κ×V) (q:κ×Value)=>p.1=q.1/\RelV p.2 q.2
def kV:Key->V
 | .inl i=>.int i
 | .inr x=>.str x
inductive HO where
 | lst (xs:List V)
 | tup (xs:List V)
 | dK (kvs:List (Key×V))|dT (kvs:List (List Key×V))
 | set (S:Int->Bool) (n:Nat)
 | ins (C dx:Addr) (fs:List (Str×V))
 | own (x:Addr)
 | xd (fs:List (Str×V))
 | met (f x:Addr)
 | rng (lo hi:Int)
 | frz (o:Obj) (u:HO)
 | tbl (ps:Array Value)
 | ext (φ:Heap->Prop)
abbrev Hp:=Addr->Option HO
def upd(H:Hp)(a:Addr)(o:HO):Hp:=λb=>if b=a then some o else H b
variable{H H' H2 H₀:L2.Hp}
theorem Z4{o:HO}:upd H a o a=some o:=by unfold upd;rw[if_pos rfl]
theorem Z2{b:Addr}{o:HO}(h:b≠a):upd H a o b=H b:=by unfold upd;rw[if_neg h]
theorem eo0{b:Addr}{o u:HO}(h:H a=some o)(h':H b=some u)(d:o≠u):a≠b:=by
 intro e;subst e;rw[h] at h';exact d (B4 h')
theorem S6{b:Addr}{o:HO}(h:H a=some o)(h':H b=none):a≠b:=by
 intro e;subst e;rw[h] at h';cases h'
def IsTupN(h:Heap)(a:Addr)(items:Array Value):Prop:=∃o,h.get? a=some o/\o.cls=.type "tuple"/\∃n,o.data=.seq items n/\o.dict=none
theorem IsTupN.tup{h:Heap}(x:IsTupN h a items):IsTup h a items:=let ⟨o,e,c,n,d,_⟩:=x;⟨o,e,c,n,d⟩
theorem IsTupN.new(h:Heap)(items:Array Value):IsTupN (h.push { cls:=.type "tuple",data:=.seq items }) h.objs.size items:=⟨_,B9 _ rfl,rfl,_,rfl,rfl⟩
def qOf(ps:Array Value):Str:=match (ps[0]?:Option Value) with
 | some (.str q _)=>q
 | _ => ""
def TabOk(H:Hp)(h:Heap)(a:Addr)(q:Str):Prop:=∃cont:Array Value,h.get? a=some { cls:=.none,data:=.fields cont }/\TriplesOk cont.toList /\
 ∀pos cv,codeAmong pos cont.toList=some cv->∃c oc vs tq,cv=.ref c/\H c=some (.frz oc (.own c))/\oc.data=.fields vs/\vs[1]?=some (.str q tq)
section
variable(P:Program)(w:World)
def ObjOk(H:Hp)(h:Heap)(a:Addr):HO->Prop
 | .lst xs=>xs.length<=sizeLine/\∃(its:List Value) (n:Nat),Vals xs its/\h.get? a=some { cls:=.type "list",data:=.seq its.toArray n }
 | .tup xs=>xs.length<=sizeLine/\∃its:List Value,Vals xs its/\IsTupN h a its.toArray
 | .dK kvs=>kvs.length<=sizeLine/\(a==sysModules)=false/\∃vs,KV kvs vs/\h.DictOf (Q7 P w) a vs
 | .dT kvs=>kvs.length<=sizeLine/\(a==sysModules)=false/\∃xs:List (List Key×Addr×Value),
   Paired (λ(p:List Key×V) (q:List Key×Addr×Value)=>p.1=q.1/\H q.2.1=some (.tup (p.1.map kV))/\RelV p.2 q.2.2) kvs xs /\
   ∃o es ep,h.get? a=some o/\o.ExactDict/\o.data=.dict es ep/\es.toList=xs.map (entryOfKey (tupleKind (Q7 P w)))/\(xs.map (·.1)).Nodup/\ep=es.size
 | .set S n=>h.SetOf (intKind P w) a S n
 | .ins C dx fs=>H dx=some (.own a)/\fs.length<=1000/\dx≠a/\h.get? a=some (W.instObj C dx) /\
   ∃mA,h.Ns1 dx mA/\(∀f,RelO (fs.lookup f) (mA f))/\PySem.Within mA (fs.map (·.1))
 | .own _=>∃o,h.get? a=some o
 | .xd fs=>∃mA,h.Ns1 a mA/\∀f,RelO (fs.lookup f) (mA f)
 | .rng lo hi=>∃t u v,h.get? a=some { cls:=.type "range",data:=.fields #[.int lo t,.int hi u,.int 1 v] }
 | .frz o u=>h.get? a=some o/\ObjOk H h a u
 | .tbl ps=>TabOk H h a (qOf ps)
 | .met f x=>h.get? a=some (W.methodObj (.ref f) (.ref x))
 | .ext φ=>φ h/\(∃o,h.get? a=some o)/\∀h1 h2:Heap,φ h1->(∀o,h1.get? a=some o->h2.get? a=some o)->φ h2
def HOk(H:Hp)(h:Heap):Prop:=∀a o,H a=some o->ObjOk P w H h a o
end
section
variable{P:Program}{w:World}{h:Heap}{o:HO}
theorem ObjOk.lt(x:ObjOk P w H h a o):a<h.objs.size:=by
 cases o with
 | lst xs=>obtain⟨_,_,_,_,e⟩:=x;exact A6 e
 | tup xs=>obtain⟨_,_,_,p⟩:=x;exact p.tup.lt
 | dK kvs=>obtain⟨_,_,_,_,o,_,_,e,_⟩:=x;exact A6 e
 | dT kvs=>obtain⟨_,_,_,_,o,_,_,e,_⟩:=x;exact A6 e
 | set S n=>obtain⟨o,_,_,_,e,_⟩:=x;exact A6 e
 | ins C dx fs=>obtain⟨_,_,_,e,_⟩:=x;exact A6 e
 | own y=>obtain⟨_,e⟩:=x;exact A6 e
 | xd fs=>obtain⟨_,⟨_,_,_,e,_⟩,_⟩:=x;exact A6 e
 | rng lo hi=>obtain⟨_,_,_,e⟩:=x;exact A6 e
 | frz ob u=>obtain⟨e,_⟩:=x;exact A6 e
 | tbl ps=>obtain⟨_,e,_⟩:=(show TabOk H h a (qOf ps) from x);exact A6 e
 | met f y=>exact A6 (show h.get? a=some _ from x)
 | ext φ=>obtain⟨_,⟨_,e⟩,_⟩:=x;exact A6 e
theorem Paired.mapP{F G:α->β->Prop}:∀{l₁:List α} {l₂:List β},Paired F l₁ l₂->(∀a b,F a b->G a b)->Paired G l₁ l₂
 | _,_,.nil,_=>.nil
 | _,_,.cons r t,f=>.cons (f _ _ r) (Paired.mapP t f)
theorem ObjOk.stay(x:ObjOk P w H h a o)(k:∀b u,(b=a∨H b=some (.own a))->h.get? b=some u->h'.get? b=some u)
  (ho:∀b,H b=some (.own a)->H' b=some (.own a)) (ht:∀b xs,H b=some (.tup xs)->H' b=some (.tup xs)) (hf:∀b ob u,H b=some (.frz ob u)->H' b=some (.frz ob u)):ObjOk P w H' h' a o:=by
 induction o with
 | lst xs=>obtain⟨z,its,n,r,e⟩:=x;exact⟨z,its,n,r,k _ _ (.inl rfl) e⟩
 | tup xs=>obtain⟨z,its,r,ob,e,c⟩:=x;exact⟨z,its,r,ob,k _ _ (.inl rfl) e,c⟩
 | dK kvs=>obtain⟨z,y,vs,r,ob,es,ep,e,c⟩:=x;exact⟨z,y,vs,r,ob,es,ep,k _ _ (.inl rfl) e,c⟩
 | dT kvs =>
  obtain⟨z,y,xs,r,ob,es,ep,e,c⟩:=x;exact⟨z,y,xs,Paired.mapP r λp q z=>⟨z.1,ht _ _ z.2.1,z.2.2⟩,ob,es,ep,k _ _ (.inl rfl) e,c⟩
 | set S n=>obtain⟨ob,es,ep,t,e,c⟩:=x;exact⟨ob,es,ep,t,k _ _ (.inl rfl) e,c⟩
 | ins C dx fs =>
  obtain⟨d,z,ne,e,mA,⟨od,es,ep,e2,c⟩,r⟩:=x;exact⟨ho _ d,z,ne,k _ _ (.inl rfl) e,mA,⟨od,es,ep,k _ _ (.inr d) e2,c⟩,r⟩
 | own y=>obtain⟨ob,e⟩:=x;exact⟨ob,k _ _ (.inl rfl) e⟩
 | xd fs=>obtain⟨mA,⟨od,es,ep,e,c⟩,r⟩:=x;exact⟨mA,⟨od,es,ep,k _ _ (.inl rfl) e,c⟩,r⟩
 | rng lo hi=>obtain⟨t,u,v,e⟩:=x;exact⟨t,u,v,k _ _ (.inl rfl) e⟩
 | frz ob u ih=>obtain⟨e,q⟩:=x;exact⟨k _ _ (.inl rfl) e,ih q⟩
 | tbl ps =>
  obtain⟨cont,e,t,c⟩:=(show TabOk H h a (qOf ps) from x);exact⟨cont,k a _ (.inl rfl) e,t,λpos cv q=>let ⟨c',oc,vs,tq,z1,z2,z3⟩:=c pos cv q;⟨c',oc,vs,tq,z1,hf _ _ _ z2,z3⟩⟩
 | met f y =>
  have e:h.get? a=some (W.methodObj (.ref f) (.ref y)):=x;show h'.get? a=some (W.methodObj (.ref f) (.ref y));exact k a _ (.inl rfl) e
 | ext φ=>obtain⟨p,⟨o,e⟩,st⟩:=x;exact⟨st _ _ p λo q=>k _ _ (.inl rfl) q,⟨o,k _ _ (.inl rfl) e⟩,st⟩
theorem HOk.lt(x:HOk P w H h)(e:H a=some o):a<h.objs.size:=(x a o e).lt
theorem HOk.fresh(x:HOk P w H h)(e:h.objs.size<=a):H a=none:=by
 cases q:H a with
 | none=>rfl
 | some u=>exact absurd (D0 (x.lt q) e) (G0 _)
theorem HOk.kept(x:HOk P w H h)(k:∀b u,h.get? b=some u->h'.get? b=some u):HOk P w H h':=λa o e =>
 (x a o e).stay (λb u _ q=>k b u q) (λ_ q=>q) (λ_ _ q=>q) λ_ _ _ q=>q
theorem HOk.laid(x:HOk P w H h)(k:∀b u,h.get? b=some u->h'.get? b=some u)(hp:h.objs.size<=a)(new:ObjOk P w (upd H a o) h' a o):HOk P w (upd H a o) h':=λb u e=>by
 have hn:=x.fresh hp
 by_cases hb:b=a
 ·subst hb;rw[Z4] at e;cases e;exact new
 ·rw[Z2 hb] at e
  exact(x b u e).stay (λc v _ q=>k c v q) (λc q=>by rw[Z2 (S6 q hn)];exact q) (λc xs q=>by rw[Z2 (S6 q hn)];exact q) λc ob u' q=>by rw[Z2 (S6 q hn)];exact q
end
def Rd(H:Hp)(a:Addr)(u:HO):Prop:=H a=some u∨∃o,H a=some (.frz o u)
theorem Rd.ok{P:Program}{w:World}{h:Heap}{u:HO}(r:Rd H a u)(x:HOk P w H h):ObjOk P w H h a u:=by
 rcases r with r|⟨o,r⟩
 ·exact x a u r
 ·obtain⟨_,q⟩:=x a _ r
  exact q
def Mut:Option HO->Prop
 | some (.lst _)=>True
 | some (.dK _)=>True
 | some (.dT _)=>True
 | some (.set _ _)=>True
 | some (.ins _ _ _)=>True
 | some (.ext _)=>True
 | _=>False
section
variable{P:Program}{w:World}{h:Heap}{x e:Addr}{o':HO}
theorem HOk.write(ok:HOk P w H h)(mu:Mut (H x))(he:e=x∨H e=some (.own x))(k:∀b u,b≠e->h.get? b=some u->h'.get? b=some u)(heo:∃u,h'.get? e=some u)
  (new:ObjOk P w (upd H x o') h' x o'):HOk P w (upd H x o') h':=λb u q=>by
 have J:∀c y,H c=some (.own y)->c≠x:=λc y r z=>by subst z;rw[r] at mu;exact mu
 have M:∀c xs,H c=some (.tup xs)->c≠x:=λc xs r z=>by subst z;rw[r] at mu;exact mu
 have O:∀c ob u',H c=some (.frz ob u')->c≠x:=λc ob u' r z=>by subst z;rw[r] at mu;exact mu
 by_cases hb:b=x
 ·subst hb;rw[Z4] at q;cases q;exact new
 ·rw[Z2 hb] at q
  by_cases hbe:b=e
  ·have q':H b=some (.own x):=by
    rcases he with z|z
    ·exact absurd (hbe.trans z) hb
    ·rw[hbe];exact z
   rw[q] at q';cases q';obtain⟨v,hv⟩:=heo;exact⟨v,by rw[hbe];exact hv⟩
  ·refine(ok b u q).stay (λc v hc r=>k c v ?_ r) (λc r=>by rw[Z2 (J c b r)];exact r) (λc xs r=>by rw[Z2 (M c xs r)];exact r) λc ob u' r=>by rw[Z2 (O c ob u' r)];exact r
   rcases hc with rfl|hc
   ·exact hbe
   ·rintro rfl
    rcases he with z|z
    ·exact J c b hc z
    ·rw[hc] at z;cases z;exact hb rfl
end
structure Un(fs ex:List Addr)(H H':Hp)(h h':Heap):Prop where
 keep:∀b o,h.get? b=some o->H b=none->b∉fs->b∉ex->h'.get? b=some o
 slot:∀b o,h.get? b=some o->H b=none->b∈fs->b∉ex->∃sl,h'.get? b=some { o with slots:=sl }
 free:∀b o,h.get? b=some o->H b=none->b∉ex->H' b=none
 there:∀b o,h.get? b=some o->b∉ex->∃o',h'.get? b=some o'
 tups:∀b xs,H b=some (.tup xs)->H' b=some (.tup xs)
 frzs:∀b o u,H b=some (.frz o u)->H' b=some (.frz o u)
 tbls:∀b ps,H b=some (.tbl ps)->∃more,H' b=some (.tbl (ps++more))
section
variable{fs fs' ex ex':List Addr}{H1:Hp}{h h1 h2:Heap}{x e:Addr}{o:HO}
theorem Un.any(u:Un fs ex H H1 h h1){b:Addr}{ob:Obj}(q:h.get? b=some ob)(n:H b=none)(hx:b∉ex):∃sl,h1.get? b=some { ob with slots:=sl }:=by
 by_cases hb:b∈fs
 ·exact u.slot b ob q n hb hx
 ·exact⟨ob.slots,u.keep b ob q n hb hx⟩
theorem Un.kept(k:∀b u,h.get? b=some u->h'.get? b=some u):Un fs ex H H h h' :=
 ⟨λb ob q _ _ _=>k b ob q,λb ob q _ _ _=>⟨ob.slots,k b ob q⟩,λ_ _ _ n _=>n,λb ob q _=>⟨ob,k b ob q⟩,λ_ _ q=>q,λ_ _ _ q=>q,λ_ ps q=>⟨#[],by rw[q];simp⟩⟩
theorem Un.refl:Un fs ex H H h h:=Un.kept λ_ _ q=>q
theorem Un.laid(k:∀b u,h.get? b=some u->h'.get? b=some u)(hp:h.objs.size<=a)(hn:H a=none):Un fs ex H (upd H a o) h h' where
 keep:=λb u q _ _ _=>k b u q
 slot:=λb u q _ _ _=>⟨u.slots,k b u q⟩
 free:=λb u q n _=>by rw[Z2 (B8 (D0 (A6 q) hp))];exact n
 there:=λb u q _=>⟨u,k b u q⟩
 tups:=λb xs q=>by rw[Z2 (S6 q hn)];exact q
 frzs:=λb u xs q=>by rw[Z2 (S6 q hn)];exact q
 tbls:=λb ps q=>⟨#[],by rw[Z2 (S6 q hn),q];simp⟩
theorem Un.write(mu:Mut (H x))(he:e=x∨H e=some (.own x))(k:∀b u,b≠e->h.get? b=some u->h'.get? b=some u)(heo:∃u,h'.get? e=some u):Un fs ex H (upd H x o) h h':=by
 have hx:∀b,H b=none->b≠x:=λb n z=>by subst z;rw[n] at mu;exact mu
 have hb:∀b,H b=none->b≠e:=λb n z=>by
  subst z;rcases he with r|r
  ·exact hx b n r
  ·rw[n] at r;cases r
 have hm:∀b u,H b=some u->¬Mut (some u)->b≠x:=λb u q nm z=>by subst z;rw[q] at mu;exact nm mu
 refine⟨λb u q n _ _=>k b u (hb b n) q,λb u q n _ _=>⟨u.slots,k b u (hb b n) q⟩,λb u q n _=>by rw[Z2 (hx b n)];exact n,λb u q _=>?_,
  λb xs q=>by rw[Z2 (hm b _ q λz=>z)];exact q,λb u xs q=>by rw[Z2 (hm b _ q λz=>z)];exact q,λb ps q=>⟨#[],by rw[Z2 (hm b _ q λz=>z),q];simp⟩⟩
 by_cases hbe:b=e
 ·subst hbe;exact heo
 ·exact⟨u,k b u hbe q⟩
end
def trk(h:Heap)(H:Hp):List Addr:=(List.range h.objs.size).filter λa=>(H a).isSome
def v60(h:Heap)(H:Hp):Heap:=W.hideAll h (trk h H)
theorem j50(h:Heap)(H:Hp):(v60 h H).objs.size=h.objs.size:=W.hideAll_size _ _
theorem fp0{h:Heap}{b:Addr}{o:Obj}(e:h.get? b=some o)(n:H b=none):(v60 h H).get? b=some o :=
 W.hideAll_get _ e λhm=>by
  have q:(H b).isSome=true:=(List.mem_filter.mp hm).2;rw[n] at q;simp at q
theorem ew0{h:Heap}{b:Addr}{o:Obj}(e:(v60 h H).get? b=some o):h.get? b=some o/\H b=none:=by
 have e':h.get? b=some o:=W.of_hideAll (trk h H) e;refine⟨e',?_⟩;cases q:H b with
 | none=>rfl
 | some x =>
  have hm:b∈trk h H:=List.mem_filter.mpr ⟨E5.mpr (A6 e'),by simp[q]⟩;have z:(v60 h H).get? b=none:=W.hideAll_none (trk h H) hm;rw[z] at e;cases e
structure Mod(K:W.Frag)(mg:Str->Option Value)(base:Heap):Prop where
 kin:K.In base
 glob:base.Ns mainGlobals mg
 blt:∃mb,base.Ns builtinsNs mb/\∀x:Str,x ≠"__name__"->mb x=bootBuiltins x
 nolimit:base.NoLimit
structure Cx where
 prog:Program
 w:World
 K:W.Frag
 mg:Str->Option Value
 base:Heap
 A:Around
 N:List Str
 s₀:Shared
 H₀:Hp
 env:Env
 outer:List Env
 stack:List Env
 ex:List Addr
 fn:Str->Bool
 calm:Bool
 pn:List (Addr×Obj)
 xe:Value->Shared->Prop
variable{X:L2.Cx}
def frs(l:List Env):List Addr:=l.filterMap (·.frame)
abbrev Cx.fs(X:Cx):List Addr:=frs X.outer
def Vis(sc:Scope)(x:Str):Prop:=sc.names.lookup x=some .local∨sc.names.lookup x=some .cell∨sc.names.lookup x=some .free
def Loc(sc:Scope)(x:Str):Prop:=sc.names.lookup x=some .local∨sc.names.lookup x=some .cell
def Look(env:Env)(h:Heap)(m:Str->Option Value)(x:Str)(u:Value):Prop :=
 (env.kindOf x=some .local/\m x=some u)∨((env.kindOf x=some .cell∨env.kindOf x=some .free)/\∃c,env.cells.lookup x=some c/\h.IsCell c (some u))
structure Cx.Ok(X:Cx):Prop where
 mod:Mod X.K X.mg X.base
 kind:X.env.scope.kind=.function
 glob:X.env.globals=mainGlobals
 blt:X.env.builtins=builtinsNs
 above:X.s₀.heap.objs.size<=X.env.locals
 inj:∀x y c,X.env.cells.lookup x=some c->X.env.cells.lookup y=some c->x=y
 has:∀x,(X.env.kindOf x=some .cell∨X.env.kindOf x=some .free)->∃c,X.env.cells.lookup x=some c
 cab:∀x c,X.fn x=true->X.env.cells.lookup x=some c->X.s₀.heap.objs.size<=c
 hd:X.calm=true->X.A.handled=none
 frames:X.A.frames=some X.stack
 stk:X.stack=X.outer∨(X.stack=X.env::X.outer/\X.env.frame=some X.env.locals)
 exf:∀b∈X.ex,b≠X.env.locals/\∀x c,X.env.cells.lookup x=some c->c≠b
 bs:∀b o,X.base.get? b=some o->X.s₀.heap.get? b=some o/\X.H₀ b=none
 bsz:X.base.objs.size<=X.s₀.heap.objs.size
 noex:∀b o,X.base.get? b=some o->b∉X.ex
 exfs:∀b∈X.ex,b∉X.fs
 funs:X.s₀.heap.FunFrames X.base X.outer
 frf:∀b∈X.fs,X.H₀ b=none
structure Inv(X:Cx)(pins:List (Addr×Obj))(σ:List (Option V))(H:Hp)(s:Shared):Prop where
 ok:X.Ok
 os:s.os=X.s₀.os
 bare:AllBare s.gens
 base:Un X.fs X.ex X.H₀ H X.s₀.heap s.heap
 loc:∃m,s.heap.Ns X.env.locals m/\∀(i:Nat) (x:Str) (v:V),X.N[i]?=some x->σ[i]?=some (some v)->Vis X.env.scope x->∃u,RelV v u/\Look X.env s.heap m x u
 cell:∀x c,X.env.cells.lookup x=some c->∃v,s.heap.IsCell c v
 free:H X.env.locals=none
 freeC:∀x c,X.env.cells.lookup x=some c->H c=none
 pin:∀p∈X.pn++pins,s.heap.get? p.1=some p.2/\H p.1=none/\p.1≠X.env.locals/\p.1∉X.fs/\∀v,p.2.data≠.cell v
 hok:HOk X.prog X.w H s.heap
 len:σ.length=X.N.length
section
variable{s:Shared}
theorem Cx.Ok.nofr(ok:X.Ok){b:Addr}{o:Obj}(e:X.base.get? b=some o):b∉X.fs:=λhb=>by
 have:=(ok.funs.mem hb).1;rw[e] at this;cases this
theorem Inv.bs(I:Inv X pins σ H s):∀b o,X.base.get? b=some o->s.heap.get? b=some o/\H b=none:=λb o e =>
 ⟨I.base.keep b o (I.ok.bs b o e).1 (I.ok.bs b o e).2 (I.ok.nofr e) (I.ok.noex b o e),I.base.free b o (I.ok.bs b o e).1 (I.ok.bs b o e).2 (I.ok.noex b o e)⟩
theorem Inv.bk(I:Inv X pins σ H s):∀b o,X.base.get? b=some o->s.heap.get? b=some o:=λb o e=>(I.bs b o e).1
theorem Inv.mod(I:Inv X pins σ H s):Mod X.K X.mg X.base:=I.ok.mod
theorem Inv.kIn(I:Inv X pins σ H s):X.K.In s.heap:=I.ok.mod.kin.keeps I.bk
theorem Inv.lt(I:Inv X pins σ H s):X.env.locals<s.heap.objs.size:=let ⟨_,hn,_⟩:=I.loc;hn.lt
theorem Inv.sz(I:Inv X pins σ H s):X.s₀.heap.objs.size<=s.heap.objs.size:=C5 I.ok.above (Y3 I.lt)
theorem Inv.nofs(I:Inv X pins σ H s)(h:s.heap.objs.size<=a):a∉X.fs:=λhb=>by
 obtain⟨_,o,ho,_⟩:=I.ok.funs.mem hb;exact absurd (D0 (A6 ho) (C5 I.sz h)) (G0 _)
theorem Inv.cne(I:Inv X pins σ H s):∀x c,X.env.cells.lookup x=some c->c≠X.env.locals:=λx c e z=>by
 obtain⟨v,o,ho,hd⟩:=I.cell x c e;obtain⟨m,⟨o',es,ep,M,J,_⟩,_⟩:=I.loc;rw[z,M] at ho;cases ho;rw[J] at hd;cases hd
theorem Inv.funs(I:Inv X pins σ H s):s.heap.FunFrames X.base X.outer:=by
 have all:∀(l:List Env),(∀b∈frs l,b∈X.fs)->X.s₀.heap.FunFrames X.base l->s.heap.FunFrames X.base l:=by
  intro l
  induction l with
  | nil=>intro _ _;trivial
  | cons env r ih =>
   intro hs hl;obtain⟨hk,⟨L,o,hf,hn,ho,hd⟩,hr⟩:=hl;have hL:L∈X.fs:=hs L (by unfold frs;rw[List.filterMap_cons,hf];exact A5);obtain⟨sl,e⟩:=I.base.slot L o ho (I.ok.frf L hL) hL λz=>I.ok.exfs L z hL
   exact⟨hk,⟨L,_,hf,hn,e,hd⟩,ih (λb hb=>hs b (by unfold frs;rw[List.filterMap_cons,hf];exact C2 _ hb)) hr⟩
 exact all X.outer (λ_ hb=>hb) I.ok.funs
theorem Inv.stack(I:Inv X pins σ H s):s.heap.FunFrames X.base X.stack:=by
 rcases I.ok.stk with e|⟨e,hf⟩
 ·rw[e];exact I.funs
 ·rw[e]
  obtain⟨m,hn,_⟩:=I.loc;refine .cons (by rw[I.ok.kind];decide) hf hn ?_ I.funs;exact Heap.get?_none_of_le (C5 I.ok.bsz I.ok.above)
theorem Inv.stkSub(I:Inv X pins σ H s):∀b∈frs X.stack,b∈X.env.locals::X.fs:=λb hb=>by
 rcases I.ok.stk with e|⟨e,hf⟩
 ·rw[e] at hb;exact C2 _ hb
 ·rw[e] at hb
  unfold frs at hb;rw[List.filterMap_cons,hf] at hb;exact hb
theorem Inv.stkFree(I:Inv X pins σ H s):∀b∈frs X.stack,H b=none:=λb hb=>by
 rcases C0.mp (I.stkSub b hb) with e|hb
 ·rw[e];exact I.free
 ·obtain⟨_,o,ho,_⟩:=I.ok.funs.mem hb
  exact I.base.free b o ho (I.ok.frf b hb) λz=>I.ok.exfs b z hb
theorem Inv.step{g':Array GenState}{t':Nat}{d':Drawn}{ch:List Addr}(I:Inv X pins σ H s)
  (hch:∀b∈ch,(b∈X.ex∨X.s₀.heap.objs.size<=b)/\b≠X.env.locals/\(∀x c,X.env.cells.lookup x=some c->c≠b)/\∀p∈X.pn++pins,p.1≠b)
  (keep:∀b o,b≠X.env.locals->b∉X.fs->b∉ch->s.heap.get? b=some o->H b=none->h'.get? b=some o)
  (slot:∀b o,b≠X.env.locals->b∈X.fs->b∉ch->s.heap.get? b=some o->H b=none->∃sl,h'.get? b=some { o with slots:=sl }) (free:∀b o,b∉ch->s.heap.get? b=some o->H b=none->H' b=none)
  (there:∀b o,b∉ch->s.heap.get? b=some o->∃o',h'.get? b=some o')
  (tups:∀b xs,H b=some (.tup xs)->H' b=some (.tup xs)) (frzs:∀b o u,H b=some (.frz o u)->H' b=some (.frz o u)) (tbls:∀b ps,H b=some (.tbl ps)->∃more,H' b=some (.tbl (ps++more)))
  (ns:∀m,s.heap.Ns X.env.locals m->h'.Ns X.env.locals m) (hok:HOk X.prog X.w H' h') (hg:AllBare g') :
  Inv X pins σ H' { s with heap:=h',gens:=g',drawn:=d',toks:=t' }:=by
 have S:∀b o,X.s₀.heap.get? b=some o->b≠X.env.locals:=λb o e=>B8 (D0 (A6 e) I.ok.above)
 have O:∀b o,X.s₀.heap.get? b=some o->b∉X.ex->b∉ch:=λb o e hx hb=>by
  rcases (hch b hb).1 with z|z
  ·exact hx z
  ·exact absurd (D0 (A6 e) z) (G0 _)
 have M:∀x c,X.env.cells.lookup x=some c->∀v,s.heap.IsCell c v->h'.IsCell c v:=λx c e v ⟨o,ho,hd⟩=>by
  have J:c∉ch:=λz=>(hch c z).2.2.1 x c e rfl
  by_cases hc:c∈X.fs
  ·obtain⟨sl,q⟩:=slot c o (I.cne x c e) hc J ho (I.freeC x c e)
   exact⟨_,q,hd⟩
  ·exact⟨o,keep c o (I.cne x c e) hc J ho (I.freeC x c e),hd⟩
 refine⟨I.ok,I.os,hg,⟨λb o e n hb hx=>?_,λb o e n hb hx=>?_,λb o e n hx=>?_,λb o e hx=>?_,λb xs e=>tups b xs (I.base.tups b xs e),λb o xs e=>frzs b o xs (I.base.frzs b o xs e),λb ps e=>?_⟩,?_,λx c e=>?_,?_,λx c e=>?_,λp hp=>?_,hok,I.len⟩
 ·exact keep b o (S b o e) hb (O b o e hx) (I.base.keep b o e n hb hx) (I.base.free b o e n hx)
 ·obtain⟨sl,e1⟩:=I.base.slot b o e n hb hx
  obtain⟨U,e2⟩:=slot b _ (S b o e) hb (O b o e hx) e1 (I.base.free b o e n hx);exact⟨U,e2⟩
 ·obtain⟨o',e1⟩:=I.base.there b o e hx
  exact free b o' (O b o e hx) e1 (I.base.free b o e n hx)
 ·obtain⟨o',e1⟩:=I.base.there b o e hx
  exact there b o' (O b o e hx) e1
 ·obtain⟨m1,e1⟩:=I.base.tbls b ps e
  obtain⟨m2,e2⟩:=tbls b _ e1;exact⟨m1++m2,by rw[e2,Array.append_assoc]⟩
 ·obtain⟨m,hn,hl⟩:=I.loc
  refine⟨m,ns m hn,λi x v e1 e2 e3=>?_⟩;obtain⟨u,r,l⟩:=hl i x v e1 e2 e3;refine⟨u,r,?_⟩;rcases l with l|⟨k,c,e,z⟩
  ·exact .inl l
  ·exact .inr ⟨k,c,e,M x c e _ z⟩
 ·obtain⟨v,z⟩:=I.cell x c e
  exact⟨v,M x c e v z⟩
 ·obtain⟨m,⟨o,_,_,ho,_⟩,_⟩:=I.loc
  exact free _ o (λz=>(hch _ z).2.1 rfl) ho I.free
 ·obtain⟨v,o,ho,hd⟩:=I.cell x c e
  exact free c o (λz=>(hch c z).2.2.1 x c e rfl) ho (I.freeC x c e)
 ·obtain⟨e,n,ne,nf,d⟩:=I.pin p hp
  have J:p.1∉ch:=λz=>(hch p.1 z).2.2.2 p hp rfl
  exact⟨keep p.1 p.2 ne nf J e n,free p.1 p.2 J e n,ne,nf,d⟩
theorem Inv.un(I:Inv X pins σ H s)(u:Un X.fs [] H H' s.heap h')(hok:HOk X.prog X.w H' h'):Inv X pins σ H' { s with heap:=h',toks:=t' }:=by
 obtain⟨m,⟨o,es,ep,ho,r⟩,_⟩:=id I.loc;obtain⟨sl,hL⟩:=u.any ho I.free (by simp);exact I.step (g':=s.gens) (d':=s.drawn) (ch:=[]) (λ_ z=>nomatch z) (λb o _ hb _ e n=>u.keep b o e n hb (by simp)) (λb o _ hb _ e n=>u.slot b o e n hb (by simp)) (λb o _ e n=>u.free b o e n (by simp)) (λb o _ e=>u.there b o e (by simp)) u.tups u.frzs u.tbls (λm' hm=>by
  obtain⟨o',O,M,J,r'⟩:=hm;rw[ho] at J;cases J;exact⟨_,O,M,hL,r'⟩) hok I.bare
theorem Inv.call{g':Array GenState}{t':Nat}{d':Drawn}(I:Inv X pins σ H s)(u:Un (frs X.stack) ch H H' s.heap h')(hok:HOk X.prog X.w H' h')(hg:AllBare g')
  (hch:∀b∈ch,(b∈X.ex∨X.s₀.heap.objs.size<=b)/\b≠X.env.locals/\(∀x c,X.env.cells.lookup x=some c->c≠b)/\∀p∈X.pn++pins,p.1≠b) :
  Inv X pins σ H' { s with heap:=h',gens:=g',drawn:=d',toks:=t' }:=by
 obtain⟨m,⟨o,es,ep,ho,r⟩,_⟩:=id I.loc;obtain⟨sl,hL⟩:=u.any ho I.free λz=>(hch _ z).2.1 rfl
 exact I.step (ch:=ch) hch (λb o hL hb hc e n=>u.keep b o e n (λz=>(C0.mp (I.stkSub b z)).elim hL hb) hc) (λb o _ _ hc e n=>u.any e n hc) (λb o hc e n=>u.free b o e n hc) (λb o hc e=>u.there b o e hc) u.tups u.frzs u.tbls (λm' hm=>by
  obtain⟨o',O,M,J,r'⟩:=hm;rw[ho] at J;cases J;exact⟨_,O,M,hL,r'⟩) hok hg
theorem Inv.turned{t':Nat}(I:Inv X pins σ H s)(k:∀b o,b≠it->s.heap.get? b=some o->h'.get? b=some o)(hn:H it=none)(hL:it≠X.env.locals)
  (h1:it∈X.ex∨X.s₀.heap.objs.size<=it) (h2:∀x c,X.env.cells.lookup x=some c->c≠it) (h3:∀p∈X.pn++pins,p.1≠it):Inv X pins σ H { s with heap:=h',toks:=t' }:=by
 have J:∀b u,H b=some u->b≠it:=λb u e z=>by rw[z,hn] at e;cases e
 refine I.step (g':=s.gens) (d':=s.drawn) (ch:=[it]) (λb hb=>?_) (λb o _ _ hc e _=>k b o (λz=>hc (by simp[z])) e) (λb o _ _ hc e _=>⟨o.slots,k b o (λz=>hc (by simp[z])) e⟩) (λ_ _ _ _ n=>n)
  (λb o hc e=>⟨o,k b o (λz=>hc (by simp[z])) e⟩) (λ_ _ e=>e) (λ_ _ _ e=>e) (λb ps e=>⟨#[],by rw[e];simp⟩) (λm hm=>?_) (λb u e=>?_) I.bare
 ·have e:b=it:=by simpa using hb
  subst e;exact⟨h1,hL,h2,h3⟩
 ·obtain⟨o,es,ep,ho,r⟩:=hm
  exact⟨o,es,ep,k _ o (C1 hL) ho,r⟩
 ·refine(I.hok b u e).stay (λc v hc q=>k c v ?_ q) (λ_ q=>q) (λ_ _ q=>q) λ_ _ _ q=>q
  rcases hc with z|z
  ·rw[z];exact J b u e
  ·exact J c _ z
theorem Inv.tok(I:Inv X pins σ H s)(t:Nat):Inv X pins σ H { s with toks:=t }:=I.un (h':=s.heap) (t':=t) Un.refl I.hok
theorem Inv.kept(I:Inv X pins σ H s)(k:∀b u,s.heap.get? b=some u->h'.get? b=some u):Inv X pins σ H { s with heap:=h',toks:=t' }:=I.un (Un.kept k) (I.hok.kept k)
theorem Inv.laid{o:HO}{t':Nat}(I:Inv X pins σ H s)(k:∀b u,s.heap.get? b=some u->h'.get? b=some u)(hp:s.heap.objs.size<=a)(new:ObjOk X.prog X.w (upd H a o) h' a o) :
  Inv X pins σ (upd H a o) { s with heap:=h',toks:=t' }:=I.un (Un.laid k hp (I.hok.fresh hp)) (I.hok.laid k hp new)
theorem Inv.write{x e:Addr}{o:HO}{t':Nat}(I:Inv X pins σ H s)(mu:Mut (H x))(he:e=x∨H e=some (.own x))(k:∀b u,b≠e->s.heap.get? b=some u->h'.get? b=some u)(heo:∃u,h'.get? e=some u)
  (new:ObjOk X.prog X.w (upd H x o) h' x o):Inv X pins σ (upd H x o) { s with heap:=h',toks:=t' }:=I.un (Un.write mu he k heo) (I.hok.write mu he k heo new)
theorem Inv.weak{σ':List (Option V)}(I:Inv X pins σ H s)(hl:σ'.length=σ.length)(w:∀(i:Nat) v,σ'[i]?=some (some v)->σ[i]?=some (some v)):Inv X pins σ' H s :=
 ⟨I.ok,I.os,I.bare,I.base,let ⟨m,hn,hl'⟩:=I.loc;⟨m,hn,λi x v e1 e2 e3=>hl' i x v e1 (w i v e2) e3⟩,I.cell,I.free,I.freeC,I.pin,I.hok,hl.trans I.len⟩
theorem Inv.pins_of{pins':List (Addr×Obj)}(I:Inv X pins σ H s)(h:∀p∈pins',s.heap.get? p.1=some p.2/\H p.1=none/\p.1≠X.env.locals/\p.1∉X.fs/\∀v,p.2.data≠.cell v):Inv X pins' σ H s :=
 ⟨I.ok,I.os,I.bare,I.base,I.loc,I.cell,I.free,I.freeC,λp hp=>(C3.mp hp).elim (λz=>I.pin p (N1 _ z)) (h p),I.hok,I.len⟩
theorem op0(hN:N.Nodup)(a:N[i]?=some x)(b:N[j]?=some x):i=j:=by
 obtain⟨h1,e1⟩:=A7.mp a;obtain⟨h2,e2⟩:=A7.mp b;exact(x0 hN).mp (e1.trans e2.symm)
theorem i10{M:Model}{A:Around}{E:Value->Shared->Prop}{v:V}{Q:Unit->Shared->Prop}(I:Inv X pins σ H s)(hN:X.N.Nodup)(hi:X.N[i]?=some x)(hx:Loc X.env.scope x)(r:RelV v u)
  (h:∀s',Inv X pins (σ.set i (some v)) H s'->(∃a,Heap.SameBut a s.heap s'.heap/\(a=X.env.locals∨X.env.cells.lookup x=some a))->Q () s') (hf:X.fn x=true∨X.env.scope.names.lookup x=some .local:=by first|exact .inl rfl|exact .inr rfl|assumption):wpAny M A (storeName X.env x u) Q E s:=by
 obtain⟨m,hn,hl⟩:=id I.loc;have Z:(X.env.scope.kind==.class||(X.env.scope.kind==.module&&X.env.locals != X.env.globals))=false:=by rw[I.ok.kind];rfl
 have hiσ:i<σ.length:=by rw[I.len];exact(A7.mp hi).1
 have cne:=I.cne;have J:∀{a:Addr} {h':Heap},(∃o,s.heap.get? a=some o/\H a=none)->Heap.SameBut a s.heap h'->HOk X.prog X.w H h':=λ{a h'} ha hs b ob e=>by
  obtain⟨_,_,O⟩:=ha;refine(I.hok b ob e).stay (λc w' hc q=>(hs.2 c ?_).trans q) (λ_ q=>q) (λ_ _ q=>q) λ_ _ _ q=>q
  rintro rfl;rcases hc with rfl|hc
  ·rw[O] at e;cases e
  ·rw[O] at hc;cases hc
 rcases hx with hk|hk
 ·refine wpAny_storeName_local hk hn (λh' a1 hs=>?_) Z
  obtain⟨oL,_,_,a2,_⟩:=id hn;refine h _ ⟨I.ok,I.os,I.bare,⟨λb o e n hb hx=>?_,λb o e n hb hx=>?_,I.base.free,λb o e hx=>?_,I.base.tups,I.base.frzs,I.base.tbls⟩,⟨_,a1,λj y v' e1 e2 e3=>?_⟩,λy c e=>?_,I.free,I.freeC,λp hp=>?_,J ⟨oL,a2,I.free⟩ hs,by simpa using I.len⟩ ⟨_,hs,.inl rfl⟩
  ·exact(hs.2 b (B8 (D0 (A6 e) I.ok.above))).trans (I.base.keep b o e n hb hx)
  ·obtain⟨sl,e1⟩:=I.base.slot b o e n hb hx
   exact⟨sl,(hs.2 b (B8 (D0 (A6 e) I.ok.above))).trans e1⟩
  ·obtain⟨o',e1⟩:=I.base.there b o e hx
   exact⟨o',(hs.2 b (B8 (D0 (A6 e) I.ok.above))).trans e1⟩
  ·by_cases hj:j=i
   ·subst hj
    rw[hi] at e1;cases e1;rw[List.getElem?_set_self hiσ] at e2;cases e2;exact⟨u,r,.inl ⟨hk,by simp⟩⟩
   ·rw[List.getElem?_set_ne (C1 hj)] at e2
    obtain⟨u',r',q⟩:=hl j y v' e1 e2 e3;refine⟨u',r',?_⟩;rcases q with⟨k,e⟩|⟨k,c,e,z⟩
    ·refine .inl ⟨k,?_⟩
     have:y≠x:=λe=>hj (op0 hN e1 (e▸hi))
     simp[this,e]
    ·exact .inr ⟨k,c,e,z.sameBut hs (cne y c e)⟩
  ·obtain⟨w',z⟩:=I.cell y c e
   exact⟨w',z.sameBut hs (cne y c e)⟩
  ·obtain⟨e,n,ne,nf,d⟩:=I.pin p hp
   exact⟨(hs.2 p.1 ne).trans e,n,ne,nf,d⟩
 ·have S:X.fn x=true:=by
   rcases hf with z|z
   ·exact z
   ·rw[z] at hk;cases hk
  obtain⟨c,hc⟩:=I.ok.has x (.inl hk);obtain⟨w',z⟩:=I.cell x c hc;refine wpAny_storeName_cell I.ok.kind hk hc z (λh' U hs=>?_);obtain⟨oc,Y,a0⟩:=id z;refine h { s with heap:=h' } ⟨I.ok,I.os,I.bare,⟨λb o e n hb hx=>?_,λb o e n hb hx=>?_,I.base.free,λb o e hx=>?_,I.base.tups,I.base.frzs,I.base.tbls⟩,⟨m,hn.sameBut hs (C1 (cne x c hc)),λj y v' e1 e2 e3=>?_⟩,λy c' e=>?_,I.free,I.freeC,λp hp=>?_,J ⟨oc,Y,I.freeC x c hc⟩ hs,by simpa using I.len⟩ ⟨c,hs,.inr hc⟩
  ·exact(hs.2 b (B8 (D0 (A6 e) (I.ok.cab x c S hc)))).trans (I.base.keep b o e n hb hx)
  ·obtain⟨sl,e1⟩:=I.base.slot b o e n hb hx
   exact⟨sl,(hs.2 b (B8 (D0 (A6 e) (I.ok.cab x c S hc)))).trans e1⟩
  ·obtain⟨o',e1⟩:=I.base.there b o e hx
   exact⟨o',(hs.2 b (B8 (D0 (A6 e) (I.ok.cab x c S hc)))).trans e1⟩
  ·by_cases hj:j=i
   ·subst hj
    rw[hi] at e1;cases e1;rw[List.getElem?_set_self hiσ] at e2;cases e2;exact⟨u,r,.inr ⟨.inl hk,c,hc,U⟩⟩
   ·rw[List.getElem?_set_ne (C1 hj)] at e2
    obtain⟨u',r',q⟩:=hl j y v' e1 e2 e3;refine⟨u',r',?_⟩;rcases q with q|⟨k,c',e,z'⟩
    ·exact .inl q
    ·refine .inr ⟨k,c',e,z'.sameBut hs ?_⟩
     rintro rfl;exact hj (op0 hN e1 (I.ok.inj _ _ _ e hc▸hi))
  ·by_cases hcc:c'=c
   ·subst hcc;exact⟨_,U⟩
   ·obtain⟨w2,z2⟩:=I.cell y c' e
    exact⟨w2,z2.sameBut hs hcc⟩
  ·obtain⟨e,n,ne,nf,d⟩:=I.pin p hp
   refine⟨(hs.2 p.1 ?_).trans e,n,ne,nf,d⟩;intro q;rw[q,Y] at e;have q':oc=p.2:=B4 e;exact d w' (by rw[← q'];exact a0)
theorem m30{M:Model}{A:Around}{E:Value->Shared->Prop}{v:V}{Q:Unit->Shared->Prop}(I:Inv X pins σ H s)(hN:X.N.Nodup)(hi:X.N[i]?=some x)(hx:Loc X.env.scope x)(r:RelV v u)
  (h:∀s',Inv X pins (σ.set i (some v)) H s'->Q () s') (hf:X.fn x=true∨X.env.scope.names.lookup x=some .local:=by first|exact .inl rfl|exact .inr rfl|assumption):wpAny M A (storeName X.env x u) Q E s :=
 i10 I hN hi hx r (λs' I' _=>h s' I') hf
theorem Inv.call'(I:Inv X pins σ H s)(ho:s'.os=s.os)(u:Un (frs X.stack) ch H H' s.heap s'.heap)(hok:HOk X.prog X.w H' s'.heap)(hg:AllBare s'.gens)
  (hch:∀b∈ch,(b∈X.ex∨X.s₀.heap.objs.size<=b)/\b≠X.env.locals/\(∀x c,X.env.cells.lookup x=some c->c≠b)/\∀p∈X.pn++pins,p.1≠b):Inv X pins σ H' s':=by
 obtain⟨h',g',d',t',o'⟩:=s';have e:o'=s.os:=ho;subst e;exact I.call (g':=g') (t':=t') (d':=d') u hok hg hch
end
abbrev XK:=Value->Option Addr->Hp->Prop
abbrev St:=List (Option V)
abbrev VK:=V->Hp->Prop
abbrev TE:=St->Hp->VK->Prop
variable{r:List L2.V->L2.Hp->L2.VK->Prop}
abbrev TT:=St->Hp->(Bool->Hp->Prop)->Prop
variable{ta tb te tv td:L2.TE}
abbrev TA:=St->Hp->(List V->Hp->Prop)->Prop
structure Ends where
 nx:St->Hp->Prop
 rt:VK
 bk:St->Hp->Prop:=λ_ _=>False
 ct:St->Hp->Prop:=λ_ _=>False
abbrev TS:=Ends->St->Hp->Prop
def EP(X:Cx)(pins:List (Addr×Obj))(σ:St)(Q:VK)(u:Value)(s':Shared):Prop:=∃v H',Inv X pins σ H' s'/\RelV v u/\Q v H'
def TP(X:Cx)(pins:List (Addr×Obj))(σ:St)(Q:Bool->Hp->Prop)(b:Bool)(s':Shared):Prop:=∃H',Inv X pins σ H' s'/\Q b H'
def AP(X:Cx)(pins:List (Addr×Obj))(σ:St)(Q:List V->Hp->Prop)(us:List Value)(s':Shared):Prop:=∃vs H',Inv X pins σ H' s'/\Vals vs us/\Q vs H'
def SP(X:Cx)(pins:List (Addr×Obj))(D:Ends)(f:Flow)(s':Shared):Prop :=
 match f with
 | .next=>∃σ' H',Inv X pins σ' H' s'/\D.nx σ' H'
 | .brk=>∃σ' H',Inv X pins σ' H' s'/\D.bk σ' H'
 | .cont=>∃σ' H',Inv X pins σ' H' s'/\D.ct σ' H'
 | .ret u=>∃v σ' H',Inv X pins σ' H' s'/\RelV v u/\D.rt v H'
def PE(X:Cx)(e:Expr)(t:TE):Prop :=
 ∀(pins:List (Addr×Obj)) (s:Shared) (σ:St) (H:Hp) (Q:VK),Inv X pins σ H s->t σ H Q->wpAny (model X.prog X.w) X.A (eval e X.env) (EP X pins σ Q) X.xe s
def PT(X:Cx)(e:Expr)(t:TT):Prop :=
 ∀(pins:List (Addr×Obj)) (s:Shared) (σ:St) (H:Hp) (Q:Bool->Hp->Prop),Inv X pins σ H s->t σ H Q->wpAny (model X.prog X.w) X.A (isTrue e X.env (eval e X.env)) (TP X pins σ Q) X.xe s
def PW(X:Cx)(e:Expr)(t:TT):Prop :=
 ∀(whole:Sem Value) (pins:List (Addr×Obj)) (s:Shared) (σ:St) (H:Hp) (Q:Bool->Hp->Prop),Inv X pins σ H s->t σ H Q->wpAny (model X.prog X.w) X.A (isTrue e X.env whole) (TP X pins σ Q) X.xe s
theorem PW.pt{t:TT}(h:PW X e t):PT X e t:=h _
def PA(X:Cx)(es:List Expr)(t:TA):Prop :=
 ∀(pos:Pos) (pins:List (Addr×Obj)) (s:Shared) (σ:St) (H:Hp) (Q:List V->Hp->Prop),Inv X pins σ H s->t σ H Q->wpAny (model X.prog X.w) X.A (spliced (backTo pos (starEach es X.env))) (AP X pins σ Q) X.xe s
def PS(X:Cx)(st:Stmt)(t:TS):Prop :=
 ∀(pins:List (Addr×Obj)) (s:Shared) (σ:St) (H:Hp) (D:Ends),Inv X pins σ H s->t D σ H->wpAny (model X.prog X.w) X.A (exec st X.env) (SP X pins D) X.xe s
def PSs(X:Cx)(st:List Stmt)(t:TS):Prop :=
 ∀(pins:List (Addr×Obj)) (s:Shared) (σ:St) (H:Hp) (D:Ends),Inv X pins σ H s->t D σ H->wpAny (model X.prog X.w) X.A (execs st X.env) (SP X pins D) X.xe s
theorem thn{t:Sem α}{Q Q':α->Shared->Prop}{M:Model}{s:Shared}(h:wpAny M A t Q E s)(hQ:∀a s,Q a s->Q' a s):wpAny M A t Q' E s:=D6 h hQ λ_ _ x=>x
section
def Wj0(i:Nat):TE:=fun σ H Q=>∃v,σ[i]?=some (some v)/\Q v H
def tC(v:V):TE:=λ_ H Q=>Q v H
theorem ys0(hN:X.N[i]?=some x)(hv:Vis X.env.scope x)(hd:(x==("__debug__" : Str))=false:=by decide)(hcd:(x==("__classdict__" : Str))=false:=by decide):PE X (.Name x pos) (Wj0 i):=by
 intro pins s σ H Q I h;obtain⟨v,e,h⟩:=h;obtain⟨m,hn,hl⟩:=I.loc;obtain⟨u,r,l⟩:=hl i x v hN e hv;have fin:EP X pins σ Q u s:=⟨v,H,I,r,h⟩;rcases l with⟨hk,hm⟩|⟨hk,c,hc,J⟩
 ·exact wpAny_Name (wpAny_loadName_local I.ok.kind hk hn hm fin) hd
 ·rcases hk with hk|hk
  ·exact wpAny_Name (wpAny_loadName_cell I.ok.kind hk hc J fin) hd
  ·exact wpAny_Name (wpAny_loadName_free I.ok.kind hk hc J fin hcd) hd
theorem Z50{i j pos}:PE X (.Constant (.int i) j pos) (tC (.int i)):=λ_ _ _ H _ I h=>wpAny_Constant_int ⟨.int i,H,I.tok _,⟨_,rfl⟩,h⟩
theorem Ym0{b j pos}:PE X (.Constant (.bool b) j pos) (tC (.bl b)):=λ_ _ _ H _ I h=>Constant_bool ⟨.bl b,H,I,rfl,h⟩
theorem am0{j pos}:PE X (.Constant .none j pos) (tC .non):=λ_ _ _ H _ I h=>Constant_none ⟨.non,H,I,rfl,h⟩
theorem Zd0{x j pos}:PE X (.Constant (.str x) j pos) (tC (.str x)):=λ_ _ _ H _ I h=>Calls.Constant_str ⟨.str x,H,I.tok _,⟨_,rfl⟩,h⟩
def Gl(X:Cx)(x:Str):Prop:=X.env.kindOf x=some .globalImplicit
theorem es0{E:Value->Shared->Prop}{s:Shared}{σ:St}{pos:Pos}(I:Inv X pins σ H s)(hg:Gl X x)(hm:X.mg x=some u)(h:Q u s)
  (hd:(x==("__debug__" : Str))=false:=by decide):wpAny (model X.prog X.w) X.A (eval (.Name x pos) X.env) Q E s :=
 Ar0 I.ok.kind hg (Calls.loadGlobal_global (by rw[I.ok.glob];exact I.mod.glob.keeps I.bk) hm h) hd
theorem yf0{E:Value->Shared->Prop}{s:Shared}{σ:St}{pos:Pos}(I:Inv X pins σ H s)(hg:Gl X x)(hm:X.mg x=none)(hv:bootBuiltins x=some u)(h:Q u s)
  (hn:x ≠"__name__" := by decide) (hd:(x==("__debug__" : Str))=false:=by decide):wpAny (model X.prog X.w) X.A (eval (.Name x pos) X.env) Q E s:=by
 obtain⟨mb,h1,h2⟩:=I.mod.blt;exact Ar0 I.ok.kind hg (Calls.loadGlobal_builtin (by rw[I.ok.glob];exact I.mod.glob.keeps I.bk) hm (by rw[I.ok.blt];exact h1.keeps I.bk) ((h2 x hn).trans hv) h) hd
theorem cx0{v:V}(hg:Gl X x)(hm:X.mg x=none)(hv:bootBuiltins x=some u)(r:RelV v u)(hn:x ≠"__name__" := by decide)(hd:(x==("__debug__" : Str))=false:=by decide):PE X (.Name x pos) (tC v) :=
 λ_ _ _ H _ I h=>yf0 I hg hm hv ⟨v,H,I,r,h⟩ hn hd
variable{a:Expr}
def PC(X:Cx)(op:CmpOp)(a b:Expr)(t:TE):Prop :=
 ∀(pins:List (Addr×Obj)) (s:Shared) (σ:St) (H:Hp) (Q:VK),Inv X pins σ H s->t σ H Q ->
  wpAny (model X.prog X.w) X.A (eval a X.env) (λv s₁=>wpAny (model X.prog X.w) X.A (eval b X.env) (λu s₂=>wpAny (model X.prog X.w) X.A (compareOp op v u) (EP X pins σ Q) X.xe s₂) X.xe s₁) X.xe s
def tB(t:TE):TT:=fun σ H Q=>t σ H λx H1=>∃c,x=.bl c/\Q c H1
theorem Y00{op:CmpOp}{t:TE}(h:PC X op a b t)(h1:behindInMarks op b=false:=by first|exact nobehind _ (by decide) (by decide)|rfl):PT X (.Compare a [op] [b] pos) (tB t):=by
 intro pins s σ H Q I hw;refine wpAny_isTrue_Compare1 (thn (h pins s σ H _ I hw) λv s1 h1=>thn h1 λu s2 h2=>thn h2 λc s3 ⟨x,H1,I1,r1,q1⟩=>?_) h1;obtain⟨d,rfl,q⟩:=q1;cases r1;exact N2 ⟨H1,I1,q⟩
theorem aw0{t:TE}(h:PE X e t)(he:∀whole,isTrue e X.env whole=(do let v ← whole;standAt e.pos;holding [v] (truthy v)):=by intro _;rfl):PT X e (tB t):=by
 intro pins s σ H Q I hw;refine isTrue_plain (thn (h pins s σ H _ I hw) λv s1 ⟨x,H1,I1,r1,q1⟩=>?_) (he _);obtain⟨d,rfl,q⟩:=q1;cases r1;exact N2 ⟨H1,I1,q⟩
variable{tA tB':TT}{rest:List Expr}
def Xx0(t u:TT):TT:=fun σ H Q=>t σ H λc H1=>if c=true then u σ H1 Q else Q false H1
def tOr(t u:TT):TT:=fun σ H Q=>t σ H λc H1=>if c=true then Q true H1 else u σ H1 Q
def Wf0(t:TT):TT:=fun σ H Q=>t σ H λc H1=>Q (!c) H1
theorem dj0(ha:PT X a tA):PW X (.BoolOp .And [a] pos) tA:=by
 intro wh pins s σ H Q I h;refine isTrue_and (thn (ha pins s σ H Q I h) λc s1 e=>?_);cases c with
 | true=>exact isTrue_and_nil e
 | false=>exact e
theorem bg0(ha:PT X a tA):PW X (.BoolOp .Or [a] pos) tA:=by
 intro wh pins s σ H Q I h;refine isTrue_or (thn (ha pins s σ H Q I h) λc s1 e=>?_);cases c with
 | false=>exact isTrue_or_nil e
 | true=>exact e
theorem Zw0(ha:PT X a tA)(hb:PW X (.BoolOp .And (b::rest) pos) tB'):PW X (.BoolOp .And (a::b::rest) pos) (Xx0 tA tB'):=by
 intro wh pins s σ H Q I h;refine isTrue_and (thn (ha pins s σ H _ I h) λc s1 ⟨H1,I1,q1⟩=>?_);cases c with
 | true=>exact hb wh pins s1 σ H1 Q I1 q1
 | false=>exact⟨H1,I1,q1⟩
theorem Xi0(ha:PT X a tA)(hb:PW X (.BoolOp .Or (b::rest) pos) tB'):PW X (.BoolOp .Or (a::b::rest) pos) (tOr tA tB'):=by
 intro wh pins s σ H Q I h;refine isTrue_or (thn (ha pins s σ H _ I h) λc s1 ⟨H1,I1,q1⟩=>?_);cases c with
 | true=>exact⟨H1,I1,q1⟩
 | false=>exact hb wh pins s1 σ H1 Q I1 q1
theorem Ze0(ha:PT X a tA):PT X (.UnaryOp .Not a pos) (Wf0 tA):=by
 intro pins s σ H Q I h;exact isTrue_not (ha pins s σ H (λc H1=>Q (!c) H1) I h)
def Xl0(ta tb:TE):TE:=fun σ H Q=>ta σ H λx H1=>∃c,x=.bl c/\if c=true then tb σ H1 Q else Q (.bl false) H1
theorem bc0{op}{t:TE}(h:PE X a t):PE X (.BoolOp op [a] pos) t:=λpins s σ H Q I hw=>BoolOp_one (h pins s σ H Q I hw)
theorem af0(ha:PE X a ta)(hb:PE X (.BoolOp .And (b::rest) pos) tb):PE X (.BoolOp .And (a::b::rest) pos) (Xl0 ta tb):=by
 intro pins s σ H Q I h;refine BoolOp_and (thn (ha pins s σ H _ I h) λv s1 ⟨x,H1,I1,r1,q1⟩=>?_);obtain⟨c,rfl,q1⟩:=q1;cases r1;refine N2 ?_;cases c with
 | true=>exact hb pins s1 σ H1 Q I1 q1
 | false=>exact⟨.bl false,H1,I1,rfl,q1⟩
end
def SqL(K:W.Frag)(H:Hp)(a:Addr)(xs:List V):Prop :=
 Rd H a (.lst xs) ∨
  ∃(o:Obj) (its:Array Value) (n:Nat),K.lookup a=some o/\o.cls=.type "list"/\o.dict=none/\o.data=.seq its n/\its.size<=sizeLine/\Vals xs its.toList
def SqT(K:W.Frag)(H:Hp)(a:Addr)(xs:List V):Prop :=
 Rd H a (.tup xs) ∨
  ∃(o:Obj) (its:Array Value) (n:Nat),K.lookup a=some o/\o.cls=.type "tuple"/\o.data=.seq its n/\its.size<=sizeLine/\Vals xs its.toList
def Wd0:Value->Option V
 | .none=>some .non
 | .bool b=>some (.bl b)
 | .int i _=>some (.int i)
 | .str x _=>some (.str x)
 | .bytes b _=>some (.byt b)
 | .float b _=>some (.flt b)
 | .ref a=>some (.ref a)
 | .type n=>some (.ty n)
 | _=>none
theorem RelV.abs{x:V}(r:RelV x u):Wd0 u=some x:=by
 cases x with
 | non=>cases r;rfl
 | bl _=>cases r;rfl
 | int _=>obtain⟨t,rfl⟩:=r;rfl
 | str _=>obtain⟨t,rfl⟩:=r;rfl
 | byt _=>obtain⟨t,rfl⟩:=r;rfl
 | flt _=>obtain⟨t,rfl⟩:=r;rfl
 | ref _=>cases r;rfl
 | ty _=>cases r;rfl
theorem RelV.inj{x y:V}(r:RelV x u)(q:RelV y u):x=y:=B4 (r.abs.symm.trans q.abs)
theorem Vals.inj:∀{xs ys:List V} {us:List Value},Vals xs us->Vals ys us->xs=ys
 | _,_,_,.nil,.nil=>rfl
 | _,_,_,.cons r t,.cons r' t'=>by rw[r.inj r',Vals.inj t t']
section
variable{σ:St}{s:Shared}{ys:List V}
theorem Inv.list(I:Inv X pins σ H s)(h:SqL X.K H a xs):∃its:List Value,Vals xs its/\PlainL s.heap a its.toArray/\xs.length<=sizeLine:=by
 rcases h with h|⟨o,its,n,hk,hc,hd,hs,hz,r⟩
 ·obtain⟨z,its,n,r,e⟩:=h.ok I.hok
  exact⟨its,r,⟨_,n,e,rfl,rfl,rfl⟩,z⟩
 ·refine⟨its.toList,r,⟨o,n,I.kIn a o hk,hc,hd,by simpa using hs⟩,?_⟩
  have e:=r.length;simp only[Array.length_toList] at e;omega
theorem Inv.tuple(I:Inv X pins σ H s)(h:SqT X.K H a xs):∃its:List Value,Vals xs its/\IsTup s.heap a its.toArray/\xs.length<=sizeLine:=by
 rcases h with h|⟨o,its,n,hk,hc,hs,hz,r⟩
 ·obtain⟨z,its,r,p⟩:=h.ok I.hok
  exact⟨its,r,p.tup,z⟩
 ·refine⟨its.toList,r,⟨o,I.kIn a o hk,hc,n,by simpa using hs⟩,?_⟩
  have e:=r.length;simp only[Array.length_toList] at e;omega
theorem Inv.list_inj(I:Inv X pins σ H s)(h:SqL X.K H a xs)(h':SqL X.K H a ys):xs=ys:=by
 obtain⟨its,r,⟨o,n,e,_,_,d⟩,_⟩:=I.list h;obtain⟨J,r',⟨o',n',e',_,_,d'⟩,_⟩:=I.list h';rw[e] at e';cases e';rw[d] at d';injection d' with d1 _
 have:its=J:=by simpa using D1 Array.toList d1
 subst this;exact r.inj r'
theorem Inv.tuple_inj(I:Inv X pins σ H s)(h:SqT X.K H a xs)(h':SqT X.K H a ys):xs=ys:=by
 obtain⟨its,r,⟨o,e,_,n,d⟩,_⟩:=I.tuple h;obtain⟨J,r',⟨o',e',_,n',d'⟩,_⟩:=I.tuple h';rw[e] at e';cases e';rw[d] at d';injection d' with d1 _
 have:its=J:=by simpa using D1 Array.toList d1
 subst this;exact r.inj r'
end
abbrev Cx.wish(X:Cx)(E:Value->Shared->Prop):Cx:={ X with xe:=E }
abbrev Cx.nox(X:Cx):Cx:=X.wish λ_ _=>False
theorem Cx.Ok.wish(ok:X.Ok)(E:Value->Shared->Prop):(X.wish E).Ok :=
 ⟨ok.mod,ok.kind,ok.glob,ok.blt,ok.above,ok.inj,ok.has,ok.cab,ok.hd,ok.frames,ok.stk,ok.exf,ok.bs,ok.bsz,ok.noex,ok.exfs,ok.funs,ok.frf⟩
theorem Cx.Ok.unwish(ok:(X.wish E).Ok):X.Ok :=
 ⟨ok.mod,ok.kind,ok.glob,ok.blt,ok.above,ok.inj,ok.has,ok.cab,ok.hd,ok.frames,ok.stk,ok.exf,ok.bs,ok.bsz,ok.noex,ok.exfs,ok.funs,ok.frf⟩
section
variable{σ:St}{s:Shared}
theorem Inv.wish(I:Inv X pins σ H s)(E:Value->Shared->Prop):Inv (X.wish E) pins σ H s:=⟨I.ok.wish E,I.os,I.bare,I.base,I.loc,I.cell,I.free,I.freeC,I.pin,I.hok,I.len⟩
theorem Inv.unwish(I:Inv (X.wish E) pins σ H s):Inv X pins σ H s:=⟨I.ok.unwish,I.os,I.bare,I.base,I.loc,I.cell,I.free,I.freeC,I.pin,I.hok,I.len⟩
theorem SP.unwish{D:Ends}{f:Flow}(h:SP (X.wish E) pins D f s'):SP X pins D f s':=by
 cases f with
 | next=>obtain⟨σ',H',I,q⟩:=h;exact⟨σ',H',I.unwish,q⟩
 | brk=>obtain⟨σ',H',I,q⟩:=h;exact⟨σ',H',I.unwish,q⟩
 | cont=>obtain⟨σ',H',I,q⟩:=h;exact⟨σ',H',I.unwish,q⟩
 | ret u=>obtain⟨v,σ',H',I,r,q⟩:=h;exact⟨v,σ',H',I.unwish,r,q⟩
theorem PSs.nox{st:List Stmt}{t:TS}(h:PSs X.nox st t):PSs X st t:=λpins s σ H D I hw =>
 D6 (h pins s σ H D (I.wish _) hw) (λ_ _ q=>q.unwish) λ_ _ z=>False.elim z
end
section
variable{t u:TS}
def Yt0:TS:=λD σ H=>D.nx σ H
def Xq0(t u:TS):TS:=λD σ H=>t { D with nx:=u D } σ H
theorem d20:PSs X [] Yt0:=λ_ _ σ H _ I h=>x6 ⟨σ,H,I,h⟩
theorem xx0(h1:PS X st t)(h2:PSs X rest u):PSs X (st::rest) (Xq0 t u):=by
 intro pins s σ H D I h;refine wpAny_execs_cons (thn (h1 pins s σ H { D with nx:=u D } I h) λf s1 q=>?_);cases f with
 | next =>
  obtain⟨σ',H',I',q⟩:=q;exact h2 pins s1 σ' H' D I' q
 | ret v=>exact q
 | brk=>exact q
 | cont=>exact q
theorem Inv.quiet{σ:St}{s:Shared}(I:Inv X pins σ H s):interactive X.env=false:=by simp[interactive,I.ok.kind]
def Yz0(te:TE):TS:=λD σ H=>te σ H λ_ H1=>D.nx σ H1
theorem c70(he:PE X e te)(hs:swapsWith e none pos.line X.env=pure false:=by rfl):PS X (.Expr e pos) (Yz0 te):=by
 intro pins s σ H D I h;exact wpAny_Expr_any (thn (he pins s σ H _ I h) λv s1 ⟨x,H1,I1,r1,q1⟩=>⟨σ,H1,I1,q1⟩) I.quiet hs
def W10(te:TE):TS:=λD σ H=>te σ H D.rt
theorem oy0(he:PE X e te):PS X (.Return (some e) pos) (W10 te):=by
 intro pins s σ H D I h;exact wpAny_Return_some (thn (he pins s σ H _ I h) λv s1 ⟨x,H1,I1,r1,q1⟩=>⟨x,σ,H1,I1,r1,q1⟩)
def Wi0(c:TT)(t u:TS):TS:=λD σ H=>c σ H λb H1=>if b=true then t D σ H1 else u D σ H1
theorem Y60{a b:List Stmt}{tc:TT}(hc:PT X c tc)(ha:PSs X a t)(hb:PSs X b u):PS X (.If c a b pos) (Wi0 tc t u):=by
 intro pins s σ H D I h;refine wpAny_If (thn (hc pins s σ H _ I h) λd s1 ⟨H1,I1,q1⟩=>?_);cases d with
 | true=>exact ha pins s1 σ H1 D I1 q1
 | false=>exact hb pins s1 σ H1 D I1 q1
def Zk0:TS:=λ_ _ _=>False
theorem w50{sts:List Stmt}:PSs X sts Zk0:=λ_ _ _ _ _ _ h=>h.elim
end
abbrev TG:=V->St->Hp->(St->Hp->Prop)->Prop
abbrev TGs:=List V->St->Hp->(St->Hp->Prop)->Prop
def PG(X:Cx)(target:Expr)(t:TG):Prop :=
 ∀(pins:List (Addr×Obj)) (s:Shared) (σ:St) (H:Hp) (v:V) (u:Value) (Q:St->Hp->Prop),Inv X pins σ H s->RelV v u->t v σ H Q ->
  wpAny (model X.prog X.w) X.A (assign target X.env u) (λ_ s'=>∃σ' H',Inv X pins σ' H' s'/\Q σ' H') X.xe s
def PGs(X:Cx)(ts:List Expr)(t:TGs):Prop :=
 ∀(pins:List (Addr×Obj)) (s:Shared) (σ:St) (H:Hp) (vs:List V) (us:List Value) (Q:St->Hp->Prop),Inv X pins σ H s->Vals vs us->t vs σ H Q ->
  wpAny (model X.prog X.w) X.A (assignInOrder ((assignEach ts X.env).map (·.2)) us) (λ_ s'=>∃σ' H',Inv X pins σ' H' s'/\Q σ' H') X.xe s
abbrev gd0:=V->V->V->Hp->(Hp->Prop)->Prop
def fn0(X:Cx)(t:gd0):Prop :=
 ∀(pins:List (Addr×Obj)) (s:Shared) (σ:St) (H:Hp) (o i v:V) (ov iv u:Value) (Q:Hp->Prop),Inv X pins σ H s->RelV o ov->RelV i iv->RelV v u->t o i v H Q ->
  wpAny (model X.prog X.w) X.A (setItem ov iv u) (λ_ s'=>∃H',Inv X pins σ H' s'/\Q H') X.xe s
abbrev TIp:=V->V->Hp->VK->Prop
def PIp(X:Cx)(op:Operator)(t:TIp):Prop :=
 ∀(pins:List (Addr×Obj)) (s:Shared) (σ:St) (H:Hp) (x y:V) (v u:Value) (Q:VK),Inv X pins σ H s->RelV x v->RelV y u->t x y H Q ->
  wpAny (model X.prog X.w) X.A (inplaceOp op v u) (EP X pins σ Q) X.xe s
def Y30(i:Nat):TG:=λv σ H Q=>Q (σ.set i (some v)) H
theorem uk0(hN:X.N.Nodup)(hi:X.N[i]?=some x)(hx:Loc X.env.scope x)(hf:X.fn x=true∨X.env.scope.names.lookup x=some .local:=by first|exact .inl rfl|exact .inr rfl|assumption):PG X (.Name x pos) (Y30 i):=by
 intro pins s σ H v u Q I r h;exact wpAny_assign_Name (m30 I hN hi hx r (λs' I'=>⟨_,H,I',h⟩) hf)
def W90:TGs:=λvs σ H Q=>vs=[]/\Q σ H
def X70(t:TG)(u:TGs):TGs:=λvs σ H Q=>∃v r,vs=v::r/\t v σ H fun σ' H'=>u r σ' H' Q
theorem de0:PGs X [] W90:=by
 intro pins s σ H vs us Q I r h;obtain⟨e,h⟩:=h;subst e;cases r;exact assignInOrder_nil ⟨σ,H,I,h⟩
theorem or0{t:TG}{u:TGs}(h1:PG X e t)(h2:PGs X es u)
  (hs:(assignEach (e::es) X.env).map (·.2)=assign e X.env::(assignEach es X.env).map (·.2):=by rfl):PGs X (e::es) (X70 t u):=by
 intro pins s σ H vs us Q I r h;obtain⟨v,vr,e1,h⟩:=h;subst e1;cases r with
 | cons r rr =>
  rw[hs];refine assignInOrder_cons (thn (h1 pins s σ H _ _ _ I r h) λ_ s1 ⟨σ1,H1,I1,q1⟩=>?_);exact h2 pins s1 σ1 H1 _ _ Q I1 rr q1
def W00(K:W.Frag)(n:Nat)(t:TGs):TG:=λv σ H Q=>∃a xs,v=.ref a/\SqT K H a xs/\xs.length=n/\t xs σ H Q
theorem a70{k:Nat}{t:TGs}{n:Nat}(hc:X.calm=true)(h:PGs X es t)
  (hn:(assignEach es X.env).length=n:=by rfl) (hst:(assignEach es X.env).findIdx? (·.1)=none:=by rfl):PG X (.Tuple es k pos) (W00 X.K n t):=by
 intro pins s σ H v u Q I r hw;obtain⟨a,xs,e1,hq,hl,hw⟩:=hw;subst e1;cases r;obtain⟨its,rv,ht,hz⟩:=I.tuple hq;refine assign_Tuple_tuple (I.ok.hd hc) ht (by simp[hn,← hl,rv.length]) hst λh' hx=>?_
 have I1:Inv X pins σ H { s with heap:=h' }:=I.kept (t':=s.toks) λb o e=>hx b o (B8 (A6 e)) e
 exact h pins _ σ H xs _ Q I1 (by simpa using rv) hw
def Wl0(to ti:TE)(t:gd0):TG:=λv σ H Q=>to σ H λo H1=>ti σ H1 λi H2=>t o i v H2 λH3=>Q σ H3
theorem ir0{i:Expr}{to ti:TE}{t:gd0}(ho:PE X o to)(hi:PE X i ti)(hs:fn0 X t)
  (ha:∀v,assign (.Subscript o i pos) X.env v=(do
   let ov ← holding [v] (eval o X.env)
   let iv ← holding [v,ov] (eval i X.env)
   standAt pos
   holding [v,ov,iv] (setItem ov iv v)
   release [v,ov,iv] []):=by intro _;rfl):PG X (.Subscript o i pos) (Wl0 to ti t):=by
 intro pins s σ H v u Q I r h;rw[ha];refine A0 (C6 (thn (ho pins s σ H _ I h) λov s1 ⟨x,H1,I1,r1,q1⟩=>?_));refine A0 (C6 (thn (hi pins s1 σ H1 _ I1 q1) λiv s2 ⟨y,H2,I2,r2,q2⟩=>?_));refine A0 (x8 (A0 (C6 (thn (hs pins s2 σ H2 x y v ov iv u _ I2 r1 r2 r q2) λ_ s3 ⟨H3,I3,q3⟩=>?_))));exact wpAny_release ⟨σ,H3,I3,q3⟩
def Wb0(te:TE)(g:TG):TS:=λD σ H=>te σ H λx H1=>g x σ H1 D.nx
theorem oa0{g:TG}(he:PE X e te)(hg:PG X tg g)(hs:swapsWithSole [tg] e pos.line X.env=pure false:=by rfl)(hw:swappedStores [tg] e X.env=pure none:=by rfl)
  (h1:(assignEach [tg] X.env).map (·.2)=[assign tg X.env]:=by rfl):PS X (.Assign [tg] e pos) (Wb0 te g):=by
 intro pins s σ H D I h;refine wpAny_Assign_stores (thn (he pins s σ H _ I h) λv s1 ⟨x,H1,I1,r1,q1⟩=>?_) hs hw;rw[h1];exact thn (hg pins s1 σ H1 x v _ I1 r1 q1) λ_ s2 q=>q
def Wc0(i:Nat)(te:TE)(ti:TIp):TS:=λD σ H=>∃x,σ[i]?=some (some x)/\te σ H λy H1=>ti x y H1 λz H2=>D.nx (σ.set i (some z)) H2
theorem b50{op:Operator}{ti:TIp}{pos':Pos}(hN:X.N.Nodup)(hi:X.N[i]?=some x)(hx:Loc X.env.scope x)(he:PE X e te)(ho:PIp X op ti)(hf:X.fn x=true∨X.env.scope.names.lookup x=some .local:=by first|exact .inl rfl|exact .inr rfl|assumption) :
  PS X (.AugAssign (.Name x pos') op e pos) (Wc0 i te ti):=by
 intro pins s σ H D I h;obtain⟨v,e1,h⟩:=h;obtain⟨m,hn,hl⟩:=I.loc;have M:Vis X.env.scope x:=by rcases hx with k|k;exact .inl k;exact .inr (.inl k)
 obtain⟨u,r,l⟩:=hl i x v hi e1 M;refine wpAny_AugAssign_Name ?_;have go:wpAny (model X.prog X.w) X.A (eval e X.env) (λw s₂=>wpAny (model X.prog X.w) X.A (inplaceOp op u w) (λr s₃=>wpAny (model X.prog X.w) X.A (storeName X.env x r) (λ_=>SP X pins D .next) X.xe s₃) X.xe s₂) X.xe s:=by
  refine thn (he pins s σ H _ I h) λw s1 ⟨y,H1,I1,r1,q1⟩=>?_
  refine thn (ho pins s1 σ H1 v y u w _ I1 r r1 q1) λz s2 ⟨zv,H2,I2,r2,q2⟩=>?_
  exact m30 I2 hN hi hx r2 (λs3 I3=>⟨_,H2,I3,q2⟩) hf
 rcases l with⟨hk,hm⟩|⟨hk,c,hc,J⟩
 ·exact wpAny_loadName_local I.ok.kind hk hn hm go
 ·rcases hk with hk|hk
  ·exact wpAny_loadName_cell I.ok.kind hk hc J go
  ·rcases hx with k|k
   ·have:X.env.scope.names.lookup x=some .free:=hk
    rw[k] at this;cases this
   ·have:X.env.scope.names.lookup x=some .free:=hk
    rw[k] at this;cases this
def ipI(f:Int->Int->Int):TIp:=λx y H Q=>∃i j,x=.int i/\y=.int j/\Q (.int (f i j)) H
theorem Z20:PIp X .Add (ipI λi j=>i+j):=by
 intro pins s σ H x y v u Q I r1 r2 h;obtain⟨i,j,e1,e2,q⟩:=h;subst e1;subst e2;obtain⟨t,rfl⟩:=r1;obtain⟨t',rfl⟩:=r2;exact iadd_int ⟨.int _,H,I.tok _,⟨_,rfl⟩,q⟩
def b40(c:TT)(tb:TS):TS:=λD σ H=>∃W:Nat->St->Hp->Prop,(∃m,W m σ H)/\∀m σ H,W m σ H ->
 c σ H λb H1=>if b=true then ∃N:St->Hp->Prop,(∀σ' H',N σ' H'->∃m',m'<m/\W m' σ' H')/\tb { D with nx:=N,ct:=N,bk:=D.nx } σ H1 else D.nx σ H1
theorem fv0{tc:TT}{tb:TS}(hp:PassesOwn (model X.prog X.w) X.A X.env X.xe)(hc:PT X c tc)(hb:PSs X body tb):PS X (.While c body [] pos) (b40 tc tb):=by
 intro pins s σ H D I h;obtain⟨W,⟨m0,w0⟩,J⟩:=h;refine wpAny_While (codeAny_whileLoop (λn s'=>∃σ' H',Inv X pins σ' H' s'/\W n σ' H') ?_ m0 ⟨σ,H,I,w0⟩);rintro n s1 ⟨σ1,H1,I1,w1⟩;refine N3 hp (thn (hc pins s1 σ1 H1 _ I1 (J n σ1 H1 w1)) λb s2 ⟨H2,I2,q2⟩=>?_);cases b with
 | true =>
  obtain⟨N,hN,q2⟩:=q2;rw[if_pos rfl];refine N3 hp (thn (hb pins s2 σ1 H2 _ I2 q2) λf s3 q3=>?_);cases f with
  | next =>
   obtain⟨σ3,H3,I3,n3⟩:=q3;obtain⟨m',hm,w3⟩:=hN σ3 H3 n3;exact⟨m',hm,σ3,H3,I3,w3⟩
  | cont =>
   obtain⟨σ3,H3,I3,n3⟩:=q3;obtain⟨m',hm,w3⟩:=hN σ3 H3 n3;exact⟨m',hm,σ3,H3,I3,w3⟩
  | brk=>exact q3
  | ret v=>exact q3
 | false =>
  rw[if_neg C7];exact x6 ⟨σ1,H2,I2,q2⟩
structure It where
 go:Nat->Hp->Prop
 yld:Nat->Hp->V->Hp->Prop
 stop:Nat->Hp->Prop
def xz0(X:Cx)(pins:List (Addr×Obj))(H:Hp)(b:Addr):Prop :=
 H b=none/\b≠X.env.locals/\b∉X.fs/\(b∈X.ex∨X.s₀.heap.objs.size<=b)/\(∀x c,X.env.cells.lookup x=some c->c≠b)/\∀p∈X.pn++pins,p.1≠b
theorem Inv.fpOk{σ:St}{s:Shared}{b:Addr}(I:Inv X pins σ H s)(hb:s.heap.objs.size<=b)(hn:H' b=none):xz0 X pins H' b:=by
 refine⟨hn,L6 (D0 I.lt hb),I.nofs hb,.inr (C5 I.sz hb),λx c e z=>?_,λp hp z=>?_⟩
 ·obtain⟨v,q⟩:=I.cell x c e
  exact absurd (D0 q.lt (by rw[z];exact hb)) (G0 _)
 ·exact absurd (D0 (A6 (I.pin p hp).1) (by rw[z];exact hb)) (G0 _)
structure Turn(P:Program)(w:World)(K:W.Frag)(tg:Expr)(J:It)(fp:List Addr)(it:Addr)(tn:Nat->Heap->Prop):Prop where
 mem:it∈fp
 obj:∀i h,tn i h->∀b∈fp,∃o,h.get? b=some o/\∀v,o.data≠.cell v
 keep:∀i h h',tn i h->(∀b∈fp,∀o,h.get? b=some o->h'.get? b=some o)->tn i h'
 item:∀(X:Cx),X.prog=P->X.w=w->X.K=K->X.calm=true->∀(i:Nat) (pins:List (Addr×Obj)) (s:Shared) (σ:St) (H:Hp) (E:Value->Shared->Prop),Inv X pins σ H s->(∀b∈fp,xz0 X pins H b)->tn i s.heap->J.go i H ->
  wpAny (model P w) X.A (pyNext (.ref it)) (λr s1=>∃u,r=some u /\
   wpAny (model P w) X.A (letOwnedTupleGo tg (.ref it) u) (λ_ s2=>∃x H',Inv X pins σ H' s2/\RelV x u/\J.yld i H x H'/\tn (i+1) s2.heap/\∀b∈fp,H' b=none) E s1) E s
 done:∀(X:Cx),X.prog=P->X.w=w->X.K=K->X.calm=true->∀(i:Nat) (pins:List (Addr×Obj)) (s:Shared) (σ:St) (H:Hp) (E:Value->Shared->Prop),Inv X pins σ H s->(∀b∈fp,xz0 X pins H b)->tn i s.heap->J.stop i H ->
  wpAny (model P w) X.A (pyNext (.ref it)) (λr s1=>r=none/\Inv X pins σ H s1) E s
 self:∀(A:Around) (i:Nat) (s:Shared) (Q:Value->Shared->Prop) (E:Value->Shared->Prop),tn i s.heap->Q (.ref it) s->wpAny (model P w) A (pyIter (.ref it)) Q E s
abbrev TI:=St->Hp->(It->Hp->Prop)->Prop
def PIE(X:Cx)(pins:List (Addr×Obj))(σ:St)(tg:Expr)(R:It->Hp->Prop)(itv:Value)(s2:Shared):Prop :=
 ∃(it:Addr) (fp:List Addr) (tn:Nat->Heap->Prop) (J:It) (H':Hp),itv=.ref it/\Inv X pins σ H' s2/\Turn X.prog X.w X.K tg J fp it tn/\tn 0 s2.heap/\(∀b∈fp,xz0 X pins H' b)/\R J H'
def PI(X:Cx)(tg iter:Expr)(wi:TI):Prop :=
 ∀(pins:List (Addr×Obj)) (s:Shared) (σ:St) (H:Hp) (R:It->Hp->Prop),Inv X pins σ H s->wi σ H R ->
  wpAny (model X.prog X.w) X.A (eval iter X.env) (λv s1=>wpAny (model X.prog X.w) X.A (pyIter v) (PIE X pins σ tg R) X.xe s1) X.xe s
theorem p90{M:Model}{A:Around}{E:Value->Shared->Prop}{s:Shared}{tg:Expr}{u:Value}{o:Obj}{n:String}{vs:Array Value}{Q:Unit->Shared->Prop}(ho:s.heap.get? it=some o)(hc:o.cls=.type n)(hd:o.data=.fields vs)
  (hn:["enumerate", "zip", "dict_itemiterator", "dict_reverseitemiterator", "odict_iterator", "itertools.zip_longest", "itertools.pairwise"].contains n=false) (hQ:Q () s):wpAny M A (letOwnedTupleGo tg (.ref it) u) Q E s:=by
 unfold letOwnedTupleGo;cases tg<;>first
  | exact A1 hQ
  | (cases u<;>first
    | exact A1 hQ
    | (refine A0 (wpAny_load ho ?_)
       rw[hc,hd];show wpAny M A (if (["enumerate", "zip", "dict_itemiterator", "dict_reverseitemiterator", "odict_iterator", "itertools.zip_longest", "itertools.pairwise"].contains n&&vs[0]?==some (rawInt _))=true then _ else _) Q E s;rw[if_neg (by intro h;rw[hn,Bool.false_and] at h;cases h)];exact A1 hQ))
def Itl(K:W.Frag)(a:Addr):It :=
 ⟨λi H=>∃xs x,SqL K H a xs/\xs[i]?=some x,λi H x H'=>H'=H/\∀xs,SqL K H a xs->xs[i]?=some x,λi H=>∃xs,SqL K H a xs/\xs.length<=i⟩
def Itt(K:W.Frag)(a:Addr):It :=
 ⟨λi H=>∃xs x,SqT K H a xs/\xs[i]?=some x,λi H x H'=>H'=H/\∀xs,SqT K H a xs->xs[i]?=some x,λi H=>∃xs,SqT K H a xs/\xs.length<=i⟩
def Itr(lo:Int)(n:Nat):It:=⟨λi _=>i<n,λi H x H'=>H'=H/\x=.int (lo+i),λi _=>n<=i⟩
theorem in0{P:Program}{w:World}(a it:Addr):Turn P w K tg (Itl K a) [it] it (λi h=>h.IsListIter it a i) where
 mem:=by simp
 obj:=λi h st b hb=>by
  have e:b=it:=by simpa using hb
  subst e;obtain⟨o,e,c,d⟩:=st;exact⟨o,e,λv z=>by rw[d] at z;cases z⟩
 keep:=λi h h' st k=>st.at λo e=>k it (by simp) o e
 item:=by
  intro X hP hw hK hc i pins s σ H E I hf st hg;subst hP hw hK;obtain⟨xs,x,hq,hx⟩:=hg;obtain⟨its,rv,p,hz⟩:=I.list hq;obtain⟨u,hu,ru⟩:=rv.get hx;obtain⟨f0,f1,f2,f3,f4,f5⟩:=hf it (by simp);refine wpAny_pyNext_list_item st p.isList (x:=u) (by simpa using hu) λh' J sb=>?_
  have I1:Inv X pins σ H { s with heap:=h' }:=I.turned (t':=s.toks) (λb o hb e=>(sb.2 b hb).trans e) f0 f1 f3 f4 f5;obtain⟨o,e,c,d⟩:=id J;exact⟨u,rfl,p90 (s:={ s with heap:=h' }) e c d (by decide) ⟨x,H,I1,ru,⟨rfl,λys hy=>by rw[I.list_inj hy hq];exact hx⟩,J,λb hb=>(hf b hb).1⟩⟩
 done:=by
  intro X hP hw hK hc i pins s σ H E I hf st hg;subst hP hw hK;obtain⟨xs,hq,hx⟩:=hg;obtain⟨its,rv,p,hz⟩:=I.list hq;obtain⟨f0,f1,f2,f3,f4,f5⟩:=hf it (by simp);have hl:=rv.length;exact wpAny_pyNext_list_end (I.ok.hd hc) st p.isList (by simp;omega) λh' eb=>⟨rfl,I.turned (t':=s.toks) (λb o hb e=>eb b o hb e) f0 f1 f3 f4 f5⟩
 self:=λ_ _ _ _ _ st h=>wpAny_pyIter_listiter st h
theorem lp0{P:Program}{w:World}(a it:Addr):Turn P w K tg (Itt K a) [it] it (λi h=>h.IsTupleIter it a i) where
 mem:=by simp
 obj:=λi h st b hb=>by
  have e:b=it:=by simpa using hb
  subst e;obtain⟨o,e,c,d⟩:=st;exact⟨o,e,λv z=>by rw[d] at z;cases z⟩
 keep:=λi h h' st k=>st.at λo e=>k it (by simp) o e
 item:=by
  intro X hP hw hK hc i pins s σ H E I hf st hg;subst hP hw hK;obtain⟨xs,x,hq,hx⟩:=hg;obtain⟨its,rv,p,hz⟩:=I.tuple hq;obtain⟨u,hu,ru⟩:=rv.get hx;obtain⟨f0,f1,f2,f3,f4,f5⟩:=hf it (by simp);refine wpAny_pyNext_tuple_item st (show s.heap.IsTuple a its.toArray from p) (x:=u) (by simpa using hu) λh' J sb=>?_
  have I1:Inv X pins σ H { s with heap:=h' }:=I.turned (t':=s.toks) (λb o hb e=>(sb.2 b hb).trans e) f0 f1 f3 f4 f5;obtain⟨o,e,c,d⟩:=id J;exact⟨u,rfl,p90 (s:={ s with heap:=h' }) e c d (by decide) ⟨x,H,I1,ru,⟨rfl,λys hy=>by rw[I.tuple_inj hy hq];exact hx⟩,J,λb hb=>(hf b hb).1⟩⟩
 done:=by
  intro X hP hw hK hc i pins s σ H E I hf st hg;subst hP hw hK;obtain⟨xs,hq,hx⟩:=hg;obtain⟨its,rv,p,hz⟩:=I.tuple hq;obtain⟨f0,f1,f2,f3,f4,f5⟩:=hf it (by simp);have hl:=rv.length;exact wpAny_pyNext_tuple_end (I.ok.hd hc) st (show s.heap.IsTuple a its.toArray from p) (by simp;omega) λh' eb=>⟨rfl,I.turned (t':=s.toks) (λb o hb e=>eb b o hb e) f0 f1 f3 f4 f5⟩
 self:=λ_ _ _ _ _ st h=>wpAny_pyIter_tupleiter st h
theorem ka0{P:Program}{w:World}(it:Addr)(lo:Int)(n:Nat):Turn P w K tg (Itr lo n) [it] it (λi h=>IsRangeIter h it (lo+(i:Nat)*1) ((n:Int) - (i:Nat)) 1) where
 mem:=by simp
 obj:=λi h st b hb=>by
  have e:b=it:=by simpa using hb
  subst e;exact⟨_,st,λv z=>by
   have z':Data.fields _=Data.cell v:=z;cases z'⟩
 keep:=λi h h' st k=>k it (by simp) _ st
 item:=by
  intro X hP hw hK hc i pins s σ H E I hf st hg;subst hP hw hK;obtain⟨f0,f1,f2,f3,f4,f5⟩:=hf it (by simp);have W:=Walks.range (prog:=X.prog) (w:=X.w) (I.ok.hd hc) it lo 1 n;refine W.item i s _ _ hg st λv h' tk hv J kk=>?_
  obtain⟨t,rfl⟩:=hv;have I1:Inv X pins σ H { s with heap:=h',toks:=tk }:=I.turned (λb o hb e=>kk b o (by simpa using hb) e) f0 f1 f3 f4 f5;refine⟨_,rfl,p90 (s:={ s with heap:=h',toks:=tk }) (n := "range_iterator") J rfl rfl (by decide) ⟨.int (lo+i),H,I1,⟨t,?_⟩,⟨rfl,rfl⟩,J,λb hb=>(hf b hb).1⟩⟩;rw[Int.mul_one]
 done:=by
  intro X hP hw hK hc i pins s σ H E I hf st hg;subst hP hw hK;obtain⟨f0,f1,f2,f3,f4,f5⟩:=hf it (by simp);exact wpAny_pyNext_range_end (I.ok.hd hc) st (by have:n<=i:=hg;omega) λh' eb=>⟨rfl,I.turned (t':=s.toks) (λb o hb e=>eb b o hb e) f0 f1 f3 f4 f5⟩
 self:=λ_ _ _ _ _ st h=>wpAny_pyIter_rangeiter st h
def Yo0(K:W.Frag)(tl:TE):TI:=fun σ H R=>tl σ H λx H1=>∃a,x=.ref a/\(∃xs,SqL K H1 a xs)/\R (Itl K a) H1
def Xs0(K:W.Frag)(tl:TE):TI:=fun σ H R=>tl σ H λx H1=>∃a,x=.ref a/\(∃xs,SqT K H1 a xs)/\R (Itt K a) H1
theorem dy0{l:Expr}{tl:TE}(hl:PE X l tl):PI X tg l (Yo0 X.K tl):=by
 intro pins s σ H R I h;refine thn (hl pins s σ H _ I h) λv s1 ⟨x,H1,I1,r1,q1⟩=>?_
 obtain⟨a,e,⟨xs,hq⟩,q⟩:=q1;subst e;cases r1;obtain⟨its,rv,p,hz⟩:=I1.list hq;refine wpAny_pyIter_list p.isList ?_;refine⟨s1.heap.objs.size,[s1.heap.objs.size],_,_,H1,rfl,I1.kept (t':=s1.toks) λb o e=>A8 _ e,in0 a _,⟨_,B9 _ rfl,rfl,rfl⟩,λb hb=>?_,q⟩;have e:b=s1.heap.objs.size:=by simpa using hb
 subst e;exact I1.fpOk (A4 _) (I1.hok.fresh (A4 _))
theorem bh0{l:Expr}{tl:TE}(hl:PE X l tl):PI X tg l (Xs0 X.K tl):=by
 intro pins s σ H R I h;refine thn (hl pins s σ H _ I h) λv s1 ⟨x,H1,I1,r1,q1⟩=>?_
 obtain⟨a,e,⟨xs,hq⟩,q⟩:=q1;subst e;cases r1;obtain⟨its,rv,p,hz⟩:=I1.tuple hq;refine wpAny_pyIter_tuple (show s1.heap.IsTuple a its.toArray from p) ?_;refine⟨s1.heap.objs.size,[s1.heap.objs.size],_,_,H1,rfl,I1.kept (t':=s1.toks) λb o e=>A8 _ e,lp0 a _,⟨_,B9 _ rfl,rfl,rfl⟩,λb hb=>?_,q⟩;have e:b=s1.heap.objs.size:=by simpa using hb
 subst e;exact I1.fpOk (A4 _) (I1.hok.fresh (A4 _))
theorem m80{σ:St}{s:Shared}{R:It->Hp->Prop}{E:Value->Shared->Prop}{lo hi:Int}{t u v:Tok}{tk:Nat}(I:Inv X pins σ H s)(h1:-(2 ^ 62)<=lo)(h2:lo<2 ^ 62)(h3:-(2 ^ 62)<=hi)(h4:hi<2 ^ 62)
  (q:R (Itr lo (hi - lo).toNat) H):wpAny (model X.prog X.w) X.A (pyIter (.ref s.heap.objs.size)) (PIE X pins σ tg R) E { s with heap:=s.heap.push { cls:=.type "range",data:=.fields #[.int lo t,.int hi u,.int 1 v] },toks:=tk }:=by
 refine wpAny_pyIter_range (IsRange.new ..) (small_one h1 h2 h3 h4) ?_;have I1:Inv X pins σ H { s with heap:=s.heap.push { cls:=.type "range",data:=.fields #[.int lo t,.int hi u,.int 1 v] },toks:=tk }:=I.kept λb o e=>A8 _ e
 refine⟨(s.heap.push { cls:=.type "range",data:=.fields #[.int lo t,.int hi u,.int 1 v] }).objs.size,[(s.heap.push { cls:=.type "range",data:=.fields #[.int lo t,.int hi u,.int 1 v] }).objs.size],_,_,H,rfl,
  I1.kept (t':=tk) λb o e=>A8 _ e,ka0 _ lo (hi - lo).toNat,?_,λb hb=>?_,q⟩
 ·have e1:lo+((0:Nat):Int)*1=lo:=by simp
  have e2:(((hi - lo).toNat:Nat):Int) - ((0:Nat):Int)=Builtin.Range.rangeSize lo hi 1:=by rw[rangeSize_one];split<;>omega
  show IsRangeIter _ _ (lo+((0:Nat):Int)*1) ((((hi - lo).toNat:Nat):Int) - ((0:Nat):Int)) 1;rw[e1,e2];exact B9 _ rfl
 ·have e:b=(s.heap.push { cls:=.type "range",data:=.fields #[.int lo t,.int hi u,.int 1 v] }).objs.size:=by simpa using hb
  subst e;exact I1.fpOk (A4 _) (I1.hok.fresh (A4 _))
def Xb0(ta:TA):TI:=fun σ H R=>ta σ H λvs H1=>∃j:Int,vs=[.int j]/\-(2 ^ 62)<=j/\j<2 ^ 62/\R (Itr 0 j.toNat) H1
def X90(ta:TA):TI:=fun σ H R=>ta σ H λvs H1=>∃i j:Int,vs=[.int i,.int j]/\(-(2 ^ 62)<=i/\i<2 ^ 62/\-(2 ^ 62)<=j/\j<2 ^ 62)/\R (Itr i (j - i).toNat) H1
theorem kx0{a:Expr}{ta:TA}(hg:Gl X "range")(hm:X.mg "range"=none)(ha:PA X [a] ta)(hs:starEach [a] X.env=[(false,eval a X.env)]:=by rfl):PI X tg (.Call (.Name "range" p) [a] [] pos) (Xb0 ta):=by
 intro pins s σ H R I h;refine Call_ (yf0 I hg hm boot_range (N4 (thn (ha pos pins s σ H _ I h) λus s1 ⟨vs,H1,I1,r1,q1⟩=>?_) hs rfl));obtain⟨j,e,q1,q2,q⟩:=q1;subst e;cases r1 with
 | cons r rr =>
  cases rr;obtain⟨t,rfl⟩:=r;exact call_range_1 (m80 I1 (by omega) (by omega) q1 q2 (by simpa using q))
theorem hf0{a:Expr}{ta:TA}{p pos:Pos}(hg:Gl X "range")(hm:X.mg "range"=none)(ha:PA X [a,b] ta)(hs:starEach [a,b] X.env=[(false,eval a X.env),(false,eval b X.env)]:=by rfl)(hs2:starEach [b] X.env=[(false,eval b X.env)]:=by rfl) :
  PI X tg (.Call (.Name "range" p) [a,b] [] pos) (X90 ta):=by
 intro pins s σ H R I h;refine Call_ (yf0 I hg hm boot_range (N4 (thn (ha pos pins s σ H _ I h) λus s1 ⟨vs,H1,I1,r1,q1⟩=>?_) (by rw[hs,hs2]) (by rw[hs2];rfl)));obtain⟨i,j,e,⟨q1,q2,q3,q4⟩,q⟩:=q1;subst e;cases r1 with
 | cons r rr =>
  cases rr with
  | cons r' rr =>
   cases rr;obtain⟨t,rfl⟩:=r;obtain⟨t',rfl⟩:=r';exact call_range_2 (m80 I1 q1 q2 q3 q4 q)
def Xy0(wi:TI)(g:TG)(tb:TS):TS:=λD σ H=>wi σ H λJ H1=>∃W:Nat->Nat->St->Hp->Prop,(∃m,W 0 m σ H1)/\∀i m σ H,W i m σ H ->
 (J.stop i H/\D.nx σ H)∨(J.go i H/\∃N:St->Hp->Prop,(∀σ' H',N σ' H'->∃m',m'<m/\W (i+1) m' σ' H')/\∀x H',J.yld i H x H'->g x σ H' fun σ2 H2=>tb { D with nx:=N,ct:=N,bk:=D.nx } σ2 H2)
def uf0(fp:List Addr)(h:Heap):List (Addr×Obj):=fp.filterMap λb=>(h.get? b).map λo=>(b,o)
theorem xa0{h:Heap}{b:Addr}{o:Obj}(hb:b∈fp)(e:h.get? b=some o):(b,o)∈uf0 fp h:=L7.mpr ⟨b,hb,by rw[e];rfl⟩
theorem jy0{h:Heap}{p:Addr×Obj}(hp:p∈uf0 fp h):p.1∈fp/\h.get? p.1=some p.2:=by
 obtain⟨b,hb,e⟩:=L7.mp hp;cases q:h.get? b with
 | none=>rw[q] at e;cases e
 | some o =>
  rw[q] at e;have e':(b,o)=p:=B4 e;subst e';exact⟨hb,q⟩
theorem Inv.pinned{σ:St}{s:Shared}(I:Inv X pins σ H s)(hf:∀b∈fp,xz0 X pins H b)(ho:∀b∈fp,∃o,s.heap.get? b=some o/\∀v,o.data≠.cell v):Inv X (pins++uf0 fp s.heap) σ H s :=
 I.pins_of λp hp=>(C3.mp hp).elim (λz=>I.pin p (D2 _ z)) λz=>by
  obtain⟨hb,e⟩:=jy0 z;obtain⟨f0,f1,f2,_⟩:=hf p.1 hb;obtain⟨o,e',d⟩:=ho p.1 hb;rw[e] at e';cases e';exact⟨e,f0,f1,f2,d⟩
theorem Inv.unpinned{pl:List (Addr×Obj)}{σ:St}{s:Shared}(I:Inv X (pins++pl) σ H s):Inv X pins σ H s:=I.pins_of λp hp=>I.pin p (D2 _ (N1 _ hp))
theorem bu0{wi:TI}{g:TG}{tb:TS}{pos:Pos}(hp:PassesOwn (model X.prog X.w) X.A X.env X.xe)(hc:X.calm=true)(hi:PI X tg iter wi)(hg:PG X tg g)(hb:PSs X body tb)
  (hs:∀x,foldedSetIterable iter X.env x=pure x:=by intro _;rfl):PS X (.For tg iter body [] pos) (Xy0 wi g tb):=by
 intro pins s σ H D I h;refine wpAny_For (thn (hi pins s σ H _ I h) λv s1 h1=>thn h1 λa2 s2 h2=>?_) hs;obtain⟨it,fp,tn,J,H2,e,I2,T,Z,f2,W,⟨m0,w0⟩,Y⟩:=h2;subst e;have M:∀{H':Hp},(∀b∈fp,H' b=none)->∀b∈fp,xz0 X pins H' b:=λhn b hb=>⟨hn b hb,(f2 b hb).2⟩
 refine codeAny_forLoop_any (λn s'=>∃i σ' H',Inv X pins σ' H' s'/\tn i s'.heap/\(∀b∈fp,H' b=none)/\W i n σ' H') ?_ m0 ⟨0,σ,H2,I2,Z,λb hb=>(f2 b hb).1,w0⟩;rintro n s3 ⟨i,σ3,H3,I3,S,U,w3⟩;rcases Y i n σ3 H3 w3 with⟨stop,qn⟩|⟨go,N,hN,step⟩
 ·refine N3 hp (thn (T.done X rfl rfl rfl hc i pins s3 σ3 H3 X.xe I3 (M U) S stop) λr s4 ⟨hr,I4⟩=>?_)
  subst hr;exact x6 ⟨σ3,H3,I4,qn⟩
 ·refine N3 hp (thn (T.item X rfl rfl rfl hc i pins s3 σ3 H3 X.xe I3 (M U) S go) λr s4 ⟨u,hr,h4⟩=>?_)
  subst hr;refine N3 hp (thn h4 λ_ s5 ⟨x,H5,I5,r5,y5,O,a1⟩=>?_);have a0:=I5.pinned (M a1) (T.obj _ _ O);refine N3 hp (thn (hg _ s5 σ3 H5 x u _ a0 r5 (step x H5 y5)) λ_ s6 ⟨σ6,H6,I6,q6⟩=>?_);refine N3 hp (thn (hb _ s6 σ6 H6 _ I6 q6) λf s7 q7=>?_);have again:∀{σ7:St} {H7:Hp},Inv X (pins++uf0 fp s5.heap) σ7 H7 s7->N σ7 H7->∃m,m<n/\∃i σ' H',Inv X pins σ' H' s7/\tn i s7.heap/\(∀b∈fp,H' b=none)/\W i m σ' H':=λ{σ7 H7} I7 n7=>by
   obtain⟨m',hm,w7⟩:=hN σ7 H7 n7;refine⟨m',hm,i+1,σ7,H7,I7.unpinned,T.keep _ _ _ O λb hb o e=>(I7.pin (b,o) (D2 _ (D2 _ (xa0 hb e)))).1,λb hb=>?_,w7⟩;obtain⟨o,e,d⟩:=T.obj _ _ O b hb;exact(I7.pin (b,o) (D2 _ (D2 _ (xa0 hb e)))).2.1
  cases f with
  | next=>obtain⟨σ7,H7,I7,n7⟩:=q7;exact again I7 n7
  | cont=>obtain⟨σ7,H7,I7,n7⟩:=q7;exact again I7 n7
  | brk=>obtain⟨σ7,H7,I7,q7⟩:=q7;exact⟨σ7,H7,I7.unpinned,q7⟩
  | ret v=>obtain⟨x7,σ7,H7,I7,r7,q7⟩:=q7;exact⟨x7,σ7,H7,I7.unpinned,r7,q7⟩
abbrev R2:=V->V->Hp->VK->Prop
def OpR(X:Cx)(f:Value->Value->Sem Value)(r:R2):Prop :=
 ∀(pins:List (Addr×Obj)) (s:Shared) (σ:St) (H:Hp) (x y:V) (v u:Value) (Q:VK),Inv X pins σ H s->RelV x v->RelV y u->r x y H Q ->
  wpAny (model X.prog X.w) X.A (f v u) (EP X pins σ Q) X.xe s
def UnR(X:Cx)(f:Value->Sem Value)(r:V->Hp->VK->Prop):Prop :=
 ∀(pins:List (Addr×Obj)) (s:Shared) (σ:St) (H:Hp) (x:V) (v:Value) (Q:VK),Inv X pins σ H s->RelV x v->r x H Q ->
  wpAny (model X.prog X.w) X.A (f v) (EP X pins σ Q) X.xe s
def CallR(X:Cx)(f:Value)(r:List V->Hp->VK->Prop):Prop :=
 ∀(pins:List (Addr×Obj)) (s:Shared) (σ:St) (H:Hp) (xs:List V) (us:List Value) (Q:VK),Inv X pins σ H s->Vals xs us->r xs H Q ->
  wpAny (model X.prog X.w) X.A (call f us) (EP X pins σ Q) X.xe s
def tOp(r:R2)(ta tb:TE):TE:=fun σ H Q=>ta σ H λx H1=>tb σ H1 λy H2=>r x y H2 Q
def tUn(r:V->Hp->VK->Prop)(ta:TE):TE:=fun σ H Q=>ta σ H λx H1=>r x H1 Q
def rI(C:Int->Int->Prop)(g:Int->Int->V):R2:=λx y H Q=>∃i j,x=.int i/\y=.int j/\C i j/\Q (g i j) H
def rI0(g:Int->Int->V):R2:=λx y H Q=>∃i j,x=.int i/\y=.int j/\Q (g i j) H
def rU(g:Int->V):V->Hp->VK->Prop:=λx H Q=>∃i,x=.int i/\Q (g i) H
section
variable{a:Expr}{tc:TE}
theorem fk0(ha:PE X a ta)(hb:PE X b tb){s:Shared}{σ:St}{R:V->V->Hp->Prop}(I:Inv X pins σ H s)
  (h:ta σ H λx H1=>tb σ H1 λy H2=>R x y H2) {Q:Value->Shared->Prop} {f:Value->Value->Sem Value}
  (hf:∀v u s2 x y H2,Inv X pins σ H2 s2->RelV x v->RelV y u->R x y H2->wpAny (model X.prog X.w) X.A (f v u) Q X.xe s2) :
  wpAny (model X.prog X.w) X.A (eval a X.env) (λv s₁=>wpAny (model X.prog X.w) X.A (eval b X.env) (λu s₂=>wpAny (model X.prog X.w) X.A (f v u) Q X.xe s₂) X.xe s₁) X.xe s:=by
 refine thn (ha pins s σ H _ I h) λv s1 ⟨x,H1,I1,r1,q1⟩=>?_
 refine thn (hb pins s1 σ H1 _ I1 q1) λu s2 ⟨y,H2,I2,r2,q2⟩=>?_
 exact hf v u s2 x y H2 I2 r1 r2 q2
theorem Yf0{op:Operator}{r:R2}(ho:OpR X (binaryOp op) r)(ha:PE X a ta)(hb:PE X b tb):PE X (.BinOp a op b pos) (tOp r ta tb):=by
 intro pins s σ H Q I h;exact wpAny_BinOp (fk0 ha hb I h λv u s2 x y H2 I2 rx ry q=>ho pins s2 σ H2 x y v u Q I2 rx ry q)
theorem Y40{op:UnaryOp}{r:V->Hp->VK->Prop}(ho:UnR X (unaryOp op) r)(ha:PE X a ta):PE X (.UnaryOp op a pos) (tUn r ta):=by
 intro pins s σ H Q I h;exact UnaryOp_ (thn (ha pins s σ H _ I h) λv s1 ⟨x,H1,I1,r1,q1⟩=>ho pins s1 σ H1 x v Q I1 r1 q1)
theorem opI{f:Value->Value->Sem Value}{C:Int->Int->Prop}{g:Int->Int->Int}
  (rule:∀(i j:Int) (t u:Tok) (s:Shared) (Q:Value->Shared->Prop) (E:Value->Shared->Prop),C i j->Q (.int (g i j) s.toks) { s with toks:=s.toks+1 }->wpAny (model X.prog X.w) X.A (f (.int i t) (.int j u)) Q E s) :
  OpR X f (rI C λi j=>.int (g i j)):=by
 intro pins s σ H x y v u Q I rx ry h;obtain⟨i,j,rfl,rfl,hc,q⟩:=h;obtain⟨t,rfl⟩:=rx;obtain⟨t',rfl⟩:=ry;exact rule i j t t' s _ _ hc ⟨.int (g i j),H,I.tok _,⟨_,rfl⟩,q⟩
theorem bs0{f:Value->Value->Sem Value}{g:Int->Int->Int}
  (rule:∀(i j:Int) (t u:Tok) (s:Shared) (Q:Value->Shared->Prop) (E:Value->Shared->Prop),Q (.int (g i j) s.toks) { s with toks:=s.toks+1 }->wpAny (model X.prog X.w) X.A (f (.int i t) (.int j u)) Q E s) :
  OpR X f (rI0 λi j=>.int (g i j)):=by
 intro pins s σ H x y v u Q I rx ry h;obtain⟨i,j,rfl,rfl,q⟩:=h;obtain⟨t,rfl⟩:=rx;obtain⟨t',rfl⟩:=ry;exact rule i j t t' s _ _ ⟨.int (g i j),H,I.tok _,⟨_,rfl⟩,q⟩
theorem gm0{f:Value->Value->Sem Value}{g:Int->Int->Bool}
  (rule:∀(i j:Int) (t u:Tok) (s:Shared) (Q:Value->Shared->Prop) (E:Value->Shared->Prop),Q (.bool (g i j)) s->wpAny (model X.prog X.w) X.A (f (.int i t) (.int j u)) Q E s) :
  OpR X f (rI0 λi j=>.bl (g i j)):=by
 intro pins s σ H x y v u Q I rx ry h;obtain⟨i,j,rfl,rfl,q⟩:=h;obtain⟨t,rfl⟩:=rx;obtain⟨t',rfl⟩:=ry;exact rule i j t t' s _ _ ⟨.bl (g i j),H,I,rfl,q⟩
def g60(i j:Int):Prop:=0<j/\j<1073741824
def f00(i j:Int):Prop:=0<=j/\j<=1000000/\i.natAbs<2 ^ 64
def CMul(i j:Int):Prop:=(-(2 ^ 64)<i/\i<2 ^ 64)∨(-(2 ^ 64)<j/\j<2 ^ 64)
theorem CMul.ok{i j:Int}(h:CMul i j):IntMulOk i j:=by
 rcases h with⟨h1,h2⟩|⟨h1,h2⟩
 ·exact .of_left (intBits_le_64 h1 h2)
 ·exact .of_right (intBits_le_64 h1 h2)
theorem a80:OpR X (binaryOp .Add) (rI0 λi j=>.int (i+j)):=bs0 λ_ _ _ _ _ _ _ q=>add_int q
theorem Z70:OpR X (binaryOp .Sub) (rI0 λi j=>.int (i - j)):=bs0 λ_ _ _ _ _ _ _ q=>sub_int q
theorem Zb0:OpR X (binaryOp .Mult) (rI CMul λi j=>.int (i*j)):=opI λ_ _ _ _ _ _ _ hc q=>mul_int q hc.ok
theorem db0:OpR X (binaryOp .FloorDiv) (rI g60 λi j=>.int (i/j)):=opI λi j _ _ _ _ _ hc q=>by
 have h1:(0:Int)<j:=hc.1;have h2:j<1073741824:=hc.2;exact floordiv_int (by omega) (by rw[Int.fdiv_eq_ediv_of_nonneg i (by omega)];exact q) (.inl (PyProof.noPylong_small (by omega)))
theorem ao0:OpR X (binaryOp .Mod) (rI (λ_ j=>0<j) λi j=>.int (i%j)):=opI λi j _ _ _ _ _ hc q=>by
 have h1:(0:Int)<j:=hc;exact mod_int' (by omega) (by rw[Int.fmod_eq_emod_of_nonneg i (by omega)];exact q)
theorem Zh0:OpR X (binaryOp .Pow) (rI f00 λi j=>.int (i ^ j.toNat)):=opI λ_ _ _ _ _ _ _ hc q=>pow_int_small hc.1 hc.2.1 hc.2.2 q
theorem unI{f:Value->Sem Value}{g:Int->Int}
  (rule:∀(i:Int) (t:Tok) (s:Shared) (Q:Value->Shared->Prop) (E:Value->Shared->Prop),Q (.int (g i) s.toks) { s with toks:=s.toks+1 }->wpAny (model X.prog X.w) X.A (f (.int i t)) Q E s) :
  UnR X f (rU λi=>.int (g i)):=by
 intro pins s σ H x v Q I rx h;obtain⟨i,rfl,q⟩:=h;obtain⟨t,rfl⟩:=rx;exact rule i t s _ _ ⟨.int (g i),H,I.tok _,⟨_,rfl⟩,q⟩
theorem ba0:UnR X (unaryOp .USub) (rU λi=>.int (-i)):=unI λ_ _ _ _ _ q=>neg_int q
end
def ap0:V->V->Bool
 | .non,.non=>true|.non,.int _=>true|.int _,.non=>true|.non,.bl _=>true|.bl _,.non=>true|.non,.str _=>true|.str _,.non=>true
 | .int _,.int _=>true|.bl _,.bl _=>true|.str _,.str _=>true|.byt _,.byt _=>true
 | .int _,.str _=>true|.str _,.int _=>true|.bl _,.str _=>true|.str _,.bl _=>true
 | _,_=>false
def rEq:R2:=λx y H Q=>ap0 x y=true/\Q (.bl (decide (x=y))) H
theorem dl0{i j:Int}:decide (V.int i=V.int j)=(i==j):=by
 rw[Bool.eq_iff_iff];simp
theorem av0{i j:Bool}:decide (V.bl i=V.bl j)=(i==j):=by
 rw[Bool.eq_iff_iff];simp
theorem d80{i j:Str}:decide (V.str i=V.str j)=(i==j):=by
 rw[Bool.eq_iff_iff];simp
theorem b20{i j:Array UInt8}:decide (V.byt i=V.byt j)=(i.toList==j.toList):=by
 rw[Bool.eq_iff_iff];cases i;cases j;simp
section
variable{a:Expr}{tc:TE}
theorem Q0{σ:St}{s:Shared}{Q:VK}{k k':Bool}(I:Inv X pins σ H s)(q:Q (.bl k) H)(e:k=k'):EP X pins σ Q (.bool k') s:=by
 subst e;exact⟨.bl k,H,I,rfl,q⟩
theorem M9:OpR X (compareOp .Eq) rEq:=by
 intro pins s σ H x y v u Q I rx ry h;obtain⟨hs,q⟩:=h;cases x with
 | non =>
  cases rx;cases y with
  | non=>cases ry;exact PySem.EqNone.eq_none_none (Q0 I q (by simp))
  | bl j=>cases ry;exact PySem.EqNone.eq_none_bool (Q0 I q (by simp))
  | int j=>obtain⟨t',rfl⟩:=ry;exact PySem.EqNone.eq_none_int (Q0 I q (by simp))
  | str j=>obtain⟨t',rfl⟩:=ry;exact PySem.EqNone.eq_none_str (Q0 I q (by simp))
  | _=>exact absurd (show false=true from hs) C7
 | bl i =>
  cases rx;cases y with
  | non=>cases ry;exact PySem.EqNone.eq_bool_none (Q0 I q (by simp))
  | bl j=>cases ry;exact eq_bool (Q0 I q av0)
  | str j=>obtain⟨t',rfl⟩:=ry;exact PySem.EqMixed.eq_bool_str (Q0 I q (by simp))
  | _=>exact absurd (show false=true from hs) C7
 | int i =>
  obtain⟨t,rfl⟩:=rx;cases y with
  | non=>cases ry;exact PySem.EqNone.eq_int_none (Q0 I q (by simp))
  | int j=>obtain⟨t',rfl⟩:=ry;exact eq_int (Q0 I q dl0)
  | str j=>obtain⟨t',rfl⟩:=ry;exact PySem.EqMixed.eq_int_str (Q0 I q (by simp))
  | _=>exact absurd (show false=true from hs) C7
 | str i =>
  obtain⟨t,rfl⟩:=rx;cases y with
  | non=>cases ry;exact PySem.EqNone.eq_str_none (Q0 I q (by simp))
  | bl j=>cases ry;exact PySem.EqMixed.eq_str_bool (Q0 I q (by simp))
  | int j=>obtain⟨t',rfl⟩:=ry;exact PySem.EqMixed.eq_str_int (Q0 I q (by simp))
  | str j=>obtain⟨t',rfl⟩:=ry;exact eq_str (Q0 I q d80)
  | _=>exact absurd (show false=true from hs) C7
 | byt i =>
  obtain⟨t,rfl⟩:=rx;cases y with
  | byt j=>obtain⟨t',rfl⟩:=ry;exact W.eq_bytes (Q0 I q b20)
  | _=>exact absurd (show false=true from hs) C7
 | _=>cases y<;>exact absurd (show false=true from hs) C7
theorem wb0:OpR X (compareOp .Lt) (rI0 λi j=>.bl (decide (i<j))):=gm0 λ_ _ _ _ _ _ _ q=>lt_int q
theorem Yl0:OpR X (compareOp .LtE) (rI0 λi j=>.bl (decide (i<=j))):=gm0 λ_ _ _ _ _ _ _ q=>le_int q
theorem e70:OpR X (compareOp .Gt) (rI0 λi j=>.bl (decide (j<i))):=gm0 λ_ _ _ _ _ _ _ q=>gt_int q
theorem n90:OpR X (compareOp .Is) (λx y H Q=>y=.non/\Q (.bl (decide (x=.non))) H):=by
 intro pins s σ H x y v u Q I rx ry h;obtain⟨rfl,q⟩:=h;cases ry;refine is_none_gen (Q0 I q ?_);cases x<;>first
  | (cases rx;rfl)
  | (obtain⟨t,rfl⟩:=rx;rfl)
theorem ru0:OpR X (compareOp .IsNot) (λx y H Q=>y=.non/\Q (.bl (!decide (x=.non))) H):=by
 intro pins s σ H x y v u Q I rx ry h;obtain⟨rfl,q⟩:=h;cases ry;refine isnot_none_gen (Q0 I q ?_);cases x<;>first
  | (cases rx;rfl)
  | (obtain⟨t,rfl⟩:=rx;rfl)
theorem OpR.or{f:Value->Value->Sem Value}{r r':R2}(h:OpR X f r)(h':OpR X f r'):OpR X f (λx y H Q=>r x y H Q∨r' x y H Q):=by
 intro pins s σ H x y v u Q I rx ry q;rcases q with q|q
 ·exact h pins s σ H x y v u Q I rx ry q
 ·exact h' pins s σ H x y v u Q I rx ry q
theorem ju0(b:Expr){op:CmpOp}(h:op≠.In:=by decide)(h2:op≠.NotIn:=by decide):behindInMarks op b=false:=by
 have e1:(op==CmpOp.In)=false:=by cases op<;>first|rfl|exact absurd rfl h
 have e2:(op==CmpOp.NotIn)=false:=by cases op<;>first|rfl|exact absurd rfl h2
 cases b<;>simp[behindInMarks,e1,e2]
theorem ez0{op:CmpOp}{r:R2}(ho:OpR X (compareOp op) r)(ha:PE X a ta)(hb:PE X b tb)(hm:behindInMarks op b=false):PE X (.Compare a [op] [b] pos) (tOp r ta tb):=by
 intro pins s σ H Q I h;exact wpAny_Compare1 (fk0 ha hb I h λv u s2 x y H2 I2 rx ry q=>ho pins s2 σ H2 x y v u Q I2 rx ry q) hm
def ee0(t:TE):TT:=fun σ H Q=>t σ H λx H'=>∃k,x=.bl k/\Q k H'
theorem dm0{op:CmpOp}{r:R2}(ho:OpR X (compareOp op) r)(ha:PE X a ta)(hb:PE X b tb)(hm:behindInMarks op b=false):PT X (.Compare a [op] [b] pos) (ee0 (tOp r ta tb)):=by
 intro pins s σ H Q I h;refine wpAny_isTrue_Compare1 (thn (ha pins s σ H _ I h) λv s1 ⟨x,H1,I1,r1,q1⟩=>thn (hb pins s1 σ H1 _ I1 q1) λu s2 ⟨y,H2,I2,r2,q2⟩ =>
  thn (ho pins s2 σ H2 x y v u _ I2 r1 r2 q2) λc s3 ⟨z,H3,I3,r3,k,e,q3⟩=>?_) hm
 subst e;cases r3;exact N2 ⟨H3,I3,q3⟩
def jo0(r r':R2)(ta tb tc:TE):TE:=fun σ H Q=>ta σ H λx H1=>tb σ H1 λy H2=>r x y H2 λz H3=>∃k,z=.bl k /\
 (if k=true then tc σ H3 λw' H4=>r' y w' H4 Q else Q (.bl false) H3)
theorem g70{op op':CmpOp}{r r':R2}(ho:OpR X (compareOp op) r)(ho':OpR X (compareOp op') r')(ha:PE X a ta)(hb:PE X b tb)(hc:PE X c tc)
  (hm:lastMarks [op,op'] [b,c]=false:=by with_unfolding_all rfl):PT X (.Compare a [op,op'] [b,c] pos) (ee0 (jo0 r r' ta tb tc)):=by
 intro pins s σ H Q I h;refine isTrue_chain (thn (ha pins s σ H _ I h) λv s1 ⟨x,H1,I1,r1,q1⟩=>test_link (thn (hb pins s1 σ H1 _ I1 q1) λu s2 ⟨y,H2,I2,r2,q2⟩ =>
  thn (ho pins s2 σ H2 x y v u _ I2 r1 r2 q2) λd s3 ⟨z,H3,I3,r3,k,e,q3⟩=>?_)) hm
 subst e;cases r3;refine N2 ?_;cases k with
 | false =>
  obtain⟨k',e',q'⟩:=q3;cases e';exact ite_ff ⟨H3,I3,q'⟩
 | true =>
  refine ite_tt (test_last (thn (hc pins s3 σ H3 _ I3 q3) λw' s4 ⟨z',H4,I4,r4,q4⟩=>thn (ho' pins s4 σ H4 y z' u w' _ I4 r2 r4 q4) λd' s5 ⟨z2,H5,I5,r5,k2,e2,q5⟩=>?_));subst e2;cases r5;exact N2 ⟨H5,I5,q5⟩
theorem wh0:(sizeLine:Nat)<2 ^ 63:=by rw[sizeLine_eq];decide
theorem kp0:OpR X (binaryOp .Add) (λx y H Q=>∃i j,x=.str i/\y=.str j/\i.length+j.length<=sizeLine/\Q (.str (i++j)) H):=by
 intro pins s σ H x y v u Q I rx ry h;obtain⟨i,j,rfl,rfl,hz,q⟩:=h;obtain⟨t,rfl⟩:=rx;obtain⟨t',rfl⟩:=ry;exact add_str (λt' tk=>⟨.str (i++j),H,I.tok _,⟨_,rfl⟩,q⟩) hz
theorem vals1{x:V}(r:Vals [x] us):∃u,us=[u]/\RelV x u:=by
 cases r with
 | cons r1 r2=>cases r2;exact⟨_,rfl,r1⟩
theorem ip0:CallR X (.type "int") (λxs H Q=>(∃i,xs=[.int i]/\Q (.int i) H)∨∃k,xs=[.bl k]/\Q (.int (if k then 1 else 0)) H):=by
 intro pins s σ H xs us Q I r h;rcases h with⟨i,rfl,q⟩|⟨k,rfl,q⟩
 ·obtain⟨u,rfl,t,rfl⟩:=vals1 r
  exact call_int_int ⟨.int i,H,I,⟨_,rfl⟩,q⟩
 ·obtain⟨u,rfl,r1⟩:=vals1 r
  cases r1;exact call_int_bool ⟨.int (if k then 1 else 0),H,I.tok _,⟨_,rfl⟩,q⟩
end
theorem RelO.some_of{v:V}{o:Option Value}(r:RelO (some v) o):∃u,o=some u/\RelV v u:=by
 cases o with
 | none=>exact(show False from r).elim
 | some u=>exact⟨u,rfl,r⟩
structure Room(k:Nat)(A:Around):Prop where
 hd:A.handled=none
 dp:A.depth+3*k+5<recursionLimit
 un:A.units+16*k+200<cLine
theorem Room.mono{k:Nat}(r:Room k A)(h:j<=k):Room j A:=⟨r.hd,by have:=r.dp;omega,by have:=r.un;omega⟩
theorem Room.deeper{k:Nat}(r:Room (k+1) A)(env:Env):Room k (A.deeper env) :=
 ⟨r.hd,by have:=r.dp;show A.depth+1+3*k+5<_;omega,by have:=r.un;show A.units+3+16*k+200<_;omega⟩
theorem Room.depth{k:Nat}(r:Room k A):A.depth<recursionLimit:=by have:=r.dp;omega
theorem Room.units{k:Nat}(r:Room k A):A.units+64<cLine:=by have:=r.un;omega
def Wk0:TA:=λ_ H Q=>Q [] H
def Yg0(ta:TE)(tr:TA):TA:=fun σ H Q=>ta σ H λx H1=>tr σ H1 λxs H2=>Q (x::xs) H2
section
variable{t:TA}
theorem wm0:PA X [] Wk0:=λ_ _ _ _ H Q I h=>b9 ⟨[],H,I,.nil,h⟩
theorem zn0(ha:PE X e te)(hr:PA X es t)(hs:starEach (e::es) X.env=(false,eval e X.env)::starEach es X.env:=by rfl):PA X (e::es) (Yg0 te t):=by
 intro pos pins s σ H Q I h;rw[hs];show wpAny _ _ (spliced ((false,eval e X.env)::backTo pos (starEach es X.env))) _ _ s;refine d3 (thn (ha pins s σ H _ I h) λu s1 ⟨x,H1,I1,r1,q1⟩=>?_);exact thn (hr pos pins s1 σ H1 _ I1 q1) λus s2 ⟨xs,H2,I2,r2,q2⟩=>⟨x::xs,H2,I2,.cons r1 r2,q2⟩
def W50(t:TA):TE:=fun σ H Q=>t σ H λxs H1=>xs.length<=sizeLine/\∀p,H1 p=none->Q (.ref p) (upd H1 p (.tup xs))
def W80(t:TA):TE:=fun σ H Q=>t σ H λxs H1=>xs.length<=sizeLine/\∀p,H1 p=none->Q (.ref p) (upd H1 p (.lst xs))
theorem Zs0{x1}(h:PA X es t):PE X (.Tuple es x1 pos) (W50 t):=by
 intro pins s σ H Q I hq;refine wpAny_Tuple_spliced (thn (h pos pins s σ H _ I hq) λus s1 ⟨xs,H1,I1,r,z,q⟩=>⟨by rw[← r.length];exact z,?_⟩);have hf:H1 s1.heap.objs.size=none:=I1.hok.fresh (A4 _);refine⟨.ref s1.heap.objs.size,upd H1 s1.heap.objs.size (.tup xs),I1.laid (t':=s1.toks) (λb u e=>A8 _ e) (A4 _) ?_,rfl,q _ hf⟩;exact⟨z,us,r,⟨_,B9 _ rfl,rfl,_,rfl,rfl⟩⟩
theorem iq0(h:PA X es t):PE X (.List es pos) (W80 t):=by
 intro pins s σ H Q I hq;refine wpAny_List_spliced (thn (h pos pins s σ H _ I hq) λus s1 ⟨xs,H1,I1,r,z,q⟩=>⟨by rw[← r.length];exact z,?_⟩);have hf:H1 s1.heap.objs.size=none:=I1.hok.fresh (A4 _);refine⟨.ref s1.heap.objs.size,upd H1 s1.heap.objs.size (.lst xs),I1.laid (t':=s1.toks) (λb u e=>A8 _ e) (A4 _) ?_,rfl,q _ hf⟩;exact⟨z,us,0,r,B9 _ rfl⟩
end
abbrev Sp:=List V->Hp->VK->XK->Prop
abbrev CXT:=List Env->Hp->Shared->XK->Value->Shared->Prop
variable{sp:L2.Sp}
structure Env0(P:Program)(w:World)(K:W.Frag)(mg:Str->Option Value)(base:Heap)(A:Around)(outer:List Env)(s:Shared)(H:Hp):Prop where
 frames:A.frames=some outer
 mod:Mod K mg base
 bs:∀b o,base.get? b=some o->s.heap.get? b=some o/\H b=none
 bsz:base.objs.size<=s.heap.objs.size
 funs:s.heap.FunFrames base outer
 frf:∀b∈frs outer,H b=none
 hok:HOk P w H s.heap
 bare:AllBare s.gens
variable{CX:L2.CXT}
def CE(outer:List Env)(P:Program)(w:World)(H:Hp)(s:Shared)(Q:VK)(u:Value)(s':Shared):Prop :=
 ∃v H',s'.os=s.os/\AllBare s'.gens/\Un (frs outer) [] H H' s.heap s'.heap/\HOk P w H' s'.heap/\RelV v u/\Q v H'
def CR(CX:CXT)(outer:List Env)(P:Program)(w:World)(H:Hp)(s:Shared)(Q:VK)(E:XK)(r:Result)(s':Shared):Prop :=
 match r with
 | .ok (.ret u)=>CE outer P w H s Q u s'
 | .ok _=>False
 | .error e=>CX outer H s E e s'
structure FnOk(P:Program)(w:World)(K:W.Frag)(mg:Str->Option Value)(base:Heap)(CX:CXT)(k:Nat)(f:Addr)(fd:FuncData)(ps:List Str)(sp:Sp):Prop where
 len:∀vs H Q E,sp vs H Q E->vs.length=ps.length
 run:∀(A:Around) (outer:List Env) (s:Shared) (H:Hp) (args:Args) (us:List Value) (vs:List V) (Q:VK) (E:XK),Room k A->Env0 P w K mg base A outer s H->BindsTo s fd args (ps.zip us)->Vals vs us->sp vs H Q E ->
  codeAny (model P w) A (.call (.ref f) args) (CR CX outer P w H s Q E) s
section
variable{σ:St}{s:Shared}
theorem Inv.env0(I:Inv X pins σ H s):Env0 X.prog X.w X.K X.mg X.base X.A X.stack s H :=
 ⟨I.ok.frames,I.ok.mod,I.bs,C5 I.ok.bsz I.sz,I.stack,I.stkFree,I.hok,I.bare⟩
theorem Inv.after{Q:VK}(I:Inv X pins σ H s)(h:CE X.stack X.prog X.w H s Q u s'):EP X pins σ Q u s':=by
 obtain⟨v,H',os,bare,un,hok,r,q⟩:=h;obtain⟨hh,g,d,t,J⟩:=s';obtain rfl:J=s.os:=os;exact⟨v,H',I.call (h':=hh) (g':=g) (d':=d) (t':=t) (ch:=[]) un hok bare (λb z=>absurd z (by simp)),r,q⟩
end
def Xn0(sp:Sp)(dvs:List V)(E:XK)(t:TA):TE:=fun σ H Q=>t σ H λvs H1=>sp (vs++dvs) H1 Q E
def Binds(K:W.Frag)(fd:FuncData)(ps:List Str)(ds:List Value):Prop :=
 ∀(s:Shared) (us:List Value),K.In s.heap->(us++ds).length=ps.length->BindsTo s fd ⟨us,[]⟩ (ps.zip (us++ds))
theorem Binds.all{ps:List Str}(h:∀us:List Value,us.length=ps.length->bindArgs fd ⟨us,[]⟩=pure (ps.zip us)):Binds K fd ps []:=λs us _ hl=>by
 rw[List.append_nil] at hl ⊢;exact .of_eq (h us hl)
def nj0(CX:CXT)(X:Cx)(E:XK):Prop:=∀(pins:List (Addr×Obj)) (σ:St) (H:Hp) (s:Shared) (e:Value) (s':Shared),Inv X pins σ H s->CX X.stack H s E e s'->X.xe e s'
section
variable{k:Nat}{f C:Addr}{ps:List Str}{dvs:List V}{ds:List Value}{E:XK}{m:Str}{t:TA}
theorem Zi0{pins:List (Addr×Obj)}{σ:St}{H:Hp}{s:Shared}{Q:VK}{us:List Value}{vs:List V}(F:FnOk X.prog X.w X.K X.mg X.base CX k f fd ps sp)(hr:Room k X.A)(hb:Binds X.K fd ps ds)(hd:Vals dvs ds)(hx:nj0 CX X E)
  (I:Inv X pins σ H s) (r:Vals vs us) (h:sp (vs++dvs) H Q E):wpAny (model X.prog X.w) X.A (call (.ref f) us) (EP X pins σ Q) X.xe s:=by
 have r2:Vals (vs++dvs) (us++ds):=r.append hd;have hl:(us++ds).length=ps.length:=by rw[← r2.length];exact F.len _ _ _ _ h
 refine wpAny_call (x9 (F.run X.A X.stack s H ⟨us,[]⟩ (us++ds) (vs++dvs) Q E hr I.env0 (hb s us I.kIn hl) r2 h) λr s' hq=>?_);cases r with
 | error e=>exact hx pins σ H s e s' I hq
 | ok fl =>
  cases fl with
  | ret u=>exact I.after hq
  | next=>exact False.elim hq
  | brk=>exact False.elim hq
  | cont=>exact False.elim hq
theorem uz0(F:FnOk X.prog X.w X.K X.mg X.base CX k f fd ps sp)(hr:Room k X.A)(hg:Gl X x)(hm:X.mg x=some (.ref f))(hk:W.keepIn X.K (.ref f)=true)(hb:Binds X.K fd ps ds)(hd:Vals dvs ds)(hx:nj0 CX X E)
  (ha:PA X (e::es) t) (hdb:(x==("__debug__" : Str))=false:=by decide) (he:starEach (e::es) X.env=(false,eval e X.env)::starEach es X.env:=by rfl) (hpl:(backTo pos (starEach es X.env)).any (·.1)=false:=by rfl) :
  PE X (.Call (.Name x p) (e::es) [] pos) (Xn0 sp dvs E t):=by
 intro pins s σ H Q I h;refine P5 (es0 I hg hm ?_ hdb);refine W.callWith_K (h₀:=X.base) I.ok.mod.kin hk (thn (ha pos pins s σ H _ I h) λus s1 ⟨vs,H1,I1,r,q⟩=>⟨I1.kIn,?_⟩) he hpl;exact Zi0 F hr hb hd hx I1 r q
end
structure FnScope(N P:List Str)(sc:Scope):Prop where
 kind:sc.kind=.function
 co:sc.isCoroutine=false
 gen:sc.isGenerator=false
 nd:N.Nodup
 pre:N.take P.length=P
 par:∀x∈P,sc.names.lookup x=some .local∨sc.names.lookup x=some .cell
 nofree:∀y∈sc.names,y.2≠.free
theorem q60{kindOf:Str->Option NameKind}:∀{binds:List (Str×Value)} {m:Str->Option Value},(∀v,(x,v)∉binds)->bindL kindOf binds m x=m x
 | [],_,_=>rfl
 | (n,v)::r,m,h=>by
  unfold bindL;rw[q60 λw hw=>h w (C2 _ hw)];split
  ·have:x≠n:=by rintro rfl;exact h v A5
   simp[this]
  ·rfl
theorem q40{kindOf:Str->Option NameKind}:∀{binds:List (Str×Value)} {m:Str->Option Value},(∀v,(x,v)∉binds)->bindC kindOf binds m x=m x
 | [],_,_=>rfl
 | (n,v)::r,m,h=>by
  unfold bindC;rw[q40 λw hw=>h w (C2 _ hw)];split
  ·rfl
  ·have:x≠n:=by rintro rfl;exact h v A5
   simp[this]
theorem q20{kindOf:Str->Option NameKind}:∀{P:List Str} {vs:List Value} {i:Nat} {m:Str->Option Value},P.Nodup->P[i]?=some x->vs[i]?=some v->kindOf x=some .local ->
  bindL kindOf (P.zip vs) m x=some v
 | [],_,_,_,_,h,_,_=>by simp at h
 | _::_,[],_,_,_,_,h,_=>by simp at h
 | p::P,w::vs,0,m,nd,h1,h2,hk=>by
  simp at h1 h2;subst h1;subst h2;show bindL kindOf ((p,w)::P.zip vs) m p=_;unfold bindL;rw[q60 λv hv=>(L8.mp nd).1 (N9 hv).1,if_pos hk];simp
 | p::P,w::vs,i+1,m,nd,h1,h2,hk=>by
  show bindL kindOf ((p,w)::P.zip vs) m x=_;unfold bindL;exact q20 (i:=i) (L8.mp nd).2 (by simpa using h1) (by simpa using h2) hk
theorem qc0{kindOf:Str->Option NameKind}:∀{P:List Str} {vs:List Value} {i:Nat} {m:Str->Option Value},P.Nodup->P[i]?=some x->vs[i]?=some v->kindOf x≠some .local ->
  bindC kindOf (P.zip vs) m x=some v
 | [],_,_,_,_,h,_,_=>by simp at h
 | _::_,[],_,_,_,_,h,_=>by simp at h
 | p::P,w::vs,0,m,nd,h1,h2,hk=>by
  simp at h1 h2;subst h1;subst h2;show bindC kindOf ((p,w)::P.zip vs) m p=_;unfold bindC;rw[q40 λv hv=>(L8.mp nd).1 (N9 hv).1,if_neg hk];simp
 | p::P,w::vs,i+1,m,nd,h1,h2,hk=>by
  show bindC kindOf ((p,w)::P.zip vs) m x=_;unfold bindC;exact qc0 (i:=i) (L8.mp nd).2 (by simpa using h1) (by simpa using h2) hk
def start(N:List Str)(vs:List V):St:=vs.map some++List.replicate (N.length - vs.length) none
def u50(CX:CXT)(P:Program)(w:World)(K:W.Frag)(mg:Str->Option Value)(base:Heap)(N:List Str)(qual:Str)(scope:Scope)(f:Addr)(cd:Value)(A:Around)(outer:List Env)(s:Shared)(H:Hp)(E:XK):Cx where
 prog:=P
 w:=w
 K:=K
 mg:=mg
 base:=base
 A:=A.deeper (envOfC qual scope s.heap.objs.size f cd)
 N:=N
 s₀:=s
 H₀:=H
 env:=envOfC qual scope s.heap.objs.size f cd
 outer:=outer
 stack:=envOfC qual scope s.heap.objs.size f cd::outer
 ex:=[]
 calm:=true
 fn:=λ_=>true
 pn:=[]
 xe:=λe s'=>wpAny (model P w) (A.deeper (envOfC qual scope s.heap.objs.size f cd)) (leaving (envOfC qual scope s.heap.objs.size f cd) e) (λ_ s''=>CX outer H s E e s'') (λe' s''=>CX outer H s E e' s'') s'
theorem o20(h:sc.names.lookup x=some .cell):∃c,(cellsFrom n sc.names []).lookup x=some c:=by
 have q:=W.cellsFrom_some sc.names n [] (.inl h);exact Option.isSome_iff_exists.mp q
theorem kv0{CX:CXT}{P:Program}{w:World}{K:W.Frag}{mg:Str->Option Value}{base:Heap}{N ps:List Str}{qual:Str}{scope:Scope}{f:Addr}{cd:Value}{A:Around}{outer:List Env}{s s1:Shared}{H:Hp}{E:XK}{us:List Value}{vs:List V}
  (S:FnScope N ps scope) (hd:A.handled=none) (e0:Env0 P w K mg base A outer s H) (hl:vs.length=ps.length) (r:Vals vs us)
  (x:InCallC s s.heap.objs.size (bindL (envOfC qual scope s.heap.objs.size f cd).kindOf (ps.zip us) λ_=>none) (cellsFrom (s.heap.objs.size+1) scope.names []) (bindC (envOfC qual scope s.heap.objs.size f cd).kindOf (ps.zip us) λ_=>none) s1) :
  Inv (u50 CX P w K mg base N qual scope f cd A outer s H E) [] (start N vs) H s1:=by
 have O:ps.length<=N.length:=by have:=D1 List.length S.pre;rw[List.length_take] at this;omega
 obtain⟨h1,tk,rfl,hk⟩:=x.done;have J:∀b:Addr,b∉(u50 CX P w K mg base N qual scope f cd A outer s H E).ex:=λb z=>absurd (show b∈([]:List Addr) from z) (by simp)
 refine⟨⟨e0.mod,S.kind,rfl,rfl,A4 _,λy z c h1 h2=>?_,λy hy=>?_,λy c _ h=>?_,λ_=>hd,Around.frames_deeper e0.frames,.inr ⟨rfl,rfl⟩,λb z=>absurd z (J b),e0.bs,e0.bsz,λb _ _=>J b,λb z=>absurd z (J b),e0.funs,e0.frf⟩,
  rfl,e0.bare,Un.kept hk,⟨_,x.toInCall.ns,λi y v h1 h2 h3=>?_⟩,λy c h=>⟨_,x.cell y c h⟩,e0.hok.fresh (A4 _),λy c h=>?_,λp hp=>absurd (show p∈([]:List (Addr×Obj)) from hp) (by simp),e0.hok.kept hk,?_⟩
 ·exact name_of_addr x.apart (I0 h1) (I0 h2)
 ·have hy:scope.names.lookup y=some .cell∨scope.names.lookup y=some .free:=hy
  rcases hy with hy|hy
  ·exact o20 hy
  ·exact absurd rfl (S.nofree _ (I0 hy))
 ·exact Y3 (x.above y c (I0 h))
 ·have hi:i<vs.length:=by
   unfold start at h2
   by_cases hi:i<vs.length
   ·exact hi
   ·rw[List.getElem?_append_right (by simpa using hi)] at h2
    rw[List.getElem?_replicate] at h2;split at h2<;>cases h2
  have ha:vs[i]?=some v:=by
   unfold start at h2;rw[List.getElem?_append_left (by simpa using hi),List.getElem?_map] at h2;cases e:vs[i]? with
   | none=>rw[e] at h2;cases h2
   | some a=>rw[e] at h2;cases h2;rfl
  obtain⟨u,hu,rv⟩:=r.get ha;have hp:ps[i]?=some y:=by
   rw[← S.pre,List.getElem?_take_of_lt (by omega)];exact h1
  have M:ps.Nodup:=by rw[← S.pre];exact S.nd.sublist (List.take_sublist _ _)
  refine⟨u,rv,?_⟩;rcases S.par y (B0 hp) with k|k
  ·exact .inl ⟨k,q20 M hp hu k⟩
  ·obtain⟨c,e⟩:=o20 (n:=s.heap.objs.size+1) k
   refine .inr ⟨.inl k,c,e,?_⟩;have q:=x.cell y c e;rw[qc0 M hp hu (by show scope.names.lookup y≠_;rw[k];decide)] at q;exact q
 ·exact e0.hok.fresh (Y3 (x.above y c (I0 h)))
 ·unfold start
  show _=N.length;rw[List.length_append,List.length_map,List.length_replicate];omega
theorem Y70{CX:CXT}{P:Program}{w:World}{K:W.Frag}{mg:Str->Option Value}{base:Heap}{k:Nat}{f:Addr}{name qual:Str}{params:Arguments}{body:List Stmt}{scope:Scope}{dV kV doc pm cdv ct oc:Value}{an od:Option Addr}
  {osl:Array (Option Value)} {N ps:List Str} {sp:Sp} (lk:K.lookup f=some ⟨oc,od,.func (W.fnOf name qual params body scope dV kV doc pm an cdv ct),osl⟩) (hcd:W.codeIn K cdv qual=true) (S:FnScope N ps scope)
  (len:∀vs H Q E,sp vs H Q E->vs.length=ps.length)
  (hbody:∀(A:Around) (outer:List Env) (s:Shared) (H:Hp) (vs:List V) (Q:VK) (E:XK),Room k (A.deeper (envOfC qual scope s.heap.objs.size f cdv))->sp vs H Q E ->
   ∃t,PSs (u50 CX P w K mg base N qual scope f cdv A outer s H E) body t/\t { nx:=λ_ H'=>Q .non H',rt:=Q } (start N vs) H) :
  FnOk P w K mg base CX (k+1) f (W.fnOf name qual params body scope dV kV doc pm an cdv ct) ps sp:=by
 refine⟨len,λA outer s H Y us vs Q E hr e0 hb r O=>?_⟩;have hl:=len _ _ _ _ O;have KX:K.In s.heap:=e0.mod.kin.keeps λb o e=>(e0.bs b o e).1
 have U:s.heap.NoLimit:=e0.mod.nolimit.keeps λb o e=>(e0.bs b o e).1
 have M:∀y∈ps.zip us,scope.names.lookup y.1=some .local∨(scope.names.lookup y.1=some .cell/\((cellsFrom (s.heap.objs.size+1) scope.names []).lookup y.1).isSome=true):=λ⟨n,v⟩ hy=>by
  rcases S.par n (N9 hy).1 with q|q
  ·exact .inl q
  ·exact .inr ⟨q,W.cellsFrom_some _ _ _ (.inl q)⟩
 refine codeAny_call_function hr.depth (KX _ _ lk) rfl S.co S.gen rfl (W.codeRec_of KX hcd) (hb _ _ _ _ ?_);refine wpAny_newFunctionEnv_cells S.kind M λenv he s1 x=>?_
 subst he;refine⟨U.keeps x.toInCall.keep,codeAny_func ?_⟩;obtain⟨t,ht,hq⟩:=hbody A outer s H vs Q E (hr.deeper _) O;have I:Inv (u50 CX P w K mg base N qual scope f cdv A outer s H E) [] (start N vs) H s1:=kv0 S hr.hd e0 hl r x;refine D6 (ht [] s1 (start N vs) H _ I hq) (λfl s' hs=>?_) λe s' hs=>hs
 have fin:∀{σ':St} {H':Hp} {v:V} {u:Value},Inv (u50 CX P w K mg base N qual scope f cdv A outer s H E) [] σ' H' s'->RelV v u->Q v H'->CE outer P w H s Q u s' :=
  λ{σ' H' v u} J rv q=>⟨v,H',J.os,J.bare,J.base,J.hok,rv,q⟩
 cases fl with
 | ret u =>
  obtain⟨v,σ',H',J,rv,q⟩:=hs;exact fin J rv q
 | next =>
  obtain⟨σ',H',J,q⟩:=hs;exact fin (v:=V.non) (u:=Value.none) J rfl q
 | brk =>
  obtain⟨_,_,_,q⟩:=hs;exact False.elim q
 | cont =>
  obtain⟨_,_,_,q⟩:=hs;exact False.elim q
section
variable{t:TA}{id T:String}
def tCB(r:List V->Hp->VK->Prop)(t:TA):TE:=fun σ H Q=>t σ H λvs H1=>r vs H1 Q
theorem td0(hc:CallR X (.builtin id) r)(hg:Gl X x)(hm:X.mg x=none)(hv:bootBuiltins x=some (.builtin id))(ha:PA X (e::es) t)(hn:x ≠"__name__" := by decide)(hdb:(x==("__debug__" : Str))=false:=by decide)
  (he:starEach (e::es) X.env=(false,eval e X.env)::starEach es X.env:=by rfl) (hpl:(backTo pos (starEach es X.env)).any (·.1)=false:=by rfl):PE X (.Call (.Name x p) (e::es) [] pos) (tCB r t):=by
 intro pins s σ H Q I h;refine P5 (yf0 I hg hm hv ?_ hn hdb);exact PyProof.Rows.callWith_builtin1 (thn (ha pos pins s σ H _ I h) λus s1 ⟨vs,H1,I1,r1,q1⟩=>hc pins s1 σ H1 vs us Q I1 r1 q1) he hpl
theorem qf0(hc:CallR X (.type T) r)(hg:Gl X x)(hm:X.mg x=none)(hv:bootBuiltins x=some (.type T))(ha:PA X (e::es) t)(hn:x ≠"__name__" := by decide)(hdb:(x==("__debug__" : Str))=false:=by decide)
  (he:starEach (e::es) X.env=(false,eval e X.env)::starEach es X.env:=by rfl) (hpl:(backTo pos (starEach es X.env)).any (·.1)=false:=by rfl):PE X (.Call (.Name x p) (e::es) [] pos) (tCB r t):=by
 intro pins s σ H Q I h;refine P5 (yf0 I hg hm hv ?_ hn hdb);exact N4 (thn (ha pos pins s σ H _ I h) λus s1 ⟨vs,H1,I1,r1,q1⟩=>hc pins s1 σ H1 vs us Q I1 r1 q1) he hpl
end
end L2
variable{r:List L2.V->L2.Hp->L2.VK->Prop}{X:L2.Cx}{xs:List L2.V}{H H' H2 H₀:L2.Hp}{σ:List (Option L2.V)}{ta tb te tv td:L2.TE}{CX:L2.CXT}{sp:L2.Sp}{ks:List L2.Key}{kvs:List (List L2.Key×L2.V)}
namespace HT
open PyProof.Rows
def lexLt:List Int->List Int->Bool
 | [],[]=>false
 | [],_::_=>true
 | _::_,[]=>false
 | x::xs,y::ys=>if x=y then lexLt xs ys else decide (x<y)
theorem K4(x y:Int)(xs ys:List Int):lexLt (x::xs) (y::ys)=if x=y then lexLt xs ys else decide (x<y):=rfl
theorem yu0:lexLt [] []=false:=rfl
section
variable{w:World}{s:Shared}
theorem cf0{t b:Addr}{ws:List Value}{Q:Value->Shared->Prop}(ht:IsTup s.heap t vs.toArray)(hb:IsTup s.heap b ws.toArray)(hv:vs≠[])
  (h1:ws=[]->Q (.ref t) s) (h2:ws≠[]->Q (.ref s.heap.objs.size) { s with heap:=s.heap.push { cls:=.type "tuple",data:=.seq (vs++ws).toArray } })
  (hsz:vs.length+ws.length<=sizeLine):wpAny (model prog w) A (binaryOp .Add (.ref t) (.ref b)) Q E s:=by
 obtain⟨⟨cls,dd,data,sl⟩,ho,hc,n,hd⟩:=id ht;obtain⟨⟨Y,U,data2,S⟩,J,M,n2,O⟩:=id hb;simp only at hc hd M O;subst hc hd M O;have e:vs.toArray++ws.toArray=(vs++ws).toArray:=by simp
 by_cases hw:ws=[]
 ·exact d4 ⟨_,ho,rfl⟩ ⟨_,J,rfl⟩ y6 y8 y9 z0 (A00 _ _)
   (tuple_addW1 t b vs.toArray ws.toArray n n2 dd U sl S (by simpa using hv) (by simp[hw])) ⟨ho,J,h1 hw⟩
 ·refine d4 ⟨_,ho,rfl⟩ ⟨_,J,rfl⟩ y6 y8 y9 z0 (A00 _ _)
   (tuple_addW2 t b vs.toArray ws.toArray n n2 dd U sl S (by simpa using hv) (by simpa using hw) (by rw[List.size_toArray,List.size_toArray];exact hsz)) ⟨ho,J,?_⟩
  rw[e];exact h2 hw
def sIx(n d:Nat):Option Int->Nat
 | none=>d
 | some v=>if v<0 then (v+(n:Int)).toNat else min v.toNat n
theorem b60(n d:Nat)(hd:d<=n)(o:Option Int):sIx n d o<=n:=by
 cases o with
 | none=>exact hd
 | some v =>
  show (if v<0 then (v+(n:Int)).toNat else min v.toNat n)<=n
  by_cases hv:v<0
  ·rw[if_pos hv];omega
  ·rw[if_neg hv];exact Nat.min_le_right _ _
theorem le0(v:Int)(n d:Nat):(if v<0 then max (v+(n:Int)) 0 else min v (n:Int))=((sIx n d (some v):Nat):Int):=by
 show (if v<0 then max (v+(n:Int)) 0 else min v (n:Int))=(((if v<0 then (v+(n:Int)).toNat else min v.toNat n):Nat):Int)
 by_cases hv:v<0
 ·simp only[if_pos hv];omega
 ·simp only[if_neg hv];omega
theorem kk0(lo hi:Option Int)(n:Nat):Builtin.Slice.sliceAdjust lo hi 1 (n:Int)=(((sIx n 0 lo:Nat):Int),((sIx n n hi:Nat):Int)):=by
 have h1:¬((1:Int)<0):=by omega
 unfold Builtin.Slice.sliceAdjust;simp only[h1,if_false];refine E1 ?_ ?_
 ·cases lo with
  | none=>rfl
  | some v=>exact le0 v n 0
 ·cases hi with
  | none=>rfl
  | some v=>exact le0 v n n
theorem ks0(i j:Nat):Builtin.Slice.slicePlaces (i:Int) (j:Int) 1=j - i:=by
 unfold Builtin.Slice.slicePlaces;have h1:(1:Int) > 0:=by omega
 simp only[h1,if_true,Int.ediv_one];split<;>omega
theorem tw0{o:Option Int}{Q:Option Int->Shared->Prop}(p:IsPart v o)(h:Q o s):wpAny (model prog w) A (Builtin.Slice.slicePartIndex v) Q E s:=by
 cases p with
 | none=>exact slicePart_none h
 | int i t=>exact slicePart_int h
theorem xr0{sl:Addr}{n:Nat}{Q:Int×Int×Nat->Shared->Prop}(hs:s.heap.IsSliceOf sl vl vu .none)(pl:IsPart vl lo)(pu:IsPart vu hi)
  (h:Q (((sIx n 0 lo:Nat):Int),1,sIx n n hi - sIx n 0 lo) s):wpAny (model prog w) A (Builtin.Slice.sliceApplied (.ref sl) (pure (n:Int))) Q E s:=by
 obtain⟨os,J,M,hds⟩:=id hs;unfold Builtin.Slice.sliceApplied Builtin.Slice.sliceFields;refine A0 (A0 (B5 J hds (x:=vl) rfl (A0 (B5 J hds (x:=vu) rfl (A0 (B5 J hds (x:=.none) rfl (A1 ?_)))))));refine A0 (slicePart_none ?_);show wpAny _ _ (if ((1:Int)==0)=true then _ else _) _ _ s;rw[if_neg (by decide)];refine A0 (tw0 pl (A0 (tw0 pu (A0 (A1 ?_)))));show wpAny _ _ (match Builtin.Slice.sliceAdjust lo hi 1 (n:Int) with|(lo,hi)=>pure (lo,(1:Int),Builtin.Slice.slicePlaces lo hi 1)) _ _ s;rw[kk0 lo hi n];show wpAny _ _ (pure (((sIx n 0 lo:Nat):Int),(1:Int),Builtin.Slice.slicePlaces ((sIx n 0 lo:Nat):Int) ((sIx n n hi:Nat):Int) 1)) _ _ s;rw[ks0];exact A1 h
theorem g50(xs:Array Value)(i k:Nat):((List.range k).filterMap λ(m:Nat)=>xs[((i:Int)+(m:Int)*1).toNat]?).toArray=((xs.toList.drop i).take k).toArray:=by
 have e:(λ(m:Nat)=>xs[((i:Int)+(m:Int)*1).toNat]?)=λm=>xs[i+m]?:=by
  funext m
  have:((i:Int)+(m:Int)*1).toNat=i+m:=by omega
  rw[this]
 rw[e];have:=pick_run xs i k;rw[List.filterMap_map] at this;have e2:((λx=>xs[x]?) ∘ λx=>i+x)=λm=>xs[i+m]?:=rfl
 rw[e2] at this;rw[this]
theorem t00{t sl:Addr}{Q:Value->Shared->Prop}(ht:IsTup s.heap t items)(hs:s.heap.IsSliceOf sl vl vu .none)(pl:IsPart vl lo)(pu:IsPart vu hi)
  (hw:¬(sIx items.size 0 lo=0/\sIx items.size items.size hi=items.size))
  (h:Q (.ref s.heap.objs.size) { s with heap:=s.heap.push { cls:=.type "tuple",data:=.seq ((items.toList.drop (sIx items.size 0 lo)).take (sIx items.size items.size hi - sIx items.size 0 lo)).toArray } })
  (hsz:items.size<=sizeLine):wpAny (model prog w) A (getItem (.ref t) (.ref sl)) Q E s:=by
 have J:sizeOk (.seq ((items.toList.drop (sIx items.size 0 lo)).take (sIx items.size items.size hi - sIx items.size 0 lo)).toArray):=by
  show ((items.toList.drop (sIx items.size 0 lo)).take (sIx items.size items.size hi - sIx items.size 0 lo)).toArray.size<=sizeLine;rw[List.size_toArray,List.length_take,List.length_drop,Array.length_toList];omega
 have hj:sIx items.size items.size hi<=items.size:=b60 _ _ (A4 _) hi;obtain⟨os,S,U,hds⟩:=id hs;have O:s.TypeIs (.ref sl) "slice" := ⟨os,S,U⟩;unfold getItem
 try with_reducible refine C6 ?_
 first|refine A0 (A1 ?_)|skip
 refine A0 (A10 ht.typeIs (by decide) ?_);refine A0 (E6 (name:=Str.ofString "__getitem__") ht.typeIs P6
  (D3 P6 ht.typeIs entry_tuple_getitem ?_ (args_tuple_getitem _ _)))
 show wpAny _ _ (Builtin.Tuple.tupleItemsOf (.ref t)>>=_) _ _ s;refine A0 (tupleItemsOf_ ht ?_);refine A0 (U1 O ?_);rw[if_pos (by decide)];refine A0 (xr0 hs pl pu ?_);have M:¬((((sIx items.size 0 lo:Nat):Int)==0&&(1:Int)==1&&(sIx items.size items.size hi - sIx items.size 0 lo)==items.size)=true):=by
  intro q;rw[Bool.and_eq_true,Bool.and_eq_true] at q;have q1:((sIx items.size 0 lo:Nat):Int)=0:=P7 q.1.1;have q2:sIx items.size items.size hi - sIx items.size 0 lo=items.size:=P7 q.2;exact hw ⟨by omega,by omega⟩
 show wpAny _ _ (if (((sIx items.size 0 lo:Nat):Int)==0&&(1:Int)==1&&(sIx items.size items.size hi - sIx items.size 0 lo)==items.size)=true then _ else _) _ _ s;rw[if_neg M,g50]
 first
  | exact A0 (m:=Builtin.Tuple.tupleExact _) (K0 (A1 ⟨_,rfl,A1 h⟩) J)
  | exact A0 (m:=Builtin.Tuple.tupleExact _) (K0 (A0 (A1 (A1 ⟨_,rfl,A1 h⟩))) J)
  | exact A0 (A0 (m:=Builtin.Tuple.tupleExact _) (K0 (A1 (A1 ⟨_,rfl,A1 h⟩)) J))
  | exact A0 (A0 (m:=Builtin.Tuple.tupleExact _) (K0 (A1 ⟨_,rfl,A1 h⟩) J))
end
end HT
namespace L2
open Spec PyProof.Rows
abbrev TO:=St->Hp->(Option Int->Hp->Prop)->Prop
def PO(X:Cx)(e:Option Expr)(t:TO):Prop :=
 ∀(pins:List (Addr×Obj)) (s:Shared) (σ:St) (H:Hp) (Q:Option Int->Hp->Prop),Inv X pins σ H s->t σ H Q ->
  wpAny (model X.prog X.w) X.A (evalPart e X.env) (λu s'=>∃o H',Inv X pins σ H' s'/\IsPart u o/\Q o H') X.xe s
def c00:TO:=λ_ H Q=>Q none H
def Yu0(t:TE):TO:=fun σ H Q=>t σ H λx H1=>∃i,x=.int i/\Q (some i) H1
section
variable{lo hi:Option Expr}{tl th:TO}
theorem d00:PO X none c00:=by
 intro pins s σ H Q I h;rw[evalPart_none];exact A1 ⟨none,H,I,.none,h⟩
theorem cc0(h:PE X e te):PO X (some e) (Yu0 te):=by
 intro pins s σ H Q I hw;rw[evalPart_some];refine thn (h pins s σ H _ I hw) λu s1 ⟨x,H1,I1,r1,q1⟩=>?_
 obtain⟨i,rfl,q⟩:=q1;obtain⟨t,rfl⟩:=r1;exact⟨some i,H1,I1,.int i t,q⟩
def SlR(X:Cx)(r:V->Option Int->Option Int->Hp->VK->Prop):Prop :=
 ∀(pins:List (Addr×Obj)) (s:Shared) (σ:St) (H:Hp) (x:V) (v vl vu:Value) (lo hi:Option Int) (sl:Addr) (Q:VK),Inv X pins σ H s->RelV x v->s.heap.IsSliceOf sl vl vu .none->IsPart vl lo->IsPart vu hi->r x lo hi H Q ->
  ∃T id,typeLookup (.type T) "__getitem__"=pure (some (.builtin id))/\s.TypeIs v T/\wpAny (model X.prog X.w) X.A (getItem v (.ref sl)) (EP X pins σ Q) X.xe s
theorem SlR.or{r r':V->Option Int->Option Int->Hp->VK->Prop}(h:SlR X r)(h':SlR X r'):SlR X (λx lo hi H Q=>r x lo hi H Q∨r' x lo hi H Q):=by
 intro pins s σ H x v vl vu lo hi sl Q I rx hs pl pu q;rcases q with q|q
 ·exact h pins s σ H x v vl vu lo hi sl Q I rx hs pl pu q
 ·exact h' pins s σ H x v vl vu lo hi sl Q I rx hs pl pu q
def tSl(r:V->Option Int->Option Int->Hp->VK->Prop)(te:TE)(tl th:TO):TE:=fun σ H Q=>te σ H λx H1=>tl σ H1 λl H2=>th σ H2 λu H3=>r x l u H3 Q
theorem fq0{r:V->Option Int->Option Int->Hp->VK->Prop}(hr:SlR X r)(he:PE X e te)(hl:PO X lo tl)(hu:PO X hi th):PE X (.Subscript e (.Slice lo hi none p2) pos) (tSl r te tl th):=by
 intro pins s σ H Q I h;refine Subscript_ (thn (he pins s σ H _ I h) λv s1 ⟨x,H1,I1,r1,q1⟩=>?_);refine wpAny_Slice (thn (hl pins s1 σ H1 _ I1 q1) λvl s2 ⟨l,H2,I2,pl,q2⟩=>thn (hu pins s2 σ H2 _ I2 q2) λvu s3 ⟨u,H3,I3,pu,q3⟩=>?_);rw[evalPart_none];refine A1 ?_;have I4:Inv X pins σ H3 { s3 with heap:=s3.heap.push { cls:=.type "slice",data:=.fields #[vl,vu,.none] } }:=I3.kept (t':=s3.toks) λb ob q=>A8 _ q
 obtain⟨T,id,hT,ht,hg⟩:=hr pins { s3 with heap:=s3.heap.push { cls:=.type "slice",data:=.fields #[vl,vu,.none] } } σ H3 x v vl vu l u s3.heap.objs.size Q I4 r1 (Heap.IsSliceOf.new ..) pl pu q3;show wpAny (model X.prog X.w) X.A (subscriptTail e (.Slice lo hi none p2) v (.ref s3.heap.objs.size)) (EP X pins σ Q) X.xe { s3 with heap:=s3.heap.push { cls:=.type "slice",data:=.fields #[vl,vu,.none] } };exact tail_any (ops:=[.ref s3.heap.objs.size,v]) ht hT hg (by with_unfolding_all rfl)
def u30(xs:List V)(lo hi:Option Int):List V:=(xs.drop (HT.sIx xs.length 0 lo)).take (HT.sIx xs.length xs.length hi - HT.sIx xs.length 0 lo)
theorem t20(xs:List V)(lo hi:Option Int):(u30 xs lo hi).length<=xs.length:=by
 unfold u30;rw[List.length_take,List.length_drop];omega
def W70(K:W.Frag):V->Option Int->Option Int->Hp->VK->Prop:=λx lo hi H Q=>∃a xs,x=.ref a/\SqT K H a xs /\
 ¬(HT.sIx xs.length 0 lo=0/\HT.sIx xs.length xs.length hi=xs.length)/\∀p,H p=none->Q (.ref p) (upd H p (.tup (u30 xs lo hi)))
theorem Zc0:SlR X (W70 X.K):=by
 intro pins s σ H x v vl vu lo hi sl Q I rx hs pl pu h;obtain⟨a,xs,rfl,hx,hw,q⟩:=h;cases rx;obtain⟨its,r,ht,hz⟩:=I.tuple hx;have J:its.toArray.size=xs.length:=by rw[List.size_toArray];exact r.length.symm
 refine⟨"tuple",_,P6.lookup,ht.typeIs,?_⟩;refine HT.t00 ht hs pl pu (by rw[J];exact hw) ?_ (by rw[J];exact hz);rw[J];refine⟨.ref s.heap.objs.size,_,I.laid (t':=s.toks) (o:=.tup (u30 xs lo hi)) (λb ob q=>A8 _ q) (A4 _) ?_,rfl,q _ (I.hok.fresh (A4 _))⟩;exact⟨C5 (t20 xs lo hi) hz,_,(r.drop (HT.sIx xs.length 0 lo)).take (HT.sIx xs.length xs.length hi - HT.sIx xs.length 0 lo),IsTupN.new _ _⟩
def ek0(K:W.Frag):R2:=λx y H Q=>∃a b xs ys,x=.ref a/\y=.ref b/\SqT K H a xs/\SqT K H b ys/\xs≠[]/\xs.length+ys.length<=sizeLine /\
 (ys=[]->Q (.ref a) H)/\(ys≠[]->∀p,H p=none->Q (.ref p) (upd H p (.tup (xs++ys))))
theorem Vals.nil_iff(r:Vals xs us):us=[]↔xs=[]:=by
 cases r with
 | nil=>simp
 | cons _ _=>simp
theorem ca0:OpR X (binaryOp .Add) (ek0 X.K):=by
 intro pins s σ H x y v u Q I rx ry h;obtain⟨a,b,xs,ys,rfl,rfl,ha,hb,hx,hz,q1,q2⟩:=h;cases rx;cases ry;obtain⟨its,r1,p1,_⟩:=I.tuple ha;obtain⟨J,r2,p2,_⟩:=I.tuple hb;refine HT.cf0 p1 p2 (λz=>hx (r1.nil_iff.mp z)) (λz=>⟨.ref a,H,I,rfl,q1 (r2.nil_iff.mp z)⟩) (λz=>?_) (by rw[← r1.length,← r2.length];exact hz);refine⟨.ref s.heap.objs.size,_,I.laid (t':=s.toks) (o:=.tup (xs++ys)) (λb ob q=>A8 _ q) (A4 _) ?_,rfl,q2 (λw=>z (r2.nil_iff.mpr w)) _ (I.hok.fresh (A4 _))⟩;exact⟨by rw[List.length_append];exact hz,_,r1.append r2,IsTupN.new _ _⟩
end
def ixN(n:Nat)(i:Int):Option Nat:=if 0<=i then (if i<n then some i.toNat else none) else if -(n:Int)<=i then some (i+n).toNat else none
def atI{α:Type}(xs:List α)(i:Int):Option α:=(ixN xs.length i).bind λj=>xs[j]?
theorem l90{i:Int}(h:ixN n i=some j):seqIndex? i n=some j/\j<n/\-(n:Int)<=i/\i<n:=by
 unfold ixN at h
 by_cases h0:0<=i
 ·rw[if_pos h0] at h
  by_cases h1:i<n
  ·rw[if_pos h1] at h
   have e:i.toNat=j:=B4 h;exact⟨by rw[seqIndex_of h0 h1,e],by omega,by omega,h1⟩
  ·rw[if_neg h1] at h;cases h
 ·rw[if_neg h0] at h
  by_cases h1:-(n:Int)<=i
  ·rw[if_pos h1] at h
   have e:(i+n).toNat=j:=B4 h;exact⟨by rw[seqIndex_neg (by omega) h1,e],by omega,h1,by omega⟩
  ·rw[if_neg h1] at h;cases h
theorem rg0{xs:List α}{i:Int}{v:α}(h:atI xs i=some v):∃j,seqIndex? i xs.length=some j/\xs[j]?=some v/\j<xs.length/\-(xs.length:Int)<=i/\i<xs.length:=by
 unfold atI at h;cases e:ixN xs.length i with
 | none=>rw[e] at h;cases h
 | some j =>
  rw[e] at h;obtain⟨h1,h2,h3,h4⟩:=l90 e;exact⟨j,h1,h,h2,h3,h4⟩
def ro0(b:Expr):Prop:=∀o i,subscripted b false o i=operate [o,i] (getItem o i)
def IxR(X:Cx)(r:R2):Prop :=
 ∀(value slice:Expr) (pins:List (Addr×Obj)) (s:Shared) (σ:St) (H:Hp) (x y:V) (v u:Value) (Q:VK),Inv X pins σ H s->RelV x v->RelV y u->r x y H Q ->
  subscripted slice false v u=operate [v,u] (getItem v u)->wpAny (model X.prog X.w) X.A (subscriptTail value slice v u) (EP X pins σ Q) X.xe s
def MtR(X:Cx)(id:String)(r:V->List V->Hp->VK->Prop):Prop :=
 ∀(pins:List (Addr×Obj)) (s:Shared) (σ:St) (H:Hp) (x:V) (xs:List V) (v:Value) (us:List Value) (Q:VK),Inv X pins σ H s->RelV x v->Vals xs us->r x xs H Q ->
  wpAny (model X.prog X.w) X.A (call (.builtin id) (v::us)) (EP X pins σ Q) X.xe s
section
variable{a:Expr}
theorem IxR.or{r r':R2}(h:IxR X r)(h':IxR X r'):IxR X (λx y H Q=>r x y H Q∨r' x y H Q):=by
 intro value slice pins s σ H x y v u Q I rx ry q hs;rcases q with q|q
 ·exact h value slice pins s σ H x y v u Q I rx ry q hs
 ·exact h' value slice pins s σ H x y v u Q I rx ry q hs
theorem X00{r:R2}(hr:IxR X r)(ha:PE X a ta)(hb:PE X b tb)(hs:ro0 b):PE X (.Subscript a b pos) (tOp r ta tb):=by
 intro pins s σ H Q I h;exact Subscript_ (fk0 ha hb I h λv u s2 x y H2 I2 rx ry q=>hr a b pins s2 σ H2 x y v u Q I2 rx ry q (hs _ _))
def aa0(K:W.Frag):R2:=λx y H Q=>∃p xs i v,x=.ref p/\y=.int i/\SqL K H p xs/\atI xs i=some v/\Q v H
def ar0(K:W.Frag):R2:=λx y H Q=>∃p xs i v,x=.ref p/\y=.int i/\SqT K H p xs/\atI xs i=some v/\Q v H
def ai0:R2:=λx y H Q=>∃z i c,x=.str z/\y=.int i/\z.length<=sizeLine/\atI z.cps.toList i=some c/\Q (.str ⟨#[c]⟩) H
theorem dw0:IxR X (aa0 X.K):=by
 intro value slice pins s σ H x y v u Q I rx ry h hs;obtain⟨p,xs,i,z,rfl,rfl,hq,he,q⟩:=h;cases rx;obtain⟨t,rfl⟩:=ry;obtain⟨its,r,pl,hz⟩:=I.list hq;obtain⟨j,h1,h2,h3,h4,h5⟩:=rg0 he;obtain⟨w,ew,J⟩:=r.get h2;have hl:=r.length;have hn:=wh0;have fin:EP X pins σ Q w s:=⟨z,H,I,J,q⟩
 by_cases h0:0<=i
 ·have hj:i.toNat=j:=by
   rw[seqIndex_of h0 h5] at h1;exact B4 h1
  exact item_listR pl.isList h0 (by omega) (by rw[hj];simpa using ew) fin hs
 ·have hj:(i+(its.toArray.size:Int)).toNat=j:=by
   rw[seqIndex_neg (by omega) h4] at h1;rw[List.size_toArray,← hl];exact B4 h1
  exact subscriptTail_builtinR (x:=w) pl.isList.typeIs slot_list_getitem.lookup
   (wpAny_getItem_list_neg (Q:=λr s'=>r=w/\EP X pins σ Q r s') pl.isList (by omega) (by rw[List.size_toArray]<;>omega) (by omega) (by rw[hj];simpa using ew) ⟨rfl,fin⟩) hs
theorem Z00:IxR X (ar0 X.K):=by
 intro value slice pins s σ H x y v u Q I rx ry h hs;obtain⟨p,xs,i,z,rfl,rfl,hq,he,q⟩:=h;cases rx;obtain⟨t,rfl⟩:=ry;obtain⟨its,r,pl,hz⟩:=I.tuple hq;obtain⟨j,h1,h2,h3,h4,h5⟩:=rg0 he;obtain⟨w,ew,J⟩:=r.get h2;have hl:=r.length;have hn:=wh0;have fin:EP X pins σ Q w s:=⟨z,H,I,J,q⟩;exact subscriptTail_builtinR (x:=w) pl.typeIs slot_tuple_getitem.lookup
  (getItem_tuple (j:=j) (Q:=λr s'=>r=w/\EP X pins σ Q r s') pl (by omega) (by omega) (by rw[List.size_toArray,← hl];exact h1) (by simpa using ew) ⟨rfl,fin⟩) hs
theorem Y10:IxR X ai0:=by
 intro value slice pins s σ H x y v u Q I rx ry h hs;obtain⟨z,i,c,rfl,rfl,hz,he,q⟩:=h;obtain⟨t,rfl⟩:=rx;obtain⟨t',rfl⟩:=ry;obtain⟨j,h1,h2,h3,h4,h5⟩:=rg0 he;have hl:z.cps.toList.length=z.length:=by simp[Str.length]
 rw[hl] at h1 h4 h5;have hn:=wh0;exact tail_any (P8 s z t) slot_str_getitem.lookup (getItem_str (c:=c) (by
  have e1:decide (i < -(2 ^ 63:Int))=false:=P4 (by omega);have e2:decide (i ≥ 2 ^ 63)=false:=P4 (by omega);rw[e1,e2,Bool.or_false]) (by rw[h1];simpa using h2) ⟨.str ⟨#[c]⟩,H,I.tok _,⟨_,rfl⟩,q⟩) hs
def rIx(K:W.Frag):R2:=λx y H Q=>aa0 K x y H Q∨ar0 K x y H Q∨ai0 x y H Q
theorem Zn0:IxR X (rIx X.K):=dw0.or (Z00.or Y10)
theorem ke0(its:List Value)(n j:Nat)(u:Value):Obj.mapSeq (·.setIfInBounds j u) { cls:=.type "list",data:=.seq its.toArray n }={ cls:=.type "list",data:=.seq (its.set j u).toArray n }:=by
 simp[Obj.mapSeq]
theorem Inv.lst{σ:St}{s:Shared}{p:Addr}(I:Inv X pins σ H s)(h:H p=some (.lst xs)) :
  ∃(its:List Value) (n:Nat),Vals xs its/\s.heap.get? p=some { cls:=.type "list",data:=.seq its.toArray n }/\xs.length<=sizeLine:=by
 obtain⟨z,its,n,r,e⟩:=I.hok p _ h;exact⟨its,n,r,e,z⟩
theorem Inv.lstUpd{σ:St}{s:Shared}{p:Addr}{ys:List V}{its its':List Value}{n n':Nat}{f:Obj->Obj}(I:Inv X pins σ H s)(h:H p=some (.lst xs))
  (ho:s.heap.get? p=some { cls:=.type "list",data:=.seq its.toArray n }) (hf:f { cls:=.type "list",data:=.seq its.toArray n }={ cls:=.type "list",data:=.seq its'.toArray n' }) (r:Vals ys its') (hz:ys.length<=sizeLine) (t:Nat) :
  Inv X pins σ (upd H p (.lst ys)) { s with heap:=s.heap.update p f,toks:=t }:=by
 have e:(s.heap.update p f).get? p=some { cls:=.type "list",data:=.seq its'.toArray n' }:=by
  rw[Heap.get?_update_self f ho (by rw[hf]<;>rfl),hf]
 refine I.write (x:=p) (e:=p) (by rw[h];trivial) (.inl rfl) (λb u hb q=>(A40 _ _ (C1 hb)).trans q) ⟨_,e⟩ ?_;exact⟨hz,its',n',r,e⟩
def Yq0:V->V->V->Hp->(Hp->Prop)->Prop:=λo i v H Q=>∃p xs k j,o=.ref p/\i=.int k/\H p=some (.lst xs)/\ixN xs.length k=some j/\Q (upd H p (.lst (xs.set j v)))
theorem set_list:fn0 X Yq0:=by
 intro pins s σ H o i v ov iv u Q I ro ri rv h;obtain⟨p,xs,k,j,rfl,rfl,hp,hj,q⟩:=h;cases ro;obtain⟨t,rfl⟩:=ri;obtain⟨its,n,r,ho,hz⟩:=I.lst hp;obtain⟨h1,h2,h3,h4⟩:=l90 hj;have hl:=r.length;have hn:=wh0;have I':Inv X pins σ (upd H p (.lst (xs.set j v))) { s with heap:=s.heap.update p (Obj.mapSeq (·.setIfInBounds j u)) } :=
  I.lstUpd hp ho (ke0 its n j u) (r.set rv j) (by rw[List.length_set];exact hz) s.toks
 by_cases h0:0<=k
 ·have hk:k.toNat=j:=by
   rw[seqIndex_of h0 h4] at h1;exact B4 h1
  exact W.ki_setAt ho h0 (by omega) (by rw[List.size_toArray,← hl];exact h4) (by rw[hk];exact⟨_,I',q⟩)
 ·have hk:(k+(its.toArray.size:Int)).toNat=j:=by
   rw[seqIndex_neg (by omega) h3] at h1;rw[List.size_toArray,← hl];exact B4 h1
  exact W.ki_setBack ho (by omega) (by rw[List.size_toArray,← hl];exact h3) (by omega) (by rw[hk];exact⟨_,I',q⟩)
theorem n70(lo hi:Option Int)(n:Nat):(sliceBounds lo hi none n).1=((HT.sIx n 0 lo:Nat):Int)/\(sliceBounds lo hi none n).2.1=((HT.sIx n n hi:Nat):Int)/\(sliceBounds lo hi none n).2.2=1:=by
 refine⟨?_,?_,rfl⟩
 ·cases lo with
  | none=>simp[sliceBounds,HT.sIx]
  | some i =>
   simp only[sliceBounds,HT.sIx,Option.getD_none,show (1:Int) > 0 by decide,if_true]
   by_cases h:i<0
   ·simp only[h,if_true]<;>omega
   ·simp only[h,if_false]<;>omega
 ·cases hi with
  | none=>simp[sliceBounds,HT.sIx]
  | some i =>
   simp only[sliceBounds,HT.sIx,Option.getD_none,show (1:Int) > 0 by decide,if_true]
   by_cases h:i<0
   ·simp only[h,if_true]<;>omega
   ·simp only[h,if_false]<;>omega
theorem p20(its:List Value)(lo hi:Option Int):slicePick its.toArray lo hi none=((its.drop (HT.sIx its.length 0 lo)).take (HT.sIx its.length its.length hi - HT.sIx its.length 0 lo)).toArray:=by
 obtain⟨h1,h2,h3⟩:=n70 lo hi its.toArray.size;unfold slicePick;rw[h1,h2,h3];simp only[sliceRange_one,pick_run,List.size_toArray]<;>rfl
def W20(K:W.Frag):V->Option Int->Option Int->Hp->VK->Prop:=λx lo hi H Q=>∃a xs,x=.ref a/\SqL K H a xs/\∀p,H p=none->Q (.ref p) (upd H p (.lst (u30 xs lo hi)))
theorem di0:SlR X (W20 X.K):=by
 intro pins s σ H x v vl vu lo hi sl Q I rx hs pl pu h;obtain⟨a,xs,rfl,hx,q⟩:=h;cases rx;obtain⟨its,r,ht,hz⟩:=I.list hx;have J:=r.length;refine⟨"list",_,slot_list_getitem.lookup,ht.isList.typeIs,?_⟩;refine wpAny_getItem_list_slice ht.isList hs pl pu .none (by simp) ?_ (by rw[List.size_toArray]<;>omega);rw[p20,← J];refine⟨.ref s.heap.objs.size,_,I.laid (t':=s.toks) (o:=.lst (u30 xs lo hi)) (λb ob q=>A8 _ q) (A4 _) ?_,rfl,q _ (I.hok.fresh (A4 _))⟩;exact⟨C5 (t20 xs lo hi) hz,_,0,(r.drop (HT.sIx xs.length 0 lo)).take (HT.sIx xs.length xs.length hi - HT.sIx xs.length 0 lo),B9 _ rfl⟩
theorem nc0:CallR X (.builtin "len") (λxs H Q=>∃p ys,xs=[.ref p]/\(SqL X.K H p ys∨SqT X.K H p ys)/\Q (.int ys.length) H):=by
 intro pins s σ H xs us Q I r h;obtain⟨p,ys,rfl,hq,q⟩:=h;obtain⟨u,rfl,rx⟩:=vals1 r;cases rx;have hn:=wh0;rcases hq with hq|hq
 ·obtain⟨its,r',pl,hz⟩:=I.list hq
  have J:=r'.length;exact Calls.call_len_list pl.isList (by simp only[List.size_toArray]<;>omega) ⟨.int ys.length,H,I.tok _,⟨s.toks+1,by rw[List.size_toArray,J]⟩,q⟩
 ·obtain⟨its,r',pl,hz⟩:=I.tuple hq
  have J:=r'.length;exact len_tuple pl (by simp only[List.size_toArray]<;>omega) ⟨.int ys.length,H,I.tok _,⟨s.toks+1,by rw[List.size_toArray,J]⟩,q⟩
theorem nw0:CallR X (.builtin "len") (λxs H Q=>∃z,xs=[.str z]/\z.length<=sizeLine/\Q (.int z.length) H):=by
 intro pins s σ H xs us Q I r h;obtain⟨z,rfl,hz,q⟩:=h;obtain⟨u,rfl,t,rfl⟩:=vals1 r;have hn:=wh0;exact len_str (by omega) ⟨.int z.length,H,I.tok _,⟨_,rfl⟩,q⟩
theorem CallR.or{f:Value}{r':List V->Hp->VK->Prop}(h:CallR X f r)(h':CallR X f r'):CallR X f (λxs H Q=>r xs H Q∨r' xs H Q):=by
 intro pins s σ H xs us Q I rs q;rcases q with q|q
 ·exact h pins s σ H xs us Q I rs q
 ·exact h' pins s σ H xs us Q I rs q
theorem o80:CallR X (.type "list") (λxs H Q=>∃p ys,xs=[.ref p]/\(SqL X.K H p ys∨SqT X.K H p ys)/\∀l,H l=none->Q (.ref l) (upd H l (.lst ys))):=by
 intro pins s σ H xs us Q I r h;obtain⟨p,ys,rfl,hq,q⟩:=h;obtain⟨u,rfl,rx⟩:=vals1 r;cases rx;have fin:∀(its:List Value),Vals ys its->ys.length<=sizeLine->∀(h':Heap) (c':Nat),(∀b o',s.heap.get? b=some o'->h'.get? b=some o') ->
   h'.get? s.heap.objs.size=some { cls:=.type "list",dict:=none,data:=.seq its.toArray c',slots:=#[] }->EP X pins σ Q (.ref s.heap.objs.size) { s with heap:=h' }:=λits r' hz h' c' kp e =>
  ⟨.ref s.heap.objs.size,_,I.laid (t':=s.toks) kp (A4 _) (show ObjOk X.prog X.w _ h' _ (.lst ys) from ⟨hz,its,c',r',e⟩),rfl,q _ (I.hok.fresh (A4 _))⟩
 rcases hq with hq|hq
 ·obtain⟨its,r',pl,hz⟩:=I.list hq
  have J:=r'.length;obtain⟨o,ho,hc,n,hd⟩:=pl.isList;exact call_list_seq p (.inl rfl) ho hc hd (λh' c' kp e=>fin its r' hz h' c' kp e) (by simp only[List.size_toArray]<;>omega)
 ·obtain⟨its,r',pl,hz⟩:=I.tuple hq
  have J:=r'.length;obtain⟨o,ho,hc,n,hd⟩:=pl;exact call_list_seq p (.inr rfl) ho hc hd (λh' c' kp e=>fin its r' hz h' c' kp e) (by simp only[List.size_toArray]<;>omega)
theorem U9:CallR X (.type "tuple") (λxs H Q=>∃p ys,xs=[.ref p]/\((SqL X.K H p ys/\∀l,H l=none->Q (.ref l) (upd H l (.tup ys)))∨(SqT X.K H p ys/\Q (.ref p) H))):=by
 intro pins s σ H xs us Q I r h;obtain⟨p,ys,rfl,h⟩:=h;obtain⟨u,rfl,rx⟩:=vals1 r;cases rx;rcases h with⟨hq,q⟩|⟨hq,q⟩
 ·obtain⟨its,r',pl,hz⟩:=I.list hq
  have J:=r'.length;refine call_tuple_list pl.isList (λh' kp=>?_) (by simp only[List.size_toArray]<;>omega);have I1:Inv X pins σ H { s with heap:=h' }:=I.kept (t':=s.toks) kp;have I2:Inv X pins σ (upd H h'.objs.size (.tup ys)) { s with heap:=h'.push { cls:=.type "tuple",data:=.seq its.toArray } } :=
   I1.laid (t':=s.toks) (λb o e=>A8 _ e) (A4 _) (show ObjOk X.prog X.w _ _ _ (.tup ys) from ⟨hz,its,r',IsTupN.new _ _⟩)
  exact⟨.ref h'.objs.size,_,I2,rfl,q _ (I1.hok.fresh (A4 _))⟩
 ·obtain⟨its,r',pl,hz⟩:=I.tuple hq
  exact call_tuple_same pl ⟨.ref p,H,I,rfl,q⟩
def tyV(K:W.Frag)(T:String)(x:V)(H:Hp):Prop:=match x with
 | .str _=>T = "str"
 | .int _=>T = "int"
 | .ref p=>(T = "list"/\∃xs,SqL K H p xs)∨(T = "tuple"/\∃o,K.lookup p=some o/\o.cls=.type "tuple"/\o.dict=none) ∨
   (T = "dict"/\((∃kvs,H p=some (.dK kvs))∨∃kvs,H p=some (.dT kvs)))∨(T = "set"/\∃S n,H p=some (.set S n))
 | _=>False
theorem ji0{σ:St}{s:Shared}{T:String}{x:V}(I:Inv X pins σ H s)(r:RelV x v)(ty:tyV X.K T x H) :
  s.TypeIs v T/\∀a,v=.ref a->∃ob,s.heap.get? a=some ob/\ob.dict=none:=by
 cases x with
 | str z =>
  obtain⟨t,rfl⟩:=r;cases (show T = "str" from ty);exact⟨P8 s z t,λ_ e=>nomatch e⟩
 | int i =>
  obtain⟨t,rfl⟩:=r;cases (show T = "int" from ty);exact⟨O0 s i t,λ_ e=>nomatch e⟩
 | ref p =>
  cases r;rcases ty with⟨rfl,xs,hq⟩|⟨rfl,o,hk,hc,hd⟩|⟨rfl,hk⟩|⟨rfl,S,n,hk⟩
  ·obtain⟨its,_,pl,_⟩:=I.list hq
   refine⟨pl.isList.typeIs,λa e=>?_⟩;cases e;obtain⟨o,n,e,c,hd,_⟩:=pl;exact⟨o,e,hd⟩
  ·refine⟨⟨o,I.kIn p o hk,hc⟩,λa e=>?_⟩
   cases e;exact⟨o,I.kIn _ o hk,hd⟩
  ·have z:∃o,s.heap.get? p=some o/\o.ExactDict:=by
    rcases hk with⟨kvs,hk⟩|⟨kvs,hk⟩
    ·obtain⟨_,_,_,_,o,_,_,e,ex,_⟩:=I.hok p _ hk
     exact⟨o,e,ex⟩
    ·obtain⟨_,_,_,_,o,_,_,e,ex,_⟩:=I.hok p _ hk
     exact⟨o,e,ex⟩
   obtain⟨o,e,ex⟩:=z;refine⟨⟨o,e,ex.1⟩,λa e2=>?_⟩;cases e2;exact⟨o,e,ex.2.1⟩
  ·obtain⟨o,_,_,_,e,ex,_⟩:=I.hok p _ hk
   refine⟨⟨o,e,ex.1⟩,λa e2=>?_⟩;cases e2;exact⟨o,e,ex.2.1⟩
 | _=>exact False.elim ty
def Wg0(K:W.Frag)(T:String)(r:V->List V->Hp->VK->Prop)(to:TE):TE:=fun σ H Q=>to σ H λx H1=>tyV K T x H1/\r x [] H1 Q
def tBM(K:W.Frag)(T:String)(r:V->List V->Hp->VK->Prop)(to:TE)(t:TA):TE:=fun σ H Q=>to σ H λx H1=>tyV K T x H1/\t σ H1 λxs H2=>r x xs H2 Q
variable{to:TE}{t:TA}{T id:String}{r:V->List V->Hp->VK->Prop}
theorem Zo0(pa:PlainAttrs T)(slot:Slot T name id)(hty:typeOf (.builtin id)=pure (.type "method_descriptor"))(hm:MtR X id r)(ho:PE X o to)
  (hbase:attributeBase o name X.env (eval o X.env)=eval o X.env:=by rfl) (hline:(apos.endLine==cpos.line)=true:=by rfl):PE X (.Call (.Attribute o name apos) [] [] cpos) (Wg0 X.K T r to):=by
 intro pins s σ H Q I h;refine wpAny_Call_method0_late hbase hline (thn (ho pins s σ H _ I h) λv s1 ⟨x,H1,I1,r1,ty,q1⟩=>?_);obtain⟨h1,h2⟩:=ji0 I1 r1 ty;exact⟨T,id,pa,slot,hty,h1,h2,B50 rfl (PySem.evalArgs_none (hm pins s1 σ H1 x [] v [] Q I1 r1 .nil q1))⟩
theorem e80(pa:PlainAttrs T)(slot:Slot T name id)(hty:typeOf (.builtin id)=pure (.type "method_descriptor"))(hm:MtR X id r)(ho:PE X o to)(ha:PA X (e::es) t)
  (hbase:attributeBase o name X.env (eval o X.env)=eval o X.env:=by rfl)
  (hfew:((backTo cpos (starEach (e::es) X.env)).all (λx=>!x.1)&&(backToKw cpos (keywordEach [] X.env)).all (λx=>x.1.isSome)
  &&decide ((e::es).length+([]:List Keyword).length+(if ([]:List Keyword).isEmpty then 0 else 1)<30))=true:=by rfl)
  (hline:(apos.endLine==cpos.line)=true:=by rfl) (hs:starEach (e::es) X.env=(false,eval e X.env)::starEach es X.env:=by rfl) (hplain:(backTo cpos (starEach es X.env)).any (·.1)=false:=by rfl) :
  PE X (.Call (.Attribute o name apos) (e::es) [] cpos) (tBM X.K T r to t):=by
 intro pins s σ H Q I h;refine wpAny_Call_method_late hbase hfew hline rfl (thn (ho pins s σ H _ I h) λv s1 ⟨x,H1,I1,r1,ty,q1⟩=>?_);obtain⟨h1,h2⟩:=ji0 I1 r1 ty;refine⟨T,id,pa,slot,hty,h1,h2,?_⟩;have hA:=ha cpos pins s1 σ H1 _ I1 q1;rw[hs] at hA ⊢;refine B50 (by show (false||(backTo cpos (starEach es X.env)).any (·.1))=false;rw[hplain]<;>rfl) (Calls.evalArgs_plain ?_);exact thn hA λus s2 ⟨vs,H2,I2,r2,q2⟩=>hm pins s2 σ H2 x vs v us Q I2 r1 r2 q2
end
def MtM(X:Cx)(id:String)(r:V->List V->Hp->VK->Prop):Prop :=
 ∀(pins:List (Addr×Obj)) (s:Shared) (σ:St) (H:Hp) (x:V) (xs:List V) (v:Value) (us:List Value) (Q:VK),Inv X pins σ H s->RelV x v->Vals xs us->r x xs H Q ->
  wpAny (model X.prog X.w) X.A (call (.builtin id) (v::us)) (EP X pins σ Q) X.xe s
theorem Vals.one:∀{x:V} {us:List Value},Vals [x] us->∃u,us=[u]/\RelV x u
 | _,_,.cons r .nil=>⟨_,rfl,r⟩
theorem Vals.two:∀{x y:V} {us:List Value},Vals [x,y] us->∃u v,us=[u,v]/\RelV x u/\RelV y v
 | _,_,_,.cons r (.cons q .nil)=>⟨_,_,rfl,r,q⟩
theorem Vals.zero:∀{us:List Value},Vals [] us->us=[]
 | _,.nil=>rfl
theorem Vals.dropLast(h:Vals xs us):Vals xs.dropLast us.dropLast:=by
 induction h with
 | nil=>exact .nil
 | cons r t ih =>
  cases t with
  | nil=>exact .nil
  | cons q t'=>exact .cons r ih
theorem Vals.reverse(h:Vals xs us):Vals xs.reverse us.reverse:=by
 induction h with
 | nil=>exact .nil
 | cons r t ih=>rw[List.reverse_cons,List.reverse_cons];exact Vals.append ih (.cons r .nil)
theorem Vals.rep(h:Vals xs us):∀k:Nat,Vals (List.replicate k xs).flatten (List.replicate k us).flatten
 | 0=>.nil
 | k+1=>by
  rw[List.replicate_succ,List.replicate_succ,List.flatten_cons,List.flatten_cons];exact Vals.append h (Vals.rep h k)
theorem lo0(l:List α):l.eraseIdx (l.length - 1)=l.dropLast:=by
 induction l with
 | nil=>rfl
 | cons a r ih =>
  cases r with
  | nil=>rfl
  | cons b r =>
   have e:(a::b::r).length - 1=((b::r).length - 1)+1:=by
    have h1:(a::b::r).length=r.length+2:=rfl;have h2:(b::r).length=r.length+1:=rfl;omega
   rw[e,List.eraseIdx_cons_succ,ih]
   all_goals rfl
theorem foldl_rep(its:List Value):∀(k:Nat) (acc:List Value),
  List.foldl (λx1 x2=>x1++x2) acc.toArray (List.replicate k its.toArray)=(acc++(List.replicate k its).flatten).toArray
 | 0,acc=>by simp
 | k+1,acc=>by
  have e:acc.toArray++its.toArray=(acc++its).toArray:=by simp
  have e2:(acc++its)++(List.replicate k its).flatten=acc++(List.replicate (k+1) its).flatten:=by
   rw[List.replicate_succ,List.flatten_cons,List.append_assoc]
  rw[← e2,← foldl_rep its k (acc++its),← e,List.replicate_succ,List.foldl_cons]
section
variable{σ:St}{s:Shared}{l b:Addr}{ys zs:List V}
theorem Inv.lset{its its':List Value}{n:Nat}{f:Array Value->Array Value}{t':Nat}(I:Inv X pins σ H s)(hH:H l=some (.lst xs))
  (e:s.heap.get? l=some { cls:=.type "list",data:=.seq its.toArray n }) (hf:f its.toArray=its'.toArray) (hv:Vals ys its') (hz:ys.length<=sizeLine) :
  Inv X pins σ (upd H l (.lst ys)) { s with heap:=s.heap.update l (Obj.mapSeq f),toks:=t' }:=by
 have q:=PySem.IsL.update e f;rw[hf] at q;refine I.write (x:=l) (e:=l) (by rw[hH];exact trivial) (.inl rfl) (λb' u hb hu=>(A40 s.heap (Obj.mapSeq f) (C1 hb)).trans hu) ⟨_,q⟩ ?_;exact⟨hz,its',_,hv,q⟩
theorem Inv.lnew{t':Nat}(I:Inv X pins σ H s)(hv:Vals ys its)(hz:ys.length<=sizeLine) :
  Inv X pins σ (upd H s.heap.objs.size (.lst ys)) { s with heap:=s.heap.push { cls:=.type "list",data:=.seq its.toArray },toks:=t' } :=
 I.laid (λ_ _ q=>A8 _ q) (A4 _) ⟨hz,its,0,hv,B9 _ rfl⟩
theorem Inv.fresh(I:Inv X pins σ H s):H s.heap.objs.size=none:=I.hok.fresh (A4 _)
theorem Inv.lstM(I:Inv X pins σ H s)(hH:H l=some (.lst xs)):xs.length<=sizeLine/\∃(its:List Value) (n:Nat),Vals xs its/\xs.length=its.length/\s.heap.get? l=some { cls:=.type "list",data:=.seq its.toArray n }:=by
 obtain⟨z,its,n,r,e⟩:=I.hok l _ hH;exact⟨z,its,n,r,r.length,e⟩
end
def cl0:V->List V->Hp->VK->Prop:=λx vs H Q=>∃l xs y,x=.ref l/\vs=[y]/\H l=some (.lst xs)/\xs.length<sizeLine/\Q .non (upd H l (.lst (xs++[y])))
theorem qe0:MtM X "list.append" cl0:=by
 intro pins s σ H x vs v us Q I rx rv h;obtain⟨l,xs,y,rfl,rfl,hH,hz,q⟩:=h;cases rx;obtain⟨u,rfl,ru⟩:=rv.one;obtain⟨z,its,n,r,hl,e⟩:=I.lstM hH;refine d5 F.slot_list_append ⟨_,e,rfl⟩ F.entry_list_append (F.args_list_append_2 _ _) (PySem.list_append l its.toArray n u (by rw[List.size_toArray];omega)) ⟨e,?_⟩;refine⟨.non,_,I.lset (its':=its++[u]) hH e (by simp) (r.append (.cons ru .nil)) ?_,rfl,q⟩;rw[List.length_append,List.length_singleton];omega
def Wa0:V->List V->Hp->VK->Prop:=λx vs H Q=>∃l xs y,x=.ref l/\vs=[]/\H l=some (.lst xs)/\xs[xs.length - 1]?=some y/\Q y (upd H l (.lst xs.dropLast))
theorem b90:MtM X "list.pop" Wa0:=by
 intro pins s σ H x vs v us Q I rx rv h;obtain⟨l,xs,y,rfl,rfl,hH,hy,q⟩:=h;cases rx;have M:=rv.zero;subst M;obtain⟨z,its,n,r,hl,e⟩:=I.lstM hH;obtain⟨u,hu,ru⟩:=r.get hy;have J:its.toArray[its.toArray.size - 1]?=some u:=by
  show its.toArray[its.length - 1]?=some u;rw[← Array.getElem?_toList,← hl];exact hu
 refine d5 F.slot_list_pop ⟨_,e,rfl⟩ F.entry_list_pop (F.args_list_pop_1 _) (MeetsSeq.list_pop_last l its.toArray n u J (by rw[List.size_toArray];omega)) ⟨e,?_⟩;refine⟨y,_,I.lset (its':=its.dropLast) hH e ?_ r.dropLast ?_,ru,q⟩
 ·show its.toArray.eraseIdxIfInBounds (its.toArray.size - 1)=its.dropLast.toArray
  rw[List.size_toArray,List.eraseIdxIfInBounds_toArray,lo0]
 ·rw[List.length_dropLast]
  omega
theorem len_rep(xs:List α)(k:Nat):(List.replicate k xs).flatten.length=k*xs.length:=by
 induction k with
 | zero=>simp
 | succ k ih=>rw[List.replicate_succ,List.flatten_cons,List.length_append,ih,Nat.succ_mul,Nat.add_comm]
end L2
namespace Att
open PySem.W PySem.Calls PyProof.Rows
theorem sb0{P:Params}{h:Heap}:∀(ns:List Int) (vs:List Value),WellAll P h vs (ns.map WData.int)->IntsAre vs ns:=by
 intro ns
 induction ns with
 | nil =>
  intro vs w;rw[List.map_nil] at w;cases w;exact .nil
 | cons n ns ih =>
  intro vs w;rw[List.map_cons] at w;cases w with
  | cons a b =>
   cases a;exact .cons _ _ (ih _ b)
theorem ky0{l:OpenLaw}(hn:l.most=some n){P:Params}{h:Heap}{args:List WData}{vals:List Value}
  (hpre:l.row.toRowW.claim.pre args=true) (hwl:WellAll P h vals args) :
  ∃a vs ns,vals=[Value.ref a]/\args=[WData.list (ns.map WData.int)]/\h.get? a=some { cls:=.type "list",data:=.seq vs.toArray }/\IntsAre vs ns/\ns.length<=n:=by
 have M:WShape.hasAll [] args [.list .int]=true:=(pre_splitW hpre).1;have hc:l.pre.holds [] { args:=args }=true:=(pre_splitW hpre).2;obtain⟨d,r,rfl,h1,h2⟩:=hasAllW_cons M;obtain rfl:=hasAllW_nil h2;obtain⟨xs,rfl,h3⟩:=hasW_list h1;obtain⟨ns,rfl⟩:=items_int h3;have J:ns.length<=n:=by
  unfold OpenLaw.pre at hc;have h4:(WTm.not (.lt (.lit (.int (n:Int))) (.len (.arg 0)))).holds [] { args:=[.list (ns.map .int)] }=true:=by
   have h4:=(holds_andW hc).1;rw[hn] at h4;exact h4
  have h5:=condW_of h4 (w_not (w_lt w_lit (w_len_list (w_arg rfl))));rw[List.length_map] at h5;refine B60 λq=>?_
  have q':(n:Int)<((ns.length:Nat):Int):=by omega
  first
   | (rw[decide_eq_true q'] at h5;exact absurd h5 (by decide))
   | (simp at h5;omega)
 cases hwl with
 | cons w1 w2 =>
  cases w2;cases w1 with
  | list ho hall=>exact⟨_,_,ns,rfl,rfl,ho,sb0 ns _ hall,J⟩
theorem ii0(l:OpenLaw)(args:List WData):l.row.toRowW.claim.post args (.bool true) args=true :=
 postW_of (r:=l.row.toRowW) (X:=(true==true))
  (show WShape.has [] (.bool true) .bool=true by first|rfl|decide|simp[WShape.has,WShape.arms,WShape.armsAll])
  (show (WTm.eq .res (.lit (.bool true))).value [] { args:=args,res:=some (.bool true),after:=args }=some (.bool (true==true)) from w_eq_bool (w_res rfl) w_lit) rfl
theorem mo0{l:OpenLaw}{n:Nat}{q:Program}{loose:List Str}{XP:(Str->Option Value)->Heap->Prop}{YP:World->Heap->Prop}{d:DefRec}
  (hn:l.most=some n) (hdf:d.params.defaults=[])
  (call:∀(w:World) (s₀ s₁:Shared) (mg mb:Str->Option Value) (fa:Addr) (o:Obj) (pm cd doc:Value) (a:Addr) (vs:List Value) (ns:List Int),
   Ground q loose [] XP w s₀ mg mb s₁.heap->YP w s₁.heap ->
   s₁.heap.get? fa=some o->o.data=.func (docDef d.name d.params d.body d.scope pm cd doc)->s₁.heap.CodeRec cd d.name->mg d.name=some (.ref fa) ->
   s₁.heap.get? a=some { cls:=.type "list",data:=.seq vs.toArray }->IntsAre vs ns->ns.length<=n->s₁.gens=#[] ->
   codeAny (model l.prog w) callerA (.call (.ref fa) ⟨[.ref a],[]⟩) (λr s'=>r=.ok (.ret (.bool true))/\OldK s₁.heap s'.heap/\s'.os=s₁.os/\AllBare s'.gens) s₁) :
  WalkO q loose XP YP l.row.toRowW d [] (λf vs=>PySem.call f vs):=by
 intro w s₀ s₁ mg mb G Y fa o pm cd doc dV kV ho hd U hD a0 hg a1 vals as S a2 a4 Z a3;obtain rfl:dV=.none:=Dflts.none hD hdf;obtain rfl:kV=.none:=Dflts.noKw hD;obtain⟨a,vs,ns,rfl,rfl,M,J,O⟩:=ky0 hn S Z;refine enter_call (x9 (call w s₀ s₁ mg mb fa o pm cd doc a vs ns G Y ho (fd_plain hd) U a0 M J O hg) λr s' hq=>?_);obtain⟨rfl,h2,h3,h4⟩:=hq;exact⟨.inl ⟨.bool true,.bool true,[],rfl,λ_=>rfl,.bool true,ii0 l _,λ_=>⟨List.Pairwise.nil,λ_ hm=>(nomatch hm)⟩⟩,h2,h3,h4⟩
end Att
namespace L2
open Spec PyProof.Rows
theorem q90:∀{vs:List Value} {ns:List Int},IntsAre vs ns->Vals (ns.map V.int) vs
 | _,_,.nil=>.nil
 | _,_,.cons n t h=>.cons ⟨t,rfl⟩ (q90 h)
def Only(H:Hp):Prop:=∀b,H b=none∨∃o xs,H b=some (.frz o (.lst xs))
theorem fg0{P:Program}{w:World}{K:W.Frag}{mg mb:Str->Option Value}{CX:CXT}{k:Nat}{fa a:Addr}{fd:FuncData}{x:Str}{sp:Sp}{s₁:Shared}{vs:List Value}{ns:List Int}
  (KX:K.In s₁.heap) (hns:s₁.heap.Ns mainGlobals mg) (hb:s₁.heap.Ns builtinsNs mb) (hbb:∀x:Str,x ≠"__name__"->mb x=bootBuiltins x) (hlim:s₁.heap.NoLimit) (hg:s₁.gens=#[])
  (ha:s₁.heap.get? a=some { cls:=.type "list",data:=.seq vs.toArray }) (hi:IntsAre vs ns) (hl:ns.length<=sizeLine) (hr:Room k callerA)
  (F:∀base:Heap,K.In base->base.Ns mainGlobals mg->FnOk P w K mg base CX k fa fd [x] sp) (hbind:∀(s:Shared) (u:Value),BindsTo s fd ⟨[u],[]⟩ [(x,u)])
  (hsp:∀H:Hp,Only H->SqL K H a (ns.map V.int)->sp [.ref a] H (λv _=>v=.bl true) λ_ _ _=>False)
  (hCX:∀H e s',CX [] H s₁ (λ_ _ _=>False) e s'->False) :
  codeAny (model P w) callerA (.call (.ref fa) ⟨[.ref a],[]⟩) (λr s'=>r=.ok (.ret (.bool true))/\OldK s₁.heap s'.heap/\s'.os=s₁.os/\AllBare s'.gens) s₁:=by
 have rv:=q90 hi;have Y:=hi.length;have O:∀H:Hp,Only H->SqL K H a (ns.map V.int)->HOk P w H s₁.heap->(∀b,H b≠none->b=a)->(H a≠none->K.lookup a=none) ->
   codeAny (model P w) callerA (.call (.ref fa) ⟨[.ref a],[]⟩) (λr s'=>r=.ok (.ret (.bool true))/\OldK s₁.heap s'.heap/\s'.os=s₁.os/\AllBare s'.gens) s₁:=by
  intro H hO hS hok hA hK;have J:∀{b:Addr} {o:Obj},s₁.heap.get? b=some o->H b=none->(v60 s₁.heap H).get? b=some o:=λe n=>fp0 e n
  have Z:∀{b:Addr} {o:Obj} {es:Array DictEntry} {ep:Nat},s₁.heap.get? b=some o->o.data=.dict es ep->H b=none:=λ{b o es ep} e d=>by
   cases q:H b with
   | none=>rfl
   | some u =>
    have e':b=a:=hA b (by rw[q];simp);subst e';rw[ha] at e;cases e;have d':Data.seq vs.toArray _=Data.dict es ep:=d;cases d'
  have M:∀{b:Addr} {m:Str->Option Value},s₁.heap.Ns b m->(v60 s₁.heap H).Ns b m:=λ{b m} ⟨o,es,ep,e,d,r⟩=>⟨o,es,ep,J e (Z e d),d,r⟩
  have S:K.In (v60 s₁.heap H):=λb o e=>J (KX b o e) (by
   cases q:H b with
   | none=>rfl
   | some u =>
    have e':b=a:=hA b (by rw[q];simp);subst e';rw[hK (by rw[q];simp)] at e;cases e)
  have hM:Mod K mg (v60 s₁.heap H):=⟨S,M hns,⟨mb,M hb,hbb⟩,let ⟨mc,h1,h2⟩:=hlim;⟨mc,M h1,h2⟩⟩;have e0:Env0 P w K mg (v60 s₁.heap H) callerA [] s₁ H:=⟨rfl,hM,λb o e=>ew0 e,U2 (j50 _ _),trivial,λb hb=>absurd (show b∈([]:List Addr) from hb) (by simp),hok,.of_eq hg⟩;refine x9 ((F _ S (M hns)).run callerA [] s₁ H ⟨[.ref a],[]⟩ [.ref a] [.ref a] _ _ hr e0 (hbind s₁ (.ref a)) (.cons rfl .nil) (hsp H hO hS)) λr s' h=>?_
  cases r with
  | error e=>exact(hCX H e s' h).elim
  | ok fl =>
   cases fl with
   | next=>exact False.elim h
   | brk=>exact False.elim h
   | cont=>exact False.elim h
   | ret u =>
    obtain⟨v,H',os,bare,un,U,r',q⟩:=h;have q':v=.bl true:=q;subst q';obtain rfl:u=Value.bool true:=r';refine⟨rfl,OldK.of_keep λb o e=>?_,os,bare⟩;cases q:H b with
    | none=>exact un.keep b o e q (by intro z;exact absurd (show b∈([]:List Addr) from z) (by simp)) (by simp)
    | some u =>
     rcases hO b with z|⟨ob,xs,z⟩
     ·rw[q] at z;cases z
     ·have z2:=un.frzs b ob _ z
      obtain⟨e1,_⟩:=hok b _ z;obtain⟨e2,_⟩:=U b _ z2;rw[e] at e1;cases e1;exact e2
 cases hk:K.lookup a with
 | some o =>
  have e:=KX a o hk;rw[ha] at e;cases e;refine O (λ_=>none) (λ_=>.inl rfl) (.inr ⟨_,vs.toArray,_,hk,rfl,rfl,rfl,by rw[List.size_toArray,Y];exact hl,by simpa using rv⟩) (λb u z=>by have z':(none:Option HO)=some u:=z;cases z') (λb z=>absurd rfl z) λz=>absurd rfl z
 | none =>
  refine O (λb=>if b=a then some (.frz { cls:=.type "list",data:=.seq vs.toArray } (.lst (ns.map V.int))) else none) (λb=>?_) (.inl (.inr ⟨{ cls:=.type "list",data:=.seq vs.toArray },if_pos rfl⟩)) (λb u z=>?_) (λb z=>?_) λ_=>hk
  ·by_cases hb:b=a
   ·exact .inr ⟨_,_,if_pos hb⟩
   ·exact .inl (if_neg hb)
  ·by_cases hb:b=a
   ·have z':=(if_pos hb).symm.trans z
    cases z';subst hb;exact⟨ha,by rw[List.length_map];exact hl,vs,_,rv,ha⟩
   ·have z':=(if_neg hb).symm.trans z
    cases z'
  ·by_cases hb:b=a
   ·exact hb
   ·exact absurd (if_neg hb) z
theorem dt0{l:W.OpenLaw}{n k:Nat}{q:Program}{loose:List Str}{XP:(Str->Option Value)->Heap->Prop}{YP:World->Heap->Prop}{d:DefRec}{K:Params->W.Frag}{CX:World->CXT}{sp:World->Sp}{x:Str}
  (hn:l.most=some n) (hn2:n<=sizeLine) (hdf:d.params.defaults=[]) (hr:Room k callerA)
  (hY:∀(w:World) (h:Heap),YP w h->(K w.params).In h)
  (F:∀(w:World) (mg:Str->Option Value) (fa:Addr) (h:Heap),(K w.params).In h->h.Ns mainGlobals mg->mg d.name=some (.ref fa) ->
   ∃fd:FuncData,(∀(s:Shared) (u:Value),BindsTo s fd ⟨[u],[]⟩ [(x,u)]) /\
    ∀base:Heap,(K w.params).In base->base.Ns mainGlobals mg->FnOk l.prog w (K w.params) mg base (CX w) k fa fd [x] (sp w))
  (hsp:∀(w:World) (H:Hp) (a:Addr) (ns:List Int),ns.length<=n->Only H->SqL (K w.params) H a (ns.map V.int)->sp w [.ref a] H (λv _=>v=.bl true) λ_ _ _=>False)
  (hCX:∀(w:World) (H:Hp) (s:Shared) (e:Value) (s':Shared),CX w [] H s (λ_ _ _=>False) e s'->False) :
  W.WalkO q loose XP YP l.row.toRowW d [] (λf vs=>PySem.call f vs):=by
 refine Att.mo0 hn hdf λw s₀ s₁ mg mb fa o pm cd U a vs ns G Y ho hd Z S O M J hg=>?_
 have KX:=hY w _ Y;obtain⟨fd,hb,hF⟩:=F w mg fa _ KX G.T.g S;exact fg0 KX G.T.g G.T.b G.T.builtins G.T.nolimit hg O M (C5 J hn2) hr hF hb (λH hO hS=>hsp w H a ns J hO hS) λH e s'=>hCX w H s₁ e s'
def b8(s:Stmt):Arguments:=match s with
 | .FunctionDef _ a _ _ _ _ _ _ _ _=>a
 | _=>{ posonlyargs:=[],args:=[],vararg:=none,kwonlyargs:=[],kw_defaults:=[],kwarg:=none,defaults:=[] }
def d8(s:Stmt):List Stmt:=match s with
 | .FunctionDef _ _ b _ _ _ _ _ _ _=>b
 | _=>[]
def p8(s:Stmt):Scope:=match s with
 | .FunctionDef _ _ _ _ _ _ sc _ _ _=>sc
 | _=>{ kind:=.function,names:=[],isGenerator:=false,isCoroutine:=false }
abbrev CX0:CXT:=λ_ _ _ _ _ _=>False
abbrev E0:XK:=λ_ _ _=>False
theorem p80:nj0 CX0 X E0:=λ_ _ _ _ _ _ _ h=>h.elim
structure Fun(K:W.Frag)(x qual:Str)(st:Stmt)(f:Addr)(fd:FuncData):Prop where
 ex:∃(oc:Value) (od:Option Addr) (kV doc pm:Value) (an:Option Addr) (cdv ct:Value) (osl:Array (Option Value)),
  fd=W.fnOf x qual (b8 st) (d8 st) (p8 st) .none kV doc pm an cdv ct/\K.lookup f=some ⟨oc,od,.func fd,osl⟩/\W.codeIn K cdv qual=true
 kp:W.keepIn K (.ref f)=true
section
variable{P:Program}{w:World}
theorem Fun.ok{f:Addr}{ps:List Str}{k:Nat}(F:Fun K x qual st f fd)(S:FnScope N ps (p8 st))(len:∀vs H Q E,sp vs H Q E->vs.length=ps.length)
  (hbody:∀(cdv:Value) (A:Around) (outer:List Env) (s:Shared) (H:Hp) (vs:List V) (Q:VK) (E:XK),Room k (A.deeper (envOfC qual (p8 st) s.heap.objs.size f cdv))->sp vs H Q E ->
   ∃t,PSs (u50 CX0 P w K mg base N qual (p8 st) f cdv A outer s H E).nox (d8 st) t/\t { nx:=λ_ H'=>Q .non H',rt:=Q } (start N vs) H):FnOk P w K mg base CX0 (k+1) f fd ps sp:=by
 obtain⟨oc,od,kV,O,pm,an,cdv,ct,U,rfl,lk,J⟩:=F.ex;refine Y70 lk J S len λA outer s H vs Q E hr M=>?_
 obtain⟨t,h,q⟩:=hbody cdv A outer s H vs Q E hr M;exact⟨t,h.nox,q⟩
theorem Fun.binds{f:Addr}{ps:List Str}(F:Fun K x qual st f fd)
  (h:∀(kV doc pm:Value) (an:Option Addr) (cdv ct:Value) (us:List Value),us.length=ps.length->bindArgs (W.fnOf x qual (b8 st) (d8 st) (p8 st) .none kV doc pm an cdv ct) ⟨us,[]⟩=pure (ps.zip us)):Binds K fd ps []:=by
 obtain⟨oc,od,kV,doc,pm,an,cdv,ct,M,rfl,lk,J⟩:=F.ex;exact .all (h kV doc pm an cdv ct)
theorem Y9{f:Addr}{oc:Value}{an:Option Addr}{osl:Array (Option Value)}{kV doc pm cdv ct:Value}(l:K.lookup f=some ⟨oc,od,.func (W.fnOf x qual (b8 st) (d8 st) (p8 st) .none kV doc pm an cdv ct),osl⟩)
  (c:W.codeIn K cdv qual=true) (k:W.keepIn K (.ref f)=true):Fun K x qual st f (W.fnOf x qual (b8 st) (d8 st) (p8 st) .none kV doc pm an cdv ct):=⟨⟨oc,od,kV,doc,pm,an,cdv,ct,osl,rfl,l,c⟩,k⟩
end
theorem yz0{k:Nat}(hr:Room k A):A.units+1<cLine:=d6 (Nat.add_le_add_left (by decide:1<=64) _) hr.units
structure Same(H H':Hp):Prop where
 old:∀b o,H b=some o->H' b=some o
 nf:∀b o xs,H' b=some (.frz o (.lst xs))->H b=some (.frz o (.lst xs))
instance{H H':Hp}:CoeFun (Same H H') (λ_=>∀b o,H b=some o->H' b=some o):=⟨Same.old⟩
theorem Same.refl(H:Hp):Same H H:=⟨λ_ _ h=>h,λ_ _ _ h=>h⟩
theorem Same.trans{H1:Hp}(a:Same H H1)(b:Same H1 H2):Same H H2:=⟨λc o h=>b c o (a c o h),λc o xs h=>a.nf c o xs (b.nf c o xs h)⟩
theorem Same.free(e:Same H H'){l:Addr}(h:H' l=Option.none):H l=Option.none:=by
 cases q:H l with
 | none=>rfl
 | some o =>
  rw[e l o q] at h;cases h
def V3(X:Cx)(scope:Scope)(cl:List (Str×Addr))(N':List Str)(s:Shared)(H:Hp)(ex:List Addr):Cx :=
 { X with N:=N',s₀:=s,H₀:=H,env:=compEnvC scope cl s.heap.objs.size X.env,outer:=X.stack,ex:=ex,fn:=λ_=>false,pn:=[],xe:=λ_ _=>False }
structure CompOk(sc scope:Scope)(N N':List Str)(n:Nat)(caps:List Nat):Prop where
 kind:scope.kind=.function
 nocell:∀y∈scope.names,y.2≠.cell
 loc:∀y∈scope.names,y.2=.local->scope.names.lookup y.1=some .local
 free:∀y∈scope.names,y.2=.free->sc.names.lookup y.1=some .cell∨sc.names.lookup y.1=some .free
 nd:N'.Nodup
 len:N'.length=n+caps.length
 cap:∀k∈List.range caps.length,N'[n+k]?=(caps[k]?).bind (N[·]?)/\(N'[n+k]?).all (λy=>scope.names.lookup y==some .free)=true
def Q8(n:Nat)(caps:List Nat)(σ:St):St:=List.replicate n none++caps.map λj=>(σ[j]?).join
theorem ix0(n:Nat)(caps:List Nat)(σ:St):(Q8 n caps σ).length=n+caps.length:=by simp[Q8]
theorem xt0{env:Env}:∀(names:List (Str×NameKind)),(∀x∈names,x.2=.free->∃c,env.cells.lookup x.1=some c)->∀acc:List (Str×Addr),
  ∃cl:List (Str×Addr),(forIn names acc (λ(x:Str×NameKind) (cs:List (Str×Addr))=>if (x.2==.free)=true then do let a ← cellOf env x.1;pure (ForInStep.yield ((x.1,a)::cs)) else pure (ForInStep.yield cs)):Sem (List (Str×Addr)))=pure cl /\
   (∀y c,cl.lookup y=some c->env.cells.lookup y=some c∨acc.lookup y=some c)/\(∀x∈names,x.2=.free->∃c,cl.lookup x.1=some c)/\(∀y c,acc.lookup y=some c->∃c',cl.lookup y=some c')
 | [],_,acc=>⟨acc,rfl,λ_ _ h=>.inr h,(λ_ h=>nomatch h),λ_ c h=>⟨c,h⟩⟩
 | (n,k)::r,h,acc=>by
  cases hk:(k==NameKind.free) with
  | true =>
   have hk':k=.free:=by simpa using hk
   obtain⟨c,hc⟩:=h (n,k) A5 hk';obtain⟨cl,e,h1,h2,h3⟩:=xt0 r (λx hx=>h x (C2 _ hx)) ((n,c)::acc);refine⟨cl,?_,λy d hy=>?_,λx hx hf=>?_,λy d hy=>?_⟩
   ·rw[List.forIn_cons]
    simp only[hk,if_true,cellOf,hc,pure_bind];exact e
   ·rcases h1 y d hy with z|z
    ·exact .inl z
    ·rw[List.lookup_cons] at z
     cases q:(y==n) with
     | true =>
      rw[q] at z;cases z;have:y=n:=by simpa using q
      subst this;exact .inl hc
     | false =>
      rw[q] at z;exact .inr z
   ·rcases C0.mp hx with rfl|hx
    ·exact h3 n c (by simp[List.lookup_cons])
    ·exact h2 x hx hf
   ·by_cases q:y=n
    ·subst q
     exact h3 y c (by simp[List.lookup_cons])
    ·refine h3 y d ?_
     have:(y==n)=false:=by simpa using q
     rw[List.lookup_cons,this];exact hy
  | false =>
   obtain⟨cl,e,h1,h2,h3⟩:=xt0 r (λx hx=>h x (C2 _ hx)) acc;refine⟨cl,?_,h1,λx hx hf=>?_,h3⟩
   ·rw[List.forIn_cons]
    simp only[hk,Bool.false_eq_true,if_false,pure_bind];exact e
   ·rcases C0.mp hx with rfl|hx
    ·have:k=.free:=hf
     rw[this] at hk;exact absurd hk (by decide)
    ·exact h2 x hx hf
theorem s70{env:Env}(h:∀x∈scope.names,x.2=.free->∃c,env.cells.lookup x.1=some c) :
  ∃cl:List (Str×Addr),closureFor scope env=pure cl/\(∀y c,cl.lookup y=some c->env.cells.lookup y=some c)/\∀x∈scope.names,x.2=.free->∃c,cl.lookup x.1=some c:=by
 obtain⟨cl,e,h1,h2,_⟩:=xt0 scope.names h [];refine⟨cl,?_,λy c hy=>(h1 y c hy).elim id (λz=>nomatch z),h2⟩;simp only[closureFor];rw[← bind_pure (forIn _ _ _)] at e
 first
  | exact e
  | (refine Eq.trans ?_ e;rfl)
theorem yk0{env:Env}:∀(names:List (Str×NameKind)) (x:Str),
  (names.map λ(n,k)=>if (k==NameKind.free&&env.scope.kind==.function&&env.kindOf n==some .cell) then (n,NameKind.cell) else (n,k)).lookup x =
   (names.lookup x).map λk=>if (k==NameKind.free&&env.scope.kind==.function&&env.kindOf x==some .cell)=true then NameKind.cell else k
 | [],_=>rfl
 | (n,k)::r,x=>by
  have ih:=@yk0 env r x;have l1:List.lookup x (((n,k)::r).map λ(n,k)=>if (k==NameKind.free&&env.scope.kind==.function&&env.kindOf n==some .cell) then (n,NameKind.cell) else (n,k)) =
    List.lookup x ((if (k==NameKind.free&&env.scope.kind==.function&&env.kindOf n==some .cell)=true then (n,NameKind.cell) else (n,k))::r.map λ(n,k)=>if (k==NameKind.free&&env.scope.kind==.function&&env.kindOf n==some .cell) then (n,NameKind.cell) else (n,k)):=rfl
  rw[l1,List.lookup_cons (as:=r)]
  by_cases hc:(k==NameKind.free&&env.scope.kind==.function&&env.kindOf n==some .cell)=true
  ·rw[if_pos hc,List.lookup_cons]
   cases hx:x==n with
   | true =>
    have e:x=n:=by simpa using hx
    subst e;show some NameKind.cell=some (if (k==NameKind.free&&env.scope.kind==.function&&env.kindOf x==some .cell)=true then NameKind.cell else k);rw[if_pos hc]
   | false=>exact ih
  ·rw[if_neg hc,List.lookup_cons]
   cases hx:x==n with
   | true =>
    have e:x=n:=by simpa using hx
    subst e;show some k=some (if (k==NameKind.free&&env.scope.kind==.function&&env.kindOf x==some .cell)=true then NameKind.cell else k);rw[if_neg hc]
   | false=>exact ih
section
variable{w:World}{s:Shared}
theorem on0{elt target iter:Expr}{ifs:List Expr}{scope:Scope}{pos:Pos}{it acc:Value}{env:Env}(I:Nat->Shared->Prop)
  (turn:∀n s,I n s->wpAny (model prog w) A (pyNext it) (λr s₁=>match r with
   | none=>R (.ok .next) s₁
   | some v=>wpAny (model prog w) A (letOwnedTupleGo target it v) (λ_ s₁'=>wpAny (model prog w) A (assign target env v) (λ_ s₂ =>
     wpAny (model prog w) A (forIn ifs true λc r=>if r=true then do let ok ← isTrue c env (eval c env);pure (ForInStep.yield ok) else pure (ForInStep.yield r)) (λok s₃ =>
      if ok=true then wpAny (model prog w) A (eval elt env) (λx s₄ =>
       wpAny (model prog w) A (call (.builtin "list.append") [acc,x]) (λ_ s₅=>∃m,m<n/\I m s₅) (λ_ _=>False) s₄) (λ_ _=>False) s₃
      else ∃m,m<n/\I m s₃) (λ_ _=>False) s₂) (λ_ _=>False) s₁') (λ_ _=>False) s₁) (λ_ _=>False) s)
  (n:Nat) (h:I n s) :
  codeAny (model prog w) A (.compLoop (.ListComp elt [⟨target,iter,ifs,0⟩] scope pos) 0 it acc env) R s:=by
 refine codeAny_loop rfl I (λn s hI=>?_) n h;show wpAny _ A ((compTurn (.ListComp elt [⟨target,iter,ifs,0⟩] scope pos) 0 it acc env).onRaise (λx=>do noteFrame x env;theTreesLotGoes x)) _ _ s;refine wpAny_noted ?_;rw[compTurn_list];refine A0 (x8 (A0 (D6 (turn n s hI) (λr s₁ h₁=>?_) λ_ _ h'=>h'.elim)));cases r with
 | none=>exact A1 h₁
 | some v =>
  refine A0 (D6 h₁ (λ_ s₁' J=>?_) λ_ _ h'=>h'.elim);refine A0 (D6 J (λ_ s₂ h₂=>A0 (D6 h₂ (λok s₃ h₃=>?_) λ_ _ h'=>h'.elim)) λ_ _ h'=>h'.elim);cases ok with
  | false=>exact A1 ⟨rfl,h₃⟩
  | true =>
   exact A0 (A0 (D6 h₃ (λx s₄ h₄=>A0 (D6 h₄ (λ_ s₅ h₅=>A1 (A1 ⟨rfl,h₅⟩)) λ_ _ h'=>h'.elim)) λ_ _ h'=>h'.elim))
end
def PF(X:Cx)(ifs:List Expr)(t:TT):Prop :=
 ∀(pins:List (Addr×Obj)) (s:Shared) (σ:St) (H:Hp) (Q:Bool->Hp->Prop),Inv X pins σ H s->t σ H Q ->
  wpAny (model X.prog X.w) X.A (forIn ifs true λc r=>if r=true then do let ok ← isTrue c X.env (eval c X.env);pure (ForInStep.yield ok) else pure (ForInStep.yield r)) (TP X pins σ Q) X.xe s
theorem bb0:PF X [] λ_ H Q=>Q true H:=λ_ _ _ H _ I h=>wpAny_tests_nil ⟨H,I,h⟩
def Wk(σ σ':St):Prop:=σ'.length=σ.length/\∀(j:Nat) (v:V),σ[j]?=some (some v)->σ'[j]?=some (some v)
def ej0(n:Nat)(caps:List Nat)(wi:TI)(g:TG)(tt:TT)(te:TE):TE:=fun σ H Q=>wi σ H λJ H1=>∀D,H1 D=none ->
 ∃W:Nat->Nat->List V->Hp->Prop,(∃m,W 0 m [] (upd H1 D (.lst [])))/\∀i m ys H2,W i m ys H2 ->
  (J.stop i H2/\Q (.ref D) H2)∨(J.go i H2/\∀x H3,J.yld i H2 x H3->g x (Q8 n caps σ) H3 fun σ4 H4=>Wk (Q8 n caps σ) σ4/\tt σ4 H4 λb H5 =>
   if b=true then te σ4 H5 λy H6=>H6 D=some (.lst ys)/\ys.length<sizeLine/\∃m',m'<m/\W (i+1) m' (ys++[y]) (upd H6 D (.lst (ys++[y]))) else ∃m',m'<m/\W (i+1) m' ys H5)
section
variable{wi:TI}{g:TG}{tt:TT}
def Yh0(X:Cx)(pins:List (Addr×Obj))(H:Hp)(C:Addr):Prop :=
 H C=none/\C≠X.env.locals/\X.s₀.heap.objs.size<=C/\(∀x c,X.env.cells.lookup x=some c->c≠C)/\∀p∈X.pn++pins,p.1≠C
theorem jz0{pins:List (Addr×Obj)}{σ:St}{H2:Hp}{s2:Shared}{it:Addr}{fp:List Addr}{tn:Nat->Heap->Prop}{J:It}{cl:List (Str×Addr)}{Q:VK}{RR:Value->Addr->Result->Shared->Prop}{E:Value->Shared->Prop}
  (hc:X.calm=true) (hsc:X.env.scope=sc) (ok:CompOk sc scope X.N N' n caps)
  (hcl1:∀y c,cl.lookup y=some c->X.env.cells.lookup y=some c) (hcl2:∀x∈scope.names,x.2=.free->∃c,cl.lookup x.1=some c)
  (hg:∀s H ex,PG (V3 X scope cl N' s H ex) tg g) (ht:∀s H ex,PF (V3 X scope cl N' s H ex) ifs tt) (he:∀s H ex,PE (V3 X scope cl N' s H ex) elt te)
  (I2:Inv X pins σ H2 s2) (T:Turn X.prog X.w X.K tg J fp it tn) (st2:tn 0 s2.heap) (f2:∀b∈fp,xz0 X pins H2 b)
  (q:∀D,H2 D=none->∃W:Nat->Nat->List V->Hp->Prop,(∃m,W 0 m [] (upd H2 D (.lst [])))/\∀i m ys H2,W i m ys H2 ->
   (J.stop i H2/\Q (.ref D) H2)∨(J.go i H2/\∀x H3,J.yld i H2 x H3->g x (Q8 n caps σ) H3 fun σ4 H4=>Wk (Q8 n caps σ) σ4/\tt σ4 H4 λb H5 =>
    if b=true then te σ4 H5 λy H6=>H6 D=some (.lst ys)/\ys.length<sizeLine/\∃m',m'<m/\W (i+1) m' (ys++[y]) (upd H6 D (.lst (ys++[y]))) else ∃m',m'<m/\W (i+1) m' ys H5))
  (hend:∀(D C:Addr) (H':Hp) (s':Shared) (m:Str->Option Value),Inv X pins σ H' s'->Yh0 X pins H' C->s'.heap.Ns C m->Q (.ref D) H'->RR (.ref D) C (.ok .next) s') :
  wpAny (model X.prog X.w) X.A (newList []) (λacc s₃=>wpAny (model X.prog X.w) X.A (newFunctionEnv scope X.env.globals cl [] X.env.qual none .none (some X.env)) (λcenv s₄ =>
   codeAny (model X.prog X.w) X.A (.compStart (.ListComp elt [⟨tg,iter,ifs,0⟩] scope pos) 0 (.ref it) acc { cenv with scope:=relabel scope X.env }) (RR acc cenv.locals) s₄) E s₃) E s2:=by
 refine K0 (wpAny_newFunctionEnv ok.nocell (by intro y hy;simp at hy) (λh₁ Y S=>?_) ok.kind);dsimp only at Y S ⊢;obtain⟨D,hD⟩:∃D,D=s2.heap.objs.size:=⟨_,rfl⟩;have I3:Inv X pins σ (upd H2 s2.heap.objs.size (.lst [])) { s2 with heap:=s2.heap.push { cls:=.type "list",data:=.seq ([]:List Value).toArray } }:=I2.lnew (its:=[]) (t':=s2.toks) .nil (K2 _);have c6:H2 s2.heap.objs.size=none:=I2.fresh;obtain⟨W,⟨m0,w0⟩,a9⟩:=q s2.heap.objs.size c6;generalize hs3:({ s2 with heap:=s2.heap.push { cls:=.type "list",data:=.seq ([]:List Value).toArray } }:Shared)=s3 at *;have b2:s2.heap.push { cls:=.type "list",data:=.seq ([]:List Value).toArray }=s3.heap:=by rw[← hs3]
 have g6:s2.toks=s3.toks:=by rw[← hs3]
 rw[b2] at Y S ⊢;generalize hH3:upd H2 s2.heap.objs.size (HO.lst [])=H3 at *;rw[← hD] at a9 hH3 c6 ⊢;have old:∀b o,s3.heap.get? b=some o->h₁.get? b=some o:=λb o e=>S.extBut b o (B8 (A6 e)) (A8 _ e)
 have a5:∀b o,s2.heap.get? b=some o->s3.heap.get? b=some o:=λb o e=>by rw[← b2];exact A8 _ e
 have c4:∀b∈fp,b<s3.heap.objs.size:=λb hb=>by
  obtain⟨o,e,_⟩:=T.obj _ _ st2 b hb;exact A6 (a5 b o e)
 have g3:∀b∈fp,b≠D:=λb hb z=>by
  obtain⟨o,e,_⟩:=T.obj _ _ st2 b hb;rw[z,hD] at e;exact absurd (A6 e) (G0 _)
 obtain⟨X',M⟩:∃X',X'=V3 X scope cl N' s3 H3 fp:=⟨_,rfl⟩;have g5:X'.Ok:=by
  subst M;refine⟨I3.ok.mod,ok.kind,I3.ok.glob,I3.ok.blt,A4 _,λx y c h1 h2=>I3.ok.inj x y c (hcl1 x c h1) (hcl1 y c h2),λx hx=>?_,λx c h _=>absurd h (by simp[V3]),I3.ok.hd,I3.ok.frames,.inl rfl,
   λb hb=>⟨B8 (c4 b hb),λx c e=>(f2 b hb).2.2.2.2.1 x c (hcl1 x c e)⟩,λb o e=>I3.bs b o e,C5 I3.ok.bsz I3.sz,λb o e hb=>?_,λb hb hf=>?_,I3.stack,I3.stkFree⟩
  ·have a2:((relabel scope X.env).names.lookup x=some .cell)∨((relabel scope X.env).names.lookup x=some .free):=hx
   have q2:=yk0 (env:=X.env) scope.names x;have q3:(relabel scope X.env).names.lookup x=(scope.names.lookup x).map λk=>if (k==NameKind.free&&X.env.scope.kind==.function&&X.env.kindOf x==some .cell)=true then NameKind.cell else k:=q2
   cases e:scope.names.lookup x with
   | none =>
    rw[q3,e] at a2;rcases a2 with z|z<;>cases z
   | some k =>
    have hk:k=.free:=by
     rw[q3,e] at a2;have nc:=ok.nocell (x,k) (I0 e);cases k<;>first
      | rfl
      | exact absurd rfl nc
      | (rcases a2 with z|z<;>simp at z)
    subst hk;exact hcl2 (x,.free) (I0 e) rfl
  ·rcases (f2 b hb).2.2.2.1 with z|z
   ·exact I3.ok.noex b o e z
   ·exact absurd (D0 (A6 (I3.ok.bs b o e).1) z) (G0 _)
  ·rcases C0.mp (I3.stkSub b hf) with z|z
   ·exact(f2 b hb).2.1 z
   ·exact(f2 b hb).2.2.1 z
 have I4:Inv X' [] (Q8 n caps σ) H3 { s3 with heap:=h₁,toks:=s2.toks+([]:List (Str×Value)).length }:=by
  refine⟨g5,?_,?_,?_,?_,λx c e=>?_,?_,λx c e=>?_,λp hp=>?_,(by subst M;exact I3.hok.kept old),?_⟩
  ·subst M;rfl
  ·exact I3.bare
  ·subst M;exact Un.kept old
  ·subst M
   refine⟨_,Y,λi x v e1 e2 e3=>?_⟩;have hi:n<=i:=by
    by_cases hi:i<n
    ·unfold Q8 at e2
     rw[List.getElem?_append_left (by simpa using hi),List.getElem?_replicate,if_pos hi] at e2;cases e2
    ·omega
   obtain⟨k,rfl⟩:∃k,i=n+k:=⟨i - n,by omega⟩;have hk:k<caps.length:=by
    have:=(A7.mp e1).1;have e5:(V3 X scope cl N' s3 H3 fp).N.length=n+caps.length:=ok.len;omega
   obtain⟨c1,c2⟩:=ok.cap k (E5.mpr hk);have c3:N'[n+k]?=some x:=e1;unfold Q8 at e2;rw[List.getElem?_append_right (by simp),List.length_replicate,Nat.add_sub_cancel_left,List.getElem?_map] at e2;obtain⟨j,hj⟩:∃j,caps[k]?=some j:=⟨caps[k],by simp[hk]⟩;rw[hj] at e2 c1;have f3:X.N[j]?=some x:=by rw[← c3,c1];rfl
   have Z:(σ[j]?).join=some v:=B4 e2;have d1:σ[j]?=some (some v):=by
    cases q:σ[j]? with
    | none=>rw[q] at Z;cases Z
    | some o=>rw[q] at Z;rw[show o=some v from Z]
   rw[c3] at c2;have O:scope.names.lookup x=some .free:=by simpa using c2
   have b1:=ok.free (x,.free) (I0 O) rfl;obtain⟨m,hn,hl⟩:=I3.loc;obtain⟨u,ru,l⟩:=hl j x v f3 d1 (by
    rcases b1 with z|z
    ·exact .inr (.inl (by rw[hsc];exact z))
    ·exact .inr (.inr (by rw[hsc];exact z)))
   refine⟨u,ru,.inr ⟨?_,?_⟩⟩
   ·have q3:(relabel scope X.env).names.lookup x=(scope.names.lookup x).map λk=>if (k==NameKind.free&&X.env.scope.kind==.function&&X.env.kindOf x==some .cell)=true then NameKind.cell else k:=yk0 scope.names x
    rw[O] at q3;show (relabel scope X.env).names.lookup x=_∨(relabel scope X.env).names.lookup x=_;rw[q3]
    by_cases hcc:(NameKind.free==NameKind.free&&X.env.scope.kind==.function&&X.env.kindOf x==some .cell)=true
    ·left;simp only[Option.map_some,if_pos hcc]
    ·right;simp only[Option.map_some,if_neg hcc]
   ·obtain⟨c',c5⟩:=hcl2 (x,.free) (I0 O) rfl
    rcases l with⟨e9,_⟩|⟨_,c,e6,b3⟩
    ·have a6:X.env.scope.names.lookup x=some .local:=e9
     rw[hsc] at a6;rcases b1 with z|z<;>(rw[a6] at z;cases z)
    ·have:=hcl1 x c' c5
     rw[e6] at this;cases this;obtain⟨o,ho,hd⟩:=b3;exact⟨_,c5,o,old _ o ho,hd⟩
  ·have e':cl.lookup x=some c:=by subst M;exact e
   obtain⟨v,o,ho,hd⟩:=I3.cell x c (hcl1 x c e');exact⟨v,o,old _ o ho,hd⟩
  ·subst M;exact I3.hok.fresh (A4 _)
  ·have e':cl.lookup x=some c:=by subst M;exact e
   exact I3.freeC x c (hcl1 x c e')
  ·subst M;exact absurd hp (by simp[V3])
  ·subst M
   show _=N'.length;rw[ix0,ok.len]
 have b0:X'.calm=true:=by subst M;exact hc
 have U:∀{H':Hp},(∀b∈fp,H' b=none)->∀b∈fp,xz0 X' [] H' b:=λ{H'} hn b hb=>by
  subst M;refine⟨hn b hb,B8 (c4 b hb),λhf=>?_,.inl hb,λx c e=>(f2 b hb).2.2.2.2.1 x c (hcl1 x c e),λp hp=>absurd hp (by simp[V3])⟩;rcases C0.mp (I3.stkSub b hf) with z|z
  ·exact(f2 b hb).2.1 z
  ·exact(f2 b hb).2.2.1 z
 have f9:∀b∈fp,H3 b=none:=λb hb=>by rw[← hH3,Z2 (g3 b hb)];exact(f2 b hb).1
 have b6:tn 0 h₁:=T.keep _ _ _ st2 λb hb o e=>old b o (a5 b o e)
 have a8:∀s4:Shared,s4={ s3 with heap:=h₁,toks:=s2.toks+([]:List (Str×Value)).length } ->
   codeAny (model X.prog X.w) X.A (.compLoop (.ListComp elt [⟨tg,iter,ifs,0⟩] scope pos) 0 (.ref it) (.ref D) X'.env) (RR (.ref D) s3.heap.objs.size) s4:=by
  rintro s4 rfl;refine on0 (λk s'=>∃i ys H',Inv X' [] (Q8 n caps σ) H' s'/\tn i s'.heap/\(∀b∈fp,H' b=none)/\W i k ys H') ?_ m0 ⟨0,[],H3,I4,b6,f9,w0⟩;rintro k s5 ⟨i,ys,H5,I5,c0,c8,w5⟩;have eP:X'.prog=X.prog:=by subst M;rfl
  have ew:X'.w=X.w:=by subst M;rfl
  have eK:X'.K=X.K:=by subst M;rfl
  have eA:X'.A=X.A:=by subst M;rfl
  rcases a9 i k ys H5 w5 with⟨stop,qe⟩|⟨go,step⟩
  ·have T':=T.done X' eP ew eK b0 i [] s5 (Q8 n caps σ) H5 (λ_ _=>False) I5 (U c8) c0 stop
   rw[eA] at T';refine thn T' λr s6 ⟨hr,I6⟩=>?_
   subst hr;have e4:Un (frs X.stack) fp H3 H5 s3.heap s6.heap:=by have:=I6.base;subst M;exact this
   have f0:s6.os=s3.os:=by have:=I6.os;subst M;exact this
   have d2:HOk X.prog X.w H5 s6.heap:=by have:=I6.hok;subst M;exact this
   have IX:Inv X pins σ H5 s6:=I3.call' f0 e4 d2 I6.bare λb hb=>⟨(f2 b hb).2.2.2.1,(f2 b hb).2.1,(f2 b hb).2.2.2.2.1,(f2 b hb).2.2.2.2.2⟩
   obtain⟨m6,g4,_⟩:=I6.loc;have e0:s6.heap.Ns s3.heap.objs.size m6:=by subst M;exact g4
   refine hend D s3.heap.objs.size H5 s6 m6 IX ⟨by have:=I6.free;subst M;exact this,L6 I3.lt,I3.sz,λx c e z=>?_,λp hp z=>?_⟩ e0 qe
   ·obtain⟨v,qc⟩:=I3.cell x c e
    exact absurd (D0 qc.lt (U2 z.symm)) (G0 _)
   ·exact absurd (D0 (A6 (I3.pin p hp).1) (U2 z.symm)) (G0 _)
  ·have T':=T.item X' eP ew eK b0 i [] s5 (Q8 n caps σ) H5 (λ_ _=>False) I5 (U c8) c0 go
   rw[eA] at T';refine thn T' λr s6 ⟨u,hr,h6⟩=>?_
   subst hr;refine thn h6 λ_ s7 ⟨x,H7,I7,r7,y7,a7,f7⟩=>?_
   have f4:=I7.pinned (U f7) (T.obj _ _ a7);have c7:=hg s3 H3 fp;have b5:=ht s3 H3 fp;have b4:=he s3 H3 fp;rw[← M] at c7 b5 b4;have g1:=c7 _ s7 (Q8 n caps σ) H7 x u _ f4 r7 (step x H7 y7);rw[eP,ew,eA] at g1;have a0:X'.xe=λ_ _=>False:=by subst M;rfl
   rw[a0] at g1;refine thn g1 λ_ s8 ⟨σ8,H8,I8,a3,q8⟩=>?_
   have t1:=b5 _ s8 σ8 H8 _ I8 q8;rw[eP,ew,eA,a0] at t1;refine thn t1 λb s9 ⟨H9,I9,q9⟩=>?_
   have back:∀{σa:St} {Ha:Hp} {sa:Shared} {a4:List V} {ma:Nat},Inv X' ([]++uf0 fp s7.heap) σa Ha sa->σa.length=(Q8 n caps σ).length->(∀(j:Nat) v,(Q8 n caps σ)[j]?=some (some v)->σa[j]?=some (some v))->W (i+1) ma a4 Ha ->
     ∃i ys H',Inv X' [] (Q8 n caps σ) H' sa/\tn i sa.heap/\(∀b∈fp,H' b=none)/\W i ma ys H':=λ{σa Ha sa a4 ma} Ia hl hw wa=>by
    refine⟨i+1,a4,Ha,(Ia.weak hl.symm hw).unpinned,T.keep _ _ _ a7 λb hb o e=>(Ia.pin (b,o) (D2 _ (D2 _ (xa0 hb e)))).1,λb hb=>?_,wa⟩;obtain⟨o,e,d⟩:=T.obj _ _ a7 b hb;exact(Ia.pin (b,o) (D2 _ (D2 _ (xa0 hb e)))).2.1
   cases b with
   | false =>
    rw[if_neg C7];rw[if_neg C7] at q9;obtain⟨m',hm,w9⟩:=q9;exact⟨m',hm,back I9 a3.1 a3.2 w9⟩
   | true =>
    rw[if_pos rfl];rw[if_pos rfl] at q9;have e1:=b4 _ s9 σ8 H9 _ I9 q9;rw[eP,ew,eA,a0] at e1;refine thn e1 λv e8 ⟨y,f6,f1,e7,c9,d0,m',hm,f8⟩=>?_
    have a1:=qe0 (X:=X') _ e8 σ8 f6 (.ref D) [y] (.ref D) [v] (λ_ H'=>W (i+1) m' (ys++[y]) H') f1 rfl (.cons e7 .nil) ⟨D,ys,y,rfl,rfl,c9,d0,f8⟩;rw[eP,ew,eA,a0] at a1;refine thn a1 λ_ g8 ⟨_,g7,g2,_,f5⟩=>?_
    exact⟨m',hm,back g2 a3.1 a3.2 f5⟩
 subst M;exact codeAny_compStart_list (a8 _ (by rw[← hs3])) (T.self X.A 0 _ _ _ b6 (a8 _ (by rw[← hs3])))
theorem cg0(hc:X.calm=true)(hsc:X.env.scope=sc)(ok:CompOk sc scope X.N N' n caps)(hi:PI X tg iter wi)
  (hg:∀cl s H ex,PG (V3 X scope cl N' s H ex) tg g) (ht:∀cl s H ex,PF (V3 X scope cl N' s H ex) ifs tt) (he:∀cl s H ex,PE (V3 X scope cl N' s H ex) elt te)
  (hs:∀x,foldedSetIterable iter X.env x=pure x:=by intro _;rfl) :
  PE X (.ListComp elt [⟨tg,iter,ifs,0⟩] scope pos) (ej0 n caps wi g tt te):=by
 intro pins s σ H Q I h;obtain⟨cl,M,O,S⟩:=s70 (env:=X.env) (scope:=scope) λx hx hf=>I.ok.has x.1 (by
  rcases ok.free x hx hf with z|z
  ·exact .inl (by show X.env.scope.names.lookup x.1=_;rw[hsc];exact z)
  ·exact .inr (by show X.env.scope.names.lookup x.1=_;rw[hsc];exact z))
 rw[eval_ListComp];refine wpAny_comprehension_free (use:=none) rfl hs M ok.kind ok.loc (thn (hi pins s σ H _ I h) λv s1 h1=>thn h1 λZ s2 h2=>?_);obtain⟨it,fp,tn,J,H2,rfl,I2,T,U,f2,q2⟩:=h2;refine jz0 (Q:=Q) (RR:=λY C=>compPost (model X.prog X.w) X.A X.xe none (EP X pins σ Q) Y C) hc hsc ok O S (hg cl) (ht cl) (he cl) I2 T U f2 q2 ?_;intro D C H' s' m IX as hn qe;refine⟨m,hn,λh' sb=>⟨.ref D,H',IX.turned (t':=s'.toks) (λb o hb e=>(sb.2 b hb).trans e) as.1 as.2.1 (.inr as.2.2.1) as.2.2.2.1 as.2.2.2.2,rfl,qe⟩⟩
end
end L2
namespace DL
open Spec PyProof.Rows
inductive D where
 | non|bl (b:Bool)|int (i:Int)|str (x:Str)|tup (ds:List D)|lst (ds:List D)|dct (ks:Sum (List (Sum Int Str)) (List (List (Sum Int Str)))) (ds:List D)|fn (ks:List (Sum Int Str)) (ds:List D)
 deriving Inhabited
variable{l ds:List DL.D}
@[simp] def unl:D->D
 | .tup [_,d]=>d
 | d=>d
@[simp] def isL:D->Bool
 | .tup _=>true
 | _=>false
inductive Sl where
 | un|sh (d:D)|ow (d:D)
 | ex (c:Str) (n:Option Int)
abbrev Ds:=List Sl
inductive Res where
 | nx (δ:Ds)|rt (d:D)|bk (δ:Ds)|ct (δ:Ds)|rf (d:D)
variable{g ge gb:DL.Ds->Option DL.D}{δ δ':DL.Ds}{gi gA:DL.Ds->Option (List DL.D)}{gt:DL.Ds->Option Bool}
abbrev GE:=Ds->Option D
abbrev GB:=Ds->Option Bool
variable{g0:DL.GE}
abbrev GA:=Ds->Option (List D)
abbrev GS:=Ds->Option Res
@[simp] def asB:D->Option Bool
 | .bl b=>some b
 | _=>none
variable{G:DL.GS}
@[simp] def asI:D->Option Int
 | .int i=>some i
 | _=>none
@[simp] def gv(i:Nat):GE:=fun δ=>match δ[i]? with
 | some (.sh d)=>some d
 | _=>none
@[simp] def gc(d:D):GE:=λ_=>some d
@[simp] def o2(ga gb:GE)(f:D->D->Option D):GE:=fun δ=>(ga δ).bind λx=>(gb δ).bind λy=>f x y
@[simp] def ob(g:GE):GB:=fun δ=>(g δ).bind asB
@[simp] def J0(g:GB):GB:=fun δ=>(g δ).map (!·)
@[simp] def G5(gt gu:GB):GB:=fun δ=>(gt δ).bind λt=>if t=true then gu δ else some false
@[simp] def we0(gt gu:GB):GB:=fun δ=>(gt δ).bind λt=>if t=true then some true else gu δ
@[simp] def v00(ga gb:GE):GE:=fun δ=>(ob ga δ).bind λt=>if t=true then gb δ else some (.bl false)
@[simp] def v7:GA:=λ_=>some []
@[simp] def z9(g:GE)(gA:GA):GA:=fun δ=>(g δ).bind λd=>(gA δ).map λds=>d::ds
@[simp] def Z6(gA:GA):GE:=fun δ=>(gA δ).bind λds=>if ds.length<=sizeLine then some (.tup ds) else none
@[simp] def Y8(gA:GA):GE:=fun δ=>(gA δ).bind λds=>if ds.length<=sizeLine then some (.lst ds) else none
@[simp] def oA(gA:GA)(f:List D->Option D):GE:=fun δ=>(gA δ).bind f
@[simp] def V7(f:D->Bool)(g:GE):GE:=fun δ=>(g δ).map λd=>.bl (f d)
@[simp] def zs0(d:D):Option D:=match d with
 | .int i=>some (.int (-i))
 | _=>none
@[simp] def unG(f:D->Option D)(g:GE):GE:=fun δ=>(g δ).bind f
@[simp] def v8(G1 G2:GS):GS:=fun δ=>match G1 δ with
 | some (.nx δ')=>G2 δ'
 | r=>r
@[simp] def p7:GS:=fun δ=>some (.nx δ)
@[simp] def j7(g:GE):GS:=fun δ=>(g δ).map .rt
@[simp] def gN(i:Nat):D->Ds->Option Ds:=λd δ=>some (δ.set i (.sh d))
@[simp] def n6(f:D->Ds->Option Ds)(g:GE):GS:=fun δ=>(g δ).bind λd=>(f d δ).map .nx
@[simp] def ifD(gt:GB)(Ga Gb:GS):GS:=fun δ=>(gt δ).bind λt=>if t=true then Ga δ else Gb δ
def W2(f:D->Ds->Option Ds)(G:GS):List D->Ds->Option Res
 | [],δ=>some (.nx δ)
 | d::ds,δ=>match (f d δ).bind G with
  | some (.nx δ')=>W2 f G ds δ'
  | some (.ct δ')=>W2 f G ds δ'
  | some (.bk δ')=>some (.nx δ')
  | r=>r
@[simp] def T8(gi:GA)(f:D->Ds->Option Ds)(G:GS):GS:=fun δ=>(gi δ).bind λitems=>W2 f G items δ
@[simp] def ed0:D->Option (List D)
 | .lst ds=>some ds
 | _=>none
@[simp] def eh0:D->Option (List D)
 | .tup ds=>some ds
 | _=>none
@[simp] def yy0(g:GE):GA:=fun δ=>(g δ).bind ed0
@[simp] def tupI(g:GE):GA:=fun δ=>(g δ).bind eh0
def W4(lo hi:Int):List D:=(List.range (hi - lo).toNat).map λk=>.int (lo+(k:Nat))
@[simp] def ly0(ds:List D):Option (List D):=match ds with
 | [.int j]=>if -(2 ^ 62)<=j/\j<2 ^ 62 then some (W4 0 j) else none
 | _=>none
@[simp] def fy0(ds:List D):Option (List D):=match ds with
 | [.int i,.int j]=>if (-(2 ^ 62)<=i/\i<2 ^ 62)/\-(2 ^ 62)<=j/\j<2 ^ 62 then some (W4 i j) else none
 | _=>none
@[simp] def V9(gA:GA):GA:=fun δ=>(gA δ).bind ly0
@[simp] def k00(gA:GA):GA:=fun δ=>(gA δ).bind fy0
@[simp] def noT:GB:=λ_=>some true
@[simp] def p40:Option Sl->Sl
 | some (.sh d)=>.sh d
 | _=>.un
@[simp] def zu0(n:Nat)(caps:List Nat)(δ:Ds):Ds:=List.replicate n .un++caps.map λj=>p40 δ[j]?
def N7(f:D->Ds->Option Ds)(gt:GB)(ge:GE)(δ:Ds):List D->Option (List D)
 | []=>some []
 | d::ds=>match f d δ with
  | none=>none
  | some δ'=>match gt δ' with
   | none=>none
   | some false=>N7 f gt ge δ ds
   | some true=>match ge δ' with
    | none=>none
    | some y=>(N7 f gt ge δ ds).map λr=>y::r
@[simp] def R5(n:Nat)(caps:List Nat)(gi:GA)(f:D->Ds->Option Ds)(gt:GB)(ge:GE):GE :=
 fun δ=>(gi δ).bind λitems=>if items.length<=sizeLine then (N7 f gt ge (zu0 n caps δ) items).map .lst else none
@[simp] def W5(N:List Str)(ds:List D):Ds:=ds.map .sh++List.replicate (N.length - ds.length) .un
@[simp] def isInt:D->Bool
 | .int _=>true|.bl _=>true|_=>false
@[simp] def isBool:D->Bool
 | .bl _=>true|_=>false
@[simp] def isTup:D->Bool
 | .tup _=>true|_=>false
@[simp] def e50:D->Bool
 | .lst _=>true|_=>false
@[simp] def ii(f:Int->Int->Option D):D->D->Option D
 | .int i,.int j=>f i j
 | _,_=>none
@[simp] def gs0:D->D->Option D:=ii λi j=>some (.int (i - j))
@[simp] def Y4:D->D->Option D:=ii λi j=>if 0<j/\j<1073741824 then some (.int (i/j)) else none
@[simp] def d7:D->D->Option D:=ii λi j=>if 0<j then some (.int (i%j)) else none
@[simp] def m00:D->D->Option D:=ii λi j=>if 0<=j/\j<=1000000/\i.natAbs<2 ^ 64 then some (.int (i ^ j.toNat)) else none
@[simp] def ltD:D->D->Option D:=ii λi j=>some (.bl (decide (i<j)))
@[simp] def leD:D->D->Option D:=ii λi j=>some (.bl (decide (i<=j)))
@[simp] def gtD:D->D->Option D:=ii λi j=>some (.bl (decide (j<i)))
@[simp] def eqS:D->D->Option Bool
 | .non,.non=>some true
 | .non,.int _=>some false|.int _,.non=>some false|.non,.bl _=>some false|.bl _,.non=>some false|.non,.str _=>some false|.str _,.non=>some false
 | .int i,.int j=>some (decide (i=j))
 | .bl i,.bl j=>some (decide (i=j))
 | .str i,.str j=>some (decide (i=j))
 | .int _,.str _=>some false|.str _,.int _=>some false|.bl _,.str _=>some false|.str _,.bl _=>some false
 | _,_=>none
@[simp] def eqD(x y:D):Option D:=(eqS x y).map .bl
@[simp] def Yp0:D->Bool
 | .non=>true|_=>false
@[simp] def ot0(x y:D):Option D:=match y with
 | .non=>some (.bl (Yp0 x))
 | _=>none
def ixN(n:Nat)(i:Int):Option Nat:=if 0<=i then (if i<n then some i.toNat else none) else if -(n:Int)<=i then some (i+n).toNat else none
def atI{α:Type}(xs:List α)(i:Int):Option α:=(ixN xs.length i).bind λj=>xs[j]?
@[simp] def ixD:D->D->Option D
 | .lst xs,.int i=>atI xs i
 | .tup xs,.int i=>atI xs i
 | .str z,.int i=>if z.length<=sizeLine then (atI z.cps.toList i).map λc=>.str ⟨#[c]⟩ else none
 | _,_=>none
def sIx(n d:Nat):Option Int->Nat
 | none=>d
 | some v=>if v<0 then (v+(n:Int)).toNat else min v.toNat n
def cutD(xs:List D)(lo hi:Option Int):List D:=(xs.drop (sIx xs.length 0 lo)).take (sIx xs.length xs.length hi - sIx xs.length 0 lo)
abbrev GO:=Ds->Option (Option Int)
@[simp] def N8:GO:=λ_=>some none
@[simp] def someO(g:GE):GO:=fun δ=>(g δ).bind λd=>(asI d).map some
@[simp] def X4:List D->Option D
 | [.str z]=>if z.length<=sizeLine then some (.int z.length) else none
 | [.lst xs]=>some (.int xs.length)
 | [.tup xs]=>some (.int xs.length)
 | _=>none
def vn0:List D->Option (List Str)
 | []=>some []
 | .str b::ds=>(vn0 ds).map λr=>b::r
 | _=>none
@[simp] def pa0(d:D)(ds:List D):Option D:=match d,ds with
 | .str sep,[.lst xs]=>(vn0 xs).bind λys=>if (ys.map (·.length)).sum+ys.length*sep.length<=16777216 then some (.str (Txt.join sep ys)) else none
 | _,_=>none
@[simp] def ui0(g:GE)(gA:GA):GE:=fun δ=>(g δ).bind λd=>(gA δ).bind λds=>pa0 d ds
@[simp] def O1:List D->Option D
 | [.lst ds]=>some (.tup ds)
 | [.tup ds]=>some (.tup ds)
 | _=>none
theorem u10{f:D->Ds->Option Ds}{gt:GB}{ge:GE}(p:D->Bool)(h:D->D):∀{items:List D},(∀d∈items,∃δ',f d δ=some δ'/\gt δ'=some (p d)/\(p d=true->ge δ'=some (h d))) ->
  N7 f gt ge δ items=some ((items.filter p).map h)
 | [],_=>rfl
 | d::ds,H=>by
  obtain⟨δ',e1,e2,e3⟩:=H d A5;have ih:=u10 p h λd hd=>H d (C2 _ hd)
  unfold N7;rw[e1];dsimp only;rw[e2];cases hp:p d with
  | false =>
   dsimp only;rw[List.filter_cons_of_neg (by simp[hp])];exact ih
  | true =>
   dsimp only;rw[e3 hp,ih,List.filter_cons_of_pos hp];rfl
theorem J7{f:D->Ds->Option Ds}{gt:GB}{ge:GE}(h:D->D){items:List D}(H:∀d∈items,∃δ',f d δ=some δ'/\gt δ'=some true/\ge δ'=some (h d)):N7 f gt ge δ items=some (items.map h):=by
 have:=u10 (f:=f) (gt:=gt) (ge:=ge) (δ:=δ) (λ_=>true) h (items:=items) λd hd=>by
  obtain⟨δ',a,b,c⟩:=H d hd;exact⟨δ',a,b,λ_=>c⟩
 rw[List.filter_eq_self.mpr (by simp)] at this;exact this
theorem strs_map(h:α->Str):∀l:List α,vn0 (l.map λa=>.str (h a))=some (l.map h)
 | []=>rfl
 | a::l=>by
  show (vn0 (l.map λa=>.str (h a))).map (λr=>h a::r)=_;rw[strs_map h l];rfl
theorem O9{f:D->Ds->Option Ds}(P:Nat->Ds->Prop):∀(items:List D) (i:Nat) (δ:Ds),(∀j d δ,items[j]?=some d->P (i+j) δ->∃δ1 δ2,f d δ=some δ1/\G δ1=some (.nx δ2)/\P (i+j+1) δ2)->P i δ ->
  ∃δ',W2 f G items δ=some (.nx δ')/\P (i+items.length) δ'
 | [],i,δ,_,h=>⟨δ,rfl,h⟩
 | d::ds,i,δ,H,h=>by
  obtain⟨δ1,δ2,e1,e2,h2⟩:=H 0 d δ rfl h;obtain⟨δ',e3,h3⟩:=O9 P ds (i+1) δ2 (λj d δ hj hp=>by
   have q:i+(j+1)=i+1+j:=by omega
   obtain⟨a,b,c,d',e⟩:=H (j+1) d δ (by simpa using hj) (by rw[q];exact hp);exact⟨a,b,c,d',by rw[q] at e;exact e⟩) h2
  have q:i+(d::ds).length=i+1+ds.length:=by rw[List.length_cons];omega
  refine⟨δ',?_,by rw[q];exact h3⟩;unfold W2;rw[e1];simp only[Option.bind_some,e2];exact e3
theorem Zj0{G1 G2:GS}(h:G1 δ=some (.nx δ')):v8 G1 G2 δ=G2 δ':=by unfold v8;rw[h]
theorem o8{G1 G2:GS}{d:D}(h:G1 δ=some (.rt d)):v8 G1 G2 δ=some (.rt d):=by unfold v8;rw[h]
theorem Z1{g:GE}{d:D}(h:g δ=some d):j7 g δ=some (.rt d):=by unfold j7;rw[h];rfl
theorem j4{g:GE}{d:D}(h:g δ=some d):n6 (gN i) g δ=some (.nx (δ.set i (.sh d))):=by unfold n6;rw[h];rfl
theorem U8{g:GB}{Ga Gb:GS}(h:g δ=some true):ifD g Ga Gb δ=Ga δ:=by unfold ifD;rw[h];rfl
theorem Z0{g:GB}{Ga Gb:GS}(h:g δ=some false):ifD g Ga Gb δ=Gb δ:=by unfold ifD;rw[h];rfl
theorem O7{gi:GA}{f:D->Ds->Option Ds}{gt:GB}{ge:GE}{items out:List D}(h1:gi δ=some items)(h2:items.length<=sizeLine)(h3:N7 f gt ge (zu0 n caps δ) items=some out):R5 n caps gi f gt ge δ=some (.lst out):=by
 unfold R5;rw[h1];show (if items.length<=sizeLine then (N7 f gt ge (zu0 n caps δ) items).map D.lst else none)=_;rw[if_pos h2,h3];rfl
theorem T6{gi:GA}{f:D->Ds->Option Ds}{items:List D}{r:Option Res}(h1:gi δ=some items)(h2:W2 f G items δ=r):T8 gi f G δ=r:=by
 unfold T8;rw[h1];exact h2
theorem cons_of{g:GE}{gA:GA}{d:D}(h1:g δ=some d)(h2:gA δ=some ds):z9 g gA δ=some (d::ds):=by unfold z9;rw[h1,h2];rfl
theorem o9{gA:GA}{f:List D->Option D}(h:gA δ=some ds):oA gA f δ=f ds:=by unfold oA;rw[h];rfl
theorem o5{ga gb:GE}{x y:D}{f:D->D->Option D}(h1:ga δ=some x)(h2:gb δ=some y):o2 ga gb f δ=f x y:=by unfold o2;rw[h1,h2];rfl
theorem ck0{g:GE}{gA:GA}{x:D}(h1:g δ=some x)(h2:gA δ=some ds):ui0 g gA δ=pa0 x ds:=by unfold ui0;rw[h1,h2];rfl
theorem vb0{f:D->Ds->Option Ds}{d:D}{δ1 δ2:Ds}(h1:f d δ=some δ1)(h2:G δ1=some (.nx δ2)):W2 f G (d::ds) δ=W2 f G ds δ2:=by
 conv=>lhs;unfold W2
 rw[h1];simp only[Option.bind_some,h2]
theorem K1{xs:List α}{i:Int}(h0:0<=i)(h1:i<xs.length)(d:α):atI xs i=some (xs.getD i.toNat d):=by
 unfold atI ixN;rw[if_pos h0,if_pos h1];show xs[i.toNat]?=_;have:i.toNat<xs.length:=by omega
 simp[List.getD_eq_getElem?_getD,this]
end DL
variable{g ge gb:DL.Ds->Option DL.D}{l ds:List DL.D}{δ δ':DL.Ds}{G:DL.GS}{gi gA:DL.Ds->Option (List DL.D)}{gt:DL.Ds->Option Bool}{g0:DL.GE}
namespace DL
open Spec PyProof.Rows L2
abbrev BS:=Addr->Prop
abbrev St:=L2.St
variable{B B' B₀:DL.BS}
structure NB(o:Option HO):Prop where
 ne:o≠none
 nf:∀ob u,o=some (.frz ob u)->∃xs,u=.lst xs
 nt:∀xs,o≠some (.tup xs)
instance{o:Option HO}:CoeFun (NB o) (λ_=>o=none->False):=⟨λh e=>h.ne e⟩
theorem NB.of{o:Option HO}{u:HO}(h:o=some u)(n:∀ob u',u≠.frz ob u')(t:∀xs,u≠.tup xs):NB o:=by
 subst h;exact⟨λz=>(by cases z),λob u' z=>absurd (B4 z) (n ob u'),λxs z=>t xs (B4 z)⟩
theorem NB.keep(q:∀o,H a=some o->H' a=some o)(h:NB (H a)):NB (H' a):=by
 cases e:H a with
 | none=>exact absurd e h.ne
 | some o=>rw[q o e,← e];exact h
theorem NB.same(q:Same H H')(h:NB (H a)):NB (H' a):=h.keep λo e=>q a o e
def SqT'(K:W.Frag)(H:Hp)(B:BS)(a:Addr)(xs:List V):Prop:=¬B a/\H a=some (.tup xs)
def SqL'(K:W.Frag)(H:Hp)(B:BS)(a:Addr)(xs:List V):Prop:=(¬B a/\Rd H a (.lst xs))∨False
theorem SqT'.to(h:SqT' K H B a xs):SqT K H a xs:=.inl (.inl h.2)
theorem SqL'.at(h:SqL' K H B a xs):¬B a/\Rd H a (.lst xs):=h.elim id False.elim
theorem SqL'.to(h:SqL' K H B a xs):SqL K H a xs:=.inl h.at.2
def Gr(H H':Hp)(B B':BS):Prop:=∀b o,¬B b->H b=some o->¬B' b/\H' b=some o
theorem SqT'.mono(g:Gr H H' B B')(h:SqT' K H B a xs):SqT' K H' B' a xs:=g _ _ h.1 h.2
theorem SqL'.mono(g:Gr H H' B B')(h:SqL' K H B a xs):SqL' K H' B' a xs:=by
 obtain⟨n,h|⟨o,h⟩⟩:=h.at
 ·exact .inl ⟨(g _ _ n h).1,.inl (g _ _ n h).2⟩
 ·exact .inl ⟨(g _ _ n h).1,.inr ⟨o,(g _ _ n h).2⟩⟩
theorem Gr.same(s:Same H H'):Gr H H' B B:=λb o n h=>⟨n,s b o h⟩
theorem Gr.less(h:∀a,B' a->B a):Gr H H B B':=λb o n e=>⟨λz=>n (h b z),e⟩
abbrev KS:=Sum (List Key) (List (List Key))
def dOb:KS->List V->HO
 | .inl ks,xs=>.dK (ks.zip xs)
 | .inr ks,xs=>.dT (ks.zip xs)
def dLn:KS->Nat
 | .inl ks=>ks.length
 | .inr ks=>ks.length
def X60(fd:FuncData)(x y:Str)(c cd:Addr):Prop :=
 ∃p1 p2 p3,fd.body=.expr (.Subscript (.Name x p1) (.Name y p2) p3)/\fd.scope.isCoroutine=false/\fd.scope.isGenerator=false/\fd.scope.kind=.function/\fd.scope.names.lookup y=some .local/\fd.scope.names.lookup x=some .free /\
  (∀z∈fd.scope.names,z.2≠.cell)/\fd.closure=[(x,c)]/\fd.code=.ref cd/\fd.globals=mainGlobals/\(x==("__debug__" : Str))=false/\(x==("__classdict__" : Str))=false/\(y==("__debug__" : Str))=false /\
  ∀u:Value,bindArgs fd ⟨[u],[]⟩=pure [(y,u)]
def rk(n:Nat):List Key:=(List.range n).map λ(i:Nat)=>Sum.inl (i:Int)
def TelO(K:W.Frag)(H:Hp)(B:BS)(p:Addr)(kvs:List (Key×V)):Prop:=(¬B p/\H p=some (.dK kvs))∨∃xs,SqL' K H B p xs/\kvs=(rk xs.length).zip xs
theorem TelO.mono{p:Addr}{kvs:List (Key×V)}(g:Gr H H' B B')(h:TelO K H B p kvs):TelO K H' B' p kvs:=by
 rcases h with h|⟨xs,h,e⟩
 ·exact .inl (g _ _ h.1 h.2)
 ·exact .inr ⟨xs,h.mono g,e⟩
def FnAtH(K:W.Frag)(H:Hp)(B:BS)(f:Addr)(kvs:List (Key×V)):Prop :=
 ∃(oF oC oK:Obj) (fd:FuncData) (c cd p:Addr) (x y:Str),(¬B f/\H f=some (.frz oF (.own f)))/\(oF.cls=.type "function"/\oF.data=.func fd/\X60 fd x y c cd)/\(¬B c/\H c=some (.frz oC (.own c)))/\oC.data=.cell (some (.ref p)) /\
  (¬B cd/\H cd=some (.frz oK (.own cd)))/\(∃vs t,oK.data=.fields vs/\vs[1]?=some (.str fd.qualname t))/\TelO K H B p kvs
theorem FnAtH.mono{f:Addr}{kvs:List (Key×V)}(g:Gr H H' B B')(h:FnAtH K H B f kvs):FnAtH K H' B' f kvs:=by
 obtain⟨oF,oC,oK,fd,c,cd,p,x,y,⟨b1,h1⟩,a,⟨b2,h2⟩,e,⟨b3,h3⟩,q,h4⟩:=h;exact⟨oF,oC,oK,fd,c,cd,p,x,y,g _ _ b1 h1,a,g _ _ b2 h2,e,g _ _ b3 h3,q,h4.mono g⟩
mutual
def Rp(K:W.Frag)(H:Hp)(B:BS):D->V->Prop
 | .non,v=>v=.non
 | .bl b,v=>v=.bl b
 | .int i,v=>v=.int i
 | .str x,v=>v=.str x
 | .tup ds,v=>∃a xs,v=.ref a/\SqT' K H B a xs/\Rps K H B ds xs
 | .lst ds,v=>∃a xs,v=.ref a/\SqL' K H B a xs/\Rps K H B ds xs
 | .dct ks ds,v=>∃a xs,v=.ref a/\¬B a/\H a=some (dOb ks xs)/\dLn ks=xs.length/\Rps K H B ds xs
 | .fn ks ds,v=>∃a xs,v=.ref a/\FnAtH K H B a (ks.zip xs)/\ks.length=xs.length/\Rps K H B ds xs
def Rps(K:W.Frag)(H:Hp)(B:BS):List D->List V->Prop
 | [],xs=>xs=[]
 | d::ds,xs=>∃x r,xs=x::r/\Rp K H B d x/\Rps K H B ds r
end
mutual
theorem Rp.mono(g:Gr H H' B B'):∀{d:D} {v:V},Rp K H B d v->Rp K H' B' d v
 | .non,_,h=>by unfold Rp at h ⊢;exact h
 | .bl _,_,h=>by unfold Rp at h ⊢;exact h
 | .int _,_,h=>by unfold Rp at h ⊢;exact h
 | .str _,_,h=>by unfold Rp at h ⊢;exact h
 | .tup ds,_,h=>by
  unfold Rp at h ⊢;obtain⟨a,xs,e,q,r⟩:=h;exact⟨a,xs,e,q.mono g,Rps.mono g r⟩
 | .lst ds,_,h=>by
  unfold Rp at h ⊢;obtain⟨a,xs,e,q,r⟩:=h;exact⟨a,xs,e,q.mono g,Rps.mono g r⟩
 | .dct ks ds,_,h=>by
  unfold Rp at h ⊢;obtain⟨a,xs,e,n,q,l,r⟩:=h;exact⟨a,xs,e,(g _ _ n q).1,(g _ _ n q).2,l,Rps.mono g r⟩
 | .fn ks ds,_,h=>by
  unfold Rp at h ⊢;obtain⟨a,xs,e,q,l,r⟩:=h;exact⟨a,xs,e,q.mono g,l,Rps.mono g r⟩
theorem Rps.mono(g:Gr H H' B B'):∀{ds:List D} {xs:List V},Rps K H B ds xs->Rps K H' B' ds xs
 | [],_,h=>by unfold Rps at h ⊢;exact h
 | d::ds,_,h=>by
  unfold Rps at h ⊢;obtain⟨x,r,e,h1,h2⟩:=h;exact⟨x,r,e,Rp.mono g h1,Rps.mono g h2⟩
end
section
variable{v:V}
theorem S9:Rp K H B .non v=(v=.non):=by unfold Rp;rfl
theorem X8{b:Bool}:Rp K H B (.bl b) v=(v=.bl b):=by unfold Rp;rfl
theorem m8{i:Int}:Rp K H B (.int i) v=(v=.int i):=by unfold Rp;rfl
theorem Y5:Rp K H B (.str x) v=(v=.str x):=by unfold Rp;rfl
theorem X3:Rp K H B (.tup ds) v=∃a xs,v=.ref a/\SqT' K H B a xs/\Rps K H B ds xs:=by conv=>lhs;unfold Rp
theorem X7:Rp K H B (.lst ds) v=∃a xs,v=.ref a/\SqL' K H B a xs/\Rps K H B ds xs:=by conv=>lhs;unfold Rp
theorem xj0{ks:KS}:Rp K H B (.dct ks ds) v=∃a xs,v=.ref a/\¬B a/\H a=some (dOb ks xs)/\dLn ks=xs.length/\Rps K H B ds xs:=by conv=>lhs;unfold Rp
theorem lu0:Rp K H B (.fn ks ds) v=∃a xs,v=.ref a/\FnAtH K H B a (ks.zip xs)/\ks.length=xs.length/\Rps K H B ds xs:=by conv=>lhs;unfold Rp
theorem jn0:Rp K H B (.dct (.inl ks) ds) v=∃a xs,v=.ref a/\¬B a/\H a=some (.dK (ks.zip xs))/\ks.length=xs.length/\Rps K H B ds xs:=xj0
theorem uy0{ks:List (List Key)}:Rp K H B (.dct (.inr ks) ds) v=∃a xs,v=.ref a/\¬B a/\H a=some (.dT (ks.zip xs))/\ks.length=xs.length/\Rps K H B ds xs:=xj0
theorem m9:Rps K H B [] xs=(xs=[]):=by unfold Rps;rfl
theorem o7{d:D}:Rps K H B (d::ds) xs=∃x r,xs=x::r/\Rp K H B d x/\Rps K H B ds r:=by conv=>lhs;unfold Rps
theorem Rps.length:∀{ds:List D} {xs:List V},Rps K H B ds xs->xs.length=ds.length
 | [],_,h=>by rw[m9] at h;subst h;rfl
 | d::ds,_,h=>by
  rw[o7] at h;obtain⟨x,r,rfl,_,h2⟩:=h;simp[Rps.length h2]
theorem Rps.get:∀{ds:List D} {xs:List V} {i:Nat} {d:D},Rps K H B ds xs->ds[i]?=some d->∃x,xs[i]?=some x/\Rp K H B d x
 | [],_,_,_,_,e=>by simp at e
 | d::ds,_,0,d',h,e=>by
  rw[o7] at h;obtain⟨x,r,rfl,h1,_⟩:=h;simp at e;subst e;exact⟨x,rfl,h1⟩
 | d::ds,_,i+1,d',h,e=>by
  rw[o7] at h;obtain⟨x,r,rfl,_,h2⟩:=h;obtain⟨y,e1,e2⟩:=Rps.get (i:=i) h2 (by simpa using e);exact⟨y,by simpa using e1,e2⟩
theorem Rps.snoc:∀{ds:List D} {xs:List V} {d:D} {x:V},Rps K H B ds xs->Rp K H B d x->Rps K H B (ds++[d]) (xs++[x])
 | [],_,_,_,h,r=>by
  rw[m9] at h;subst h;rw[List.nil_append,List.nil_append,o7];exact⟨_,[],rfl,r,by rw[m9]⟩
 | d::ds,_,_,_,h,r=>by
  rw[o7] at h;obtain⟨y,t,rfl,h1,h2⟩:=h;rw[List.cons_append,List.cons_append,o7];exact⟨y,_,rfl,h1,Rps.snoc h2 r⟩
theorem Rps.append:∀{ds es:List D} {xs ys:List V},Rps K H B ds xs->Rps K H B es ys->Rps K H B (ds++es) (xs++ys)
 | [],_,_,_,h,r=>by rw[m9] at h;subst h;exact r
 | d::ds,_,_,_,h,r=>by
  rw[o7] at h;obtain⟨y,t,rfl,h1,h2⟩:=h;rw[List.cons_append,List.cons_append,o7];exact⟨y,_,rfl,h1,Rps.append h2 r⟩
theorem Rps.drop:∀{ds:List D} {xs:List V} (n:Nat),Rps K H B ds xs->Rps K H B (ds.drop n) (xs.drop n)
 | _,_,0,h=>h
 | [],_,n+1,h=>by rw[m9] at h;subst h;simpa [m9]
 | d::ds,_,n+1,h=>by
  rw[o7] at h;obtain⟨y,t,rfl,h1,h2⟩:=h
  simpa using Rps.drop n h2
theorem Rps.take:∀{ds:List D} {xs:List V} (n:Nat),Rps K H B ds xs->Rps K H B (ds.take n) (xs.take n)
 | _,_,0,h=>by simp[m9]
 | [],_,n+1,h=>by rw[m9] at h;subst h;simp[m9]
 | d::ds,_,n+1,h=>by
  rw[o7] at h;obtain⟨y,t,rfl,h1,h2⟩:=h;rw[List.take_succ_cons,List.take_succ_cons,o7];exact⟨y,_,rfl,h1,Rps.take n h2⟩
theorem Rps.same(s:Same H H')(h:Rps K H B ds xs):Rps K H' B ds xs:=Rps.mono (Gr.same s) h
theorem Rp.same{d:D}{v:V}(s:Same H H')(h:Rp K H B d v):Rp K H' B d v:=Rp.mono (Gr.same s) h
end
def RpO(K:W.Frag)(H:Hp)(B:BS)(d:D)(a:Addr):Prop:=match d with
 | .lst ds=>∃xs,H a=some (.lst xs)/\Rps K H B ds xs
 | .dct ks ds=>∃xs,H a=some (dOb ks xs)/\dLn ks=xs.length/\Rps K H B ds xs
 | _=>False
theorem RpO.same{d:D}(s:Same H H')(h:RpO K H B d a):RpO K H' B d a:=by
 cases d<;>try exact h.elim
 ·obtain⟨xs,e,r⟩:=h;exact⟨xs,s _ _ e,r.same s⟩
 ·obtain⟨xs,e,l,r⟩:=h;exact⟨xs,s _ _ e,l,r.same s⟩
theorem RpO.rp{d:D}(l:∀a,B' a->B a)(n:¬B' a)(h:RpO K H B d a):Rp K H B' d (.ref a):=by
 cases d<;>try exact h.elim
 ·obtain⟨xs,e,r⟩:=h
  rw[X7];exact⟨a,xs,rfl,.inl ⟨n,.inl e⟩,r.mono (Gr.less l)⟩
 ·obtain⟨xs,e,q,r⟩:=h
  rw[xj0];exact⟨a,xs,rfl,n,e,q,r.mono (Gr.less l)⟩
theorem RpO.live{d:D}(h:RpO K H B d a):NB (H a):=by
 cases d<;>try exact h.elim
 ·obtain⟨xs,e,r⟩:=h;exact .of e (λ_ _=>λz=>nomatch z) λ_=>λz=>nomatch z
 ·obtain⟨xs,e,q,r⟩:=h;refine .of e (λ_ _ z=>?_) λ_ z=>?_<;>(unfold dOb at z;split at z<;>cases z)
def RpL(K:W.Frag)(H:Hp)(B:BS)(d:D)(a:Addr):Prop:=match d with
 | .tup es=>∃ds,es=[.int (a:Int),.lst ds]/\∃xs,H a=some (.lst xs)/\Rps K H B ds xs
 | d=>RpO K H B d a
theorem RpO.toL{d:D}(h:RpO K H B d a):RpL K H B d a:=by
 cases d with
 | tup es=>exact(show False from h).elim
 | _=>exact h
theorem RpL.toO{d:D}(n:isL d=false)(h:RpL K H B d a):RpO K H B d a:=by
 cases d with
 | tup es=>cases n
 | _=>exact h
theorem RpL.same{d:D}(s:Same H H')(h:RpL K H B d a):RpL K H' B d a:=by
 cases d with
 | tup es=>obtain⟨ds,q,xs,e,r⟩:=h;exact⟨ds,q,xs,s _ _ e,r.same s⟩
 | _=>exact(RpO.same s (RpL.toO rfl h)).toL
theorem RpL.rp{d:D}(l:∀a,B' a->B a)(n:¬B' a)(h:RpL K H B d a):Rp K H B' (unl d) (.ref a):=by
 cases d with
 | tup es=>obtain⟨ds,rfl,xs,e,r⟩:=h;exact RpO.rp (d:=.lst ds) l n ⟨xs,e,r⟩
 | _=>exact RpO.rp l n (RpL.toO rfl h)
theorem RpL.live{d:D}(h:RpL K H B d a):NB (H a):=by
 cases d with
 | tup es=>obtain⟨ds,q,xs,e,r⟩:=h;exact .of e (λ_ _=>λz=>nomatch z) λ_=>λz=>nomatch z
 | _=>exact RpO.live (RpL.toO rfl h)
theorem RpL.plain{d:D}(h:RpL K H B d a):∀o xs,H a≠some (.frz o (.lst xs)):=by
 intro o ys z;cases d with
 | tup es=>obtain⟨ds,q,xs,e,r⟩:=h;rw[e] at z;cases z
 | lst ds=>obtain⟨xs,e,r⟩:=(RpL.toO rfl h);rw[e] at z;cases z
 | dct ks ds =>
  obtain⟨xs,e,r⟩:=(RpL.toO rfl h);rw[e] at z;unfold dOb at z;split at z<;>cases z
 | _=>exact(RpL.toO rfl h).elim
def Xz0(a C:Addr)(od:Option Addr):Heap->Prop:=λh=>∃oe,h.get? a=some oe/\oe.cls=.ref C/\(∀dx,od=some dx->oe.dict=some dx)/\∃vs,oe.data=.fields vs
def Xu0(H:Hp)(B:BS)(od:Option Addr):Option Int->Prop
 | none=>True
 | some n=>∃dx,od=some dx/\¬B dx/\H dx=some (.xd [("at",.int n)])
def XcR(K:W.Frag)(H:Hp)(B:BS)(c:Str)(n:Option Int)(a:Addr):Prop:=∃C od,¬B a/\H a=some (.ext (Xz0 a C od))/\W.nsIn K mainGlobals c=some (some (.ref C))/\Xu0 H B od n
theorem XcR.mono{c:Str}{n:Option Int}(g:Gr H H' B B')(h:XcR K H B c n a):XcR K H' B' c n a:=by
 obtain⟨C,od,h1,h2,h3,h4⟩:=h;refine⟨C,od,(g _ _ h1 h2).1,(g _ _ h1 h2).2,h3,?_⟩;cases n with
 | none=>trivial
 | some n=>obtain⟨dx,e,q1,q2⟩:=h4;exact⟨dx,e,(g _ _ q1 q2).1,(g _ _ q1 q2).2⟩
def SlR(K:W.Frag)(H:Hp)(B:BS)(o:Option V):Sl->Prop
 | .un=>True
 | .sh d=>∃v,o=some v/\Rp K H B d v
 | .ow d=>∃a,o=some (.ref a)/\B a/\RpL K H B d a
 | .ex c n=>∃a,o=some (.ref a)/\XcR K H B c n a
theorem Pd.get{F:α->β->Prop}:∀{l:List α} {m:List β} {i:Nat} {b:β},Paired F l m->m[i]?=some b->∃a,l[i]?=some a/\F a b
 | _,_,_,_,.nil,e=>by simp at e
 | _,_,0,_,.cons r _,e=>by simp at e;subst e;exact⟨_,rfl,r⟩
 | _,_,i+1,b,.cons _ t,e=>by
  obtain⟨u,h1,h2⟩:=Pd.get (i:=i) (b:=b) t (by simpa using e);exact⟨u,by simpa using h1,h2⟩
theorem Pd.imp{F G:α->β->Prop}(h:∀a b,F a b->G a b):∀{l:List α} {m:List β},Paired F l m->Paired G l m
 | _,_,.nil=>.nil
 | _,_,.cons r t=>.cons (h _ _ r) (Pd.imp h t)
theorem Pd.set{F:α->β->Prop}{a:α}{b:β}(r:F a b):∀{l:List α} {m:List β} (i:Nat),Paired F l m->Paired F (l.set i a) (m.set i b)
 | _,_,_,.nil=>.nil
 | _,_,0,.cons _ t=>.cons r t
 | _,_,i+1,.cons q t=>.cons q (Pd.set r i t)
theorem Pd.app{F:α->β->Prop}:∀{l l':List α} {m m':List β},Paired F l m->Paired F l' m'->Paired F (l++l') (m++m')
 | _,_,_,_,.nil,s=>s
 | _,_,_,_,.cons r t,s=>.cons r (Pd.app t s)
structure Env(K:W.Frag)(H:Hp)(B:BS)(σ:St)(δ:Ds):Prop where
 all:Paired (SlR K H B) σ δ
 bad:∀a,B a->NB (H a)
 own:∀(i j:Nat) (a:Addr) (ds es:D),δ[i]?=some (.ow ds)->δ[j]?=some (.ow es)->σ[i]?=some (some (.ref a))->σ[j]?=some (some (.ref a))->i=j
section
variable{σ σ':St}
theorem SlR.same{o:Option V}{s:Sl}(q:Same H H')(h:SlR K H B o s):SlR K H' B o s:=by
 cases s with
 | un=>trivial
 | sh d=>obtain⟨v,e,r⟩:=h;exact⟨v,e,r.same q⟩
 | ow d=>obtain⟨a,e,b,r⟩:=h;exact⟨a,e,b,r.same q⟩
 | ex c n=>obtain⟨a,e,r⟩:=h;exact⟨a,e,r.mono (Gr.same q)⟩
theorem Env.same(q:Same H H')(e:Env K H B σ δ):Env K H' B σ δ :=
 ⟨Pd.imp (λ_ _ h=>h.same q) e.all,(λa b=>(e.bad a b).same q),e.own⟩
theorem Env.free(e:Env K H B σ δ){p:Addr}(h:H p=none):¬B p:=λz=>e.bad p z h
theorem Env.get(e:Env K H B σ δ){d:D}(h:δ[i]?=some (.sh d)):∃v,σ[i]?=some (some v)/\Rp K H B d v:=by
 obtain⟨o,h1,v,rfl,r⟩:=Pd.get e.all h;exact⟨v,h1,r⟩
theorem Env.set(e:Env K H B σ δ)(i:Nat){d:D}{v:V}(r:Rp K H B d v):Env K H B (σ.set i (some v)) (δ.set i (.sh d)):=by
 refine⟨Pd.set ⟨v,rfl,r⟩ i e.all,e.bad,λj k a ds es h1 h2 h3 h4=>?_⟩;have hj:j≠i:=by
  rintro rfl
  by_cases hl:j<δ.length
  ·rw[List.getElem?_set_self hl] at h1;cases h1
  ·rw[List.getElem?_eq_none (by simpa using hl)] at h1;cases h1
 have hk:k≠i:=by
  rintro rfl
  by_cases hl:k<δ.length
  ·rw[List.getElem?_set_self hl] at h2;cases h2
  ·rw[List.getElem?_eq_none (by simpa using hl)] at h2;cases h2
 rw[List.getElem?_set_ne (C1 hj)] at h1 h3;rw[List.getElem?_set_ne (C1 hk)] at h2 h4;exact e.own j k a ds es h1 h2 h3 h4
end
theorem Y7{p:Addr}{o:HO}(h:H p=none)(hz:∀ob xs,o≠.frz ob (.lst xs):=by intro _ _ z;cases z):Same H (upd H p o):=⟨λb u e=>by rw[Z2 (S6 e h)];exact e,λb ob xs e=>by
 by_cases z:b=p
 ·subst z
  rw[Z4] at e;exact absurd (B4 e) (hz ob xs)
 ·rw[Z2 z] at e;exact e⟩
def tD(K:W.Frag)(B:BS)(δ:Ds)(g:Ds->Option D):TE:=fun σ H Q=>∃d,Env K H B σ δ/\g δ=some d/\∀v H',Same H H'->Rp K H' B d v->Q v H'
structure PD(X:Cx)(e:Expr)(g:Ds->Option D):Prop where
 mk::go:∀B δ,PE X e (tD X.K B δ g)
instance{X:Cx}{e:Expr}{g:Ds->Option D}:CoeFun (PD X e g) (λ_=>∀B δ,PE X e (tD X.K B δ g)):=⟨PD.go⟩
def tDT(K:W.Frag)(B:BS)(δ:Ds)(g:Ds->Option Bool):TT:=fun σ H Q=>∃b,Env K H B σ δ/\g δ=some b/\∀H',Same H H'->Q b H'
structure PTD(X:Cx)(e:Expr)(g:Ds->Option Bool):Prop where
 mk::go:∀B δ,PT X e (tDT X.K B δ g)
instance{X:Cx}{e:Expr}{g:Ds->Option Bool}:CoeFun (PTD X e g) (λ_=>∀B δ,PT X e (tDT X.K B δ g)):=⟨PTD.go⟩
structure PWD(X:Cx)(e:Expr)(g:Ds->Option Bool):Prop where
 mk::go:∀B δ,PW X e (tDT X.K B δ g)
instance{X:Cx}{e:Expr}{g:Ds->Option Bool}:CoeFun (PWD X e g) (λ_=>∀B δ,PW X e (tDT X.K B δ g)):=⟨PWD.go⟩
def tDA(K:W.Frag)(B:BS)(δ:Ds)(g:Ds->Option (List D)):TA:=fun σ H Q=>∃ds,Env K H B σ δ/\g δ=some ds/\∀vs H',Same H H'->Rps K H' B ds vs->Q vs H'
structure PDA(X:Cx)(es:List Expr)(g:Ds->Option (List D)):Prop where
 mk::go:∀B δ,PA X es (tDA X.K B δ g)
instance{X:Cx}{es:List Expr}{g:Ds->Option (List D)}:CoeFun (PDA X es g) (λ_=>∀B δ,PA X es (tDA X.K B δ g)):=⟨PDA.go⟩
theorem s00{d:D}{b:Bool}(h:asB d=some b):d=.bl b:=by
 cases d<;>simp[asB] at h
 subst h;rfl
def Op2(K:W.Frag)(r:R2)(f:D->D->Option D):Prop:=∀(H:Hp) (B:BS) (x y:V) (dx dy d:D) (Q:VK),(∀a,B a->NB (H a))->Rp K H B dx x->Rp K H B dy y->f dx dy=some d->(∀v H',Same H H'->Rp K H' B d v->Q v H')->r x y H Q
def FnR(K:W.Frag)(r:List V->Hp->VK->Prop)(f:List D->Option D):Prop:=∀(H:Hp) (B:BS) (xs:List V) (ds:List D) (d:D) (Q:VK),(∀a,B a->NB (H a))->Rps K H B ds xs->f ds=some d->(∀v H',Same H H'->Rp K H' B d v->Q v H')->r xs H Q
section
variable{a:Expr}{ga:Ds->Option D}{gu:Ds->Option Bool}{rest:List Expr}
theorem _root_.L2.PE.imp{t t':TE}(h:PE X e t)(q:∀σ H Q,t' σ H Q->t σ H Q):PE X e t':=λpins s σ H Q I z=>h pins s σ H Q I (q σ H Q z)
theorem _root_.L2.PT.imp{t t':TT}(h:PT X e t)(q:∀σ H Q,t' σ H Q->t σ H Q):PT X e t':=λpins s σ H Q I z=>h pins s σ H Q I (q σ H Q z)
theorem _root_.L2.PW.imp{t t':TT}(h:PW X e t)(q:∀σ H Q,t' σ H Q->t σ H Q):PW X e t':=λw pins s σ H Q I z=>h w pins s σ H Q I (q σ H Q z)
theorem _root_.L2.PA.imp{t t':TA}(h:PA X es t)(q:∀σ H Q,t' σ H Q->t σ H Q):PA X es t':=λp pins s σ H Q I z=>h p pins s σ H Q I (q σ H Q z)
theorem si0{d:D}(h:gv i δ=some d):δ[i]?=some (.sh d):=by
 unfold gv at h;split at h
 ·cases h;assumption
 ·cases h
theorem w6(i:Nat)(hN:X.N[i]?=some x:=by rfl)(hv:Vis X.env.scope x:=by first|exact Or.inl rfl|exact Or.inr (Or.inl rfl)|exact Or.inr (Or.inr rfl))(hd:(x==("__debug__" : Str))=false:=by decide)
  (hcd:(x==("__classdict__" : Str))=false:=by decide):PD X (.Name x pos) (gv i):=.mk λB δ=>(ys0 (i:=i) hN hv hd hcd).imp fun σ H Q ⟨d,en,h,k⟩=>by
 obtain⟨v,e,r⟩:=en.get (si0 h);exact⟨v,e,k v H (Same.refl H) r⟩
theorem p6{i:Int}:PD X (.Constant (.int i) j pos) (gc (.int i)):=.mk λB δ=>Z50.imp fun σ H Q ⟨d,en,h,k⟩=>by cases h;exact k _ H (Same.refl H) (by rw[m8])
theorem w80{i:Bool}:PD X (.Constant (.bool i) j pos) (gc (.bl i)):=.mk λB δ=>Ym0.imp fun σ H Q ⟨d,en,h,k⟩=>by cases h;exact k _ H (Same.refl H) (by rw[X8])
theorem K3:PD X (.Constant .none j pos) (gc .non):=.mk λB δ=>am0.imp fun σ H Q ⟨d,en,h,k⟩=>by cases h;exact k _ H (Same.refl H) (by rw[S9])
theorem Z8:PD X (.Constant (.str x) j pos) (gc (.str x)):=.mk λB δ=>Zd0.imp fun σ H Q ⟨d,en,h,k⟩=>by cases h;exact k _ H (Same.refl H) (by rw[Y5])
theorem ty0{r:R2}{f:D->D->Option D}(hf:Op2 K r f){σ:St}{Q:VK}(h:tD K B δ (o2 ga gb f) σ H Q):tOp r (tD K B δ ga) (tD K B δ gb) σ H Q:=by
 obtain⟨d,en,h,k⟩:=h;unfold o2 at h;cases e1:ga δ with
 | none=>rw[e1] at h;cases h
 | some x =>
  cases e2:gb δ with
  | none=>rw[e1,e2] at h;cases h
  | some y =>
   rw[e1,e2] at h;refine⟨x,en,e1,λv1 H1 s1 r1=>⟨y,en.same s1,e2,λv2 H2 s2 r2=>?_⟩⟩;exact hf H2 B v1 v2 x y d Q ((en.same s1).same s2).bad (r1.same s2) r2 h λv H' s r=>k v H' ((s1.trans s2).trans s) r
theorem v30{op:Operator}{r:R2}{f:D->D->Option D}(ho:OpR X (binaryOp op) r)(hf:Op2 X.K r f)(ha:PD X a ga)(hb:PD X b gb):PD X (.BinOp a op b pos) (o2 ga gb f):=.mk λB δ=>(Yf0 ho (ha B δ) (hb B δ)).imp fun σ H Q h=>ty0 hf h
theorem yh0{op:CmpOp}{r:R2}{f:D->D->Option D}(ho:OpR X (compareOp op) r)(hf:Op2 X.K r f)(ha:PD X a ga)(hb:PD X b gb)(hm:behindInMarks op b=false:=by first|exact ju0 _|with_unfolding_all rfl):PD X (.Compare a [op] [b] pos) (o2 ga gb f) :=
 .mk λB δ=>(ez0 ho (ha B δ) (hb B δ) hm).imp fun σ H Q h=>ty0 hf h
theorem Xk0{r:R2}{f:D->D->Option D}(ho:IxR X r)(hf:Op2 X.K r f)(ha:PD X a ga)(hb:PD X b gb)(hs:ro0 b:=by exact λ_ _=>rfl):PD X (.Subscript a b pos) (o2 ga gb f) :=
 .mk λB δ=>(X00 ho (ha B δ) (hb B δ) hs).imp fun σ H Q h=>ty0 hf h
theorem b7{op:CmpOp}{r:R2}{f:D->D->Option D}(ho:OpR X (compareOp op) r)(hf:Op2 X.K r f)(ha:PD X a ga)(hb:PD X b gb)(hm:behindInMarks op b=false:=by first|exact ju0 _|with_unfolding_all rfl):PTD X (.Compare a [op] [b] pos) (ob (o2 ga gb f)) :=
 .mk λB δ=>(dm0 ho (ha B δ) (hb B δ) hm).imp fun σ H Q ⟨t,en,h,k⟩=>by
  unfold ob at h;cases e:o2 ga gb f δ with
  | none=>rw[e] at h;cases h
  | some d =>
   rw[e] at h;cases s00 h;exact ty0 hf ⟨_,en,e,λv H' s r=>⟨t,by rw[X8] at r;exact r,k H' s⟩⟩
theorem S7(h:PD X e g)(he:∀whole,isTrue e X.env whole=(do let v ← whole;standAt e.pos;holding [v] (truthy v)):=by intro _;rfl):PTD X e (ob g) :=
 .mk λB δ=>(aw0 (h B δ) he).imp fun σ H Q ⟨t,en,h,k⟩=>by
  unfold ob at h;cases e:g δ with
  | none=>rw[e] at h;cases h
  | some d =>
   rw[e] at h;cases s00 h;exact⟨_,en,e,λv H' s r=>⟨t,by rw[X8] at r;exact r,k H' s⟩⟩
theorem xg0(h:PTD X a gt):PTD X (.UnaryOp .Not a pos) (J0 gt) :=
 .mk λB δ=>(Ze0 (h B δ)).imp fun σ H Q ⟨t,en,h,k⟩=>by
  unfold J0 at h;cases e:gt δ with
  | none=>rw[e] at h;cases h
  | some b =>
   rw[e] at h;cases h;exact⟨b,en,e,λH' s=>k H' s⟩
theorem tp0(h:PTD X a gt):PWD X (.BoolOp .And [a] pos) gt:=.mk λB δ=>dj0 (h B δ)
theorem um0(h:PTD X a gt):PWD X (.BoolOp .Or [a] pos) gt:=.mk λB δ=>bg0 (h B δ)
theorem sp0(ha:PTD X a gt)(hb:PWD X (.BoolOp .And (b::rest) pos) gu):PWD X (.BoolOp .And (a::b::rest) pos) (G5 gt gu) :=
 .mk λB δ=>(Zw0 (ha B δ) (hb B δ)).imp fun σ H Q ⟨t,en,h,k⟩=>by
  unfold G5 at h;cases e:gt δ with
  | none=>rw[e] at h;cases h
  | some b =>
   rw[e] at h;refine⟨b,en,e,λH' s=>?_⟩;cases b with
   | true=>exact⟨t,en.same s,h,λJ s'=>k J (s.trans s')⟩
   | false =>
    simp at h;subst h;rw[if_neg C7];exact k H' s
theorem sk0(ha:PTD X a gt)(hb:PWD X (.BoolOp .Or (b::rest) pos) gu):PWD X (.BoolOp .Or (a::b::rest) pos) (we0 gt gu) :=
 .mk λB δ=>(Xi0 (ha B δ) (hb B δ)).imp fun σ H Q ⟨t,en,h,k⟩=>by
  unfold we0 at h;cases e:gt δ with
  | none=>rw[e] at h;cases h
  | some b =>
   rw[e] at h;refine⟨b,en,e,λH' s=>?_⟩;cases b with
   | false=>exact⟨t,en.same s,h,λJ s'=>k J (s.trans s')⟩
   | true =>
    simp at h;subst h;rw[if_pos rfl];exact k H' s
theorem PWD.pt(h:PWD X e gt):PTD X e gt:=.mk λB δ=>(h B δ).pt
theorem nn0{op}(h:PD X a g):PD X (.BoolOp op [a] pos) g:=.mk λB δ=>bc0 (h B δ)
theorem om0(ha:PD X a ga)(hb:PD X (.BoolOp .And (b::rest) pos) gb):PD X (.BoolOp .And (a::b::rest) pos) (v00 ga gb) :=
 .mk λB δ=>(af0 (ha B δ) (hb B δ)).imp fun σ H Q ⟨d,en,h,k⟩=>by
  unfold v00 ob at h;cases e:ga δ with
  | none=>rw[e] at h;cases h
  | some x =>
   rw[e] at h;refine⟨x,en,e,λv H' s r=>?_⟩;cases x with
   | bl c =>
    rw[X8] at r;refine⟨c,r,?_⟩;cases c with
    | true=>exact⟨d,en.same s,h,λv J s'=>k v J (s.trans s')⟩
    | false =>
     simp[asB] at h;rw[if_neg C7];exact k _ H' s (by rw[← h,X8])
   | _=>simp[asB] at h
theorem u0:PDA X [] v7:=.mk λB δ=>wm0.imp fun σ H Q ⟨ds,en,h,k⟩=>by cases h;exact k [] H (Same.refl H) (by rw[m9])
theorem v5(ha:PD X e g)(hr:PDA X es gA)(hs:starEach (e::es) X.env=(false,eval e X.env)::starEach es X.env:=by rfl):PDA X (e::es) (z9 g gA) :=
 .mk λB δ=>(zn0 (ha B δ) (hr B δ) hs).imp fun σ H Q ⟨ds,en,h,k⟩=>by
  unfold z9 at h;cases e1:g δ with
  | none=>rw[e1] at h;cases h
  | some d =>
   cases e2:gA δ with
   | none=>rw[e1,e2] at h;cases h
   | some es' =>
    rw[e1,e2] at h;cases h;refine⟨d,en,e1,λv H1 s1 r1=>⟨es',en.same s1,e2,λvs H2 s2 r2=>k _ H2 (s1.trans s2) ?_⟩⟩;rw[o7];exact⟨v,vs,rfl,r1.same s2,r2⟩
theorem Y6{x1}(h:PDA X es gA):PD X (.Tuple es x1 pos) (Z6 gA) :=
 .mk λB δ=>(Zs0 (h B δ)).imp fun σ H Q ⟨d,en,h,k⟩=>by
  unfold Z6 at h;cases e1:gA δ with
  | none=>rw[e1] at h;cases h
  | some ds =>
   rw[e1] at h
   by_cases hl:ds.length<=sizeLine
   ·simp only[Option.bind_some,if_pos hl] at h
    cases h;refine⟨ds,en,e1,λvs H1 s1 r1=>⟨by rw[r1.length];exact hl,λp hp=>k _ _ (s1.trans (Y7 hp)) ?_⟩⟩;rw[X3];exact⟨p,vs,rfl,⟨(en.same s1).free hp,Z4⟩,r1.same (Y7 hp)⟩
   ·simp only[Option.bind_some,if_neg hl] at h
    cases h
theorem zb0(h:PDA X es gA):PD X (.List es pos) (Y8 gA) :=
 .mk λB δ=>(iq0 (h B δ)).imp fun σ H Q ⟨d,en,h,k⟩=>by
  unfold Y8 at h;cases e1:gA δ with
  | none=>rw[e1] at h;cases h
  | some ds =>
   rw[e1] at h
   by_cases hl:ds.length<=sizeLine
   ·simp only[Option.bind_some,if_pos hl] at h
    cases h;refine⟨ds,en,e1,λvs H1 s1 r1=>⟨by rw[r1.length];exact hl,λp hp=>k _ _ (s1.trans (Y7 hp)) ?_⟩⟩;rw[X7];exact⟨p,vs,rfl,.inl ⟨(en.same s1).free hp,.inl Z4⟩,r1.same (Y7 hp)⟩
   ·simp only[Option.bind_some,if_neg hl] at h
    cases h
theorem kz0{f:List D->Option D}(hf:FnR K r f){σ:St}{Q:VK}(h:tD K B δ (oA gA f) σ H Q):tCB r (tDA K B δ gA) σ H Q:=by
 obtain⟨d,en,h,k⟩:=h;unfold oA at h;cases e1:gA δ with
 | none=>rw[e1] at h;cases h
 | some ds =>
  rw[e1] at h;exact⟨ds,en,e1,λvs H1 s1 r1=>hf H1 B vs ds d Q (en.same s1).bad r1 h λv H' s r=>k v H' (s1.trans s) r⟩
theorem fr0{id:String}{p:Pos}{f:List D->Option D}(hc:CallR X (.builtin id) r)(hf:FnR X.K r f)(hm:X.mg x=none)(hv:bootBuiltins x=some (.builtin id))(ha:PDA X (e::es) gA)(hg:Gl X x:=by rfl)
  (hn:x ≠"__name__" := by decide) (hdb:(x==("__debug__" : Str))=false:=by decide) (he:starEach (e::es) X.env=(false,eval e X.env)::starEach es X.env:=by rfl) (hpl:(backTo pos (starEach es X.env)).any (·.1)=false:=by rfl) :
  PD X (.Call (.Name x p) (e::es) [] pos) (oA gA f):=.mk λB δ=>(td0 hc hg hm hv (ha B δ) hn hdb he hpl).imp fun σ H Q h=>kz0 hf h
theorem R9{T:String}{p:Pos}{f:List D->Option D}(hc:CallR X (.type T) r)(hf:FnR X.K r f)(hm:X.mg x=none)(hv:bootBuiltins x=some (.type T))(ha:PDA X (e::es) gA)(hg:Gl X x:=by rfl)
  (hn:x ≠"__name__" := by decide) (hdb:(x==("__debug__" : Str))=false:=by decide) (he:starEach (e::es) X.env=(false,eval e X.env)::starEach es X.env:=by rfl) (hpl:(backTo pos (starEach es X.env)).any (·.1)=false:=by rfl) :
  PD X (.Call (.Name x p) (e::es) [] pos) (oA gA f):=.mk λB δ=>(qf0 hc hg hm hv (ha B δ) hn hdb he hpl).imp fun σ H Q h=>kz0 hf h
def spD(K:W.Frag)(f:List D->Option D):Sp:=λvs H Q _=>∃(B:BS) (ds:List D) (d:D),(∀a,B a->NB (H a))/\Rps K H B ds vs/\f ds=some d/\∀v H',Same H H'->Rp K H' B d v->Q v H'
theorem do0{k:Nat}{ps:List Str}{p:Pos}{f:List D->Option D}(F:FnOk X.prog X.w X.K X.mg X.base CX0 k fa fd ps (spD X.K f))(hr:Room k X.A)(hm:X.mg x=some (.ref fa))(hk:W.keepIn X.K (.ref fa)=true)(hb:Binds X.K fd ps [])
  (ha:PDA X (e::es) gA) (hg:Gl X x:=by rfl) (hdb:(x==("__debug__" : Str))=false:=by decide) (he:starEach (e::es) X.env=(false,eval e X.env)::starEach es X.env:=by rfl) (hpl:(backTo pos (starEach es X.env)).any (·.1)=false:=by rfl) :
  PD X (.Call (.Name x p) (e::es) [] pos) (oA gA f):=.mk λB δ=>(uz0 (E:=E0) F hr hg hm hk hb .nil p80 (ha B δ) hdb he hpl).imp fun σ H Q h=>by
 obtain⟨d,en,h,k⟩:=h;unfold oA at h;cases e1:gA δ with
 | none=>rw[e1] at h;cases h
 | some ds =>
  rw[e1] at h;refine⟨ds,en,e1,λvs H1 s1 r1=>?_⟩;show spD X.K f (vs++[]) H1 Q E0;rw[List.append_nil];exact⟨B,ds,d,(en.same s1).bad,r1,h,λv H' s r=>k v H' (s1.trans s) r⟩
end
end DL
variable{B B' B₀:DL.BS}
namespace DL
open Spec PyProof.Rows L2
structure EnvS(K:W.Frag)(H₀:Hp)(B₀:BS)(H:Hp)(σ:St)(δ:Ds):Prop where
 same:Same H₀ H
 ex:∃B:BS,(∀a,B₀ a->B a)/\(∀a,B a->B₀ a∨H₀ a=none)/\Env K H B σ δ
 fr:∀(i:Nat) (ds:D) (a:Addr),δ[i]?=some (.ow ds)->σ[i]?=some (some (.ref a))->H₀ a=none
 b0:∀a,B₀ a->NB (H₀ a)
def Wh0(K:W.Frag)(H₀:Hp)(B₀:BS)(D:Ends):Res->Prop
 | .nx δ=>∀σ H,EnvS K H₀ B₀ H σ δ->D.nx σ H
 | .rt d=>∀v H,Same H₀ H->Rp K H B₀ d v->D.rt v H
 | .bk δ=>∀σ H,EnvS K H₀ B₀ H σ δ->D.bk σ H
 | .ct δ=>∀σ H,EnvS K H₀ B₀ H σ δ->D.ct σ H
 | .rf d=>∀p H,H₀ p=none->Same H₀ H->RpL K H (λa=>B₀ a∨a=p) d p->D.rt (.ref p) H
def tDS(K:W.Frag)(H₀:Hp)(B₀:BS)(δ:Ds)(G:Ds->Option Res):TS:=λD σ H=>∃r,EnvS K H₀ B₀ H σ δ/\G δ=some r/\Wh0 K H₀ B₀ D r
structure PSD(X:Cx)(st:Stmt)(G:Ds->Option Res):Prop where
 mk::go:∀H₀ B₀ δ,PS X st (tDS X.K H₀ B₀ δ G)
instance{X:Cx}{st:Stmt}{G:Ds->Option Res}:CoeFun (PSD X st G) (λ_=>∀H₀ B₀ δ,PS X st (tDS X.K H₀ B₀ δ G)):=⟨PSD.go⟩
structure PSsD(X:Cx)(st:List Stmt)(G:Ds->Option Res):Prop where
 mk::go:∀H₀ B₀ δ,PSs X st (tDS X.K H₀ B₀ δ G)
instance{X:Cx}{st:List Stmt}{G:Ds->Option Res}:CoeFun (PSsD X st G) (λ_=>∀H₀ B₀ δ,PSs X st (tDS X.K H₀ B₀ δ G)):=⟨PSsD.go⟩
section
variable{σ:St}
theorem EnvS.grow(e:EnvS K H₀ B₀ H σ δ)(s:Same H H'):EnvS K H₀ B₀ H' σ δ:=⟨e.same.trans s,let ⟨B,b1,b2,en⟩:=e.ex;⟨B,b1,b2,en.same s⟩,e.fr,e.b0⟩
end
structure Wr(idx:List Nat)(σ σ':St)(δ δ':Ds):Prop where
 len:σ'.length=σ.length
 oth:∀j,j∉idx->σ'[j]?=σ[j]?/\δ'[j]?=δ[j]?
 own:∀j∈idx,∀ds,δ'[j]?≠some (.ow ds)
def tDG(K:W.Frag)(idx:List Nat)(f:D->Ds->Option Ds)(B:BS)(d:D)(δ:Ds):TG:=λv σ H Q=>∃δ',Rp K H B d v/\Env K H B σ δ/\f d δ=some δ'/\∀σ',Wr idx σ σ' δ δ'->Env K H B σ' δ'->Q σ' H
structure PGD(X:Cx)(tg:Expr)(idx:List Nat)(f:D->Ds->Option Ds):Prop where
 mk::go:∀B d δ,PG X tg (tDG X.K idx f B d δ)
instance{X:Cx}{tg:Expr}{idx:List Nat}{f:D->Ds->Option Ds}:CoeFun (PGD X tg idx f) (λ_=>∀B d δ,PG X tg (tDG X.K idx f B d δ)):=⟨PGD.go⟩
theorem _root_.L2.PG.imp{t t':TG}(h:PG X tg t)(q:∀v σ H Q,t' v σ H Q->t v σ H Q):PG X tg t':=λpins s σ H v u Q I r z=>h pins s σ H v u Q I r (q v σ H Q z)
theorem jw0{σ:St}{v:V}{d:D}:Wr [i] σ (σ.set i (some v)) δ (δ.set i (.sh d)):=by
 refine⟨by simp,λj hj=>?_,λj hj ds h=>?_⟩
 ·have:j≠i:=by simpa using hj
  rw[List.getElem?_set_ne (C1 this),List.getElem?_set_ne (C1 this)];exact⟨rfl,rfl⟩
 ·have:j=i:=by simpa using hj
  subst this
  by_cases hl:j<δ.length
  ·rw[List.getElem?_set_self hl] at h;cases h
  ·rw[List.getElem?_eq_none (by simpa using hl)] at h;cases h
theorem o6(i:Nat){pos:Pos}(hN:X.N.Nodup)(hi:X.N[i]?=some x:=by rfl)(hx:Loc X.env.scope x:=by first|exact Or.inl rfl|exact Or.inr rfl)
  (hf:X.fn x=true∨X.env.scope.names.lookup x=some .local:=by first|exact .inl rfl|exact .inr rfl|assumption):PGD X (.Name x pos) [i] (gN i):=.mk λB d δ=>(uk0 (i:=i) hN hi hx hf).imp λv σ H Q ⟨δ',r,en,e,k⟩=>by
 cases e;exact k _ jw0 (en.set i r)
section
variable{G G1 G2 Ga Gb:Ds->Option Res}{as bs:List Stmt}
theorem u9:PSsD X [] p7:=.mk λH₀ B₀ δ pins s σ H D I ⟨r,en,e,k⟩=>by
 cases e;exact d20 pins s σ H D I (k σ H en)
theorem v6(h1:PSD X st G1)(h2:PSsD X rest G2):PSsD X (st::rest) (v8 G1 G2):=.mk λH₀ B₀ δ pins s σ H D I ⟨r,en,e,k⟩=>by
 unfold v8 at e;cases e1:G1 δ with
 | none=>rw[e1] at e;cases e
 | some r1 =>
  rw[e1] at e;cases r1 with
  | nx δ'=>exact xx0 (h1 H₀ B₀ δ) (h2 H₀ B₀ δ') pins s σ H D I ⟨_,en,e1,fun σ' H' en'=>⟨r,en',e,k⟩⟩
  | rt d=>cases e;exact xx0 (h1 H₀ B₀ δ) w50 pins s σ H D I ⟨_,en,e1,k⟩
  | bk δ'=>cases e;exact xx0 (h1 H₀ B₀ δ) w50 pins s σ H D I ⟨_,en,e1,k⟩
  | ct δ'=>cases e;exact xx0 (h1 H₀ B₀ δ) w50 pins s σ H D I ⟨_,en,e1,k⟩
  | rf d=>cases e;exact xx0 (h1 H₀ B₀ δ) w50 pins s σ H D I ⟨_,en,e1,k⟩
theorem m7(h:PD X e g):PSD X (.Return (some e) pos) (j7 g):=.mk λH₀ B₀ δ pins s σ H D I ⟨r,en,e1,k⟩=>by
 unfold j7 at e1;obtain⟨B,b1,b2,env⟩:=en.ex;cases e2:g δ with
 | none=>rw[e2] at e1;cases e1
 | some d =>
  rw[e2] at e1;cases e1;exact oy0 (h B δ) pins s σ H D I ⟨d,env,e2,λv H' s' r=>k v H' (en.same.trans s') (r.mono (Gr.less b1))⟩
theorem EnvS.wr{σ σ':St}(e:EnvS K H₀ B₀ H σ δ)(b1:∀a,B₀ a->B a)(b2:∀a,B a->B₀ a∨H₀ a=none)(s:Same H H')(w:Wr idx σ σ' δ δ')(en:Env K H' B σ' δ'):EnvS K H₀ B₀ H' σ' δ':=by
 refine⟨e.same.trans s,⟨B,b1,b2,en⟩,λi ds a h1 h2=>?_,e.b0⟩
 by_cases hi:i∈idx
 ·exact absurd h1 (w.own i hi ds)
 ·rw[(w.oth i hi).2] at h1
  rw[(w.oth i hi).1] at h2;exact e.fr i ds a h1 h2
theorem n8{f:D->Ds->Option Ds}(h:PD X e g)(hg:PGD X tg idx f)(hs:swapsWithSole [tg] e pos.line X.env=pure false:=by rfl)(hw:swappedStores [tg] e X.env=pure none:=by rfl)
  (h1:(assignEach [tg] X.env).map (·.2)=[assign tg X.env]:=by rfl):PSD X (.Assign [tg] e pos) (n6 f g):=.mk λH₀ B₀ δ pins s σ H D I ⟨r,en,e1,k⟩=>by
 unfold n6 at e1;obtain⟨B,b1,b2,env⟩:=en.ex;cases e2:g δ with
 | none=>rw[e2] at e1;cases e1
 | some d =>
  rw[e2] at e1;simp only[Option.bind_some] at e1;cases e3:f d δ with
  | none=>rw[e3] at e1;cases e1
  | some δ' =>
   rw[e3] at e1;cases e1;exact oa0 (h B δ) (hg B d δ) hs hw h1 pins s σ H D I ⟨d,env,e2,λv H' s' r=>⟨δ',r,env.same s',e3,fun σ' w en'=>k σ' H' (en.wr b1 b2 s' w en')⟩⟩
theorem j8(hc:PTD X c gt)(ha:PSsD X as Ga)(hb:PSsD X bs Gb):PSD X (.If c as bs pos) (ifD gt Ga Gb):=.mk λH₀ B₀ δ pins s σ H D I ⟨r,en,e1,k⟩=>by
 unfold ifD at e1;obtain⟨B,b1,b2,env⟩:=en.ex;cases e2:gt δ with
 | none=>rw[e2] at e1;cases e1
 | some t =>
  rw[e2] at e1;refine Y60 (hc B δ) (ha H₀ B₀ δ) (hb H₀ B₀ δ) pins s σ H D I ⟨t,env,e2,λH' s'=>?_⟩;cases t with
  | true=>exact⟨r,en.grow s',e1,k⟩
  | false=>exact⟨r,en.grow s',e1,k⟩
structure ItD(K:W.Frag)(B:BS)(J:It)(items:List D)(H₁:Hp):Prop where
 go:∀i H,Gr H₁ H B B->i<items.length->J.go i H
 yld:∀i H x H',Gr H₁ H B B->J.yld i H x H'->i<items.length->Same H H'/\∃d,items[i]?=some d/\∀B':BS,Gr H₁ H' B B'->(∀a,B' a->NB (H a))->Rp K H' B' d x
 stop:∀i H,Gr H₁ H B B->items.length<=i->J.stop i H
def tDI(K:W.Frag)(B:BS)(δ:Ds)(g:Ds->Option (List D)):TI:=fun σ H R=>∃items,Env K H B σ δ/\g δ=some items/\∀J H',Same H H'->ItD K B J items H'->R J H'
structure PID(X:Cx)(tg e:Expr)(g:Ds->Option (List D)):Prop where
 mk::go:∀B δ,PI X tg e (tDI X.K B δ g)
instance{X:Cx}{tg e:Expr}{g:Ds->Option (List D)}:CoeFun (PID X tg e g) (λ_=>∀B δ,PI X tg e (tDI X.K B δ g)):=⟨PID.go⟩
theorem _root_.L2.PI.imp{t t':TI}(h:PI X tg e t)(q:∀σ H R,t' σ H R->t σ H R):PI X tg e t':=λpins s σ H R I z=>h pins s σ H R I (q σ H R z)
theorem xv0(h:PD X e g):PID X tg e (yy0 g):=.mk λB δ=>L2.PI.imp (dy0 (h B δ)) fun σ H R ⟨items,en,e1,k⟩=>by
 unfold yy0 at e1;cases e2:g δ with
 | none=>rw[e2] at e1;cases e1
 | some d =>
  rw[e2] at e1;cases d<;>simp[ed0] at e1
  subst e1;refine⟨_,en,e2,λv H' s' r=>?_⟩;rw[X7] at r;obtain⟨a,xs,rfl,q,rs⟩:=r;refine⟨a,rfl,⟨xs,q.to⟩,k _ H' s' ⟨λi H2 g2 hi=>?_,λi H2 x H3 g2 y hi=>?_,λi H2 g2 hi=>?_⟩⟩
  ·have:i<xs.length:=by rw[rs.length];exact hi
   exact⟨xs,xs[i],(q.mono g2).to,by simp[this]⟩
  ·obtain⟨e3,y⟩:=y
   obtain⟨x',e4,r'⟩:=rs.get (i:=i) (d:=_) (B6 hi);have:=y xs (q.mono g2).to;rw[e4] at this;cases this;subst e3;exact⟨Same.refl _,_,B6 hi,λB' gB _=>r'.mono gB⟩
  ·exact⟨xs,(q.mono g2).to,by rw[rs.length];exact hi⟩
theorem us0(h:PD X e g):PID X tg e (tupI g):=.mk λB δ=>L2.PI.imp (bh0 (h B δ)) fun σ H R ⟨items,en,e1,k⟩=>by
 unfold tupI at e1;cases e2:g δ with
 | none=>rw[e2] at e1;cases e1
 | some d =>
  rw[e2] at e1;cases d<;>simp[eh0] at e1
  subst e1;refine⟨_,en,e2,λv H' s' r=>?_⟩;rw[X3] at r;obtain⟨a,xs,rfl,q,rs⟩:=r;refine⟨a,rfl,⟨xs,q.to⟩,k _ H' s' ⟨λi H2 g2 hi=>?_,λi H2 x H3 g2 y hi=>?_,λi H2 g2 hi=>?_⟩⟩
  ·have:i<xs.length:=by rw[rs.length];exact hi
   exact⟨xs,xs[i],(q.mono g2).to,by simp[this]⟩
  ·obtain⟨e3,y⟩:=y
   obtain⟨x',e4,r'⟩:=rs.get (i:=i) (d:=_) (B6 hi);have:=y xs (q.mono g2).to;rw[e4] at this;cases this;subst e3;exact⟨Same.refl _,_,B6 hi,λB' gB _=>r'.mono gB⟩
  ·exact⟨xs,(q.mono g2).to,by rw[rs.length];exact hi⟩
theorem tu0(lo hi:Int):(W4 lo hi).length=(hi - lo).toNat:=by simp[W4]
theorem lk0(lo hi:Int):ItD K B (Itr lo (hi - lo).toNat) (W4 lo hi) H:=by
 refine⟨λi H2 g2 hi=>?_,λi H2 x H3 g2 y hi=>?_,λi H2 g2 hi=>?_⟩
 ·rw[tu0] at hi;exact hi
 ·obtain⟨e3,rfl⟩:=y
  rw[tu0] at hi;subst e3;exact⟨Same.refl _,.int (lo+i),by simp[W4,hi],λB' gB _=>by rw[m8]⟩
 ·rw[tu0] at hi;exact hi
theorem V8{a:Expr}(hm:X.mg "range"=none)(ha:PDA X [a] gA)(hg:Gl X "range" := by rfl)(hs:starEach [a] X.env=[(false,eval a X.env)]:=by rfl):PID X tg (.Call (.Name "range" p) [a] [] pos) (V9 gA) :=
 .mk λB δ=>L2.PI.imp (kx0 hg hm (ha B δ) hs) fun σ H R ⟨items,en,e1,k⟩=>by
 unfold V9 at e1;cases e2:gA δ with
 | none=>rw[e2] at e1;cases e1
 | some ds =>
  rw[e2] at e1;simp only[Option.bind_some] at e1;unfold ly0 at e1;split at e1
  ·split at e1
   ·rename_i j hj
    cases e1;refine⟨_,en,e2,λvs H' s' r=>?_⟩;rw[o7] at r;obtain⟨x,t,rfl,r1,r2⟩:=r;rw[m9] at r2;subst r2;rw[m8] at r1;subst r1;refine⟨j,rfl,hj.1,hj.2,k _ H' s' ?_⟩;have:=lk0 (K:=X.K) (B:=B) (H:=H') 0 j;rw[Int.sub_zero] at this;exact this
   ·cases e1
  ·cases e1
theorem lx0{a:Expr}{p:Pos}(hm:X.mg "range"=none)(ha:PDA X [a,b] gA)(hg:Gl X "range" := by rfl)(hs:starEach [a,b] X.env=[(false,eval a X.env),(false,eval b X.env)]:=by rfl)(hs2:starEach [b] X.env=[(false,eval b X.env)]:=by rfl) :
  PID X tg (.Call (.Name "range" p) [a,b] [] pos) (k00 gA):=.mk λB δ=>L2.PI.imp (hf0 hg hm (ha B δ) hs hs2) fun σ H R ⟨items,en,e1,k⟩=>by
 unfold k00 at e1;cases e2:gA δ with
 | none=>rw[e2] at e1;cases e1
 | some ds =>
  rw[e2] at e1;simp only[Option.bind_some] at e1;unfold fy0 at e1;split at e1
  ·split at e1
   ·rename_i i j hj
    cases e1;refine⟨_,en,e2,λvs H' s' r=>?_⟩;rw[o7] at r;obtain⟨x,t,rfl,r1,r2⟩:=r;rw[o7] at r2;obtain⟨y,t',rfl,r2,r3⟩:=r2;rw[m9] at r3;subst r3;rw[m8] at r1 r2;subst r1 r2;exact⟨i,j,rfl,⟨hj.1.1,hj.1.2,hj.2.1,hj.2.2⟩,k _ H' s' (lk0 i j)⟩
   ·cases e1
  ·cases e1
theorem EnvS.lower{H₁:Hp}{σ:St}(e:EnvS K H₁ B₀ H σ δ)(s:Same H₀ H₁)(b0:∀a,B₀ a->NB (H₀ a)):EnvS K H₀ B₀ H σ δ:=by
 obtain⟨B,b1,b2,en⟩:=e.ex;exact⟨s.trans e.same,⟨B,b1,λa z=>(b2 a z).imp id λq=>s.free q,en⟩,λi ds a h1 h2=>s.free (e.fr i ds a h1 h2),b0⟩
open Classical in
theorem T4{f:D->Ds->Option Ds}(hp:PassesOwn (model X.prog X.w) X.A X.env X.xe)(hc:X.calm=true)(hi:PID X tg iter gi)(hg:PGD X tg idx f)(hb:PSsD X body G)
  (hs:∀x,foldedSetIterable iter X.env x=pure x:=by intro _;rfl):PSD X (.For tg iter body [] pos) (T8 gi f G):=.mk λH₀ B₀ δ pins s σ H D I ⟨r,en,e1,k⟩=>by
 unfold T8 at e1;obtain⟨B,b1,b2,env⟩:=en.ex;cases e2:gi δ with
 | none=>rw[e2] at e1;cases e1
 | some items =>
  rw[e2] at e1;simp only[Option.bind_some] at e1;have a6:PG X tg (λv σ H Q=>∃B d δ,tDG X.K idx f B d δ v σ H Q):=λpins s σ H v u Q I r ⟨B,d,δ,h⟩=>hg B d δ pins s σ H v u Q I r h
  have a3:PSs X body (λD σ H=>∃H₀ B₀ δ,tDS X.K H₀ B₀ δ G D σ H):=λpins s σ H D I ⟨H₀,B₀,δ,h⟩=>hb H₀ B₀ δ pins s σ H D I h
  refine bu0 hp hc (hi B δ) a6 a3 hs pins s σ H D I ⟨items,env,e2,λJ H1 s1 it=>?_⟩;obtain⟨Hh,O⟩:∃Hh:Hp,Hh=λb=>if B b/\¬B₀ b then none else H1 b:=⟨_,rfl⟩
  have U:∀b,¬B b->Hh b=H1 b:=λb n=>by rw[O];exact if_neg λz=>n z.1
  have S:∀b,B b->¬B₀ b->Hh b=none:=λb n n'=>by rw[O];exact if_pos ⟨n,n'⟩
  have a0:∀b,B₀ b->Hh b=H1 b:=λb n=>by rw[O];exact if_neg λz=>z.2 n
  have a1:Same Hh H1:=⟨λb o h=>by
   by_cases z:B b/\¬B₀ b
   ·rw[S b z.1 z.2] at h;cases h
   ·rw[O] at h
    have h':(if B b/\¬B₀ b then none else H1 b)=some o:=h;rw[if_neg z] at h';exact h',λb o xs h=>by
   by_cases z:B b/\¬B₀ b
   ·have h0:=en.same.nf b o xs (s1.nf b o xs h)
    rw[(b2 b z.1).resolve_left z.2] at h0;cases h0
   ·rw[O]
    show (if B b/\¬B₀ b then none else H1 b)=_;rw[if_neg z];exact h⟩
  have hS:Same H₀ Hh:=⟨λb o h=>by
   have h1:=s1 b o (en.same b o h)
   by_cases z:B b
   ·rcases b2 b z with q|q
    ·rw[a0 b q];exact h1
    ·rw[h] at q;cases q
   ·rw[U b z];exact h1,λb o xs h=>en.same.nf b o xs (s1.nf b o xs (a1 b _ h))⟩
  have Y:=env.same s1;have start:EnvS X.K Hh B₀ H1 σ δ:=by
   refine⟨a1,⟨B,b1,λa z=>?_,Y⟩,λi ds a h1 h2=>?_,λa z=>?_⟩
   ·by_cases q:B₀ a
    ·exact .inl q
    ·exact .inr (S a z q)
   ·have hn:=en.fr i ds a h1 h2
    have nb:¬B₀ a:=λz=>en.b0 a z hn
    obtain⟨o,e3,a',e4,hB,_⟩:=Pd.get Y.all h1;rw[h2] at e3;cases e3;cases e4;exact S a hB nb
   ·rw[a0 a z]
    exact Y.bad a (b1 a z)
  refine⟨λi m σ H=>m=items.length - i/\i<=items.length/\∃δi,EnvS X.K Hh B₀ H σ δi/\W2 f G (items.drop i) δi=some r,⟨_,rfl,K2 _,δ,start,e1⟩,?_⟩;rintro i m σi Hi ⟨rfl,a7,δi,M,ei⟩;have gr:Gr H1 Hi B B:=λb o n h=>⟨n,M.same b o (by rw[U b n];exact h)⟩
  by_cases hlt:i<items.length
  ·refine .inr ⟨it.go i Hi gr hlt,fun σ' H'=>∃δn,EnvS X.K Hh B₀ H' σ' δn/\W2 f G (items.drop (i+1)) δn=some r,fun σ' H' ⟨δn,en',e'⟩=>⟨items.length - (i+1),by omega,rfl,hlt,δn,en',e'⟩,λx H' y=>?_⟩
   obtain⟨sm,d,hd,rd⟩:=it.yld i Hi x H' gr y hlt;obtain⟨B',c1,c2,env0⟩:=M.ex;have a5:Rp X.K H' B' d x:=rd B' (λb o n h=>by
    have h':Hh b=some o:=by rw[U b n];exact h
    refine⟨λz=>?_,sm b o (M.same b o h')⟩;rcases c2 b z with q|q
    ·exact n (b1 b q)
    ·rw[h'] at q;cases q) env0.bad
   have a2:=env0.same sm
   replace M:=M.grow sm
   have Z:items.drop i=d::items.drop (i+1):=by
    rw[List.drop_eq_getElem_cons hlt];congr 1;rw[List.getElem?_eq_getElem hlt] at hd;exact B4 hd
   rw[Z] at ei;unfold W2 at ei;cases e3:f d δi with
   | none=>rw[e3] at ei;cases ei
   | some δ2 =>
    rw[e3] at ei;simp only[Option.bind_some] at ei;refine⟨B',d,δi,δ2,a5,a2,e3,fun σ' w en'=>?_⟩;have a4:EnvS X.K Hh B₀ H' σ' δ2:=M.wr c1 c2 (Same.refl _) w en';cases e4:G δ2 with
    | none=>rw[e4] at ei;cases ei
    | some rb =>
     rw[e4] at ei;refine⟨Hh,B₀,δ2,rb,a4,e4,?_⟩;cases rb with
     | nx δn=>exact fun σ' H' en'=>⟨δn,en',ei⟩
     | ct δn=>exact fun σ' H' en'=>⟨δn,en',ei⟩
     | bk δn =>
      cases ei;exact fun σ' H' en'=>k σ' H' (en'.lower hS en.b0)
     | rt d' =>
      cases ei;exact λv H' s' r'=>k v H' (hS.trans s') r'
     | rf d' =>
      cases ei;exact λp H' hp s' r'=>k p H' (hS.free hp) (hS.trans s') r'
  ·have e:i=items.length:=by omega
   subst e;refine .inl ⟨it.stop _ Hi gr (A4 _),?_⟩;rw[List.drop_length] at ei;cases ei;exact k σi Hi (M.lower hS en.b0)
structure PFD(X:Cx)(ifs:List Expr)(g:Ds->Option Bool):Prop where
 mk::go:∀B δ,PF X ifs (tDT X.K B δ g)
instance{X:Cx}{ifs:List Expr}{g:Ds->Option Bool}:CoeFun (PFD X ifs g) (λ_=>∀B δ,PF X ifs (tDT X.K B δ g)):=⟨PFD.go⟩
theorem y30:PFD X [] noT:=.mk λB δ pins s σ H Q I ⟨b,en,e,k⟩=>by
 cases e;exact bb0 pins s σ H Q I (k H (Same.refl H))
theorem fu0{σ:St}(h:j<n):(Q8 n caps σ)[j]?=some none:=by
 unfold Q8;rw[List.getElem?_append_left (by simpa using h),List.getElem?_replicate,if_pos h]
theorem sd0:∀n:Nat,Paired (SlR K H B) (List.replicate n (none:Option V)) (List.replicate n Sl.un)
 | 0=>.nil
 | n+1=>.cons trivial (sd0 n)
theorem o50{σ:St}(en:Env K H B σ δ):∀caps:List Nat,Paired (SlR K H B) (caps.map λj=>(σ[j]?).join) (caps.map λj=>p40 δ[j]?)
 | []=>.nil
 | j::caps=>by
  refine .cons ?_ (o50 en caps);show SlR K H B (σ[j]?).join (p40 δ[j]?);cases h:δ[j]? with
  | none=>trivial
  | some sl =>
   cases sl with
   | un=>trivial
   | ow ds=>trivial
   | ex c n=>trivial
   | sh d =>
    obtain⟨v,e,r⟩:=en.get h;rw[e];exact⟨v,rfl,r⟩
theorem gu0{o:Option Sl}{ds:D}(h:p40 o=.ow ds):False:=by
 cases o with
 | none=>cases h
 | some s=>cases s<;>cases h
theorem th0{ds:D}(h:(zu0 n caps δ)[i]?=some (.ow ds)):False:=by
 unfold zu0 at h
 by_cases hi:i<n
 ·rw[List.getElem?_append_left (by simpa using hi),List.getElem?_replicate,if_pos hi] at h
  cases h
 ·rw[List.getElem?_append_right (by simpa using hi),List.getElem?_map] at h
  cases q:caps[i - (List.replicate n Sl.un).length]? with
  | none=>rw[q] at h;cases h
  | some j =>
   rw[q] at h;exact gu0 (B4 h)
theorem Env.comp{σ:St}(en:Env K H B σ δ)(n:Nat)(caps:List Nat):Env K H B (Q8 n caps σ) (zu0 n caps δ) :=
 ⟨Pd.app (sd0 n) (o50 en caps),en.bad,λi j a ds es h1 _ _ _=>(th0 h1).elim⟩
theorem SlR.gr{o:Option V}{s:Sl}(g:Gr H H' B B')(no:∀ds,s≠.ow ds)(h:SlR K H B o s):SlR K H' B' o s:=by
 cases s with
 | un=>trivial
 | sh d=>obtain⟨v,e,r⟩:=h;exact⟨v,e,r.mono g⟩
 | ow ds=>exact absurd rfl (no ds)
 | ex c n=>obtain⟨a,e,r⟩:=h;exact⟨a,e,r.mono g⟩
theorem Pd.impG(g:Gr H H' B B'):∀{σ:St} {δ:Ds},(∀(i:Nat) (ds:D),δ[i]?≠some (.ow ds))->Paired (SlR K H B) σ δ->Paired (SlR K H' B') σ δ
 | _,_,_,.nil=>.nil
 | _,_,no,.cons r t=>.cons (r.gr g λds z=>no 0 ds (by rw[← z];rfl)) (Pd.impG g (λi ds z=>no (i+1) ds (by simpa using z)) t)
def tDF(K:W.Frag)(B:BS)(δ:Ds)(g:Ds->Option D):TE:=fun σ H Q=>∃d,Env K H B σ δ/\g δ=some d/\∀p H',H p=none->Same H H'->RpO K H' (λa=>B a∨a=p) d p->Q (.ref p) H'
structure PDF(X:Cx)(e:Expr)(g:Ds->Option D):Prop where
 mk::go:∀B δ,PE X e (tDF X.K B δ g)
instance{X:Cx}{e:Expr}{g:Ds->Option D}:CoeFun (PDF X e g) (λ_=>∀B δ,PE X e (tDF X.K B δ g)):=⟨PDF.go⟩
theorem tD.toF{σ:St}{Q:VK}(h:tD K B δ g σ H Q):tDF K B δ g σ H Q:=by
 obtain⟨d,en,e,k⟩:=h;exact⟨d,en,e,λp H' hp s r=>k _ H' s (r.rp (λa z=>.inl z) (en.free hp))⟩
theorem PDF.pd(h:PDF X e g):PD X e g:=.mk λB δ=>(h B δ).imp fun σ H Q z=>z.toF
theorem iw0{K:W.Frag}{B:BS}{δ:Ds}{σ:St}{H:Hp}{Q:VK}{caps:List Nat}{gi:Ds->Option (List D)}{f:D->Ds->Option Ds}{gt:Ds->Option Bool}{ge:Ds->Option D}(hidx:∀j∈idx,j<n)
  (h:tDF K B δ (R5 n caps gi f gt ge) σ H Q) :
  ej0 n caps (tDI K B δ gi) (λv σ H Q=>∃B d δ,tDG K idx f B d δ v σ H Q) (fun σ H Q=>∃B δ,tDT K B δ gt σ H Q) (fun σ H Q=>∃B δ,tD K B δ ge σ H Q) σ H Q:=by
 obtain⟨d,en,h,k⟩:=h;unfold R5 at h;cases e1:gi δ with
 | none=>rw[e1] at h;cases h
 | some items =>
  rw[e1] at h;simp only[Option.bind_some] at h
  by_cases hsz:items.length<=sizeLine
  ·rw[if_pos hsz] at h
   cases e2:N7 f gt ge (zu0 n caps δ) items with
   | none=>rw[e2] at h;cases h
   | some out =>
    rw[e2] at h;cases h;refine⟨items,en,e1,λJ H1 s1 it=>λL hL=>?_⟩;have S:=en.same s1;have a7:¬B L:=S.free hL;obtain⟨Bp,O⟩:∃Bp:BS,Bp=λa=>B a∨a=L:=⟨_,rfl⟩
    have a0:Bp L:=by rw[O];exact .inr rfl
    have a8:∀a,B a->Bp a:=λa z=>by rw[O];exact .inl z
    have Z:∀a,Bp a->B a∨a=L:=λa z=>by rw[O] at z;exact z
    have gr:∀{H2:Hp},Same H1 H2->Gr H1 H2 B Bp:=λ{H2} s2 b o nb hb=>⟨(λz=>by
     rcases Z b z with q|q
     ·exact nb q
     ·subst q;rw[hL] at hb;cases hb),s2 b o hb⟩
    refine⟨λi m ys H2=>m=items.length - i/\i<=items.length/\H2 L=some (.lst ys)/\Same H1 H2/\ys.length<=i/\∃pre rest,out=pre++rest/\Rps K H2 Bp pre ys/\N7 f gt ge (zu0 n caps δ) (items.drop i)=some rest,
     ⟨_,rfl,K2 _,Z4,Y7 hL,A4 _,[],out,rfl,by rw[m9],e2⟩,?_⟩
    rintro i m ys H2 ⟨rfl,a6,hD,s2,a5,pre,rest,ho,rp,ec⟩;have M:Env K H2 Bp (Q8 n caps σ) (zu0 n caps δ):=by
     refine⟨Pd.impG (gr s2) (λi ds z=>th0 z) (S.comp n caps).all,λa z=>?_,λi j a ds es h1 _ _ _=>(th0 h1).elim⟩;rcases Z a z with q|q
     ·exact(S.same s2).bad a q
     ·subst q;rw[hD];exact .of rfl (λ_ _ z=>nomatch z) λ_ z=>nomatch z
    by_cases hlt:i<items.length
    ·refine .inr ⟨it.go i H2 (Gr.same s2) hlt,λx H3 y=>?_⟩
     obtain⟨sm,dx,Y,rx⟩:=it.yld i H2 x H3 (Gr.same s2) y hlt;have a2:Rp K H3 Bp dx x:=rx Bp (gr (s2.trans sm)) M.bad
     replace M:=M.same sm
     replace s2:=s2.trans sm
     replace hD:=sm _ _ hD
     replace rp:=rp.same sm
     have U:items.drop i=dx::items.drop (i+1):=by
      rw[List.drop_eq_getElem_cons hlt];congr 1;rw[List.getElem?_eq_getElem hlt] at Y;exact B4 Y
     rw[U] at ec;unfold N7 at ec;cases e3:f dx (zu0 n caps δ) with
     | none=>rw[e3] at ec;cases ec
     | some δ' =>
      rw[e3] at ec;dsimp only at ec;refine⟨Bp,dx,zu0 n caps δ,δ',a2,M,e3,fun σ4 w en4=>⟨⟨w.len,λj v z=>?_⟩,?_⟩⟩
      ·by_cases hj:j∈idx
       ·rw[fu0 (hidx j hj)] at z;cases z
       ·rw[(w.oth j hj).1];exact z
      ·cases e4:gt δ' with
       | none=>rw[e4] at ec;cases ec
       | some t =>
        rw[e4] at ec;refine⟨Bp,δ',t,en4,e4,λH5 s5=>?_⟩;cases t with
        | false =>
         rw[if_neg C7];exact⟨items.length - (i+1),by omega,rfl,hlt,s5 _ _ hD,s2.trans s5,by omega,pre,rest,ho,rp.same s5,ec⟩
        | true =>
         rw[if_pos rfl];dsimp only at ec;cases e5:ge δ' with
         | none=>rw[e5] at ec;cases ec
         | some yd =>
          rw[e5] at ec;dsimp only at ec;cases e6:N7 f gt ge (zu0 n caps δ) (items.drop (i+1)) with
          | none=>rw[e6] at ec;cases ec
          | some rest' =>
           rw[e6] at ec;cases ec;refine⟨Bp,δ',yd,en4.same s5,e5,λv H6 s6 r6=>?_⟩;have a1:H6 L=some (.lst ys):=s6 _ _ (s5 _ _ hD);have g6:Gr H6 (upd H6 L (.lst (ys++[v]))) Bp Bp:=λb o nb hb=>⟨nb,by
            rw[Z2 (λz=>nb (by rw[z];exact a0))];exact hb⟩
           refine⟨a1,by omega,items.length - (i+1),by omega,rfl,hlt,Z4,⟨λb o hb=>?_,λb ob zs hb=>?_⟩,by simp;omega,pre++[yd],rest',by rw[ho];simp,?_,e6⟩
           ·have a3:b≠L:=λz=>by rw[z,hL] at hb;cases hb
            rw[Z2 a3];exact s6 _ _ (s5 _ _ (s2 _ _ hb))
           ·by_cases z:b=L
            ·rw[z,Z4] at hb;cases hb
            ·rw[Z2 z] at hb
             exact s2.nf _ _ _ (s5.nf _ _ _ (s6.nf _ _ _ hb))
           ·exact(Rps.snoc ((rp.same s5).same s6) r6).mono g6
    ·have e:i=items.length:=by omega
     subst e;refine .inl ⟨it.stop _ H2 (Gr.same s2) (A4 _),?_⟩;rw[List.drop_length] at ec;have a4:([]:List D)=rest:=B4 ec;subst a4;rw[List.append_nil] at ho;subst ho;refine k L H2 (s1.free hL) (s1.trans s2) ⟨ys,hD,?_⟩;rw[O] at rp;exact rp
  ·rw[if_neg hsz] at h;cases h
theorem o90{sc scope:Scope}{elt iter:Expr}{ifs:List Expr}{N':List Str}{n:Nat}{caps:List Nat}{gi:Ds->Option (List D)}{idx:List Nat}{f:D->Ds->Option Ds}{ge:Ds->Option D}
  (hc:X.calm=true) (hsc:X.env.scope=sc) (ok:CompOk sc scope X.N N' n caps) (hidx:∀j∈idx,j<n) (hi:PID X tg iter gi)
  (hg:∀cl s H ex,PGD (V3 X scope cl N' s H ex) tg idx f) (ht:∀cl s H ex,PFD (V3 X scope cl N' s H ex) ifs gt) (he:∀cl s H ex,PD (V3 X scope cl N' s H ex) elt ge)
  (hs:∀x,foldedSetIterable iter X.env x=pure x:=by intro _;rfl) :
  PDF X (.ListComp elt [⟨tg,iter,ifs,0⟩] scope pos) (R5 n caps gi f gt ge):=.mk λB δ =>
 (cg0 hc hsc ok (hi B δ) (g:=λv σ H Q=>∃B d δ,tDG X.K idx f B d δ v σ H Q) (tt:=fun σ H Q=>∃B δ,tDT X.K B δ gt σ H Q) (te:=fun σ H Q=>∃B δ,tD X.K B δ ge σ H Q)
  (λcl s H ex pins s' σ H v u Q I r ⟨B,d,δ,h⟩=>hg cl s _ ex B d δ pins s' σ H v u Q I r h)
  (λcl s H ex pins s' σ H Q I ⟨B,δ,h⟩=>ht cl s _ ex B δ pins s' σ H Q I h)
  (λcl s H ex pins s' σ H Q I ⟨B,δ,h⟩=>he cl s _ ex B δ pins s' σ H Q I h) hs).imp fun σ H Q h=>iw0 hidx h
theorem dz0{sc scope:Scope}{elt iter:Expr}{ifs:List Expr}{N':List Str}{n:Nat}{caps:List Nat}{gi:Ds->Option (List D)}{idx:List Nat}{f:D->Ds->Option Ds}{ge:Ds->Option D}
  (hc:X.calm=true) (hsc:X.env.scope=sc) (ok:CompOk sc scope X.N N' n caps) (hidx:∀j∈idx,j<n) (hi:PID X tg iter gi)
  (hg:∀cl s H ex,PGD (V3 X scope cl N' s H ex) tg idx f) (ht:∀cl s H ex,PFD (V3 X scope cl N' s H ex) ifs gt) (he:∀cl s H ex,PD (V3 X scope cl N' s H ex) elt ge)
  (hs:∀x,foldedSetIterable iter X.env x=pure x:=by intro _;rfl) :
  PD X (.ListComp elt [⟨tg,iter,ifs,0⟩] scope pos) (R5 n caps gi f gt ge):=(o90 hc hsc ok hidx hi hg ht he hs).pd
end
theorem vo0{N:List Str}:∀{ds:List D} {vs:List V},Rps K H B ds vs->Paired (SlR K H B) (vs.map some) (ds.map Sl.sh)
 | [],_,h=>by rw[m9] at h;subst h;exact .nil
 | d::ds,_,h=>by
  rw[o7] at h;obtain⟨x,r,rfl,h1,h2⟩:=h;exact .cons ⟨x,rfl,h1⟩ (vo0 (N:=N) h2)
theorem w60{es:D}(h:(W5 N ds)[i]?=some (.ow es)):False:=by
 unfold W5 at h
 by_cases hi:i<ds.length
 ·rw[List.getElem?_append_left (by simpa using hi),List.getElem?_map] at h
  cases q:ds[i]? with
  | none=>rw[q] at h;cases h
  | some d=>rw[q] at h;cases h
 ·rw[List.getElem?_append_right (by simpa using hi),List.getElem?_replicate] at h
  split at h<;>cases h
section
variable{P:Program}{w:World}
theorem okD{ps:List Str}{k:Nat}{f:List D->Option D}{G:Ds->Option Res}(F:Fun K x qual st fa fd)(S:FnScope N ps (p8 st))
  (body:∀(cdv:Value) (A:Around) (outer:List PySem.Env) (s:Shared) (H:Hp) (E:XK),Room k (A.deeper (envOfC qual (p8 st) s.heap.objs.size fa cdv))->PSsD (u50 CX0 P w K mg base N qual (p8 st) fa cdv A outer s H E).nox (d8 st) G)
  (hf:∀ds d,f ds=some d->ds.length=ps.length/\(G (W5 N ds)=some (.rt d)∨(d=.non/\∃δ,G (W5 N ds)=some (.nx δ))∨G (W5 N ds)=some (.rf d)/\isL d=false)) :
  FnOk P w K mg base CX0 (k+1) fa fd ps (spD K f):=by
 refine F.ok S (λvs H Q E ⟨B,ds,d,_,r,h,_⟩=>?_) (λcdv A outer s H vs Q E hr ⟨B,ds,d,hb,r,h,q⟩=>?_)
 ·rw[r.length];exact(hf ds d h).1
 ·refine⟨_,body cdv A outer s H E hr H B (W5 N ds),?_⟩
  have en:EnvS K H B H (L2.start N vs) (W5 N ds):=by
   refine⟨Same.refl H,⟨B,λ_ z=>z,λ_ z=>.inl z,⟨?_,hb,λi j a J es h1 _ _ _=>(w60 h1).elim⟩⟩,λi J a h1 _=>(w60 h1).elim,hb⟩;unfold L2.start W5;rw[r.length];exact Pd.app (vo0 (N:=N) r) (sd0 _)
  rcases (hf ds d h).2 with e|⟨rfl,δ,e⟩|⟨e,hn⟩
  ·exact⟨_,en,e,λv H' s' r'=>q v H' s' r'⟩
  ·exact⟨_,en,e,fun σ' H' en'=>q .non H' en'.same (by rw[S9])⟩
  ·exact⟨_,en,e,λp H' hp s' r'=>q _ H' s' ((r'.toO hn).rp (λa z=>.inl z) (λz=>hb p z hp))⟩
def spN(K:W.Frag)(f:List D->Option D):Sp:=λvs H Q _=>∃(B:BS) (ds:List D) (d:D),(∀a,B a->NB (H a))/\Rps K H B ds vs/\f ds=some d/\∀p H',H p=none->Same H H'->RpO K H' (λa=>B a∨a=p) d p->Q (.ref p) H'
theorem okN{ps:List Str}{k:Nat}{f:List D->Option D}{G:Ds->Option Res}(F:Fun K x qual st fa fd)(S:FnScope N ps (p8 st))
  (body:∀(cdv:Value) (A:Around) (outer:List PySem.Env) (s:Shared) (H:Hp) (E:XK),Room k (A.deeper (envOfC qual (p8 st) s.heap.objs.size fa cdv))->PSsD (u50 CX0 P w K mg base N qual (p8 st) fa cdv A outer s H E).nox (d8 st) G)
  (hf:∀ds d,f ds=some d->ds.length=ps.length/\G (W5 N ds)=some (.rf d)/\isL d=false) :
  FnOk P w K mg base CX0 (k+1) fa fd ps (spN K f):=by
 refine F.ok S (λvs H Q E ⟨B,ds,d,_,r,h,_⟩=>?_) (λcdv A outer s H vs Q E hr ⟨B,ds,d,hb,r,h,q⟩=>?_)
 ·rw[r.length];exact(hf ds d h).1
 ·refine⟨_,body cdv A outer s H E hr H B (W5 N ds),?_⟩
  have en:EnvS K H B H (L2.start N vs) (W5 N ds):=by
   refine⟨Same.refl H,⟨B,λ_ z=>z,λ_ z=>.inl z,⟨?_,hb,λi j a J es h1 _ _ _=>(w60 h1).elim⟩⟩,λi J a h1 _=>(w60 h1).elim,hb⟩;unfold L2.start W5;rw[r.length];exact Pd.app (vo0 (N:=N) r) (sd0 _)
  exact⟨_,en,(hf ds d h).2.1,λp H' hp s' r'=>q p H' hp s' (r'.toO (hf ds d h).2.2)⟩
end
end DL
namespace L2
open Spec PyProof.Rows
theorem pw0:∀{ys:List Str} {us:List Value},Vals (ys.map V.str) us->StrsAre us ys
 | [],_,r=>by rw[List.map_nil] at r;cases r;exact .nil
 | y::ys,_,r=>by
  rw[List.map_cons] at r;cases r with
  | cons r1 r2 =>
   obtain⟨t,e⟩:=r1;subst e;exact .cons y t (pw0 r2)
theorem ch0:MtR X "str.join" (λx xs H Q=>∃(sep:Str) (p:Addr) (ys:List Str),x=.str sep/\xs=[.ref p]/\SqL X.K H p (ys.map V.str)/\(ys.map (·.length)).sum+ys.length*sep.length<=16777216/\Q (.str (Txt.join sep ys)) H):=by
 intro pins s σ H x xs v us Q I rx rs h;obtain⟨sep,p,ys,rfl,rfl,hq,hz,q⟩:=h;obtain⟨t,rfl⟩:=rx;obtain⟨u,rfl,ru⟩:=rs.one;cases ru;obtain⟨its,rv,pl,_⟩:=I.list hq;exact join_list pl.isList (by simpa using pw0 rv) hz λt' k=>⟨.str _,H,I.tok k,⟨t',rfl⟩,q⟩
theorem part_of{o:Option Int}(p:IsPart u o):∃l:Option (Int×Tok),u=partValue l/\l.map (·.1)=o:=by
 cases p with
 | none=>exact⟨none,rfl,rfl⟩
 | int i t=>exact⟨some (i,t),rfl,rfl⟩
theorem bt0:SlR X (λx lo hi H Q=>∃z,x=.str z/\z.length<=sizeLine/\Q (.str (Txt.slice z lo hi)) H):=by
 intro pins s σ H x v vl vu lo hi sl Q I rx hs pl pu h;obtain⟨z,rfl,hz,q⟩:=h;obtain⟨t,rfl⟩:=rx;obtain⟨l,rfl,rfl⟩:=part_of pl;obtain⟨u,rfl,rfl⟩:=part_of pu;refine⟨"str",_,F.slot_str_getitem.lookup,P8 _ _ _,wpAny_getItem_str_slice (l:=l) (u:=u) (st:=none) ?_ rfl (post_val_or_str ⟨C5 (Txt.slice_le z _ _) hz,λt' k=>⟨.str _,H,I.tok k,⟨t',rfl⟩,q⟩⟩)⟩;obtain⟨o,h1,h2,h3⟩:=hs;exact⟨o,h1,h2,h3⟩
end L2
namespace DL
open Spec PyProof.Rows L2
def tyD:D->String
 | .non => "NoneType"|.bl _ => "bool"|.int _ => "int"|.str _ => "str"|.tup _ => "tuple"|.lst _ => "list"|.dct _ _ => "dict"|.fn _ _ => "function"
def okT(T:String)(f:D->Bool):Prop:=∀(K:W.Frag) (d:D),W.kitOne K (.type (tyD d)) (.type T)=some (f d)
theorem ce0:okT "int" isInt:=λK d=>by cases d<;>kernel_rfl
theorem gt0:okT "bool" isBool:=λK d=>by cases d<;>kernel_rfl
theorem K5:okT "tuple" isTup:=λK d=>by cases d<;>kernel_rfl
theorem fi0:okT "list" e50:=λK d=>by cases d<;>kernel_rfl
section
theorem gb0{T:String}{f:D->Bool}(hT:okT T f):CallR X (.builtin "isinstance") (λxs H Q=>∃B d x,xs=[x,.ty T]/\Rp X.K H B d x/\Q (.bl (f d)) H):=by
 intro pins s σ H xs us Q I rs h;obtain⟨B,d,x,rfl,r,q⟩:=h;obtain⟨u,c,rfl,ru,rc⟩:=rs.two;obtain rfl:c=Value.type T:=rc;have fin:∀tk,EP X pins σ Q (.bool (f d)) { s with toks:=tk }:=λtk=>⟨.bl _,H,I.tok tk,rfl,q⟩
 have e:=hT X.K d;cases d with
 | non=>rw[S9] at r;subst r;cases (show u=Value.none from ru);exact L1 W.kitx_none I.kIn True.intro e (λz=>nomatch z) fin
 | bl y=>rw[X8] at r;subst r;cases (show u=Value.bool y from ru);exact L1 W.kitx_bool I.kIn True.intro e (λz=>nomatch z) fin
 | int i=>rw[m8] at r;subst r;obtain⟨t,rfl⟩:=(show ∃t,u=Value.int i t from ru);exact L1 W.kitx_int I.kIn True.intro e (λz=>nomatch z) fin
 | str y=>rw[Y5] at r;subst r;obtain⟨t,rfl⟩:=(show ∃t,u=Value.str y t from ru);exact L1 W.kitx_str I.kIn True.intro e (λz=>nomatch z) fin
 | tup ds =>
  rw[X3] at r;obtain⟨a,xs,rfl,hq,_⟩:=r;cases (show u=Value.ref a from ru);obtain⟨its,_,p,_⟩:=I.tuple hq.to;obtain⟨o,h1,h2,_⟩:=p;exact L1 W.kitx_tuple I.kIn ⟨o,h1,h2⟩ e (λz=>nomatch z) fin
 | lst ds =>
  rw[X7] at r;obtain⟨a,xs,rfl,hq,_⟩:=r;cases (show u=Value.ref a from ru);obtain⟨its,_,p,_⟩:=I.list hq.to;obtain⟨o,n,h1,h2,_⟩:=p;exact L1 W.kitx_list I.kIn ⟨o,h1,h2⟩ e (λz=>nomatch z) fin
 | dct ks ds =>
  rw[xj0] at r;obtain⟨a,xs,rfl,_,hq,_⟩:=r;cases (show u=Value.ref a from ru);cases ks with
  | inl ks =>
   obtain⟨_,_,vs,_,p⟩:=(show ObjOk X.prog X.w H s.heap a (.dK (ks.zip xs)) from I.hok a _ hq);obtain⟨o,es,ep,h1,h2,_⟩:=p;exact L1 W.kitx_dict I.kIn ⟨o,h1,h2.1⟩ e (λz=>nomatch z) fin
  | inr ks =>
   obtain⟨_,_,vs,_,o,es,ep,h1,h2,_⟩:=(show ObjOk X.prog X.w H s.heap a (.dT (ks.zip xs)) from I.hok a _ hq);exact L1 W.kitx_dict I.kIn ⟨o,h1,h2.1⟩ e (λz=>nomatch z) fin
 | fn ks ds =>
  rw[lu0] at r;obtain⟨a,xs,rfl,hq,_⟩:=r;cases (show u=Value.ref a from ru);obtain⟨oF,_,_,_,_,_,_,_,_,⟨_,h1⟩,⟨h2,_⟩,_⟩:=hq;exact L1 KfT.kit I.kIn ⟨oF,(I.hok a _ h1).1,h2⟩ e (λz=>nomatch z) fin
theorem z00{T:String}{f:D->Bool}{Tn:Str}{p p2 pos:Pos}(hT:okT T f)(hb:bootBuiltins Tn=some (.type T))(hm:X.mg "isinstance"=none)(hmT:X.mg Tn=none)(h:PD X e g)(hg:Gl X "isinstance" := by rfl)(hgT:Gl X Tn:=by rfl)
  (hn:Tn ≠"__name__" := by decide) (hd:(Tn==("__debug__" : Str))=false:=by decide)
  (he:starEach [e,.Name Tn p2] X.env=(false,eval e X.env)::starEach [.Name Tn p2] X.env:=by rfl) (he2:starEach [.Name Tn p2] X.env=(false,eval (.Name Tn p2) X.env)::starEach [] X.env:=by rfl)
  (hpl:(backTo pos (starEach [.Name Tn p2] X.env)).any (·.1)=false:=by rfl) :
  PD X (.Call (.Name "isinstance" p) [e,.Name Tn p2] [] pos) (V7 f g) :=
 .mk λB δ=>(td0 (gb0 hT) hg hm PyProof.Rows.boot_isinstance (zn0 (h B δ) (zn0 (cx0 (v:=.ty T) hgT hmT hb rfl hn hd) wm0 he2) he) (by decide) (by decide) he hpl).imp fun σ H Q ⟨d,en,h,k⟩=>by
  unfold V7 at h;cases e1:g δ with
  | none=>rw[e1] at h;cases h
  | some x =>
   rw[e1] at h;cases h;exact⟨x,en,e1,λv H1 s1 r1=>⟨B,x,v,rfl,r1,k _ H1 s1 (by rw[X8])⟩⟩
theorem nv0{C:Int->Int->Prop}[∀i j,Decidable (C i j)]{g:Int->Int->V}{g':Int->Int->D}(hg:∀i j H B,Rp K H B (g' i j) (g i j)):Op2 K (rI C g) (ii λi j=>if C i j then some (g' i j) else none):=by
 intro H B x y dx dy d Q hb rx ry h k;cases dx<;>cases dy<;>simp only[ii] at h<;>try cases h
 rename_i i j;split at h
 ·cases h
  rw[m8] at rx ry;subst rx ry;exact⟨i,j,rfl,rfl,by assumption,k _ H (Same.refl H) (hg i j H B)⟩
 ·cases h
theorem s60{g:Int->Int->V}{g':Int->Int->D}(hg:∀i j H B,Rp K H B (g' i j) (g i j)):Op2 K (rI0 g) (ii λi j=>some (g' i j)):=by
 intro H B x y dx dy d Q hb rx ry h k;cases dx<;>cases dy<;>simp only[ii] at h<;>try cases h
 rename_i i j;rw[m8] at rx ry;subst rx ry;exact⟨i,j,rfl,rfl,k _ H (Same.refl H) (hg i j H B)⟩
instance decDiv(i j:Int):Decidable (g60 i j):=inferInstanceAs (Decidable (0<j/\j<1073741824))
instance decPow(i j:Int):Decidable (f00 i j):=inferInstanceAs (Decidable (0<=j/\j<=1000000/\i.natAbs<2 ^ 64))
variable{a:Expr}{ga:Ds->Option D}
theorem j00(ha:PD X a ga)(hb:PD X b gb):PD X (.BinOp a .Sub b pos) (o2 ga gb gs0):=v30 Z70 (s60 (g':=λi j=>.int (i - j)) λ_ _ _ _=>by rw[m8]) ha hb
theorem V2(ha:PD X a ga)(hb:PD X b gb):PD X (.BinOp a .FloorDiv b pos) (o2 ga gb Y4):=v30 db0 (nv0 (C:=g60) (g':=λi j=>.int (i/j)) λ_ _ _ _=>by rw[m8]) ha hb
theorem Z7(ha:PD X a ga)(hb:PD X b gb):PD X (.BinOp a .Mod b pos) (o2 ga gb d7):=v30 ao0 (nv0 (C:=λ_ j=>0<j) (g':=λi j=>.int (i%j)) λ_ _ _ _=>by rw[m8]) ha hb
theorem i90(ha:PD X a ga)(hb:PD X b gb):PD X (.BinOp a .Pow b pos) (o2 ga gb m00):=v30 Zh0 (nv0 (C:=f00) (g':=λi j=>.int (i ^ j.toNat)) λ_ _ _ _=>by rw[m8]) ha hb
end
end DL
namespace L2
open Spec PyProof.Rows
def e90(K:W.Frag):R2:=λx y H Q=>∃l b xs zs,x=.ref l/\y=.ref b/\SqL K H l xs/\SqL K H b zs/\xs.length+zs.length<=sizeLine/\∀p,H p=none->Q (.ref p) (upd H p (.lst (xs++zs)))
theorem c30:OpR X (binaryOp .Add) (e90 X.K):=by
 intro pins s σ H x y v u Q I rx ry h;obtain⟨l,b,xs,zs,rfl,rfl,hH,hB,hz,q⟩:=h;cases rx;cases ry;obtain⟨its,r,p1,z1⟩:=I.list hH;obtain⟨J,r2,p2,z2⟩:=I.list hB;obtain⟨⟨cls,dd,data,sl⟩,ho,hc,n,hd⟩:=p1.isList;obtain⟨⟨a0,Y,data2,U⟩,M,O,n2,S⟩:=p2.isList;simp only at hc hd O S;subst hc hd O S;have e:its.toArray++J.toArray=(its++J).toArray:=by simp
 have Z:its.toArray.size+J.toArray.size<=sizeLine:=by
  rw[List.size_toArray,List.size_toArray,← r.length,← r2.length];exact hz
 refine d4 ⟨_,ho,rfl⟩ ⟨_,M,rfl⟩ noFill_list_add seq_list_add PySem.F.slot_list_add PySem.F.entry_list_add (PySem.F.args_list_add_2 _ _) (list_addW l b its.toArray J.toArray n n2 dd Y sl U Z) ⟨ho,M,?_⟩;rw[e];exact⟨.ref _,_,I.lnew (t':=s.toks) (r.append r2) (by rw[List.length_append];exact hz),rfl,q _ I.fresh⟩
end L2
namespace DL
open Spec PyProof.Rows L2
section
variable{a:Expr}{ga:Ds->Option D}
theorem qg0(hb:∀a,B a->NB (H a)){p:Addr}(h:H p=none):¬B p:=λz=>hb p z h
theorem ri0{p:Addr}(hb:∀a,B a->NB (H a))(h:H p=none)(r:Rps K H B ds xs):Rp K (upd H p (.lst xs)) B (.lst ds) (.ref p):=by
 rw[X7];exact⟨p,xs,rfl,.inl ⟨qg0 hb h,.inl Z4⟩,r.same (Y7 h)⟩
theorem uh0{p:Addr}(hb:∀a,B a->NB (H a))(h:H p=none)(r:Rps K H B ds xs):Rp K (upd H p (.tup xs)) B (.tup ds) (.ref p):=by
 rw[X3];exact⟨p,xs,rfl,⟨qg0 hb h,Z4⟩,r.same (Y7 h)⟩
theorem yq0:Op2 K (rI0 λi j=>.bl (decide (i<j))) ltD:=s60 (g':=λi j=>.bl (decide (i<j))) λ_ _ _ _=>by rw[X8]
theorem ac0:Op2 K (rI0 λi j=>.bl (decide (i<=j))) leD:=s60 (g':=λi j=>.bl (decide (i<=j))) λ_ _ _ _=>by rw[X8]
theorem jx0:Op2 K (rI0 λi j=>.bl (decide (j<i))) gtD:=s60 (g':=λi j=>.bl (decide (j<i))) λ_ _ _ _=>by rw[X8]
theorem bv0{x y:V}{dx dy:D}{b:Bool}(rx:Rp K H B dx x)(ry:Rp K H B dy y)(h:eqS dx dy=some b):ap0 x y=true/\decide (x=y)=b:=by
 cases dx<;>cases dy<;>simp only[eqS] at h<;>try cases h
 all_goals
  simp only[S9,X8,m8,Y5] at rx ry;subst rx ry;refine⟨rfl,?_⟩;simp
theorem Q6:Op2 K rEq eqD:=by
 intro H B x y dx dy d Q hb rx ry h k;unfold eqD at h;cases e:eqS dx dy with
 | none=>rw[e] at h;cases h
 | some b =>
  rw[e] at h;cases h;obtain⟨h1,h2⟩:=bv0 rx ry e;exact⟨h1,by rw[h2];exact k _ H (Same.refl H) (by rw[X8])⟩
theorem rz0:Op2 K (λx y H Q=>y=.non/\Q (.bl (decide (x=.non))) H) ot0:=by
 intro H B x y dx dy d Q hb rx ry h k;have hy:dy=.non:=by cases dy<;>first|rfl|cases h
 subst hy;cases h;rw[S9] at ry;refine⟨ry,k _ H (Same.refl H) ?_⟩;rw[X8];cases dx<;>simp only[S9,X8,m8,Y5,X3,X7,xj0,lu0] at rx
 all_goals first
  | (subst rx;rfl)
  | (obtain⟨a,xs,rfl,_⟩:=rx;rfl)
theorem ae0(xs:List α)(i:Int):L2.atI xs i=DL.atI xs i:=rfl
theorem wl0(n d:Nat)(o:Option Int):HT.sIx n d o=sIx n d o:=by cases o<;>rfl
theorem mv0{i:Int}{d:D}(r:Rps K H B ds xs)(h:DL.atI ds i=some d):∃v,L2.atI xs i=some v/\Rp K H B d v:=by
 rw[ae0];unfold DL.atI at h ⊢;rw[r.length];cases e:DL.ixN ds.length i with
 | none=>rw[e] at h;cases h
 | some j =>
  rw[e] at h;exact r.get h
theorem Zr0:Op2 K (rIx K) ixD:=by
 intro H B x y dx dy d Q hb rx ry h k;cases dx<;>cases dy<;>simp only[ixD] at h<;>try cases h
 ·split at h
  ·rename_i hz
   rw[Y5] at rx;rw[m8] at ry;subst rx ry;obtain⟨c,hc,rfl⟩:=g9.mp h;exact .inr (.inr ⟨_,_,c,rfl,rfl,hz,hc,k _ H (Same.refl H) (by rw[Y5])⟩)
  ·cases h
 ·rw[X3] at rx
  rw[m8] at ry;subst ry;obtain⟨a,xs,rfl,q,r⟩:=rx;obtain⟨v,hv,rv⟩:=mv0 r h;exact .inr (.inl ⟨a,xs,_,v,rfl,rfl,q.to,hv,k _ H (Same.refl H) rv⟩)
 ·rw[X7] at rx
  rw[m8] at ry;subst ry;obtain⟨a,xs,rfl,q,r⟩:=rx;obtain⟨v,hv,rv⟩:=mv0 r h;exact .inl ⟨a,xs,_,v,rfl,rfl,q.to,hv,k _ H (Same.refl H) rv⟩
theorem o4(ha:PD X a ga)(hb:PD X b gb)(hs:ro0 b:=by exact λ_ _=>rfl):PD X (.Subscript a b pos) (o2 ga gb ixD):=Xk0 Zn0 Zr0 ha hb hs
structure PDO(X:Cx)(e:Option Expr)(g:Ds->Option (Option Int)):Prop where
 mk::go:∀B δ,PO X e (fun σ H Q=>∃o,Env X.K H B σ δ/\g δ=some o/\∀H',Same H H'->Q o H')
instance{X:Cx}{e:Option Expr}{g:Ds->Option (Option Int)}:CoeFun (PDO X e g) (λ_=>∀B δ,PO X e (fun σ H Q=>∃o,Env X.K H B σ δ/\g δ=some o/\∀H',Same H H'->Q o H')):=⟨PDO.go⟩
theorem zy0:PDO X none N8:=.mk λB δ pins s σ H Q I ⟨o,en,h,k⟩=>by
 cases h;exact d00 pins s σ H Q I (k H (Same.refl H))
theorem G3(h:PD X e g):PDO X (some e) (someO g):=.mk λB δ pins s σ H Q I ⟨o,en,hq,k⟩=>by
 unfold someO at hq;cases e1:g δ with
 | none=>rw[e1] at hq;cases hq
 | some d =>
  rw[e1] at hq;cases d<;>simp[asI] at hq
  subst hq;exact cc0 (h B δ) pins s σ H Q I ⟨_,en,e1,λv H' s' r=>⟨_,by rw[m8] at r;exact r,k H' s'⟩⟩
theorem lj0(r:Rps K H B ds xs)(lo hi:Option Int):Rps K H B (cutD ds lo hi) (u30 xs lo hi):=by
 unfold cutD u30;rw[r.length,wl0,wl0];exact(r.drop _).take _
theorem zm0{d:D}(h:Rps K H B [d] xs):∃v,xs=[v]/\Rp K H B d v:=by
 rw[o7] at h;obtain⟨x,r,rfl,h1,h2⟩:=h;rw[m9] at h2;subst h2;exact⟨x,rfl,h1⟩
theorem bl0:FnR K (λxs H Q=>(∃z,xs=[.str z]/\z.length<=sizeLine/\Q (.int z.length) H)∨∃p ys,xs=[.ref p]/\(SqL K H p ys∨SqT K H p ys)/\Q (.int ys.length) H) X4:=by
 intro H B xs ds d Q hb r h k;unfold X4 at h;split at h
 ·split at h
  ·cases h
   obtain⟨v,rfl,r1⟩:=zm0 r;rw[Y5] at r1;subst r1;exact .inl ⟨_,rfl,by assumption,k _ H (Same.refl H) (by rw[m8])⟩
  ·cases h
 ·cases h
  obtain⟨v,rfl,r1⟩:=zm0 r;rw[X7] at r1;obtain⟨a,ys,rfl,q,rr⟩:=r1;exact .inr ⟨a,ys,rfl,.inl q.to,k _ H (Same.refl H) (by rw[m8,rr.length])⟩
 ·cases h
  obtain⟨v,rfl,r1⟩:=zm0 r;rw[X3] at r1;obtain⟨a,ys,rfl,q,rr⟩:=r1;exact .inr ⟨a,ys,rfl,.inr q.to,k _ H (Same.refl H) (by rw[m8,rr.length])⟩
 ·cases h
theorem S5(hm:X.mg "len"=none)(ha:PDA X [e] gA)(hg:Gl X "len" := by rfl)(he:starEach [e] X.env=(false,eval e X.env)::starEach [] X.env:=by rfl)(hpl:(backTo pos (starEach [] X.env)).any (·.1)=false:=by rfl) :
  PD X (.Call (.Name "len" p) [e] [] pos) (oA gA X4):=fr0 (nw0.or nc0) bl0 hm PySem.boot_len ha hg (by decide) (by decide) he hpl
theorem nd0:∀{ds:List D} {xs:List V} {bs:List Str},Rps K H B ds xs->vn0 ds=some bs->xs=bs.map V.str
 | [],_,_,r,h=>by
  cases h;rw[m9] at r;exact r
 | d::ds,_,bs,r,h=>by
  rw[o7] at r;obtain⟨x,t,rfl,r1,r2⟩:=r;cases d<;>simp only[vn0] at h<;>try cases h
  obtain⟨t',e,rfl⟩:=g9.mp h;rw[Y5] at r1;rw[r1,nd0 r2 e];rfl
theorem dq0{apos cpos:Pos}(ho:PD X o g)(ha:PDA X [e] gA)(hbase:attributeBase o "join" X.env (eval o X.env)=eval o X.env:=by rfl)
  (hfew:((backTo cpos (starEach [e] X.env)).all (λx=>!x.1)&&(backToKw cpos (keywordEach [] X.env)).all (λx=>x.1.isSome)
  &&decide ([e].length+([]:List Keyword).length+(if ([]:List Keyword).isEmpty then 0 else 1)<30))=true:=by rfl)
  (hline:(apos.endLine==cpos.line)=true:=by rfl) (hs:starEach [e] X.env=(false,eval e X.env)::starEach [] X.env:=by rfl) (hplain:(backTo cpos (starEach [] X.env)).any (·.1)=false:=by rfl) :
  PD X (.Call (.Attribute o "join" apos) [e] [] cpos) (ui0 g gA):=.mk λB δ =>
 (e80 F.plainAttrs_str F.slot_str_join F.type_str_join ch0 (ho B δ) (ha B δ) hbase hfew hline hs hplain).imp fun σ H Q ⟨d,en,h,k⟩=>by
  unfold ui0 at h;cases e1:g δ with
  | none=>rw[e1] at h;cases h
  | some x =>
   cases e2:gA δ with
   | none=>rw[e1,e2] at h;cases h
   | some ds =>
    rw[e1,e2] at h;simp only[Option.bind_some] at h;unfold pa0 at h;split at h
    ·cases e3:vn0 _ with
     | none=>rw[e3] at h;cases h
     | some ys =>
      rw[e3] at h;simp only[Option.bind_some] at h;split at h
      ·cases h
       refine⟨_,en,e1,λv H1 s1 r1=>?_⟩;rw[Y5] at r1;subst r1;refine⟨rfl,_,en.same s1,e2,λvs H2 s2 r2=>?_⟩;obtain⟨w,rfl,r3⟩:=zm0 r2;rw[X7] at r3;obtain⟨a,zs,rfl,q,rr⟩:=r3;have:=nd0 rr e3;subst this;exact⟨_,a,ys,rfl,rfl,q.to,by assumption,k _ H2 (s1.trans s2) (by rw[Y5])⟩
      ·cases h
    ·cases h
theorem y90:FnR K (λxs H Q=>∃p ys,xs=[.ref p]/\((SqL K H p ys/\∀l,H l=none->Q (.ref l) (upd H l (.tup ys)))∨(SqT K H p ys/\Q (.ref p) H))) O1:=by
 intro H B xs ds d Q hb r h k;unfold O1 at h;split at h
 ·cases h
  obtain⟨v,rfl,r1⟩:=zm0 r;rw[X7] at r1;obtain⟨a,ys,rfl,q,rr⟩:=r1;exact⟨a,ys,rfl,.inl ⟨q.to,λl hl=>k _ _ (Y7 hl) (uh0 hb hl rr)⟩⟩
 ·cases h
  obtain⟨v,rfl,r1⟩:=zm0 r;have J:=r1;rw[X3] at r1;obtain⟨a,ys,rfl,q,rr⟩:=r1;exact⟨a,ys,rfl,.inr ⟨q.to,k _ H (Same.refl H) J⟩⟩
 ·cases h
end
section
variable{a:Expr}{ga:Ds->Option D}
theorem xm0(h:PD X a ga):PD X (.UnaryOp .USub a pos) (unG zs0 ga):=.mk λB δ=>(Y40 ba0 (h B δ)).imp fun σ H Q ⟨d,en,h,k⟩=>by
 unfold unG at h;cases e1:ga δ with
 | none=>rw[e1] at h;cases h
 | some x =>
  rw[e1] at h;cases x<;>simp[zs0] at h
  subst h;exact⟨_,en,e1,λv H' s r=>⟨_,by rw[m8] at r;exact r,k _ H' s (by rw[m8])⟩⟩
def FnD(P:Program)(w:World)(K:W.Frag)(mg:Str->Option Value)(base:Heap)(x:Str)(k:Nat)(ps:List Str)(f:List D->Option D):Prop :=
 ∃(fa:Addr) (fd:FuncData),FnOk P w K mg base CX0 k fa fd ps (spD K f)/\mg x=some (.ref fa)/\W.keepIn K (.ref fa)=true/\Binds K fd ps []
theorem d9{k:Nat}{ps:List Str}{f:List D->Option D}(C:FnD X.prog X.w X.K X.mg X.base x k ps f)(hr:Room m X.A)(hk:k<=m)(ha:PDA X (e::es) gA)(hg:Gl X x:=by rfl)(hdb:(x==("__debug__" : Str))=false:=by decide)
  (he:starEach (e::es) X.env=(false,eval e X.env)::starEach es X.env:=by rfl) (hpl:(backTo pos (starEach es X.env)).any (·.1)=false:=by rfl):PD X (.Call (.Name x p) (e::es) [] pos) (oA gA f):=by
 obtain⟨fa,fd,F,hm,kp,hb⟩:=C;exact do0 F (hr.mono hk) hm kp hb ha hg hdb he hpl
theorem up0{sc scope:Scope}{elt iter tg:Expr}{ifs:List Expr}{N N':List Str}{n:Nat}{caps:List Nat}{gi:Ds->Option (List D)}{idx:List Nat}{f:D->Ds->Option Ds}{gt:Ds->Option Bool}{ge:Ds->Option D}
  (ok:CompOk sc scope N N' n caps) (hidx:∀j∈idx,j<n) (hi:PID X tg iter gi)
  (hg:∀cl s H ex,PGD (V3 X scope cl N' s H ex) tg idx f) (ht:∀cl s H ex,PFD (V3 X scope cl N' s H ex) ifs gt) (he:∀cl s H ex,PD (V3 X scope cl N' s H ex) elt ge)
  (hc:X.calm=true:=by rfl) (hsc:X.env.scope=sc:=by rfl) (hN:X.N=N:=by rfl) (hs:∀x,foldedSetIterable iter X.env x=pure x:=by intro _;rfl) :
  PD X (.ListComp elt [⟨tg,iter,ifs,0⟩] scope pos) (R5 n caps gi f gt ge):=dz0 hc hsc (hN▸ok) hidx hi hg ht he hs
end
end DL
namespace DL
open Spec PyProof.Rows
@[simp] def zd0:Sl->Sl
 | .ow d=>.sh (unl d)
 | s=>s
@[simp] def frz(δ:Ds):Ds:=δ.map zd0
@[simp] def flat:D->Bool
 | .non=>true|.bl _=>true|.int _=>true|.str _=>true|_=>false
@[simp] def yx0(g:GE):GE:=fun δ=>(g (frz δ)).bind λd=>if flat d=true then some d else none
@[simp] def zz0(g:GB):GB:=fun δ=>g (frz δ)
@[simp] def zt0(g:GE):GE:=fun δ=>g (frz δ)
@[simp] def T7(i:Nat)(g:GE):GS:=fun δ=>(g δ).map λd=>.nx (δ.set i (.ow d))
abbrev GX:=Ds->Option (D×Ds)
@[simp] def O4(g:GE):GX:=fun δ=>(g δ).map λd=>(d,δ)
variable{gx:DL.GX}
@[simp] def M4(gx:GX)(ft:D->Ds->Option Ds):GS:=fun δ=>(gx δ).bind λr=>(ft r.1 r.2).map .nx
@[simp] def W3(gx:GX):GS:=fun δ=>(gx δ).map λr=>.nx r.2
@[simp] def owL(i:Nat)(δ:Ds):Option (List D):=match δ[i]? with
 | some (.ow (.lst ds))=>some ds
 | _=>none
@[simp] def U5(i:Nat)(g:GE):GX:=fun δ=>(owL i δ).bind λds=>(g δ).bind λd=>if ds.length<sizeLine then some (.non,δ.set i (.ow (.lst (ds++[d])))) else none
@[simp] def ub0(i:Nat):GX:=fun δ=>(owL i δ).bind λds=>(ds.getLast?).map λd=>(d,δ.set i (.ow (.lst ds.dropLast)))
@[simp] def setAt(i:Nat)(g:GE):D->Ds->Option Ds:=λv δ=>(owL i δ).bind λds=>(g δ).bind λd=>match d with
 | .int k=>(ixN ds.length k).map λj=>δ.set i (.ow (.lst (ds.set j v)))
 | _=>none
abbrev J2:=Sum Int Str
@[simp] def w90:D->Option J2
 | .int i=>some (.inl i)
 | .str x=>some (.inr x)
 | _=>none
def vu0:List D->Option (List J2)
 | []=>some []
 | d::ds=>(w90 d).bind λk=>(vu0 ds).map (k::·)
@[simp] def za0:D->Option (List J2)
 | .tup ds=>vu0 ds
 | _=>none
def zq0{κ:Type}[DecidableEq κ]:List κ->List D->κ->Option D
 | k::ks,d::ds,q=>if k=q then some d else zq0 ks ds q
 | _,_,_=>none
def N6{κ:Type}[DecidableEq κ](ks:List κ)(k:κ):Bool:=ks.any λq=>decide (q=k)
def zk0{κ:Type}[DecidableEq κ](ks:List κ)(k:κ):List κ:=if N6 ks k=true then ks else ks++[k]
def ya0{κ:Type}[DecidableEq κ](ks:List κ)(ds:List D)(q:κ)(v:D):List D:=if N6 ks q=true then (ks.zip ds).map (λp=>if p.1=q then v else p.2) else ds++[v]
@[simp] def ue0(i:Nat)(δ:Ds):Option (List (List J2)×List D):=match δ[i]? with
 | some (.ow (.dct (.inr ks) ds))=>some (ks,ds)
 | _=>none
@[simp] def z90(i:Nat)(g:GE):D->Ds->Option Ds:=λv δ=>(ue0 i δ).bind λr=>(g δ).bind λd=>(za0 d).bind λk =>
 if r.1.length<sizeLine then some (δ.set i (.ow (.dct (.inr (zk0 r.1 k)) (ya0 r.1 r.2 k v)))) else none
@[simp] def yo0:D->D->Option D
 | .dct ks ds,d=>match ks with
  | .inl ks=>(w90 d).bind λk=>zq0 ks ds k
  | .inr ks=>(za0 d).bind λk=>zq0 ks ds k
 | _,_=>none
@[simp] def R8(neg:Bool):D->D->Option D
 | d,.dct ks ds=>match ks with
  | .inl ks=>(w90 d).map λk=>.bl (xor neg (N6 ks k))
  | .inr ks=>(za0 d).map λk=>.bl (xor neg (N6 ks k))
 | _,_=>none
def Q3(gt:GB)(G:GS):Nat->Ds->Option Res
 | 0,_=>none
 | n+1,δ=>match gt δ with
  | some false=>some (.nx δ)
  | some true=>match G δ with
   | some (.nx δ')=>Q3 gt G n δ'
   | some (.ct δ')=>Q3 gt G n δ'
   | some (.bk δ')=>some (.nx δ')
   | r=>r
  | none=>none
@[simp] def J9(i j:Nat):D->Ds->Option Ds
 | .tup [a,b],δ=>some ((δ.set i (.sh a)).set j (.sh b))
 | _,_=>none
mutual
def deq:D->D->Bool
 | .non,.non=>true
 | .bl a,.bl b=>a==b
 | .bl a,.int b=>(if a then 1 else 0)==b
 | .int a,.bl b=>a==(if b then 1 else 0)
 | .int a,.int b=>a==b
 | .str a,.str b=>a==b
 | .tup xs,.tup ys=>J4 xs ys
 | .lst xs,.lst ys=>J4 xs ys
 | _,_=>false
def J4:List D->List D->Bool
 | [],[]=>true
 | x::xs,y::ys=>deq x y&&J4 xs ys
 | _,_=>false
end
mutual
def lean:D->Nat->Bool
 | .dct _ _,_=>false
 | .fn _ _,_=>false
 | .tup xs,n+1=>leans xs n
 | .lst xs,n+1=>leans xs n
 | .tup _,0=>false
 | .lst _,0=>false
 | _,_=>true
def leans:List D->Nat->Bool
 | [],_=>true
 | x::xs,n=>lean x n&&leans xs n
end
@[simp] def yv0(x y:D):Option D:=if lean x 50=true/\lean y 50=true then some (.bl (deq x y)) else none
@[simp] def Q5(x y:D):Option D:=if lean x 50=true/\lean y 50=true then some (.bl (!deq x y)) else none
@[simp] def intOfD:List D->Option D
 | [.int i]=>some (.int i)
 | [.bl k]=>some (.int (if k then 1 else 0))
 | _=>none
@[simp] def u60:List D->Option D
 | [.lst ds]=>some (.lst ds)
 | [.tup ds]=>some (.lst ds)
 | _=>none
def mkF(n:Nat)(N:List Str)(G:GS)(ds:List D):Option D:=if ds.length=n then (match G (W5 N ds) with
 | some (.rt d)=>some d
 | some (.rf d)=>if isL d=true then none else some d
 | some (.nx _)=>some .non
 | _=>none) else none
theorem V1{d:D}(h:mkF n N G ds=some d):ds.length=n/\(G (W5 N ds)=some (.rt d)∨(d=.non/\∃δ,G (W5 N ds)=some (.nx δ))∨G (W5 N ds)=some (.rf d)/\isL d=false):=by
 unfold mkF at h;split at h
 ·rename_i hl
  refine⟨hl,?_⟩;split at h
  ·rename_i e;cases h;exact .inl e
  ·rename_i e
   split at h
   ·cases h
   ·rename_i hn
    cases h;exact .inr (.inr ⟨e,B80.mpr hn⟩)
  ·rename_i e;cases h;exact .inr (.inl ⟨rfl,_,e⟩)
  ·cases h
 ·cases h
def mkN(n:Nat)(N:List Str)(G:GS)(ds:List D):Option D:=if ds.length=n then (match G (W5 N ds) with
 | some (.rf d)=>if isL d=true then none else some d
 | _=>none) else none
theorem wj0{d:D}(h:mkN n N G ds=some d):ds.length=n/\G (W5 N ds)=some (.rf d)/\isL d=false:=by
 unfold mkN at h;split at h
 ·rename_i hl
  refine⟨hl,?_⟩;split at h
  ·rename_i e
   split at h
   ·cases h
   ·rename_i hn
    cases h;exact⟨e,B80.mpr hn⟩
  ·cases h
 ·cases h
theorem G9{d:D}(hl:ds.length=n)(h:G (W5 N ds)=some (.rf d))(hn:isL d=false:=by rfl):mkN n N G ds=some d:=by
 unfold mkN;rw[if_pos hl,h];simp only[];rw[hn];rfl
@[simp] def y00(g:GE):GS:=fun δ=>(g δ).map .rf
@[simp] def lv0(i:Nat):GS:=fun δ=>match δ[i]? with
 | some (.ow d)=>some (.rf d)
 | _=>none
theorem J6{G1 G2:GS}{d:D}(h:G1 δ=some (.rf d)):v8 G1 G2 δ=some (.rf d):=by unfold v8;rw[h]
theorem yl0{g:GE}{d:D}(h:g δ=some d):y00 g δ=some (.rf d):=by unfold y00;rw[h];rfl
theorem j5{d:D}(hl:ds.length=n)(h:G (W5 N ds)=some (.rt d)):mkF n N G ds=some d:=by
 unfold mkF;rw[if_pos hl,h]
theorem v9{G1 G2:GS}{r:Option Res}(h:G1 δ=some (.nx δ'))(k:G2 δ'=r):v8 G1 G2 δ=r:=(Zj0 h).trans k
@[simp] def j6:D->D->Option D
 | .int i,.int j=>some (.int (i+j))
 | .str x,.str y=>if x.length+y.length<=sizeLine then some (.str (x++y)) else none
 | .lst xs,.lst ys=>if xs.length+ys.length<=sizeLine then some (.lst (xs++ys)) else none
 | .tup xs,.tup ys=>if xs.length+ys.length<=sizeLine then some (.tup (xs++ys)) else none
 | _,_=>none
def lm0(x:Str)(n:Int):Str:=⟨(List.replicate n.toNat x.cps).foldl (·++·) #[]⟩
@[simp] def U6:D->D->Option D
 | .int i,.int j=>if (-(2 ^ 64)<i/\i<2 ^ 64)∨(-(2 ^ 64)<j/\j<2 ^ 64) then some (.int (i*j)) else none
 | .str x,.int n=>if -(2 ^ 62)<=n/\n<2 ^ 62/\x.length*n.toNat<=sizeLine then some (.str (lm0 x n)) else none
 | .tup xs,.int k=>if xs≠[]/\2<=k/\k<2 ^ 62/\xs.length*k.toNat<=sizeLine then some (.tup (List.replicate k.toNat xs).flatten) else none
 | _,_=>none
@[simp] def slA(d:D)(lo hi:Option Int):Option D:=match d with
 | .str z=>if z.length<=sizeLine then some (.str (Txt.slice z lo hi)) else none
 | .lst xs=>some (.lst (cutD xs lo hi))
 | .tup xs=>some (.tup (cutD xs lo hi))
 | _=>none
@[simp] def O3(g:GE)(gl gh:GO):GE:=fun δ=>(g δ).bind λd=>(gl δ).bind λl=>(gh δ).bind λh=>slA d l h
end DL
variable{gx:DL.GX}
namespace Dep
open Spec PyProof.Rows
section
variable{w:World}{K:Type}[DecidableEq K]{knd:HeapKind prog w K}{s:Shared}{d:Addr}{xs:List (K×Addr×Value)}{k:K}{Q:Unit->Shared->Prop}
def At(knd:HeapKind prog w K)(h:Heap)(d:Addr)(xs:List (K×Addr×Value)):Prop :=
 ∃o es ep,h.get? d=some o/\o.ExactDict/\o.data=.dict es ep/\es.toList=xs.map (entryOfKey knd)/\(∀x∈xs,knd.is h x.1 x.2.1)/\(xs.map (·.1)).Nodup/\ep=es.size
theorem At.old{h:Heap}(x:At knd h d xs):h.DictOfH knd d xs:=by obtain⟨o,es,ep,a,b,c,e,f,g,_⟩:=x;exact⟨o,es,ep,a,b,c,e,f,g⟩
theorem put(hu:knd.room A)(hkey:knd.is s.heap k a)(hm:At knd s.heap d xs)
  (hQ:∀h',At knd h' d (storedH xs k a v)->Heap.SameBut d s.heap h'->Q () { s with heap:=h',toks:=s.toks+knd.draws k }) (hsz:xs.length<=sizeLine) :
  wpAny (model prog w) A (dictSet d (.ref a) v) Q E s:=by
 obtain⟨o,es,ep,ho,hc,hd,he,J,hn,hp⟩:=hm;unfold dictSet
 try with_reducible refine C6 ?_
 refine A0 (knd.pyHash hu hkey ?_);unfold dictSetHashed
 try with_reducible refine C6 ?_
 refine A0 (wpAny_dictFind_heap (s:={ s with toks:=s.toks+knd.draws k }) hu hkey ho hd he J hn ?_ ?_)
 ·intro O
  have M:=atKey_none_of_get O;have S:k∉xs.map (·.1):=not_mem_keys_of_get O;refine A0 (D7 (wpAny_updateDictKeys (hz:=by have e:=size_of_entries he;omega) (s:={ s with toks:=s.toks+knd.draws k }) ho hd (hQ _ ?_ (P1 ..))));rw[storedH_new M];refine⟨_,_,ep+1,h8 _ ho (Obj.isFreed_of_dict (Obj.data_mapDictKeys hd _)),hc.mapDictKeys _,Obj.data_mapDictKeys hd _,by simp[he,entryOfKey],λx hx=>?_,?_,by simp[hp]⟩
  ·rcases C3.mp hx with hx|hx
   ·exact knd.keeps (J x hx) ho hd (P1 ..)
   ·rw[List.mem_singleton.mp hx];exact knd.keeps hkey ho hd (P1 ..)
  ·rw[List.map_append,List.nodup_append]
   exact⟨hn,by simp,λx hx y hy e=>S (by rw[List.map_cons,List.map_nil,List.mem_singleton] at hy;have e2:x=k:=e.trans hy;rw[← e2];exact hx)⟩
 ·intro j p hj
  have U:=atKey_of_get hn hj;refine A0 (D7 (A0 (wpAny_updateDict (s:={ s with toks:=s.toks+knd.draws k }) ho hd (wpAny_point (hQ _ ?_ (P1 ..))))));rw[storedH_old U];refine⟨_,_,ep,h8 _ ho (Obj.isFreed_of_dict (Obj.data_mapDict hd _)),hc.mapDict _,Obj.data_mapDict hd _,?_,λx hx=>?_,?_,by simp[hp]⟩
  ·have:=modify_map_putAt (entryOfKey knd) (λe:DictEntry=>{ e with val:=v }) k v (λ_ _=>rfl) hn hj
   rw[← he] at this;obtain⟨l⟩:=es
   simpa using this
  ·obtain⟨y,hy,rfl⟩:=A9.mp hx
   unfold putAt;split<;>exact knd.keeps (J y hy) ho hd (P1 ..)
  ·rw[keys_map_putAt];exact hn
theorem set(hu:knd.room A.in1)(hkey:knd.is s.heap k a)(hm:At knd s.heap d xs)
  (hQ:∀h',At knd h' d (storedH xs k a v)->Heap.SameBut d s.heap h'->Q () { s with heap:=h',toks:=s.toks+knd.draws k }) (hsz:xs.length<=sizeLine) :
  wpAny (model prog w) A (setItem (.ref d) (.ref a) v) Q E s:=by
 have ty:=hm.old.typeIs;unfold setItem
 try with_reducible refine C6 ?_
 refine A0 (A10 ty (by decide) ?_);refine A0 (E6 (name:=Str.ofString "__setitem__") ty slot_dict_setitem (D3 slot_dict_setitem ty entry_dict_setitem ?_ (args_dict_setitem _ _ _)));show wpAny _ _ (Builtin.Dict.notOrdered "__setitem__" ⟨[.ref d,.ref a,v],[]⟩>>=_) _ _ s;refine A0 (wpAny_notOrdered_dict ty ?_);show wpAny _ _ (dictSet d (.ref a) v>>=_) _ _ s;exact A0 (put hu hkey hm (λh' J M=>A1 ⟨.none,rfl,A1 (hQ h' J M)⟩) hsz)
end
end Dep
namespace L2
open Spec PyProof.Rows
section
variable[DecidableEq κ]
def y60(kvs:List (κ×V))(k:κ):Option V:=(kvs.find? λkv=>decide (kv.1=k)).map (·.2)
def putK(kvs:List (κ×V))(k:κ)(v:V):List (κ×V) :=
 if (kvs.any λkv=>decide (kv.1=k))=true then kvs.map (λkv=>if kv.1=k then (kv.1,v) else kv) else kvs++[(k,v)]
theorem xk0{p:κ×V}{r:List (κ×V)}{k:κ}(e:p.1=k):y60 (p::r) k=some p.2:=by simp[y60,List.find?_cons,e]
theorem xo0{p:κ×V}{r:List (κ×V)}{k:κ}(e:¬p.1=k):y60 (p::r) k=y60 r k:=by simp[y60,List.find?_cons,e]
theorem pq0(k:κ):∀kvs:List (κ×V),(kvs.any λkv=>decide (kv.1=k))=(y60 kvs k).isSome
 | []=>rfl
 | p::r=>by
  rw[List.any_cons]
  by_cases e:p.1=k
  ·simp only[xk0 e,decide_eq_true e,Bool.true_or,Option.isSome_some]
  ·rw[xo0 e,decide_eq_false e,Bool.false_or];exact pq0 k r
theorem wd0(kvs:List (κ×V))(k:κ)(v:V):(putK kvs k v).length<=kvs.length+1:=by
 unfold putK;split
 ·rw[List.length_map];omega
 ·rw[List.length_append,List.length_cons,List.length_nil];omega
theorem RelO.isSome_eq{o:Option V}{u:Option Value}(r:RelO o u):o.isSome=u.isSome:=by
 cases o with
 | none=>cases u with
  | none=>rfl
  | some _=>exact(show False from r).elim
 | some _=>cases u with
  | none=>exact(show False from r).elim
  | some _=>rfl
theorem KV.val{kvs:List (κ×V)}{vs:List (κ×Value)}(r:KV kvs vs)(k:κ):RelO (y60 kvs k) (valueAt vs k):=by
 unfold KV at r
 induction r with
 | nil=>exact True.intro
 | @cons p q ps qs h t ih =>
  obtain⟨h1,h2⟩:=h
  by_cases e:p.1=k
  ·have e':q.1=k:=h1.symm.trans e
   have b:valueAt (q::qs) k=some q.2:=by simp[valueAt,List.find?_cons,e']
   rw[xk0 e,b];exact h2
  ·have e':¬q.1=k:=λz=>e (h1.trans z)
   have b:valueAt (q::qs) k=valueAt qs k:=by simp[valueAt,List.find?_cons,e']
   rw[xo0 e,b];exact ih
theorem KV.any{kvs:List (κ×V)}{vs:List (κ×Value)}(r:KV kvs vs)(k:κ):(kvs.any λkv=>decide (kv.1=k))=vs.any λkv=>decide (kv.1=k):=by
 unfold KV at r
 induction r with
 | nil=>rfl
 | cons h t ih=>rw[List.any_cons,List.any_cons,ih,h.1]
theorem KV.repl{kvs:List (κ×V)}{vs:List (κ×Value)}(r:KV kvs vs)(k:κ){y:V}(ry:RelV y u) :
  KV (kvs.map λkv=>if kv.1=k then (kv.1,y) else kv) (vs.map λkv=>if kv.1=k then (kv.1,u) else kv):=by
 unfold KV at r ⊢
 induction r with
 | nil=>exact .nil
 | @cons p q ps qs h t ih =>
  rw[List.map_cons,List.map_cons];refine .cons ?_ ih;obtain⟨h1,h2⟩:=h
  by_cases e:p.1=k
  ·rw[if_pos e,if_pos (h1.symm.trans e)];exact⟨h1,ry⟩
  ·rw[if_neg e,if_neg (λz=>e (h1.trans z))];exact⟨h1,h2⟩
theorem KV.put{kvs:List (κ×V)}{vs:List (κ×Value)}(r:KV kvs vs)(k:κ){y:V}(ry:RelV y u):KV (putK kvs k y) (stored vs k u):=by
 unfold putK stored;rw[r.any k]
 by_cases e:(vs.any λkv=>decide (kv.1=k))=true
 ·rw[if_pos e,if_pos e];exact r.repl k ry
 ·rw[if_neg e,if_neg e];exact Paired.snoc r ⟨rfl,ry⟩
theorem KV.length{kvs:List (κ×V)}{vs:List (κ×Value)}(r:KV kvs vs):kvs.length=vs.length:=Paired.length r
end
theorem pc0{P:Program}{w:World}{k:Key}(r:RelV (kV k) u):(Q7 P w).is k u=true:=by
 cases k with
 | inl i=>obtain⟨t,e⟩:=(show ∃t,u=Value.int i t from r);subst e;exact mp0 P w i t
 | inr x=>obtain⟨t,e⟩:=(show ∃t,u=Value.str x t from r);subst e;exact mj0 P w x t
theorem qh0{P:Program}{w:World}:∀{ks:List Key} {us:List Value},Vals (ks.map kV) us->ItemsAre (Q7 P w) ks us
 | [],_,r=>by rw[List.map_nil] at r;cases r;exact .nil
 | k::ks,_,r=>by
  rw[List.map_cons] at r;cases r with
  | cons h t=>exact .cons (pc0 h) (qh0 t)
abbrev KT(H:Hp):List (List Key×V)->List (List Key×Addr×Value)->Prop:=Paired λp q=>p.1=q.1/\H q.2.1=some (.tup (p.1.map kV))/\RelV p.2 q.2.2
theorem KT.val{xs:List (List Key×Addr×Value)}(r:KT H kvs xs)(k:List Key):RelO (y60 kvs k) ((atKey xs k).map (·.2)):=by
 induction r with
 | nil=>exact True.intro
 | @cons p q ps qs h t ih =>
  obtain⟨h1,_,h2⟩:=h
  by_cases e:p.1=k
  ·have e':q.1=k:=h1.symm.trans e
   have b:atKey (q::qs) k=some q.2:=by simp[atKey,List.find?_cons,e']
   rw[xk0 e,b];exact h2
  ·have e':¬q.1=k:=λz=>e (h1.trans z)
   have b:atKey (q::qs) k=atKey qs k:=by simp[atKey,List.find?_cons,e']
   rw[xo0 e,b];exact ih
theorem KT.repl{xs:List (List Key×Addr×Value)}(r:KT H kvs xs)(k:List Key){y:V}(ry:RelV y u) :
  KT H (kvs.map λkv=>if kv.1=k then (kv.1,y) else kv) (xs.map (putAt k u)):=by
 induction r with
 | nil=>exact .nil
 | @cons p q ps qs h t ih =>
  rw[List.map_cons,List.map_cons];refine .cons ?_ ih;obtain⟨h1,h2,h3⟩:=h;unfold putAt
  by_cases e:p.1=k
  ·rw[if_pos e,if_pos (h1.symm.trans e)];exact⟨h1,h2,ry⟩
  ·rw[if_neg e,if_neg (λz=>e (h1.trans z))];exact⟨h1,h2,h3⟩
theorem KT.put{xs:List (List Key×Addr×Value)}(r:KT H kvs xs)(k:List Key){b:Addr}{y:V}(hb:H b=some (.tup (k.map kV)))(ry:RelV y u) :
  KT H (putK kvs k y) (storedH xs k b u):=by
 have e:(kvs.any λkv=>decide (kv.1=k))=(atKey xs k).isSome:=by
  rw[pq0,(r.val k).isSome_eq,Option.isSome_map]
 unfold putK storedH;rw[e]
 by_cases q:(atKey xs k).isSome=true
 ·rw[if_pos q,if_pos q];exact r.repl k ry
 ·rw[if_neg q,if_neg q];exact Paired.snoc r ⟨rfl,hb,ry⟩
theorem KT.keeps{xs:List (List Key×Addr×Value)}(r:KT H kvs xs)(ht:∀b ys,H b=some (.tup ys)->H' b=some (.tup ys)):KT H' kvs xs :=
 Paired.mapP r λ_ _ z=>⟨z.1,ht _ _ z.2.1,z.2.2⟩
section
variable{P:Program}{w:World}{h:Heap}
theorem ec0{u:HO}(ok:HOk P w H h)(e:Rd H a u):ObjOk P w H h a u:=e.ok ok
theorem pb0{kvs:List (Key×V)}(ok:HOk P w H h)(e:Rd H a (.dK kvs)):kvs.length<=sizeLine/\(a==sysModules)=false/\∃vs,KV kvs vs/\h.DictOf (Q7 P w) a vs :=
 show ObjOk P w H h a (.dK kvs) from ec0 ok e
theorem X30{kvs:List (Key×V)}(ok:HOk P w H h)(e:H a=some (.dK kvs)):kvs.length<=sizeLine/\(a==sysModules)=false/\∃vs,KV kvs vs/\h.DictOf (Q7 P w) a vs:=pb0 ok (.inl e)
theorem vl0(ok:HOk P w H h)(e:H a=some (.tup (ks.map kV))):(tupleKind (Q7 P w)).is h ks a:=by
 obtain⟨_,its,r,o,h1,h2,n,h3,_⟩:=(show ObjOk P w H h a (.tup (ks.map kV)) from ok a _ e);exact⟨o,its.toArray,n,h1,h2,h3,by simpa using qh0 r⟩
theorem pn0(ok:HOk P w H h)(e:Rd H a (.dT kvs)):kvs.length<=sizeLine/\(a==sysModules)=false /\
  ∃xs,KT H kvs xs/\Dep.At (tupleKind (Q7 P w)) h a xs:=by
 obtain⟨z,y,xs,r,o,es,ep,h1,h2,h3,h4,h5,h6⟩:=(show ObjOk P w H h a (.dT kvs) from ec0 ok e);refine⟨z,y,xs,r,o,es,ep,h1,h2,h3,h4,λx hx=>?_,h5,h6⟩;have all:∀{l:List (List Key×V)} {m:List (List Key×Addr×Value)},KT H l m->∀x∈m,(tupleKind (Q7 P w)).is h x.1 x.2.1:=by
  intro l m q
  induction q with
  | nil=>intro x hx;exact nomatch hx
  | @cons p q ps qs hq t ih =>
   intro x hx;rcases C0.mp hx with e|hx
   ·subst e
    exact vl0 ok (by rw[← hq.1];exact hq.2.1)
   ·exact ih x hx
 exact all r x hx
theorem k70(ok:HOk P w H h)(e:Rd H a (.dT kvs)):kvs.length<=sizeLine/\(a==sysModules)=false /\
  ∃xs,KT H kvs xs/\h.DictOfH (tupleKind (Q7 P w)) a xs:=by
 obtain⟨z,y,xs,r,d⟩:=pn0 ok e;exact⟨z,y,xs,r,d.old⟩
end
def DGet(H:Hp)(a:Addr)(y:V)(r:Option V):Prop :=
 (∃kvs k,Rd H a (.dK kvs)/\y=kV k/\r=y60 kvs k)∨∃kvs k b,Rd H a (.dT kvs)/\y=.ref b/\H b=some (.tup (k.map kV))/\r=y60 kvs k
def DPut(H:Hp)(a:Addr)(y v:V)(H':Hp):Prop :=
 (∃kvs k,H a=some (.dK kvs)/\y=kV k/\kvs.length<sizeLine/\H'=upd H a (.dK (putK kvs k v))) ∨
 ∃kvs k b,H a=some (.dT kvs)/\y=.ref b/\H b=some (.tup (k.map kV))/\kvs.length<sizeLine/\H'=upd H a (.dT (putK kvs k v))
theorem DGet.k{kvs:List (Key×V)}{k:Key}(e:H a=some (.dK kvs)):DGet H a (kV k) (y60 kvs k):=.inl ⟨kvs,k,.inl e,rfl,rfl⟩
theorem DGet.t{b:Addr}{k:List Key}(e:H a=some (.dT kvs))(eb:H b=some (.tup (k.map kV))):DGet H a (.ref b) (y60 kvs k):=.inr ⟨kvs,k,b,.inl e,rfl,eb,rfl⟩
theorem DPut.t{b:Addr}{k:List Key}{v:V}(e:H a=some (.dT kvs))(eb:H b=some (.tup (k.map kV)))(hl:kvs.length<sizeLine) :
  DPut H a (.ref b) v (upd H a (.dT (putK kvs k v))):=.inr ⟨kvs,k,b,e,rfl,eb,hl,rfl⟩
section
variable{σ:St}{s:Shared}{y v:V}{r:Value}{o:Option V}
theorem Inv.big(I:Inv X pins σ H s):sysModules<s.heap.objs.size:=by
 have h:mainGlobals<s.heap.objs.size:=(I.mod.glob.keeps I.bk).lt;exact Nat.lt_trans (by decide) h
theorem jg0(hu:A.units+1<cLine)(I:Inv X pins σ H s)(g:DGet H a y (some v))(ry:RelV y u)(h:∀w' s',Inv X pins σ H s'->RelV v w'->Q w' s') :
  wpAny (model X.prog X.w) A (getItem (.ref a) u) Q E s:=by
 rcases g with⟨kvs,k,e,ey,l⟩|⟨kvs,k,b,e,ey,eb,l⟩
 ·subst ey
  obtain⟨z,hd,vs,J,dd⟩:=pb0 I.hok e;obtain⟨w',hw,M⟩:=RelO.some_of (v:=v) (o:=valueAt vs k) (by rw[l];exact J.val k);exact wpAny_getItem_of (pc0 ry) dd.mapOf hw (h w' _ (I.tok _) M)
 ·subst ey
  cases (show u=Value.ref b from ry);obtain⟨z,hd,xs,J,dd⟩:=k70 I.hok e;obtain⟨w',hw,M⟩:=RelO.some_of (v:=v) (o:=(atKey xs k).map (·.2)) (by rw[l];exact J.val k);obtain⟨p,hp,O⟩:=g9.mp hw;refine wpAny_getItem_heap (A50 hu) (vl0 I.hok eb) dd hp ?_;rw[O];exact h w' _ (I.tok _) M
theorem c40(hu:A.units+1<cLine)(I:Inv X pins σ H s)(g:DGet H a y o)(ry:RelV y u)(h:∀s',Inv X pins σ H s'->Q (.bool (!o.isSome)) s') :
  wpAny (model X.prog X.w) A (compareOp .NotIn u (.ref a)) Q E s:=by
 rcases g with⟨kvs,k,e,ey,l⟩|⟨kvs,k,b,e,ey,eb,l⟩
 ·subst ey
  obtain⟨z,hd,vs,J,dd⟩:=pb0 I.hok e;refine wpAny_notIn_of (pc0 ry) hd dd.mapOf ?_;rw[← (J.val k).isSome_eq,← l];exact h _ (I.tok _)
 ·subst ey
  cases (show u=Value.ref b from ry);obtain⟨z,hd,xs,J,dd⟩:=k70 I.hok e;refine wpAny_notIn_heap (A50 hu) (vl0 I.hok eb) hd dd ?_;have q:=(J.val k).isSome_eq;rw[Option.isSome_map] at q;rw[← q,← l];exact h _ (I.tok _)
theorem su0{t':Nat}{ob:HO}(I:Inv X pins σ H s)(mu:Mut (H a))(hs:Heap.SameBut a s.heap h')(he:∃q,h'.get? a=some q)(new:ObjOk X.prog X.w (upd H a ob) h' a ob) :
  Inv X pins σ (upd H a ob) { s with heap:=h',toks:=t' } :=
 I.write (x:=a) (e:=a) mu (.inl rfl) (λb q hb z=>(hs.2 b hb).trans z) he new
theorem b70{P:Program}{w:World}{H':Hp}{kvs:List (Key×V)}{vs:List (Key×Value)}(z:kvs.length<=sizeLine)(hd:(a==sysModules)=false)(rel:KV kvs vs)(dd:h'.DictOf (Q7 P w) a vs) :
  ObjOk P w H' h' a (.dK kvs):=⟨z,hd,vs,rel,dd⟩
theorem h20{Q:Unit->Shared->Prop}(hu:A.units+1<cLine)(I:Inv X pins σ H s)(g:DPut H a y v H')(ry:RelV y u)(rv:RelV v r)(h:∀s',Inv X pins σ H' s'->Q () s') :
  wpAny (model X.prog X.w) A (setItem (.ref a) u r) Q E s:=by
 rcases g with⟨kvs,k,e,ey,l,eH⟩|⟨kvs,k,b,e,ey,eb,l,eH⟩
 ·subst ey eH
  obtain⟨z,hd,vs,J,dd⟩:=X30 I.hok e;have hz:vs.length<=sizeLine:=by rw[← J.length];exact z
  have hl:(putK kvs k v).length<=sizeLine:=by have:=wd0 kvs k v;omega
  refine wpAny_setItem_pairs (hsz:=hz) (pc0 ry) dd λh' M hs=>h _ ?_
  have he:∃q,h'.get? a=some q:=let ⟨q,_,_,hq,_⟩:=M;⟨q,hq⟩
  exact su0 I (by rw[e];exact True.intro) hs he (b70 hl hd (J.put k rv) M)
 ·subst ey eH
  cases (show u=Value.ref b from ry);obtain⟨z,hd,xs,J,dd⟩:=pn0 I.hok (.inl e);have hz:xs.length<=sizeLine:=by rw[← Paired.length J];exact z
  have hl:(putK kvs k v).length<=sizeLine:=by have:=wd0 kvs k v;omega
  refine Dep.set (A50 hu) (vl0 I.hok eb) dd (λh' M hs=>h _ ?_) hz;obtain⟨q,es,ep,hq,h2,h3,h4,_,h5⟩:=M;refine su0 I (by rw[e];exact True.intro) hs ⟨q,hq⟩ ⟨hl,hd,_,(J.put k eb rv).keeps λc ys ec=>?_,q,es,ep,hq,h2,h3,h4,h5⟩;rw[Z2 (eo0 ec e (λz=>nomatch z))];exact ec
end
def fe0(i:Expr):Prop:=∀ov iv,subscripted i false ov iv=operate [ov,iv] (getItem ov iv)
theorem du0{prog:Program}{w:World}{A:Around}{E:Value->Shared->Prop}{s:Shared}{env:Env}{value slice:Expr}{pos:Pos}{T id:String}{Q:Value->Shared->Prop}
  (hl:typeLookup (.type T) "__getitem__"=pure (some (.builtin id))) (hs:fe0 slice)
  (h:wpAny (model prog w) A (eval value env) (λo s₁=>wpAny (model prog w) A (eval slice env) (λi s₂=>s₂.TypeIs o T/\wpAny (model prog w) A (getItem o i) Q E s₂) E s₁) E s) :
  wpAny (model prog w) A (eval (.Subscript value slice pos) env) Q E s:=by
 refine Subscript_ (D6 h (λo s₁ h₁=>D6 h₁ (λi s₂ h₂=>?_) λ_ _ x=>x) λ_ _ x=>x);obtain⟨hT,h₂⟩:=h₂;unfold subscriptTail;refine A0 ?_;rw[getitemInPython_of_ne hT.not_modules];refine A0 (A60 hT hl ?_);have fin:wpAny (model prog w) A (subscripted slice false o i) (λr s₃=>wpAny (model prog w) A (letTemporaryGo value o r>>=λ_=>pure r) Q E s₃) E s₂:=by
  rw[hs o i];exact wpAny_operating (D6 h₂ (λr s₃ h₃=>A0 (wpAny_letTemporaryGo (A1 h₃))) λ_ _ x=>x)
 first
  | exact A1 (A0 fin)
  | exact A0 (A1 (A0 fin))
  | exact A0 fin
theorem mk0{σ:St}{s:Shared}{y:V}{o:Option V}(I:Inv X pins σ H s)(g:DGet H a y o):s.TypeIs (.ref a) "dict" := by
 rcases g with⟨kvs,k,e,_,_⟩|⟨kvs,k,b,e,_,_,_⟩
 ·obtain⟨_,_,vs,_,dd⟩:=pb0 I.hok e
  exact dd.typeIs
 ·obtain⟨_,_,xs,_,dd⟩:=k70 I.hok e
  exact dd.typeIs
def Y80(td ty:TE):TE:=fun σ H Q=>td σ H λx H1=>ty σ H1 λy H2=>∃a v,x=.ref a/\DGet H2 a y (some v)/\Q v H2
def cq0(ty td:TE):TE:=fun σ H Q=>ty σ H λy H1=>td σ H1 λx H2=>∃a o,x=.ref a/\DGet H2 a y o/\Q (.bl (!o.isSome)) H2
section
variable{i:Expr}{ty:TE}
theorem d10(hu:X.A.units+1<cLine)(ho:PE X o td)(hi:PE X i ty)(hs:fe0 i):PE X (.Subscript o i pos) (Y80 td ty):=by
 intro pins s σ H Q I h;refine du0 PySem.F.slot_dict_getitem.lookup hs (thn (ho pins s σ H _ I h) λu s1 ⟨x,H1,I1,rx,q1⟩=>thn (hi pins s1 σ H1 _ I1 q1) λiv s2 ⟨y,H2,I2,ry,a,v,ex,g,q2⟩=>?_);subst ex;obtain rfl:u=Value.ref a:=rx;exact⟨mk0 I2 g,jg0 hu I2 g ry λw' s3 I3 J=>⟨v,H2,I3,J,q2⟩⟩
theorem g20(hu:X.A.units+1<cLine)(hi:PE X i ty)(ho:PE X o td):PC X .NotIn i o (cq0 ty td):=by
 intro pins s σ H Q I h;refine thn (hi pins s σ H _ I h) λiv s1 ⟨y,H1,I1,ry,q1⟩=>thn (ho pins s1 σ H1 _ I1 q1) λu s2 ⟨x,H2,I2,rx,a,ov,ex,g,q2⟩=>?_
 subst ex;obtain rfl:u=Value.ref a:=rx;exact c40 hu I2 g ry λs3 I3=>⟨.bl (!ov.isSome),H2,I3,rfl,q2⟩
end
theorem m70{P:Program}{w:World}(h:Heap)(hb:sysModules<h.objs.size):ObjOk P w H (h.push { cls:=.type "dict",data:=.dict #[] }) h.objs.size (.dT []) :=
 ⟨K2 _,An0.mpr (C1 (B8 hb)),[],.nil,_,#[],0,B9 _ rfl,⟨rfl,rfl,rfl⟩,rfl,rfl,P9,rfl⟩
def Z60:TE:=λ_ H Q=>∀p,H p=none->Q (.ref p) (upd H p (.dT []))
theorem gp0:PE X (.Dict [] [] pos) Z60:=λpins s σ H Q I h =>
 wpAny_Dict_empty ⟨.ref s.heap.objs.size,_,I.laid (a:=s.heap.objs.size) (o:=.dT []) (t':=s.toks) (λ_ _ q=>A8 _ q) (A4 _) (m70 s.heap I.big),rfl,h _ (I.hok.fresh (A4 _))⟩
def ig0:List (TE×TE)->St->Hp->(List (V×V)->Hp->Prop)->Prop
 | [],_,H,Q=>Q [] H
 | (tk,tv)::r,σ,H,Q=>tk σ H λx H1=>tv σ H1 λy H2=>ig0 r σ H2 λps H3=>Q ((x,y)::ps) H3
abbrev VV:List (V×V)->List (Value×Value)->Prop:=Paired λp q=>RelV p.1 q.1/\RelV p.2 q.2
def PPs(X:Cx)(pos:Pos)(keys:List (Option Expr))(values:List Expr)(trs:List (TE×TE)):Prop :=
 ∀(pins:List (Addr×Obj)) (s:Shared) (σ:St) (H:Hp) (Q:List (V×V)->Hp->Prop),Inv X pins σ H s->ig0 trs σ H Q ->
  wpAny (model X.prog X.w) X.A (evalPairs (pairTrees keys values X.env pos)) (λvs s'=>∃ps H',Inv X pins σ H' s'/\VV ps vs/\Q ps H') X.xe s
theorem ex0:PPs X pos [] [] []:=λpins s σ H Q I h=>pairTrees_nil_walk ⟨[],H,I,.nil,h⟩
theorem gz0{k v:Expr}{ks:List (Option Expr)}{vs:List Expr}{tk:TE}{trs:List (TE×TE)}(hk:PE X k tk)(hv:PE X v tv)(hr:PPs X pos ks vs trs) :
  PPs X pos (some k::ks) (v::vs) ((tk,tv)::trs):=λpins s σ H Q I h =>
 pairTrees_cons_walk (thn (hk pins s σ H _ I h) λu s1 ⟨x,H1,I1,rx,q1⟩=>thn (hv pins s1 σ H1 _ I1 q1) λw2 s2 ⟨y,H2,I2,ry,q2⟩ =>
  thn (hr pins s2 σ H2 _ I2 q2) λws s3 ⟨ps,H3,I3,J,q3⟩=>⟨(x,y)::ps,H3,I3,.cons ⟨rx,ry⟩ J,q3⟩)
end L2
namespace DL
open Spec PyProof.Rows L2
section
variable{σ σ':St}
theorem Gr.fresh{p:Addr}{o:HO}(h:H p=none):Gr H (upd H p o) B (λa=>B a∨a=p):=λb u n e=>by
 have hb:b≠p:=S6 e h;exact⟨λz=>z.elim n hb,by rw[Z2 hb];exact e⟩
theorem Gr.own{o:HO}(h:B a):Gr H (upd H a o) B B:=λb u n e=>⟨n,by rw[Z2 (λz=>n (by rw[z];exact h))];exact e⟩
theorem RpO.mono{d:D}(s:∀o,H a=some o->H' a=some o)(g:Gr H H' B B')(h:RpO K H B d a):RpO K H' B' d a:=by
 cases d<;>try exact h.elim
 ·obtain⟨xs,e,r⟩:=h;exact⟨xs,s _ e,r.mono g⟩
 ·obtain⟨xs,e,l,r⟩:=h;exact⟨xs,s _ e,l,r.mono g⟩
theorem RpL.mono{d:D}(s:∀o,H a=some o->H' a=some o)(g:Gr H H' B B')(h:RpL K H B d a):RpL K H' B' d a:=by
 cases d with
 | tup es=>obtain⟨ds,q,xs,e,r⟩:=h;exact⟨ds,q,xs,s _ e,r.mono g⟩
 | _=>exact(RpO.mono s g (RpL.toO rfl h)).toL
theorem Pd.impI{F G:α->β->Prop}:∀{l:List α} {m:List β},(∀(i:Nat) a b,l[i]?=some a->m[i]?=some b->F a b->G a b)->Paired F l m->Paired G l m
 | _,_,_,.nil=>.nil
 | _,_,h,.cons r t=>.cons (h 0 _ _ rfl rfl r) (Pd.impI (λi a b e1 e2=>h (i+1) a b (by simpa using e1) (by simpa using e2)) t)
theorem m40:∀{l:List α} {i:Nat} {a:α},l[i]?=some a->l.set i a=l
 | [],_,_,h=>by simp at h
 | x::l,0,a,h=>by simp at h;subst h;rfl
 | x::l,i+1,a,h=>by rw[List.set_cons_succ,m40 (by simpa using h)]
theorem Pd.setR{F:α->β->Prop}{a:α}{b:β}(r:F a b){l:List α}{m:List β}(e:l[i]?=some a)(h:Paired F l m):Paired F l (m.set i b):=by
 have:=Pd.set r i h
 rwa [m40 e] at this
theorem get_set{l:List α}{a b:α}(h:(l.set i a)[j]?=some b):(i=j/\a=b/\j<l.length)∨(i≠j/\l[j]?=some b):=by
 by_cases e:i=j
 ·subst e
  by_cases hl:i<l.length
  ·rw[List.getElem?_set_self hl] at h
   exact .inl ⟨rfl,B4 h,hl⟩
  ·rw[List.getElem?_eq_none (by simpa using hl)] at h;cases h
 ·rw[List.getElem?_set_ne e] at h
  exact .inr ⟨e,h⟩
theorem Env.at(e:Env K H B σ δ){d:D}(h:δ[i]?=some (.ow d)):∃a,σ[i]?=some (some (.ref a))/\B a/\RpL K H B d a:=by
 obtain⟨o,h1,a,rfl,hb,r⟩:=Pd.get e.all h;exact⟨a,h1,hb,r⟩
theorem Env.mut(e:Env K H B σ δ){d0 d:D}{o:HO}(hi:δ[i]?=some (.ow d0))(hs:σ[i]?=some (some (.ref a)))(r:RpL K (upd H a o) B d a):Env K (upd H a o) B σ (δ.set i (.ow d)):=by
 obtain⟨a',h1,hb,_⟩:=e.at hi;rw[hs] at h1;cases h1;refine⟨?_,λb z=>?_,λj k b ds es h1 h2 h3 h4=>?_⟩
 ·
  have h0:Paired (λ(o':Option V) (s:Sl)=>SlR K (upd H a o) B o' s∨(∃d,s=.ow d/\o'=some (.ref a))) σ δ:=Pd.imp (λo' s h=>by
   cases s with
   | un=>exact .inl trivial
   | ex c n=>obtain⟨v,e,r⟩:=h;exact .inl ⟨v,e,r.mono (Gr.own hb)⟩
   | sh d=>obtain⟨v,e,r⟩:=h;exact .inl ⟨v,e,r.mono (Gr.own hb)⟩
   | ow d =>
    obtain⟨b,e,J,r⟩:=h
    by_cases z:b=a
    ·subst z;exact .inr ⟨d,rfl,e⟩
    ·exact .inl ⟨b,e,J,r.mono (λo h=>by rw[Z2 z];exact h) (Gr.own hb)⟩) e.all
  have h1:=Pd.setR (i:=i) (b:=Sl.ow d) (.inl ⟨a,rfl,hb,r⟩) hs h0;refine Pd.impI (λj o' s e1 e2 h=>?_) h1;rcases h with h|⟨d',rfl,rfl⟩
  ·exact h
  ·rcases get_set e2 with⟨rfl,e3,_⟩|⟨M,e3⟩
   ·cases e3;exact⟨a,rfl,hb,r⟩
   ·exact absurd (e.own i j a d0 d' hi e3 hs e1) M
 ·by_cases z':b=a
  ·subst z';exact r.live
  ·rw[Z2 z'];exact e.bad b z
 ·have q1:∃d,δ[j]?=some (.ow d):=by
   rcases get_set h1 with⟨rfl,_,_⟩|⟨_,h⟩
   ·exact⟨_,hi⟩
   ·exact⟨_,h⟩
  have q2:∃d,δ[k]?=some (.ow d):=by
   rcases get_set h2 with⟨rfl,_,_⟩|⟨_,h⟩
   ·exact⟨_,hi⟩
   ·exact⟨_,h⟩
  obtain⟨d1,q1⟩:=q1;obtain⟨d2,q2⟩:=q2;exact e.own j k b d1 d2 q1 q2 h3 h4
theorem EnvS.mut(en:EnvS K H₀ B₀ H σ δ)(s:Same H H')(b1:∀a,B₀ a->B a)(b2:∀a,B a->B₀ a∨H₀ a=none){d0 d:D}{o:HO}(hi:δ[i]?=some (.ow d0))(hs:σ[i]?=some (some (.ref a)))
  (env:Env K (upd H' a o) B σ (δ.set i (.ow d))):EnvS K H₀ B₀ (upd H' a o) σ (δ.set i (.ow d)):=by
 have h0:=en.fr i d0 a hi hs;have J:i<δ.length:=(A7.mp hi).1;refine⟨⟨λb u h=>?_,λb ob xs h=>?_⟩,⟨B,b1,b2,env⟩,λj ds b h1 h2=>?_,en.b0⟩
 ·have:b≠a:=λz=>by rw[z,h0] at h;cases h
  rw[Z2 this];exact s _ _ (en.same b u h)
 ·by_cases z:b=a
  ·obtain⟨a',e1,_,ro⟩:=env.at (i:=i) (by rw[List.getElem?_set_self J])
   rw[hs] at e1;cases e1;rw[z] at h;exact absurd h (ro.plain ob xs)
  ·rw[Z2 z] at h
   exact en.same.nf b ob xs (s.nf b ob xs h)
 ·rcases get_set h1 with⟨rfl,_,_⟩|⟨_,h⟩
  ·rw[hs] at h2;cases h2;exact h0
  ·exact en.fr j ds b h h2
theorem EnvS.take(en:EnvS K H₀ B₀ H σ δ)(b1:∀a,B₀ a->B a)(b2:∀a,B a->B₀ a∨H₀ a=none)(e:Env K H B σ δ)(i:Nat){d:D}{p:Addr}(hp:H p=none)(s:Same H H')
  (r:RpO K H' (λa=>B a∨a=p) d p):EnvS K H₀ B₀ H' (σ.set i (some (.ref p))) (δ.set i (.ow d)):=by
 have g:Gr H H' B (λa=>B a∨a=p):=λb u n h=>⟨λz=>z.elim n (S6 h hp),s _ _ h⟩
 have J:H₀ p=none:=en.same.free hp;have live:∀{j:Nat} {d':D} {b:Addr},δ[j]?=some (.ow d')->σ[j]?=some (some (.ref b))->b≠p:=λ{j d' b} h1 h2=>by
  obtain⟨a,q1,q2,q3⟩:=e.at h1;rw[h2] at q1;cases q1;exact λz=>e.bad _ q2 (by rw[z];exact hp)
 refine⟨en.same.trans s,⟨λa=>B a∨a=p,λa z=>.inl (b1 a z),λa z=>?_,?_,λa z=>?_,λj k a ds es h1 h2 h3 h4=>?_⟩,λj ds a h1 h2=>?_,en.b0⟩
 ·rcases z with z|rfl
  ·exact b2 a z
  ·exact .inr J
 ·refine Pd.set ⟨p,rfl,.inr rfl,r.toL⟩ i (Pd.imp (λo sl h=>?_) e.all)
  cases sl with
  | un=>trivial
  | ex c n=>obtain⟨v,e,r⟩:=h;exact⟨v,e,r.mono g⟩
  | sh d=>obtain⟨v,e,r⟩:=h;exact⟨v,e,r.mono g⟩
  | ow d=>obtain⟨b,e,M,r⟩:=h;exact⟨b,e,.inl M,r.mono (λo h=>s _ _ h) g⟩
 ·rcases z with z|rfl
  ·exact(e.bad a z).same s
  ·exact r.live
 ·rcases get_set h1 with⟨rfl,_,_⟩|⟨n1,h1⟩
  ·rcases get_set h2 with⟨rfl,_,_⟩|⟨n2,h2⟩
   ·rfl
   ·rcases get_set h3 with⟨_,e3,_⟩|⟨n3,_⟩
    ·cases e3
     rw[List.getElem?_set_ne n2] at h4;exact absurd rfl (live h2 h4)
    ·exact absurd rfl n3
  ·rcases get_set h2 with⟨rfl,_,_⟩|⟨n2,h2⟩
   ·rcases get_set h4 with⟨_,e4,_⟩|⟨n4,_⟩
    ·cases e4
     rw[List.getElem?_set_ne n1] at h3;exact absurd rfl (live h1 h3)
    ·exact absurd rfl n4
   ·rw[List.getElem?_set_ne n1] at h3
    rw[List.getElem?_set_ne n2] at h4;exact e.own j k a ds es h1 h2 h3 h4
 ·rcases get_set h1 with⟨rfl,_,_⟩|⟨n1,h1⟩
  ·rcases get_set h2 with⟨_,e3,_⟩|⟨n3,_⟩
   ·cases e3;exact J
   ·exact absurd rfl n3
  ·rw[List.getElem?_set_ne n1] at h2
   exact en.fr j ds a h1 h2
theorem Env.frz(e:Env K H B σ δ):∃B':BS,(∀a,B' a->B a)/\(∀a,B a->B' a∨∃(i:Nat) (d:D),δ[i]?=some (.ow d)/\σ[i]?=some (some (.ref a)))/\Env K H B' σ (DL.frz δ):=by
 refine⟨λa=>B a/\¬∃(i:Nat) (d:D),δ[i]?=some (.ow d)/\σ[i]?=some (some (.ref a)),λa z=>z.1,λa z=>?_,?_,λa z=>e.bad a z.1,λi j a ds es h1 _ _ _=>?_⟩
 ·by_cases q:∃(i:Nat) (d:D),δ[i]?=some (.ow d)/\σ[i]?=some (some (.ref a))
  ·exact .inr q
  ·exact .inl ⟨z,q⟩
 ·have:Paired (λo s=>SlR K H (λa=>B a/\¬∃(i:Nat) (d:D),δ[i]?=some (.ow d)/\σ[i]?=some (some (.ref a))) o (zd0 s)) σ δ:=Pd.impI (λi o s e1 e2 h=>by
   cases s with
   | un=>trivial
   | ex c n=>obtain⟨v,e,r⟩:=h;exact⟨v,e,r.mono (Gr.less λa z=>z.1)⟩
   | sh d=>obtain⟨v,e,r⟩:=h;exact⟨v,e,r.mono (Gr.less λa z=>z.1)⟩
   | ow d =>
    obtain⟨a,rfl,hb,r⟩:=h;exact⟨_,rfl,r.rp (λa z=>z.1) λz=>z.2 ⟨i,d,e2,e1⟩⟩) e.all
  have mp:∀{l:St} {m:Ds} {F:Option V->Sl->Prop},Paired (λo s=>F o (zd0 s)) l m->Paired F l (m.map zd0):=by
   intro l m F h
   induction h with
   | nil=>exact .nil
   | cons r t ih=>exact .cons r ih
  exact mp this
 ·unfold DL.frz at h1
  rw[List.getElem?_map] at h1;cases q:δ[i]? with
  | none=>rw[q] at h1;cases h1
  | some s=>rw[q] at h1;cases s<;>cases h1
theorem EnvS.frz(en:EnvS K H₀ B₀ H σ δ):EnvS K H₀ B₀ H σ (DL.frz δ):=by
 obtain⟨B,b1,b2,env⟩:=en.ex;obtain⟨B',c1,c2,J⟩:=env.frz;refine⟨en.same,⟨B',λa z=>?_,λa z=>b2 a (c1 a z),J⟩,λi ds a h1 _=>?_,en.b0⟩
 ·rcases c2 a (b1 a z) with q|⟨i,d,q1,q2⟩
  ·exact q
  ·exact absurd (en.fr i d a q1 q2) (en.b0 a z)
 ·unfold DL.frz at h1
  rw[List.getElem?_map] at h1;cases q:δ[i]? with
  | none=>rw[q] at h1;cases h1
  | some s=>rw[q] at h1;cases s<;>cases h1
theorem lf0{d:D}{v:V}(h:flat d=true)(r:Rp K H B d v):Rp K H' B' d v:=by
 cases d<;>simp[flat] at h
 ·rw[S9] at r ⊢;exact r
 ·rw[X8] at r ⊢;exact r
 ·rw[m8] at r ⊢;exact r
 ·rw[Y5] at r ⊢;exact r
end
section
variable{g:GE}{gt:GB}
theorem wy0(h:PD X e g):PD X e (yx0 g):=.mk λB δ pins s σ H Q I ⟨d,en,hq,k⟩=>by
 obtain⟨B',c1,c2,J⟩:=en.frz;unfold yx0 at hq;cases e1:g (frz δ) with
 | none=>rw[e1] at hq;cases hq
 | some x =>
  rw[e1] at hq
  by_cases hf:flat x=true
  ·simp only[Option.bind_some,if_pos hf] at hq
   cases hq;exact h B' (frz δ) pins s σ H Q I ⟨_,J,e1,λv H' s' r=>k v H' s' (lf0 hf r)⟩
  ·simp only[Option.bind_some,if_neg hf] at hq
   cases hq
theorem wn0(h:PTD X e gt):PTD X e (zz0 gt):=.mk λB δ pins s σ H Q I ⟨d,en,hq,k⟩=>by
 obtain⟨B',c1,c2,J⟩:=en.frz;exact h B' (frz δ) pins s σ H Q I ⟨d,J,hq,k⟩
theorem K7(h:PD X e g):PSD X (.Return (some e) pos) (j7 (zt0 g)):=.mk λH₀ B₀ δ pins s σ H D I ⟨r,en,hq,k⟩ =>
 m7 h H₀ B₀ (frz δ) pins s σ H D I ⟨r,en.frz,hq,k⟩
theorem O6{gA:GA}(h:PDA X es gA):PDF X (.List es pos) (Y8 gA) :=
 .mk λB δ=>(iq0 (h B δ)).imp fun σ H Q ⟨d,en,h,k⟩=>by
  unfold Y8 at h;cases e1:gA δ with
  | none=>rw[e1] at h;cases h
  | some ds =>
   rw[e1] at h
   by_cases hl:ds.length<=sizeLine
   ·simp only[Option.bind_some,if_pos hl] at h
    cases h;refine⟨ds,en,e1,λvs H1 s1 r1=>⟨by rw[r1.length];exact hl,λp hp=>k _ _ (s1.free hp) (s1.trans (Y7 hp)) ⟨vs,Z4,r1.mono (Gr.fresh hp)⟩⟩⟩
   ·simp only[Option.bind_some,if_neg hl] at h
    cases h
theorem R3(i:Nat){px:Pos}(h:PDF X e g)(hN:X.N.Nodup)(hi:X.N[i]?=some x:=by rfl)(hx:Loc X.env.scope x:=by first|exact Or.inl rfl|exact Or.inr rfl)
  (hs:swapsWithSole [.Name x px] e pos.line X.env=pure false:=by rfl) (hw:swappedStores [.Name x px] e X.env=pure none:=by rfl)
  (h1:(assignEach [.Name x px] X.env).map (·.2)=[assign (.Name x px) X.env]:=by rfl)
  (hf:X.fn x=true∨X.env.scope.names.lookup x=some .local:=by first|exact .inl rfl|exact .inr rfl|assumption):PSD X (.Assign [.Name x px] e pos) (T7 i g):=.mk λH₀ B₀ δ pins s σ H D I ⟨r,en,e1,k⟩=>by
 unfold T7 at e1;obtain⟨B,b1,b2,env⟩:=en.ex;cases e2:g δ with
 | none=>rw[e2] at e1;cases e1
 | some d =>
  rw[e2] at e1;cases e1;exact oa0 (h B δ) (uk0 (i:=i) hN hi hx hf) hs hw h1 pins s σ H D I ⟨d,env,e2,λp H' hp s' r=>k _ H' (en.take b1 b2 env i hp s' r)⟩
end
end DL
namespace L2
open Spec PyProof.Rows
open PySem.AutoSeq1 (wpAny_loadPart')
def Z30:V->V->V->Hp->(Hp->Prop)->Prop:=λo i v H Q=>∃a H',o=.ref a/\DPut H a i v H'/\Q H'
theorem set_dict(hu:X.A.units+1<cLine):fn0 X Z30:=by
 intro pins s σ H o i v ov iv u Q I ro ri rv h;obtain⟨a,H',rfl,g,q⟩:=h;cases ro;exact h20 hu I g ri rv λs3 I3=>⟨H',I3,q⟩
end L2
namespace DL
open Spec PyProof.Rows L2
section
variable{σ σ':St}
theorem Rps.set:∀{ds:List D} {xs:List V} {d:D} {v:V} (j:Nat),Rps K H B ds xs->Rp K H B d v->Rps K H B (ds.set j d) (xs.set j v)
 | [],_,_,_,_,h,_=>by rw[m9] at h;subst h;simp[m9]
 | d::ds,_,_,_,0,h,r=>by
  rw[o7] at h;obtain⟨y,t,rfl,h1,h2⟩:=h;rw[List.set_cons_zero,List.set_cons_zero,o7];exact⟨_,_,rfl,r,h2⟩
 | d::ds,_,_,_,j+1,h,r=>by
  rw[o7] at h;obtain⟨y,t,rfl,h1,h2⟩:=h;rw[List.set_cons_succ,List.set_cons_succ,o7];exact⟨_,_,rfl,h1,Rps.set j h2 r⟩
theorem Rps.dropLast(h:Rps K H B ds xs):Rps K H B ds.dropLast xs.dropLast:=by
 rw[List.dropLast_eq_take,List.dropLast_eq_take,h.length];exact h.take _
structure EnvV(K:W.Frag)(H₀:Hp)(B₀:BS)(H:Hp)(σ:St)(δ:Ds)(d:D)(v:V):Prop where
 same:Same H₀ H
 ex:∃B:BS,(∀a,B₀ a->B a)/\(∀a,B a->B₀ a∨H₀ a=none)/\Env K H B σ δ/\Rp K H B d v
 fr:∀(i:Nat) (ds:D) (a:Addr),δ[i]?=some (.ow ds)->σ[i]?=some (some (.ref a))->H₀ a=none
 b0:∀a,B₀ a->NB (H₀ a)
theorem EnvV.s{d:D}{v:V}(h:EnvV K H₀ B₀ H σ δ d v):EnvS K H₀ B₀ H σ δ:=⟨h.same,let ⟨B,b1,b2,e,_⟩:=h.ex;⟨B,b1,b2,e⟩,h.fr,h.b0⟩
theorem EnvV.mk'{d:D}{v:V}(h:EnvS K H₀ B₀ H σ δ)(b1:∀a,B₀ a->B a)(b2:∀a,B a->B₀ a∨H₀ a=none)(e:Env K H B σ δ)(r:Rp K H B d v):EnvV K H₀ B₀ H σ δ d v:=⟨h.same,⟨B,b1,b2,e,r⟩,h.fr,h.b0⟩
end
def tX(K:W.Frag)(H₀:Hp)(B₀:BS)(δ:Ds)(gx:GX):TE:=fun σ H Q=>∃r,EnvS K H₀ B₀ H σ δ/\gx δ=some r/\∀v H',EnvV K H₀ B₀ H' σ r.2 r.1 v->Q v H'
structure PX(X:Cx)(e:Expr)(gx:GX):Prop where
 mk::go:∀H₀ B₀ δ,PE X e (tX X.K H₀ B₀ δ gx)
instance{X:Cx}{e:Expr}{gx:GX}:CoeFun (PX X e gx) (λ_=>∀H₀ B₀ δ,PE X e (tX X.K H₀ B₀ δ gx)):=⟨PX.go⟩
def tTG(K:W.Frag)(H₀:Hp)(B₀:BS)(ft:D->Ds->Option Ds)(d:D)(δ:Ds):TG:=λv σ H Q=>∃δ',EnvV K H₀ B₀ H σ δ d v/\ft d δ=some δ'/\∀σ' H',EnvS K H₀ B₀ H' σ' δ'->Q σ' H'
structure PTG(X:Cx)(tg:Expr)(ft:D->Ds->Option Ds):Prop where
 mk::go:∀H₀ B₀ d δ,PG X tg (tTG X.K H₀ B₀ ft d δ)
instance{X:Cx}{tg:Expr}{ft:D->Ds->Option Ds}:CoeFun (PTG X tg ft) (λ_=>∀H₀ B₀ d δ,PG X tg (tTG X.K H₀ B₀ ft d δ)):=⟨PTG.go⟩
section
variable{g:GE}{gt:GB}
theorem wf0(h:PD X e g):PX X e (O4 g):=.mk λH₀ B₀ δ pins s σ H Q I ⟨r,en,e1,k⟩=>by
 unfold O4 at e1;obtain⟨B,b1,b2,env⟩:=en.ex;cases e2:g δ with
 | none=>rw[e2] at e1;cases e1
 | some d =>
  rw[e2] at e1;cases e1;exact h B δ pins s σ H Q I ⟨d,env,e2,λv H' s' r=>k v H' (EnvV.mk' (en.grow s') b1 b2 (env.same s') r)⟩
theorem m50(h:owL i δ=some ds):δ[i]?=some (.ow (.lst ds)):=by
 unfold owL at h;split at h
 ·cases h;assumption
 ·cases h
theorem zg0(i:Nat)(h:PD X e g)(hN:X.N[i]?=some x:=by rfl)(hv:Vis X.env.scope x:=by first|exact Or.inl rfl|exact Or.inr (Or.inl rfl)|exact Or.inr (Or.inr rfl))(hd:(x==("__debug__" : Str))=false:=by decide)(hcd:(x==("__classdict__" : Str))=false:=by decide)
  (hbase:attributeBase (.Name x px) "append" X.env (eval (.Name x px) X.env)=eval (.Name x px) X.env:=by rfl)
  (hfew:((backTo cpos (starEach [e] X.env)).all (λx=>!x.1)&&(backToKw cpos (keywordEach [] X.env)).all (λx=>x.1.isSome)
  &&decide (([e]:List Expr).length+([]:List Keyword).length+(if ([]:List Keyword).isEmpty then 0 else 1)<30))=true:=by rfl)
  (hline:(apos.endLine==cpos.line)=true:=by rfl) (hs:starEach [e] X.env=(false,eval e X.env)::starEach [] X.env:=by rfl) (hplain:(backTo cpos (starEach [] X.env)).any (·.1)=false:=by rfl) :
  PX X (.Call (.Attribute (.Name x px) "append" apos) [e] [] cpos) (U5 i g):=.mk λH₀ B₀ δ pins s σ H Q I ⟨r,en,e1,k⟩=>by
 unfold U5 at e1;obtain⟨B,b1,b2,env⟩:=en.ex;cases e2:owL i δ with
 | none=>rw[e2] at e1;cases e1
 | some ds =>
  cases e3:g δ with
  | none=>rw[e2,e3] at e1;cases e1
  | some d =>
   rw[e2,e3] at e1;simp only[Option.bind_some] at e1;split at e1
   ·rename_i hz
    cases e1;have hi:=m50 e2;obtain⟨a,M,hb,xs,hx,rx⟩:=env.at hi;refine e80 Bg0 PySem.F.slot_list_append PySem.F.type_list_append qe0 (ys0 (i:=i) hN hv hd hcd) (zn0 (h B δ) wm0 hs) hbase hfew hline hs hplain pins s σ H Q I
     ⟨_,M,.inl ⟨rfl,xs,.inl (.inl hx)⟩,d,env,e3,λv H1 s1 r1=>⟨a,xs,v,rfl,rfl,s1 _ _ hx,by rw[rx.length];exact hz,?_⟩⟩
    have J:Env X.K (upd H1 a (.lst (xs++[v]))) B σ (δ.set i (.ow (.lst (ds++[d])))):=(env.same s1).mut hi M ⟨_,Z4,(Rps.snoc (rx.same s1) r1).mono (Gr.own hb)⟩;exact k _ _ (EnvV.mk' (en.mut s1 b1 b2 hi M J) b1 b2 J (by rw[S9]))
   ·cases e1
theorem bo0(i:Nat)(hN:X.N[i]?=some x:=by rfl)(hv:Vis X.env.scope x:=by first|exact Or.inl rfl|exact Or.inr (Or.inl rfl)|exact Or.inr (Or.inr rfl))(hd:(x==("__debug__" : Str))=false:=by decide)(hcd:(x==("__classdict__" : Str))=false:=by decide)
  (hbase:attributeBase (.Name x px) "pop" X.env (eval (.Name x px) X.env)=eval (.Name x px) X.env:=by rfl) (hline:(apos.endLine==cpos.line)=true:=by rfl) :
  PX X (.Call (.Attribute (.Name x px) "pop" apos) [] [] cpos) (ub0 i):=.mk λH₀ B₀ δ pins s σ H Q I ⟨r,en,e1,k⟩=>by
 unfold ub0 at e1;obtain⟨B,b1,b2,env⟩:=en.ex;cases e2:owL i δ with
 | none=>rw[e2] at e1;cases e1
 | some ds =>
  rw[e2] at e1;simp only[Option.bind_some] at e1;cases e3:ds.getLast? with
  | none=>rw[e3] at e1;cases e1
  | some d =>
   rw[e3] at e1;cases e1;have hi:=m50 e2;obtain⟨a,M,hb,xs,hx,rx⟩:=env.at hi;rw[List.getLast?_eq_getElem?] at e3;obtain⟨y,hy,ry⟩:=rx.get e3;refine Zo0 Bg0 PySem.F.slot_list_pop PySem.F.type_list_pop b90 (ys0 (i:=i) hN hv hd hcd) hbase hline pins s σ H Q I
    ⟨_,M,.inl ⟨rfl,xs,.inl (.inl hx)⟩,a,xs,y,rfl,rfl,hx,by rw[rx.length];exact hy,?_⟩
   have J:Env X.K (upd H a (.lst xs.dropLast)) B σ (δ.set i (.ow (.lst ds.dropLast))):=env.mut hi M ⟨_,Z4,rx.dropLast.mono (Gr.own hb)⟩;exact k _ _ (EnvV.mk' (en.mut (Same.refl _) b1 b2 hi M J) b1 b2 J (ry.mono (Gr.own hb)))
theorem jq0{f:D->Ds->Option Ds}(h:PGD X tg idx f):PTG X tg f:=.mk λH₀ B₀ d δ pins s σ H v u Q I r ⟨δ',en,e1,k⟩=>by
 obtain⟨B,b1,b2,env,rv⟩:=en.ex;exact h B d δ pins s σ H v u Q I r ⟨δ',rv,env,e1,fun σ' w en'=>k σ' H (en.s.wr b1 b2 (Same.refl _) w en')⟩
theorem c50(i:Nat)(h:PD X e g)(hN:X.N[i]?=some x:=by rfl)(hv:Vis X.env.scope x:=by first|exact Or.inl rfl|exact Or.inr (Or.inl rfl)|exact Or.inr (Or.inr rfl))(hd:(x==("__debug__" : Str))=false:=by decide)(hcd:(x==("__classdict__" : Str))=false:=by decide)
  (ha:∀v,assign (.Subscript (.Name x px) e pos) X.env v=(do
   let ov ← holding [v] (eval (.Name x px) X.env)
   let iv ← holding [v,ov] (eval e X.env)
   standAt pos
   holding [v,ov,iv] (setItem ov iv v)
   release [v,ov,iv] []):=by intro _;rfl):PTG X (.Subscript (.Name x px) e pos) (setAt i g):=.mk λH₀ B₀ d δ pins s σ H v u Q I r ⟨δ',en,e1,k⟩=>by
 unfold setAt at e1;obtain⟨B,b1,b2,env,rv⟩:=en.ex;cases e2:owL i δ with
 | none=>rw[e2] at e1;cases e1
 | some ds =>
  cases e3:g δ with
  | none=>rw[e2,e3] at e1;cases e1
  | some dk =>
   rw[e2,e3] at e1;simp only[Option.bind_some] at e1;cases dk<;>try cases e1
   rename_i kk;dsimp only at e1;cases e4:ixN ds.length kk with
   | none=>rw[e4] at e1;cases e1
   | some j =>
    rw[e4] at e1;cases e1;have hi:=m50 e2;obtain⟨a,J,hb,xs,hx,rx⟩:=env.at hi;refine ir0 (ys0 (i:=i) hN hv hd hcd) (h B δ) set_list ha pins s σ H v u Q I r ⟨_,J,_,env,e3,λiv H1 s1 r1=>?_⟩;rw[m8] at r1;subst r1;refine⟨a,xs,kk,j,rfl,rfl,s1 _ _ hx,by rw[rx.length];exact e4,?_⟩;have M:Env X.K (upd H1 a (.lst (xs.set j v))) B σ (δ.set i (.ow (.lst (ds.set j d)))):=(env.same s1).mut hi J ⟨_,Z4,(Rps.set j (rx.same s1) (rv.same s1)).mono (Gr.own hb)⟩;exact k _ _ (en.s.mut s1 b1 b2 hi J M)
theorem yn0{ft:D->Ds->Option Ds}(h:PX X e gx)(hg:PTG X tg ft)(hs:swapsWithSole [tg] e pos.line X.env=pure false:=by rfl)(hw:swappedStores [tg] e X.env=pure none:=by rfl)
  (h1:(assignEach [tg] X.env).map (·.2)=[assign tg X.env]:=by rfl):PSD X (.Assign [tg] e pos) (M4 gx ft):=.mk λH₀ B₀ δ pins s σ H D I ⟨r,en,e1,k⟩=>by
 unfold M4 at e1;cases e2:gx δ with
 | none=>rw[e2] at e1;cases e1
 | some q =>
  rw[e2] at e1;simp only[Option.bind_some] at e1;cases e3:ft q.1 q.2 with
  | none=>rw[e3] at e1;cases e1
  | some δ' =>
   rw[e3] at e1;cases e1;exact oa0 (h H₀ B₀ δ) (hg H₀ B₀ q.1 q.2) hs hw h1 pins s σ H D I ⟨q,en,e2,λv H' J=>⟨δ',J,e3,fun σ' H'' en''=>k σ' H'' en''⟩⟩
theorem Q4(h:PX X e gx)(hs:swapsWith e none pos.line X.env=pure false:=by rfl):PSD X (.Expr e pos) (W3 gx):=.mk λH₀ B₀ δ pins s σ H D I ⟨r,en,e1,k⟩=>by
 unfold W3 at e1;cases e2:gx δ with
 | none=>rw[e2] at e1;cases e1
 | some q =>
  rw[e2] at e1;cases e1;exact c70 (h H₀ B₀ δ) hs pins s σ H D I ⟨q,en,e2,λv H' J=>k σ H' J.s⟩
theorem vs0(n:Nat)(hp:PassesOwn (model X.prog X.w) X.A X.env X.xe)(hc:PTD X c gt)(hb:PSsD X body G):PSD X (.While c body [] pos) (Q3 gt G n):=.mk λH₀ B₀ δ pins s σ H D I ⟨r,en,e1,k⟩=>by
 have M:PT X c (fun σ H Q=>∃B δ,tDT X.K B δ gt σ H Q):=λpins s σ H Q I ⟨B,δ,h⟩=>hc B δ pins s σ H Q I h
 have O:PSs X body (λD σ H=>∃δ,tDS X.K H₀ B₀ δ G D σ H):=λpins s σ H D I ⟨δ,h⟩=>hb H₀ B₀ δ pins s σ H D I h
 refine fv0 hp M O pins s σ H D I ⟨λm σ H=>∃δ',EnvS X.K H₀ B₀ H σ δ'/\Q3 gt G m δ'=some r,⟨n,δ,en,e1⟩,?_⟩;rintro m σ1 H1 ⟨δ1,J,e2⟩;cases m with
 | zero=>cases e2
 | succ m =>
  unfold Q3 at e2;obtain⟨B,b1,b2,env⟩:=J.ex;cases e3:gt δ1 with
  | none=>rw[e3] at e2;cases e2
  | some t =>
   rw[e3] at e2;refine⟨B,δ1,t,env,e3,λH2 s2=>?_⟩;cases t with
   | false =>
    rw[if_neg C7];cases e2;exact k σ1 H2 (J.grow s2)
   | true =>
    rw[if_pos rfl];dsimp only at e2;refine⟨fun σ' H'=>∃δ',EnvS X.K H₀ B₀ H' σ' δ'/\Q3 gt G m δ'=some r,fun σ' H' z=>⟨m,i0 m,z⟩,δ1,?_⟩;cases e4:G δ1 with
    | none=>rw[e4] at e2;cases e2
    | some rb =>
     rw[e4] at e2;refine⟨rb,J.grow s2,e4,?_⟩;cases rb with
     | nx δn=>exact fun σ' H' en'=>⟨δn,en',e2⟩
     | ct δn=>exact fun σ' H' en'=>⟨δn,en',e2⟩
     | bk δn=>cases e2;exact fun σ' H' en'=>k σ' H' en'
     | rt d'=>cases e2;exact λv H' s' r'=>k v H' s' r'
     | rf d'=>cases e2;exact λp H' hp s' r'=>k p H' hp s' r'
theorem v70(i j:Nat){y:Str}{p2 p3:Pos}{kk}(hN:X.N.Nodup)(hij:i≠j)(hc:X.calm=true:=by rfl)(hi:X.N[i]?=some x:=by rfl)(hj:X.N[j]?=some y:=by rfl)
  (hx:Loc X.env.scope x:=by first|exact Or.inl rfl|exact Or.inr rfl) (hy:Loc X.env.scope y:=by first|exact Or.inl rfl|exact Or.inr rfl)
  (hf:X.fn x=true∨X.env.scope.names.lookup x=some .local:=by first|exact .inl rfl|exact .inr rfl|assumption) (hf2:X.fn y=true∨X.env.scope.names.lookup y=some .local:=by first|exact .inl rfl|exact .inr rfl|assumption)
  (hs1:(assignEach [.Name x p2,.Name y p3] X.env).map (·.2)=assign (.Name x p2) X.env::(assignEach [.Name y p3] X.env).map (·.2):=by rfl) (hs2:(assignEach [.Name y p3] X.env).map (·.2)=assign (.Name y p3) X.env::(assignEach [] X.env).map (·.2):=by rfl)
  (hn:(assignEach [.Name x p2,.Name y p3] X.env).length=2:=by rfl) (hst:(assignEach [.Name x p2,.Name y p3] X.env).findIdx? (·.1)=none:=by rfl) :
  PGD X (.Tuple [.Name x p2,.Name y p3] kk pos) [i,j] (J9 i j):=.mk λB d δ=>(a70 hc (or0 (uk0 (i:=i) hN hi hx hf) (or0 (uk0 (i:=j) hN hj hy hf2) de0 hs2) hs1) hn hst).imp λv σ H Q ⟨δ',r,en,e1,k⟩=>by
 unfold J9 at e1;split at e1
 ·rename_i da db
  cases e1;rw[X3] at r;obtain⟨p,xs,rfl,hq,rs⟩:=r;rw[o7] at rs;obtain⟨va,t1,rfl,ra,rs⟩:=rs;rw[o7] at rs;obtain⟨vb,t2,rfl,rb,rs⟩:=rs;rw[m9] at rs;subst rs;refine⟨p,_,rfl,hq.to,rfl,va,[vb],rfl,vb,[],rfl,rfl,k _ ?_ ((en.set i ra).set j rb)⟩;refine⟨by simp,λq hq=>?_,λq hq ds h=>?_⟩
  ·have h1:q≠i:=λz=>hq (by rw[z];exact A5)
   have h2:q≠j:=λz=>hq (by rw[z];exact C2 _ A5)
   rw[List.getElem?_set_ne (C1 h2),List.getElem?_set_ne (C1 h1),List.getElem?_set_ne (C1 h2),List.getElem?_set_ne (C1 h1)];exact⟨rfl,rfl⟩
  ·rcases get_set h with⟨rfl,e3,_⟩|⟨n1,e3⟩
   ·cases e3
   ·rcases get_set e3 with⟨rfl,e4,_⟩|⟨n2,e4⟩
    ·cases e4
    ·simp at hq
     rcases hq with z|z
     ·exact n2 z.symm
     ·exact n1 z.symm
 ·cases e1
end
end DL
namespace HT
open PyProof.Rows
section
variable{w:World}{s:Shared}
theorem vk0{t sl:Addr}{Q:Value->Shared->Prop}(ht:IsTup s.heap t items)(hs:s.heap.IsSliceOf sl vl vu .none)(pl:IsPart vl lo)(pu:IsPart vu hi)
  (hw:sIx items.size 0 lo=0/\sIx items.size items.size hi=items.size) (h:Q (.ref t) s):wpAny (model prog w) A (getItem (.ref t) (.ref sl)) Q E s:=by
 obtain⟨os,M,S,hds⟩:=id hs;have O:s.TypeIs (.ref sl) "slice" := ⟨os,M,S⟩;unfold getItem
 try with_reducible refine C6 ?_
 first|refine A0 (A1 ?_)|skip
 refine A0 (A10 ht.typeIs (by decide) ?_);refine A0 (E6 (name:=Str.ofString "__getitem__") ht.typeIs P6
  (D3 P6 ht.typeIs entry_tuple_getitem ?_ (args_tuple_getitem _ _)))
 show wpAny _ _ (Builtin.Tuple.tupleItemsOf (.ref t)>>=_) _ _ s;refine A0 (tupleItemsOf_ ht ?_);refine A0 (U1 O ?_);rw[if_pos (by decide)];refine A0 (xr0 hs pl pu ?_);have J:(((sIx items.size 0 lo:Nat):Int)==0&&(1:Int)==1&&(sIx items.size items.size hi - sIx items.size 0 lo)==items.size)=true:=by
  rw[hw.1,hw.2];simp
 show wpAny _ _ (if (((sIx items.size 0 lo:Nat):Int)==0&&(1:Int)==1&&(sIx items.size items.size hi - sIx items.size 0 lo)==items.size)=true then _ else _) _ _ s;rw[if_pos J];unfold Builtin.Tuple.tupleIsExact;refine A0 (A0 (U1 ht.typeIs (A1 ?_)));rw[if_pos (by decide)];exact A0 (D7 (A1 ⟨_,rfl,A1 h⟩))
end
end HT
namespace L2
open Spec PyProof.Rows
def X20(K:W.Frag):V->Option Int->Option Int->Hp->VK->Prop:=λx lo hi H Q=>∃a xs,x=.ref a/\SqT K H a xs/\(HT.sIx xs.length 0 lo=0/\HT.sIx xs.length xs.length hi=xs.length)/\Q (.ref a) H
theorem ey0:SlR X (X20 X.K):=by
 intro pins s σ H x v vl vu lo hi sl Q I rx hs pl pu h;obtain⟨a,xs,rfl,hx,hw,q⟩:=h;cases rx;obtain⟨its,r,ht,hz⟩:=I.tuple hx;have J:its.toArray.size=xs.length:=by rw[List.size_toArray];exact r.length.symm
 exact⟨"tuple",_,P6.lookup,ht.typeIs,HT.vk0 ht hs pl pu (by rw[J];exact hw) ⟨.ref a,H,I,rfl,q⟩⟩
def jp0(K:W.Frag):R2:=λx y H Q=>∃a b ys,x=.ref a/\y=.ref b/\SqT K H a []/\SqT K H b ys/\Q (.ref b) H
theorem f30:OpR X (binaryOp .Add) (jp0 X.K):=by
 intro pins s σ H x y v u Q I rx ry h;obtain⟨a,b,ys,rfl,rfl,ha,hb,q⟩:=h;cases rx;cases ry;obtain⟨its,r1,p1,_⟩:=I.tuple ha;obtain⟨S,r2,p2,_⟩:=I.tuple hb;have e:its=[]:=r1.zero;subst e;obtain⟨⟨cls,dd,data,sl⟩,ho,hc,n,hd⟩:=id p1;obtain⟨⟨Z,U,data2,Y⟩,J,M,n2,O⟩:=id p2;simp only at hc hd M O;subst hc hd M O;exact d4 ⟨_,ho,rfl⟩ ⟨_,J,rfl⟩ y6 y8 y9 z0 (A00 _ _)
  (tuple_addW0 a b _ S.toArray n n2 dd U sl Y rfl) ⟨ho,J,⟨.ref b,H,I,rfl,q⟩⟩
def yg0(x:Str)(n:Int):Str:=⟨(List.replicate n.toNat x.cps).foldl (·++·) #[]⟩
def eq0:R2:=λx y H Q=>∃z n,x=.str z/\y=.int n/\-(2 ^ 62)<=n/\n<2 ^ 62/\z.length*n.toNat<=sizeLine/\Q (.str (yg0 z n)) H
theorem cr0:OpR X (binaryOp .Mult) eq0:=by
 intro pins s σ H x y v u Q I rx ry h;obtain⟨z,n,rfl,rfl,h1,h2,hz,q⟩:=h;obtain⟨t,rfl⟩:=rx;obtain⟨t',rfl⟩:=ry;have fin:∀O k,EP X pins σ Q (.str (yg0 z n) O) { s with toks:=k }:=λO k=>⟨.str _,H,I.tok k,⟨O,rfl⟩,q⟩
 have Z:(sizeLine:Nat)<2 ^ 40:=by decide
 have S:¬n<1->¬((z.length:Int) > (2 ^ 63 - 1)/n):=by
  intro hn;have U:0<n:=by omega
  have:(z.length:Int)*n<=2 ^ 63 - 1:=by
   have e:n=(n.toNat:Int):=by omega
   rw[e];have:((z.length*n.toNat:Nat):Int)<=2 ^ 40:=by exact_mod_cast (by omega:z.length*n.toNat<=2 ^ 40)
   rw[Int.natCast_mul] at this;omega
  exact Int.not_lt.mpr ((Bi0 U).mpr this)
 refine PySem.P.mul_str (by rw[decide_eq_false (by omega),decide_eq_false (by omega)];rfl) (λhn _=>S hn) (λ_ _=>?_) ?_
 ·show decide (z.length*n.toNat > sizeLine)=false
  exact P4 (by omega)
 ·by_cases hn:n<1
  ·rw[if_pos hn]
   have e:yg0 z n=Str.empty:=by
    unfold yg0;rw[show n.toNat=0 by omega];rfl
   refine⟨by decide,?_⟩;rw[← e];exact fin _ _
  ·rw[if_neg hn]
   by_cases h3:(n==1||z.length==0)=true
   ·rw[if_pos h3]
    have e:yg0 z n=z:=by
     rw[Bool.or_eq_true] at h3;rcases h3 with h3|h3
     ·have:n=1:=P7 h3
      subst this;unfold yg0;show (⟨#[]++z.cps⟩:Str)=z;rw[Array.empty_append]
     ·have h3:z.length=0:=P7 h3
      have M:z.cps=#[]:=Bj0 h3;have:∀k:Nat,(List.replicate k (#[]:Array Nat)).foldl (·++·) #[]=#[]:=by
       intro k
       induction k with
       | zero=>rfl
       | succ k ih=>rw[List.replicate_succ,List.foldl_cons];exact ih
      unfold yg0;rw[M,this];cases z;simp at M;rw[M]
    have:=fin t s.toks;rw[e] at this;exact this
   ·rw[if_neg h3]
    have Y:∀(k:Nat) (J:Array Nat),((List.replicate k z.cps).foldl (·++·) J).size=J.size+k*z.cps.size:=by
     intro k
     induction k with
     | zero=>intro J;simp
     | succ k ih=>intro J;rw[List.replicate_succ,List.foldl_cons,ih,Array.size_append,Nat.succ_mul];omega
    refine⟨?_,fin _ _⟩;show ((List.replicate n.toNat z.cps).foldl (·++·) #[]).size<=_;rw[Y];have:z.length=z.cps.size:=rfl;rw[this,Nat.mul_comm] at hz
    simpa using hz
theorem rw0:fillsNumberSlot (.type "tuple") "mul"=pure false :=
 PySem.fillsNumberSlot_seq (id := "tuple.__mul__") (r:=some (.builtin "tuple.__rmul__")) Bk0.lookup (by decide +kernel) Bl0.lookup (by decide +kernel)
theorem ku0:seqRepeat? (.type "tuple")=pure (some (.builtin "tuple.__mul__")):=by
 unfold seqRepeat?;rw[PySem.seqSlot_of (T := "tuple") (name := "__mul__") (id := "tuple.__mul__") Bk0.lookup (by decide +kernel),PySem.seqSlot_of (T := "tuple") (name := "__rmul__") (id := "tuple.__rmul__") Bl0.lookup (by decide +kernel)];rfl
theorem o40(a:Int)(t:Tok)(l:Addr)(items:Array Value)(n:Nat)(dd:Option Addr)(sl:Array (Option Value)) :
  Meets (Builtin.«int.__rmul__» ⟨[.int a t,.ref l],[]⟩) (λ_ R s=>s.heap.get? l=some { cls:=.type "tuple",dict:=dd,data:=.seq items n,slots:=sl }/\R (.ok (.ret Value.notImplemented)) s) :=
 .of_wp λprog w A R s h=>by
  obtain⟨hp,g,d,tk,os⟩:=s;obtain⟨hl,h⟩:=h
  wp_walk
  exact⟨_,rfl,h⟩
theorem gy0(l:Addr)(items:Array Value)(n:Nat)(dd:Option Addr)(sl:Array (Option Value))(k:Int)(t:Tok)(h2:2<=k)(h3:k<2 ^ 62)(he:items.isEmpty=false)(hsz:items.size*k.toNat<=sizeLine) :
  Meets (Builtin.«tuple.__mul__» ⟨[.ref l,.int k t],[]⟩) (λ_ R s=>s.heap.get? l=some { cls:=.type "tuple",dict:=dd,data:=.seq items n,slots:=sl }/\R (.ok (.ret (Value.ref s.heap.objs.size))) { s with heap:=s.heap.push { cls:=.type "tuple",data:=.seq ((List.replicate k.toNat items).foldl (·++·) #[]) } }) :=
 .of_wp λprog w A R s h=>by
  obtain⟨hp,g,d,tk,os⟩:=s;obtain⟨hl,h⟩:=h;have f1:=AutoSeq1.idx_int;have c1:¬((decide (k < -(2 ^ 63:Int))||decide (k ≥ 2 ^ 63))=true):=by
   rw[decide_eq_false (by omega),decide_eq_false (by omega)];exact C7
  have c2:¬((items.isEmpty||k==1)=true):=by
   rw[he,beq_eq_false_iff_ne.mpr (by omega)];exact C7
  have c3:¬((decide (k<=0)||items.isEmpty)=true):=by
   rw[he,decide_eq_false (by omega)];exact C7
  have hk:((items.size:Int)*k)=((items.size*k.toNat:Nat):Int):=by
   rw[Int.natCast_mul];congr 1;omega
  have hb:(sizeLine:Nat)<2 ^ 40:=by decide
  have c4:¬((items.size:Int)*k > (2 ^ 63 - 1)/8):=by
   rw[hk];omega
  have c5:¬(Builtin.Tuple.tupleTooMany ((items.size:Int)*k)=true):=by
   rw[hk];unfold Builtin.Tuple.tupleTooMany;simp only[decide_eq_true_eq];omega
  have O:∀(m:Nat) (J:Array Value),((List.replicate m items).foldl (·++·) J).size=J.size+m*items.size:=by
   intro m
   induction m with
   | zero=>intro J;simp
   | succ m ih=>intro J;rw[List.replicate_succ,List.foldl_cons,ih,Array.size_append,Nat.succ_mul];omega
  have M:sizeOk (.seq ((List.replicate k.toNat items).foldl (·++·) #[])):=by
   show ((List.replicate k.toNat items).foldl (·++·) #[]).size<=sizeLine;rw[O,Nat.mul_comm]
   simpa using hsz
  wp_walk
  rw[if_neg c1];show wpAny _ _ (Builtin.Tuple.tupleItemsOf (.ref l)>>=_) _ _ _;refine A0 (tupleItemsOf_ ⟨_,hl,rfl,n,rfl⟩ ?_);dsimp only;rw[if_neg c2,if_neg c3];rw[if_neg c4,if_neg c5];exact A0 (m:=Builtin.Tuple.tupleExact _) (K0 (A1 ⟨_,rfl,h⟩) M)
def fz0(K:W.Frag):R2:=λx y H Q=>∃a xs k,x=.ref a/\y=.int k/\SqT K H a xs/\xs≠[]/\2<=k/\k<2 ^ 62/\xs.length*k.toNat<=sizeLine/\∀p,H p=none->Q (.ref p) (upd H p (.tup (List.replicate k.toNat xs).flatten))
theorem dv0:OpR X (binaryOp .Mult) (fz0 X.K):=by
 intro pins s σ H x y v u Q I rx ry h;obtain⟨a,xs,k,rfl,rfl,ha,hx,h2,h3,hz,q⟩:=h;cases rx;obtain⟨t,rfl⟩:=ry;obtain⟨its,r1,p1,_⟩:=I.tuple ha;obtain⟨⟨cls,dd,data,sl⟩,ho,hc,n,hd⟩:=id p1;simp only at hc hd;subst hc hd;have hl:=r1.length;have he:its.toArray.isEmpty=false:=by
  cases its with
  | nil=>exact absurd (r1.nil_iff.mp rfl) hx
  | cons a b=>rfl
 have M:its.toArray.size*k.toNat<=sizeLine:=by rw[List.size_toArray,← hl];exact hz
 have J:(List.replicate k.toNat its.toArray).foldl (·++·) #[]=(List.replicate k.toNat its).flatten.toArray:=by
  have:=foldl_rep its k.toNat [];rw[List.nil_append] at this;exact this
 refine wpAny_binaryOp_repeat_ref (T := "tuple") (U := "int") (by decide) ⟨_,ho,rfl⟩ (λs'=>O0 s' k t) rw0 F.fills_int_mul F.slot_int_rmul ku0 F.slot_int_index.lookup
  (d5 F.slot_int_rmul (O0 s k t) F.entry_int_rmul (F.args_int_rmul_2 _ _) (o40 k t a its.toArray n dd sl)
   ⟨ho,rfl,⟨_,ho,rfl⟩,d5 F.slot_tuple_mul ⟨_,ho,rfl⟩ F.entry_tuple_mul (F.args_tuple_mul_2 _ _) (gy0 a its.toArray n dd sl k t h2 h3 he M) ⟨ho,?_⟩⟩)
 rw[J];refine⟨.ref s.heap.objs.size,_,I.laid (t':=s.toks) (o:=.tup (List.replicate k.toNat xs).flatten) (λb ob q=>A8 _ q) (A4 _) ?_,rfl,q _ (I.hok.fresh (A4 _))⟩;exact⟨by rw[len_rep,Nat.mul_comm];exact hz,_,r1.rep k.toNat,IsTupN.new _ _⟩
end L2
namespace DL
open Spec PyProof.Rows L2
mutual
theorem tn0:∀(d:D) (n:Nat),lean d n=true->deq d d=true
 | .non,_,_=>by unfold deq;rfl
 | .bl b,_,_=>by unfold deq;simp
 | .int b,_,_=>by unfold deq;simp
 | .str b,_,_=>by unfold deq;simp
 | .tup ds,0,h=>by unfold lean at h;cases h
 | .tup ds,n+1,h=>by unfold lean at h;unfold deq;exact ua0 ds n h
 | .lst ds,0,h=>by unfold lean at h;cases h
 | .lst ds,n+1,h=>by unfold lean at h;unfold deq;exact ua0 ds n h
 | .dct _ _,n,h=>by unfold lean at h;cases h
 | .fn _ _,n,h=>by unfold lean at h;cases h
theorem ua0:∀(ds:List D) (n:Nat),leans ds n=true->J4 ds ds=true
 | [],_,_=>by unfold J4;rfl
 | d::ds,n,h=>by
  unfold leans at h;rw[Bool.and_eq_true] at h;unfold J4;rw[tn0 d n h.1,ua0 ds n h.2];rfl
end
theorem yb0:∀ds es:List D,J4 ds es=((List.range (min ds.length es.length)).all (λj=>deq (ds.getD j .non) (es.getD j .non))&&ds.length==es.length)
 | [],[]=>by unfold J4;simp
 | [],_::_=>by unfold J4;simp
 | _::_,[]=>by unfold J4;simp
 | d::ds,e::es=>by
  unfold J4;rw[yb0 ds es];have h1:min (d::ds).length (e::es).length=min ds.length es.length+1:=by simp only[List.length_cons];omega
  rw[h1,List.range_succ_eq_map,List.all_cons,List.all_map];have h2:((d::ds).length==(e::es).length)=(ds.length==es.length):=by
   rw[Bool.eq_iff_iff];simp
  rw[h2,Bool.and_assoc];rfl
theorem wa0:∀{ds:List D} {n j:Nat} {d:D},leans ds n=true->ds[j]?=some d->lean d n=true
 | [],_,_,_,_,h=>by simp at h
 | d::ds,n,0,_,h,e=>by
  unfold leans at h;rw[Bool.and_eq_true] at h;simp at e;subst e;exact h.1
 | d::ds,n,j+1,_,h,e=>by
  unfold leans at h;rw[Bool.and_eq_true] at h;exact wa0 (j:=j) h.2 (by simpa using e)
section
variable{σ:St}{s:Shared}
mutual
theorem Rp.inj(I:Inv X pins σ H s):∀{d e:D} {n m:Nat} {v:V},lean d n=true->lean e m=true->Rp X.K H B d v->Rp X.K H B' e v->d=e
 | .non,e,_,m,v,_,le,h,h'=>by
  rw[S9] at h;subst h;cases e with
  | non=>rfl
  | bl b=>rw[X8] at h';cases h'
  | int b=>rw[m8] at h';cases h'
  | str b=>rw[Y5] at h';cases h'
  | tup b=>rw[X3] at h';obtain⟨_,_,z,_⟩:=h';cases z
  | lst b=>rw[X7] at h';obtain⟨_,_,z,_⟩:=h';cases z
  | dct a b=>unfold lean at le;cases le
  | fn a b=>unfold lean at le;cases le
 | .bl c,e,_,m,v,_,le,h,h'=>by
  rw[X8] at h;subst h;cases e with
  | non=>rw[S9] at h';cases h'
  | bl b=>rw[X8] at h';cases h';rfl
  | int b=>rw[m8] at h';cases h'
  | str b=>rw[Y5] at h';cases h'
  | tup b=>rw[X3] at h';obtain⟨_,_,z,_⟩:=h';cases z
  | lst b=>rw[X7] at h';obtain⟨_,_,z,_⟩:=h';cases z
  | dct a b=>unfold lean at le;cases le
  | fn a b=>unfold lean at le;cases le
 | .int c,e,_,m,v,_,le,h,h'=>by
  rw[m8] at h;subst h;cases e with
  | non=>rw[S9] at h';cases h'
  | bl b=>rw[X8] at h';cases h'
  | int b=>rw[m8] at h';cases h';rfl
  | str b=>rw[Y5] at h';cases h'
  | tup b=>rw[X3] at h';obtain⟨_,_,z,_⟩:=h';cases z
  | lst b=>rw[X7] at h';obtain⟨_,_,z,_⟩:=h';cases z
  | dct a b=>unfold lean at le;cases le
  | fn a b=>unfold lean at le;cases le
 | .str c,e,_,m,v,_,le,h,h'=>by
  rw[Y5] at h;subst h;cases e with
  | non=>rw[S9] at h';cases h'
  | bl b=>rw[X8] at h';cases h'
  | int b=>rw[m8] at h';cases h'
  | str b=>rw[Y5] at h';cases h';rfl
  | tup b=>rw[X3] at h';obtain⟨_,_,z,_⟩:=h';cases z
  | lst b=>rw[X7] at h';obtain⟨_,_,z,_⟩:=h';cases z
  | dct a b=>unfold lean at le;cases le
  | fn a b=>unfold lean at le;cases le
 | .tup ds,e,0,m,v,ld,_,_,_=>by unfold lean at ld;cases ld
 | .tup ds,e,n+1,m,v,ld,le,h,h'=>by
  rw[X3] at h;obtain⟨a,xs,rfl,q,r⟩:=h;unfold lean at ld;cases e with
  | non=>rw[S9] at h';cases h'
  | bl b=>rw[X8] at h';cases h'
  | int b=>rw[m8] at h';cases h'
  | str b=>rw[Y5] at h';cases h'
  | tup es =>
   cases m with
   | zero=>unfold lean at le;cases le
   | succ m =>
    unfold lean at le;rw[X3] at h';obtain⟨a',ys,z,q',r'⟩:=h';cases z;have:=I.tuple_inj q.to q'.to;subst this;rw[Rps.inj I ld le r r']
  | lst es =>
   rw[X7] at h';obtain⟨a',ys,z,q',r'⟩:=h';cases z;obtain⟨_,_,⟨o,e1,c1,_⟩,_⟩:=I.tuple q.to;obtain⟨_,_,p,_⟩:=I.list q'.to;obtain⟨o',e2,c2,_⟩:=p.isList;rw[e1] at e2;cases e2;rw[c1] at c2;injection c2 with z
   exact absurd z (by decide)
  | dct a b=>unfold lean at le;cases le
  | fn a b=>unfold lean at le;cases le
 | .lst ds,e,0,m,v,ld,_,_,_=>by unfold lean at ld;cases ld
 | .lst ds,e,n+1,m,v,ld,le,h,h'=>by
  rw[X7] at h;obtain⟨a,xs,rfl,q,r⟩:=h;unfold lean at ld;cases e with
  | non=>rw[S9] at h';cases h'
  | bl b=>rw[X8] at h';cases h'
  | int b=>rw[m8] at h';cases h'
  | str b=>rw[Y5] at h';cases h'
  | lst es =>
   cases m with
   | zero=>unfold lean at le;cases le
   | succ m =>
    unfold lean at le;rw[X7] at h';obtain⟨a',ys,z,q',r'⟩:=h';cases z;have:=I.list_inj q.to q'.to;subst this;rw[Rps.inj I ld le r r']
  | tup es =>
   rw[X3] at h';obtain⟨a',ys,z,q',r'⟩:=h';cases z;obtain⟨_,_,⟨o,e1,c1,_⟩,_⟩:=I.tuple q'.to;obtain⟨_,_,p,_⟩:=I.list q.to;obtain⟨o',e2,c2,_⟩:=p.isList;rw[e1] at e2;cases e2;rw[c1] at c2;injection c2 with z
   exact absurd z (by decide)
  | dct a b=>unfold lean at le;cases le
  | fn a b=>unfold lean at le;cases le
 | .dct a b,e,n,m,v,ld,_,_,_=>by unfold lean at ld;cases ld
 | .fn a b,e,n,m,v,ld,_,_,_=>by unfold lean at ld;cases ld
theorem Rps.inj(I:Inv X pins σ H s):∀{ds es:List D} {n m:Nat} {xs:List V},leans ds n=true->leans es m=true->Rps X.K H B ds xs->Rps X.K H B' es xs->ds=es
 | [],es,_,_,_,_,_,h,h'=>by
  rw[m9] at h;subst h;have:=h'.length;cases es with
  | nil=>rfl
  | cons a b=>simp at this
 | d::ds,es,n,m,_,ld,le,h,h'=>by
  rw[o7] at h;obtain⟨x,r,rfl,h1,h2⟩:=h;cases es with
  | nil=>rw[m9] at h';cases h'
  | cons e es =>
   rw[o7] at h';obtain⟨x',r',z,M,J⟩:=h';cases z;unfold leans at ld le;rw[Bool.and_eq_true] at ld le;rw[Rp.inj I ld.1 le.1 h1 M,Rps.inj I ld.2 le.2 h2 J]
end
theorem view(I:Inv X pins σ H s){d:D}{x:V}(l:lean d n=true)(h:Rp X.K H B d x)(r:RelV x u) :
  (d=.non/\u=.none)∨(∃b,d=.bl b/\u=.bool b)∨(∃i t,d=.int i/\u=.int i t)∨(∃z t,d=.str z/\u=.str z t) ∨
  (∃m ds a xs its,n=m+1/\leans ds m=true/\d=.tup ds/\x=.ref a/\u=.ref a/\Rps X.K H B ds xs/\Vals xs its/\s.heap.IsTuple a its.toArray) ∨
  (∃m ds a xs its,n=m+1/\leans ds m=true/\d=.lst ds/\x=.ref a/\u=.ref a/\Rps X.K H B ds xs/\Vals xs its/\s.heap.IsList a its.toArray):=by
 cases d with
 | non=>rw[S9] at h;subst h;exact .inl ⟨rfl,r⟩
 | bl b=>rw[X8] at h;subst h;exact .inr (.inl ⟨b,rfl,r⟩)
 | int i=>rw[m8] at h;subst h;obtain⟨t,e⟩:=r;exact .inr (.inr (.inl ⟨i,t,rfl,e⟩))
 | str z=>rw[Y5] at h;subst h;obtain⟨t,e⟩:=r;exact .inr (.inr (.inr (.inl ⟨z,t,rfl,e⟩)))
 | tup ds =>
  cases n with
  | zero=>unfold lean at l;cases l
  | succ m =>
   unfold lean at l;rw[X3] at h;obtain⟨a,xs,rfl,q,rr⟩:=h;obtain⟨its,rv,p,_⟩:=I.tuple q.to;exact .inr (.inr (.inr (.inr (.inl ⟨m,ds,a,xs,its,rfl,l,rfl,rfl,r,rr,rv,p⟩))))
 | lst ds =>
  cases n with
  | zero=>unfold lean at l;cases l
  | succ m =>
   unfold lean at l;rw[X7] at h;obtain⟨a,xs,rfl,q,rr⟩:=h;obtain⟨its,rv,p,_⟩:=I.list q.to;exact .inr (.inr (.inr (.inr (.inr ⟨m,ds,a,xs,its,rfl,l,rfl,rfl,r,rr,rv,p.isList⟩))))
 | dct a b=>unfold lean at l;cases l
 | fn a b=>unfold lean at l;cases l
theorem in1_units:A.in1.units=A.units+1:=rfl
theorem v40{es:List D}{ys:List V}{ws:List Value}{A:Around}(ld:leans ds n=true)(le:leans es m=true)(r1:Rps X.K H B ds xs)(r2:Rps X.K H B' es ys)(v1:Vals xs us)(v2:Vals ys ws)
  (ih:∀d e x y u w,lean d n=true->lean e m=true->Rp X.K H B d x->Rp X.K H B' e y->RelV x u->RelV y w->SeqAt.EqAt A s u w (deq d e)) :
  ∀j (h1:j<us.toArray.size) (h2:j<ws.toArray.size),SeqAt.EqAt A s us.toArray[j] ws.toArray[j] (deq (ds.getD j .non) (es.getD j .non)):=by
 intro j h1 h2;have l1:j<ds.length:=by rw[← r1.length,v1.length];simpa using h1
 have l2:j<es.length:=by rw[← r2.length,v2.length];simpa using h2
 obtain⟨x,ex,rx⟩:=r1.get (B6 l1);obtain⟨y,ey,ry⟩:=r2.get (B6 l2);obtain⟨u,eu,ru⟩:=v1.get ex;obtain⟨w,ew,J⟩:=v2.get ey;have hu:us.toArray[j]=u:=by
  have:us[j]?=some u:=eu;simp at h1;rw[List.getElem?_eq_getElem h1] at this
  simpa using B4 this
 have hw:ws.toArray[j]=w:=by
  have:ws[j]?=some w:=ew;simp at h2;rw[List.getElem?_eq_getElem h2] at this
  simpa using B4 this
 rw[hu,hw];have e1:ds.getD j .non=ds[j]:=by simp[List.getD_eq_getElem?_getD,l1]
 have e2:es.getD j .non=es[j]:=by simp[List.getD_eq_getElem?_getD,l2]
 rw[e1,e2];exact ih _ _ _ _ _ _ (wa0 ld (B6 l1)) (wa0 le (B6 l2)) rx ry ru J
theorem oo0(I:Inv X pins σ H s):∀(n m:Nat) (d e:D) (x y:V) (u w:Value) (A:Around),A.units+n<cLine->lean d n=true->lean e m=true->Rp X.K H B d x->Rp X.K H B' e y->RelV x u->RelV y w->SeqAt.EqAt A s u w (deq d e):=by
 intro n
 induction n with
 | zero =>
  intro m d e x y u w A hu ld le hx hy rx ry;have J:A.units<cLine:=by omega
  rcases view I ld hx rx with⟨rfl,rfl⟩|⟨b,rfl,rfl⟩|⟨i,t,rfl,rfl⟩|⟨z,t,rfl,rfl⟩|⟨n',_,_,_,_,hn,_⟩|⟨n',_,_,_,_,hn,_⟩<;>(try (exact absurd hn (by omega))) <;>
  rcases view I le hy ry with⟨rfl,rfl⟩|⟨b',rfl,rfl⟩|⟨i',t',rfl,rfl⟩|⟨z',t',rfl,rfl⟩|⟨m',es,a',ys,S,rfl,U,rfl,rfl,rfl,M,O,p'⟩|⟨m',es,a',ys,S,rfl,U,rfl,rfl,rfl,M,O,p'⟩ <;>
  unfold deq <;>
  first
  | with_reducible exact i6 _|with_reducible exact SeqAt.EqAt.bool_bool _ _|with_reducible exact SeqAt.EqAt.int_int _ _ _ _|with_reducible exact SeqAt.EqAt.str_str _ _ _ _|with_reducible exact SeqAt.EqAt.bool_int _ _ _|with_reducible exact SeqAt.EqAt.int_bool _ _ _
  | with_reducible exact SeqAt.EqAt.none_bool _|with_reducible exact SeqAt.EqAt.none_int _ _|with_reducible exact SeqAt.EqAt.none_str _ _|with_reducible exact SeqAt.EqAt.bool_none _|with_reducible exact SeqAt.EqAt.bool_str _ _ _|with_reducible exact SeqAt.EqAt.int_none _ _|with_reducible exact w4 _ _ _ _
  | with_reducible exact SeqAt.EqAt.str_none _ _|with_reducible exact SeqAt.EqAt.str_bool _ _ _|with_reducible exact w8 _ _ _ _
  | with_reducible exact SeqAt.EqAt.none_list p' J|with_reducible exact SeqAt.EqAt.bool_list _ p' J|with_reducible exact SeqAt.EqAt.int_list _ _ p' J|with_reducible exact SeqAt.EqAt.str_list _ _ p' J
  | with_reducible exact SeqAt.EqAt.none_tuple p' J|with_reducible exact SeqAt.EqAt.bool_tuple _ p' J|with_reducible exact SeqAt.EqAt.int_tuple _ _ p' J|with_reducible exact SeqAt.EqAt.str_tuple _ _ p' J
 | succ n ih =>
  intro m d e x y u w A hu ld le hx hy rx ry;have J:A.units<cLine:=by omega
  have Z:A.in1.units+n<cLine:=by rw[in1_units];omega
  rcases view I ld hx rx with⟨rfl,rfl⟩|⟨b,rfl,rfl⟩|⟨i,t,rfl,rfl⟩|⟨z,t,rfl,rfl⟩|⟨n',ds,a,xs,its,hn,Y,rfl,rfl,rfl,rr,rv,p⟩|⟨n',ds,a,xs,its,hn,Y,rfl,rfl,rfl,rr,rv,p⟩ <;>
  rcases view I le hy ry with⟨rfl,rfl⟩|⟨b',rfl,rfl⟩|⟨i',t',rfl,rfl⟩|⟨z',t',rfl,rfl⟩|⟨m',es,a',ys,S,rfl,U,rfl,rfl,rfl,M,O,p'⟩|⟨m',es,a',ys,S,rfl,U,rfl,rfl,rfl,M,O,p'⟩
  case inr.inr.inr.inr.inl.inr.inr.inr.inr.inl =>
   cases hn
   by_cases hab:a=a'
   ·subst hab
    have e:D.tup ds=D.tup es:=Rp.inj I ld le hx hy;rw[← e,tn0 _ _ ld];exact i6 _
   ·refine SeqAt.EqAt.of_refs hab ?_
    have:=SeqAt.RcAt.tuples (e:=λj=>deq (ds.getD j .non) (es.getD j .non)) p p' J (v40 Y U rr M rv O λd e x y u w h1 h2 h3 h4 h5 h6=>ih m' d e x y u w A.in1 Z h1 h2 h3 h4 h5 h6);unfold deq;rw[yb0]
    simpa [← rv.length,← O.length,rr.length,M.length] using this
  case inr.inr.inr.inr.inr.inr.inr.inr.inr.inr =>
   cases hn
   by_cases hab:a=a'
   ·subst hab
    have e:D.lst ds=D.lst es:=Rp.inj I ld le hx hy;rw[← e,tn0 _ _ ld];exact i6 _
   ·refine SeqAt.EqAt.of_refs hab ?_
    have s1:its.toArray.size=ds.length:=by rw[List.size_toArray,← rv.length,rr.length]
    have s2:S.toArray.size=es.length:=by rw[List.size_toArray,← O.length,M.length]
    unfold deq;rw[yb0]
    by_cases hl:ds.length=es.length
    ·have:=SeqAt.RcAt.lists (e:=λj=>deq (ds.getD j .non) (es.getD j .non)) p p' (by rw[s1,s2,hl]) J (v40 Y U rr M rv O λd e x y u w h1 h2 h3 h4 h5 h6=>ih m' d e x y u w A.in1 Z h1 h2 h3 h4 h5 h6)
     rw[s1] at this;rw[hl] at this ⊢
     simpa using this
    ·have:=Cb0 (A:=A) p p' (by rw[s1,s2];simpa using hl) J
     rw[beq_eq_false_iff_ne.mpr hl,Bool.and_false];exact this
  all_goals
   unfold deq
   first
   | with_reducible exact i6 _|with_reducible exact SeqAt.EqAt.bool_bool _ _|with_reducible exact SeqAt.EqAt.int_int _ _ _ _|with_reducible exact SeqAt.EqAt.str_str _ _ _ _|with_reducible exact SeqAt.EqAt.bool_int _ _ _|with_reducible exact SeqAt.EqAt.int_bool _ _ _
   | with_reducible exact SeqAt.EqAt.none_bool _|with_reducible exact SeqAt.EqAt.none_int _ _|with_reducible exact SeqAt.EqAt.none_str _ _|with_reducible exact SeqAt.EqAt.bool_none _|with_reducible exact SeqAt.EqAt.bool_str _ _ _|with_reducible exact SeqAt.EqAt.int_none _ _|with_reducible exact w4 _ _ _ _
   | with_reducible exact SeqAt.EqAt.str_none _ _|with_reducible exact SeqAt.EqAt.str_bool _ _ _|with_reducible exact w8 _ _ _ _
   | with_reducible exact SeqAt.EqAt.none_list p' J|with_reducible exact SeqAt.EqAt.bool_list _ p' J|with_reducible exact SeqAt.EqAt.int_list _ _ p' J|with_reducible exact SeqAt.EqAt.str_list _ _ p' J
   | with_reducible exact SeqAt.EqAt.none_tuple p' J|with_reducible exact SeqAt.EqAt.bool_tuple _ p' J|with_reducible exact SeqAt.EqAt.int_tuple _ _ p' J|with_reducible exact SeqAt.EqAt.str_tuple _ _ p' J
   | with_reducible exact SeqAt.EqAt.list_none p J|with_reducible exact SeqAt.EqAt.list_bool _ p J|with_reducible exact SeqAt.EqAt.list_int _ _ p J|with_reducible exact SeqAt.EqAt.list_str _ _ p J
   | with_reducible exact SeqAt.EqAt.tuple_none p J|with_reducible exact SeqAt.EqAt.tuple_bool _ p J|with_reducible exact SeqAt.EqAt.tuple_int _ _ p J|with_reducible exact SeqAt.EqAt.tuple_str _ _ p J
   | with_reducible exact SeqAt.EqAt.list_tuple p p' J|with_reducible exact SeqAt.EqAt.tuple_list p p' J
end
end DL
namespace DL
open Spec PyProof.Rows L2
section
variable{σ:St}{s:Shared}
theorem jf0(I:Inv X pins σ H s)(n m:Nat)(d e:D)(x y:V)(u w:Value)(A:Around)(hu:A.units+n<cLine)(ld:lean d n=true)(le:lean e m=true)(hx:Rp X.K H B d x)(hy:Rp X.K H B' e y)(rx:RelV x u)(ry:RelV y w) :
  SeqAt.RcAt A s u w (deq d e)/\SeqAt.RcNeAt A s u w (!deq d e):=by
 have J:A.units<cLine:=by omega
 rcases view I ld hx rx with⟨rfl,rfl⟩|⟨b,rfl,rfl⟩|⟨i,t,rfl,rfl⟩|⟨z,t,rfl,rfl⟩|⟨n',ds,a,xs,its,hn,a0,rfl,rfl,rfl,rr,rv,p⟩|⟨n',ds,a,xs,its,hn,a0,rfl,rfl,rfl,rr,rv,p⟩ <;>
 rcases view I le hy ry with⟨rfl,rfl⟩|⟨b',rfl,rfl⟩|⟨i',t',rfl,rfl⟩|⟨z',t',rfl,rfl⟩|⟨m',es,a',ys,U,rfl,Y,rfl,rfl,rfl,M,S,p'⟩|⟨m',es,a',ys,U,rfl,Y,rfl,rfl,rfl,M,S,p'⟩
 case inr.inr.inr.inr.inl.inr.inr.inr.inr.inl =>
  subst hn;have Z:A.in1.units+n'<cLine:=by rw[in1_units];omega
  have O:=v40 (A:=A.in1) a0 Y rr M rv S λd e x y u w h1 h2 h3 h4 h5 h6=>oo0 I n' m' d e x y u w A.in1 Z h1 h2 h3 h4 h5 h6
  have q1:=SeqAt.RcAt.tuples (e:=λj=>deq (ds.getD j .non) (es.getD j .non)) p p' J O;have q2:=SeqAt.RcNeAt.tuples (e:=λj=>deq (ds.getD j .non) (es.getD j .non)) p p' J O;unfold deq;rw[yb0];have s1:its.toArray.size=ds.length:=by rw[List.size_toArray,← rv.length,rr.length]
  have s2:U.toArray.size=es.length:=by rw[List.size_toArray,← S.length,M.length]
  rw[s1,s2] at q1 q2;exact⟨q1,q2⟩
 case inr.inr.inr.inr.inr.inr.inr.inr.inr.inr =>
  subst hn;have Z:A.in1.units+n'<cLine:=by rw[in1_units];omega
  have O:=v40 (A:=A.in1) a0 Y rr M rv S λd e x y u w h1 h2 h3 h4 h5 h6=>oo0 I n' m' d e x y u w A.in1 Z h1 h2 h3 h4 h5 h6
  have s1:its.toArray.size=ds.length:=by rw[List.size_toArray,← rv.length,rr.length]
  have s2:U.toArray.size=es.length:=by rw[List.size_toArray,← S.length,M.length]
  unfold deq;rw[yb0]
  by_cases hl:ds.length=es.length
  ·have q1:=SeqAt.RcAt.lists (e:=λj=>deq (ds.getD j .non) (es.getD j .non)) p p' (by rw[s1,s2,hl]) J O
   have q2:=SeqAt.RcNeAt.lists (e:=λj=>deq (ds.getD j .non) (es.getD j .non)) p p' (by rw[s1,s2,hl]) J O;rw[s1] at q1 q2;rw[hl] at q1 q2 ⊢;simp only[Nat.min_self,beq_self_eq_true,Bool.and_true];exact⟨q1,q2⟩
  ·have q1:=Cb0 (A:=A) p p' (by rw[s1,s2];simpa using hl) J
   have q2:=SeqAt.RcNeAt.lists_lengths (A:=A) p p' (by rw[s1,s2];simpa using hl) J;rw[beq_eq_false_iff_ne.mpr hl,Bool.and_false];exact⟨q1,q2⟩
 all_goals
  unfold deq;constructor
  ·first
   | with_reducible exact SeqAt.RcAt.none_none|with_reducible exact SeqAt.RcAt.bool_bool _ _|with_reducible exact SeqAt.RcAt.int_int _ _ _ _|with_reducible exact SeqAt.RcAt.str_str _ _ _ _|with_reducible exact SeqAt.RcAt.bool_int _ _ _|with_reducible exact SeqAt.RcAt.int_bool _ _ _
   | with_reducible exact SeqAt.RcAt.none_bool _|with_reducible exact SeqAt.RcAt.none_int _ _|with_reducible exact SeqAt.RcAt.none_str _ _|with_reducible exact SeqAt.RcAt.bool_none _|with_reducible exact SeqAt.RcAt.bool_str _ _ _|with_reducible exact SeqAt.RcAt.int_none _ _|with_reducible exact SeqAt.RcAt.int_str _ _ _ _
   | with_reducible exact SeqAt.RcAt.str_none _ _|with_reducible exact SeqAt.RcAt.str_bool _ _ _|with_reducible exact SeqAt.RcAt.str_int _ _ _ _
   | with_reducible exact SeqAt.RcAt.none_list p' J|with_reducible exact SeqAt.RcAt.bool_list _ p' J|with_reducible exact SeqAt.RcAt.int_list _ _ p' J|with_reducible exact SeqAt.RcAt.str_list _ _ p' J
   | with_reducible exact SeqAt.RcAt.none_tuple p' J|with_reducible exact SeqAt.RcAt.bool_tuple _ p' J|with_reducible exact SeqAt.RcAt.int_tuple _ _ p' J|with_reducible exact SeqAt.RcAt.str_tuple _ _ p' J
   | with_reducible exact SeqAt.RcAt.list_none p J|with_reducible exact SeqAt.RcAt.list_bool _ p J|with_reducible exact SeqAt.RcAt.list_int _ _ p J|with_reducible exact SeqAt.RcAt.list_str _ _ p J
   | with_reducible exact SeqAt.RcAt.tuple_none p J|with_reducible exact SeqAt.RcAt.tuple_bool _ p J|with_reducible exact SeqAt.RcAt.tuple_int _ _ p J|with_reducible exact SeqAt.RcAt.tuple_str _ _ p J
   | with_reducible exact SeqAt.RcAt.list_tuple p p' J|with_reducible exact SeqAt.RcAt.tuple_list p p' J
  ·try rw[Bool.not_false]
   try rw[Bool.not_true]
   first
   | with_reducible exact SeqAt.RcNeAt.none_none|with_reducible exact SeqAt.RcNeAt.bool_bool _ _|with_reducible exact SeqAt.RcNeAt.int_int _ _ _ _|with_reducible exact SeqAt.RcNeAt.str_str _ _ _ _|with_reducible exact SeqAt.RcNeAt.bool_int _ _ _|with_reducible exact SeqAt.RcNeAt.int_bool _ _ _
   | with_reducible exact SeqAt.RcNeAt.none_bool _|with_reducible exact SeqAt.RcNeAt.none_int _ _|with_reducible exact SeqAt.RcNeAt.none_str _ _|with_reducible exact SeqAt.RcNeAt.bool_none _|with_reducible exact SeqAt.RcNeAt.bool_str _ _ _|with_reducible exact SeqAt.RcNeAt.int_none _ _|with_reducible exact SeqAt.RcNeAt.int_str _ _ _ _
   | with_reducible exact SeqAt.RcNeAt.str_none _ _|with_reducible exact SeqAt.RcNeAt.str_bool _ _ _|with_reducible exact SeqAt.RcNeAt.str_int _ _ _ _
   | with_reducible exact SeqAt.RcNeAt.none_list p' J|with_reducible exact SeqAt.RcNeAt.bool_list _ p' J|with_reducible exact SeqAt.RcNeAt.int_list _ _ p' J|with_reducible exact SeqAt.RcNeAt.str_list _ _ p' J
   | with_reducible exact SeqAt.RcNeAt.none_tuple p' J|with_reducible exact SeqAt.RcNeAt.bool_tuple _ p' J|with_reducible exact SeqAt.RcNeAt.int_tuple _ _ p' J|with_reducible exact SeqAt.RcNeAt.str_tuple _ _ p' J
   | with_reducible exact SeqAt.RcNeAt.list_none p J|with_reducible exact SeqAt.RcNeAt.list_bool _ p J|with_reducible exact SeqAt.RcNeAt.list_int _ _ p J|with_reducible exact SeqAt.RcNeAt.list_str _ _ p J
   | with_reducible exact SeqAt.RcNeAt.tuple_none p J|with_reducible exact SeqAt.RcNeAt.tuple_bool _ p J|with_reducible exact SeqAt.RcNeAt.tuple_int _ _ p J|with_reducible exact SeqAt.RcNeAt.tuple_str _ _ p J
   | with_reducible exact SeqAt.RcNeAt.list_tuple p p' J|with_reducible exact SeqAt.RcNeAt.tuple_list p p' J
end
section
variable{a:Expr}{ga:Ds->Option D}
def ls0(K:W.Frag)(neg:Bool):R2:=λx y H Q=>∃B B' dx dy,Rp K H B dx x/\Rp K H B' dy y/\lean dx 50=true/\lean dy 50=true/\Q (.bl (xor neg (deq dx dy))) H
theorem o00(hu:X.A.units+64<cLine):OpR X (compareOp .Eq) (ls0 X.K false):=by
 intro pins s σ H x y v u Q I rx ry h;obtain⟨B,B',dx,dy,hx,hy,lx,ly,q⟩:=h;exact(jf0 I 50 50 dx dy x y v u X.A (by omega) lx ly hx hy rx ry).1 _ _ _ _ ⟨.bl _,H,I,rfl,by rw[Bool.false_xor] at q;exact q⟩
theorem yc0(hu:X.A.units+64<cLine):OpR X (compareOp .NotEq) (ls0 X.K true):=by
 intro pins s σ H x y v u Q I rx ry h;obtain⟨B,B',dx,dy,hx,hy,lx,ly,q⟩:=h;exact(jf0 I 50 50 dx dy x y v u X.A (by omega) lx ly hx hy rx ry).2 _ _ _ _ ⟨.bl _,H,I,rfl,by rw[Bool.true_xor] at q;exact q⟩
theorem sv0:Op2 K (ls0 K false) yv0:=by
 intro H B x y dx dy d Q hb rx ry h k;unfold yv0 at h;split at h
 ·rename_i hl
  cases h;exact⟨B,B,dx,dy,rx,ry,hl.1,hl.2,k _ H (Same.refl H) (by rw[X8,Bool.false_xor])⟩
 ·cases h
theorem zo0:Op2 K (ls0 K true) Q5:=by
 intro H B x y dx dy d Q hb rx ry h k;unfold Q5 at h;split at h
 ·rename_i hl
  cases h;exact⟨B,B,dx,dy,rx,ry,hl.1,hl.2,k _ H (Same.refl H) (by rw[X8,Bool.true_xor])⟩
 ·cases h
theorem g90:Op2 K (λx y H Q=>rI0 (λi j=>.int (i+j)) x y H Q∨(∃i j,x=.str i/\y=.str j/\i.length+j.length<=sizeLine/\Q (.str (i++j)) H)∨e90 K x y H Q∨ek0 K x y H Q∨jp0 K x y H Q) j6:=by
 intro H B x y dx dy d Q hb rx ry h k;cases dx<;>cases dy<;>simp only[j6] at h<;>try cases h
 ·rw[m8] at rx ry
  subst rx ry;exact .inl ⟨_,_,rfl,rfl,k _ H (Same.refl H) (by rw[m8])⟩
 ·split at h
  ·cases h
   rw[Y5] at rx ry;subst rx ry;exact .inr (.inl ⟨_,_,rfl,rfl,by assumption,k _ H (Same.refl H) (by rw[Y5])⟩)
  ·cases h
 ·split at h
  ·rename_i hz
   cases h;have O:=ry;have M:=rx;rw[X3] at rx ry;obtain⟨a,xs,rfl,q1,r1⟩:=rx;obtain⟨b,ys,rfl,q2,r2⟩:=ry
   by_cases he:xs=[]
   ·subst he
    have e:‹List D›=‹List D›:=rfl;have hn:=r1.length;simp at hn;have J:=H0.mp hn.symm;subst J;exact .inr (.inr (.inr (.inr ⟨a,b,ys,rfl,rfl,q1.to,q2.to,k _ H (Same.refl H) (by rw[List.nil_append];exact O)⟩)))
   ·refine .inr (.inr (.inr (.inl ⟨a,b,xs,ys,rfl,rfl,q1.to,q2.to,he,by rw[r1.length,r2.length];exact hz,λz=>?_,λz p hp=>k _ _ (Y7 hp) (uh0 hb hp (r1.append r2))⟩)))
    subst z;have hn:=r2.length;simp at hn;have J:=H0.mp hn.symm;subst J;exact k _ H (Same.refl H) (by rw[List.append_nil];exact M)
  ·cases h
 ·split at h
  ·rename_i hz
   cases h;rw[X7] at rx ry;obtain⟨a,xs,rfl,q1,r1⟩:=rx;obtain⟨b,ys,rfl,q2,r2⟩:=ry;exact .inr (.inr (.inl ⟨a,b,xs,ys,rfl,rfl,q1.to,q2.to,by rw[r1.length,r2.length];exact hz,λp hp=>k _ _ (Y7 hp) (ri0 hb hp (r1.append r2))⟩))
  ·cases h
theorem Z9(ha:PD X a ga)(hb:PD X b gb):PD X (.BinOp a .Add b pos) (o2 ga gb j6):=v30 (a80.or (kp0.or (c30.or (ca0.or f30)))) g90 ha hb
theorem lg0(h:Rps K H B ds xs):∀k:Nat,Rps K H B (List.replicate k ds).flatten (List.replicate k xs).flatten
 | 0=>by simp[m9]
 | k+1=>by
  rw[List.replicate_succ,List.replicate_succ,List.flatten_cons,List.flatten_cons];exact h.append (lg0 h k)
theorem gi0:Op2 K (λx y H Q=>rI CMul (λi j=>.int (i*j)) x y H Q∨eq0 x y H Q∨fz0 K x y H Q) U6:=by
 intro H B x y dx dy d Q hb rx ry h k;cases dx<;>cases dy<;>simp only[U6] at h<;>try cases h
 ·split at h
  ·cases h
   rw[m8] at rx ry;subst rx ry;exact .inl ⟨_,_,rfl,rfl,by assumption,k _ H (Same.refl H) (by rw[m8])⟩
  ·cases h
 ·split at h
  ·rename_i hz
   cases h;rw[Y5] at rx;rw[m8] at ry;subst rx ry;exact .inr (.inl ⟨_,_,rfl,rfl,hz.1,hz.2.1,hz.2.2,k _ H (Same.refl H) (by rw[Y5];rfl)⟩)
  ·cases h
 ·split at h
  ·rename_i hz
   cases h;rw[X3] at rx;rw[m8] at ry;subst ry;obtain⟨a,xs,rfl,q1,r1⟩:=rx;refine .inr (.inr ⟨a,xs,_,rfl,rfl,q1.to,λz=>hz.1 ?_,hz.2.1,hz.2.2.1,by rw[r1.length];exact hz.2.2.2,λp hp=>k _ _ (Y7 hp) (uh0 hb hp (lg0 r1 _))⟩);subst z;have hn:=r1.length;simp at hn;exact H0.mp hn.symm
  ·cases h
theorem O8(ha:PD X a ga)(hb:PD X b gb):PD X (.BinOp a .Mult b pos) (o2 ga gb U6):=v30 (Zb0.or (cr0.or dv0)) gi0 ha hb
theorem j30{xs:List D}(h:sIx xs.length 0 lo=0/\sIx xs.length xs.length hi=xs.length):cutD xs lo hi=xs:=by
 unfold cutD;rw[h.1,h.2];simp
theorem J8{lo hi:Option Expr}{gl gh:Ds->Option (Option Int)}{p2:Pos}(he:PD X e g)(hl:PDO X lo gl)(hh:PDO X hi gh) :
  PD X (.Subscript e (.Slice lo hi none p2) pos) (O3 g gl gh):=.mk λB δ =>
 (fq0 (bt0.or (di0.or (Zc0.or ey0))) (he B δ) (hl B δ) (hh B δ)).imp fun σ H Q ⟨d,en,h,k⟩=>by
  unfold O3 at h;cases e1:g δ with
  | none=>rw[e1] at h;cases h
  | some x =>
   cases e2:gl δ with
   | none=>rw[e1,e2] at h;cases h
   | some l =>
    cases e3:gh δ with
    | none=>rw[e1,e2,e3] at h;cases h
    | some u =>
     rw[e1,e2,e3] at h;simp only[Option.bind_some] at h;refine⟨x,en,e1,λv H1 s1 r1=>⟨l,en.same s1,(by first|exact e2|rfl),λH2 s2=>⟨u,(en.same s1).same s2,(by first|exact e3|rfl),λH3 s3=>?_⟩⟩⟩;have S:=(s1.trans s2).trans s3;have r3:=(r1.same s2).same s3;have hb:=(((en.same s1).same s2).same s3).bad;cases x<;>simp only[slA] at h<;>try cases h
     ·split at h
      ·cases h
       rw[Y5] at r3;exact .inl ⟨_,r3,by assumption,k _ H3 S (by rw[Y5])⟩
      ·cases h
     ·have r4:=r3
      rw[X3] at r3;obtain⟨a,xs,rfl,q,r⟩:=r3;rename_i dxs
      by_cases hw:sIx dxs.length 0 l=0/\sIx dxs.length dxs.length u=dxs.length
      ·refine .inr (.inr (.inr ⟨a,xs,rfl,q.to,by rw[r.length,wl0,wl0];exact hw,k _ _ S ?_⟩))
       rw[j30 hw];exact r4
      ·exact .inr (.inr (.inl ⟨a,xs,rfl,q.to,by rw[r.length,wl0,wl0];exact hw,λp hp=>k _ _ (S.trans (Y7 hp)) (uh0 hb hp (lj0 r l u))⟩))
     ·rw[X7] at r3
      obtain⟨a,xs,rfl,q,r⟩:=r3;exact .inr (.inl ⟨a,xs,rfl,q.to,λp hp=>k _ _ (S.trans (Y7 hp)) (ri0 hb hp (lj0 r l u))⟩)
theorem Zm0:FnR K (λxs H Q=>(∃i,xs=[.int i]/\Q (.int i) H)∨∃k,xs=[.bl k]/\Q (.int (if k then 1 else 0)) H) intOfD:=by
 intro H B xs ds d Q hb r h k;unfold intOfD at h;split at h
 ·cases h
  obtain⟨v,rfl,r1⟩:=zm0 r;rw[m8] at r1;subst r1;exact .inl ⟨_,rfl,k _ H (Same.refl H) (by rw[m8])⟩
 ·cases h
  obtain⟨v,rfl,r1⟩:=zm0 r;rw[X8] at r1;subst r1;exact .inr ⟨_,rfl,k _ H (Same.refl H) (by rw[m8])⟩
 ·cases h
end
end DL
namespace DL
open Spec PyProof.Rows
theorem X6{gA:GA}(h:gA δ=some ds)(hl:ds.length<=sizeLine):Z6 gA δ=some (.tup ds):=by
 unfold Z6;rw[h,Option.bind_some,if_pos hl]
theorem z60{gA:GA}(h:gA δ=some ds)(hl:ds.length<=sizeLine):Y8 gA δ=some (.lst ds):=by
 unfold Y8;rw[h,Option.bind_some,if_pos hl]
theorem cu0{n:Int}{d:D}(h:d∈W4 0 n):∃k:Nat,(k:Int)<n/\d=.int (k:Int):=by
 obtain⟨k,hk,rfl⟩:=A9.mp h;have:=E5.mp hk;exact⟨k,by omega,by rw[Int.zero_add]⟩
theorem b30(f:D->α)(n:Int):(W4 0 n).map f=(List.range n.toNat).map λ(k:Nat)=>f (.int (k:Int)):=by
 unfold W4;rw[List.map_map];have:n - 0=n:=by omega
 rw[this];refine A70 λk _=>?_
 show f (.int (0+(k:Int)))=_;rw[Int.zero_add]
theorem xi0(n:Int):(W4 0 n).length=n.toNat:=by unfold W4;simp
theorem y40{n:Int}{d:D}(h:(W4 0 n)[j]?=some d):j<n.toNat/\d=.int (j:Int):=by
 have hj:j<n.toNat:=by
  have:=(A7.mp h).1
  rwa [xi0] at this
 refine⟨hj,?_⟩;unfold W4 at h;rw[List.getElem?_map,List.getElem?_range (by simpa using hj)] at h;have:=B4 h;rw[← this];show D.int (0+(j:Int))=_;rw[Int.zero_add]
theorem n00{gt:GB}{ge:GE}{n:Int}(h:Nat->D)(H:∀k:Nat,(k:Int)<n->∃δ',gN 0 (.int (k:Int)) δ=some δ'/\gt δ'=some true/\ge δ'=some (h k)) :
  N7 (gN 0) gt ge δ (W4 0 n)=some ((List.range n.toNat).map h):=by
 rw[J7 (λd=>match d with|.int j=>h j.toNat|_=>.non) (λd hd=>by
  obtain⟨k,hk,rfl⟩:=cu0 hd;exact H k hk),b30]
 rfl
end DL
namespace DL
open Spec PyProof.Rows L2
section
variable{a:Expr}{ga:Ds->Option D}
theorem tl0(hm:X.mg x=none)(hv:bootBuiltins x=some (.type "list"))(ha:PD X e g)(hg:Gl X x:=by rfl)
  (hn:x ≠"__name__" := by decide) (hdb:(x==("__debug__" : Str))=false:=by decide) (he:starEach [e] X.env=(false,eval e X.env)::starEach [] X.env:=by rfl) (hpl:(backTo pos (starEach [] X.env)).any (·.1)=false:=by rfl) :
  PDF X (.Call (.Name x p) [e] [] pos) (oA (z9 g v7) u60):=.mk λB δ=>(qf0 o80 hg hm hv (zn0 (ha B δ) wm0 he) hn hdb he hpl).imp fun σ H Q ⟨d,en,h,k⟩=>by
 unfold oA z9 v7 at h;cases e1:g δ with
 | none=>rw[e1] at h;cases h
 | some x =>
  rw[e1] at h;simp only[Option.bind_some,Option.map_some] at h;refine⟨x,en,e1,λv H1 s1 r1=>?_⟩;cases x<;>simp only[u60] at h<;>try cases h
  ·rw[X3] at r1
   obtain⟨q,xs,rfl,hq,rr⟩:=r1;exact⟨q,xs,rfl,.inr hq.to,λl hl=>k l _ (s1.free hl) (s1.trans (Y7 hl)) ⟨_,Z4,rr.mono (Gr.fresh hl)⟩⟩
  ·rw[X7] at r1
   obtain⟨q,xs,rfl,hq,rr⟩:=r1;exact⟨q,xs,rfl,.inl hq.to,λl hl=>k l _ (s1.free hl) (s1.trans (Y7 hl)) ⟨_,Z4,rr.mono (Gr.fresh hl)⟩⟩
end
def FnN(P:Program)(w:World)(K:W.Frag)(mg:Str->Option Value)(base:Heap)(x:Str)(k:Nat)(ps:List Str)(f:List D->Option D):Prop :=
 ∃(fa:Addr) (fd:FuncData),FnOk P w K mg base CX0 k fa fd ps (spN K f)/\mg x=some (.ref fa)/\W.keepIn K (.ref fa)=true/\Binds K fd ps []
theorem im0{k:Nat}{ps:List Str}{f:List D->Option D}(C:FnN X.prog X.w X.K X.mg X.base x k ps f)(hr:Room m X.A)(hk:k<=m)(ha:PDA X (e::es) gA)(hg:Gl X x:=by rfl)(hdb:(x==("__debug__" : Str))=false:=by decide)
  (he:starEach (e::es) X.env=(false,eval e X.env)::starEach es X.env:=by rfl) (hpl:(backTo pos (starEach es X.env)).any (·.1)=false:=by rfl):PDF X (.Call (.Name x p) (e::es) [] pos) (oA gA f):=by
 obtain⟨fa,fd,F,hm,kp,hb⟩:=C;exact .mk λB δ=>(uz0 (E:=E0) F (hr.mono hk) hg hm kp hb .nil p80 (ha B δ) hdb he hpl).imp fun σ H Q h=>by
  obtain⟨d,en,h,k⟩:=h;unfold oA at h;cases e1:gA δ with
  | none=>rw[e1] at h;cases h
  | some ds =>
   rw[e1] at h;refine⟨ds,en,e1,λvs H1 s1 r1=>?_⟩;show spN X.K f (vs++[]) H1 Q E0;rw[List.append_nil];exact⟨B,ds,d,(en.same s1).bad,r1,h,λp H' hp s r=>k p H' (s1.free hp) (s1.trans s) r⟩
theorem M8{k:Nat}{ps:List Str}{f:List D->Option D}(C:FnN X.prog X.w X.K X.mg X.base x k ps f)(hr:Room m X.A)(hk:k<=m)(ha:PDA X (e::es) gA)(hg:Gl X x:=by rfl)(hdb:(x==("__debug__" : Str))=false:=by decide)
  (he:starEach (e::es) X.env=(false,eval e X.env)::starEach es X.env:=by rfl) (hpl:(backTo pos (starEach es X.env)).any (·.1)=false:=by rfl):PD X (.Call (.Name x p) (e::es) [] pos) (oA gA f):=(im0 C hr hk ha hg hdb he hpl).pd
theorem K8(h:PDF X e g):PSD X (.Return (some e) pos) (y00 g):=.mk λH₀ B₀ δ pins s σ H D I ⟨r,en,e1,k⟩=>by
 unfold y00 at e1;obtain⟨B,b1,b2,env⟩:=en.ex;cases e2:g δ with
 | none=>rw[e2] at e1;cases e1
 | some d =>
  rw[e2] at e1;cases e1;exact oy0 (h B δ) pins s σ H D I ⟨d,env,e2,λp H' hp s' r=>k p H' (en.same.free hp) (en.same.trans s') (r.mono (λo h=>h) (Gr.less λa z=>z.imp (b1 a) id)).toL⟩
theorem m20(i:Nat){px:Pos}(hN:X.N[i]?=some x:=by rfl)(hv:Vis X.env.scope x:=by first|exact Or.inl rfl|exact Or.inr (Or.inl rfl)|exact Or.inr (Or.inr rfl))(hd:(x==("__debug__" : Str))=false:=by decide)(hcd:(x==("__classdict__" : Str))=false:=by decide) :
  PSD X (.Return (some (.Name x px)) pos) (lv0 i):=.mk λH₀ B₀ δ pins s σ H D I ⟨r,en,e1,k⟩=>by
 unfold lv0 at e1;obtain⟨B,b1,b2,env⟩:=en.ex;split at e1
 ·rename_i d hi
  obtain⟨a,hs,hb,ro⟩:=env.at hi;cases e1;exact oy0 (ys0 (i:=i) hN hv hd hcd) pins s σ H D I ⟨_,hs,k a H (en.fr i d a hi hs) en.same (ro.mono (λo h=>h) (Gr.less λb z=>z.elim (b1 b) λq=>by rw[q];exact hb))⟩
 ·cases e1
end DL
namespace DL
@[simp] def g80:List D->Option D
 | [.lst ds]=>some (.lst ds.reverse)
 | _=>none
def pe0(ds:List D):List D:=(List.range ds.length).map λ(k:Nat)=>.tup [.int (k:Int),ds.getD k .non]
mutual
def tree:D->Bool
 | .lst _=>false
 | .dct _ _=>false
 | .fn _ _=>false
 | .tup ds=>trees ds
 | _=>true
def trees:List D->Bool
 | []=>true
 | d::ds=>tree d&&trees ds
end
def xy0(g:GE):GE:=fun δ=>(g (frz δ)).bind λd=>if tree d=true then some d else none
theorem uv0{g:GE}{d:D}(h:g (frz δ)=some d)(ht:tree d=true):xy0 g δ=some d:=by
 unfold xy0;rw[h,Option.bind_some,if_pos ht]
theorem M5{gA:GA}{n:Int}(h:gA δ=some [.int n])(h1:-(2 ^ 62)<=n)(h2:n<2 ^ 62):V9 gA δ=some (W4 0 n):=by
 unfold V9;rw[h,Option.bind_some];simp only[ly0];rw[if_pos ⟨h1,h2⟩]
theorem n80{g:GE}(h:g δ=some (.lst ds)):oA (z9 g v7) X4 δ=some (.int (ds.length:Int)):=by
 rw[o9 (cons_of h rfl)];rfl
end DL
namespace RevL
open Spec PyProof.Rows
theorem ki0:typeLookup (.type "list_reverseiterator") "__len__"=pure none:=by rw[typeLookup_type,builtinLookup_eq_fast];kernel_rfl
theorem ft0:typeLookup (.type "list_reverseiterator") "__length_hint__"=pure (some (.builtin "list_reverseiterator.__length_hint__")):=by rw[typeLookup_type,builtinLookup_eq_fast];kernel_rfl
theorem c80:isSubtype (.type "list_reverseiterator") (.type "list_reverseiterator")=pure true:=by rw[isSubtype_type];kernel_rfl
section
variable{w:World}{s:Shared}
variable{wr:List Addr}{G:Array GenState->Array GenState->Prop}{P:Nat->Value->Prop}{St:Nat->Shared->Prop}
theorem co0(W:WalksS prog w A.in1 I fp wr G n P St)(hT:∀i s,St i s->s.TypeIs (.ref I) "list_reverseiterator")(C:Addr)(res:Value)(c0:Nat)(st:St 0 s)(hC:C∉fp)(hI:I∈fp)
  (gC:s.heap.get? C=some { cls:=.type "list",data:=.seq #[] c0 })
  (hR:∀s' acc' c',Moved (C::wr) G s s'->s'.heap.get? C=some { cls:=.type "list",dict:=none,data:=.seq acc' c',slots:=#[] }->ItemsOf P acc' n->R (.ok (.ret res)) s') (hn:n<=sizeLine) :
  wpAny (model prog w) A.in1 (Builtin.List.listExtendWith (.ref C) (.ref I) res)
   (λfin s'=>match fin with|.done f=>R (.ok f) s'|.again c'=>c'.quiet=true/\codeAny (model prog w) A c' R s') (λe s'=>R (.error e) s') s:=by
 have ne:C≠I:=λe=>hC (e▸hI)
 unfold Builtin.List.listExtendWith;refine A0 (U1 (hT 0 _ st) (by
  have q1:Builtin.List.listSameRef (.ref C) (.ref I)=false:=by simp[Builtin.List.listSameRef,ne]
  have q2:(Value.type "list_reverseiterator"==Value.type "list")=false:=by decide
  have q3:(Value.type "list_reverseiterator"==Value.type "tuple")=false:=by decide
  simp only[q1,q2,q3,Bool.or_false,Bool.false_eq_true,if_false];refine A0 (W.self 0 _ _ _ st (A0 (C6 (by
   unfold Builtin.List.listLengthHint;refine A0 (A60 (hT 0 _ st) ki0 (by
    show wpAny _ A.in1 (specialOf (Value.ref I) (Str.ofString "__length_hint__")>>=_) _ _ _;refine A0 (A60 (hT 0 _ st) ft0 ?_);refine A0 (A80 (hT 0 _ st) c80 ?_);rw[if_neg (by decide)];dsimp only;rw[if_pos (by decide +kernel),if_neg (by decide)];refine A1 ?_;rw[if_neg (by decide +kernel)];refine A1 ⟨plainId_quiet PySem.F.plain_extend_loop _,?_⟩;exact codeAny_extend_loopS W hn _ hC _ n 0 _ _ _ rfl (K2 _) st gC (ItemsOf.nil P) λs' acc' c' m e J=>hR s' acc' c' m e J))))))))
theorem gq0(W:WalksS prog w A.in1 I fp wr G n P St)(hT:∀i s,St i s->s.TypeIs (.ref I) "list_reverseiterator")(C:Addr)(st:St 0 s)(hC:C∉fp)(hI:I∈fp)
  (gC:s.heap.get? C=some { cls:=.type "list",data:=.seq #[] })
  (hR:∀s' acc' c',Moved (C::wr) G s s'->s'.heap.get? C=some { cls:=.type "list",dict:=none,data:=.seq acc' c',slots:=#[] }->ItemsOf P acc' n->R (.ok (.ret .none)) s') (hn:n<=sizeLine) :
  wpAny (model prog w) A.in1 (Builtin.«list.__init__» ⟨[.ref C,.ref I],[]⟩)
   (λfin s'=>match fin with|.done f=>R (.ok f) s'|.again c'=>c'.quiet=true/\codeAny (model prog w) A c' R s') (λe s'=>R (.error e) s') s:=by
 show wpAny _ A.in1 (do let old ← Builtin.List.listItems (.ref C);Builtin.List.listUpdate (.ref C) (λ_=>#[]);letGo old.toList.reverse;Builtin.List.listExtendWith (.ref C) (.ref I) .none) _ _ s;refine A0 (by
  unfold Builtin.List.listItems;refine A0 (L3 gC rfl (A1 (by
   show wpAny _ A.in1 (updateSeq C (λ_=>#[])>>=λ_=>letGo (#[]:Array Value).toList.reverse>>=λ_=>Builtin.List.listExtendWith (.ref C) (.ref I) .none) _ _ s;have g2:=h8 (Obj.mapSeq (λ_=>(#[]:Array Value))) gC rfl;have oth:∀b o,b≠C->s.heap.get? b=some o->(s.heap.update C (Obj.mapSeq (λ_=>(#[]:Array Value)))).get? b=some o:=λb o hb e=>(A40 _ _ (C1 hb)).trans e
   refine A0 (wpAny_updateSeq gC rfl (A0 (W1 (co0 W hT C .none _ (W.frame 0 s _ s.toks st (A4 _) λb hb o e=>oth b o (λh=>hC (h▸hb)) e) hC hI g2 (λs' acc' c' m e J=>?_) hn))));exact hR s' acc' c' (Moved.trans W.gtrans ((Moved.refl W.grefl).then_heap (A4 _) λb o hb e=>oth b o (λh=>hb (h▸A5)) e) m) e J))))
end
section
variable{w:World}{s:Shared}
variable{wr:List Addr}{G:Array GenState->Array GenState->Prop}{P:Nat->Value->Prop}{St:Nat->Shared->Prop}
theorem qq0{Q:Value->Shared->Prop}(W:WalksS prog w A.in1.in1 I fp wr G n P St)(hT:∀i s,St i s->s.TypeIs (.ref I) "list_reverseiterator")(st:St 0 s)(hfp:∀b∈fp,b<s.heap.objs.size)(hI:I∈fp)
  (hQ:∀s' acc' c',Moved (s.heap.objs.size::wr) G { s with heap:=s.heap.push { cls:=.type "list",data:=.seq #[] } } s' ->
   s'.heap.get? s.heap.objs.size=some { cls:=.type "list",dict:=none,data:=.seq acc' c',slots:=#[] }->ItemsOf P acc' n->Q (.ref s.heap.objs.size) s') (hn:n<=sizeLine) :
  wpAny (model prog w) A (call (.type "list") [.ref I]) Q E s:=by
 have hC:s.heap.objs.size∉fp:=λz=>G0 _ (hfp _ z)
 refine callType_codes (Q₁:=λob s1=>ob=.ref s.heap.objs.size/\s1={ s with heap:=s.heap.push { cls:=.type "list",data:=.seq #[] } }) PySem.F.called_list (PySem.F.typeCall_list_1 _) PySem.F.entry_list_init (code_list_new _ ⟨rfl,rfl⟩) λob s1 h1=>?_
 obtain⟨rfl,rfl⟩:=h1;have gC:(s.heap.push { cls:=.type "list",data:=.seq #[] }).get? s.heap.objs.size=some { cls:=.type "list",data:=.seq #[] }:=B9 _ rfl;exact⟨⟨_,gC,rfl⟩,PySem.F.args_list_init_2 _ _,gq0 W hT _ (W.frame 0 s _ s.toks st (A4 _) λb _ o e=>A8 _ e) hC hI gC (λs' acc' c' m e J=>⟨rfl,hQ s' acc' c' m e J⟩) hn⟩
theorem p30{l:Addr}{its:Array Value}{Q:Value->Shared->Prop}(hh:A.handled=none)(hl:s.heap.IsList l its)(hz:its.size<=sizeLine)
  (h:∀(h':Heap) (tk c:Nat) (a:Addr),s.heap.objs.size<=a->h'.get? a=some { cls:=.type "list",dict:=none,data:=.seq its.reverse c,slots:=#[] }->(∀b o,s.heap.get? b=some o->h'.get? b=some o)->Q (.ref a) { s with heap:=h',toks:=tk }) :
  wpAny (model prog w) A (call (.type "reversed") [.ref l]) (λv s1=>wpAny (model prog w) A (call (.type "list") [v]) Q E s1) E s:=by
 refine call_reversed_list hl ?_;obtain⟨ol,gl,_,_⟩:=id hl;have O:l<s.heap.objs.size:=A6 gl;have U:A.in1.in1.handled=none:=by simp[hh]
 have Wk:=(Walks.listRev (prog:=prog) (w:=w) U s.heap.objs.size l (B8 O) its).toS;refine qq0 Wk (λi s x=>x.2.1.typeIs) ⟨K2 _,⟨_,B9 _ rfl,rfl,by
  show Data.fields #[.ref l,rawInt ((its.size:Int) - 1)]=_;have z:(its.size:Int) - 1 - ((0:Nat):Int)=(its.size:Int) - 1:=by omega
  rw[z]⟩,hl.push _⟩ (λb hb=>?_) (by simp) (λs' J c' m e M=>?_) hz
 ·show b<(s.heap.push _).objs.size
  rw[Heap.size_push];simp only[List.mem_cons,List.not_mem_nil,or_false] at hb;rcases hb with rfl|rfl
  ·exact i0 _
  ·exact X0 O
 ·obtain⟨h',g',d',Y,S⟩:=s'
  obtain rfl:g'=s.gens:=m.gens;obtain rfl:d'=s.drawn:=m.drawn;obtain rfl:S=s.os:=m.os;have ea:J=its.reverse:=by
   apply Array.ext
   ·rw[M.1,Array.size_reverse]
   ·intro i h1 h2
    have q:its[its.size - 1 - i]?=some J[i]:=M.2 i J[i] (Array.getElem?_eq_getElem h1);have hi:i<its.size:=by rw[← M.1];exact h1
    rw[Array.getElem?_eq_getElem (by omega)] at q;rw[Array.getElem_reverse];exact(B4 q).symm
  subst ea;have Z:(s.heap.push (revObj l ((its.size:Int) - 1))).objs.size=s.heap.objs.size+1:=Heap.size_push ..;refine h h' Y c' _ ?_ e λb o eb=>?_
  ·show s.heap.objs.size<=(s.heap.push _).objs.size
   rw[Heap.size_push];exact A90 _
  ·have lb:=A6 eb
   refine m.heap b o ?_ (A8 _ (A8 _ eb));simp only[List.mem_cons,List.not_mem_nil,or_false,not_or];refine⟨?_,B8 lb⟩;show b≠(s.heap.push _).objs.size;rw[Heap.size_push];exact B8 (X0 lb)
end
end RevL
namespace DL
open Spec PyProof.Rows L2
theorem Rps.reverse:∀{ds:List D} {xs:List V},Rps K H B ds xs->Rps K H B ds.reverse xs.reverse
 | [],_,h=>by rw[m9] at h;subst h;simp[m9]
 | d::ds,_,h=>by
  rw[o7] at h;obtain⟨x,r,rfl,h1,h2⟩:=h;rw[List.reverse_cons,List.reverse_cons];exact Rps.snoc (Rps.reverse h2) h1
theorem ma0:bootBuiltins "reversed"=some (.type "reversed"):=by decide +kernel
theorem cs0:bootBuiltins "list"=some (.type "list"):=by decide +kernel
theorem cm0(hc:X.calm=true)(hl:X.mg "list"=none)(hs:X.mg "reversed"=none)(he:PE X e te)(hgl:Gl X "list" := by rfl)(hgs:Gl X "reversed" := by rfl)
  (e1:starEach [.Call (.Name "reversed" p2) [e] [] pos2] X.env=(false,eval (.Call (.Name "reversed" p2) [e] [] pos2) X.env)::starEach [] X.env:=by rfl) (e2:starEach [e] X.env=(false,eval e X.env)::starEach [] X.env:=by rfl)
  (h1:(backTo pos (starEach [] X.env)).any (·.1)=false:=by rfl) (h2:(backTo pos2 (starEach [] X.env)).any (·.1)=false:=by rfl) :
  PE X (.Call (.Name "list" p) [.Call (.Name "reversed" p2) [e] [] pos2] [] pos) (fun σ H Q=>te σ H λv H'=>∃q xs,v=.ref q/\SqL X.K H' q xs/\∀l,H' l=none->Q (.ref l) (upd H' l (.lst xs.reverse))):=by
 intro pins s σ H Q I h;refine P5 (yf0 I hgl hl cs0 ?_ (by decide) (by decide));refine N4 ?_ e1 h1;rw[e1];show wpAny _ _ (spliced ((false,eval (.Call (.Name "reversed" p2) [e] [] pos2) X.env)::backTo pos (starEach [] X.env))) _ _ s;refine d3 ?_;refine P5 (yf0 I hgs hs ma0 ?_ (by decide) (by decide));refine N4 ?_ e2 h2;rw[e2];show wpAny _ _ (spliced ((false,eval e X.env)::backTo pos2 (starEach [] X.env))) _ _ s;refine d3 (thn (he pins s σ H _ I h) λu s1 ⟨v,H1,I1,r1,q,xs,ev,hq,k⟩=>b9 ?_);subst ev;obtain rfl:u=Value.ref q:=r1;obtain⟨its,rv,pl,hz⟩:=I1.list hq;have J:=rv.length;refine thn (RevL.p30 (I1.ok.hd hc) pl.isList (by rw[List.size_toArray,← J];exact hz) (Q:=EP X pins σ Q) (E:=X.xe) λh' tk c a ha ga hk=>?_) λv s2 hv=>b9 hv
 have hf:H1 a=none:=I1.hok.fresh ha;refine⟨.ref a,_,I1.laid (a:=a) (o:=.lst xs.reverse) (t':=tk) hk ha ?_,rfl,k a hf⟩;exact⟨by rw[List.length_reverse];exact hz,its.reverse,c,rv.reverse,by rw[ga];simp⟩
theorem f70(hl:X.mg "list"=none)(hs:X.mg "reversed"=none)(he:PD X e g)(hc:X.calm=true:=by rfl)(hgl:Gl X "list" := by rfl)(hgs:Gl X "reversed" := by rfl)
  (e1:starEach [.Call (.Name "reversed" p2) [e] [] pos2] X.env=(false,eval (.Call (.Name "reversed" p2) [e] [] pos2) X.env)::starEach [] X.env:=by rfl) (e2:starEach [e] X.env=(false,eval e X.env)::starEach [] X.env:=by rfl)
  (h1:(backTo pos (starEach [] X.env)).any (·.1)=false:=by rfl) (h2:(backTo pos2 (starEach [] X.env)).any (·.1)=false:=by rfl) :
  PDF X (.Call (.Name "list" p) [.Call (.Name "reversed" p2) [e] [] pos2] [] pos) (oA (z9 g v7) g80):=.mk λB δ =>
 (cm0 hc hl hs (he B δ) hgl hgs e1 e2 h1 h2).imp fun σ H Q ⟨d,en,h,k⟩=>by
  unfold oA z9 v7 at h;cases e3:g δ with
  | none=>rw[e3] at h;cases h
  | some x =>
   rw[e3] at h;simp only[Option.bind_some,Option.map_some] at h;cases x<;>simp only[g80] at h<;>try cases h
   refine⟨_,en,e3,λv H1 s1 r=>?_⟩;rw[X7] at r;obtain⟨q,xs,rfl,hq,rr⟩:=r;exact⟨q,xs,rfl,hq.to,λl hl=>k l _ (s1.free hl) (s1.trans (Y7 hl)) ⟨_,Z4,rr.reverse.mono (Gr.fresh hl)⟩⟩
theorem wg0[DecidableEq κ]:∀{ks:List κ} {ds:List D} {xs:List V} {q:κ},Rps K H B ds xs->(∀d,zq0 ks ds q=some d->∃x,y60 (ks.zip xs) q=some x/\Rp K H B d x)/\(ks.length=xs.length->(y60 (ks.zip xs) q).isSome=N6 ks q)
 | [],ds,xs,q,h=>by
  refine⟨λd e=>?_,λ_=>?_⟩
  ·unfold zq0 at e;cases e
  ·rfl
 | k::ks,[],xs,q,h=>by
  rw[m9] at h;subst h;refine⟨λd e=>?_,λz=>?_⟩
  ·unfold zq0 at e;cases e
  ·simp at z
 | k::ks,d::ds,xs,q,h=>by
  rw[o7] at h;obtain⟨x,r,rfl,h1,h2⟩:=h;obtain⟨i1,i2⟩:=wg0 (ks:=ks) (q:=q) h2
  by_cases e:k=q
  ·subst e
   refine⟨λd' e'=>?_,λ_=>?_⟩
   ·unfold zq0 at e'
    rw[if_pos rfl] at e';cases e';exact⟨x,xk0 rfl,h1⟩
   ·rw[List.zip_cons_cons,xk0 rfl]
    unfold N6;simp
  ·refine⟨λd' e'=>?_,λz=>?_⟩
   ·unfold zq0 at e'
    rw[if_neg e] at e';rw[List.zip_cons_cons,xo0 e];exact i1 d' e'
   ·rw[List.zip_cons_cons,xo0 e,i2 (by simpa using z)]
    unfold N6;simp[e]
theorem mt0[DecidableEq κ]:∀{ks:List κ} {xs:List V} {q:κ},ks.length=xs.length->((ks.zip xs).any λkv=>decide (kv.1=q))=N6 ks q
 | [],_,_,_=>rfl
 | k::ks,[],_,h=>by simp at h
 | k::ks,x::xs,q,h=>by
  rw[List.zip_cons_cons,List.any_cons,mt0 (by simpa using h)];rfl
theorem dk0[DecidableEq κ]{ks:List κ}{q:κ}{v:V}(h:ks.length=xs.length):∃ys,putK (ks.zip xs) q v=(zk0 ks q).zip ys/\(zk0 ks q).length=ys.length/\(N6 ks q=true->ys=(ks.zip xs).map λp=>if p.1=q then v else p.2)/\(N6 ks q=false->ys=xs++[v]):=by
 unfold putK zk0;rw[mt0 h];cases hk:N6 ks q with
 | true =>
  rw[if_pos rfl,if_pos rfl];refine⟨(ks.zip xs).map λp=>if p.1=q then v else p.2,?_,by simp[h],λ_=>rfl,λz=>by cases z⟩;clear hk
  induction ks generalizing xs with
  | nil=>rfl
  | cons k ks ih =>
   cases xs with
   | nil=>simp at h
   | cons x xs =>
    rw[List.zip_cons_cons,List.map_cons,List.map_cons,List.zip_cons_cons,ih (by simpa using h)]
    by_cases e:k=q<;>simp[e]
 | false =>
  rw[if_neg (by simp),if_neg (by simp)];refine⟨xs++[v],?_,by simp[h],λz=>(by cases z),λ_=>rfl⟩;rw[List.zip_append h];rfl
theorem s30[DecidableEq κ]{q:κ}{d:D}{v:V}(hv:Rp K H B d v):∀{ks:List κ} {ds:List D} {xs:List V},Rps K H B ds xs->Rps K H B ((ks.zip ds).map λp=>if p.1=q then d else p.2) ((ks.zip xs).map λp=>if p.1=q then v else p.2)
 | [],_,_,_=>by simp[m9]
 | k::ks,[],xs,h=>by rw[m9] at h;subst h;simp[m9]
 | k::ks,d'::ds,xs,h=>by
  rw[o7] at h;obtain⟨x,r,rfl,h1,h2⟩:=h;rw[List.zip_cons_cons,List.zip_cons_cons,List.map_cons,List.map_cons,o7];refine⟨_,_,rfl,?_,s30 hv h2⟩
  by_cases e:k=q
  ·simp only[e,if_true];exact hv
  ·simp only[e,if_false];exact h1
section
variable{a:Expr}{ga:Ds->Option D}
theorem kl0{d:D}{k:J2}{v:V}(h:w90 d=some k)(r:Rp K H B d v):v=kV k:=by
 cases d<;>simp[w90] at h
 ·subst h;rw[m8] at r;subst r;rfl
 ·subst h;rw[Y5] at r;subst r;rfl
theorem jm0:∀{ds:List D} {ks:List J2} {xs:List V},vu0 ds=some ks->Rps K H B ds xs->xs=ks.map kV
 | [],ks,xs,h,r=>by cases h;rw[m9] at r;exact r
 | d::ds,ks,xs,h,r=>by
  unfold vu0 at h;rw[o7] at r;obtain⟨x,r',rfl,h1,h2⟩:=r;cases e1:w90 d with
  | none=>rw[e1] at h;cases h
  | some k =>
   cases e2:vu0 ds with
   | none=>rw[e1,e2] at h;cases h
   | some l =>
    rw[e1,e2] at h;cases h;rw[kl0 e1 h1,jm0 e2 h2];rfl
theorem sh0{d:D}{k:List J2}{v:V}(h:za0 d=some k)(r:Rp K H B d v):∃b,v=.ref b/\H b=some (.tup (k.map kV)):=by
 cases d<;>simp only[za0] at h<;>try cases h
 rw[X3] at r;obtain⟨a,xs,rfl,q,rr⟩:=r;exact⟨a,rfl,by rw[← jm0 h rr];exact q.2⟩
theorem rj0(hu:X.A.units+1<cLine)(ha:PD X a ga)(hb:PD X b gb)(hs:fe0 b:=by exact λ_ _=>rfl):PD X (.Subscript a b pos) (o2 ga gb yo0):=.mk λB δ=>(d10 hu (ha B δ) (hb B δ) hs).imp fun σ H Q ⟨d,en,h,k⟩=>by
 unfold o2 at h;cases e1:ga δ with
 | none=>rw[e1] at h;cases h
 | some x =>
  cases e2:gb δ with
  | none=>rw[e1,e2] at h;cases h
  | some y =>
   rw[e1,e2] at h;simp only[Option.bind_some] at h;refine⟨x,en,e1,λv1 H1 s1 r1=>⟨y,en.same s1,e2,λv2 H2 s2 r2=>?_⟩⟩;cases x<;>simp only[yo0] at h<;>try cases h
   rename_i ks ds;have r1:=r1.same s2;cases ks with
   | inl ks =>
    simp only at h;cases e3:w90 y with
    | none=>rw[e3] at h;cases h
    | some q =>
     rw[e3] at h;simp only[Option.bind_some] at h;rw[jn0] at r1;obtain⟨p,xs,rfl,_,hp,hl,rr⟩:=r1;obtain⟨v,hv,rv⟩:=(wg0 rr).1 d h;have:=kl0 e3 r2;subst this;exact⟨p,v,rfl,by rw[← hv];exact DGet.k hp,k v H2 (s1.trans s2) rv⟩
   | inr ks =>
    simp only at h;cases e3:za0 y with
    | none=>rw[e3] at h;cases h
    | some q =>
     rw[e3] at h;simp only[Option.bind_some] at h;rw[uy0] at r1;obtain⟨p,xs,rfl,_,hp,hl,rr⟩:=r1;obtain⟨v,hv,rv⟩:=(wg0 rr).1 d h;obtain⟨b,rfl,hb⟩:=sh0 e3 r2;exact⟨p,v,rfl,by rw[← hv];exact DGet.t hp hb,k v H2 (s1.trans s2) rv⟩
theorem tr0(hu:X.A.units+1<cLine)(ha:PD X a ga)(hb:PD X b gb)(hm:behindInMarks .NotIn b=false:=by first|rfl|with_unfolding_all rfl):PTD X (.Compare a [.NotIn] [b] pos) (ob (o2 ga gb (R8 true))):=.mk λB δ=>(Y00 (g20 hu (ha B δ) (hb B δ)) hm).imp fun σ H Q ⟨t,en,h,k⟩=>by
 unfold ob o2 at h;cases e1:ga δ with
 | none=>rw[e1] at h;cases h
 | some x =>
  cases e2:gb δ with
  | none=>rw[e1,e2] at h;cases h
  | some y =>
   rw[e1,e2] at h;simp only[Option.bind_some] at h;refine⟨x,en,e1,λv1 H1 s1 r1=>⟨y,en.same s1,e2,λv2 H2 s2 r2=>?_⟩⟩;cases y<;>simp only[R8] at h<;>try cases h
   rename_i ks ds;cases ks with
   | inl ks =>
    simp only at h;cases e3:w90 x with
    | none=>rw[e3] at h;cases h
    | some q =>
     rw[e3] at h;simp only[Option.map_some,Option.bind_some,asB,Bool.true_xor] at h;cases h;rw[jn0] at r2;obtain⟨p,xs,rfl,_,hp,hl,rr⟩:=r2;have:=kl0 e3 r1;subst this;refine⟨p,_,rfl,DGet.k hp,_,rfl,?_⟩;rw[(wg0 rr).2 hl];exact k H2 (s1.trans s2)
   | inr ks =>
    simp only at h;cases e3:za0 x with
    | none=>rw[e3] at h;cases h
    | some q =>
     rw[e3] at h;simp only[Option.map_some,Option.bind_some,asB,Bool.true_xor] at h;cases h;rw[uy0] at r2;obtain⟨p,xs,rfl,_,hp,hl,rr⟩:=r2;obtain⟨b,rfl,hb⟩:=sh0 e3 (r1.same s2);refine⟨p,_,rfl,DGet.t hp hb,_,rfl,?_⟩;rw[(wg0 rr).2 hl];exact k H2 (s1.trans s2)
theorem cv0{r:List (List J2)×List D}(h:ue0 i δ=some r):δ[i]?=some (.ow (.dct (.inr r.1) r.2)):=by
 unfold ue0 at h;split at h
 ·cases h;assumption
 ·cases h
theorem k50:PDF X (.Dict [] [] pos) (gc (.dct (.inr []) [])):=.mk λB δ=>gp0.imp fun σ H Q ⟨d,en,h,k⟩=>by
 cases h;exact λp hp=>k p _ hp (Y7 hp) ⟨[],Z4,rfl,by rw[m9]⟩
theorem tc0(i:Nat)(hu:X.A.units+1<cLine)(h:PD X e g)(hN:X.N[i]?=some x:=by rfl)(hv:Vis X.env.scope x:=by first|exact Or.inl rfl|exact Or.inr (Or.inl rfl)|exact Or.inr (Or.inr rfl))(hd:(x==("__debug__" : Str))=false:=by decide)(hcd:(x==("__classdict__" : Str))=false:=by decide)
  (ha:∀v,assign (.Subscript (.Name x px) e pos) X.env v=(do
   let ov ← holding [v] (eval (.Name x px) X.env)
   let iv ← holding [v,ov] (eval e X.env)
   standAt pos
   holding [v,ov,iv] (setItem ov iv v)
   release [v,ov,iv] []):=by intro _;rfl):PTG X (.Subscript (.Name x px) e pos) (z90 i g):=.mk λH₀ B₀ d δ pins s σ H v u Q I r ⟨δ',en,e1,k⟩=>by
 unfold z90 at e1;obtain⟨B,b1,b2,env,rv⟩:=en.ex;cases e2:ue0 i δ with
 | none=>rw[e2] at e1;cases e1
 | some pr =>
  cases e3:g δ with
  | none=>rw[e2,e3] at e1;cases e1
  | some dk =>
   rw[e2,e3] at e1;simp only[Option.bind_some] at e1;cases e4:za0 dk with
   | none=>rw[e4] at e1;cases e1
   | some q =>
    rw[e4] at e1;simp only[Option.bind_some] at e1;split at e1
    ·rename_i hz
     cases e1;have hi:=cv0 e2;obtain⟨a,J,hb,xs,hx,hl,rx⟩:=env.at hi;have hl:pr.1.length=xs.length:=hl;refine ir0 (ys0 (i:=i) hN hv hd hcd) (h B δ) (set_dict hu) ha pins s σ H v u Q I r ⟨_,J,_,env,e3,λiv H1 s1 r1=>?_⟩;obtain⟨kb,rfl,S⟩:=sh0 e4 r1;obtain⟨ys,hy,O,Y,U⟩:=dk0 (q:=q) (v:=v) hl;refine⟨a,_,rfl,DPut.t (s1 _ _ hx) S (by rw[List.length_zip,← hl,Nat.min_self];exact hz),?_⟩;have rr:Rps X.K H1 B (ya0 pr.1 pr.2 q d) ys:=by
      unfold ya0;cases hk:N6 pr.1 q with
      | true=>rw[if_pos rfl,Y hk];exact s30 (rv.same s1) (rx.same s1)
      | false=>rw[if_neg (by simp),U hk];exact Rps.snoc (rx.same s1) (rv.same s1)
     rw[hy];have M:Env X.K (upd H1 a (.dT ((zk0 pr.1 q).zip ys))) B σ (δ.set i (.ow (.dct (.inr (zk0 pr.1 q)) (ya0 pr.1 pr.2 q d)))):=(env.same s1).mut hi J ⟨ys,Z4,O,rr.mono (Gr.own hb)⟩;exact k _ _ (en.s.mut s1 b1 b2 hi J M)
    ·cases e1
end
end DL
namespace DL
open Spec PyProof.Rows L2
section
variable{a:Expr}{ga:Ds->Option D}
theorem v10{sc scope:Scope}{elt iter tg:Expr}{ifs:List Expr}{N N':List Str}{n:Nat}{caps:List Nat}{gi:Ds->Option (List D)}{idx:List Nat}{f:D->Ds->Option Ds}{gt:Ds->Option Bool}{ge:Ds->Option D}
  (ok:CompOk sc scope N N' n caps) (hidx:∀j∈idx,j<n) (hi:PID X tg iter gi)
  (hg:∀cl s H ex,PGD (V3 X scope cl N' s H ex) tg idx f) (ht:∀cl s H ex,PFD (V3 X scope cl N' s H ex) ifs gt) (he:∀cl s H ex,PD (V3 X scope cl N' s H ex) elt ge)
  (hc:X.calm=true:=by rfl) (hsc:X.env.scope=sc:=by rfl) (hN:X.N=N:=by rfl) (hs:∀x,foldedSetIterable iter X.env x=pure x:=by intro _;rfl) :
  PDF X (.ListComp elt [⟨tg,iter,ifs,0⟩] scope pos) (R5 n caps gi f gt ge):=o90 hc hsc (hN▸ok) hidx hi hg ht he hs
end
end DL
namespace ZipL
open Spec PyProof.Rows
abbrev IsZ(h:Heap)(z TI TO a:Addr)(f:Bool):Prop :=
 h.get? z=some { cls:=.type "zip",dict:=none,data:=.fields #[rawInt a,.bool f,.bool false,.ref TI,.ref TO],slots:=#[] }
section
variable{w:World}{s:Shared}
theorem alive{o:Obj}{Q:Option Obj->Shared->Prop}(ho:s.heap.get? a=some o)(h:Q (some o) s):wpAny (model prog w) A (loadIfAlive a) Q E s:=by
 have h':Q (s.heap.get? a) s:=by rw[ho];exact h
 exact λ_ _ _=>h'
theorem oh0{TI TO:Addr}{f:Bool}{Q:Bool->Shared->Prop}(hz:IsZ s.heap z TI TO a f)(ha:s.heap.get? a=some oa)
  (hQ:∀h',IsZ h' z TI TO a true->Heap.SameBut z s.heap h'->Q false { s with heap:=h' }):wpAny (model prog w) A (Builtin.SmallTypes.ownedTupleIsFree (.ref z)) Q E s:=by
 unfold Builtin.SmallTypes.ownedTupleIsFree;refine A0 (B5 hz rfl (x:=rawInt a) rfl ?_);show wpAny _ _ (loadIfAlive ((a:Int).toNat)>>=_) _ _ _;rw[Int.toNat_natCast];refine A0 (alive ha ?_);simp only[Option.isNone_some,Bool.false_eq_true,if_false];refine A0 (B5 hz rfl (x:=.bool f) rfl ?_);cases f with
 | true =>
  rw[if_neg (show ¬((Value.bool true != Value.bool true)=true) from C7)];exact A1 (hQ _ hz (Heap.SameBut.refl _ _))
 | false =>
  rw[if_pos (show (Value.bool false != Value.bool true)=true from rfl)];exact A0 (E2 hz (by simp) λh3 J M=>A1 (hQ h3 J M))
theorem ga0{TI TO a:Addr}{f:Bool}{oa:Obj}{k1 k2:Nat}{xs ys:Array Value}{x y:Value}{Q:Value->Shared->Prop}(D:ZipApart z TI TO i1 i2 l1 l2)
  (hz:IsZ s.heap z TI TO a f) (ha:s.heap.get? a=some oa) (hTI:IsPair s.heap TI (.ref i1) (.ref i2))
  (h1:s.heap.IsListIter i1 l1 k1) (h2:s.heap.IsListIter i2 l2 k2) (hl1:s.heap.IsList l1 xs) (hl2:s.heap.IsList l2 ys) (hx:xs[k1]?=some x) (hy:ys[k2]?=some y)
  (hQ:∀h',IsZ h' z TI TO a true->h'.IsListIter i1 l1 (k1+1)->h'.IsListIter i2 l2 (k2+1)->IsPair h' s.heap.objs.size x y->h'.objs.size=s.heap.objs.size+1 ->
   (∀c o,c≠z->c≠i1->c≠i2->s.heap.get? c=some o->h'.get? c=some o)->Q (.ref s.heap.objs.size) { s with heap:=h' }) :
  wpAny (model prog w) A (Builtin.«zip.__next__» ⟨[.ref z],[]⟩) (λfin s'=>∃v,fin=.done (.ret v)/\Q v s') E s:=by
 show wpAny _ _ (field (.ref z) 2>>=_) _ _ _;refine A0 (B5 hz rfl (x:=.bool false) rfl ?_);show wpAny _ _ (field (.ref z) 3>>=_) _ _ _;refine A0 (B5 hz rfl (x:=.ref TI) rfl ?_);refine A0 (L3 hTI rfl ?_);show wpAny _ _ (Builtin.SmallTypes.ownedTupleIsFree (.ref z)>>=_) _ _ _;refine A0 (oh0 hz ha λh₁ U J=>?_);simp only[Bool.false_eq_true,if_false];refine A0 ?_;simp only[List.forIn_toArray,List.forIn_cons,List.forIn_nil];refine A0 (A0 (C6 ?_));show wpAny _ _ (Builtin.SmallTypes.nextOf (.ref i1)>>=_) _ _ _;refine A0 (Q1 (h1.extBut J.extBut D.i1z) (hl1.extBut J.extBut D.l1z) hx λh₂ Y M=>A1 ?_);refine A1 ?_;refine A0 (A0 (C6 ?_));show wpAny _ _ (Builtin.SmallTypes.nextOf (.ref i2)>>=_) _ _ _;refine A0 (Q1 ((h2.extBut J.extBut D.i2z).extBut M.extBut D.i12.symm) ((hl2.extBut J.extBut D.l2z).extBut M.extBut D.l2i1) hy λh₄ a0 O=>A1 ?_);refine A1 (A1 ?_);refine A0 (i7 (hsz:=by show 2<=sizeLine;decide) ?_);have S:h₄.objs.size=s.heap.objs.size:=by rw[O.1,M.1,J.1]
 have Z:IsZ h₄ z TI TO a true:=O.extBut _ _ D.i2z.symm (M.extBut _ _ D.i1z.symm U);have a1:∀c o,c≠z->c≠i1->c≠i2->s.heap.get? c=some o->h₄.get? c=some o:=λc o c1 c3 c4 e=>O.extBut _ _ c4 (M.extBut _ _ c3 (J.extBut _ _ c1 e))
 refine A1 ⟨_,rfl,?_⟩;show Q (.ref h₄.objs.size) _;have hq:=hQ (h₄.push { cls:=.type "tuple",data:=.seq #[x,y] }) (A8 _ Z) ((Y.extBut O.extBut D.i12).at λo e=>A8 _ e) (a0.at λo e=>A8 _ e)
  (by rw[← S];exact B9 _ rfl) (by rw[Heap.size_push,S]) λc o c1 c3 c4 e=>A8 _ (a1 c o c1 c3 c4 e)
 rw[S];exact hq
theorem cp0{TI TO a:Addr}{f:Bool}{oa:Obj}{k1 k2:Nat}{xs ys:Array Value}{Q:Fin->Shared->Prop}(hh:A.handled=none)(D:ZipApart z TI TO i1 i2 l1 l2)
  (hz:IsZ s.heap z TI TO a f) (ha:s.heap.get? a=some oa) (hTI:IsPair s.heap TI (.ref i1) (.ref i2))
  (h1:s.heap.IsListIter i1 l1 k1) (h2:s.heap.IsListIter i2 l2 k2) (hl1:s.heap.IsList l1 xs) (hl2:s.heap.IsList l2 ys) (hend:xs[k1]?=none∨ys[k2]?=none)
  (hE:∀h' e,(∀c o,c≠z->c≠i1->c≠i2->s.heap.get? c=some o->h'.get? c=some o)->(∃o,h'.get? e=some o/\o.cls=.type "StopIteration")->E (.ref e) { s with heap:=h' }) :
  wpAny (model prog w) A (Builtin.«zip.__next__» ⟨[.ref z],[]⟩) Q E s:=by
 show wpAny _ _ (field (.ref z) 2>>=_) _ _ _;refine A0 (B5 hz rfl (x:=.bool false) rfl ?_);show wpAny _ _ (field (.ref z) 3>>=_) _ _ _;refine A0 (B5 hz rfl (x:=.ref TI) rfl ?_);refine A0 (L3 hTI rfl ?_);show wpAny _ _ (Builtin.SmallTypes.ownedTupleIsFree (.ref z)>>=_) _ _ _;refine A0 (oh0 hz ha λh₁ S J=>?_);simp only[Bool.false_eq_true,if_false];refine A0 ?_;simp only[List.forIn_toArray,List.forIn_cons,List.forIn_nil];refine A0 (A0 (C6 ?_));show wpAny _ _ (Builtin.SmallTypes.nextOf (.ref i1)>>=_) _ _ _;cases hx:xs[k1]? with
 | none =>
  refine A0 (i8 hh (h1.extBut J.extBut D.i1z) (hl1.extBut J.extBut D.l1z) hx λh₂ e M he=>?_);exact hE h₂ e (λc o c1 c3 _ x=>M _ _ c3 (J.extBut _ _ c1 x)) he
 | some x =>
  have hy:ys[k2]?=none:=by rcases hend with h|h;rw[hx] at h;cases h;exact h
  refine A0 (Q1 (h1.extBut J.extBut D.i1z) (hl1.extBut J.extBut D.l1z) hx λh₂ U M=>A1 ?_);refine A1 ?_;refine A0 (A0 (C6 ?_));show wpAny _ _ (Builtin.SmallTypes.nextOf (.ref i2)>>=_) _ _ _;refine A0 (i8 hh ((h2.extBut J.extBut D.i2z).extBut M.extBut D.i12.symm) ((hl2.extBut J.extBut D.l2z).extBut M.extBut D.l2i1) hy λh₄ e O he=>?_);exact hE h₄ e (λc o c1 c3 c4 x=>O _ _ c4 (M.extBut _ _ c3 (J.extBut _ _ c1 x))) he
end
end ZipL
namespace L2
open Spec PyProof.Rows
section
variable{s:Shared}
theorem Inv.turnedL(I:Inv X pins σ H s)(hf:∀b∈fp,xz0 X pins H b)(k:∀b o,b∉fp->s.heap.get? b=some o->h'.get? b=some o):Inv X pins σ H { s with heap:=h',toks:=t' }:=by
 have J:∀b u,H b=some u->b∉fp:=λb u e z=>by rw[(hf b z).1] at e;cases e
 refine I.step (g':=s.gens) (d':=s.drawn) (ch:=fp) (λb hb=>⟨(hf b hb).2.2.2.1,(hf b hb).2.1,(hf b hb).2.2.2.2.1,(hf b hb).2.2.2.2.2⟩) (λb o _ _ hc e _=>k b o hc e) (λb o _ _ hc e _=>⟨o.slots,k b o hc e⟩) (λ_ _ _ _ n=>n)
  (λb o hc e=>⟨o,k b o hc e⟩) (λ_ _ e=>e) (λ_ _ _ e=>e) (λb ps e=>⟨#[],by rw[e];simp⟩) (λm hm=>?_) (λb u e=>?_) I.bare
 ·obtain⟨o,es,ep,ho,r⟩:=hm
  exact⟨o,es,ep,k _ o (λz=>(hf _ z).2.1 rfl) ho,r⟩
 ·refine(I.hok b u e).stay (λc v hc q=>k c v ?_ q) (λ_ q=>q) (λ_ _ q=>q) λ_ _ _ q=>q
  rcases hc with z|z
  ·rw[z];exact J b u e
  ·exact J c _ z
theorem Inv.turnedNew{t':Nat}{x y:V}{w:Value}(I:Inv X pins σ H s)(hf:∀b∈fp,xz0 X pins H b)(rx:RelV x u)(ry:RelV y w)(hlt:∀b∈fp,b<s.heap.objs.size)
  (hob:h'.get? s.heap.objs.size=some { cls:=.type "tuple",data:=.seq #[u,w] }) (k:∀b o,b∉fp->s.heap.get? b=some o->h'.get? b=some o) :
  Inv X pins σ (upd H s.heap.objs.size (.tup [x,y])) { s with heap:=h',toks:=t' }/\∀b∈fp,upd H s.heap.objs.size (.tup [x,y]) b=none:=by
 have ne:∀b∈fp,b≠s.heap.objs.size:=λb hb=>B8 (hlt b hb)
 have fr:∀b∈fp,upd H s.heap.objs.size (.tup [x,y]) b=none:=λb hb=>by rw[Z2 (ne b hb)];exact(hf b hb).1
 have I1:Inv X pins σ (upd H s.heap.objs.size (.tup [x,y])) { s with heap:=s.heap.push { cls:=.type "tuple",data:=.seq #[u,w] },toks:=t' } :=
  I.laid (λb o e=>A8 _ e) (A4 _) ⟨(by show 2<=sizeLine;decide),[u,w],.cons rx (.cons ry .nil),⟨_,B9 _ rfl,rfl,_,rfl,rfl⟩⟩
 refine⟨Inv.turnedL (s:={ s with heap:=s.heap.push { cls:=.type "tuple",data:=.seq #[u,w] },toks:=t' }) (t':=t') (fp:=fp) I1 (λb hb=>⟨fr b hb,(hf b hb).2⟩) λb o hb e=>?_,fr⟩;rcases Heap.get?_push_cases e with⟨rfl,rfl⟩|e
 ·exact hob
 ·exact k b o hb e
end
theorem boot_zip:bootBuiltins "zip"=some (.type "zip"):=by decide +kernel
theorem js0:bootBuiltins "enumerate"=some (.type "enumerate"):=by decide +kernel
end L2
namespace DL
open Spec PyProof.Rows L2
section
variable{a:Expr}
theorem l30{t:Addr}{x y:V}{d e:D}(hn:¬B t)(ht:H t=some (.tup [x,y]))(r1:Rp K H B d x)(r2:Rp K H B e y):Rp K H B (.tup [d,e]) (.ref t):=by
 rw[X3];refine⟨t,[x,y],rfl,⟨hn,ht⟩,?_⟩;rw[o7];refine⟨_,_,rfl,r1,?_⟩;rw[o7];exact⟨_,_,rfl,r2,by rw[m9]⟩
end
mutual
theorem un0(hB:∀a,B a->B' a∨∀ys,H a≠some (.tup ys)):∀(d:D) (v:V),tree d=true->Rp K H B' d v->Rp K H B d v
 | .non,v,_,r=>by rw[S9] at r ⊢;exact r
 | .bl _,v,_,r=>by rw[X8] at r ⊢;exact r
 | .int _,v,_,r=>by rw[m8] at r ⊢;exact r
 | .str _,v,_,r=>by rw[Y5] at r ⊢;exact r
 | .lst _,v,h,_=>by unfold tree at h;cases h
 | .dct _ _,v,h,_=>by unfold tree at h;cases h
 | .fn _ _,v,h,_=>by unfold tree at h;cases h
 | .tup ds,v,h,r=>by
  unfold tree at h;rw[X3] at r ⊢;obtain⟨a,xs,rfl,q,rs⟩:=r;refine⟨a,xs,rfl,?_,tg0 hB ds xs h rs⟩;obtain⟨n,q⟩:=q;refine⟨λz=>?_,q⟩;exact(hB a z).elim n λz=>z _ q
theorem tg0(hB:∀a,B a->B' a∨∀ys,H a≠some (.tup ys)):∀(ds:List D) (vs:List V),trees ds=true->Rps K H B' ds vs->Rps K H B ds vs
 | [],vs,_,r=>by rw[m9] at r ⊢;exact r
 | d::ds,vs,h,r=>by
  unfold trees at h;rw[Bool.and_eq_true] at h;rw[o7] at r ⊢;obtain⟨x,t,rfl,r1,r2⟩:=r;exact⟨x,t,rfl,un0 hB d x h.1 r1,tg0 hB ds t h.2 r2⟩
end
theorem uo0{g:GE}(h:PD X e g):PD X e (xy0 g):=.mk λB δ pins s σ H Q I ⟨d,en,hq,k⟩=>by
 obtain⟨B',c1,c2,J⟩:=en.frz;unfold xy0 at hq;cases e1:g (frz δ) with
 | none=>rw[e1] at hq;cases hq
 | some x =>
  rw[e1] at hq
  by_cases hf:tree x=true
  ·simp only[Option.bind_some,if_pos hf] at hq
   cases hq;refine h B' (frz δ) pins s σ H Q I ⟨_,J,e1,λv H' s' r=>k v H' s' (un0 (λa z=>?_) _ _ hf r)⟩;rcases c2 a z with q|⟨i,d',h1,h2⟩
   ·exact .inl q
   ·obtain⟨o,h3,a',e4,_,ro⟩:=Pd.get en.all h1
    rw[h2] at h3;cases h3;cases e4;exact .inr λys z=>(ro.live.same s').nt ys z
  ·simp only[Option.bind_some,if_neg hf] at hq
   cases hq
end DL
namespace DL
open Spec PyProof.Rows L2
@[simp] def yt0(ga gb gc:GE)(f f':D->D->Option D):GE:=fun δ=>(ga δ).bind λx=>(gb δ).bind λy=>(f x y).bind λt=>(asB t).bind λk=>if k=true then (gc δ).bind λz=>f' y z else some (.bl false)
@[simp] def rl0:D->D->Option D
 | .int n,.str x=>if -(2 ^ 62)<=n/\n<2 ^ 62/\x.length*n.toNat<=sizeLine then some (.str (lm0 x n)) else none
 | _,_=>none
section
variable{a:Expr}{ga gc:Ds->Option D}
theorem g10{r r':R2}{f f':D->D->Option D}(hf:Op2 K r f)(hf':Op2 K r' f'){σ:St}{Q:VK}(h:tD K B δ (yt0 ga gb gc f f') σ H Q):jo0 r r' (tD K B δ ga) (tD K B δ gb) (tD K B δ gc) σ H Q:=by
 obtain⟨d,en,h,k⟩:=h;unfold yt0 at h;cases e1:ga δ with
 | none=>rw[e1] at h;cases h
 | some x =>
  cases e2:gb δ with
  | none=>rw[e1,e2] at h;cases h
  | some y =>
   rw[e1,e2] at h;simp only[Option.bind_some] at h;cases e3:f x y with
   | none=>rw[e3] at h;cases h
   | some t =>
    rw[e3] at h;simp only[Option.bind_some] at h;cases e4:asB t with
    | none=>rw[e4] at h;cases h
    | some kb =>
     rw[e4] at h;simp only[Option.bind_some] at h;cases s00 e4;refine⟨x,en,e1,λv1 H1 s1 r1=>⟨y,en.same s1,e2,λv2 H2 s2 r2=>?_⟩⟩;refine hf H2 B v1 v2 x y _ _ ((en.same s1).same s2).bad (r1.same s2) r2 e3 λv H3 s3 r3=>?_
     rw[X8] at r3;refine⟨kb,r3,?_⟩;cases kb with
     | false =>
      rw[if_neg C7] at h ⊢;cases h;exact k _ H3 ((s1.trans s2).trans s3) (by rw[X8])
     | true =>
      rw[if_pos rfl] at h ⊢;cases e5:gc δ with
      | none=>rw[e5] at h;cases h
      | some z =>
       rw[e5] at h;simp only[Option.bind_some] at h;refine⟨z,((en.same s1).same s2).same s3,e5,λv4 H4 s4 r4=>?_⟩;exact hf' H4 B v2 v4 y z d _ ((((en.same s1).same s2).same s3).same s4).bad ((r2.same s3).same s4) r4 h λv' H5 s5 r5=>k v' H5 ((((s1.trans s2).trans s3).trans s4).trans s5) r5
theorem i00{op op':CmpOp}{r r':R2}{f f':D->D->Option D}(ho:OpR X (compareOp op) r)(hf:Op2 X.K r f)(ho':OpR X (compareOp op') r')(hf':Op2 X.K r' f')(ha:PD X a ga)(hb:PD X b gb)(hc:PD X c gc)
  (hm:lastMarks [op,op'] [b,c]=false:=by with_unfolding_all rfl):PTD X (.Compare a [op,op'] [b,c] pos) (ob (yt0 ga gb gc f f')) :=
 .mk λB δ=>(g70 ho ho' (ha B δ) (hb B δ) (hc B δ) hm).imp fun σ H Q ⟨t,en,h,k⟩=>by
  unfold ob at h;cases e:yt0 ga gb gc f f' δ with
  | none=>rw[e] at h;cases h
  | some d =>
   rw[e] at h;cases s00 h;exact g10 hf hf' ⟨_,en,e,λv H' s r=>⟨t,by rw[X8] at r;exact r,k H' s⟩⟩
open Builtin Builtin.Str Builtin.Int in
theorem lq0{prog:Program}{w:World}{A:Around}{E:Value->Shared->Prop}{s:Shared}{x:Str}{n:Int}{t u:Tok}{Q:Value->Shared->Prop}(hr:(decide (n < -(2 ^ 63:Int))||decide (n ≥ 2 ^ 63))=false)
  (hb:¬n<1->(n==1||x.length==0)=false->¬((x.length:Int) > (2 ^ 63 - 1)/n)) (hl:¬n<1->(n==1||x.length==0)=false->tooLong (x.length*n.toNat)=false)
  (h:(if n<1 then Made.str Str.empty else if (n==1||x.length==0)=true then Made.val (.str x t) else Made.str ⟨(List.replicate n.toNat x.cps).foldl (·++·) #[]⟩).post Q s) :
  wpAny (model prog w) A (binaryOp .Mult (.int n u) (.str x t)) Q E s :=
 PySem.lm_binaryOp_repeat_right (T := "str") (U := "int") (by decide) (λs'=>O0 s' n u) (P8 s x t) PySem.F.fills_int_mul PySem.noFill_str_mul Cc0 PySem.lm_noRepeat_int PySem.repeat_str PySem.F.slot_int_index.lookup
  (call_gives Cc0 (O0 s n u) PySem.F.entry_int_mul (PySem.F.args_int_mul_2 _ _) (PySem.AutoIntG3.int___mul___int_str_0 n u x t)
   ⟨rfl,P8 _ x t,call_gives PySem.F.slot_str_mul (P8 s x t) PySem.F.entry_str_mul (PySem.F.args_str_mul_2 _ _) (gives_str_mul x n t u hr hb hl) h⟩)
def ep0:R2:=λx y H Q=>∃z n,y=.str z/\x=.int n/\-(2 ^ 62)<=n/\n<2 ^ 62/\z.length*n.toNat<=sizeLine/\Q (.str (yg0 z n)) H
theorem c60:OpR X (binaryOp .Mult) ep0:=by
 intro pins s σ H x y v u Q I rx ry h;obtain⟨z,n,rfl,rfl,h1,h2,hz,q⟩:=h;obtain⟨t,rfl⟩:=ry;obtain⟨t',rfl⟩:=rx;have fin:∀O k,EP X pins σ Q (.str (yg0 z n) O) { s with toks:=k }:=λO k=>⟨.str _,H,I.tok k,⟨O,rfl⟩,q⟩
 have Z:(sizeLine:Nat)<2 ^ 40:=by decide
 have S:¬n<1->¬((z.length:Int) > (2 ^ 63 - 1)/n):=by
  intro hn;have U:0<n:=by omega
  have:(z.length:Int)*n<=2 ^ 63 - 1:=by
   have e:n=(n.toNat:Int):=by omega
   rw[e];have:((z.length*n.toNat:Nat):Int)<=2 ^ 40:=by exact_mod_cast (by omega:z.length*n.toNat<=2 ^ 40)
   rw[Int.natCast_mul] at this;omega
  exact Int.not_lt.mpr ((Bi0 U).mpr this)
 refine lq0 (by rw[decide_eq_false (by omega),decide_eq_false (by omega)];rfl) (λhn _=>S hn) (λ_ _=>?_) ?_
 ·show decide (z.length*n.toNat > sizeLine)=false
  exact P4 (by omega)
 ·by_cases hn:n<1
  ·rw[if_pos hn]
   have e:yg0 z n=Str.empty:=by
    unfold yg0;rw[show n.toNat=0 by omega];rfl
   refine⟨by decide,?_⟩;rw[← e];exact fin _ _
  ·rw[if_neg hn]
   by_cases h3:(n==1||z.length==0)=true
   ·rw[if_pos h3]
    have e:yg0 z n=z:=by
     rw[Bool.or_eq_true] at h3;rcases h3 with h3|h3
     ·have:n=1:=P7 h3
      subst this;unfold yg0;show (⟨#[]++z.cps⟩:Str)=z;rw[Array.empty_append]
     ·have h3:z.length=0:=P7 h3
      have M:z.cps=#[]:=Bj0 h3;have:∀k:Nat,(List.replicate k (#[]:Array Nat)).foldl (·++·) #[]=#[]:=by
       intro k
       induction k with
       | zero=>rfl
       | succ k ih=>rw[List.replicate_succ,List.foldl_cons];exact ih
      unfold yg0;rw[M,this];cases z;simp at M;rw[M]
    have:=fin t s.toks;rw[e] at this;exact this
   ·rw[if_neg h3]
    have Y:∀(k:Nat) (J:Array Nat),((List.replicate k z.cps).foldl (·++·) J).size=J.size+k*z.cps.size:=by
     intro k
     induction k with
     | zero=>intro J;simp
     | succ k ih=>intro J;rw[List.replicate_succ,List.foldl_cons,ih,Array.size_append,Nat.succ_mul];omega
    refine⟨?_,fin _ _⟩;show ((List.replicate n.toNat z.cps).foldl (·++·) #[]).size<=_;rw[Y];have:z.length=z.cps.size:=rfl;rw[this,Nat.mul_comm] at hz
    simpa using hz
theorem gf0:Op2 K ep0 rl0:=by
 intro H B x y dx dy d Q hb rx ry h k;cases dx<;>cases dy<;>simp only[rl0] at h<;>try cases h
 split at h
 ·rename_i hz
  cases h;rw[Y5] at ry;rw[m8] at rx;subst rx ry;exact⟨_,_,rfl,rfl,hz.1,hz.2.1,hz.2.2,k _ H (Same.refl H) (by rw[Y5];rfl)⟩
 ·cases h
theorem d40(ha:PD X a ga)(hb:PD X b gb):PD X (.BinOp a .Mult b pos) (o2 ga gb rl0):=v30 c60 gf0 ha hb
end
end DL
namespace ZipL
open Spec PyProof.Rows
abbrev y80(h:Heap)(z TI TO:Addr)(v:Value)(f:Bool):Prop :=
 h.get? z=some { cls:=.type "zip",dict:=none,data:=.fields #[v,.bool f,.bool false,.ref TI,.ref TO],slots:=#[] }
section
variable{w:World}{s:Shared}
theorem dead{Q:Option Obj->Shared->Prop}(ho:s.heap.get? a=none)(h:Q none s):wpAny (model prog w) A (loadIfAlive a) Q E s:=by
 have h':Q (s.heap.get? a) s:=by rw[ho];exact h
 exact λ_ _ _=>h'
theorem q70{TI TO:Addr}{f:Bool}{Q:Bool->Shared->Prop}(hz:IsZ s.heap z TI TO a f)(ha:s.heap.get? a=none)(hQ:Q true s):wpAny (model prog w) A (Builtin.SmallTypes.ownedTupleIsFree (.ref z)) Q E s:=by
 unfold Builtin.SmallTypes.ownedTupleIsFree;refine A0 (B5 hz rfl (x:=rawInt a) rfl ?_);show wpAny _ _ (loadIfAlive ((a:Int).toNat)>>=_) _ _ _;rw[Int.toNat_natCast];refine A0 (dead ha ?_);simp only[Option.isNone_none,if_true];exact A1 hQ
theorem kb0{TI TO:Addr}{v0:Value}{f:Bool}{k1 k2:Nat}{xs ys:Array Value}{x y a b:Value}{Q:Value->Shared->Prop}(D:ZipApart z TI TO i1 i2 l1 l2)
  (hz:y80 s.heap z TI TO v0 f) (hfree:∀Q':Bool->Shared->Prop,Q' true s->wpAny (model prog w) A (Builtin.SmallTypes.ownedTupleIsFree (.ref z)) Q' E s) (hTI:IsPair s.heap TI (.ref i1) (.ref i2)) (hTO:IsPair s.heap TO a b)
  (h1:s.heap.IsListIter i1 l1 k1) (h2:s.heap.IsListIter i2 l2 k2) (hl1:s.heap.IsList l1 xs) (hl2:s.heap.IsList l2 ys) (hx:xs[k1]?=some x) (hy:ys[k2]?=some y)
  (hQ:∀h',IsZ h' z TI TO s.heap.objs.size false->IsPair h' TO x y->h'.IsListIter i1 l1 (k1+1)->h'.IsListIter i2 l2 (k2+1)->IsPair h' s.heap.objs.size x y->h'.objs.size=s.heap.objs.size+1 ->
   (∀c o,c≠z->c≠TO->c≠i1->c≠i2->s.heap.get? c=some o->h'.get? c=some o)->Q (.ref s.heap.objs.size) { s with heap:=h' }) :
  wpAny (model prog w) A (Builtin.«zip.__next__» ⟨[.ref z],[]⟩) (λfin s'=>∃v,fin=.done (.ret v)/\Q v s') E s:=by
 show wpAny _ _ (field (.ref z) 2>>=_) _ _ _;refine A0 (B5 hz rfl (x:=.bool false) rfl ?_);show wpAny _ _ (field (.ref z) 3>>=_) _ _ _;refine A0 (B5 hz rfl (x:=.ref TI) rfl ?_);refine A0 (L3 hTI rfl ?_);show wpAny _ _ (Builtin.SmallTypes.ownedTupleIsFree (.ref z)>>=_) _ _ _;refine A0 (hfree _ ?_);simp only[if_true];refine A0 (D7 ?_);refine A0 (B5 hz rfl (x:=.ref TO) rfl ?_);refine A0 (E2 hz (by simp) λg1 O e1=>?_)
 replace O:y80 g1 z TI TO .ellipsis f:=O
 refine A0 ?_;simp only[List.zipIdx_cons,List.zipIdx_nil,List.forIn_cons,List.forIn_nil];refine A0 (A0 (i9 ?_));show wpAny _ _ (Builtin.SmallTypes.nextOf (.ref i1)>>=_) _ _ _;refine A0 (Q1 (h1.extBut e1.extBut D.i1z) (hl1.extBut e1.extBut D.l1z) hx λg2 Y e2=>A1 ?_);have U:IsPair g2 TO a b:=e2.extBut _ _ D.TOi1 (e1.extBut _ _ D.TOz hTO);refine A0 (L3 U rfl ?_);refine A0 (Aa0 U λg3 M e3=>?_)
 replace M:IsPair g3 TO x b:=M
 refine A0 (W1 (A1 ?_));refine A0 (A0 (i9 ?_));show wpAny _ _ (Builtin.SmallTypes.nextOf (.ref i2)>>=_) _ _ _;refine A0 (Q1 (((h2.extBut e1.extBut D.i2z).extBut e2.extBut D.i12.symm).extBut e3.extBut D.TOi2.symm) (((hl2.extBut e1.extBut D.l2z).extBut e2.extBut D.l2i1).extBut e3.extBut D.l2TO) hy λg4 Z e4=>A1 ?_);have S:IsPair g4 TO x b:=e4.extBut _ _ D.TOi2 M;refine A0 (L3 S rfl ?_);refine A0 (Aa0 S λg5 J e5=>?_)
 replace J:IsPair g5 TO x y:=J
 refine A0 (W1 (A1 (A1 ?_)));refine A0 (L3 J rfl ?_);refine A0 (i7 (hsz:=by show 2<=sizeLine;decide) ?_);have sz:g5.objs.size=s.heap.objs.size:=by rw[e5.1,e4.1,e3.1,e2.1,e1.1]
 have z5:y80 g5 z TI TO .ellipsis f:=e5.extBut _ _ D.TOz.symm (e4.extBut _ _ D.i2z.symm (e3.extBut _ _ D.TOz.symm (e2.extBut _ _ D.i1z.symm O)));have keep:∀c o,c≠z->c≠TO->c≠i1->c≠i2->s.heap.get? c=some o->g5.get? c=some o:=λc o c1 c2 c3 c4 e=>e5.extBut _ _ c2 (e4.extBut _ _ c4 (e3.extBut _ _ c2 (e2.extBut _ _ c3 (e1.extBut _ _ c1 e))))
 have j1:g5.IsListIter i1 l1 (k1+1):=((Y.extBut e3.extBut D.TOi1.symm).extBut e4.extBut D.i12).extBut e5.extBut D.TOi1.symm;have j2:g5.IsListIter i2 l2 (k2+1):=Z.extBut e5.extBut D.TOi2.symm;have lz:z<g5.objs.size:=A6 z5;show wpAny _ _ (Builtin.SmallTypes.ownedTupleHandOut (.ref z) (.ref g5.objs.size)>>=_) _ _ _;refine A0 ?_;unfold Builtin.SmallTypes.ownedTupleHandOut;have z6:y80 (g5.push { cls:=.type "tuple",data:=.seq #[x,y] }) z TI TO .ellipsis f:=A8 _ z5;refine A0 (E2 z6 (by simp) λg7 z7 e7=>?_)
 replace z7:y80 g7 z TI TO (rawInt g5.objs.size) f:=z7
 refine E2 z7 (by simp) λg8 z8 e8=>?_
 replace z8:IsZ g8 z TI TO g5.objs.size false:=z8
 have up:∀c o,c≠z->g5.get? c=some o->g8.get? c=some o:=λc o c1 e=>e8.extBut _ _ c1 (e7.extBut _ _ c1 (A8 _ e))
 have t8:IsPair g8 g5.objs.size x y:=e8.extBut _ _ (L6 lz) (e7.extBut _ _ (L6 lz) (B9 _ rfl));have s8:g8.objs.size=g5.objs.size+1:=by rw[e8.1,e7.1,Heap.size_push]
 rw[sz] at z8 t8 s8;refine A1 ⟨_,rfl,?_⟩;show Q (.ref g5.objs.size) _;rw[sz];exact hQ g8 z8 (up _ _ D.TOz J) (j1.at λo e=>up _ o D.i1z e) (j2.at λo e=>up _ o D.i2z e) t8 s8 λc o c1 c2 c3 c4 e=>up c o c1 (keep c o c1 c2 c3 c4 e)
theorem iv0{TI TO:Addr}{v0:Value}{f:Bool}{k1 k2:Nat}{xs ys:Array Value}{a b:Value}{Q:Fin->Shared->Prop}(hh:A.handled=none)(D:ZipApart z TI TO i1 i2 l1 l2)
  (hz:y80 s.heap z TI TO v0 f) (hfree:∀Q':Bool->Shared->Prop,Q' true s->wpAny (model prog w) A (Builtin.SmallTypes.ownedTupleIsFree (.ref z)) Q' E s) (hTI:IsPair s.heap TI (.ref i1) (.ref i2)) (hTO:IsPair s.heap TO a b)
  (h1:s.heap.IsListIter i1 l1 k1) (h2:s.heap.IsListIter i2 l2 k2) (hl1:s.heap.IsList l1 xs) (hl2:s.heap.IsList l2 ys) (hend:xs[k1]?=none∨ys[k2]?=none)
  (hE:∀h' e,(∀c o,c≠z->c≠TO->c≠i1->c≠i2->s.heap.get? c=some o->h'.get? c=some o)->(∃o,h'.get? e=some o/\o.cls=.type "StopIteration")->E (.ref e) { s with heap:=h' }) :
  wpAny (model prog w) A (Builtin.«zip.__next__» ⟨[.ref z],[]⟩) Q E s:=by
 show wpAny _ _ (field (.ref z) 2>>=_) _ _ _;refine A0 (B5 hz rfl (x:=.bool false) rfl ?_);show wpAny _ _ (field (.ref z) 3>>=_) _ _ _;refine A0 (B5 hz rfl (x:=.ref TI) rfl ?_);refine A0 (L3 hTI rfl ?_);show wpAny _ _ (Builtin.SmallTypes.ownedTupleIsFree (.ref z)>>=_) _ _ _;refine A0 (hfree _ ?_);simp only[if_true];refine A0 (D7 ?_);refine A0 (B5 hz rfl (x:=.ref TO) rfl ?_);refine A0 (E2 hz (by simp) λg1 O e1=>?_)
 replace O:y80 g1 z TI TO .ellipsis f:=O
 refine A0 ?_;simp only[List.zipIdx_cons,List.zipIdx_nil,List.forIn_cons,List.forIn_nil];refine A0 (A0 (i9 ?_));show wpAny _ _ (Builtin.SmallTypes.nextOf (.ref i1)>>=_) _ _ _;cases hx:xs[k1]? with
 | none =>
  refine A0 (i8 hh (h1.extBut e1.extBut D.i1z) (hl1.extBut e1.extBut D.l1z) hx λg2 e e2 he=>?_);obtain⟨oe,J,M⟩:=he;have z2:y80 g2 z TI TO .ellipsis f:=e2 _ _ D.i1z.symm O;have S:e≠z:=λx=>by subst x;rw[z2] at J;cases J;simp at M
  exact E2 z2 (by simp) λg3 _ e3=>hE g3 e (λc o c1 _ c3 _ x=>e3.extBut _ _ c1 (e2 _ _ c3 (e1.extBut _ _ c1 x))) ⟨oe,e3.extBut _ _ S J,M⟩
 | some x =>
  have hy:ys[k2]?=none:=by rcases hend with h|h;rw[hx] at h;cases h;exact h
  refine A0 (Q1 (h1.extBut e1.extBut D.i1z) (hl1.extBut e1.extBut D.l1z) hx λg2 Z e2=>A1 ?_);have U:IsPair g2 TO a b:=e2.extBut _ _ D.TOi1 (e1.extBut _ _ D.TOz hTO);refine A0 (L3 U rfl ?_);refine A0 (Aa0 U λg3 Y e3=>?_);refine A0 (W1 (A1 ?_));refine A0 (A0 (i9 ?_));show wpAny _ _ (Builtin.SmallTypes.nextOf (.ref i2)>>=_) _ _ _;refine A0 (i8 hh (((h2.extBut e1.extBut D.i2z).extBut e2.extBut D.i12.symm).extBut e3.extBut D.TOi2.symm) (((hl2.extBut e1.extBut D.l2z).extBut e2.extBut D.l2i1).extBut e3.extBut D.l2TO) hy λg4 e e4 he=>?_);obtain⟨oe,J,M⟩:=he;have z4:y80 g4 z TI TO .ellipsis f:=e4 _ _ D.i2z.symm (e3.extBut _ _ D.TOz.symm (e2.extBut _ _ D.i1z.symm O));have S:e≠z:=λx=>by subst x;rw[z4] at J;cases J;simp at M
  exact E2 z4 (by simp) λg5 _ e5=>hE g5 e (λc o c1 c2 c3 c4 x=>e5.extBut _ _ c1 (e4 _ _ c4 (e3.extBut _ _ c2 (e2.extBut _ _ c3 (e1.extBut _ _ c1 x))))) ⟨oe,e5.extBut _ _ S J,M⟩
theorem q50{TI TO:Addr}{f:Bool}{Q:Bool->Shared->Prop}(hz:y80 s.heap z TI TO .none f)(hQ:Q true s):wpAny (model prog w) A (Builtin.SmallTypes.ownedTupleIsFree (.ref z)) Q E s:=by
 unfold Builtin.SmallTypes.ownedTupleIsFree;exact A0 (B5 hz rfl (x:=.none) rfl (A1 hQ))
theorem px0{TI TO:Addr}{f:Bool}(hz:y80 s.heap z TI TO v f)(h:Q (.ref z) s):wpAny (model prog w) A (pyIter (.ref z)) Q E s:=by
 have hT:s.TypeIs (.ref z) "zip" := ⟨_,hz,rfl⟩;refine wpAny_pyIter_slot hT F.slot_zip_iter (D3 F.slot_zip_iter hT F.entry_zip_iter ?_ (F.args_zip_iter_1 _));exact A1 ⟨_,rfl, "zip",_,hT,L4.lookup,h⟩
def ns0(h:Heap)(z TI TO:Addr):Prop:=∃v f,y80 h z TI TO v f/\(v=.none∨∃a:Addr,v=rawInt a)
end
end ZipL
namespace L2
open Spec PyProof.Rows
theorem jc0{s:Shared}{d b:Addr}{k:List Key}{v:V}{r:Value}{Q:Unit->Shared->Prop}(hu:A.units<cLine)(I:Inv X pins σ H s)(e:H d=some (.dT kvs))(eb:H b=some (.tup (k.map kV)))(l:kvs.length<sizeLine)(rv:RelV v r)
  (h:∀h' tk,Inv X pins σ (upd H d (.dT (putK kvs k v))) { s with heap:=h',toks:=tk }->Q () { s with heap:=h',toks:=tk }) :
  wpAny (model X.prog X.w) A (dictSet d (.ref b) r) Q E s:=by
 obtain⟨z,hd,xs,J,dd⟩:=pn0 I.hok (.inl e);have hz:xs.length<=sizeLine:=by rw[← Paired.length J];exact z
 have hl:(putK kvs k v).length<=sizeLine:=by have:=wd0 kvs k v;omega
 refine Dep.put (knd:=tupleKind (Q7 X.prog X.w)) (show A.units<cLine from hu) (vl0 I.hok eb) dd (λh' M hs=>h _ _ ?_) hz;obtain⟨q,es,ep,hq,h2,h3,h4,_,h5⟩:=M;refine su0 I (by rw[e];exact True.intro) hs ⟨q,hq⟩ ⟨hl,hd,_,(J.put k eb rv).keeps λc ys ec=>?_,q,es,ep,hq,h2,h3,h4,h5⟩;rw[Z2 (eo0 ec e (λz=>nomatch z))];exact ec
end L2
namespace DL
open Spec PyProof.Rows L2
def y70(gk gv:GE):GE:=fun δ=>(gk δ).bind λa=>(za0 a).bind λk=>(gv δ).map λb=>.dct (.inr [k]) [b]
section
variable{σ:St}
theorem is0{p:Addr}{o0 o:HO}(hp:H p=none)(sm:Same (upd H p o0) H2)(hz:∀ob xs,o≠.frz ob (.lst xs):=by intro _ _ z;cases z):Same H (upd H2 p o):=by
 refine⟨λc u e=>?_,λb ob xs e=>?_⟩
 ·have hc:c≠p:=S6 e hp
  rw[Z2 hc];exact sm c u (by rw[Z2 hc];exact e)
 ·by_cases z:b=p
  ·subst z
   rw[Z4] at e;exact absurd (B4 e) (hz ob xs)
  ·rw[Z2 z] at e
   have:=sm.nf b ob xs e
   rwa [Z2 z] at this
theorem Env.fresh{p:Addr}{o:HO}(e:Env K H B σ δ)(hp:H p=none)(no:∀ob u,o≠.frz ob u:=by exact λ_ _ z=>nomatch z)(nt:∀xs,o≠.tup xs:=by exact λ_ z=>nomatch z):Env K (upd H p o) (λa=>B a∨a=p) σ δ:=by
 refine⟨Pd.imp (λv s h=>?_) e.all,λa z=>?_,e.own⟩
 ·cases s with
  | un=>trivial
  | ex c n=>obtain⟨u,q,r⟩:=h;exact⟨u,q,r.mono (Gr.fresh hp)⟩
  | sh d=>obtain⟨u,q,r⟩:=h;exact⟨u,q,r.mono (Gr.fresh hp)⟩
  | ow d =>
   obtain⟨a,q,hb,r⟩:=h;exact⟨a,q,.inl hb,r.mono (λo ho=>by rw[Z2 (S6 ho hp)];exact ho) (Gr.fresh hp)⟩
 ·rcases z with z|z
  ·have:=e.bad a z
   by_cases q:a=p
   ·rw[q,Z4];exact .of rfl no nt
   ·rw[Z2 q];exact this
  ·rw[z,Z4];exact .of rfl no nt
end
section
variable{ke ve:Expr}{gk gv:Ds->Option D}
theorem vr0(hu:X.A.units<cLine)(hk:PD X ke gk)(hv:PD X ve gv):PDF X (.Dict [some ke] [ve] pos) (y70 gk gv):=.mk λB δ pins s σ H Q I ⟨d,en,h,k⟩=>by
 unfold y70 at h;cases e1:gk δ with
 | none=>rw[e1] at h;cases h
 | some a =>
  rw[e1] at h;simp only[Option.bind_some] at h;cases e2:za0 a with
  | none=>rw[e2] at h;cases h
  | some key =>
   rw[e2] at h;simp only[Option.bind_some] at h;cases e3:gv δ with
   | none=>rw[e3] at h;cases h
   | some b =>
    rw[e3] at h;cases h;have hb:sysModules<s.heap.objs.size:=Nat.lt_trans (by decide) ((I.mod.glob.keeps I.bk).lt:mainGlobals<s.heap.objs.size);have hp:H s.heap.objs.size=none:=I.hok.fresh (A4 _);have I1:Inv X pins σ (upd H s.heap.objs.size (.dT [])) { s with heap:=s.heap.push { cls:=.type "dict",data:=.dict #[] } }:=I.laid (a:=s.heap.objs.size) (o:=.dT []) (t':=s.toks) (λ_ _ q=>A8 _ q) (A4 _) (m70 s.heap hb);have J:Env X.K (upd H s.heap.objs.size (.dT [])) (λa=>B a∨a=s.heap.objs.size) σ δ:=en.fresh hp;have pp:=gz0 (pos:=pos) (hk (λa=>B a∨a=s.heap.objs.size) δ) (hv (λa=>B a∨a=s.heap.objs.size) δ) (ex0 (X:=X) (pos:=pos));rw[arm_eval_Dict,zip_pairTrees [some ke] [ve] X.env pos rfl rfl,dictDisplay_pairs (pairTrees [some ke] [ve] X.env pos) (λz=>by have hn:=pairTrees_length [some ke] [ve] X.env pos rfl rfl;rw[z] at hn;cases hn) (by rw[pairTrees_length [some ke] [ve] X.env pos rfl rfl];simp)];refine A0 (x8 (A0 ?_));unfold subDict;refine A0 (wpAny_alloc ?_);refine A0 (C6 ?_);rw[if_pos (by rw[pairTrees_length [some ke] [ve] X.env pos rfl rfl];simp)];refine A0 (thn (pp pins _ σ _ (λps H2=>∃v1 v2,ps=[(v1,v2)]/\Rp X.K H2 (λa=>B a∨a=s.heap.objs.size) a v1/\Rp X.K H2 (λa=>B a∨a=s.heap.objs.size) b v2/\Same (upd H s.heap.objs.size (.dT [])) H2) I1
     ⟨a,J,e1,λv1 H1 s1 r1=>⟨b,J.same s1,e3,λv2 H2 s2 r2=>⟨v1,v2,rfl,r1.same s2,r2,s1.trans s2⟩⟩⟩) λvs s2 ⟨ps,H2,I2,M,v1,v2,U,r1,r2,sm⟩=>?_)
    subst U;cases M with
    | @cons _ q _ _ rh rt =>
     cases rt;obtain⟨q1,q2⟩:=q;obtain⟨kb,rfl,Y⟩:=sh0 e2 r1;obtain⟨O,S⟩:=rh;cases (show q1=Value.ref kb from O);refine C6 ?_;refine A0 ?_;simp only[List.forIn_cons,List.forIn_nil];refine A0 (A0 (jc0 hu I2 (sm _ _ Z4) Y (by decide) S λh' tk I3=>A1 ?_));refine A1 (A1 (A1 (A1 ⟨.ref s.heap.objs.size,_,I3,rfl,?_⟩)));refine k s.heap.objs.size _ hp (is0 hp sm) ⟨[v2],Z4,rfl,?_⟩
     ·have:=r2.mono (Gr.own (H:=H2) (B:=λa=>B a∨a=s.heap.objs.size) (a:=s.heap.objs.size) (o:=.dT (putK [] key v2)) (.inr rfl))
      rw[o7];exact⟨v2,[],rfl,this,by rw[m9]⟩
end
def kr0(i:Nat)(g:GE):GS:=fun δ=>match δ[i]? with
 | some (.sh (.int a))=>(g δ).bind λd=>match d with
  | .int b=>some (.nx (δ.set i (.sh (.int (a+b)))))
  | _=>none
 | _=>none
theorem d70(i:Nat)(hN:X.N.Nodup)(h:PD X e g)(hi:X.N[i]?=some x:=by rfl)(hx:Loc X.env.scope x:=by first|exact Or.inl rfl|exact Or.inr rfl)
  (hf:X.fn x=true∨X.env.scope.names.lookup x=some .local:=by first|exact .inl rfl|exact .inr rfl|assumption):PSD X (.AugAssign (.Name x pos') .Add e pos) (kr0 i g):=.mk λH₀ B₀ δ pins s σ H D I ⟨r,en,e1,k⟩=>by
 unfold kr0 at e1;obtain⟨B,b1,b2,env⟩:=en.ex;split at e1
 ·rename_i a ha
  cases e2:g δ with
  | none=>rw[e2] at e1;cases e1
  | some d =>
   rw[e2] at e1;simp only[Option.bind_some] at e1;cases d<;>simp only at e1<;>try cases e1
   rename_i b;obtain⟨v,hv,rv⟩:=env.get ha;rw[m8] at rv;subst rv;refine b50 hN hi hx (h B δ) Z20 hf pins s σ H D I ⟨_,hv,.int b,env,e2,λv2 H1 s1 r1=>?_⟩;rw[m8] at r1;subst r1;refine⟨a,b,rfl,rfl,?_⟩;exact k _ H1 (en.wr b1 b2 s1 jw0 ((env.same s1).set i (by rw[m8])))
 ·cases e1
def flats(ds:List D):Bool:=ds.all flat
def oe0(g:GE):GE:=fun δ=>(g (frz δ)).bind λd=>match d with
 | .lst ds=>if flats ds=true then some (.lst ds) else none
 | _=>none
theorem ci0{g:GE}(h:g (frz δ)=some (.lst ds))(hf:flats ds=true):oe0 g δ=some (.lst ds):=by
 unfold oe0;rw[h,Option.bind_some];simp only[];rw[if_pos hf]
section
variable{g:GE}
theorem yp0:∀{ds:List D} {xs:List V},flats ds=true->Rps K H B ds xs->Rps K H' B' ds xs
 | [],xs,_,r=>by rw[m9] at r ⊢;exact r
 | d::ds,xs,h,r=>by
  rw[o7] at r ⊢;obtain⟨x,r',e1,r1,r2⟩:=r;unfold flats at h;rw[List.all_cons,Bool.and_eq_true] at h;exact⟨x,r',e1,lf0 h.1 r1,yp0 (ds:=ds) h.2 r2⟩
theorem jr0(h:PDF X e g):PSD X (.Return (some e) pos) (y00 (zt0 g)):=.mk λH₀ B₀ δ pins s σ H D I ⟨r,en,hq,k⟩ =>
 K8 h H₀ B₀ (frz δ) pins s σ H D I ⟨r,en.frz,hq,k⟩
theorem gr0(h:PDF X e g):PDF X e (oe0 g):=.mk λB δ pins s σ H Q I ⟨d,en,hq,k⟩=>by
 obtain⟨B',c1,c2,J⟩:=en.frz;unfold oe0 at hq;cases e1:g (frz δ) with
 | none=>rw[e1] at hq;cases hq
 | some x =>
  rw[e1,Option.bind_some] at hq;cases x with
  | lst ds =>
   simp only[] at hq
   by_cases hf:flats ds=true
   ·rw[if_pos hf] at hq
    cases hq;exact h B' (frz δ) pins s σ H Q I ⟨_,J,e1,λp H' hp s' r=>k p H' hp s' (by
     obtain⟨xs,e5,r5⟩:=r;exact⟨xs,e5,yp0 hf r5⟩)⟩
   ·rw[if_neg hf] at hq;cases hq
  | non=>cases hq
  | bl _=>cases hq
  | int _=>cases hq
  | str _=>cases hq
  | tup _=>cases hq
  | dct _ _=>cases hq
  | fn _ _=>cases hq
end
end DL
namespace DL
open Spec PyProof.Rows L2
def v50(x y:D):Option D:=match y with
 | .non=>some (.bl (match x with|.non=>false|_=>true))
 | _=>none
theorem te0:Op2 K (λx y H Q=>y=.non/\Q (.bl (!decide (x=.non))) H) v50:=by
 intro H B x y dx dy d Q hb rx ry h k;have hy:dy=.non:=by cases dy<;>first|rfl|cases h
 subst hy;cases h;rw[S9] at ry;refine⟨ry,k _ H (Same.refl H) ?_⟩;rw[X8];cases dx<;>simp only[S9,X8,m8,Y5,X3,X7,xj0,lu0] at rx
 all_goals first
  | (subst rx;rfl)
  | (obtain⟨a,xs,rfl,_⟩:=rx;rfl)
end DL
namespace SoT
open PyProof.Rows
section
variable{P:Program}{w:World}{s:Shared}{b:Array Keyed}{κ:SortKind}{cmp:Keyed->Keyed->Bool}
structure Go(b:Array Keyed)(κ:SortKind)(st:SortSt):Prop where
 kd:kindOf st=κ
 pm:(arrOf st).Perm b
 pe:pendingOf st=#[]
 fa:failedOf st=none
structure Cp(P:Program)(w:World)(A:Around)(E:Value->Shared->Prop)(s:Shared)(b:Array Keyed)(κ:SortKind)(cmp:Keyed->Keyed->Bool):Prop where
 ask:∀(st:SortSt) (i j:Nat) (x y:Keyed) (Q:Option Bool->SortSt->Prop),Go b κ st->(arrOf st)[i]?=some x->(arrOf st)[j]?=some y->Q (some (cmp x y)) st->wpS (model P w) A E s (ltAt' i j) Q st
 nd:b.toList.Nodup
 tr:∀x∈b.toList,∀y∈b.toList,∀z∈b.toList,cmp x y=true->cmp y z=true->cmp x z=true
 to:∀x∈b.toList,∀y∈b.toList,x≠y->cmp y x=false->cmp x y=true
theorem Go.sz{st:SortSt}(h:Go b κ st):(arrOf st).size=b.size:=h.pm.size_eq
theorem Go.mem{st:SortSt}(h:Go b κ st){x:Keyed}(e:(arrOf st)[i]?=some x):x∈b.toList/\i<b.size:=by
 obtain⟨hi,rfl⟩:=j0.mp e;exact⟨(P2.mp h.pm).mem_iff.mp (by simp),by rw[← h.sz];exact hi⟩
def Up(cmp:Keyed->Keyed->Bool)(xs:Array Keyed)(n:Nat):Prop:=∀i j x y,i<j->j<n->xs[i]?=some x->xs[j]?=some y->cmp x y=true
variable(C:Cp P w A E s b κ cmp)
include C
end
def PairAt(h:Heap)(v:Value)(q:Int×Int):Prop:=∃a o n t u,v=.ref a/\h.get? a=some o/\o.cls=.type "tuple"/\o.data=.seq #[.int q.1 t,.int q.2 u] n
theorem PairAt.one{h:Heap}{q r:Int×Int}(x:PairAt h v q)(y:PairAt h v r):q=r:=by
 obtain⟨a,o,n,t,u,e,e1,_,e2⟩:=x;obtain⟨a',o',n',t',u',f,f1,_,f2⟩:=y;rw[e] at f;cases f;rw[e1] at f1;cases f1;rw[e2] at f2;injection f2 with f2 _
 have f3:=D1 Array.toList f2;simp only at f3;injection f3 with g1 g2
 injection g1 with g1 _
 injection g2 with g2 _
 injection g2 with g2 _
 exact E1 g1 g2
def lt2(a b:Int×Int):Bool:=decide (a.1<b.1∨(a.1=b.1/\a.2<b.2))
theorem wu0{a b:Int×Int}:lt2 a b=true↔(a.1<b.1∨(a.1=b.1/\a.2<b.2)):=by unfold lt2;exact decide_eq_true_iff
open Classical in
def pk(h:Heap)(v:Value):Int×Int:=if e:∃q,PairAt h v q then e.choose else (0,0)
theorem wz0{h:Heap}{q:Int×Int}(x:PairAt h v q):pk h v=q:=by
 unfold pk;have e:∃q,PairAt h v q:=⟨q,x⟩;rw[dif_pos e];exact e.choose_spec.one x
section
variable{P:Program}{w:World}{s:Shared}
theorem if0(f:Bool)(x y:Value):keyLt' (tuples' f) x y=(do
  let xs ← Builtin.List.listItems x;let ys ← Builtin.List.listItems y
  for ((p,q),i) in (xs.toList.zip ys.toList).zipIdx do
   if !(← eqBool p q) then return ← oneLt' (f&&i==0) p q
  return decide (xs.size<ys.size)):=rfl
theorem sn0{f:Bool}{a c:Int}{t u:Tok}{Q:Bool->Shared->Prop}(h:Q (decide (a<c)) s):wpAny (model P w) A (oneLt' f (.int a t) (.int c u)) Q E s:=by
 cases f with
 | true=>exact oneLt_int h
 | false =>
  rw[oneLt'_eq];rw[if_neg (by simp)];refine A0 (wpAny_richCompare_same (O0 s a t) (O0 s c u) slot_int_lt (call_int_lt ⟨(λz=>nomatch z),?_⟩));exact N2 h
theorem tz0{f:Bool}{x y:Value}{q r:Int×Int}{Q:Bool->Shared->Prop}(hx:PairAt s.heap x q)(hy:PairAt s.heap y r)(h:Q (lt2 q r) s):wpAny (model P w) A (keyLt' (tuples' f) x y) Q E s:=by
 obtain⟨a,o,n,t,u,rfl,e1,_,e2⟩:=hx;obtain⟨a',o',n',t',u',rfl,f1,_,f2⟩:=hy;rw[if0];refine A0 (j3 e1 e2 (A0 (j3 f1 f2 ?_)));simp only[List.zip_cons_cons,List.zip_nil_right,List.zipIdx_cons,List.zipIdx_nil,List.forIn_cons,List.forIn_nil];refine A0 (A0 (A0 (v3 ?_)))
 by_cases e:q.1=r.1
 ·rw[show (q.1==r.1)=true by simpa using e]
  rw[if_neg (by simp)];refine A1 (A0 (A0 (v3 ?_)))
  by_cases e':q.2=r.2
  ·rw[show (q.2==r.2)=true by simpa using e']
   rw[if_neg (by simp)];refine A1 (A1 (A1 ?_));have:lt2 q r=false:=by unfold lt2;rw[e,e'];simp
   rw[this] at h;exact h
  ·rw[show (q.2==r.2)=false by simpa using e']
   rw[if_pos (by rfl)];refine A0 (sn0 (A1 (A1 (A1 ?_))));have:lt2 q r=decide (q.2<r.2):=by unfold lt2;rw[e];simp
   rw[this] at h;exact h
 ·rw[show (q.1==r.1)=false by simpa using e]
  rw[if_pos (by rfl)];refine A0 (sn0 (A1 (A1 (A1 ?_))));have:lt2 q r=decide (q.1<r.1):=by unfold lt2;simp[e]
  rw[this] at h;exact h
end
structure Prs(h:Heap)(vs:List Value):Prop where
 all:∀v∈vs,∃q,PairAt h v q
 nd:(vs.map (pk h)).Nodup
def wc0(h:Heap)(x y:Keyed):Bool:=lt2 (pk h x.1) (pk h y.1)
section
variable{P:Program}{w:World}{s:Shared}
theorem W40{b:Array Keyed}{f:Bool}(hb:∀x∈b.toList,∃q,PairAt s.heap x.1 q)(st:SortSt)(i j:Nat)(x y:Keyed)(Q:Option Bool->SortSt->Prop)(hg:Go b (tuples' f) st)(ei:(arrOf st)[i]?=some x)(ej:(arrOf st)[j]?=some y)(k:Q (some (wc0 s.heap x y)) st):wpS (model P w) A E s (ltAt' i j) Q st:=by
 obtain⟨q,hq⟩:=hb x (hg.mem ei).1;obtain⟨r,hr⟩:=hb y (hg.mem ej).1;unfold wc0 at k;rw[wz0 hq,wz0 hr] at k;rw[ltAt'_eq];refine A3 (D4 ?_);show wpS _ _ _ _ (elem' (arrOf st) i>>=λx=>elem' (arrOf st) j>>=λy=>lt' x y) Q st;rw[elem'_eq,elem'_eq,ei,ej];refine A3 (A2 (A3 (A2 ?_)));rw[lt'_eq];refine A3 (D4 ?_);rw[hg.kd];exact A3 (L9 (Q2 (tz0 hq hr ⟨rfl,A2 k⟩)))
theorem cpP(hv:Prs s.heap vs)(f:Bool):Cp P w A E s (pairsOf vs) (tuples' f) (wc0 s.heap):=by
 have el:∀x∈(pairsOf vs).toList,x.1∈vs/\x=(x.1,x.1):=λx hx=>by
  rw[pairsOf_toList] at hx;obtain⟨i,hi,e⟩:=E3.mp hx;rw[List.getElem_zip] at e;have e1:x.1=vs[i]'(by rw[List.length_zip] at hi;omega):=by rw[← e]
  rw[e1];exact⟨D5 _,e.symm⟩
 have hb:∀x∈(pairsOf vs).toList,∃q,PairAt s.heap x.1 q:=λx hx=>hv.all _ (el x hx).1
 have M:vs.Nodup:=by
  refine E4.mpr λi j hi hj J e=>?_
  have:=E4.mp hv.nd i j (by simpa using hi) (by simpa using hj) J;rw[List.getElem_map,List.getElem_map,e] at this;exact this rfl
 refine⟨W40 hb,?_,λx _ y _ z _ h1 h2=>?_,λx hx y hy S h=>?_⟩
 ·rw[pairsOf_toList]
  refine E4.mpr λi j hi hj J e=>?_
  rw[List.getElem_zip,List.getElem_zip] at e;have e1:=D1 Prod.fst e;simp only[List.length_zip] at hi hj;exact E4.mp M i j (by omega) (by omega) J e1
 ·unfold wc0 at *
  rw[wu0] at *;omega
 ·unfold wc0 at *
  have O:pk s.heap x.1≠pk s.heap y.1:=λe=>by
   apply S;obtain⟨mx,ex⟩:=el x hx;obtain⟨my,ey⟩:=el y hy;obtain⟨i,hi,e1⟩:=E3.mp mx;obtain⟨j,hj,e2⟩:=E3.mp my;have J:i=j:=by
    rcases Cg0 i j with q|q|q
    ·have:=E4.mp hv.nd i j (by simpa using hi) (by simpa using hj) q
     rw[List.getElem_map,List.getElem_map,e1,e2] at this;exact absurd e this
    ·exact q
    ·have:=E4.mp hv.nd j i (by simpa using hj) (by simpa using hi) q
     rw[List.getElem_map,List.getElem_map,e1,e2] at this;exact absurd e.symm this
   subst J;rw[ex,ey,← e1,← e2]
  rw[wu0];have h':¬((pk s.heap y.1).1<(pk s.heap x.1).1∨((pk s.heap y.1).1=(pk s.heap x.1).1/\(pk s.heap y.1).2<(pk s.heap x.1).2)):=λz=>by
   rw[wu0.mpr z] at h;cases h
  have:(pk s.heap x.1).1≠(pk s.heap y.1).1∨(pk s.heap x.1).2≠(pk s.heap y.1).2:=by
   by_cases q1:(pk s.heap x.1).1=(pk s.heap y.1).1
   ·exact .inr λq2=>O (E1 q1 q2)
   ·exact .inl q1
  omega
theorem au0{q:Int×Int}{Q:Option Value->Shared->Prop}(hv:PairAt s.heap v q)(h:∀t,Q (some (.int q.1 t)) s):wpAny (model P w) A (firstOfTuple' v) Q E s:=by
 obtain⟨a,o,n,t,u,rfl,e1,e2,e3⟩:=hv;show wpAny _ _ (typeOf (.ref a)>>=λT=>if (T != .type "tuple")=true then pure none else do return (← Builtin.List.listItems (.ref a))[0]?) _ _ _;refine A0 (U1 (T := "tuple") ⟨o,e1,e2⟩ ?_);rw[if_neg (by simp)];exact A0 (j3 e1 e3 (A1 (h t)))
theorem firstsP:∀{vs:List Value} {Q:List (Option Value)->Shared->Prop},(∀v∈vs,∃q,PairAt s.heap v q)->(∀(fs:List Value) (ns:List Int),IntsAre fs ns->fs.length=vs.length->Q (fs.map some) s)->wpAny (model P w) A (vs.mapM firstOfTuple') Q E s
 | [],Q,_,h=>by
  rw[List.mapM_nil];exact A1 (h [] [] .nil rfl)
 | v::vs,Q,hv,h=>by
  rw[List.mapM_cons];obtain⟨q,hq⟩:=hv v A5;refine A0 (au0 hq λt=>A0 (firstsP (λu hu=>hv u (C2 _ hu)) λfs ns a c=>A1 ?_));exact h (.int q.1 t::fs) (q.1::ns) (.cons q.1 t a) (by rw[List.length_cons,List.length_cons,c])
theorem X80{v₁ v₂:Value}{r:List Value}{Q:SortKind->Shared->Prop}(hv:∀v∈v₁::v₂::r,∃q,PairAt s.heap v q)(h:Q (tuples' true) s):wpAny (model P w) A (keyKind' (v₁::v₂::r).toArray) Q E s:=by
 rw[keyKind'_eq,List.mapM_toArray];refine A0 ?_;rw[map_eq_pure_bind];refine A0 (firstsP hv λfs ns a c=>A1 ?_);have h1:((fs.map some).toArray.all λx=>x.isSome)=true:=by simp
 rw[if_pos h1];have h2:(fs.map some).toArray.filterMap id=fs.toArray:=by
  simp
 refine A0 (D7 ?_);rw[h2,oneTypeOnly'_eq,List.mapM_toArray,mapM_typeOf_ints a];simp only[map_pure,pure_bind];obtain⟨f0,fr,rfl⟩:∃f0 fr,fs=f0::fr:=by
  cases fs with
  | nil=>simp at c
  | cons f0 fr=>exact⟨f0,fr,rfl⟩
 have h3:((f0::fr).map λ_=>Value.type "int").toArray[0]?=some (.type "int"):=by simp
 rw[h3];have h4:(((f0::fr).map λ_=>Value.type "int").toArray.all λx=>x==Value.type "int")=true:=by
  simp only[List.all_toArray,List.all_map,List.all_eq_true];exact λ_ _=>rfl
 simp only[h4,if_true,pure_bind];exact A1 h
end
section
variable{P:Program}{w:World}{s:Shared}
theorem PairAt.to{h:Heap}{q:Int×Int}(x:PairAt h v q)(k:∀a o,h.get? a=some o->o.cls=.type "tuple"->h'.get? a=some o):PairAt h' v q:=by
 obtain⟨a,o,n,t,u,e,e1,e2,e3⟩:=x;exact⟨a,o,n,t,u,e,k a o e1 e2,e2,e3⟩
theorem Prs.to{h:Heap}(x:Prs h vs)(k:∀a o,h.get? a=some o->o.cls=.type "tuple"->h'.get? a=some o):Prs h' vs/\∀v∈vs,pk h' v=pk h v:=by
 have e:∀v∈vs,pk h' v=pk h v:=λv hv=>by
  obtain⟨q,hq⟩:=x.all v hv;rw[wz0 hq,wz0 (hq.to k)]
 refine⟨⟨λv hv=>?_,?_⟩,e⟩
 ·obtain⟨q,hq⟩:=x.all v hv
  exact⟨q,hq.to k⟩
 ·rw[List.map_congr_left e]
  exact x.nd
end
end SoT
namespace SoT
def le2(a b:Int×Int):Bool:=!lt2 b a
def srt(ps:List (Int×Int)):List (Int×Int):=ps.mergeSort le2
theorem xd0{a b:Int×Int}:le2 a b=true↔¬(b.1<a.1∨(b.1=a.1/\b.2<a.2)):=by
 unfold le2 lt2;rw[Bool.not_eq_true',decide_eq_false_iff_not]
theorem bi0(a b c:Int×Int)(h1:le2 a b=true)(h2:le2 b c=true):le2 a c=true:=by rw[xd0] at *;omega
theorem Zg0(a b:Int×Int):(le2 a b||le2 b a)=true:=by rw[Bool.or_eq_true,xd0,xd0];omega
theorem bx0{a b:Int×Int}(h1:le2 a b=true)(h2:le2 b a=true):a=b:=by
 rw[xd0] at *;exact E1 (by omega) (by omega)
theorem la0:∀{l m:List (Int×Int)},l.Perm m->l.Pairwise (λa b=>le2 a b=true)->m.Pairwise (λa b=>le2 a b=true)->l=m
 | [],m,h,_,_=>by rw[List.nil_perm.mp h]
 | a::l,[],h,_,_=>by exact absurd (List.perm_nil.mp h) (by simp)
 | a::l,b::m,h,h1,h2=>by
  have self:∀x:Int×Int,le2 x x=true:=λx=>by rw[xd0];omega
  have M:le2 a b=true:=by
   rcases C0.mp (h.mem_iff.mpr (A5 (a:=b) (l:=m))) with e|e
   ·rw[e];exact self a
   ·exact X1 h1 e
  have J:le2 b a=true:=by
   rcases C0.mp (h.mem_iff.mp (A5 (a:=a) (l:=l))) with e|e
   ·rw[e];exact self b
   ·exact X1 h2 e
  have e:=bx0 M J;subst e;rw[la0 (List.Perm.cons_inv h) (m3.mp h1).2 (m3.mp h2).2]
theorem f40(ps:List (Int×Int)):(srt ps).Perm ps:=List.mergeSort_perm ps le2
theorem aq0(ps:List (Int×Int)):(srt ps).Pairwise (λa b=>le2 a b=true):=List.pairwise_mergeSort bi0 Zg0 ps
theorem bf0{l ps:List (Int×Int)}(hp:l.Perm ps)(h:l.Pairwise (λa b=>lt2 a b=true)):l=srt ps :=
 la0 (hp.trans (f40 ps).symm) (h.imp λ{a b} z=>by rw[wu0] at z;rw[xd0];omega) (aq0 ps)
end SoT
namespace L2
open Spec PyProof.Rows SoT
def PrV(H:Hp):List V->List (Int×Int)->Prop
 | [],[]=>True
 | v::vs,q::qs=>(∃a,v=.ref a/\H a=some (.tup [.int q.1,.int q.2]))/\PrV H vs qs
 | _,_=>False
section
variable{s:Shared}
theorem ms0(I:Inv X pins σ H s){q:Int×Int}(h:H a=some (.tup [.int q.1,.int q.2])):PairAt s.heap (.ref a) q:=by
 obtain⟨its,rv,⟨o,e1,e2,n,e3⟩,_⟩:=I.tuple (X:=X) (xs:=[.int q.1,.int q.2]) (.inl (.inl h));cases rv with
 | cons r1 rv =>
  cases rv with
  | cons r2 rv =>
   cases rv;obtain⟨t,rfl⟩:=r1;obtain⟨u,rfl⟩:=r2;exact⟨a,o,n,t,u,rfl,e1,e2,e3⟩
theorem jv0(I:Inv X pins σ H s):∀{ys:List V} {its:List Value} {ps:List (Int×Int)},Vals ys its->PrV H ys ps->its.map (pk s.heap)=ps/\(∀v∈its,∃q,PairAt s.heap v q)/\∀v∈its,∃a,v=.ref a/\V.ref a∈ys/\H a=some (.tup [.int (pk s.heap v).1,.int (pk s.heap v).2])
 | [],_,[],.nil,_=>⟨rfl,(λv h=>by cases h),(λv h=>by cases h)⟩
 | [],_,_::_,.nil,h=>h.elim
 | y::ys,_,[],.cons _ _,h=>h.elim
 | y::ys,_,q::ps,.cons r rv,h=>by
  obtain⟨⟨a,rfl,ha⟩,h2⟩:=h;cases (show _=Value.ref a from r);obtain⟨i1,i2,i3⟩:=jv0 I rv h2;have e:=wz0 (ms0 I ha);refine⟨by rw[List.map_cons,i1,e],λv hv=>?_,λv hv=>?_⟩
  ·rcases C0.mp hv with rfl|hv
   ·exact⟨q,ms0 I ha⟩
   ·exact i2 v hv
  ·rcases C0.mp hv with rfl|hv
   ·exact⟨a,rfl,A5,by rw[e];exact ha⟩
   ·obtain⟨b,e1,e2,e3⟩:=i3 v hv
    exact⟨b,e1,C2 _ e2,e3⟩
theorem py0{h:Heap}{ys:List V}:∀{vs:List Value},(∀v∈vs,∃a,v=.ref a/\V.ref a∈ys/\H a=some (.tup [.int (pk h v).1,.int (pk h v).2]))->∃zs,Vals zs vs/\PrV H zs (vs.map (pk h))/\∀z∈zs,z∈ys
 | [],_=>⟨[],.nil,trivial,λz hz=>by cases hz⟩
 | v::vs,hv=>by
  obtain⟨a,rfl,m,e⟩:=hv v A5;obtain⟨zs,z1,z2,z3⟩:=py0 (vs:=vs) λu hu=>hv u (C2 _ hu)
  exact⟨.ref a::zs,.cons rfl z1,⟨⟨a,rfl,e⟩,z2⟩,λz hz=>by
   rcases C0.mp hz with rfl|hz
   ·exact m
   ·exact z3 z hz⟩
end
end L2
namespace DL
open Spec PyProof.Rows L2 SoT
def pD(q:Int×Int):D:=.tup [.int q.1,.int q.2]
def u70:List D->Option (List (Int×Int))
 | []=>some []
 | .tup [.int i,.int j]::ds=>(u70 ds).map λr=>(i,j)::r
 | _=>none
theorem li0:∀ps:List (Int×Int),u70 (ps.map pD)=some ps
 | []=>rfl
 | q::ps=>by show (u70 (ps.map pD)).map _=_;rw[li0 ps];rfl
theorem j60:∀{ds:List D} {ys:List V} {ps:List (Int×Int)},Rps K H B ds ys->u70 ds=some ps->PrV H ys ps/\∀y∈ys,∃a,y=.ref a/\¬B a
 | [],ys,ps,r,h=>by
  rw[m9] at r;subst r;cases h;exact⟨trivial,λy hy=>by cases hy⟩
 | d::ds,ys,ps,r,h=>by
  rw[o7] at r;obtain⟨x,t,rfl,r1,r2⟩:=r;unfold u70 at h;split at h
  ·rename_i e;cases e
  ·rename_i i j ds' e
   injection e with e1 e2
   subst e1;subst e2;obtain⟨rs,e3,rfl⟩:=g9.mp h;obtain⟨i1,i2⟩:=j60 r2 e3;rw[X3] at r1;obtain⟨a,xs,rfl,hq,rr⟩:=r1;rw[o7] at rr;obtain⟨x1,t1,rfl,q1,rr⟩:=rr;rw[o7] at rr;obtain⟨x2,t2,rfl,q2,rr⟩:=rr;rw[m9] at rr;subst rr;rw[m8] at q1 q2;subst q1;subst q2;exact⟨⟨⟨a,rfl,hq.2⟩,i1⟩,λy hy=>by
    rcases C0.mp hy with rfl|hy
    ·exact⟨a,rfl,hq.1⟩
    ·exact i2 y hy⟩
  ·cases h
theorem nk0:∀{zs:List V} {qs:List (Int×Int)} {a:Addr},PrV H zs qs->V.ref a∈zs->H a≠none
 | [],_,_,_,hz=>by cases hz
 | _::_,[],_,h,_=>h.elim
 | z::zs,q::qs,a,h,hz=>by
  obtain⟨⟨b,e,hb⟩,h2⟩:=h;rcases C0.mp hz with e2|hz
  ·rw[e] at e2
   cases e2;rw[hb];exact λz=>nomatch z
  ·exact nk0 h2 hz
theorem h90:∀{zs:List V} {qs:List (Int×Int)},PrV H zs qs->(∀z∈zs,∃a,z=.ref a/\¬B a)->Rps K H B (qs.map pD) zs
 | [],[],_,_=>by rw[List.map_nil,m9]
 | [],_::_,h,_=>h.elim
 | _::_,[],h,_=>h.elim
 | z::zs,q::qs,h,hb=>by
  obtain⟨⟨a,rfl,ha⟩,h2⟩:=h;rw[List.map_cons,o7];refine⟨_,_,rfl,?_,h90 h2 λy hy=>hb y (C2 _ hy)⟩;obtain⟨b,e,nb⟩:=hb _ A5;cases e;unfold pD;rw[X3];refine⟨a,_,rfl,⟨nb,ha⟩,?_⟩;rw[o7];refine⟨_,_,rfl,by rw[m8],?_⟩;rw[o7];exact⟨_,_,rfl,by rw[m8],by rw[m9]⟩
end DL
namespace SoT
open PyProof.Rows
def O5:Bool->Keyed->Array Keyed->Nat->Nat->Nat->StateT SortSt Sem (Option Nat):=sortPriv% PySem.Builtin.gallop
def tj0:Array Keyed->Array Keyed->StateT SortSt Sem (Array Keyed):=sortPriv% PySem.Builtin.mergeLo
def tb0:Array Keyed->Array Keyed->StateT SortSt Sem (Array Keyed):=sortPriv% PySem.Builtin.mergeHi
theorem ko0(left:Bool)(key:Keyed)(arr:Array Keyed)(base n hint:Nat):O5 left key arr base n hint=(do
 let beyond (i:Nat):StateT SortSt Sem (Option Bool):=do
  let x ← elem' arr (base+i)
  if left then lt' x key else return (← lt' key x).map (!·)
 let mut lastofs:=0
 let mut ofs:=1
 let mut lo:=0
 let mut hi:=0
 let some right ← beyond hint|return none
 if right then
  let maxofs:=n - hint
  for _ in [0:n] do
   if ofs ≥ maxofs then break
   let some more ← beyond (hint+ofs)|return none
   if !more then break
   lastofs:=ofs
   ofs:=2*ofs+1
  lo:=hint+lastofs+1
  hi:=hint+min ofs maxofs
 else
  let maxofs:=hint+1
  for _ in [0:n] do
   if ofs ≥ maxofs then break
   let some found ← beyond (hint - ofs)|return none
   if found then break
   lastofs:=ofs
   ofs:=2*ofs+1
  lo:=hint+1 - min ofs maxofs
  hi:=hint - lastofs
 for _ in [0:n] do
  if lo ≥ hi then break
  let m:=lo+(hi - lo)/2
  let some more ← beyond m|return none
  if more then lo:=m+1 else hi:=m
 return some hi):=rfl
section
variable{P:Program}{w:World}{s:Shared}{b:Array Keyed}{κ:SortKind}{cmp:Keyed->Keyed->Bool}
structure Gn(b:Array Keyed)(κ:SortKind)(st:SortSt):Prop where
 kd:kindOf st=κ
 pm:(arrOf st).Perm b
 fa:failedOf st=none
structure Cn(P:Program)(w:World)(A:Around)(E:Value->Shared->Prop)(s:Shared)(b:Array Keyed)(κ:SortKind)(cmp:Keyed->Keyed->Bool):Prop where
 ask:∀(st:SortSt) (x y:Keyed) (Q:Option Bool->SortSt->Prop),kindOf st=κ->x∈b.toList->y∈b.toList->Q (some (cmp x y)) st->wpS (model P w) A E s (lt' x y) Q st
 nd:b.toList.Nodup
 tr:∀x∈b.toList,∀y∈b.toList,∀z∈b.toList,cmp x y=true->cmp y z=true->cmp x z=true
 to:∀x∈b.toList,∀y∈b.toList,x≠y->cmp y x=false->cmp x y=true
 as:∀x∈b.toList,∀y∈b.toList,cmp x y=true->cmp y x=false
def bey(left:Bool)(key:Keyed)(arr:Array Keyed)(base i:Nat):StateT SortSt Sem (Option Bool):=do
 let x ← elem' arr (base+i)
 if left then lt' x key else return (← lt' key x).map (!·)
theorem bk0(C:Cn P w A E s b κ cmp){st:SortSt}(hk:kindOf st=κ)(left:Bool){key x:Keyed}{arr:Array Keyed}{base:Nat}(h:arr[base+i]?=some x)(mx:x∈b.toList)(mk:key∈b.toList)(hn:x≠key){Q:Option Bool->SortSt->Prop}(k:Q (some (cmp x key)) st):wpS (model P w) A E s (bey left key arr base i) Q st:=by
 unfold bey;rw[elem'_eq,h];refine A3 (A2 ?_);cases left with
 | true=>exact C.ask _ _ _ _ hk mx mk k
 | false =>
  refine A3 (C.ask _ _ _ _ hk mk mx (A2 ?_));show Q (some (!cmp key x)) st;have:(!cmp key x)=cmp x key:=by
   cases e:cmp key x with
   | true=>rw[C.as _ mk _ mx e];rfl
   | false=>rw[C.to _ mx _ mk hn e];rfl
  rw[this];exact k
structure Sr(P:Program)(w:World)(A:Around)(E:Value->Shared->Prop)(s:Shared)(B:Nat->StateT SortSt Sem (Option Bool))(pos:Nat->Bool)(n:Nat)(st:SortSt):Prop where
 ask:∀i,i<n->∀Q:Option Bool->SortSt->Prop,Q (some (pos i)) st->wpS (model P w) A E s (B i) Q st
 mono:∀i j,i<=j->j<n->pos j=true->pos i=true
theorem bin{B:Nat->StateT SortSt Sem (Option Bool)}{pos:Nat->Bool}{st:SortSt}(S:Sr P w A E s B pos n st){lo hi:Nat}(h1:lo<=hi)(h2:hi<=n)(h3:∀i,i<lo->pos i=true)(h4:∀i,hi<=i->i<n->pos i=false) :
  wpS (model P w) A E s (forIn [:n] ((none,lo,hi):Option (Option Nat)×Nat×Nat) λx __s =>
    if __s.snd.fst ≥ __s.snd.snd then pure (ForInStep.done (none,__s.snd.fst,__s.snd.snd))
    else do
     let __x ← B (__s.snd.fst+(__s.snd.snd - __s.snd.fst)/2)
     match __x with
     | some more=>if more=true then pure (ForInStep.yield (none,__s.snd.fst+(__s.snd.snd - __s.snd.fst)/2+1,__s.snd.snd)) else pure (ForInStep.yield (none,__s.snd.fst,__s.snd.fst+(__s.snd.snd - __s.snd.fst)/2))
     | x=>pure (ForInStep.done (some none,__s.snd.fst,__s.snd.snd))) (λc t=>t=st/\∃r,c=(none,r,r)/\r<=n/\(∀i,i<r->pos i=true)/\∀i,r<=i->i<n->pos i=false) st:=by
 refine(C8 (I:=λx c t=>t=st/\∃lo hi,c=(none,lo,hi)/\lo<=hi/\hi<=n/\hi - lo<=n - x/\(∀i,i<lo->pos i=true)/\∀i,hi<=i->i<n->pos i=false)
  (Q:=λc t=>t=st/\∃r,c=(none,r,r)/\r<=n/\(∀i,i<r->pos i=true)/\∀i,r<=i->i<n->pos i=false) (λx c t _ hx hI=>?_) (λc t hI=>?_) ⟨rfl,lo,hi,rfl,h1,h2,by omega,h3,h4⟩)
 ·obtain⟨e1,lo,hi,e2,a1,a2,a3,a4,a5⟩:=hI
  subst e1;subst e2;dsimp only
  by_cases hge:lo ≥ hi
  ·rw[if_pos hge]
   have:lo=hi:=by omega
   subst this;exact A2 ⟨rfl,lo,rfl,a2,a4,a5⟩
  ·rw[if_neg hge]
   refine A3 (S.ask _ (by omega) _ ?_);dsimp only;cases hp:pos (lo+(hi - lo)/2) with
   | true =>
    rw[if_pos rfl];exact A2 ⟨rfl,_,_,rfl,by omega,a2,by omega,λi J=>S.mono i _ (by omega) (by omega) hp,a5⟩
   | false =>
    rw[if_neg (by simp)];refine A2 ⟨rfl,_,_,rfl,by omega,by omega,by omega,a4,λi J hn=>?_⟩;cases hq:pos i with
    | false=>rfl
    | true=>rw[S.mono _ i J hn hq] at hp;cases hp
 ·obtain⟨e1,lo,hi,e2,a1,a2,a3,a4,a5⟩:=hI
  subst e1;subst e2;have:lo=hi:=by omega
  subst this;exact⟨rfl,lo,rfl,a2,a4,a5⟩
theorem gal{left:Bool}{key:Keyed}{arr:Array Keyed}{base hint:Nat}{pos:Nat->Bool}{st:SortSt}(S:Sr P w A E s (bey left key arr base) pos n st)(hh:hint<n){Q:Option Nat->SortSt->Prop}
  (k:∀r,r<=n->(∀i,i<r->pos i=true)->(∀i,r<=i->i<n->pos i=false)->Q (some r) st):wpS (model P w) A E s (O5 left key arr base n hint) Q st:=by
 rw[ko0];have M:∀i j,i<=j->j<n->pos i=false->pos j=false:=λi j h1 h2 h3=>by
  cases hq:pos j with
  | false=>rfl
  | true=>rw[S.mono i j h1 h2 hq] at h3;cases h3
 refine A3 (S.ask hint hh _ ?_);dsimp only;cases hp:pos hint with
 | true =>
  rw[if_pos rfl];refine A3 (B7 (C8 (I:=λx c t=>t=st/\∃lo J,c=(none,lo,J)/\lo<J/\hint+lo<n/\pos (hint+lo)=true/\x+1<=J)
   (Q:=λc t=>t=st/\∃lo J,c=(none,lo,J)/\lo<J/\hint+lo<n/\pos (hint+lo)=true/\(n - hint<=J∨(hint+J<n/\pos (hint+J)=false))) (λx c t _ hx hI=>?_) (λc t hI=>?_) ⟨rfl,0,1,rfl,by omega,by omega,hp,by omega⟩) λc t hI=>?_)
  ·obtain⟨e1,lo,J,e2,a1,a2,a3,a4⟩:=hI
   subst e1;subst e2;dsimp only
   by_cases hge:J ≥ n - hint
   ·rw[if_pos hge]
    exact A2 ⟨rfl,lo,J,rfl,a1,a2,a3,.inl hge⟩
   ·rw[if_neg hge]
    refine A3 (S.ask (hint+J) (by omega) _ ?_);dsimp only;cases hq:pos (hint+J) with
    | false=>exact A2 ⟨rfl,lo,J,rfl,a1,a2,a3,.inr ⟨by omega,hq⟩⟩
    | true=>exact A2 ⟨rfl,J,2*J+1,rfl,by omega,by omega,hq,by omega⟩
  ·obtain⟨e1,lo,J,e2,a1,a2,a3,a4⟩:=hI
   exact⟨e1,lo,J,e2,a1,a2,a3,.inl (by omega)⟩
  ·obtain⟨e1,lo,J,e2,a1,a2,a3,a4⟩:=hI
   subst e1;subst e2;dsimp only;refine A3 (B7 (bin S (lo:=hint+lo+1) (hi:=hint+min J (n - hint)) (by omega) (by omega) (λi hi=>S.mono i _ (by omega) a2 a3) (λi h1 h2=>by
    rcases a4 with a4|⟨a4,a5⟩
    ·omega
    ·exact M _ i (by omega) h2 a5)) λc t hI=>?_)
   obtain⟨e1,r,e2,b2,b4,b5⟩:=hI;subst e1;subst e2;exact A2 (k r b2 b4 b5)
 | false =>
  rw[if_neg (by simp)];refine A3 (B7 (C8 (I:=λx c t=>t=st/\∃lo J,c=(none,lo,J)/\lo<J/\lo<=hint/\pos (hint - lo)=false/\x+1<=J)
   (Q:=λc t=>t=st/\∃lo J,c=(none,lo,J)/\lo<J/\lo<=hint/\pos (hint - lo)=false/\(hint+1<=J∨(J<=hint/\pos (hint - J)=true))) (λx c t _ hx hI=>?_) (λc t hI=>?_) ⟨rfl,0,1,rfl,by omega,by omega,hp,by omega⟩) λc t hI=>?_)
  ·obtain⟨e1,lo,J,e2,a1,a2,a3,a4⟩:=hI
   subst e1;subst e2;dsimp only
   by_cases hge:J ≥ hint+1
   ·rw[if_pos hge]
    exact A2 ⟨rfl,lo,J,rfl,a1,a2,a3,.inl hge⟩
   ·rw[if_neg hge]
    refine A3 (S.ask (hint - J) (by omega) _ ?_);dsimp only;cases hq:pos (hint - J) with
    | true=>exact A2 ⟨rfl,lo,J,rfl,a1,a2,a3,.inr ⟨by omega,hq⟩⟩
    | false=>exact A2 ⟨rfl,J,2*J+1,rfl,by omega,by omega,hq,by omega⟩
  ·obtain⟨e1,lo,J,e2,a1,a2,a3,a4⟩:=hI
   exact⟨e1,lo,J,e2,a1,a2,a3,.inl (by omega)⟩
  ·obtain⟨e1,lo,J,e2,a1,a2,a3,a4⟩:=hI
   subst e1;subst e2;dsimp only;refine A3 (B7 (bin S (lo:=hint+1 - min J (hint+1)) (hi:=hint - lo) (by omega) (by omega) (λi hi=>by
    rcases a4 with a4|⟨a4,a5⟩
    ·omega
    ·exact S.mono i _ (by omega) (by omega) a5) (λi h1 h2=>M _ i h1 h2 a3)) λc t hI=>?_)
   obtain⟨e1,r,e2,b2,b4,b5⟩:=hI;subst e1;subst e2;exact A2 (k r b2 b4 b5)
end
def zf0(st:SortSt)(g:Nat):SortSt:=SortSt.mk' (kindOf st) (arrOf st) (pendingOf st) g (failedOf st)
theorem mr0(a b:Array Keyed):tj0 a b=(do
 rule "list.sort.merge-lo"
 let total:=a.size+b.size
 let done (out:Array Keyed) (ia ib:Nat):=out++a.extract ia a.size++b.extract ib b.size
 let lastOfA (out:Array Keyed) (ia ib:Nat):=out++b.extract ib b.size++a.extract ia a.size
 let mut out:Array Keyed:=#[← elem' b 0]
 let mut ia:=0
 let mut ib:=1
 if ib==b.size then return done out ia ib
 if ia+1==a.size then return lastOfA out ia ib
 let mut minGallop:=gallopOf (← get)
 for _ in [0:total] do
  let mut acount:=0
  let mut bcount:=0
  for _ in [0:total] do
   let some bWins ← lt' (← elem' b ib) (← elem' a ia)|return done out ia ib
   if bWins then
    out:=out.push (← elem' b ib);ib:=ib+1;bcount:=bcount+1;acount:=0
    if ib==b.size then return done out ia ib
    if bcount ≥ minGallop then break
   else
    out:=out.push (← elem' a ia);ia:=ia+1;acount:=acount+1;bcount:=0
    if ia+1==a.size then return lastOfA out ia ib
    if acount ≥ minGallop then break
  rule "list.sort.gallop"
  minGallop:=minGallop+1
  for _ in [0:total] do
   if minGallop > 1 then minGallop:=minGallop - 1
   modify λs=>zf0 s minGallop
   let some k ← O5 false (← elem' b ib) a ia (a.size - ia) 0|return done out ia ib
   acount:=k
   if k > 0 then
    out:=out++a.extract ia (ia+k);ia:=ia+k
    if ia+1==a.size then return lastOfA out ia ib
    if ia==a.size then return done out ia ib
   out:=out.push (← elem' b ib);ib:=ib+1
   if ib==b.size then return done out ia ib
   let some k ← O5 true (← elem' a ia) b ib (b.size - ib) 0|return done out ia ib
   bcount:=k
   if k > 0 then
    out:=out++b.extract ib (ib+k);ib:=ib+k
    if ib==b.size then return done out ia ib
   out:=out.push (← elem' a ia);ia:=ia+1
   if ia+1==a.size then return lastOfA out ia ib
   if acount<7&&bcount<7 then break
  minGallop:=minGallop+1
  modify λs=>zf0 s minGallop
 unsupported "internal:list.sort.merge-bound"):=rfl
section
variable{P:Program}{w:World}{s:Shared}{b:Array Keyed}{κ:SortKind}{cmp:Keyed->Keyed->Bool}
structure Mg(b:Array Keyed)(cmp:Keyed->Keyed->Bool)(T out la lb:List Keyed):Prop where
 pm:(out++(la++lb)).Perm T
 sa:(out++la).Pairwise λx y=>cmp x y=true
 sb:(out++lb).Pairwise λx y=>cmp x y=true
 me:∀x∈T,x∈b.toList
 nd:T.Nodup
theorem Mg.flip{T out la lb:List Keyed}(h:Mg b cmp T out la lb):Mg b cmp T out lb la:=⟨(List.perm_append_comm.append_left _).trans h.pm,h.sb,h.sa,h.me,h.nd⟩
theorem Mg.ma{T out la lb:List Keyed}(h:Mg b cmp T out la lb){x:Keyed}(hx:x∈la):x∈b.toList:=h.me x (h.pm.mem_iff.mp (D2 _ (N1 _ hx)))
theorem Mg.mb{T out la lb:List Keyed}(h:Mg b cmp T out la lb){x:Keyed}(hx:x∈lb):x∈b.toList:=h.me x (h.pm.mem_iff.mp (D2 _ (D2 _ hx)))
theorem Mg.move(tr:∀x∈b.toList,∀y∈b.toList,∀z∈b.toList,cmp x y=true->cmp y z=true->cmp x z=true){T out l1 l2 lb:List Keyed}{y:Keyed}(h:Mg b cmp T out (l1++l2) (y::lb))(hl:∀x∈l1,cmp x y=true):Mg b cmp T (out++l1) l2 (y::lb):=by
 refine⟨?_,?_,?_,h.me,h.nd⟩
 ·have:=h.pm
  rw[List.append_assoc] at this ⊢;exact this
 ·have:=h.sa
  rw[List.append_assoc];exact this
 ·have h1:=h.sa
  have h2:=h.sb;rw[List.pairwise_append] at h1 h2;rw[List.pairwise_append];obtain⟨o1,o2,o3⟩:=h1;obtain⟨p1,p2,p3⟩:=h2;rw[List.pairwise_append] at o2;refine⟨P3.mpr ⟨o1,o2.1,λx hx z hz=>o3 x hx z (N1 _ hz)⟩,p2,λx hx z hz=>?_⟩;rcases C3.mp hx with hx|hx
  ·exact p3 x hx z hz
  ·rcases C0.mp hz with rfl|J
   ·exact hl x hx
   ·exact tr x (h.ma (N1 _ hx)) y (h.mb A5) z (h.mb hz) (hl x hx) (X1 p2 J)
structure Md(cmp:Keyed->Keyed->Bool)(T out:List Keyed):Prop where
 pm:out.Perm T
 so:out.Pairwise λx y=>cmp x y=true
theorem Mg.endA{T out la:List Keyed}(h:Mg b cmp T out la []):Md cmp T (out++la):=⟨by have:=h.pm;rwa [List.append_nil] at this,h.sa⟩
theorem Mg.endB{T out lb:List Keyed}(h:Mg b cmp T out [] lb):Md cmp T (out++lb):=⟨h.pm,h.sb⟩
theorem Mg.last{T out lb:List Keyed}{x:Keyed}(h:Mg b cmp T out [x] lb)(hx:∀z∈lb,cmp z x=true):Md cmp T (out++lb++[x]):=by
 refine⟨?_,?_⟩
 ·have:=h.flip.pm
  rw[List.append_assoc];exact this
 ·rw[List.pairwise_append]
  refine⟨h.sb,List.pairwise_singleton _ _,λy hy z hz=>?_⟩;rw[List.mem_singleton] at hz;subst hz;rcases C3.mp hy with hy|hy
  ·have:=h.sa
   rw[List.pairwise_append] at this;exact this.2.2 y hy z (L5.mpr rfl)
  ·exact hx y hy
theorem Mg.ne{T out la lb:List Keyed}(h:Mg b cmp T out la lb){x y:Keyed}(hx:x∈la)(hy:y∈lb):x≠y:=by
 have:=h.pm.nodup_iff.mpr h.nd;rw[List.nodup_append] at this;have:=this.2.1;rw[List.nodup_append] at this;exact this.2.2 x hx y hy
theorem ra0(C:Cn P w A E s b κ cmp){st:SortSt}(hk:kindOf st=κ){left:Bool}{key:Keyed}{arr:Array Keyed}{base hint:Nat}(mk:key∈b.toList)(l:List Keyed)(hl:∀i,i<n->arr[base+i]?=l[i]?)(hn:l.length=n)(ml:∀x∈l,x∈b.toList/\x≠key)(sl:l.Pairwise λx y=>cmp x y=true)(hh:hint<n){Q:Option Nat->SortSt->Prop}
  (k:∀l1 l2,l=l1++l2->(∀x∈l1,cmp x key=true)->(∀x∈l2,cmp key x=true)->Q (some l1.length) st):wpS (model P w) A E s (O5 left key arr base n hint) Q st:=by
 subst hn;refine gal (pos:=λi=>match l[i]? with|some x=>cmp x key|none=>false) ⟨λi hi Q' hQ=>?_,λi j J hj hp=>?_⟩ hh λr hr h1 h2=>?_
 ·have e:l[i]?=some l[i]:=C9 l i hi
  have m:=ml l[i] (D5 hi);refine bk0 C hk left (x:=l[i]) ((hl i hi).trans e) m.1 mk m.2 ?_;simp only[e] at hQ;exact hQ
 ·have e1:l[i]?=some l[i]:=C9 l i (by omega)
  have e2:l[j]?=some l[j]:=C9 l j hj;simp only[e1,e2] at hp ⊢
  by_cases hij':i=j
  ·subst hij';exact hp
  ·exact C.tr _ (ml _ (D5 (by omega))).1 _ (ml _ (D5 hj)).1 _ mk (E4.mp sl i j (by omega) hj (by omega)) hp
 ·have:=k (l.take r) (l.drop r) (List.take_append_drop r l).symm (λx hx=>?_) (λx hx=>?_)
  ·rw[List.length_take,Nat.min_eq_left hr] at this
   exact this
  ·obtain⟨i,hi,e⟩:=E3.mp hx
   rw[List.getElem_take] at e;rw[List.length_take] at hi;have:=h1 i (by omega);simp only[getElem?_pos l i (show i<l.length by omega),e] at this;exact this
  ·obtain⟨i,hi,e⟩:=E3.mp hx
   rw[List.getElem_drop] at e;rw[List.length_drop] at hi;have:=h2 (r+i) (by omega) (by omega);simp only[getElem?_pos l (r+i) (show r+i<l.length by omega),e] at this;have m:=ml x (e▸D5 _);exact C.to _ mk _ m.1 (λz=>m.2 z.symm) this
structure Sm(st t:SortSt):Prop where
 kd:kindOf t=kindOf st
 ar:arrOf t=arrOf st
 pe:pendingOf t=pendingOf st
 fa:failedOf t=failedOf st
theorem Sm.refl(st:SortSt):Sm st st:=⟨rfl,rfl,rfl,rfl⟩
theorem Sm.gal{st t:SortSt}(h:Sm st t)(g:Nat):Sm st (zf0 t g):=⟨h.kd,h.ar,h.pe,h.fa⟩
theorem V6{a:Array Keyed}(h:i<a.size):a.toList.drop i=a[i]::a.toList.drop (i+1):=by
 rw[List.drop_eq_getElem_cons (by simpa using h)];simp
abbrev St7:=Option (Array Keyed)×Array Keyed×Nat×Nat×Nat×Nat×Nat
def loD(a y out:Array Keyed)(ia ib:Nat):Array Keyed:=out++a.extract ia a.size++y.extract ib y.size
def loL(a y out:Array Keyed)(ia ib:Nat):Array Keyed:=out++y.extract ib y.size++a.extract ia a.size
def lo3(a y:Array Keyed)(mg ac bc:Nat)(out:Array Keyed)(ia ib:Nat):StateT SortSt Sem (ForInStep St7):=do
 let x ← elem' a ia
 if (ia+1+1==a.size)=true then pure (.done (some (loL a y (out.push x) (ia+1) ib),out.push x,ia+1,ib,mg,ac,bc))
 else if (decide (ac<7)&&decide (bc<7))=true then pure (.done (none,out.push x,ia+1,ib,mg,ac,bc))
 else pure (.yield (none,out.push x,ia+1,ib,mg,ac,bc))
def lo2(a y:Array Keyed)(mg ac bc:Nat)(out:Array Keyed)(ia ib:Nat):StateT SortSt Sem (ForInStep St7):=do
 let x ← elem' y ib
 if (ib+1==y.size)=true then pure (.done (some (loD a y (out.push x) ia (ib+1)),out.push x,ia,ib+1,mg,ac,bc))
 else do
  let z ← elem' a ia
  let __x ← O5 true z y (ib+1) (y.size - (ib+1)) 0
  match __x with
  | some k =>
   if k > 0 then
    if (ib+1+k==y.size)=true then pure (.done (some (loD a y (out.push x++y.extract (ib+1) (ib+1+k)) ia (ib+1+k)),out.push x++y.extract (ib+1) (ib+1+k),ia,ib+1+k,mg,ac,k))
    else lo3 a y mg ac k (out.push x++y.extract (ib+1) (ib+1+k)) ia (ib+1+k)
   else lo3 a y mg ac k (out.push x) ia (ib+1)
  | x'=>pure (.done (some (loD a y (out.push x) ia (ib+1)),out.push x,ia,ib+1,mg,ac,bc))
def lo1(a y:Array Keyed)(mg ac bc:Nat)(out:Array Keyed)(ia ib:Nat):StateT SortSt Sem (ForInStep St7):=do
 modify λs=>zf0 s mg
 let x ← elem' y ib
 let __x ← O5 false x a ia (a.size - ia) 0
 match __x with
 | some k =>
  if k > 0 then
   if (ia+k+1==a.size)=true then pure (.done (some (loL a y (out++a.extract ia (ia+k)) (ia+k) ib),out++a.extract ia (ia+k),ia+k,ib,mg,k,bc))
   else if (ia+k==a.size)=true then pure (.done (some (loD a y (out++a.extract ia (ia+k)) (ia+k) ib),out++a.extract ia (ia+k),ia+k,ib,mg,k,bc))
   else lo2 a y mg k bc (out++a.extract ia (ia+k)) (ia+k) ib
  else lo2 a y mg k bc out ia ib
 | x'=>pure (.done (some (loD a y out ia ib),out,ia,ib,mg,ac,bc))
structure Lo(b:Array Keyed)(cmp:Keyed->Keyed->Bool)(a y:Array Keyed)(n:Nat)(out:Array Keyed)(ia ib:Nat):Prop where
 mg:Mg b cmp (a.toList++y.toList) out.toList (a.toList.drop ia) (y.toList.drop ib)
 ia:ia+1<a.size
 ib:ib<y.size
 n:n<=out.size
def Oc(b:Array Keyed)(cmp:Keyed->Keyed->Bool)(a y:Array Keyed)(n:Nat)(o:Option (Array Keyed))(out:Array Keyed)(ia ib:Nat):Prop :=
 match o with
 | some r=>Md cmp (a.toList++y.toList) r.toList
 | none=>Lo b cmp a y n out ia ib
def Oc7(b:Array Keyed)(cmp:Keyed->Keyed->Bool)(a y:Array Keyed)(n:Nat)(st:SortSt)(r:ForInStep St7)(t:SortSt):Prop :=
 Sm st t/\match r with
 | .done c=>Oc b cmp a y n c.1 c.2.1 c.2.2.1 c.2.2.2.1
 | .yield c=>c.1=none/\Lo b cmp a y n c.2.1 c.2.2.1 c.2.2.2.1
section
variable{a y:Array Keyed}(C:Cn P w A E s b κ cmp){st t:SortSt}(hk:kindOf st=κ)(hl:∀z∈y.toList,∀x,a[a.size - 1]?=some x->cmp z x=true)
theorem T5(h:¬(m==n)=true):m≠n:=λz=>h (by rw[z];exact beq_self_eq_true n)
theorem ei0(c:Array Keyed)(i k:Nat):(c.extract i (i+k)).toList=(c.toList.drop i).take k:=by
 rw[Array.toList_extract];simp
theorem ho0(c:Array Keyed)(i:Nat):(c.extract i c.size).toList=c.toList.drop i:=by
 rw[Array.toList_extract];simp;rw[List.take_of_length_le (by simp)]
theorem e20{c out:Array Keyed}{l1 l2:List Keyed}(h:c.toList.drop i=l1++l2):(out++c.extract i (i+l1.length)).toList=out.toList++l1/\c.toList.drop (i+l1.length)=l2:=by
 refine⟨?_,?_⟩
 ·rw[Array.toList_append,ei0,h,List.take_left]
 ·rw[← List.drop_drop,h,List.drop_left]
theorem Zq0{out:Array Keyed}:(loD a y out ia ib).toList=out.toList++a.toList.drop ia++y.toList.drop ib:=by
 unfold loD;simp only[Array.toList_append,ho0]
theorem Z80{out:Array Keyed}:(loL a y out ia ib).toList=out.toList++y.toList.drop ib++a.toList.drop ia:=by
 unfold loL;simp only[Array.toList_append,ho0]
include hl in
theorem p50{out:Array Keyed}(M:Mg b cmp (a.toList++y.toList) out.toList (a.toList.drop ia) (y.toList.drop ib))(h:ia+1=a.size):Md cmp (a.toList++y.toList) (loL a y out ia ib).toList:=by
 rw[Z80];have e:=V6 (a:=a) (i:=ia) (by omega);rw[List.drop_eq_nil_of_le (i:=ia+1) (by simp;omega)] at e;rw[e] at M ⊢;refine M.last λz hz=>hl z (Ch0 hz) _ ?_
 rw[show a.size - 1=ia by omega];exact C9 a ia (by omega)
theorem no0{out:Array Keyed}(M:Mg b cmp (a.toList++y.toList) out.toList (a.toList.drop ia) (y.toList.drop ib))(h:ia=a.size∨ib=y.size):Md cmp (a.toList++y.toList) (loD a y out ia ib).toList:=by
 rw[Zq0];rcases h with h|h
 ·rw[List.drop_eq_nil_of_le (as:=a.toList) (i:=ia) (by simp;omega)] at M ⊢
  rw[List.append_nil];exact M.endB
 ·rw[List.drop_eq_nil_of_le (as:=y.toList) (i:=ib) (by simp;omega)] at M ⊢
  rw[List.append_nil];exact M.endA
include hl C in
theorem il0{mg:Nat}{out:Array Keyed}(hs:Sm st t)(L:Lo b cmp a y n out ia ib)(hc:∀z,y[ib]?=some z->cmp (a[ia]'(by have:=L.ia;omega)) z=true):wpS (model P w) A E s (lo3 a y mg ac bc out ia ib) (Oc7 b cmp a y (n+1) st) t:=by
 have h1:=L.ia;have h2:=L.ib;have M:=L.mg;rw[V6 (a:=a) (i:=ia) (by omega),V6 (a:=y) (i:=ib) (by omega)] at M;have M2:=Mg.move C.tr (l1:=[a[ia]]) (l2:=a.toList.drop (ia+1)) M λx hx=>by
  rw[List.mem_singleton] at hx;subst hx;exact hc _ (C9 y ib h2)
 rw[← V6 (a:=y) (i:=ib) h2,← Array.toList_push] at M2;unfold lo3;rw[elem'_eq,getElem?_pos a ia (by omega)];refine A3 (A2 ?_);split
 ·rename_i e
  exact A2 ⟨hs,p50 hl M2 (by simpa using e)⟩
 ·rename_i e
  have L2:Lo b cmp a y (n+1) (out.push a[ia]) (ia+1) ib:=⟨M2,by have:=T5 e;omega,h2,by rw[Array.size_push];have:=L.n;omega⟩;split
  ·exact A2 ⟨hs,L2⟩
  ·exact A2 ⟨hs,rfl,L2⟩
include hl C hk in
theorem iz0{mg:Nat}{out:Array Keyed}(hs:Sm st t)(L:Lo b cmp a y n out ia ib)(hc:∀z,a[ia]?=some z->cmp (y[ib]'L.ib) z=true):wpS (model P w) A E s (lo2 a y mg ac bc out ia ib) (Oc7 b cmp a y (n+1) st) t:=by
 have h1:=L.ia;have h2:=L.ib;have M:=L.mg;have O:ia<a.size:=by omega
 rw[V6 (a:=a) (i:=ia) (by omega),V6 (a:=y) (i:=ib) (by omega)] at M;have M2:=(Mg.move C.tr (l1:=[y[ib]]) (l2:=y.toList.drop (ib+1)) M.flip λx hx=>by
  rw[List.mem_singleton] at hx;subst hx;exact hc _ (C9 a ia (by omega))).flip
 have mk:a[ia]∈b.toList:=M.ma A5;rw[← Array.toList_push] at M2;unfold lo2;rw[elem'_eq,getElem?_pos y ib h2];refine A3 (A2 ?_);split
 ·rename_i e
  rw[← V6 (a:=a) (i:=ia) O] at M2;exact A2 ⟨hs,no0 M2 (.inr (by simpa using e))⟩
 ·rename_i e
  have e':ib+1<y.size:=by have:=T5 e;omega
  rw[elem'_eq,getElem?_pos a ia O];refine A3 (A2 (A3 (ra0 C (hs.kd.trans hk) mk (y.toList.drop (ib+1)) (λi hi=>?_) (by simp) (λx hx=>⟨M2.mb hx,λz=>M2.ne A5 hx z.symm⟩) (by have:=M2.sb;rw[List.pairwise_append] at this;exact this.2.1) (by omega) λl1 l2 h hb ha=>?_)))
  ·rw[List.getElem?_drop]
   simp
  ·dsimp only
   obtain⟨x1,x2⟩:=e20 (out:=out.push y[ib]) h;rw[h] at M2;have M3:=(Mg.move C.tr M2.flip hb).flip;rw[← x1,← x2,← V6 (a:=a) (i:=ia) O] at M3;split
   ·rename_i hz
    split
    ·rename_i e2
     exact A2 ⟨hs,no0 M3 (.inr (by simpa using e2))⟩
    ·rename_i e2
     have S:(y.toList.drop (ib+1)).length=(l1++l2).length:=by rw[h]
     rw[List.length_drop,List.length_append,Array.length_toList] at S;have e3:ib+1+l1.length<y.size:=by have:=T5 e2;omega
     refine il0 C hl hs ⟨M3,h1,e3,by rw[← Array.length_toList,x1,List.length_append,Array.length_toList,Array.size_push];have:=L.n;omega⟩ λz J=>ha z ?_
     rw[← x2,V6 (a:=y) e3];rw[getElem?_pos y _ e3] at J;cases J;exact A5
   ·rename_i hz
    have:l1=[]:=M1 (by omega);subst this;rw[List.nil_append] at h;rw[List.nil_append,← h,← V6 (a:=a) (i:=ia) O] at M2;refine il0 C hl hs ⟨M2,h1,e',by rw[Array.size_push];have:=L.n;omega⟩ λz J=>ha z ?_
    rw[← h,V6 (a:=y) e'];rw[getElem?_pos y _ e'] at J;cases J;exact A5
include hl C hk in
theorem ia0{mg:Nat}{out:Array Keyed}(hs:Sm st t)(L:Lo b cmp a y n out ia ib):wpS (model P w) A E s (lo1 a y mg ac bc out ia ib) (Oc7 b cmp a y (n+1) st) t:=by
 have h1:=L.ia;have h2:=L.ib;have M:=L.mg;rw[V6 (a:=y) (i:=ib) (by omega)] at M;have mk:y[ib]∈b.toList:=M.mb A5;unfold lo1;refine A3 (D8 ?_);have hs:=hs.gal mg;rw[elem'_eq,getElem?_pos y ib h2];refine A3 (A2 (A3 (ra0 C (hs.kd.trans hk) mk (a.toList.drop ia) (λi hi=>?_) (by simp) (λx hx=>⟨M.ma hx,M.ne hx A5⟩) (by have:=M.sa;rw[List.pairwise_append] at this;exact this.2.1) (by omega) λl1 l2 h hb ha=>?_)))
 ·rw[List.getElem?_drop]
  simp
 ·dsimp only
  obtain⟨x1,x2⟩:=e20 (out:=out) h;have M0:=M;rw[h] at M;have M3:=Mg.move C.tr M hb;rw[← x1,← x2,← V6 (a:=y) h2] at M3;have O:(a.toList.drop ia).length=(l1++l2).length:=by rw[h]
  rw[List.length_drop,List.length_append,Array.length_toList] at O;split
  ·rename_i hz
   split
   ·rename_i e2
    exact A2 ⟨hs,p50 hl M3 (by simpa using e2)⟩
   ·split
    ·rename_i e2
     exact A2 ⟨hs,no0 M3 (.inl (by simpa using e2))⟩
    ·rename_i e1 e2
     have e3:ia+l1.length+1<a.size:=by
      have:=T5 e2;have:=T5 e1;omega
     refine iz0 C hk hl hs ⟨M3,e3,h2,by rw[← Array.length_toList,x1,List.length_append,Array.length_toList];have:=L.n;omega⟩ λz J=>ha z ?_
     rw[← x2,V6 (a:=a) (i:=ia+l1.length) (by omega)];rw[getElem?_pos a _ (by omega)] at J;cases J;exact A5
  ·rename_i hz
   have:l1=[]:=M1 (by omega);subst this;rw[List.nil_append] at h;refine iz0 C hk hl hs L λz J=>ha z ?_
   rw[← h,V6 (a:=a) (i:=ia) (by omega)];rw[getElem?_pos a _ (by omega)] at J;cases J;exact A5
theorem Lo.le{out:Array Keyed}(h:Lo b cmp a y n out ia ib)(k:m<=n):Lo b cmp a y m out ia ib:=⟨h.mg,h.ia,h.ib,C5 k h.n⟩
theorem Lo.lt{out:Array Keyed}(h:Lo b cmp a y n out ia ib):n<a.size+y.size:=by
 have h1:=h.mg.pm.length_eq;have h2:=h.ia;have h3:=h.ib;have h4:=h.n;simp only[List.length_append,List.length_drop,Array.length_toList] at h1;omega
include hl C hk in
theorem mergeLo(h0:0<y.size)(h1:0<a.size)(M:Mg b cmp (a.toList++y.toList) [y[0]] a.toList (y.toList.drop 1)){Q:Array Keyed->SortSt->Prop}
  (k:∀r t,Sm st t->Md cmp (a.toList++y.toList) r.toList->Q r t):wpS (model P w) A E s (tj0 a y) Q st:=by
 rw[mr0];refine A3 (L9 (D7 ⟨rfl,?_⟩));rw[elem'_eq,getElem?_pos y 0 h0];refine A3 (A2 ?_);dsimp only;have M':Mg b cmp (a.toList++y.toList) (#[y[0]]:Array Keyed).toList (a.toList.drop 0) (y.toList.drop 1):=M
 by_cases e1:(1==y.size)=true
 ·rw[if_pos e1]
  exact A2 (k _ _ (Sm.refl st) (no0 (ia:=0) (ib:=1) M' (.inr (by simpa using e1))))
 rw[if_neg e1]
 by_cases e2:(0+1==a.size)=true
 ·rw[if_pos e2]
  exact A2 (k _ _ (Sm.refl st) (p50 hl (ia:=0) (ib:=1) M' (by simpa using e2)))
 rw[if_neg e2];have L0:Lo b cmp a y (1+0) #[y[0]] 0 1:=⟨M',by have:=T5 e2;omega,by have:=T5 e1;omega,A4 1⟩;refine A3 (D4 ?_);refine A3 (B7 (C8 (I:=λx c t=>Sm st t/\c.1=none/\Lo b cmp a y (1+x) c.2.1 c.2.2.1 c.2.2.2.1)
  (Q:=λc t=>Sm st t/\∃r,c.1=some r/\Md cmp (a.toList++y.toList) r.toList) (λx c t _ hx hI=>?_) (λc t hI=>?_) ⟨Sm.refl st,rfl,L0⟩) λc t hI=>?_)
 ·obtain⟨hs,_,L⟩:=hI
  refine A3 (B7 (C8 (I:=λx' c t=>Sm st t/\c.1=none/\Lo b cmp a y (1+x+x') c.2.1 c.2.2.1 c.2.2.2.1)
   (Q:=λc t=>Sm st t/\Oc b cmp a y (1+x) c.1 c.2.1 c.2.2.1 c.2.2.2.1) (λx' c' t _ U hI=>?_) (λc t hI=>?_) ⟨hs,rfl,L⟩) λc' t hI=>?_)
  ·obtain⟨o,J,ia,ib,ac,bc⟩:=c'
   obtain⟨hs,_,L⟩:=hI;have L:Lo b cmp a y (1+x+x') J ia ib:=L;dsimp only;have h1:=L.ia;have h2:=L.ib;have M:=L.mg;have S:ia<a.size:=by omega
   rw[V6 (a:=a) (i:=ia) S,V6 (a:=y) (i:=ib) h2] at M;have m1:a[ia]∈b.toList:=M.ma A5;have m2:y[ib]∈b.toList:=M.mb A5;rw[elem'_eq,getElem?_pos y ib h2,elem'_eq,getElem?_pos a ia S];refine A3 (A2 (A3 (A2 (A3 (C.ask _ _ _ _ (hs.kd.trans hk) m2 m1 ?_)))));dsimp only;cases hc:cmp y[ib] a[ia] with
   | true =>
    have M2:=(Mg.move C.tr (l1:=[y[ib]]) (l2:=y.toList.drop (ib+1)) M.flip λx hx=>by
     rw[List.mem_singleton] at hx;subst hx;exact hc).flip
    rw[← V6 (a:=a) (i:=ia) S,← Array.toList_push] at M2;rw[if_pos rfl];refine A3 (A2 ?_)
    by_cases e:(ib+1==y.size)=true
    ·rw[if_pos e]
     exact A2 ⟨hs,no0 M2 (.inr (by simpa using e))⟩
    ·rw[if_neg e]
     have L2:Lo b cmp a y (1+x+(x'+1)) (J.push y[ib]) ia (ib+1):=⟨M2,h1,by have:=T5 e;omega,by rw[Array.size_push];have:=L.n;omega⟩
     by_cases g:bc+1 ≥ c.2.2.2.2
     ·rw[if_pos g]
      exact A2 ⟨hs,L2.le (by omega)⟩
     ·rw[if_neg g]
      exact A2 ⟨hs,rfl,L2⟩
   | false =>
    have M2:=Mg.move C.tr (l1:=[a[ia]]) (l2:=a.toList.drop (ia+1)) M λx hx=>by
     rw[List.mem_singleton] at hx;subst hx;exact C.to _ m1 _ m2 (M.ne A5 A5) hc
    rw[← V6 (a:=y) (i:=ib) h2,← Array.toList_push] at M2;rw[if_neg (by decide)];refine A3 (A2 ?_)
    by_cases e:(ia+1+1==a.size)=true
    ·rw[if_pos e]
     exact A2 ⟨hs,p50 hl M2 (by simpa using e)⟩
    ·rw[if_neg e]
     have L2:Lo b cmp a y (1+x+(x'+1)) (J.push a[ia]) (ia+1) ib:=⟨M2,by have:=T5 e;omega,h2,by rw[Array.size_push];have:=L.n;omega⟩
     by_cases g:ac+1 ≥ c.2.2.2.2
     ·rw[if_pos g]
      exact A2 ⟨hs,L2.le (by omega)⟩
     ·rw[if_neg g]
      exact A2 ⟨hs,rfl,L2⟩
  ·obtain⟨o,J,ia,ib,ac,bc⟩:=c
   obtain⟨hs,e,L⟩:=hI;cases e;exact⟨hs,L.le (by omega)⟩
  ·obtain⟨o,J,ia,ib,ac,bc⟩:=c'
   obtain⟨hs,O⟩:=hI;cases o with
   | some r=>exact A2 ⟨hs,r,rfl,O⟩
   | none =>
    have L:Lo b cmp a y (1+x) J ia ib:=O;dsimp only;refine A3 (L9 (D7 ⟨rfl,?_⟩));refine A3 (B7 (C8 (I:=λx' c t=>Sm st t/\c.1=none/\Lo b cmp a y (1+x+x') c.2.1 c.2.2.1 c.2.2.2.1)
     (Q:=λc t=>Sm st t/\Oc b cmp a y (1+x+1) c.1 c.2.1 c.2.2.1 c.2.2.2.1) (λx' c' t _ U hI=>?_) (λc t hI=>?_) ⟨hs,rfl,L⟩) λc' t hI=>?_)
    ·obtain⟨o,J,ia,ib,mg,ac,bc⟩:=c'
     obtain⟨hs,_,L⟩:=hI;have go:∀(mg:Nat) (r:ForInStep St7) (t':SortSt),Oc7 b cmp a y (1+x+x'+1) st r t'->match r with|.done c=>Sm st t'/\Oc b cmp a y (1+x+1) c.1 c.2.1 c.2.2.1 c.2.2.2.1|.yield c=>Sm st t'/\c.1=none/\Lo b cmp a y (1+x+(x'+1)) c.2.1 c.2.2.1 c.2.2.2.1:=λmg r t' h=>by
      cases r with
      | yield c=>exact⟨h.1,h.2⟩
      | done c =>
       obtain⟨o,J,ia,ib,mg,ac,bc⟩:=c;refine⟨h.1,?_⟩;cases o with
       | some r=>exact h.2
       | none=>exact Lo.le h.2 (by omega)
     dsimp only
     by_cases hg:mg > 1
     ·rw[if_pos hg]
      show wpS (model P w) A E s (lo1 a y (mg - 1) ac bc J ia ib) _ t;refine B7 (ia0 C hk hl (mg:=mg - 1) (ac:=ac) (bc:=bc) hs L) λr t' h=>?_
      have:=go mg r t' h;cases r<;>exact this
     ·rw[if_neg hg]
      show wpS (model P w) A E s (lo1 a y mg ac bc J ia ib) _ t;refine B7 (ia0 C hk hl (mg:=mg) (ac:=ac) (bc:=bc) hs L) λr t' h=>?_
      have:=go mg r t' h;cases r<;>exact this
    ·obtain⟨o,J,ia,ib,mg,ac,bc⟩:=c
     obtain⟨hs,e,L⟩:=hI;cases e;exact⟨hs,L.le (by omega)⟩
    ·obtain⟨o,J,ia,ib,mg,ac,bc⟩:=c'
     obtain⟨hs,O⟩:=hI;cases o with
     | some r=>exact A2 ⟨hs,r,rfl,O⟩
     | none=>exact A3 (D8 (A2 ⟨hs.gal _,rfl,O⟩))
 ·exact absurd hI.2.2.lt (by omega)
 ·obtain⟨o,J,ia,ib,mg⟩:=c
  obtain⟨hs,r,e,O⟩:=hI;cases e;exact A2 (k _ _ hs O)
end
end
theorem mh0(a b:Array Keyed):tb0 a b=(do
 rule "list.sort.merge-hi"
 let total:=a.size+b.size
 let done (out:Array Keyed) (na nb:Nat):=a.extract 0 na++b.extract 0 nb++out.reverse
 let firstOfB (out:Array Keyed) (na nb:Nat):=b.extract 0 nb++a.extract 0 na++out.reverse
 let mut na:=a.size - 1
 let mut nb:=b.size
 let mut out:Array Keyed:=#[← elem' a na]
 if na==0 then return done out na nb
 if nb==1 then return firstOfB out na nb
 let mut minGallop:=gallopOf (← get)
 for _ in [0:total] do
  let mut acount:=0
  let mut bcount:=0
  for _ in [0:total] do
   let some aWins ← lt' (← elem' b (nb - 1)) (← elem' a (na - 1))|return done out na nb
   if aWins then
    na:=na - 1;out:=out.push (← elem' a na);acount:=acount+1;bcount:=0
    if na==0 then return done out na nb
    if acount ≥ minGallop then break
   else
    nb:=nb - 1;out:=out.push (← elem' b nb);bcount:=bcount+1;acount:=0
    if nb==1 then return firstOfB out na nb
    if bcount ≥ minGallop then break
  rule "list.sort.gallop"
  minGallop:=minGallop+1
  for _ in [0:total] do
   if minGallop > 1 then minGallop:=minGallop - 1
   modify λs=>zf0 s minGallop
   let some at_ ← O5 false (← elem' b (nb - 1)) a 0 na (na - 1)|return done out na nb
   let k:=na - at_
   acount:=k
   if k > 0 then
    out:=out++(a.extract at_ na).reverse;na:=at_
    if na==0 then return done out na nb
   nb:=nb - 1;out:=out.push (← elem' b nb)
   if nb==1 then return firstOfB out na nb
   let some at_ ← O5 true (← elem' a (na - 1)) b 0 nb (nb - 1)|return done out na nb
   let k:=nb - at_
   bcount:=k
   if k > 0 then
    out:=out++(b.extract at_ nb).reverse;nb:=at_
    if nb==1 then return firstOfB out na nb
    if nb==0 then return done out na nb
   na:=na - 1;out:=out.push (← elem' a na)
   if na==0 then return done out na nb
   if acount<7&&bcount<7 then break
  minGallop:=minGallop+1
  modify λs=>zf0 s minGallop
 unsupported "internal:list.sort.merge-bound"):=rfl
section
variable{P:Program}{w:World}{s:Shared}{b:Array Keyed}{κ:SortKind}{cmp:Keyed->Keyed->Bool}
def vm(cmp:Keyed->Keyed->Bool)(x y:Keyed):Bool:=cmp y x
def rt(c:Array Keyed)(n:Nat):List Keyed:=(c.toList.take n).reverse
theorem R6{c:Array Keyed}(h:0<n)(h':n<=c.size):rt c n=c[n - 1]::rt c (n - 1):=by
 obtain⟨m,rfl⟩:∃m,n=m+1:=⟨n - 1,by omega⟩;unfold rt;rw[List.take_succ,List.reverse_append];simp[show m<c.size by omega]
theorem ag0{c:Array Keyed}{x:Keyed}(h:x∈rt c n):x∈c.toList:=m4 (R1.mp h)
theorem e30{c out:Array Keyed}{l1 l2:List Keyed}(h:c.toList.take n=l1++l2)(hn:n<=c.size):(out++(c.extract l1.length n).reverse).toList=out.toList++l2.reverse/\rt c l1.length=l1.reverse/\l1.length+l2.length=n/\rt c n=l2.reverse++l1.reverse:=by
 have e:=D1 List.length h;rw[List.length_take,List.length_append,Array.length_toList] at e;refine⟨?_,?_,by omega,?_⟩
 ·rw[Array.toList_append,Array.toList_reverse,Array.toList_extract]
  simp only[List.extract_eq_take_drop];rw[← List.drop_take,h,List.drop_left]
 ·unfold rt
  have:c.toList.take l1.length=(c.toList.take n).take l1.length:=by rw[List.take_take,Nat.min_eq_left (by omega)]
  rw[this,h,List.take_left]
 ·unfold rt
  rw[h,List.reverse_append]
theorem Md.rev{T r:List Keyed}(h:Md (vm cmp) T r.reverse):Md cmp T r:=⟨r.reverse_perm.symm.trans h.pm,X2.mp h.so⟩
def hiD(a y out:Array Keyed)(na nb:Nat):Array Keyed:=a.extract 0 na++y.extract 0 nb++out.reverse
def hiF(a y out:Array Keyed)(na nb:Nat):Array Keyed:=y.extract 0 nb++a.extract 0 na++out.reverse
abbrev Sv7:=Option (Array Keyed)×Nat×Nat×Array Keyed×Nat×Nat×Nat
def hi3(a y:Array Keyed)(mg ac bc:Nat)(out:Array Keyed)(na nb:Nat):StateT SortSt Sem (ForInStep Sv7):=do
 let x ← elem' a (na - 1)
 if (na - 1==0)=true then pure (.done (some (hiD a y (out.push x) (na - 1) nb),na - 1,nb,out.push x,mg,ac,bc))
 else if (decide (ac<7)&&decide (bc<7))=true then pure (.done (none,na - 1,nb,out.push x,mg,ac,bc))
 else pure (.yield (none,na - 1,nb,out.push x,mg,ac,bc))
def hi2(a y:Array Keyed)(mg ac bc:Nat)(out:Array Keyed)(na nb:Nat):StateT SortSt Sem (ForInStep Sv7):=do
 let x ← elem' y (nb - 1)
 if (nb - 1==1)=true then pure (.done (some (hiF a y (out.push x) na (nb - 1)),na,nb - 1,out.push x,mg,ac,bc))
 else do
  let z ← elem' a (na - 1)
  let __x ← O5 true z y 0 (nb - 1) (nb - 1 - 1)
  match __x with
  | some k =>
   if nb - 1 - k > 0 then
    if (k==1)=true then pure (.done (some (hiF a y (out.push x++(y.extract k (nb - 1)).reverse) na k),na,k,out.push x++(y.extract k (nb - 1)).reverse,mg,ac,nb - 1 - k))
    else if (k==0)=true then pure (.done (some (hiD a y (out.push x++(y.extract k (nb - 1)).reverse) na k),na,k,out.push x++(y.extract k (nb - 1)).reverse,mg,ac,nb - 1 - k))
    else hi3 a y mg ac (nb - 1 - k) (out.push x++(y.extract k (nb - 1)).reverse) na k
   else hi3 a y mg ac (nb - 1 - k) (out.push x) na (nb - 1)
  | x'=>pure (.done (some (hiD a y (out.push x) na (nb - 1)),na,nb - 1,out.push x,mg,ac,bc))
def hi1(a y:Array Keyed)(mg ac bc:Nat)(out:Array Keyed)(na nb:Nat):StateT SortSt Sem (ForInStep Sv7):=do
 modify λs=>zf0 s mg
 let x ← elem' y (nb - 1)
 let __x ← O5 false x a 0 na (na - 1)
 match __x with
 | some k =>
  if na - k > 0 then
   if (k==0)=true then pure (.done (some (hiD a y (out++(a.extract k na).reverse) k nb),k,nb,out++(a.extract k na).reverse,mg,na - k,bc))
   else hi2 a y mg (na - k) bc (out++(a.extract k na).reverse) k nb
  else hi2 a y mg (na - k) bc out na nb
 | x'=>pure (.done (some (hiD a y out na nb),na,nb,out,mg,ac,bc))
structure Hi(b:Array Keyed)(cmp:Keyed->Keyed->Bool)(a y:Array Keyed)(n:Nat)(out:Array Keyed)(na nb:Nat):Prop where
 mg:Mg b (vm cmp) (a.toList++y.toList) out.toList (rt a na) (rt y nb)
 na':na<=a.size
 nb':nb<=y.size
 na:0<na
 nb:1<nb
 n:n<=out.size
def Ov(b:Array Keyed)(cmp:Keyed->Keyed->Bool)(a y:Array Keyed)(n:Nat)(o:Option (Array Keyed))(out:Array Keyed)(na nb:Nat):Prop :=
 match o with
 | some r=>Md cmp (a.toList++y.toList) r.toList
 | none=>Hi b cmp a y n out na nb
def Ov7(b:Array Keyed)(cmp:Keyed->Keyed->Bool)(a y:Array Keyed)(n:Nat)(st:SortSt)(r:ForInStep Sv7)(t:SortSt):Prop :=
 Sm st t/\match r with
 | .done c=>Ov b cmp a y n c.1 c.2.2.2.1 c.2.1 c.2.2.1
 | .yield c=>c.1=none/\Hi b cmp a y n c.2.2.2.1 c.2.1 c.2.2.1
variable{a y:Array Keyed}(C:Cn P w A E s b κ cmp){st t:SortSt}(hk:kindOf st=κ)(hl:∀z∈a.toList,∀x,y[0]?=some x->cmp x z=true)
include C in
theorem vtr:∀x∈b.toList,∀y∈b.toList,∀z∈b.toList,vm cmp x y=true->vm cmp y z=true->vm cmp x z=true:=λx hx y hy z hz h1 h2=>C.tr z hz y hy x hx h2 h1
theorem a90{out:Array Keyed}{nb:Nat}:(hiD a y out na nb).toList.reverse=out.toList++rt y nb++rt a na:=by
 unfold hiD rt;simp
theorem Z10{out:Array Keyed}{nb:Nat}:(hiF a y out na nb).toList.reverse=out.toList++rt a na++rt y nb:=by
 unfold hiF rt;simp
include hl in
theorem sm0{out:Array Keyed}{nb:Nat}(M:Mg b (vm cmp) (a.toList++y.toList) out.toList (rt a na) (rt y nb))(h:nb=1)(hy:0<y.size):Md cmp (a.toList++y.toList) (hiF a y out na nb).toList:=by
 refine Md.rev ?_;rw[Z10];subst h;have e:=R6 (c:=y) (n:=1) (by omega) (by omega);rw[show rt y (1 - 1)=[] from rfl] at e;rw[e] at M ⊢;exact M.flip.last λz hz=>hl z (ag0 hz) _ (C9 y 0 hy)
theorem pz0{out:Array Keyed}{nb:Nat}(M:Mg b (vm cmp) (a.toList++y.toList) out.toList (rt a na) (rt y nb))(h:na=0∨nb=0):Md cmp (a.toList++y.toList) (hiD a y out na nb).toList:=by
 refine Md.rev ?_;rw[a90];rcases h with rfl|rfl
 ·rw[show rt a 0=[] from rfl] at M ⊢
  rw[List.append_nil];exact M.endB
 ·rw[show rt y 0=[] from rfl] at M ⊢
  rw[List.append_nil];exact M.endA
include C in
theorem h60{mg:Nat}{out:Array Keyed}{nb:Nat}(hs:Sm st t)(L:Hi b cmp a y n out na nb)(hc:∀x z,a[na - 1]?=some x->y[nb - 1]?=some z->cmp z x=true):wpS (model P w) A E s (hi3 a y mg ac bc out na nb) (Ov7 b cmp a y (n+1) st) t:=by
 have h1:=L.na;have O:=L.na';have h2:=L.nb;have J:=L.nb';have M:=L.mg;rw[R6 (c:=a) h1 O,R6 (c:=y) (n:=nb) (by omega) J] at M;have M2:=Mg.move (vtr C) (l1:=[a[na - 1]]) (l2:=rt a (na - 1)) M λx hx=>by
  rw[List.mem_singleton] at hx;subst hx;exact hc _ _ (C9 a (na - 1) (by omega)) (C9 y (nb - 1) (by omega))
 rw[← R6 (c:=y) (n:=nb) (by omega) J,← Array.toList_push] at M2;unfold hi3;rw[elem'_eq,getElem?_pos a (na - 1) (by omega)];refine A3 (A2 ?_);split
 ·rename_i e
  exact A2 ⟨hs,pz0 M2 (.inl (by simpa using e))⟩
 ·rename_i e
  have L2:Hi b cmp a y (n+1) (out.push a[na - 1]) (na - 1) nb:=⟨M2,by omega,J,by have:=T5 e;omega,h2,by rw[Array.size_push];have:=L.n;omega⟩;split
  ·exact A2 ⟨hs,L2⟩
  ·exact A2 ⟨hs,rfl,L2⟩
include hl C hk in
theorem jh0{mg:Nat}{out:Array Keyed}{nb:Nat}(hs:Sm st t)(L:Hi b cmp a y n out na nb)(hc:∀x z,a[na - 1]?=some x->y[nb - 1]?=some z->cmp x z=true):wpS (model P w) A E s (hi2 a y mg ac bc out na nb) (Ov7 b cmp a y (n+1) st) t:=by
 have h1:=L.na;have J:=L.na';have h2:=L.nb;have S:=L.nb';have M:=L.mg;rw[R6 (c:=a) h1 J,R6 (c:=y) (n:=nb) (by omega) S] at M;have M2:=(Mg.move (vtr C) (l1:=[y[nb - 1]]) (l2:=rt y (nb - 1)) M.flip λx hx=>by
  rw[List.mem_singleton] at hx;subst hx;exact hc _ _ (C9 a (na - 1) (by omega)) (C9 y (nb - 1) (by omega))).flip
 have mk:a[na - 1]∈b.toList:=M.ma A5;rw[← Array.toList_push] at M2;unfold hi2;rw[elem'_eq,getElem?_pos y (nb - 1) (by omega)];refine A3 (A2 ?_);split
 ·rename_i e
  rw[← R6 (c:=a) h1 J] at M2;exact A2 ⟨hs,sm0 hl M2 (by simpa using e) (by omega)⟩
 ·rename_i e
  have e':=T5 e;rw[elem'_eq,getElem?_pos a (na - 1) (by omega)];refine A3 (A2 (A3 (ra0 C (hs.kd.trans hk) mk (y.toList.take (nb - 1)) (λi hi=>?_) (by rw[List.length_take,Array.length_toList];omega) (λx hx=>?_) ?_ (by omega) λl1 l2 h hb ha=>?_)))
  ·rw[Nat.zero_add,List.getElem?_take_of_lt hi]
   simp
  ·have hx:x∈rt y (nb - 1):=R1.mpr hx
   exact⟨M2.mb hx,λz=>M2.ne A5 hx z.symm⟩
  ·have:=M2.sb
   rw[List.pairwise_append] at this;exact X2.mp this.2.1
  ·dsimp only
   obtain⟨x1,x2,x3,x4⟩:=e30 (out:=out.push y[nb - 1]) h (by omega);rw[x4] at M2;have M3:=(Mg.move (vtr C) M2.flip λx hx=>ha x (R1.mp hx)).flip;rw[← x1,← x2,← R6 (c:=a) h1 J] at M3;split
   ·rename_i hz
    split
    ·rename_i e2
     exact A2 ⟨hs,sm0 hl M3 (by simpa using e2) (by omega)⟩
    ·split
     ·rename_i e2
      exact A2 ⟨hs,pz0 M3 (.inr (by simpa using e2))⟩
     ·rename_i e2 e3
      have e2:=T5 e2;have e3:=T5 e3;refine h60 C hs ⟨M3,J,by omega,h1,by omega,by rw[← Array.length_toList,x1,List.length_append,Array.length_toList,Array.size_push];have:=L.n;omega⟩ λx z hx O=>?_
      rw[getElem?_pos a (na - 1) (by omega)] at hx;cases hx;refine hb z ?_;rw[getElem?_pos y _ (by omega)] at O;cases O;rw[← List.mem_reverse,← x2,R6 (by omega) (by omega)];exact A5
   ·rename_i hz
    have:l2=[]:=M1 (by omega);subst this;rw[← x4,← R6 (c:=a) h1 J] at M2;refine h60 C hs ⟨M2,J,by omega,h1,by omega,by rw[Array.size_push];have:=L.n;omega⟩ λx z hx O=>?_
    rw[getElem?_pos a (na - 1) (by omega)] at hx;cases hx;refine hb z ?_;rw[getElem?_pos y _ (by omega)] at O;cases O;rw[← List.mem_reverse,← x2,show l1.length=nb - 1 from x3,R6 (by omega) (by omega)];exact A5
include hl C hk in
theorem jd0{mg:Nat}{out:Array Keyed}{nb:Nat}(hs:Sm st t)(L:Hi b cmp a y n out na nb):wpS (model P w) A E s (hi1 a y mg ac bc out na nb) (Ov7 b cmp a y (n+1) st) t:=by
 have h1:=L.na;have S:=L.na';have h2:=L.nb;have O:=L.nb';have M:=L.mg;rw[R6 (c:=y) (n:=nb) (by omega) O] at M;have mk:y[nb - 1]∈b.toList:=M.mb A5;unfold hi1;refine A3 (D8 ?_);have hs:=hs.gal mg;rw[elem'_eq,getElem?_pos y (nb - 1) (by omega)];refine A3 (A2 (A3 (ra0 C (hs.kd.trans hk) mk (a.toList.take na) (λi hi=>?_) (by rw[List.length_take,Array.length_toList];omega) (λx hx=>?_) ?_ (by omega) λl1 l2 h hb ha=>?_)))
 ·rw[Nat.zero_add,List.getElem?_take_of_lt hi]
  simp
 ·have hx:x∈rt a na:=R1.mpr hx
  exact⟨M.ma hx,M.ne hx A5⟩
 ·have:=M.sa
  rw[List.pairwise_append] at this;exact X2.mp this.2.1
 ·dsimp only
  obtain⟨x1,x2,x3,x4⟩:=e30 (out:=out) h (by omega);rw[x4] at M;have M3:=Mg.move (vtr C) M λx hx=>ha x (R1.mp hx)
  rw[← x1,← x2,← R6 (c:=y) (n:=nb) (by omega) O] at M3;split
  ·rename_i hz
   split
   ·rename_i e2
    exact A2 ⟨hs,pz0 M3 (.inl (by simpa using e2))⟩
   ·rename_i e2
    have e2:=T5 e2;refine jh0 C hk hl hs ⟨M3,by omega,O,by omega,h2,by rw[← Array.length_toList,x1,List.length_append,Array.length_toList];have:=L.n;omega⟩ λx z hx J=>?_
    rw[getElem?_pos y (nb - 1) (by omega)] at J;cases J;refine hb x ?_;rw[getElem?_pos a _ (by omega)] at hx;cases hx;rw[← List.mem_reverse,← x2,R6 (by omega) (by omega)];exact A5
  ·rename_i hz
   have:l2=[]:=M1 (by omega);subst this;refine jh0 C hk hl hs L λx z hx J=>?_
   rw[getElem?_pos y (nb - 1) (by omega)] at J;cases J;refine hb x ?_;rw[getElem?_pos a _ (by omega)] at hx;cases hx;rw[← List.mem_reverse,← x2,show l1.length=na from x3,R6 (by omega) (by omega)];exact A5
theorem Hi.le{out:Array Keyed}{nb:Nat}(h:Hi b cmp a y n out na nb)(k:m<=n):Hi b cmp a y m out na nb:=⟨h.mg,h.na',h.nb',h.na,h.nb,C5 k h.n⟩
theorem Hi.lt{out:Array Keyed}{nb:Nat}(h:Hi b cmp a y n out na nb):n<a.size+y.size:=by
 have h1:=h.mg.pm.length_eq;have h2:=h.na;have J:=h.na';have h3:=h.nb;have h4:=h.n;unfold rt at h1;simp only[List.length_append,List.length_reverse,List.length_take,Array.length_toList] at h1;omega
include hl C hk in
theorem mergeHi(h0:0<y.size)(h1:0<a.size)(M:Mg b (vm cmp) (a.toList++y.toList) [a[a.size - 1]] (rt a (a.size - 1)) (rt y y.size)){Q:Array Keyed->SortSt->Prop}
  (k:∀r t,Sm st t->Md cmp (a.toList++y.toList) r.toList->Q r t):wpS (model P w) A E s (tb0 a y) Q st:=by
 rw[mh0];refine A3 (L9 (D7 ⟨rfl,?_⟩));dsimp only;rw[elem'_eq,getElem?_pos a (a.size - 1) (by omega)];refine A3 (A2 ?_);have M':Mg b (vm cmp) (a.toList++y.toList) (#[a[a.size - 1]]:Array Keyed).toList (rt a (a.size - 1)) (rt y y.size):=M
 by_cases e1:(a.size - 1==0)=true
 ·rw[if_pos e1]
  exact A2 (k _ _ (Sm.refl st) (pz0 (nb:=y.size) M' (.inl (by simpa using e1))))
 rw[if_neg e1]
 by_cases e2:(y.size==1)=true
 ·rw[if_pos e2]
  exact A2 (k _ _ (Sm.refl st) (sm0 hl (nb:=y.size) M' (by simpa using e2) h0))
 rw[if_neg e2];have L0:Hi b cmp a y (1+0) #[a[a.size - 1]] (a.size - 1) y.size:=⟨M',by omega,A4 _,by have:=T5 e1;omega,by have:=T5 e2;omega,A4 1⟩;refine A3 (D4 ?_);refine A3 (B7 (C8 (I:=λx c t=>Sm st t/\c.1=none/\Hi b cmp a y (1+x) c.2.2.2.1 c.2.1 c.2.2.1)
  (Q:=λc t=>Sm st t/\∃r,c.1=some r/\Md cmp (a.toList++y.toList) r.toList) (λx c t _ hx hI=>?_) (λc t hI=>?_) ⟨Sm.refl st,rfl,L0⟩) λc t hI=>?_)
 ·obtain⟨hs,_,L⟩:=hI
  refine A3 (B7 (C8 (I:=λx' c t=>Sm st t/\c.1=none/\Hi b cmp a y (1+x+x') c.2.2.2.1 c.2.1 c.2.2.1)
   (Q:=λc t=>Sm st t/\Ov b cmp a y (1+x) c.1 c.2.2.2.1 c.2.1 c.2.2.1) (λx' c' t _ Y hI=>?_) (λc t hI=>?_) ⟨hs,rfl,L⟩) λc' t hI=>?_)
  ·obtain⟨o,na,nb,J,ac,bc⟩:=c'
   obtain⟨hs,_,L⟩:=hI;have L:Hi b cmp a y (1+x+x') J na nb:=L;dsimp only;have h1:=L.na;have U:=L.na';have h2:=L.nb;have S:=L.nb';have M:=L.mg;rw[R6 (c:=a) h1 U,R6 (c:=y) (n:=nb) (by omega) S] at M;have m1:a[na - 1]∈b.toList:=M.ma A5;have m2:y[nb - 1]∈b.toList:=M.mb A5;rw[elem'_eq,getElem?_pos y (nb - 1) (by omega),elem'_eq,getElem?_pos a (na - 1) (by omega)];refine A3 (A2 (A3 (A2 (A3 (C.ask _ _ _ _ (hs.kd.trans hk) m2 m1 ?_)))));dsimp only;cases hc:cmp y[nb - 1] a[na - 1] with
   | true =>
    have M2:=Mg.move (vtr C) (l1:=[a[na - 1]]) (l2:=rt a (na - 1)) M λx hx=>by
     rw[List.mem_singleton] at hx;subst hx;exact hc
    rw[← R6 (c:=y) (n:=nb) (by omega) S,← Array.toList_push] at M2;rw[if_pos rfl];refine A3 (A2 ?_)
    by_cases e:(na - 1==0)=true
    ·rw[if_pos e]
     exact A2 ⟨hs,pz0 M2 (.inl (by simpa using e))⟩
    ·rw[if_neg e]
     have L2:Hi b cmp a y (1+x+(x'+1)) (J.push a[na - 1]) (na - 1) nb:=⟨M2,by omega,S,by have:=T5 e;omega,h2,by rw[Array.size_push];have:=L.n;omega⟩
     by_cases g:ac+1 ≥ c.2.2.2.2
     ·rw[if_pos g]
      exact A2 ⟨hs,L2.le (by omega)⟩
     ·rw[if_neg g]
      exact A2 ⟨hs,rfl,L2⟩
   | false =>
    have M2:=(Mg.move (vtr C) (l1:=[y[nb - 1]]) (l2:=rt y (nb - 1)) M.flip λx hx=>by
     rw[List.mem_singleton] at hx;subst hx;exact C.to _ m1 _ m2 (M.ne A5 A5) hc).flip
    rw[← R6 (c:=a) h1 U,← Array.toList_push] at M2;rw[if_neg (by decide)];refine A3 (A2 ?_)
    by_cases e:(nb - 1==1)=true
    ·rw[if_pos e]
     exact A2 ⟨hs,sm0 hl M2 (by simpa using e) (by omega)⟩
    ·rw[if_neg e]
     have L2:Hi b cmp a y (1+x+(x'+1)) (J.push y[nb - 1]) na (nb - 1):=⟨M2,U,by omega,h1,by have:=T5 e;omega,by rw[Array.size_push];have:=L.n;omega⟩
     by_cases g:bc+1 ≥ c.2.2.2.2
     ·rw[if_pos g]
      exact A2 ⟨hs,L2.le (by omega)⟩
     ·rw[if_neg g]
      exact A2 ⟨hs,rfl,L2⟩
  ·obtain⟨o,na,nb,J,ac,bc⟩:=c
   obtain⟨hs,e,L⟩:=hI;cases e;exact⟨hs,L.le (by omega)⟩
  ·obtain⟨o,na,nb,J,ac,bc⟩:=c'
   obtain⟨hs,O⟩:=hI;cases o with
   | some r=>exact A2 ⟨hs,r,rfl,O⟩
   | none =>
    have L:Hi b cmp a y (1+x) J na nb:=O;dsimp only;refine A3 (L9 (D7 ⟨rfl,?_⟩));refine A3 (B7 (C8 (I:=λx' c t=>Sm st t/\c.1=none/\Hi b cmp a y (1+x+x') c.2.2.2.1 c.2.1 c.2.2.1)
     (Q:=λc t=>Sm st t/\Ov b cmp a y (1+x+1) c.1 c.2.2.2.1 c.2.1 c.2.2.1) (λx' c' t _ Y hI=>?_) (λc t hI=>?_) ⟨hs,rfl,L⟩) λc' t hI=>?_)
    ·obtain⟨o,na,nb,J,mg,ac,bc⟩:=c'
     obtain⟨hs,_,L⟩:=hI;have go:∀(r:ForInStep Sv7) (t':SortSt),Ov7 b cmp a y (1+x+x'+1) st r t'->match r with|.done c=>Sm st t'/\Ov b cmp a y (1+x+1) c.1 c.2.2.2.1 c.2.1 c.2.2.1|.yield c=>Sm st t'/\c.1=none/\Hi b cmp a y (1+x+(x'+1)) c.2.2.2.1 c.2.1 c.2.2.1:=λr t' h=>by
      cases r with
      | yield c=>exact⟨h.1,h.2⟩
      | done c =>
       obtain⟨o,na,nb,J,mg,ac,bc⟩:=c;refine⟨h.1,?_⟩;cases o with
       | some r=>exact h.2
       | none=>exact Hi.le h.2 (by omega)
     dsimp only
     by_cases hg:mg > 1
     ·rw[if_pos hg]
      show wpS (model P w) A E s (hi1 a y (mg - 1) ac bc J na nb) _ t;refine B7 (jd0 C hk hl (mg:=mg - 1) (ac:=ac) (bc:=bc) hs L) λr t' h=>?_
      have:=go r t' h;cases r<;>exact this
     ·rw[if_neg hg]
      show wpS (model P w) A E s (hi1 a y mg ac bc J na nb) _ t;refine B7 (jd0 C hk hl (mg:=mg) (ac:=ac) (bc:=bc) hs L) λr t' h=>?_
      have:=go r t' h;cases r<;>exact this
    ·obtain⟨o,na,nb,J,mg,ac,bc⟩:=c
     obtain⟨hs,e,L⟩:=hI;cases e;exact⟨hs,L.le (by omega)⟩
    ·obtain⟨o,na,nb,J,mg,ac,bc⟩:=c'
     obtain⟨hs,O⟩:=hI;cases o with
     | some r=>exact A2 ⟨hs,r,rfl,O⟩
     | none=>exact A3 (D8 (A2 ⟨hs.gal _,rfl,O⟩))
 ·exact absurd hI.2.2.lt (by omega)
 ·obtain⟨o,na,nb,J,mg⟩:=c
  obtain⟨hs,r,e,O⟩:=hI;cases e;exact A2 (k _ _ hs O)
end
theorem md0(i:Nat):mergeAt' i=(do
 let s ← get
 let (some (sa,na,power),some (sb,nb,_)):=((pendingOf s)[i]?,(pendingOf s)[i+1]?)|unsupported "internal:list.sort.pending"
 set (setPending s (((pendingOf s).setIfInBounds i (sa,na+nb,power)).eraseIdxIfInBounds (i+1)))
 let some k ← O5 false (← elem' (arrOf s) sb) (arrOf s) sa na 0|return false
 let (sa,na):=(sa+k,na - k)
 if na==0 then return true
 let some nb ← O5 true (← elem' (arrOf s) (sa+na - 1)) (arrOf s) sb nb (nb - 1)|return false
 if nb==0 then return true
 let x:=(arrOf s).extract sa sb
 let y:=(arrOf s).extract sb (sb+nb)
 let merged ← if na<=nb then tj0 x y else tb0 x y
 modify λs=>setArr s (merged.toList.zipIdx.foldl (λa (p,j)=>a.setIfInBounds (sa+j) p) (arrOf s))
 return (failedOf (← get)).isNone):=rfl
theorem eu0{M:Model}{s:Shared}{σ:Type}{u:σ}{Q:PUnit->σ->Prop}{st:σ}(h:Q ⟨⟩ u):wpS M A E s (set u:StateT σ Sem PUnit) Q st:=by
 unfold wpS;rw[StateT.run_set];exact A1 ⟨rfl,h⟩
theorem put{sa:Nat}:∀(r:List Keyed) (n:Nat) (arr:Array Keyed) (Pr o S:List Keyed),arr.toList=Pr++o++S->o.length=r.length->Pr.length=sa+n->((r.zipIdx n).foldl (λa (p,j)=>a.setIfInBounds (sa+j) p) arr).toList=Pr++r++S
 | [],n,arr,Pr,o,S,h,ho,hp=>by
  rw[List.length_nil] at ho;rw[List.eq_nil_of_length_eq_zero ho] at h;exact h
 | p::r,n,arr,Pr,[],S,h,ho,hp=>by simp at ho
 | p::r,n,arr,Pr,q::o,S,h,ho,hp=>by
  rw[List.zipIdx_cons,List.foldl_cons];have e:(arr.setIfInBounds (sa+n) p).toList=(Pr++[p])++o++S:=by
   rw[Array.toList_setIfInBounds,h,← hp];simp
  rw[put r (n+1) _ (Pr++[p]) o S e (by simpa using ho) (by simp;omega)];simp
section
variable{P:Program}{w:World}{s:Shared}{b:Array Keyed}{κ:SortKind}{cmp:Keyed->Keyed->Bool}(C:Cn P w A E s b κ cmp){st:SortSt}
def Asc(cmp:Keyed->Keyed->Bool)(l:List Keyed):Prop:=l.Pairwise λx y=>cmp x y=true
theorem seg_at{arr:Array Keyed}{L0 l S:List Keyed}(h:arr.toList=L0++l++S)(hi:i<l.length):arr[L0.length+i]?=l[i]?:=by
 rw[← Array.getElem?_toList,h,List.append_assoc,List.getElem?_append_right (by omega),Nat.add_sub_cancel_left,List.getElem?_append_left hi]
theorem j10{arr:Array Keyed}{L0 l S:List Keyed}(h:arr.toList=L0++l++S)(hi:i=L0.length)(hj:j=i+l.length):(arr.extract i j).toList=l:=by
 subst hj;rw[ei0,h,hi,List.append_assoc,List.drop_left,List.take_left]
include C in
theorem hh0(hg:Gn b κ st){sa pw sb nb pq:Nat}{L0 la lb S:List Keyed}(e1:(pendingOf st)[i]?=some (sa,na,pw))(e2:(pendingOf st)[i+1]?=some (sb,nb,pq))(h:(arrOf st).toList=L0++la++lb++S)
  (h0:sa=L0.length) (h1:na=la.length) (h2:sb=sa+na) (h3:nb=lb.length) (p1:0<na) (p2:0<nb) (s1:Asc cmp la) (s2:Asc cmp lb) {Q:Bool->SortSt->Prop}
  (k:∀t m,Gn b κ t->pendingOf t=((pendingOf st).setIfInBounds i (sa,na+nb,pw)).eraseIdxIfInBounds (i+1)->(arrOf t).toList=L0++m++S->m.length=na+nb->Asc cmp m->Q true t):wpS (model P w) A E s (mergeAt' i) Q st:=by
 rw[md0];refine A3 (D4 ?_);rw[e1,e2];dsimp only;refine A3 (eu0 ?_);obtain⟨u,hu⟩:∃u,u=setPending st (((pendingOf st).setIfInBounds i (sa,na+nb,pw)).eraseIdxIfInBounds (i+1)):=⟨_,rfl⟩;rw[← hu];have uk:kindOf u=κ:=by rw[hu];exact hg.kd
 have ua:arrOf u=arrOf st:=by rw[hu]
 have uf:failedOf u=none:=by rw[hu];exact hg.fa
 have up:pendingOf u=((pendingOf st).setIfInBounds i (sa,na+nb,pw)).eraseIdxIfInBounds (i+1):=by rw[hu]
 have hT:∀x∈L0++la++lb++S,x∈b.toList:=λx hx=>(P2.mp hg.pm).mem_iff.mp (by rw[h];exact hx)
 have hN:(L0++la++lb++S).Nodup:=by
  rw[← h];exact(P2.mp hg.pm).nodup_iff.mpr C.nd
 have ma:∀x∈la,x∈b.toList:=λx hx=>hT x (by simp[hx])
 have mb:∀x∈lb,x∈b.toList:=λx hx=>hT x (by simp[hx])
 have a6:(la++lb).Nodup:=by
  refine Ci0 ?_ hN;rw[List.append_assoc L0 la lb];exact(Cj0 L0 (la++lb)).trans (Ck0 _ S)
 have ne:∀x∈la,∀y∈lb,x≠y:=λx hx y hy=>(List.nodup_append.mp a6).2.2 x hx y hy
 obtain⟨b0,a7,eb⟩:∃b0 a7,lb=b0::a7:=by
  cases lb with
  | nil=>simp at h3;omega
  | cons x l=>exact⟨x,l,rfl⟩
 have b3:(arrOf st)[sb]?=some b0:=by
  have:=seg_at (arr:=arrOf st) (L0:=L0++la) (l:=lb) (S:=S) h (i:=0) (by omega);rw[List.length_append,Nat.add_zero,← h0,← h1,← h2,eb] at this;exact this
 have M:b0∈lb:=by rw[eb];exact A5
 rw[elem'_eq,b3];refine A3 (A2 (A3 (ra0 C uk (mb b0 M) la (λi hi=>?_) h1.symm (λx hx=>⟨ma x hx,ne x hx b0 M⟩) s1 p1 λl1 l2 hl hb ha=>?_)))
 ·have:=seg_at (arr:=arrOf st) (L0:=L0) (l:=la) (S:=lb++S) (by rw[h];simp) (i:=i) (by omega)
  rw[← h0] at this;exact this
 dsimp only;have b4:na=l1.length+l2.length:=by rw[h1,hl,List.length_append]
 have a2:Asc cmp (la++lb)->Q true u:=λz=>k _ (la++lb) ⟨uk,by rw[ua];exact hg.pm,uf⟩ up (by rw[ua,h];simp) (by rw[List.length_append,h1,h3]) z
 by_cases z1:(na - l1.length==0)=true
 ·rw[if_pos z1]
  have c0:na - l1.length=0:=by simpa using z1
  have:l2=[]:=M1 (by omega);subst this;rw[List.append_nil] at hl;subst hl;refine A2 (a2 ?_);refine P3.mpr ⟨s1,s2,λx hx y hy=>?_⟩;rw[eb] at hy;rcases C0.mp hy with rfl|a0
  ·exact hb x hx
  ·rw[eb] at s2
   exact C.tr x (ma x hx) b0 (mb b0 M) y (mb y (by rw[eb];exact hy)) (hb x hx) (X1 s2 a0)
 rw[if_neg z1];have c3:=T5 z1;have x2:l2≠[]:=λz=>by rw[z,List.length_nil] at b4;omega
 have ml:l2.getLast x2∈l2:=List.getLast_mem x2;have J:∀x∈l2,x∈la:=λx hx=>by rw[hl];exact D2 _ hx
 have b1:∀x∈l1,x∈la:=λx hx=>by rw[hl];exact N1 _ hx
 have a5:(arrOf st)[sa+l1.length+(na - l1.length) - 1]?=some (l2.getLast x2):=by
  have:=seg_at (arr:=arrOf st) (L0:=L0++l1) (l:=l2) (S:=lb++S) (by rw[h,hl];simp) (i:=l2.length - 1) (by omega);rw[List.length_append,← h0,List.getElem?_eq_getElem (by omega),← List.getLast_eq_getElem x2] at this;rw[← this];congr 1;omega
 have o1:Asc cmp l1/\Asc cmp l2/\∀x∈l1,∀y∈l2,cmp x y=true:=by
  have:=s1;rw[hl] at this;exact P3.mp this
 rw[elem'_eq,a5];refine A3 (A2 (A3 (ra0 C uk (ma _ (J _ ml)) lb (λi hi=>?_) h3.symm (λx hx=>⟨mb x hx,λz=>ne _ (J _ ml) x hx z.symm⟩) s2 (by omega) λm1 m2 hm a8 a1=>?_)))
 ·have:=seg_at (arr:=arrOf st) (L0:=L0++la) (l:=lb) (S:=S) h (i:=i) (by omega)
  rw[List.length_append,← h0,← h1,← h2] at this;exact this
 dsimp only;have c1:nb=m1.length+m2.length:=by rw[h3,hm,List.length_append]
 have b6:cmp b0 (l2.getLast x2)=true:=ha _ ml
 by_cases z2:(m1.length==0)=true
 ·exfalso
  have:m1=[]:=M1 (by simpa using z2);subst this;have:=a1 b0 (by rw[List.nil_append] at hm;rw[← hm];exact M);rw[C.as _ (mb b0 M) _ (ma _ (J _ ml)) b6] at this;cases this
 rw[if_neg z2];have b5:=T5 z2;have o2:Asc cmp m1/\Asc cmp m2/\∀x∈m1,∀y∈m2,cmp x y=true:=by
  have:=s2;rw[hm] at this;exact P3.mp this
 have a3:∀x∈m1,x∈lb:=λx hx=>by rw[hm];exact N1 _ hx
 have Z:∀x∈m2,x∈lb:=λx hx=>by rw[hm];exact D2 _ hx
 obtain⟨U,em⟩:∃U,m1=b0::U:=by
  cases m1 with
  | nil=>exact absurd rfl b5
  | cons x l =>
   rw[eb] at hm;injection hm with hm _
   exact⟨l,by rw[hm]⟩
 have ex:((arrOf st).extract (sa+l1.length) sb).toList=l2:=j10 (L0:=L0++l1) (S:=lb++S) (by rw[h,hl];simp) (by rw[List.length_append,h0]) (by omega);have ey:((arrOf st).extract sb (sb+m1.length)).toList=m1:=j10 (L0:=L0++la) (S:=m2++S) (by rw[h,hm];simp) (by rw[List.length_append,h2,h0,h1]) rfl;obtain⟨X,eX⟩:∃X,X=(arrOf st).extract (sa+l1.length) sb:=⟨_,rfl⟩;obtain⟨Y,eY⟩:∃Y,Y=(arrOf st).extract sb (sb+m1.length):=⟨_,rfl⟩;rw[← eX] at ex ⊢;rw[← eY] at ey ⊢;have sX:X.size=l2.length:=by rw[← ex,Array.length_toList]
 have sY:Y.size=m1.length:=by rw[← ey,Array.length_toList]
 have bl:∀x∈l1,∀y∈lb,cmp x y=true:=λx hx y hy=>by
  rw[eb] at hy;rcases C0.mp hy with rfl|a0
  ·exact hb x hx
  ·rw[eb] at s2
   exact C.tr x (ma x (b1 x hx)) b0 (mb b0 M) y (mb y (by rw[eb];exact hy)) (hb x hx) (X1 s2 a0)
 have b2:∀x∈l2,∀y∈m2,cmp x y=true:=λx hx y hy=>by
  rw[← List.dropLast_concat_getLast x2] at hx;rcases C3.mp hx with O|O
  ·have o:=o1.2.1
   rw[← List.dropLast_concat_getLast x2] at o;have:=(P3.mp o).2.2 x O _ (L5.mpr rfl);exact C.tr x (ma x (J x (List.dropLast_subset l2 O))) _ (ma _ (J _ ml)) y (mb y (Z y hy)) this (a1 y hy)
  ·rw[List.mem_singleton] at O
   subst O;exact a1 y hy
 have fin:∀(r:Array Keyed) (t:SortSt),Sm u t->Md cmp (X.toList++Y.toList) r.toList->wpS (model P w) A E s (do
   modify λs=>setArr s (List.foldl (λa x=>a.setIfInBounds (sa+l1.length+x.snd) x.fst) (arrOf s) r.toList.zipIdx)
   let __do_lift ← get
   pure (failedOf __do_lift).isNone) Q t:=λr t hs hr=>by
  refine A3 (D8 (A3 (D4 (A2 ?_))));rw[ex,ey] at hr;have a9:r.toList.length=l2.length+m1.length:=by rw[hr.pm.length_eq,List.length_append]
  have a4:∀x,x∈r.toList->x∈l2∨x∈m1:=λx hx=>C3.mp (hr.pm.mem_iff.mp hx)
  have ep:=put (sa:=sa+l1.length) r.toList 0 (arrOf t) (L0++l1) (l2++m1) (m2++S) (by rw[hs.ar,ua,h,hl,hm];simp) (by rw[a9,List.length_append]) (by rw[List.length_append,h0];rfl);have ef:(failedOf (setArr t (List.foldl (λa x=>a.setIfInBounds (sa+l1.length+x.snd) x.fst) (arrOf t) r.toList.zipIdx))).isNone=true:=by
   show (failedOf t).isNone=true;rw[hs.fa,uf];rfl
  show Q (failedOf (setArr t (List.foldl (λa x=>a.setIfInBounds (sa+l1.length+x.snd) x.fst) (arrOf t) r.toList.zipIdx))).isNone _;rw[ef];refine k _ (l1++r.toList++m2) ⟨hs.kd.trans uk,?_,hs.fa.trans uf⟩ (hs.pe.trans up) ?_ ?_ ?_
  ·refine Array.Perm.trans ?_ hg.pm
   rw[Array.perm_iff_toList_perm];show (List.foldl (λa x=>a.setIfInBounds (sa+l1.length+x.snd) x.fst) (arrOf t) r.toList.zipIdx).toList.Perm _;refine(List.Perm.of_eq ep).trans ?_;rw[h,hl,hm];have:=(hr.pm.append_left (L0++l1)).append_right (m2++S);refine this.trans (List.Perm.of_eq (by simp))
  ·refine ep.trans (by simp)
  ·rw[List.length_append,List.length_append,a9];omega
  ·refine P3.mpr ⟨P3.mpr ⟨o1.1,hr.so,λx hx y hy=>?_⟩,o2.2.1,λx hx y hy=>?_⟩
   ·rcases a4 y hy with q|q
    ·exact o1.2.2 x hx y q
    ·exact bl x hx y (a3 y q)
   ·rcases C3.mp hx with q|q
    ·exact bl x q y (Z y hy)
    ·rcases a4 x q with q|q
     ·exact b2 x q y hy
     ·exact o2.2.2 x q y hy
 have mT:∀x∈X.toList++Y.toList,x∈b.toList:=λx hx=>by
  rw[ex,ey] at hx;rcases C3.mp hx with q|q
  ·exact ma x (J x q)
  ·exact mb x (a3 x q)
 have nT:(X.toList++Y.toList).Nodup:=by
  rw[ex,ey];refine Ci0 ?_ a6;rw[hl,hm];exact(Cj0 l1 l2).append (Ck0 m1 m2)
 have y0:Y[0]'(by omega)=b0:=by
  have:Y.toList[0]?=some b0:=by rw[ey,em];rfl
  rw[Array.getElem?_toList,getElem?_pos Y 0 (by omega)] at this;injection this
 have xl:X[X.size - 1]'(by omega)=l2.getLast x2:=by
  have:X.toList[X.size - 1]?=some (l2.getLast x2):=by rw[ex,sX,List.getElem?_eq_getElem (by omega),← List.getLast_eq_getElem x2]
  rw[Array.getElem?_toList,getElem?_pos X _ (by omega)] at this;injection this
 by_cases hle:na - l1.length<=m1.length
 ·rw[if_pos hle]
  refine A3 (mergeLo C uk ?_ (by omega) (by omega) ⟨?_,?_,?_,mT,nT⟩ fin)
  ·intro z hz x hx
   rw[getElem?_pos X _ (by omega),xl] at hx;cases hx;rw[ey] at hz;exact a8 z hz
  ·rw[y0,ex,ey,em]
   show (b0::(l2++U)).Perm (l2++b0::U);exact List.perm_middle.symm
  ·rw[y0,ex]
   exact m3.mpr ⟨λx hx=>ha x hx,o1.2.1⟩
  ·rw[y0,ey,em]
   rw[em] at o2;exact o2.1
 ·rw[if_neg hle]
  refine A3 (mergeHi C uk ?_ (by omega) (by omega) ⟨?_,?_,?_,mT,nT⟩ fin)
  ·intro z hz x hx
   rw[getElem?_pos Y _ (by omega),y0] at hx;cases hx;rw[ex] at hz;exact ha z hz
  ·have:[X[X.size - 1]]++(rt X (X.size - 1)++rt Y Y.size)=rt X X.size++rt Y Y.size:=by
    rw[R6 (c:=X) (n:=X.size) (by omega) (A4 _)];rfl
   rw[this];unfold rt;rw[List.take_of_length_le (by simp),List.take_of_length_le (by simp)];exact(Cm0 _).append (Cm0 _)
  ·have:[X[X.size - 1]]++rt X (X.size - 1)=rt X X.size:=by
    rw[R6 (c:=X) (n:=X.size) (by omega) (A4 _)];rfl
   rw[this];unfold rt;rw[List.take_of_length_le (by simp),ex];exact X2.mpr o1.2.1
  ·rw[xl]
   unfold rt;rw[List.take_of_length_le (by simp),ey];refine m3.mpr ⟨λx hx=>a8 x (R1.mp hx),X2.mpr o2.1⟩
end
section
variable{P:Program}{w:World}{s:Shared}{b:Array Keyed}{κ:SortKind}{cmp:Keyed->Keyed->Bool}
structure Ro(b:Array Keyed)(κ:SortKind)(st:SortSt)(o:Nat)(t:SortSt):Prop where
 kd:kindOf t=κ
 pm:(arrOf t).Perm b
 fa:failedOf t=none
 pe:pendingOf t=pendingOf st
 ke:∀i,i<o->(arrOf t)[i]?=(arrOf st)[i]?
theorem Ro.sz{st t:SortSt}{o:Nat}(h:Ro b κ st o t):(arrOf t).size=b.size:=h.pm.size_eq
theorem Ro.el{st t:SortSt}{o:Nat}(h:Ro b κ st o t)(hi:i<b.size):∃x,(arrOf t)[i]?=some x/\x∈b.toList:=by
 have J:i<(arrOf t).size:=by rw[h.sz];exact hi
 exact⟨(arrOf t)[i],C9 _ i J,(P2.mp h.pm).mem_iff.mp (by simp)⟩
theorem Ro.mem{st t:SortSt}{o:Nat}(h:Ro b κ st o t){x:Keyed}(e:(arrOf t)[i]?=some x):x∈b.toList:=by
 obtain⟨hi,rfl⟩:=j0.mp e;exact(P2.mp h.pm).mem_iff.mp (by simp)
theorem Ro.ne{st t:SortSt}{o:Nat}(h:Ro b κ st o t)(hn:b.toList.Nodup){x y:Keyed}(e1:(arrOf t)[i]?=some x)(e2:(arrOf t)[j]?=some y)(hij:i<j):x≠y:=by
 have J:(arrOf t).toList.Nodup:=(P2.mp h.pm).nodup_iff.mpr hn;obtain⟨h1,rfl⟩:=j0.mp e1;obtain⟨h2,rfl⟩:=j0.mp e2;have:=E4.mp J i j (by simpa using h1) (by simpa using h2) hij
 simpa using this
def UpO(cmp:Keyed->Keyed->Bool)(xs:Array Keyed)(o n:Nat):Prop:=∀i j x y,i<j->j<n->xs[o+i]?=some x->xs[o+j]?=some y->cmp x y=true
def DnO(cmp:Keyed->Keyed->Bool)(xs:Array Keyed)(o n:Nat):Prop:=∀i j x y,i<j->j<n->xs[o+i]?=some x->xs[o+j]?=some y->cmp y x=true
variable(C:Cn P w A E s b κ cmp){st:SortSt}{o:Nat}
include C
theorem uq0{t:SortSt}(hr:Ro b κ st o t){x y:Keyed}(ei:(arrOf t)[i]?=some x)(ej:(arrOf t)[j]?=some y){Q:Option Bool->SortSt->Prop}(k:Q (some (cmp x y)) t):wpS (model P w) A E s (ltAt' i j) Q t:=by
 rw[ltAt'_eq];refine A3 (D4 ?_);show wpS _ _ _ _ (elem' (arrOf t) i>>=λx=>elem' (arrOf t) j>>=λy=>lt' x y) Q t;rw[elem'_eq,elem'_eq,ei,ej];exact A3 (A2 (A3 (A2 (C.ask _ _ _ _ hr.kd (hr.mem ei) (hr.mem ej) k))))
theorem o70{t:SortSt}(hr:Ro b κ st o t)(h1:1<=n)(h:UpO cmp (arrOf t) o n){u v:Keyed}(eu:(arrOf t)[o+n - 1]?=some u)(ev:(arrOf t)[o+n]?=some v)(huv:cmp u v=true):UpO cmp (arrOf t) o (n+1):=λi j x y J hj ex ey=>by
 by_cases hjn:j<n
 ·exact h i j x y J hjn ex ey
 ·have:j=n:=by omega
  subst this;rw[ev] at ey;cases ey;rw[show o+j - 1=o+(j - 1) by omega] at eu
  by_cases hi:i=j - 1
  ·subst hi;rw[eu] at ex;cases ex;exact huv
  ·exact C.tr x (hr.mem ex) u (hr.mem eu) v (hr.mem ev) (h i (j - 1) x u (by omega) (by omega) ex eu) huv
theorem gl0{t:SortSt}(hr:Ro b κ st o t)(h1:1<=n)(h:DnO cmp (arrOf t) o n){u v:Keyed}(eu:(arrOf t)[o+n - 1]?=some u)(ev:(arrOf t)[o+n]?=some v)(huv:cmp v u=true):DnO cmp (arrOf t) o (n+1):=λi j x y J hj ex ey=>by
 by_cases hjn:j<n
 ·exact h i j x y J hjn ex ey
 ·have:j=n:=by omega
  subst this;rw[ev] at ey;cases ey;rw[show o+j - 1=o+(j - 1) by omega] at eu
  by_cases hi:i=j - 1
  ·subst hi;rw[eu] at ex;cases ex;exact huv
  ·exact C.tr v (hr.mem ev) u (hr.mem eu) x (hr.mem ex) huv (h i (j - 1) x u (by omega) (by omega) ex eu)
theorem W60{t:SortSt}(hr:Ro b κ st o t)(hm:o+m<=b.size)(h1:1<=m){Q:Option Nat->SortSt->Prop}
  (k:∀r t,Ro b κ st o t->1<=r->r<=m->UpO cmp (arrOf t) o r->Q (some r) t):wpS (model P w) A E s (countRun' o m) Q t:=by
 rw[countRun'_eq];dsimp only;refine A3 (B7 (C8 (I:=λx c t'=>t'=t/\c=(none,x)/\UpO cmp (arrOf t) o x)
  (Q:=λc t'=>t'=t/\∃n,c=(none,n)/\1<=n/\n<=m/\UpO cmp (arrOf t) o n/\(n=m∨∃u v,(arrOf t)[o+n - 1]?=some u/\(arrOf t)[o+n]?=some v/\cmp v u=true)) (λx c t' M U hI=>?_) (λc t' hI=>?_) ⟨rfl,rfl,λi j x y a c _ _=>by omega⟩) λc t' hI=>?_)
 ·obtain⟨e1,e2,J⟩:=hI
  subst e1;subst e2;obtain⟨v,ev,mv⟩:=hr.el (i:=o+x) (by omega);obtain⟨u,eu,mu⟩:=hr.el (i:=o+x - 1) (by omega);refine A3 (uq0 C hr ev eu ?_);cases hc:cmp v u with
  | true=>exact A2 ⟨rfl,x,rfl,M,by omega,J,.inr ⟨u,v,eu,ev,hc⟩⟩
  | false=>exact A2 ⟨rfl,rfl,o70 C hr (by omega) J eu ev (C.to u mu v mv (hr.ne C.nd eu ev (by omega)) hc)⟩
 ·obtain⟨e1,e2,J⟩:=hI
  subst e1;subst e2;have e:max 1 m=m:=by omega
  rw[e] at J ⊢;exact⟨rfl,m,rfl,h1,A4 _,J,.inl rfl⟩
 obtain⟨e1,n,e2,n1,n2,hu,a0⟩:=hI;subst e1;subst e2;dsimp only
 by_cases hnm:n=m
 ·rw[if_pos (by rw[hnm];simp)]
  exact A2 (k n _ hr n1 n2 hu)
 rw[if_neg (by simpa using hnm)];obtain⟨u,v,eu,ev,hc⟩:=a0.resolve_left hnm
 by_cases hg1:n > 1
 ·rw[if_pos hg1]
  obtain⟨x,ex,mx⟩:=hr.el (i:=o) (by omega);refine A3 (uq0 C hr ex eu ?_);rw[hu 0 (n - 1) x u (by omega) (by omega) ex (by rw[← eu];congr 1;omega)];exact A2 (k n _ hr n1 n2 hu)
 rw[if_neg hg1];have:n=1:=by omega
 subst this;refine A3 (L9 (D7 ⟨rfl,?_⟩));have d2:DnO cmp (arrOf t') o (1+1):=λi j x y Y hj ex ey=>by
  have hi:i=0:=by omega
  have Z:j=1:=by omega
  subst hi;subst Z;rw[show o+1 - 1=o+0 by omega,ex] at eu;rw[ey] at ev;cases eu;cases ev;exact hc
 refine A3 (B7 (C8 (I:=λx c t=>t=t'/\c=(none,x,0)/\DnO cmp (arrOf t') o x)
  (Q:=λc t=>t=t'/\∃n,c=(none,n,0)/\2<=n/\n<=m/\DnO cmp (arrOf t') o n) (λx c t M U hI=>?_) (λc t hI=>?_) ⟨rfl,rfl,d2⟩) λc t hI=>?_)
 ·obtain⟨e1,e2,J⟩:=hI
  subst e1;subst e2;obtain⟨v,ev,mv⟩:=hr.el (i:=o+x) (by omega);obtain⟨u,eu,mu⟩:=hr.el (i:=o+x - 1) (by omega);refine A3 (uq0 C hr ev eu ?_);cases hc:cmp v u with
  | true =>
   dsimp only;rw[if_pos rfl,if_neg (by omega)];exact A2 ⟨rfl,rfl,gl0 C hr (by omega) J eu ev hc⟩
  | false =>
   dsimp only;rw[if_neg (by simp)];refine A3 (uq0 C hr eu ev ?_);rw[C.to u mu v mv (hr.ne C.nd eu ev (by omega)) hc];exact A2 ⟨rfl,x,rfl,by omega,by omega,J⟩
 ·obtain⟨e1,e2,J⟩:=hI
  subst e1;subst e2;have e:max (1+1) m=m:=by omega
  rw[e] at J ⊢;exact⟨rfl,m,rfl,by omega,A4 _,J⟩
 obtain⟨e1,n,e2,n1,n2,hd⟩:=hI;subst e1;subst e2;dsimp only;rw[if_neg (by omega),reverseSlice'_eq];refine A3 (D8 ?_);have a2:o+n<=(arrOf t).size:=by rw[hr.sz];omega
 have O:∀i,(mirror (arrOf t) o (o+n) ((o+n - o)/2))[i]?=if o<=i/\i<o+n then (arrOf t)[o+(o+n) - 1 - i]? else (arrOf t)[i]?:=λi=>by
  rw[getElem?_mirror_all a2]
 have g2:Ro b κ st o (setArr t (mirror (arrOf t) o (o+n) ((o+n - o)/2))):=⟨hr.kd,(mirror_perm _ _ _ _).trans hr.pm,hr.fa,hr.pe,λi hi=>by
  show (mirror (arrOf t) o (o+n) ((o+n - o)/2))[i]?=_;rw[O,if_neg (by omega)];exact hr.ke i hi⟩
 obtain⟨t2,S⟩:∃t2,t2=setArr t (mirror (arrOf t) o (o+n) ((o+n - o)/2)):=⟨_,rfl⟩;show wpS _ _ _ _ _ _ (setArr t (mirror (arrOf t) o (o+n) ((o+n - o)/2)));rw[← S] at g2 ⊢;have a1:UpO cmp (arrOf t2) o n:=λi j x y Y hj ex ey=>by
  rw[S] at ex ey;have ex:(mirror (arrOf t) o (o+n) ((o+n - o)/2))[o+i]?=some x:=ex;have ey:(mirror (arrOf t) o (o+n) ((o+n - o)/2))[o+j]?=some y:=ey;rw[O,if_pos (by omega)] at ex ey;exact hd (n - 1 - j) (n - 1 - i) y x (by omega) (by omega) (by rw[← ey];congr 1;omega) (by rw[← ex];congr 1;omega)
 refine A3 (B7 (C8 (I:=λx c t'=>t'=t2/\c=(none,x)/\UpO cmp (arrOf t2) o x)
  (Q:=λc t'=>t'=t2/\∃n,c=(none,n)/\1<=n/\n<=m/\UpO cmp (arrOf t2) o n) (λx c t' M U hI=>?_) (λc t' hI=>?_) ⟨rfl,rfl,a1⟩) λc t' hI=>?_)
 ·obtain⟨e1,e2,J⟩:=hI
  subst e1;subst e2;obtain⟨v,ev,mv⟩:=g2.el (i:=o+x) (by omega);obtain⟨u,eu,mu⟩:=g2.el (i:=o+x - 1) (by omega);refine A3 (uq0 C g2 ev eu ?_);cases hc:cmp v u with
  | true=>exact A2 ⟨rfl,x,rfl,by omega,by omega,J⟩
  | false=>exact A2 ⟨rfl,rfl,o70 C g2 (by omega) J eu ev (C.to u mu v mv (g2.ne C.nd eu ev (by omega)) hc)⟩
 ·obtain⟨e1,e2,J⟩:=hI
  subst e1;subst e2;have e:max n m=m:=by omega
  rw[e] at J ⊢;exact⟨rfl,m,rfl,h1,A4 _,J⟩
 obtain⟨e1,n,e2,n1,n2,hu⟩:=hI;subst e1;subst e2;exact A2 (k n _ g2 n1 n2 hu)
theorem W30{a:Nat}{t:SortSt}(hr:Ro b κ st o t)(hn:o+n<=b.size)(ha:a<=n)(hu:UpO cmp (arrOf t) o a){Q:Bool->SortSt->Prop}
  (k:∀t,Ro b κ st o t->UpO cmp (arrOf t) o n->Q true t):wpS (model P w) A E s (binarySort' o n a) Q t:=by
 rw[binarySort'_eq];refine A3 (B7 (C8 (I:=λx c t=>c=(none,())/\Ro b κ st o t/\UpO cmp (arrOf t) o (min x n)) (Q:=λc t=>c=(none,())/\Ro b κ st o t/\UpO cmp (arrOf t) o n) (λx c t a2 a1 hI=>?_) (λc t hI=>?_) ⟨rfl,hr,?_⟩) λc t hI=>?_)
 ·obtain⟨e1,g2,u2⟩:=hI
  subst e1;have ex:min x n=x:=by omega
  rw[ex] at u2;have hx:o+x<b.size:=by omega
  obtain⟨v,ev,mv⟩:=g2.el hx;refine A3 (B7 (C8 (I:=λy c t2=>t2=t/\∃l r,c=(none,l,r)/\l<=r/\r<=x/\r - l<=x - y/\(∀i z,i<l->(arrOf t)[o+i]?=some z->cmp z v=true)/\∀i z,r<=i->i<x->(arrOf t)[o+i]?=some z->cmp v z=true)
   (Q:=λc t2=>t2=t/\∃l r,c=(none,l,r)/\l<=x/\(∀i z,i<l->(arrOf t)[o+i]?=some z->cmp z v=true)/\∀i z,l<=i->i<x->(arrOf t)[o+i]?=some z->cmp v z=true) (λy c t2 _ Z hJ=>?_) (λc t2 hJ=>?_)
   ⟨rfl,0,x,rfl,by omega,by omega,by omega,λi z hi=>by omega,λi z h1 h2=>by omega⟩) λc t2 hJ=>?_)
  ·obtain⟨e1,l,r,e2,Y,M,hm,lo,hi⟩:=hJ
   subst e1;subst e2;dsimp only
   by_cases hge:l ≥ r
   ·rw[if_pos hge]
    have:l=r:=by omega
    subst this;exact A2 ⟨rfl,l,l,rfl,M,lo,hi⟩
   ·rw[if_neg hge]
    obtain⟨u,eu,mu⟩:=g2.el (i:=o+(l+r)/2) (by omega);refine A3 (uq0 C g2 ev eu ?_);cases hc:cmp v u with
    | true =>
     refine A2 ⟨rfl,l,(l+r)/2,rfl,by omega,by omega,by omega,lo,λi z h1 h2 ez=>?_⟩
     by_cases q:i=(l+r)/2
     ·subst q;rw[eu] at ez;cases ez;exact hc
     ·exact C.tr v mv u mu z (g2.mem ez) hc (u2 _ i u z (by omega) (by omega) eu ez)
    | false =>
     have S:=C.to u mu v mv (g2.ne C.nd eu ev (by omega)) hc;refine A2 ⟨rfl,(l+r)/2+1,r,rfl,by omega,by omega,by omega,λi z h1 ez=>?_,hi⟩
     by_cases q:i=(l+r)/2
     ·subst q;rw[eu] at ez;cases ez;exact S
     ·exact C.tr z (g2.mem ez) u mu v mv (u2 i _ z u (by omega) (by omega) ez eu) S
  ·obtain⟨e1,l,r,e2,Y,M,hm,lo,hi⟩:=hJ
   subst e1;subst e2;have:l=r:=by omega
   subst this;exact⟨rfl,l,l,rfl,M,lo,hi⟩
  ·obtain⟨e1,l,r,e2,a0,lo,hi⟩:=hJ
   subst e1;subst e2;show wpS _ _ _ _ (do moveDown' (o+x) (o+l);pure (ForInStep.yield (none,()))) _ _;rw[moveDown'_eq];have U:o+x<(arrOf t2).size:=by rw[g2.sz];exact hx
   have O:∀i,(bubble (arrOf t2) (o+x) (o+x - (o+l)))[i]?=if i=o+l then some v else if o+l<i/\i<=o+x then (arrOf t2)[i - 1]? else (arrOf t2)[i]?:=λi=>by
    rw[getElem?_bubble U _ (by omega),show o+x - (o+x - (o+l))=o+l by omega,ev]
   refine A3 (D8 (A2 ⟨rfl,⟨g2.kd,(bubble_perm _ _ _).trans g2.pm,g2.fa,g2.pe,λi hi=>?_⟩,?_⟩))
   ·show (bubble (arrOf t2) (o+x) (o+x - (o+l)))[i]?=_
    rw[O,if_neg (by omega),if_neg (by omega)];exact g2.ke i hi
   have e3:min (x+1) n=x+1:=by omega
   rw[e3];intro i j y z J hj ey ez;have ey:(bubble (arrOf t2) (o+x) (o+x - (o+l)))[o+i]?=some y:=ey;have ez:(bubble (arrOf t2) (o+x) (o+x - (o+l)))[o+j]?=some z:=ez;rw[O] at ey ez
   by_cases q1:j=l
   ·rw[if_pos (by omega)] at ez
    rw[if_neg (by omega),if_neg (by omega)] at ey;cases ez;exact lo i y (by omega) ey
   ·rw[if_neg (by omega)] at ez
    by_cases q2:i=l
    ·rw[if_pos (by omega)] at ey
     rw[if_pos ⟨by omega,by omega⟩,show o+j - 1=o+(j - 1) by omega] at ez;cases ey;exact hi (j - 1) z (by omega) (by omega) ez
    ·rw[if_neg (by omega)] at ey
     by_cases q3:l<i
     ·rw[if_pos ⟨by omega,by omega⟩,show o+i - 1=o+(i - 1) by omega] at ey
      rw[if_pos ⟨by omega,by omega⟩,show o+j - 1=o+(j - 1) by omega] at ez;exact u2 (i - 1) (j - 1) y z (by omega) (by omega) ey ez
     ·rw[if_neg (by omega)] at ey
      by_cases q4:l<j
      ·rw[if_pos ⟨by omega,by omega⟩,show o+j - 1=o+(j - 1) by omega] at ez
       exact u2 i (j - 1) y z (by omega) (by omega) ey ez
      ·rw[if_neg (by omega)] at ez
       exact u2 i j y z J (by omega) ey ez
 ·obtain⟨hc,g2,u2⟩:=hI
  refine⟨hc,g2,?_⟩
  rwa [show min (max (max a 1) n) n=n by omega] at u2
 ·intro i j x y J hj ex ey
  exact hu i j x y J (by omega) ex ey
 ·obtain⟨e1,g2,u2⟩:=hI
  subst e1;exact A2 (k t g2 u2)
end
def Rn(cmp:Keyed->Keyed->Bool):Nat->List (Nat×Nat×Nat)->List (List Keyed)->Prop
 | _,[],[]=>True
 | o,p::ps,r::rs=>p.1=o/\p.2.1=r.length/\0<r.length/\Asc cmp r/\Rn cmp (o+r.length) ps rs
 | _,_,_=>False
section
variable{cmp:Keyed->Keyed->Bool}
theorem bj0{p:Prop}[Decidable p]{k:Nat}(h1:m+1<k)(h2:n+1<k):(if p then m else n)+1<k:=by split<;>assumption
theorem pj0:∀{ps:List (Nat×Nat×Nat)} {rs:List (List Keyed)} {o:Nat},Rn cmp o ps rs->ps.length=rs.length/\ps.length<=rs.flatten.length
 | [],[],_,_=>⟨rfl,K2 _⟩
 | p::ps,r::rs,o,h=>by
  obtain⟨_,_,h3,_,h5⟩:=h;obtain⟨i1,i2⟩:=pj0 h5;refine⟨by rw[List.length_cons,List.length_cons,i1],?_⟩;rw[List.flatten_cons,List.length_append,List.length_cons];omega
 | [],_::_,_,h=>h.elim
 | _::_,[],_,h=>h.elim
theorem h70:∀{i:Nat} {ps:List (Nat×Nat×Nat)} {rs:List (List Keyed)} {o:Nat},Rn cmp o ps rs->i+1<ps.length ->
  ∃ps1 sa na pw sb nb pq ps2 rs1 la lb rs2,ps=ps1++(sa,na,pw)::(sb,nb,pq)::ps2/\ps1.length=i/\rs=rs1++la::lb::rs2/\sa=o+rs1.flatten.length/\na=la.length/\sb=sa+na/\nb=lb.length/\0<na/\0<nb/\Asc cmp la/\Asc cmp lb /\
   ∀m:List Keyed,Asc cmp m->m.length=na+nb->Rn cmp o (ps1++(sa,na+nb,pw)::ps2) (rs1++m::rs2)
 | 0,(sa,na,pw)::(sb,nb,pq)::ps,la::lb::rs,o,h,_=>by
  obtain⟨h1,h2,h3,h4,g1,g2,g3,g4,g5⟩:=h;dsimp only at h1 h2 g1 g2;subst h1;subst h2;subst g1;subst g2;refine⟨[],_,_,pw,_,_,pq,ps,[],la,lb,rs,rfl,rfl,rfl,rfl,rfl,rfl,rfl,h3,g3,h4,g4,λm hm hl=>?_⟩;refine⟨rfl,hl.symm,by omega,hm,?_⟩;rw[hl,← Nat.add_assoc];exact g5
 | i+1,p::ps,r::rs,o,h,hi=>by
  obtain⟨h1,h2,h3,h4,h5⟩:=h;obtain⟨ps1,sa,na,pw,sb,nb,pq,ps2,rs1,la,lb,rs2,e1,e2,e3,e4,e5,e6,e7,e8,e9,f1,f2,k⟩:=h70 (i:=i) h5 (by simpa using hi);subst e1;subst e3;refine⟨p::ps1,sa,na,pw,sb,nb,pq,ps2,r::rs1,la,lb,rs2,rfl,by rw[List.length_cons,e2],rfl,?_,e5,e6,e7,e8,e9,f1,f2,λm hm hl=>⟨h1,h2,h3,h4,k m hm hl⟩⟩;rw[e4,List.flatten_cons,List.length_append];omega
 | _,[],[],_,_,hi=>by simp at hi
 | _,[_],_,_,_,hi=>by simp at hi
 | _,[],_::_,_,h,_=>h.elim
 | _,_::_,[],_,h,_=>h.elim
 | 0,_::_::_,[_],_,h,_=>h.2.2.2.2.elim
theorem ef0:∀{ps:List (Nat×Nat×Nat)} {rs:List (List Keyed)} {o:Nat} (k pw:Nat),Rn cmp o ps rs->Rn cmp o (ps.modify k λq=>(q.1,q.2.1,pw)) rs
 | [],_,_,k,pw,h=>by rw[List.modify_nil];exact h
 | p::ps,r::rs,o,0,pw,h=>h
 | p::ps,r::rs,o,k+1,pw,h=>⟨h.1,h.2.1,h.2.2.1,h.2.2.2.1,ef0 k pw h.2.2.2.2⟩
 | _::_,[],_,_,_,h=>h.elim
theorem l60:∀{ps:List (Nat×Nat×Nat)} {rs:List (List Keyed)} {o:Nat} {r:List Keyed} {pw:Nat},Rn cmp o ps rs->0<r.length->Asc cmp r->Rn cmp o (ps++[(o+rs.flatten.length,r.length,pw)]) (rs++[r])
 | [],[],o,r,pw,_,h1,h2=>⟨rfl,rfl,h1,h2,trivial⟩
 | p::ps,q::rs,o,r,pw,h,h1,h2=>by
  have:=l60 (pw:=pw) h.2.2.2.2 h1 h2;refine⟨h.1,h.2.1,h.2.2.1,h.2.2.2.1,?_⟩;rw[List.flatten_cons,List.length_append,← Nat.add_assoc];exact this
 | [],_::_,_,_,_,h,_,_=>h.elim
 | _::_,[],_,_,_,h,_,_=>h.elim
end
section
variable{P:Program}{w:World}{s:Shared}{b:Array Keyed}{κ:SortKind}{cmp:Keyed->Keyed->Bool}
structure Sv(b:Array Keyed)(κ:SortKind)(cmp:Keyed->Keyed->Bool)(rest:List Keyed)(lo:Nat)(t:SortSt):Prop where
 gn:Gn b κ t
 rn:∃rs,(arrOf t).toList=rs.flatten++rest/\rs.flatten.length=lo/\Rn cmp 0 (pendingOf t).toList rs
variable(C:Cn P w A E s b κ cmp)
include C
theorem vt0{rest:List Keyed}{lo:Nat}{t:SortSt}(h:Sv b κ cmp rest lo t)(hi:i+1<(pendingOf t).size){Q:Bool->SortSt->Prop}
  (k:∀t',Sv b κ cmp rest lo t'->(pendingOf t').size+1=(pendingOf t).size->Q true t'):wpS (model P w) A E s (mergeAt' i) Q t:=by
 obtain⟨rs,e1,e2,e3⟩:=h.rn;obtain⟨U,sa,na,pw,sb,nb,pq,O,J,la,lb,M,f1,f2,f3,f4,f5,f6,f7,f8,f9,g1,g2,kk⟩:=h70 e3 (by simpa using hi);rw[Nat.zero_add] at f4;subst f3;have q1:(pendingOf t)[i]?=some (sa,na,pw):=by
  rw[← Array.getElem?_toList,f1,← f2];simp
 have q2:(pendingOf t)[i+1]?=some (sb,nb,pq):=by
  rw[← Array.getElem?_toList,f1,← f2,List.getElem?_append_right (by omega),Nat.add_sub_cancel_left];rfl
 refine hh0 C h.gn q1 q2 (L0:=J.flatten) (la:=la) (lb:=lb) (S:=M.flatten++rest) (by rw[e1];simp) f4 f5 f6 f7 f8 f9 g1 g2 λt' m gn pe ar ml ma=>?_
 have pl:(pendingOf t').toList=U++(sa,na+nb,pw)::O:=by
  rw[pe,Array.toList_eraseIdxIfInBounds,Array.toList_setIfInBounds,f1,← f2];simp only[List.set_append_right _ _ (A4 _),Nat.sub_self,List.set_cons_zero];rw[List.eraseIdx_append_of_length_le (by omega),Nat.add_sub_cancel_left];rfl
 refine k t' ⟨gn,J++m::M,by rw[ar];simp,?_,by rw[pl];exact kk m ma ml⟩ ?_
 ·rw[← e2]
  simp only[List.flatten_append,List.flatten_cons,List.length_append];omega
 ·rw[← Array.length_toList,pl,← Array.length_toList,f1]
  simp only[List.length_append,List.length_cons];omega
theorem Yk0{st:SortSt}{Q:Unit->SortSt->Prop}(hk:kindOf st=κ)(hp:(arrOf st).Perm b)(hf:failedOf st=none)(he:pendingOf st=#[])(h2:2<=b.size)
  (k:∀t,(arrOf t).Perm b->failedOf t=none->Up cmp (arrOf t) b.size->Q () t):wpS (model P w) A E s sortRuns' Q st:=by
 rw[sortRuns'_eq];refine A3 (D4 ?_);dsimp only;rw[show (arrOf st).size=b.size from hp.size_eq];have S0:Sv b κ cmp (arrOf st).toList 0 st:=⟨⟨hk,hp,hf⟩,[],rfl,rfl,by rw[he];trivial⟩;refine A3 (B7 (C8 (I:=λx c t=>∃lo rest,c=(none,lo)/\x<=lo/\lo<=b.size/\Sv b κ cmp rest lo t)
  (Q:=λc t=>c=(none,b.size)/\∃rest,Sv b κ cmp rest b.size t) (λx c t _ hx hI=>?_) (λc t hI=>?_) ⟨0,_,rfl,A4 0,K2 _,S0⟩) λc t hI=>?_)
 ·obtain⟨lo,rest,e1,a8,a7,S⟩:=hI
  subst e1;dsimp only
  by_cases hge:lo ≥ b.size
  ·rw[if_pos hge]
   have:lo=b.size:=by omega
   subst this;exact A2 ⟨rfl,rest,S⟩
  rw[if_neg hge];have hr:Ro b κ t lo t:=⟨S.gn.kd,S.gn.pm,S.gn.fa,rfl,λi _=>rfl⟩;refine A3 (W60 C hr (m:=b.size - lo) (by omega) (by omega) λM t2 a1 r1 r2 u2=>?_);dsimp only;have Y:∀(n:Nat) (t3:SortSt),Ro b κ t lo t3->UpO cmp (arrOf t3) lo n->1<=n->lo+n<=b.size->∃r J,Sv b κ cmp (r++J) lo t3/\r.length=n/\Asc cmp r:=λn t3 O u3 n1 n2=>by
   obtain⟨rs,e1,e2,e3⟩:=S.rn;have a2:(arrOf t3).toList.length=b.size:=by rw[Array.length_toList];exact O.sz
   have a4:(arrOf t3).toList.take lo=rs.flatten:=by
    refine Ab0 λi=>?_
    by_cases hi:i<lo
    ·rw[List.getElem?_take_of_lt hi,Array.getElem?_toList,O.ke i hi,← Array.getElem?_toList,e1,List.getElem?_append_left (by omega)]
    ·rw[List.getElem?_eq_none (by rw[List.length_take];omega),List.getElem?_eq_none (by omega)]
   refine⟨((arrOf t3).toList.drop lo).take n,((arrOf t3).toList.drop lo).drop n,⟨⟨O.kd,O.pm,O.fa⟩,rs,?_,e2,by rw[O.pe];exact e3⟩,?_,?_⟩
   ·rw[List.take_append_drop,← a4,List.take_append_drop]
   ·rw[List.length_take,List.length_drop,a2];omega
   ·refine E4.mpr λi j hi hj U=>?_
    rw[List.length_take,List.length_drop,a2] at hi hj;have ei:(arrOf t3)[lo+i]?=some (((arrOf t3).toList.drop lo).take n)[i]:=by
     rw[List.getElem_take,List.getElem_drop,← Array.getElem?_toList];exact C9 (arrOf t3).toList (lo+i) _
    have ej:(arrOf t3)[lo+j]?=some (((arrOf t3).toList.drop lo).take n)[j]:=by
     rw[List.getElem_take,List.getElem_drop,← Array.getElem?_toList];exact C9 (arrOf t3).toList (lo+j) _
    exact u3 i j _ _ U (by omega) ei ej
  have push:∀(n:Nat) (t4:SortSt) (r J:List Keyed),Sv b κ cmp (r++J) lo t4->r.length=n->Asc cmp r->1<=n->Sv b κ cmp J (lo+n) (setPending t4 ((pendingOf t4).push (lo,n,0))):=λn t4 r J S4 hl ha n1=>by
   obtain⟨rs,e1,e2,e3⟩:=S4.rn;refine⟨⟨S4.gn.kd,S4.gn.pm,S4.gn.fa⟩,rs++[r],?_,?_,?_⟩
   ·show (arrOf t4).toList=_
    rw[e1];simp
   ·rw[← e2,← hl];simp
   ·show Rn cmp 0 ((pendingOf t4).push (lo,n,0)).toList _
    rw[Array.toList_push];have:=l60 (pw:=0) e3 (r:=r) (by omega) ha;rw[Nat.zero_add,e2,hl] at this;exact this
  have a3:∀(rest:List Keyed) (t4:SortSt) (i pw:Nat),Sv b κ cmp rest lo t4->Sv b κ cmp rest lo (setPending t4 ((pendingOf t4).modify i λx=>(x.1,x.2.1,pw))):=λrest t4 i pw S4=>by
   obtain⟨rs,e1,e2,e3⟩:=S4.rn;refine⟨⟨S4.gn.kd,S4.gn.pm,S4.gn.fa⟩,rs,e1,e2,?_⟩;show Rn cmp 0 ((pendingOf t4).modify i λx=>(x.1,x.2.1,pw)).toList _;rw[Array.toList_modify];exact ef0 i pw e3
  by_cases hlt:M<minRun' b.size b.size 0
  ·rw[if_pos hlt]
   refine A3 (L9 (D7 ⟨rfl,?_⟩));refine A3 (W30 C a1 (by omega) (by omega) u2 λt3 O u3=>?_);simp only[Bool.not_true,Bool.false_eq_true,if_false];obtain⟨n,hn⟩:∃n,n=min (b.size - lo) (minRun' b.size b.size 0):=⟨_,rfl⟩;rw[← hn] at u3 ⊢;have n1:1<=n:=by omega
   have n2:lo+n<=b.size:=by omega
   clear hn;obtain⟨r,J,S3,hl,ha⟩:=Y n t3 O u3 n1 n2;refine A3 (D4 ?_);cases hb:(pendingOf t3).back? with
   | none=>exact A3 (D8 (A2 ⟨lo+n,J,rfl,by omega,by omega,push n t3 r J S3 hl ha n1⟩))
   | some q =>
    obtain⟨s1,n3,pw⟩:=q;dsimp only;refine A3 (B7 (C8 (I:=λx c t=>c=(none,())/\Sv b κ cmp (r++J) lo t) (Q:=λc t=>c=(none,())/\Sv b κ cmp (r++J) lo t) (λx c t _ _ hJ=>?_) (λ_ _ hJ=>hJ) ⟨rfl,S3⟩) λc t hJ=>?_)
    ·obtain⟨e1,S4⟩:=hJ
     subst e1;refine A3 (D4 ?_)
     by_cases h1:(pendingOf t).size > 1
     ·rw[if_pos h1]
      cases hq:(pendingOf t)[(pendingOf t).size - 2]? with
      | none=>exact A2 ⟨rfl,S4⟩
      | some q =>
       obtain⟨q1,q2,Z⟩:=q;dsimp only;split
       ·exact A2 ⟨rfl,S4⟩
       ·exact A3 (vt0 C S4 (by omega) λt' S' _=>A2 ⟨rfl,S'⟩)
     ·rw[if_neg h1]
      exact A2 ⟨rfl,S4⟩
    ·obtain⟨e1,S4⟩:=hJ
     subst e1;exact A3 (D8 (A3 (D8 (A2 ⟨lo+n,J,rfl,by omega,by omega,push n _ r J (a3 _ _ _ _ S4) hl ha n1⟩))))
  ·rw[if_neg hlt]
   have n1:=r1;have n2:lo+M<=b.size:=by omega
   obtain⟨r,J,S3,hl,ha⟩:=Y M t2 a1 u2 n1 n2;refine A3 (D4 ?_);cases hb:(pendingOf t2).back? with
   | none=>exact A3 (D8 (A2 ⟨lo+M,J,rfl,by omega,by omega,push M t2 r J S3 hl ha n1⟩))
   | some q =>
    obtain⟨s1,n3,pw⟩:=q;dsimp only;refine A3 (B7 (C8 (I:=λx c t=>c=(none,())/\Sv b κ cmp (r++J) lo t) (Q:=λc t=>c=(none,())/\Sv b κ cmp (r++J) lo t) (λx c t _ _ hJ=>?_) (λ_ _ hJ=>hJ) ⟨rfl,S3⟩) λc t hJ=>?_)
    ·obtain⟨e1,S4⟩:=hJ
     subst e1;refine A3 (D4 ?_)
     by_cases h1:(pendingOf t).size > 1
     ·rw[if_pos h1]
      cases hq:(pendingOf t)[(pendingOf t).size - 2]? with
      | none=>exact A2 ⟨rfl,S4⟩
      | some q =>
       obtain⟨q1,q2,Z⟩:=q;dsimp only;split
       ·exact A2 ⟨rfl,S4⟩
       ·exact A3 (vt0 C S4 (by omega) λt' S' _=>A2 ⟨rfl,S'⟩)
     ·rw[if_neg h1]
      exact A2 ⟨rfl,S4⟩
    ·obtain⟨e1,S4⟩:=hJ
     subst e1;exact A3 (D8 (A3 (D8 (A2 ⟨lo+M,J,rfl,by omega,by omega,push M _ r J (a3 _ _ _ _ S4) hl ha n1⟩))))
 ·obtain⟨lo,rest,e1,a8,a7,S⟩:=hI
  have:lo=b.size:=by omega
  subst this;exact⟨e1,rest,S⟩
 ·obtain⟨e1,rest,S⟩:=hI
  subst e1;dsimp only;have b0:(pendingOf t).size<=b.size:=by
   obtain⟨rs,e1,e2,e3⟩:=S.rn;have:=pj0 e3;rw[Array.length_toList,e2] at this;exact this.2
  refine A3 (B7 (C8 (I:=λx c t=>c=(none,())/\Sv b κ cmp rest b.size t/\(pendingOf t).size<=max 1 (b.size - x))
   (Q:=λc t=>c=(none,())/\Sv b κ cmp rest b.size t/\(pendingOf t).size<=1) (λx c t _ hx hI=>?_) (λc t hI=>?_) ⟨rfl,S,by omega⟩) λc t hI=>?_)
  ·obtain⟨e1,S,hz⟩:=hI
   subst e1;refine A3 (D4 ?_)
   by_cases hle:(pendingOf t).size<=1
   ·rw[if_pos hle]
    exact A2 ⟨rfl,S,hle⟩
   rw[if_neg hle];refine A3 (vt0 C S ?_ λt' S' a9=>?_)
   ·exact bj0 (by omega) (by omega)
   ·exact A2 ⟨rfl,S',by omega⟩
  ·obtain⟨e1,S,hz⟩:=hI
   exact⟨e1,S,by omega⟩
  ·obtain⟨e1,S,hz⟩:=hI
   subst e1;refine A2 (k t S.gn.pm S.gn.fa ?_);obtain⟨rs,e1,e2,e3⟩:=S.rn;have hl:=(pj0 e3).1;rw[Array.length_toList] at hl;have a0:rest=[]:=by
    have:=D1 List.length e1;rw[List.length_append,e2,Array.length_toList,S.gn.pm.size_eq] at this;exact M1 (by omega)
   subst a0;rw[List.append_nil] at e1;have ha:Asc cmp (arrOf t).toList:=by
    match rs,e1,e3,hl with
    | [],e1,_,_=>rw[e1];exact List.Pairwise.nil
    | [r],e1,e3,_ =>
     rw[e1]
     match hq:(pendingOf t).toList,e3 with
     | p::ps,e3=>simpa using e3.2.2.2.1
     | [],e3=>exact e3.elim
    | _::_::_,_,_,hl=>simp at hl;omega
   intro i j x y U hj ex ey;rw[← Array.getElem?_toList] at ex ey;obtain⟨a6,rfl⟩:=A7.mp ex;obtain⟨a5,rfl⟩:=A7.mp ey;exact E4.mp ha i j a6 a5 U
end
section
variable{P:Program}{w:World}{s:Shared}
theorem cnP(hv:Prs s.heap vs)(f:Bool):Cn P w A E s (pairsOf vs) (tuples' f) (wc0 s.heap):=by
 have C:=cpP (P:=P) (w:=w) (A:=A) (E:=E) hv f;refine⟨λst x y Q hk hx hy k=>?_,C.nd,C.tr,C.to,λx _ y _ h=>?_⟩
 ·have el:∀x∈(pairsOf vs).toList,x.1∈vs:=λx hx=>by
   rw[pairsOf_toList] at hx;obtain⟨i,hi,e⟩:=E3.mp hx;rw[List.getElem_zip] at e;rw[← e];exact D5 _
  obtain⟨q,hq⟩:=hv.all _ (el x hx);obtain⟨r,hr⟩:=hv.all _ (el y hy);unfold wc0 at k;rw[wz0 hq,wz0 hr] at k;rw[lt'_eq];refine A3 (D4 ?_);rw[hk];exact A3 (L9 (Q2 (tz0 hq hr ⟨rfl,A2 k⟩)))
 ·unfold wc0 at *
  cases e:lt2 (pk s.heap y.1) (pk s.heap x.1) with
  | false=>rfl
  | true=>rw[wu0] at *;omega
theorem Zu0{F:Fin->Shared->Prop}(ho:s.heap.get? a=some (seqObj "list" vs.toArray n))(hv:Prs s.heap vs)(h64:vs.length<=sizeLine)
  (h:∀out:Array Value,out.toList.Perm vs->(out.toList.map (pk s.heap)).Pairwise (λx y=>lt2 x y=true)->F (.done (.ret .none)) { s with heap:=sortedHeap s.heap a vs out }) :
  wpAny (model P w) A (Builtin.«list.sort» ⟨[.ref a],[]⟩) F E s:=by
 rw[list_sort_plain];have la:a<s.heap.objs.size:=A6 ho;obtain⟨ep,hu⟩:∃ep,(s.heap.update a (Obj.mapSeq λ_=>#[])).get? a=some (seqObj "list" #[] ep):=⟨_,get?_update_seq ho (λ_=>#[])⟩;refine A0 (j3 ho rfl (A0 (listUpdate_at ho rfl (A0 (seqEpoch_at hu rfl (A0 (i7 (A0 (wpAny_newList (C6 ?_))))))))));obtain⟨g,J⟩:∃g,g=((s.heap.update a (Obj.mapSeq λ_=>#[])).push (seqObj "tuple" vs.toArray 0)).push (seqObj "list" #[] 0):=⟨_,rfl⟩;have a4:a≠(s.heap.update a (Obj.mapSeq λ_=>#[])).objs.size:=by rw[Heap.size_update];exact B8 la
 have h6:g.get? a=some (seqObj "list" #[] ep):=by
  rw[J,Heap.get?_push_ne _ _ _ (by rw[size_push',Heap.size_update];exact B8 (X0 la)),Heap.get?_push_ne _ _ _ a4];exact hu
 have kp:∀c o,s.heap.get? c=some o->o.cls=.type "tuple"->g.get? c=some o:=λc o e1 e2=>by
  have a5:c≠a:=λz=>by
   subst z;rw[ho] at e1;cases e1;have e3:Value.type "list"=Value.type "tuple" := e2;injection e3 with e3
   exact absurd e3 (by decide)
  rw[J];exact A8 _ (A8 _ (by rw[Heap.get?_update_ne _ _ _ _ a5];exact e1))
 obtain⟨U,Y⟩:=hv.to kp;show wpAny (model P w) A _ F E { s with heap:=((s.heap.update a (Obj.mapSeq λ_=>#[])).push (seqObj "tuple" vs.toArray 0)).push (seqObj "list" #[] 0) };rw[← J];dsimp only;have a6:vs.toArray.size=vs.length:=by simp
 have fin:∀out:Array Value,out.toList.Perm vs->(out.toList.map (pk s.heap)).Pairwise (λx y=>lt2 x y=true)->F (.done (.ret .none)) { s with heap:=g.update a (Obj.mapSeq λ_=>out) }:=λout p1 p2=>by
  rw[J];exact h out p1 p2
 by_cases h2:vs.toArray.size<2
 ·rw[if_pos h2,if_pos h2]
  refine A0 (A1 ?_);rw[StateT.run_pure];refine A0 (A1 ?_);dsimp only;refine A0 (seqEpoch_at h6 rfl (A0 (listUpdate_at h6 rfl ?_ (hsz2:=by rw[Array.size_map];show (pairsOf vs).size<=_;rw[pairsOf_size];exact Co0 h64))));simp only[bne_self_eq_false,Bool.false_eq_true,if_false];have e0:((vs.toArray.zip vs.toArray).map (·.2)).toList=vs:=by
   have:=n5 (A4 vs.length)
   simpa using this
  refine A1 (fin _ (by rw[e0]) ?_);rw[e0];refine E4.mpr λi j hi hj O=>?_
  rw[List.length_map] at hi hj;omega
 ·rw[if_neg h2,if_neg h2]
  obtain⟨v₁,v₂,r,rfl⟩:∃v₁ v₂ r,vs=v₁::v₂::r:=by
   match vs,a6,h2 with
   | [],_,h2=>simp at h2
   | [_],_,h2=>simp at h2
   | v₁::v₂::r,_,_=>exact⟨v₁,v₂,r,rfl⟩
  refine A0 (X80 (s:={ s with heap:=g }) U.all ?_);have C:=cnP (P:=P) (w:=w) (A:=A) (E:=E) (s:={ s with heap:=g }) U true;refine A0 (D6 (Yk0 C (st:=SortSt.mk' (tuples' true) ((v₁::v₂::r).toArray.zip (v₁::v₂::r).toArray) #[] 7 none)
   (Q:=λ_ t=>(arrOf t).Perm (pairsOf (v₁::v₂::r))/\failedOf t=none/\Up (wc0 g) (arrOf t) (pairsOf (v₁::v₂::r)).size)
   rfl (Array.Perm.refl _) rfl rfl (by rw[pairsOf_size];simp) λt a1 a2 a3=>⟨a1,a2,a3⟩) ?_ λ_ _ e=>e)
  rintro⟨⟨⟩,t⟩ s' ⟨es,hp,hf,a7⟩;subst es;dsimp only;refine A0 (seqEpoch_at h6 rfl (A0 (listUpdate_at h6 rfl ?_ (hsz2:=by refine C5 (U2 ((Array.size_map ..).trans (hp.size_eq.trans (pairsOf_size _)))) ?_;exact Co0 h64))));rw[hf];simp only[bne_self_eq_false,Bool.false_eq_true,if_false];have Z:(arrOf t).toList.Perm ((v₁::v₂::r).zip (v₁::v₂::r)):=by
   have:=P2.mp hp
   rwa [pairsOf_toList] at this
  have M:∀x∈(arrOf t).toList,x.1=x.2/\x.2∈v₁::v₂::r:=λx hx=>by
   have hm:=Z.mem_iff.mp hx;obtain⟨i,hi,e⟩:=E3.mp hm;rw[List.getElem_zip] at e;rw[← e];exact⟨rfl,D5 _⟩
  have e2:((arrOf t).map (·.2)).toList=(arrOf t).toList.map (·.2):=by simp
  refine A1 (fin _ ?_ ?_)
  ·rw[e2]
   have:=Z.map Prod.snd
   rwa [n5 (A4 _)] at this
  ·rw[e2,List.map_map]
   refine E4.mpr λi j hi hj O=>?_
   rw[List.length_map] at hi hj;rw[List.getElem_map,List.getElem_map];have a0:i<(arrOf t).size:=by simpa using hi
   have S:j<(arrOf t).size:=by simpa using hj
   have:=a7 i j (arrOf t)[i] (arrOf t)[j] O (by rw[← hp.size_eq];exact S) (C9 _ i a0) (C9 _ j S);have m1:=M (arrOf t)[i] (by simp);have m2:=M (arrOf t)[j] (by simp);unfold wc0 at this;rw[m1.1,m2.1,Y _ m1.2,Y _ m2.2] at this
   simpa using this
theorem gw0{l:Addr}{Q:Value->Shared->Prop}(hl:s.heap.IsList l vs.toArray)(hv:Prs s.heap vs)(h64:vs.length<=sizeLine)
  (h:∀out:Array Value,out.toList.Perm vs->(out.toList.map (pk s.heap)).Pairwise (λx y=>lt2 x y=true)->Q (.ref (s.heap.objs.size+1)) { s with heap:=sortedAll s.heap vs out }) :
  wpAny (model P w) A (call (.builtin "sorted") [.ref l]) Q E s:=by
 refine Calls.call_function_entry kind_sorted plain_sorted entry_sorted (args_sorted1 _) ?_;unfold Builtin.«sorted»;refine A0 (m:=checkCount "sorted" 1 1 _) (A1 (A0 (collect_list hl (A0 (wpAny_newList ?_)))));have M:((s.heap.push (seqObj "list" #[] 0)).update s.heap.objs.size (Obj.mapSeq (·++vs.toArray))).objs.size=s.heap.objs.size+1:=by rw[Heap.size_update,size_push']
 obtain⟨g,hg⟩:∃g,g=((s.heap.push (seqObj "list" #[] 0)).update s.heap.objs.size (Obj.mapSeq (·++vs.toArray))).push (seqObj "list" vs.toArray 0):=⟨_,rfl⟩;have J:g.get? (s.heap.objs.size+1)=some (seqObj "list" vs.toArray 0):=by
  rw[← M,hg];exact B9 _ rfl
 have kp:∀c o,s.heap.get? c=some o->o.cls=.type "tuple"->g.get? c=some o:=λc o e1 _=>by
  have lc:=A6 e1;rw[hg];refine A8 _ ?_;rw[Heap.get?_update_ne _ _ _ _ (B8 lc)];exact A8 _ e1
 obtain⟨O,S⟩:=hv.to kp;show wpAny _ _ _ _ _ { s with heap:=((s.heap.push (seqObj "list" #[] 0)).update s.heap.objs.size (Obj.mapSeq (·++vs.toArray))).push (seqObj "list" vs.toArray 0) };rw[M,← hg];refine A0 (C6 (D3 slot_list_sort ⟨_,J,rfl⟩ entry_list_sort (Zu0 (s:={ s with heap:=g }) J O h64 λout p1 p2=>⟨_,rfl,?_⟩) (args_list_sort _)));refine A1 ⟨_,rfl,?_⟩;have p3:(out.toList.map (pk s.heap)).Pairwise (λx y=>lt2 x y=true):=by
  rw[← List.map_congr_left λv hv=>S v (p1.mem_iff.mp hv)];exact p2
 have:=h out p1 p3;unfold sortedAll at this;rw[hg];exact this
end
end SoT
namespace L2
open Spec PyProof.Rows SoT
section
variable{s:Shared}
theorem lw0:CallR X (.builtin "sorted") (λxs H Q=>∃(p:Addr) (ys:List V) (ps:List (Int×Int)),xs=[.ref p]/\SqL X.K H p ys/\PrV H ys ps/\ps.Nodup/\∀l zs,H l=none->PrV H zs (srt ps)->(∀z∈zs,z∈ys)->Q (.ref l) (upd H l (.lst zs))):=by
 intro pins s σ H xs us Q I r h;obtain⟨p,ys,ps,rfl,hq,hp,hn,k⟩:=h;obtain⟨u,rfl,rx⟩:=vals1 r;cases rx;obtain⟨its,rv,pl,hz⟩:=I.list hq;obtain⟨i1,i2,i3⟩:=jv0 I rv hp;have hl:its.length=ps.length:=by rw[← i1,List.length_map]
 refine gw0 pl.isList ⟨i2,by rw[i1];exact hn⟩ (by rw[rv.length] at hz;exact hz) λJ p1 p2=>?_
 have hs:J.toList.map (pk s.heap)=srt ps:=by
  refine bf0 ?_ p2;have:=p1.map (pk s.heap)
  rwa [i1] at this
 obtain⟨zs,z1,z2,z3⟩:=py0 (H:=H) (h:=s.heap) (ys:=ys) (vs:=J.toList) λv hv=>i3 v (p1.mem_iff.mp hv)
 rw[hs] at z2;obtain⟨e,he⟩:=sortedAll_at s.heap its J;have M:H (s.heap.objs.size+1)=none:=I.hok.fresh (A90 _);refine⟨.ref (s.heap.objs.size+1),_,I.laid (t':=s.toks) (a:=s.heap.objs.size+1) (o:=.lst zs) (λb o hb=>sortedAll_old hb) (A90 _) ⟨?_,J.toList,e,z1,he⟩,rfl,k _ zs M z2 z3⟩;rw[z1.length,p1.length_eq];rw[rv.length] at hz;exact hz
end
end L2
namespace DL
open Spec PyProof.Rows L2 SoT
def vx0:List D->Option D
 | [.lst ds]=>(u70 ds).bind λps=>if ps.Nodup then some (.lst ((srt ps).map pD)) else none
 | _=>none
theorem f80{ps:List (Int×Int)}(h1:ps.Nodup):vx0 [.lst (ps.map pD)]=some (.lst ((srt ps).map pD)):=by
 show (u70 (ps.map pD)).bind _=_;rw[li0,Option.bind_some,if_pos h1]
theorem i50(hm:X.mg "sorted"=none)(hv:bootBuiltins "sorted"=some (.builtin "sorted"))(ha:PD X e g)(hg:Gl X "sorted" := by rfl)
  (he:starEach [e] X.env=(false,eval e X.env)::starEach [] X.env:=by rfl) (hpl:(backTo pos (starEach [] X.env)).any (·.1)=false:=by rfl) :
  PDF X (.Call (.Name "sorted" p) [e] [] pos) (oA (z9 g v7) vx0):=.mk λB δ=>(td0 lw0 hg hm hv (zn0 (ha B δ) wm0 he) (by decide) (by decide) he hpl).imp fun σ H Q ⟨d,en,h,k⟩=>by
 unfold oA z9 v7 at h;cases e1:g δ with
 | none=>rw[e1] at h;cases h
 | some x =>
  rw[e1] at h;simp only[Option.bind_some,Option.map_some] at h;refine⟨x,en,e1,λv H1 s1 r1=>?_⟩;unfold vx0 at h;split at h
  ·rename_i ds he1
   injection he1 with he1
   subst he1;cases e2:u70 ds with
   | none=>rw[e2] at h;cases h
   | some ps =>
    rw[e2] at h;simp only[Option.bind_some] at h;split at h
    ·rename_i hz
     cases h;rw[X7] at r1;obtain⟨q,ys,rfl,hq,rr⟩:=r1;obtain⟨v1,v2⟩:=j60 rr e2;refine⟨q,ys,ps,rfl,hq.to,v1,hz,λl zs J M O=>?_⟩;refine k l _ (s1.free J) (s1.trans (Y7 J)) ⟨zs,Z4,?_⟩;refine Rps.same (Y7 J) (h90 M λz hz=>?_);obtain⟨a,rfl,nb⟩:=v2 z (O z hz);refine⟨a,rfl,λq=>q.elim nb λq=>?_⟩;subst q;exact nk0 M hz J
    ·cases h
  ·cases h
end DL
namespace DL
open Spec PyProof.Rows L2
def to0(i j:Nat)(gx:GX)(f:List D->Option D):GX:=fun δ=>(gv i δ).bind λ_=>(gv j δ).bind λ_=>(gx δ).bind λr=>(gv i r.2).bind λa=>(gv j r.2).bind λb=>(f [a,b,r.1]).map λd=>(d,r.2)
section
variable{py:Pos}
theorem d50{k:Nat}{ps:List Str}{z x y:Str}{f:List D->Option D}(i j:Nat)(C:FnD X.prog X.w X.K X.mg X.base z k ps f)(hr:Room m X.A)(hk:k<=m)(h:PX X e gx)
  (hN:X.N[i]?=some x:=by rfl) (hv:Vis X.env.scope x:=by first|exact Or.inl rfl|exact Or.inr (Or.inl rfl)|exact Or.inr (Or.inr rfl)) (hd:(x==("__debug__" : Str))=false:=by decide) (hcd:(x==("__classdict__" : Str))=false:=by decide)
  (hN2:X.N[j]?=some y:=by rfl) (hv2:Vis X.env.scope y:=by first|exact Or.inl rfl|exact Or.inr (Or.inl rfl)|exact Or.inr (Or.inr rfl)) (hd2:(y==("__debug__" : Str))=false:=by decide) (hcd2:(y==("__classdict__" : Str))=false:=by decide)
  (hg:Gl X z:=by rfl) (hdb:(z==("__debug__" : Str))=false:=by decide)
  (he1:starEach [.Name x px,.Name y py,e] X.env=(false,eval (.Name x px) X.env)::starEach [.Name y py,e] X.env:=by rfl) (he2:starEach [.Name y py,e] X.env=(false,eval (.Name y py) X.env)::starEach [e] X.env:=by rfl) (he3:starEach [e] X.env=(false,eval e X.env)::starEach [] X.env:=by rfl)
  (hpl:(backTo pos (starEach [.Name y py,e] X.env)).any (·.1)=false:=by rfl):PX X (.Call (.Name z p) [.Name x px,.Name y py,e] [] pos) (to0 i j gx f):=.mk λH₀ B₀ δ pins s σ H Q I ⟨r,en,e1,k⟩=>by
 obtain⟨fa,fd,F,hm,kp,hb⟩:=C;unfold to0 at e1;obtain⟨B,b1,b2,env⟩:=en.ex;cases a1:gv i δ with
 | none=>rw[a1] at e1;cases e1
 | some d1 =>
 cases a2:gv j δ with
 | none=>rw[a1,a2] at e1;cases e1
 | some d2 =>
 cases a3:gx δ with
 | none=>rw[a1,a2,a3] at e1;cases e1
 | some r' =>
 rw[a1,a2,a3] at e1;simp only[Option.bind_some] at e1;cases a4:gv i r'.2 with
 | none=>rw[a4] at e1;cases e1
 | some c1 =>
 cases a5:gv j r'.2 with
 | none=>rw[a4,a5] at e1;cases e1
 | some c2 =>
 rw[a4,a5] at e1;simp only[Option.bind_some] at e1;cases a6:f [c1,c2,r'.1] with
 | none=>rw[a6] at e1;cases e1
 | some d =>
 rw[a6] at e1;cases e1;obtain⟨v1,s1,_⟩:=env.get (si0 a1);obtain⟨v2,s2,_⟩:=env.get (si0 a2);refine uz0 (E:=E0) F (hr.mono hk) hg hm kp hb .nil p80 (zn0 (ys0 (i:=i) hN hv hd hcd) (zn0 (ys0 (i:=j) hN2 hv2 hd2 hcd2) (zn0 (h H₀ B₀ δ) wm0 he3) he2) he1) hdb he1 hpl pins s σ H Q I
  ⟨v1,s1,v2,s2,r',en,a3,λv H1 ev=>?_⟩
 obtain⟨B2,q1,q2,J,rv⟩:=ev.ex;obtain⟨w1,t1,r1⟩:=J.get (si0 a4);obtain⟨w2,t2,r2⟩:=J.get (si0 a5);rw[s1] at t1;rw[s2] at t2;cases t1;cases t2;show spD X.K f [v1,v2,v] H1 Q E0;refine⟨B2,[c1,c2,r'.1],d,J.bad,?_,a6,λv' H' s' M=>k v' H' (EnvV.mk' (ev.s.grow s') q1 q2 (J.same s') M)⟩;rw[o7];refine⟨_,_,rfl,r1,?_⟩;rw[o7];refine⟨_,_,rfl,r2,?_⟩;rw[o7];exact⟨_,_,rfl,rv,by rw[m9]⟩
end
end DL
namespace RawD
open PyProof.Rows PySem.W
def At(d:Addr)(es:Array DictEntry)(ep:Nat)(h:Heap):Prop:=∃o,h.get? d=some o/\o.ExactDict/\o.data=.dict es ep
section
variable{P:Program}{w:World}{s:Shared}{d:Addr}{es:Array DictEntry}{ep:Nat}
theorem At.ty(x:At d es ep s.heap):s.TypeIs (.ref d) "dict" := by obtain⟨o,e,c,_⟩:=x;exact⟨o,e,c.1⟩
theorem At.lt{h:Heap}(x:At d es ep h):d<h.objs.size:=by obtain⟨o,e,_⟩:=x;exact A6 e
theorem At.to{h:Heap}(x:At d es ep h)(k:∀o,h.get? d=some o->h'.get? d=some o):At d es ep h':=by obtain⟨o,e,r⟩:=x;exact⟨o,k o e,r⟩
theorem fx0{Q:Value->Shared->Prop}(lo:(d==sysModules)=false)(x:At d es ep s.heap)
  (k:Q (.ref s.heap.objs.size) { s with heap:=s.heap.push { cls:=.type "dict_keyiterator",data:=.fields #[.ref d,.int 0 0,.int es.size 0,.int ep 0] } }):wpAny (model P w) A (pyIter (.ref d)) Q E s:=by
 have ty:=x.ty;obtain⟨o,e,c,da⟩:=x;refine wpAny_pyIter_slot ty F.slot_dict_iter (D3 F.slot_dict_iter ty F.entry_dict_iter ?_ (F.args_dict_iter_1 _));unfold Builtin.«dict.__iter__»;refine A0 ?_;unfold Builtin.Dict.dictSlotNone;refine A0 (wpAny_notOrdered_dict ty ?_);show wpAny _ _ (pure (Value.ref d)) _ _ s;refine A1 ?_;show wpAny _ _ (Builtin.Dict.showsAll d>>=_) _ _ s;unfold Builtin.Dict.showsAll;rw[if_neg (by rw[lo];decide)];refine A0 (A1 (A0 (Ae0 e da (A0 (Af0 e da (A0 (K0 (A1 ⟨_,rfl, "dict_keyiterator",_,⟨_,B9 _ rfl,rfl⟩,X9.lookup,?_⟩))))))))
 simpa [rawInt] using k
theorem en0{Q:Option Value->Shared->Prop}(hi:s.heap.IsKeyIter it d i es.size ep)(x:At d es ep s.heap)(hl:i<es.size)
  (k:∀h',h'.IsKeyIter it d (i+1) es.size ep->Heap.SameBut it s.heap h'->Q (some es[i].key) { s with heap:=h' }):wpAny (model P w) A (pyNext (.ref it)) Q E s:=by
 have ti:=hi.typeIs;obtain⟨u,eu,cu,du⟩:=hi;obtain⟨o,e,c,da⟩:=x;unfold pyNext;refine A0 (Q2 (E6 (name:=Str.ofString "__next__") ti X9 (D3 X9 ti Cq0 ?_ (Cr0 _))));refine A0 (A1 (A0 (A0 ?_)));refine A0 (n9 ti (A1 (A0 (wpAny_fieldsOf eu du ?_))));simp only[show Builtin.Dict_items.ownsTuple "dict_keyiterator"=false from by decide,Bool.false_eq_true,if_false];show wpAny _ _ (if (Value.ref d==.none)=true then _ else _) _ _ s;rw[if_neg (show ¬(Value.ref d==.none)=true by simp)];refine A0 (A1 (A0 (Ae0 e da ?_)));rw[if_neg (by simp)];refine A0 (A1 (A0 (Af0 e da ?_)));rw[if_neg (by simp)];refine A1 ?_;simp only[show ¬(i:Int)<0 by omega,if_false,Int.toNat_natCast,Array.getElem?_eq_getElem hl];refine A0 (A0 (n9 ti (A1 (A0 (wpAny_isOneOf_keyiter ti ?_)))));show wpAny _ _ (setField (.ref it) 1 (rawInt ((i:Int)+1))>>=_) _ _ s;refine A0 (wpAny_setField eu du (by simp) ?_);have J:(s.heap.update it (Obj.mapFields (·.setIfInBounds 1 (rawInt ((i:Int)+1))))).IsKeyIter it d (i+1) es.size ep :=
  ⟨_,h8 _ eu (Obj.isFreed_of_fields (Obj.data_mapFields du _)),(Obj.cls_mapFields ..).trans cu,by rw[Obj.data_mapFields du];simp[rawInt]⟩
 refine A0 (C6 (A0 (wpAny_isOneOf_keyiter (s:={ s with heap:=s.heap.update it (Obj.mapFields (·.setIfInBounds 1 (rawInt ((i:Int)+1)))) }) J.typeIs ?_)));show wpAny _ _ (pure es[i].key) _ _ _;exact A1 (A1 ⟨_,rfl,A1 (k _ J (P1 ..))⟩)
theorem by0{Q:Option Value->Shared->Prop}(hh:A.handled=none)(hi:s.heap.IsKeyIter it d i es.size ep)(x:At d es ep s.heap)(hl:es.size<=i)
  (k:∀h',Heap.ExtBut it s.heap h'->Q none { s with heap:=h' }):wpAny (model P w) A (pyNext (.ref it)) Q E s:=by
 have ti:=hi.typeIs;obtain⟨u,eu,cu,du⟩:=hi;obtain⟨o,e,c,da⟩:=x;unfold pyNext;refine A0 (Q2 (E6 (name:=Str.ofString "__next__") ti X9 (D3 X9 ti Cq0 ?_ (Cr0 _))));refine A0 (A1 (A0 (A0 ?_)));refine A0 (n9 ti (A1 (A0 (wpAny_fieldsOf eu du ?_))));simp only[show Builtin.Dict_items.ownsTuple "dict_keyiterator"=false from by decide,Bool.false_eq_true,if_false];show wpAny _ _ (if (Value.ref d==.none)=true then _ else _) _ _ s;rw[if_neg (show ¬(Value.ref d==.none)=true by simp)];refine A0 (A1 (A0 (Ae0 e da ?_)));rw[if_neg (by simp)];refine A0 (A1 (A0 (Af0 e da ?_)));rw[if_neg (by simp)];refine A1 ?_;simp only[show ¬(i:Int)<0 by omega,if_false,Int.toNat_natCast,Array.getElem?_eq_none hl];refine A0 (A0 (n9 ti (A1 ?_)));show wpAny _ _ (setField (.ref it) 0 .none>>=_) _ _ s;refine A0 (wpAny_setField eu du (by simp) ?_);show wpAny _ _ (newExc (.type "StopIteration") []>>=_) _ _ _;refine A0 ?_;simp only[newExc,newTuple];refine A0 (K0 (A0 (m:=firstArgMember _ _) (wpAny_of_eq (a:=Value.none) (by first|rfl|(simp only[firstArgMember];rfl)) (K0 ?_ (by size_fits)))) (by size_fits));simp only[raiseNew];refine A0 (wpAny_handled ?_);rw[show A.in1.handled=none from hh];refine A0 (A1 (wpAny_throw ?_));refine A0 (A80 (b:=true) (T := "StopIteration") ⟨_,B9 _ rfl,rfl⟩ isSubtype_stop (A1 (k _ ?_)));exact((P1 ..).extBut.push _).push _
theorem Xh0(hh:A.handled=none)(ne:d≠it):Walks P w A it [it,d] [it] es.size (λi v=>∃e,es[i]?=some e/\v=e.key) (λi h=>h.IsKeyIter it d i es.size ep/\At d es ep h) where
 sub:=λb hb=>by simp at hb;simp[hb]
 frame:=λ_ _ _ st hk=>⟨st.1.at λo e=>hk it (by simp) o e,st.2.to λo e=>hk d (by simp) o e⟩
 item:=λi s Q E hi st hQ=>en0 st.1 st.2 hi λh' J sb=>hQ _ h' s.toks ⟨es[i],C9 es i hi,rfl⟩ ⟨J,st.2.to λo e=>sb.extBut d o ne e⟩ λb o hb e=>sb.extBut b o (λh=>hb (by simp[h])) e
 done:=λs Q E st hQ=>by0 hh st.1 st.2 (A4 _) λh' M=>hQ h' s.toks λb o hb e=>M b o (λh=>hb (by simp[h])) e
 self:=λ_ _ _ _ st hQ=>wpAny_pyIter_keyiter st.1 hQ
theorem src(lo:(d==sysModules)=false):KdlSrc P w "dict" d d es.size (λi v=>∃e,es[i]?=some e/\v=e.key) (At d es ep) where
 type:=λ_ x=>x.ty
 there:=λ_ x=>⟨x.lt,x.lt⟩
 keep:=λ_ _ x hk=>x.to λo e=>hk d (.inl rfl) o e
 notList:=by decide
 notTuple:=by decide
 hint:=λ_ _ _ _ x hq=>kdl_hint_dict x.ty hq
 iter:=λ_ _ hh x=>⟨_,_,(λ_ _ hq=>fx0 lo x hq),Xh0 hh (B8 x.lt),⟨⟨_,B9 _ rfl,rfl,rfl⟩,x.to λo e=>A8 _ e⟩⟩
end
end RawD
namespace L2
open Spec PyProof.Rows
def KyV(H:Hp):List (List Key)->List V->Prop
 | [],[]=>True
 | k::ks,v::vs=>(∃b,v=.ref b/\H b=some (.tup (k.map kV)))/\KyV H ks vs
 | _,_=>False
theorem k40(hc:X.calm=true:=by rfl):CallR X (.type "list") (λxs H Q=>∃(d:Addr) (kvs:List (List Key×V)),xs=[.ref d]/\H d=some (.dT kvs)/\∀l ys,H l=none->KyV H (kvs.map (·.1)) ys->Q (.ref l) (upd H l (.lst ys))):=by
 intro pins s σ H xs us Q I r h;obtain⟨d,kvs,rfl,e,k⟩:=h;obtain⟨u,rfl,rx⟩:=vals1 r;cases rx;obtain⟨z,hd,zs,O,o,es,ep,h1,h2,h3,h4,h5⟩:=(show ObjOk X.prog X.w H s.heap d (.dT kvs) from I.hok d _ e);have hl:=O.length;have S:es.size=kvs.length:=by rw[← Array.length_toList,h4,List.length_map,hl]
 have ky:∀{a:List (List Key×V)} {b:List (List Key×Addr×Value)},Paired (λ(p:List Key×V) (q:List Key×Addr×Value)=>p.1=q.1/\H q.2.1=some (.tup (p.1.map kV))/\RelV p.2 q.2.2) a b->KyV H (a.map (·.1)) (b.map λq=>V.ref q.2.1):=by
  intro a b q
  induction q with
  | nil=>trivial
  | cons q t ih=>exact⟨⟨_,rfl,q.2.1⟩,ih⟩
 refine W.kdl_call (RawD.src (es:=es) (ep:=ep) hd) (I.ok.hd hc) ⟨o,h1,h2,h3⟩ (by rw[S];exact z) λh' tk J c' hk hS M=>?_
 have hv:Vals (zs.map λq=>V.ref q.2.1) J.toList:=by
  have e1:J.toList=zs.map λq=>Value.ref q.2.1:=by
   refine Ab0 λi=>?_
   cases hq:J.toList[i]? with
   | none =>
    rw[List.getElem?_eq_none_iff,Array.length_toList,M.1,S] at hq;rw[List.getElem?_eq_none (by rw[List.length_map];omega)]
   | some v =>
    obtain⟨en,e2,e3⟩:=M.2 i v (by rw[← Array.getElem?_toList];exact hq);rw[← Array.getElem?_toList,h4,List.getElem?_map] at e2;rw[List.getElem?_map];cases hz:zs[i]? with
    | none=>rw[hz] at e2;cases e2
    | some q=>rw[hz] at e2;cases e2;rw[e3];rfl
  rw[e1];have:∀l:List (List Key×Addr×Value),Vals (l.map λq=>V.ref q.2.1) (l.map λq=>Value.ref q.2.1):=λl=>by
   induction l with
   | nil=>exact .nil
   | cons q l ih=>exact .cons rfl ih
  exact this zs
 refine⟨.ref s.heap.objs.size,_,I.laid (t':=tk) hk (A4 _) (show ObjOk X.prog X.w _ h' _ (.lst _) from ⟨?_,J.toList,c',hv,hS⟩),rfl,k _ _ (I.hok.fresh (A4 _)) (ky O)⟩;rw[List.length_map,← hl];exact z
end L2
namespace DL
open Spec PyProof.Rows L2
def kD:J2->D
 | .inl i=>.int i
 | .inr x=>.str x
def ktD(k:List J2):D:=.tup (k.map kD)
def u40:List D->Option D
 | [.dct (.inr ks) _]=>some (.lst (ks.map ktD))
 | _=>none
theorem sf0:∀k:List J2,Rps K H B (k.map kD) (k.map kV)
 | []=>by rw[List.map_nil,List.map_nil,m9]
 | .inl i::k=>by rw[List.map_cons,List.map_cons,o7];exact⟨_,_,rfl,by unfold kD;rw[m8];rfl,sf0 k⟩
 | .inr i::k=>by rw[List.map_cons,List.map_cons,o7];exact⟨_,_,rfl,by unfold kD;rw[Y5];rfl,sf0 k⟩
theorem i40(hb:∀a,B a->NB (H a)):∀{ks:List (List J2)} {ys:List V},KyV H ks ys->Rps K H B (ks.map ktD) ys
 | [],[],_=>by rw[List.map_nil,m9]
 | [],_::_,h=>h.elim
 | _::_,[],h=>h.elim
 | k::ks,y::ys,h=>by
  obtain⟨⟨b,rfl,e⟩,h2⟩:=h;rw[List.map_cons,o7];refine⟨_,_,rfl,?_,i40 hb h2⟩;unfold ktD;rw[X3];exact⟨b,_,rfl,⟨λz=>(hb b z).nt _ e,e⟩,sf0 k⟩
theorem f60:FnR K (λxs H Q=>∃(d:Addr) (kvs:List (List Key×V)),xs=[.ref d]/\H d=some (.dT kvs)/\∀l ys,H l=none->KyV H (kvs.map (·.1)) ys->Q (.ref l) (upd H l (.lst ys))) u40:=by
 intro H B xs ds d Q hb r h k;unfold u40 at h;split at h
 ·cases h
  obtain⟨v,rfl,r1⟩:=zm0 r;rw[uy0] at r1;obtain⟨p,ys,rfl,_,hp,hl,rr⟩:=r1;refine⟨p,_,rfl,hp,λl zs J hk=>k _ _ (Y7 J) ?_⟩;rw[List.map_fst_zip (U2 hl)] at hk;exact ri0 hb J (i40 hb hk)
 ·cases h
end DL
namespace L2
open Spec PyProof.Rows PySem.W
def Itd(d:Addr)(n:Nat):It :=
 ⟨λi H=>i<n/\∃kvs,H d=some (.dT kvs)/\kvs.length=n,
   λi H x H'=>H'=H/\∀kvs,H d=some (.dT kvs)->∃b p,x=.ref b/\kvs[i]?=some p/\H b=some (.tup (p.1.map kV)),
   λi H=>n<=i/\∃kvs,H d=some (.dT kvs)/\kvs.length=n⟩
theorem ni0{σ:St}{s:Shared}{d:Addr}(I:Inv X pins σ H s)(e:H d=some (.dT kvs)) :
  (d==sysModules)=false/\∃es,RawD.At d es kvs.length s.heap/\es.size=kvs.length/\∀i (hi:i<es.size),∃b p,es[i].key=.ref b/\kvs[i]?=some p/\H b=some (.tup (p.1.map kV)):=by
 obtain⟨z,hd,zs,J,o,es,ep,h1,h2,h3,h4,h5,h6⟩:=(show ObjOk X.prog X.w H s.heap d (.dT kvs) from I.hok d _ e);have hl:=J.length;have M:es.size=kvs.length:=by rw[← Array.length_toList,h4,List.length_map,hl]
 rw[M] at h6;subst h6;refine⟨hd,es,⟨o,h1,h2,h3⟩,M,λi hi=>?_⟩;have e1:es[i]?=some es[i]:=C9 es i hi;rw[← Array.getElem?_toList,h4,List.getElem?_map] at e1;cases hz:zs[i]? with
 | none=>rw[hz] at e1;cases e1
 | some q =>
  rw[hz] at e1;have e2:=B4 e1;obtain⟨p,ep,q1,q2,_⟩:=DL.Pd.get J hz;exact⟨q.2.1,p,by rw[← e2];rfl,ep,q2⟩
theorem cn0{P:Program}{w:World}(d it:Addr)(n:Nat):Turn P w K tg (Itd d n) [it] it (λi h=>h.IsKeyIter it d i n n) where
 mem:=by simp
 obj:=λi h st b hb=>by
  have e:b=it:=by simpa using hb
  subst e;obtain⟨o,e,c,da⟩:=st;exact⟨o,e,λv z=>by rw[da] at z;cases z⟩
 keep:=λi h h' st k=>st.at λo e=>k it (by simp) o e
 item:=by
  intro X hP hw hK hc i pins s σ H E I hf st hg;subst hP hw hK;obtain⟨hi,kvs,hd,hn⟩:=hg;obtain⟨_,es,ha,hs,hk⟩:=ni0 I hd;obtain⟨f0,f1,f2,f3,f4,f5⟩:=hf it (by simp);have M:i<es.size:=by omega
  rw[← hn] at st;rw[← hs] at st ha;refine RawD.en0 st ha M λh' J sb=>?_
  have I1:Inv X pins σ H { s with heap:=h' }:=I.turned (t':=s.toks) (λb o hb e=>(sb.2 b hb).trans e) f0 f1 f3 f4 f5;rw[hs,hn] at J;obtain⟨o,e,c,da⟩:=id J;obtain⟨b,p,q1,q2,q3⟩:=hk i M;refine⟨_,rfl,p90 (s:={ s with heap:=h' }) e c da (by decide) ⟨.ref b,H,I1,q1,⟨rfl,λks z=>?_⟩,J,λb hb=>(hf b hb).1⟩⟩;rw[hd] at z;cases z;exact⟨b,p,rfl,q2,q3⟩
 done:=by
  intro X hP hw hK hc i pins s σ H E I hf st hg;subst hP hw hK;obtain⟨hi,kvs,hd,hn⟩:=hg;obtain⟨_,es,ha,hs,hk⟩:=ni0 I hd;obtain⟨f0,f1,f2,f3,f4,f5⟩:=hf it (by simp);rw[← hn] at st;rw[← hs] at st ha;exact RawD.by0 (I.ok.hd hc) st ha (by omega) λh' eb=>⟨rfl,I.turned (t':=s.toks) (λb o hb e=>eb b o hb e) f0 f1 f3 f4 f5⟩
 self:=λ_ _ _ _ _ st h=>wpAny_pyIter_keyiter st h
def iDT(tl:TE):TI:=fun σ H R=>tl σ H λx H1=>∃a kvs,x=.ref a/\H1 a=some (.dT kvs)/\R (Itd a kvs.length) H1
theorem Xf0{l:Expr}{tl:TE}(hl:PE X l tl):PI X tg l (iDT tl):=by
 intro pins s σ H R I h;refine thn (hl pins s σ H _ I h) λv s1 ⟨x,H1,I1,r1,q1⟩=>?_
 obtain⟨a,kvs,e,hq,q⟩:=q1;subst e;cases r1;obtain⟨hd,es,ha,hs,hk⟩:=ni0 I1 hq;refine RawD.fx0 hd ha ?_;rw[hs];refine⟨s1.heap.objs.size,[s1.heap.objs.size],_,_,H1,rfl,I1.kept (t':=s1.toks) λb o e=>A8 _ e,cn0 a _ kvs.length,⟨_,B9 _ rfl,rfl,rfl⟩,λb hb=>?_,q⟩;have e:b=s1.heap.objs.size:=by simpa using hb
 subst e;exact I1.fpOk (A4 _) (I1.hok.fresh (A4 _))
end L2
namespace DL
open Spec PyProof.Rows L2
def kq0(g:GE):GA:=fun δ=>(g δ).bind λd=>match d with
 | .dct (.inr ks) _=>some (ks.map ktD)
 | _=>none
theorem er0{g:GE}(h:PD X e g):PID X tg e (kq0 g):=.mk λB δ=>L2.PI.imp (Xf0 (h B δ)) fun σ H R ⟨items,en,e1,k⟩=>by
 unfold kq0 at e1;cases e2:g δ with
 | none=>rw[e2] at e1;cases e1
 | some d =>
  rw[e2] at e1;simp only[Option.bind_some] at e1;split at e1<;>try cases e1
  rename_i ks ds;refine⟨_,en,e2,λv H' s' r=>?_⟩;rw[uy0] at r;obtain⟨p,ys,rfl,nb,hp,hl,rr⟩:=r;have hz:(ks.zip ys).length=ks.length:=by rw[List.length_zip,← hl,Nat.min_self]
  refine⟨p,_,rfl,hp,k _ H' s' ⟨λi H2 g2 hi=>?_,λi H2 x H3 g2 y hi=>?_,λi H2 g2 hi=>?_⟩⟩
  ·rw[List.length_map] at hi
   exact⟨by omega,_,(g2 _ _ nb hp).2,rfl⟩
  ·obtain⟨e3,y⟩:=y
   subst e3;obtain⟨b,q,rfl,hq,hb⟩:=y _ (g2 _ _ nb hp).2;rw[List.length_map] at hi;have hk:ks[i]?=some q.1:=by
    obtain⟨h1,_⟩:=S1.mp (show (ks.zip ys)[i]?=some (q.1,q.2) from hq);exact h1
   refine⟨Same.refl _,ktD q.1,by rw[List.getElem?_map,hk];rfl,λB' gB J=>?_⟩;unfold ktD;rw[X3];exact⟨b,_,rfl,⟨λz=>(J b z).nt _ hb,hb⟩,sf0 _⟩
  ·rw[List.length_map] at hi
   exact⟨by omega,_,(g2 _ _ nb hp).2,rfl⟩
section
open Classical in
theorem Zy0{s:Shared}{σ:L2.St}(I:Inv X pins σ H s){dx:D}{x:V}(hu:A.units+50<cLine)(hx:Rp X.K H B dx x)(rx:RelV x v)(hs:Rps X.K H B' ds xs)(rv:Vals xs its)(lx:lean dx 50=true)(ls:leans ds 50=true) :
  ∃f:Value->Bool,(∀w∈its,SeqAt.EqAt A s w v (f w))/\its.any f=ds.any λd=>deq d dx:=by
 have J:∀j w,its[j]?=some w->∃d,ds[j]?=some d/\SeqAt.EqAt A s w v (deq d dx):=λj w hw=>by
  have hj:j<its.length:=(A7.mp hw).1;have l1:=rv.length;have l2:=hs.length;obtain⟨y,ey,ry⟩:=hs.get (i:=j) (B6 (by omega:j<ds.length));obtain⟨u,eu,ru⟩:=rv.get ey;rw[hw] at eu;cases eu;exact⟨_,B6 (by omega),oo0 I 50 50 _ _ _ _ _ _ A hu (wa0 ls (B6 (by omega))) lx ry hx ru rx⟩
 refine⟨λw=>decide (∃(j:Nat) (d:D),its[j]?=some w/\ds[j]?=some d/\deq d dx=true),λw hw=>?_,?_⟩
 ·obtain⟨j,hj⟩:=Cx0.mp hw
  dsimp only
  by_cases h:∃(j:Nat) (d:D),its[j]?=some w/\ds[j]?=some d/\deq d dx=true
  ·rw[decide_eq_true h]
   obtain⟨i,d,e1,e2,e3⟩:=h;obtain⟨d',e4,q⟩:=J i w e1;rw[e2] at e4;cases e4;rw[e3] at q;exact q
  ·rw[decide_eq_false h]
   obtain⟨d',e4,q⟩:=J j w (by assumption);cases e5:deq d' dx with
   | true=>exact absurd ⟨j,d',by assumption,e4,e5⟩ h
   | false=>rw[e5] at q;exact q
 ·rw[Bool.eq_iff_iff,List.any_eq_true,List.any_eq_true]
  constructor
  ·rintro⟨w,_,h⟩
   obtain⟨j,d,_,e2,e3⟩:=Ag0 h;exact⟨d,B0 e2,e3⟩
  ·rintro⟨d,hd,h⟩
   obtain⟨j,hj⟩:=Cx0.mp hd;have l1:=rv.length;have l2:=hs.length;have M:j<its.length:=by have:=(A7.mp hj).1;omega
   exact⟨its[j],D5 M,S2 ⟨j,d,B6 M,hj,h⟩⟩
end
end DL
namespace DL
open Spec PyProof.Rows L2
def orS(G1 G2:GS):GS:=fun δ=>match G1 δ with
 | some r=>some r
 | none=>G2 δ
section
variable{G1 G2:Ds->Option Res}
theorem bq0(h1:PSD X st G1)(h2:PSD X st G2):PSD X st (orS G1 G2):=.mk λH₀ B₀ δ=>by
 cases e:G1 δ with
 | some r =>
  have:orS G1 G2 δ=G1 δ:=by unfold orS;rw[e]
  intro pins s σ H Q I h;refine h1 H₀ B₀ δ pins s σ H Q I ?_;unfold tDS at h ⊢;rw[this] at h;exact h
 | none =>
  have:orS G1 G2 δ=G2 δ:=by unfold orS;rw[e]
  intro pins s σ H Q I h;refine h2 H₀ B₀ δ pins s σ H Q I ?_;unfold tDS at h ⊢;rw[this] at h;exact h
end
def isLs(H:Hp)(a:Addr):Prop:=∃xs,Rd H a (.lst xs)
theorem isLs.nt(h:isLs H a):∀ys,H a≠some (.tup ys):=by
 obtain⟨xs,h|⟨o,h⟩⟩:=h<;>intro ys z<;>rw[h] at z<;>cases z
theorem isLs.nb(h:isLs H a):NB (H a):=by
 obtain⟨xs,h|⟨o,h⟩⟩:=h<;>rw[h]
 ·exact⟨(λz=>nomatch z),(λ_ _ z=>nomatch z),λ_ z=>nomatch z⟩
 ·exact⟨(λz=>nomatch z),(λ_ _ z=>by cases z;exact⟨_,rfl⟩),λ_ z=>nomatch z⟩
theorem isLs.new{p:Addr}(s:Same H H')(sq:SqL' K H' B p xs)(_:isLs H p->B p∨isLs H p):(H' p=some (.lst xs)∨isLs H p)/\(H p=none∨isLs H p):=by
 obtain⟨nb,h⟩:=sq.at;refine⟨h.imp id λ⟨o,h⟩=>⟨xs,.inr ⟨o,s.nf _ _ _ h⟩⟩,?_⟩;cases e:H p with
 | none=>exact .inl rfl
 | some u =>
  right;have:=s _ _ e;rcases h with h|⟨o,h⟩
  ·rw[h] at this;cases this;exact⟨xs,.inl e⟩
  ·rw[h] at this;cases this;exact⟨xs,.inr ⟨o,e⟩⟩
def fT(f:List D->Option D):List D->Option D:=λds=>if trees ds=true then match f ds with
 | some (.lst es)=>if flats es=true then some (.lst es) else none
 | _=>none else none
theorem b00{k:Nat}{ps:List Str}{f:List D->Option D}(C:FnD X.prog X.w X.K X.mg X.base x k ps f)(hr:Room m X.A)(hk:k<=m)(ha:PDA X (e::es) gA)(hg:Gl X x:=by rfl)(hdb:(x==("__debug__" : Str))=false:=by decide)
  (he:starEach (e::es) X.env=(false,eval e X.env)::starEach es X.env:=by rfl) (hpl:(backTo pos (starEach es X.env)).any (·.1)=false:=by rfl):PDF X (.Call (.Name x p) (e::es) [] pos) (oA gA (fT f)):=by
 obtain⟨fa,fd,F,hm,kp,hb⟩:=C;exact .mk λB δ=>(uz0 (E:=E0) F (hr.mono hk) hg hm kp hb .nil p80 (ha B δ) hdb he hpl).imp fun σ H Q h=>by
  obtain⟨d,en,h,k⟩:=h;unfold oA at h;cases e1:gA δ with
  | none=>rw[e1] at h;cases h
  | some ds =>
   rw[e1] at h;simp only[Option.bind_some] at h;unfold fT at h;split at h
   ·rename_i hn
    split at h
    ·rename_i zs ez
     split at h
     ·rename_i hf
      cases h;refine⟨ds,en,e1,λvs H1 s1 r1=>?_⟩;show spD X.K f (vs++[]) H1 Q E0;rw[List.append_nil];refine⟨λa=>B a∨isLs H1 a,ds,_,λa z=>?_,tg0 (λa z=>z.imp id isLs.nt) _ _ hn r1,ez,λv H' s r=>?_⟩
      ·exact z.elim ((en.same s1).bad a) isLs.nb
      ·rw[X7] at r
       obtain⟨q,xs,rfl,sq,rr⟩:=r;obtain⟨hq,h1⟩:=isLs.new s sq λz=>.inr z
       exact k q H' (s1.free (h1.resolve_right λz=>sq.at.1 (.inr z))) (s1.trans s) ⟨xs,hq.resolve_right λz=>sq.at.1 (.inr z),yp0 hf rr⟩
     ·cases h
    ·cases h
   ·cases h
def G6:Sl->Bool
 | .un=>true
 | .sh d=>tree d
 | _=>false
def restOk(i:Nat)(δ:Ds):Bool:=(δ.set i .un).all G6
theorem wt0{s:Sl}(h:restOk i δ=true)(ne:j≠i)(e:δ[j]?=some s):G6 s=true:=by
 unfold restOk at h;rw[List.all_eq_true] at h;refine h s (B0 (i:=j) ?_);rw[List.getElem?_set_ne (C1 ne)];exact e
def lt0(i:Nat):Res->Option Res
 | .nx δ=>match δ[i]? with
  | some (.sh (.lst l))=>if flats l=true/\restOk i δ=true then some (.nx (δ.set i (.ow (.lst l)))) else none
  | _=>none
 | .rt d=>some (.rt d)
 | _=>none
def sj0(i:Nat)(G:GS):GS:=fun δ=>match δ[i]? with
 | some (.ow (.lst l))=>if flats l=true/\restOk i δ=true then (G (δ.set i (.sh (.lst l)))).bind (lt0 i) else none
 | _=>none
theorem gv0(i:Nat)(h:PSD X st G):PSD X st (sj0 i G):=.mk λH₀ B₀ δ pins s σ H De I ⟨r',en,hq,k⟩=>by
 unfold sj0 at hq;split at hq
 ·rename_i l hi
  split at hq
  ·rename_i hc
   obtain⟨hf,Y⟩:=hc;cases e1:G (δ.set i (.sh (.lst l))) with
   | none=>rw[e1] at hq;cases hq
   | some r =>
    rw[e1] at hq;simp only[Option.bind_some] at hq;obtain⟨B,b1,b2,env⟩:=en.ex;obtain⟨a,hs,a8,xs,ha,a6⟩:=env.at hi;have U:=en.fr i _ a hi hs;have a0:∀b,B₀ b->b≠a/\(B b∨isLs H b):=λb z=>⟨λq=>en.b0 b z (by rw[q];exact U),.inl (b1 b z)⟩
    have a2:∀b,(b≠a/\(B b∨isLs H b))->NB (H b):=λb z=>by
     exact z.2.elim (env.bad b) isLs.nb
    have M:∀(j:Nat) (d:D),(δ.set i (.sh (.lst l)))[j]?≠some (.ow d):=λj d z=>by
     rcases get_set z with⟨_,e,_⟩|⟨ne,e⟩
     ·cases e
     ·have:=wt0 Y (C1 ne) e;cases this
    have a3:Env X.K H (λb=>b≠a/\(B b∨isLs H b)) σ (δ.set i (.sh (.lst l))):=by
     refine⟨?_,a2,λj k b ds es h1 _ _ _=>absurd h1 (M j ds)⟩;have h0:Paired (λ(o':Option V) (sl:Sl)=>(G6 sl=true/\SlR X.K H B o' sl)∨sl=.ow (.lst l)) σ δ:=Pd.impI (λj o sl q1 q2 q=>by
      by_cases ne:j=i
      ·subst ne;rw[hi] at q2;cases q2;exact .inr rfl
      ·exact .inl ⟨wt0 Y ne q2,q⟩) env.all
     have h1:=Pd.setR (i:=i) (b:=Sl.sh (.lst l)) (F:=λ(o':Option V) (sl:Sl)=>SlR X.K H (λb=>b≠a/\(B b∨isLs H b)) o' sl∨sl=.ow (.lst l)) (.inl ⟨_,rfl,by rw[X7];exact⟨a,xs,rfl,.inl ⟨λz=>z.1 rfl,.inl ha⟩,yp0 hf a6⟩⟩) hs (Pd.imp (λo sl q=>by
      rcases q with⟨q1,q2⟩|q
      ·left
       cases sl with
       | un=>trivial
       | sh d=>obtain⟨v,e,r⟩:=q2;exact⟨v,e,un0 (λb z=>z.2.imp id isLs.nt) _ _ q1 r⟩
       | ow d=>cases q1
       | ex c n=>cases q1
      ·exact .inr q) h0)
     refine Pd.impI (λj o sl q1 q2 q=>?_) h1;rcases q with q|q
     ·exact q
     ·subst q;exact absurd q2 (M j _)
    refine h H (λb=>b≠a/\(B b∨isLs H b)) (δ.set i (.sh (.lst l))) pins s σ H De I ⟨r,⟨Same.refl H,⟨_,λ_ z=>z,λ_ z=>.inl z,a3⟩,λj ds b q1 _=>absurd q1 (M j ds),a2⟩,e1,?_⟩;cases r with
    | bk δ'=>cases hq
    | ct δ'=>cases hq
    | rf d=>cases hq
    | rt d=>cases hq;exact λv H' s' r=>k v H' (en.same.trans s') (r.mono (Gr.less a0))
    | nx δ' =>
     unfold lt0 at hq;dsimp only at hq;split at hq
     ·rename_i l' hi'
      split at hq
      ·rename_i hc'
       obtain⟨a7,O⟩:=hc';cases hq;intro σ' H' J;obtain⟨B1,c1,c2,S⟩:=J.ex;obtain⟨o,a1,v,rfl,rv⟩:=Pd.get S.all hi';rw[X7] at rv;obtain⟨p,ys,rfl,sq,rr⟩:=rv;have nb:=sq.at.1;obtain⟨a4,a5⟩:=isLs.new J.same sq λz=>.inr z
       have Z:H₀ p=none:=by
        by_cases z:p=a
        ·rw[z];exact U
        ·exact en.same.free (a5.resolve_right λq=>nb (c1 p ⟨z,.inr q⟩))
       have hp:H' p=some (.lst ys):=by
        by_cases z:p=a
        ·rcases sq.at.2 with q|⟨o,q⟩
         ·exact q
         ·have:=J.same _ _ ha;rw[← z,q] at this;cases this
        ·exact a4.resolve_right λq=>nb (c1 p ⟨z,.inr q⟩)
       have ow:∀(j:Nat) (d:D),(δ'.set i (.ow (.lst l')))[j]?=some (.ow d)->j=i:=λj d z=>by
        rcases get_set z with⟨e,_,_⟩|⟨ne,e⟩
        ·exact e.symm
        ·have:=wt0 O (C1 ne) e;cases this
       refine k σ' H' ⟨en.same.trans J.same,⟨λb=>B₀ b∨b=p,λb z=>.inl z,λb z=>z.imp id λq=>by rw[q];exact Z,?_,λb z=>?_,λj k b ds es h1 h2 _ _=>(ow j ds h1).trans (ow k es h2).symm⟩,λj ds b q1 q2=>?_,en.b0⟩
       ·have h0:Paired (λ(o':Option V) (sl:Sl)=>SlR X.K H' (λb=>B₀ b∨b=p) o' sl∨sl=.sh (.lst l')) σ' δ':=Pd.impI (λj o sl q1 q2 q=>by
         by_cases ne:j=i
         ·subst ne;rw[hi'] at q2;cases q2;exact .inr rfl
         ·left
          have ok:=wt0 O ne q2;cases sl with
          | un=>trivial
          | sh d =>
           obtain⟨v,e,r⟩:=q;refine⟨v,e,un0 (λb z=>?_) _ _ ok r⟩;rcases z with z|rfl
           ·exact .inl (c1 b (a0 b z))
           ·exact .inr λys z=>by rw[hp] at z;cases z
          | ow d=>cases ok
          | ex c n=>cases ok) S.all
        have h1:=Pd.setR (i:=i) (b:=Sl.ow (.lst l')) (.inl ⟨p,rfl,.inr rfl,ys,hp,yp0 a7 rr⟩) a1 h0;refine Pd.impI (λj o sl q1 q2 q=>?_) h1;rcases q with q|q
        ·exact q
        ·subst q
         rcases get_set q2 with⟨_,e,_⟩|⟨ne,e⟩
         ·cases e
         ·have:=wt0 O (C1 ne) e;unfold G6 tree at this;cases this
       ·rcases z with z|rfl
        ·exact((en.b0 b z).same en.same).same J.same
        ·exact .of hp (λ_ _=>λz=>nomatch z) λ_=>λz=>nomatch z
       ·have:=ow j ds q1
        subst this;rw[a1] at q2;cases q2;exact Z
      ·cases hq
     ·cases hq
  ·cases hq
 ·cases hq
def k80:D->D->Option D
 | x,.tup ys=>if lean x 50=true/\leans ys 50=true then some (.bl (ys.any λy=>deq y x)) else none
 | _,_=>none
def e00(K:W.Frag):R2:=λx y H Q=>∃(B B':BS) (dx:D) (ds:List D) (p:Addr) (xs:List V),y=.ref p/\SqT K H p xs/\Rp K H B dx x/\Rps K H B' ds xs/\lean dx 50=true/\leans ds 50=true/\Q (.bl (ds.any λd=>deq d dx)) H
theorem cj0(hu:X.A.units+64<cLine):OpR X (compareOp .In) (e00 X.K):=by
 intro pins s σ H x y v u Q I rx ry h;obtain⟨B,B',dx,ds,p,xs,rfl,hq,hx,hs,lx,ls,q⟩:=h;cases ry;obtain⟨its,r,pl,hz⟩:=I.tuple hq;obtain⟨f,f1,f2⟩:=Zy0 (A:=X.A.in1) I (by show X.A.units+1+50<cLine;omega) hx rx hs r lx ls;refine SeqAt.in_tupleAt f (show s.heap.IsTuple p its.toArray from pl) (λw hw=>f1 w (by simpa using hw)) ⟨.bl _,H,I,rfl,?_⟩;rw[show its.toArray.any f=its.any f by simp,f2];exact q
theorem ge0:Op2 K (e00 K) k80:=by
 intro H B x y dx dy d Q hb rx ry h k;unfold k80 at h;split at h
 ·rename_i ys
  split at h
  ·rename_i hl
   cases h;rw[X3] at ry;obtain⟨p,xs,rfl,sq,rs⟩:=ry;exact⟨B,B,dx,ys,p,xs,rfl,sq.to,rx,rs,hl.1,hl.2,k _ _ (Same.refl _) (by rw[X8])⟩
  ·cases h
 ·cases h
def ps0:List (Addr×Obj)->Bool
 | []=>true
 | p::K=>(match p.2.cls with
  | .type n=>!(n == "list")
  | _=>true)&&ps0 K
theorem mz0:∀{K:List (Addr×Obj)} {a:Addr} {o:Obj},ps0 K=true->K.lookup a=some o->o.cls≠.type "list"
 | [],_,_,_,h=>nomatch h
 | (b,u)::K,a,o,h,e=>by
  unfold ps0 at h;rw[Bool.and_eq_true] at h;rw[List.lookup_cons] at e;split at e
  ·cases e
   intro z;rw[z] at h;exact absurd h.1 (by decide)
  ·exact mz0 h.2 e
theorem script_at(hK:ps0 K=true)(h:SqL K H a xs):SqL' K H (λ_=>False) a xs:=by
 rcases h with h|⟨o,its,n,e,c,_⟩
 ·exact .inl ⟨λz=>z,h⟩
 ·exact absurd c (mz0 hK e)
theorem gj0{l:W.OpenLaw}{n k:Nat}{q:Program}{loose:List Str}{XP:(Str->Option Value)->Heap->Prop}{YP:World->Heap->Prop}{d:DefRec}{K:Params->W.Frag}{CX:CXT}{sp:W.Frag->Sp}{x:Str}
  (hn:l.most=some n) (hn2:n<=sizeLine) (hdf:d.params.defaults=[]) (hr:Room k callerA) (hY:∀(w:World) (h:Heap),YP w h->(K w.params).In h)
  (F:∀(w:World) (mg:Str->Option Value) (fa:Addr) (h:Heap),(K w.params).In h->h.Ns mainGlobals mg->mg d.name=some (.ref fa) ->
   ∃fd:FuncData,(∀(s:Shared) (u:Value),BindsTo s fd ⟨[u],[]⟩ [(x,u)])/\∀base:Heap,(K w.params).In base->base.Ns mainGlobals mg->FnOk l.prog w (K w.params) mg base CX k fa fd [x] (sp (K w.params)))
  (hsp:∀(w:World) (H:Hp) (a:Addr) (ns:List Int),ns.length<=n->SqL (K w.params) H a (ns.map V.int)->sp (K w.params) [.ref a] H (λv _=>v=.bl true) λ_ _ _=>False)
  (hCX:∀(H:Hp) (s:Shared) (e:Value) (s':Shared),CX [] H s (λ_ _ _=>False) e s'->False):W.WalkO q loose XP YP l.row.toRowW d [] (λf vs=>PySem.call f vs) :=
 dt0 (K:=K) (CX:=λ_=>CX) (sp:=λw=>sp (K w.params)) hn hn2 hdf hr hY F (λw H a ns h1 _ h3=>hsp w H a ns h1 h3) λ_ H s e s'=>hCX H s e s'
end DL
namespace ZipL
open Spec PyProof.Rows
section
variable{w:World}{s:Shared}
theorem kn0{TI TO:Addr}{k1 k2:Nat}{xs ys:Array Value}{x y a b:Value}{Q:Value->Shared->Prop}(D:ZipApart z TI TO i1 i2 l1 l2)
  (hz:ns0 s.heap z TI TO) (hTI:IsPair s.heap TI (.ref i1) (.ref i2)) (hTO:IsPair s.heap TO a b)
  (h1:s.heap.IsListIter i1 l1 k1) (h2:s.heap.IsListIter i2 l2 k2) (hl1:s.heap.IsList l1 xs) (hl2:s.heap.IsList l2 ys) (hx:xs[k1]?=some x) (hy:ys[k2]?=some y)
  (hQ:∀h',ns0 h' z TI TO->(∃p q,IsPair h' TO p q)->h'.IsListIter i1 l1 (k1+1)->h'.IsListIter i2 l2 (k2+1)->IsPair h' s.heap.objs.size x y->h'.objs.size=s.heap.objs.size+1 ->
   (∀c o,c≠z->c≠TO->c≠i1->c≠i2->s.heap.get? c=some o->h'.get? c=some o)->Q (.ref s.heap.objs.size) { s with heap:=h' }) :
  wpAny (model prog w) A (Builtin.SmallTypes.nextOf (.ref z)) Q E s:=by
 obtain⟨v,f,hz,hv⟩:=hz;have hT:s.TypeIs (.ref z) "zip" := ⟨_,hz,rfl⟩;have again:(∀(E':Value->Shared->Prop) (A':Around) (Q':Bool->Shared->Prop),Q' true s->wpAny (model prog w) A' (Builtin.SmallTypes.ownedTupleIsFree (.ref z)) Q' E' s)->wpAny (model prog w) A (Builtin.SmallTypes.nextOf (.ref z)) Q E s:=λhf=>by
  unfold Builtin.SmallTypes.nextOf;exact A0 (E6 (name:=Str.ofString "__next__") hT L4
   (D3 L4 hT p5
    (kb0 D hz (λQ' q=>hf _ _ Q' q) hTI hTO h1 h2 hl1 hl2 hx hy λh' a1 a2 a3 a4 a5 a6 a7=>A1 (hQ h' ⟨_,_,a1,.inr ⟨_,rfl⟩⟩ ⟨_,_,a2⟩ a3 a4 a5 a6 a7)) (p9 _)))
 rcases hv with rfl|⟨a0,rfl⟩
 ·exact again λE' A' Q' q=>q50 hz q
 ·cases e:s.heap.get? a0 with
  | none=>exact again λE' A' Q' q=>q70 hz e q
  | some oa =>
   unfold Builtin.SmallTypes.nextOf;exact A0 (E6 (name:=Str.ofString "__next__") hT L4
    (D3 L4 hT p5
     (ga0 D hz e hTI h1 h2 hl1 hl2 hx hy λh' b1 b2 b3 b4 b5 b6=>A1 (hQ h' ⟨_,_,b1,.inr ⟨_,rfl⟩⟩ ⟨_,_,b6 _ _ D.TOz D.TOi1 D.TOi2 hTO⟩ b2 b3 b4 b5 λc o c1 _ c3 c4 q=>b6 c o c1 c3 c4 q)) (p9 _)))
theorem rq0{TI TO:Addr}{k1 k2:Nat}{xs ys:Array Value}{a b:Value}{Q:Value->Shared->Prop}(hh:A.handled=none)(D:ZipApart z TI TO i1 i2 l1 l2)
  (hz:ns0 s.heap z TI TO) (hTI:IsPair s.heap TI (.ref i1) (.ref i2)) (hTO:IsPair s.heap TO a b)
  (h1:s.heap.IsListIter i1 l1 k1) (h2:s.heap.IsListIter i2 l2 k2) (hl1:s.heap.IsList l1 xs) (hl2:s.heap.IsList l2 ys) (hend:xs[k1]?=none∨ys[k2]?=none)
  (hE:∀h' e,(∀c o,c≠z->c≠TO->c≠i1->c≠i2->s.heap.get? c=some o->h'.get? c=some o)->(∃o,h'.get? e=some o/\o.cls=.type "StopIteration")->E (.ref e) { s with heap:=h' }) :
  wpAny (model prog w) A (Builtin.SmallTypes.nextOf (.ref z)) Q E s:=by
 obtain⟨v,f,hz,hv⟩:=hz;have hT:s.TypeIs (.ref z) "zip" := ⟨_,hz,rfl⟩;have again:(∀(E':Value->Shared->Prop) (A':Around) (Q':Bool->Shared->Prop),Q' true s->wpAny (model prog w) A' (Builtin.SmallTypes.ownedTupleIsFree (.ref z)) Q' E' s)->wpAny (model prog w) A (Builtin.SmallTypes.nextOf (.ref z)) Q E s:=λhf=>by
  unfold Builtin.SmallTypes.nextOf;exact A0 (E6 (name:=Str.ofString "__next__") hT L4
   (D3 L4 hT p5 (iv0 hh D hz (λQ' q=>hf _ _ Q' q) hTI hTO h1 h2 hl1 hl2 hend hE) (p9 _)))
 rcases hv with rfl|⟨a0,rfl⟩
 ·exact again λE' A' Q' q=>q50 hz q
 ·cases e:s.heap.get? a0 with
  | none=>exact again λE' A' Q' q=>q70 hz e q
  | some oa =>
   unfold Builtin.SmallTypes.nextOf;exact A0 (E6 (name:=Str.ofString "__next__") hT L4
    (D3 L4 hT p5 (cp0 hh D hz e hTI h1 h2 hl1 hl2 hend λh' e hk he=>hE h' e (λc o c1 _ c3 c4 q=>hk c o c1 c3 c4 q) he) (p9 _)))
theorem g40{e:Addr}{old:Value}{Q:Value->Shared->Prop}{R:Value->Heap->Prop}(he:IsEnum s.heap e it i old)
  (inner:∀(Q':Value->Shared->Prop),(∀x h₁,R x h₁->IsEnum h₁ e it i old->Q' x { s with heap:=h₁ })->wpAny (model prog w) A (Builtin.SmallTypes.nextOf (.ref it)) Q' E s)
  (hQ:∀x h₁ h',R x h₁->IsEnumOut h' e it ((i:Int)+1) x h₁.objs.size->h'.get? h₁.objs.size=some { cls:=.type "tuple",data:=.seq #[.int i s.toks,x] } ->
   (∀b o,b≠e->h₁.get? b=some o->h'.get? b=some o)->Q (.ref h₁.objs.size) { s with heap:=h',toks:=s.toks+1 }) :
  wpAny (model prog w) A (Builtin.«enumerate.__next__» ⟨[.ref e],[]⟩) (λfin s'=>∃v,fin=.done (.ret v)/\Q v s') E s:=by
 obtain⟨hp,g,d,tk,os⟩:=s;show wpAny _ _ (field (.ref e) 2>>=_) _ _ _;refine A0 (B5 he rfl (x:=.ref it) rfl ?_);refine A0 (inner _ λx h₁ hR U=>?_);show wpAny _ _ (field (.ref e) 3>>=_) _ _ ⟨h₁,g,d,tk,os⟩;refine A0 (B5 U rfl (x:=rawInt i) rfl ?_);show wpAny _ _ (field (.ref e) 4>>=_) _ _ ⟨h₁,g,d,tk,os⟩;refine A0 (B5 U rfl (x:=.none) rfl ?_);show wpAny _ _ (mkInt i>>=_) _ _ ⟨h₁,g,d,tk,os⟩;refine A0 (wpAny_mkInt ?_);show wpAny _ _ (setField (.ref e) 3 (rawInt ((i:Int)+1))>>=_) _ _ ⟨h₁,g,d,tk+1,os⟩;refine A0 (E2 U (by simp) λh₂ a5 Y=>?_)
 replace Y:Heap.SameBut e h₁ h₂:=Y
 replace a5:IsEnum h₂ e it ((i:Int)+1) old:=a5
 show wpAny _ _ (setField (.ref e) 4 .none>>=_) _ _ ⟨h₂,g,d,tk+1,os⟩;refine A0 (E2 a5 (by simp) λh₃ a4 S=>?_)
 replace S:Heap.SameBut e h₂ h₃:=S
 replace a4:IsEnum h₃ e it ((i:Int)+1) old:=a4
 show wpAny _ _ (newTuple [.int i tk,x]>>=_) _ _ ⟨h₃,g,d,tk+1,os⟩;refine A0 (i7 ?_);have Z:IsEnum (h₃.push { cls:=.type "tuple",data:=.seq #[.int i tk,x] }) e it ((i:Int)+1) old:=A8 _ a4;generalize hh₄:h₃.push { cls:=.type "tuple",data:=.seq #[.int i tk,x] }=h₄ at Z;have a7:h₃.objs.size=h₁.objs.size:=by rw[S.1,Y.1]
 have a3:e<h₁.objs.size:=A6 U;have a8:h₄.get? h₁.objs.size=some { cls:=.type "tuple",data:=.seq #[.int i tk,x] }:=by rw[← hh₄,← a7];exact B9 _ rfl
 have a9:∀b o,b≠e->h₁.get? b=some o->h₄.get? b=some o:=λb o J hb=>by
  rw[← hh₄];exact A8 _ (S.extBut b o J (Y.extBut b o J hb))
 show wpAny _ _ (Builtin.SmallTypes.ownedTupleIsFree (.ref e)>>=_) _ _ ⟨h₄,g,d,tk+1,os⟩;rw[a7];refine A0 ?_
 ·unfold Builtin.SmallTypes.ownedTupleIsFree
  refine A0 (B5 Z rfl (x:=.none) rfl (A1 ?_));simp only[if_true];refine A0 (D7 ?_);refine A0 (B5 Z rfl (x:=old) rfl ?_);refine A0 (E2 Z (by simp) λh₅ a2 a0=>?_)
  replace a0:Heap.SameBut e h₄ h₅:=a0
  replace a2:IsEnum h₅ e it ((i:Int)+1) x:=a2
  show wpAny _ _ (Builtin.SmallTypes.ownedTupleHandOut (.ref e) (.ref h₁.objs.size)>>=_) _ _ ⟨h₅,g,d,tk+1,os⟩;refine A0 ?_
  ·unfold Builtin.SmallTypes.ownedTupleHandOut
   refine A0 (E2 a2 (by simp) λh₆ a6 O=>?_)
   replace O:Heap.SameBut e h₅ h₆:=O
   replace a6:IsEnumOut h₆ e it ((i:Int)+1) x h₁.objs.size:=a6
   refine E2 a6 (by simp) λh₇ a1 M=>?_
   replace M:Heap.SameBut e h₆ h₇:=M
   replace a1:IsEnumOut h₇ e it ((i:Int)+1) x h₁.objs.size:=a1
   refine A0 (W1 (A1 ⟨_,rfl,hQ x h₁ h₇ hR a1 ?_ ?_⟩))
   ·exact M.extBut _ _ (L6 a3) (O.extBut _ _ (L6 a3) (a0.extBut _ _ (L6 a3) a8))
   ·exact λb o J hb=>M.extBut b o J (O.extBut b o J (a0.extBut b o J (a9 b o J hb)))
end
set_option maxHeartbeats 1000000 in
theorem sr0(z TI TO:Addr)(v:Value)(f:Bool) :
  Meets (Builtin.«enumerate.__new__» ⟨[.type "enumerate",.ref z],[]⟩) (λ_ R s=>y80 s.heap z TI TO v f /\
   R (.ok (.ret (.ref s.heap.objs.size))) { s with heap:=s.heap.push { cls:=.type "enumerate",data:=.fields #[.none,.bool false,.ref z,rawInt 0,.none,.none] } }) :=
 .of_wp λprog w A R s h=>by
  obtain⟨hp,g,d,tk,os⟩:=s;obtain⟨hl,h⟩:=h;have J:=sub_enumerate
  wp_walk using r0 hl
  refine wpAny_stack_any λst=>A1 ?_
  split
  ·rename_i c _ _ _ _ _
   cases (c==Value.type "enumerate")
   ·wp_walk using r0 hl,px0 (s:=⟨hp,g,d,tk,os⟩) hl
    exact⟨_,rfl,h⟩
   ·wp_walk using r0 hl,px0 (s:=⟨hp,g,d,tk,os⟩) hl
    exact⟨_,rfl,h⟩
  ·wp_walk using r0 hl,px0 (s:=⟨hp,g,d,tk,os⟩) hl
   exact⟨_,rfl,h⟩
theorem qo0{prog:Program}{w:World}{A:Around}{E:Value->Shared->Prop}{s:Shared}{TI TO:Addr}{f:Bool}{Q:Value->Shared->Prop}(hz:y80 s.heap z TI TO v f)
  (h:∀h',IsEnum h' s.heap.objs.size z 0 .none->h'.objs.size=s.heap.objs.size+1->(∀b o,s.heap.get? b=some o->h'.get? b=some o)->Q (.ref s.heap.objs.size) { s with heap:=h' }) :
  wpAny (model prog w) A (call (.type "enumerate") [.ref z]) Q E s:=by
 refine callType_new F.called_enumerate (by decide) (F.typeCall_enumerate_1 _) (F.newCall_enumerate_1 _) (λobj=>F.args_object_init_2 obj _) F.entry_enumerate_new
  (sr0 z TI TO v f) ⟨hz,?_⟩
 have he:IsEnum (s.heap.push { cls:=.type "enumerate",data:=.fields #[.none,.bool false,.ref z,rawInt 0,.none,.none] }) s.heap.objs.size z 0 .none:=B9 _ rfl;exact⟨⟨_,he,rfl⟩,h _ he (by rw[Heap.size_push]) λb o x=>A8 _ x⟩
end ZipL
namespace L2
open Spec PyProof.Rows
def ak0(K:W.Frag)(a b:Addr):It :=
 ⟨λi H=>∃xs ys x y,SqL K H a xs/\SqL K H b ys/\xs[i]?=some x/\ys[i]?=some y,
   λi H v H'=>∃t u x y,v=.ref t/\H u=none/\upd H u (.tup [x,y]) t=none/\H'=upd (upd H u (.tup [x,y])) t (.tup [.int (i:Int),.ref u])/\(∀xs,SqL K H a xs->xs[i]?=some x)/\∀ys,SqL K H b ys->ys[i]?=some y,
   λi H=>∃xs ys,SqL K H a xs/\SqL K H b ys/\(xs.length<=i∨ys.length<=i)⟩
theorem kh0{P:Program}{w:World}{K:W.Frag}{elts:List Expr}{x1}{pos:Pos}{e TI TO b:Addr}(D:ZipApart z TI TO i1 i2 a b)(hne:∀c∈[z,TI,TO,i1,i2],c≠e) :
  Turn P w K (.Tuple elts x1 pos) (ak0 K a b) [e,z,TI,TO,i1,i2] e
  (λi h=>(∃old,IsEnum h e z i old)/\ZipL.ns0 h z TI TO/\IsPair h TI (.ref i1) (.ref i2)/\(∃p q,IsPair h TO p q)/\h.IsListIter i1 a i/\h.IsListIter i2 b i) where
 mem:=by simp
 obj:=λi h st c hc=>by
  obtain⟨⟨old,he⟩,⟨v,f,hz,_⟩,J,⟨p,q,M⟩,⟨o1,e1,c1,d1⟩,⟨o2,e2,c2,d2⟩⟩:=st;simp only[List.mem_cons,List.not_mem_nil,or_false] at hc;rcases hc with rfl|rfl|rfl|rfl|rfl|rfl
  ·exact⟨_,he,λv z=>nomatch z⟩
  ·exact⟨_,hz,λv z=>nomatch z⟩
  ·exact⟨_,J,λv z=>nomatch z⟩
  ·exact⟨_,M,λv z=>nomatch z⟩
  ·exact⟨_,e1,λv z=>by rw[d1] at z;cases z⟩
  ·exact⟨_,e2,λv z=>by rw[d2] at z;cases z⟩
 keep:=λi h h' st k=>by
  obtain⟨⟨old,he⟩,⟨v,f,hz,hv⟩,J,⟨p,q,M⟩,h1,h2⟩:=st;exact⟨⟨old,k e (by simp) _ he⟩,⟨v,f,k z (by simp) _ hz,hv⟩,k TI (by simp) _ J,⟨p,q,k TO (by simp) _ M⟩,h1.at λo e=>k i1 (by simp) o e,h2.at λo e=>k i2 (by simp) o e⟩
 item:=by
  intro X hP hw hK hc i pins s σ H E I hf st hg;subst hP hw hK;obtain⟨⟨old,he⟩,hz,J,⟨p,q,M⟩,h1,h2⟩:=st;obtain⟨xs,ys,x,y,S,O,hx,hy⟩:=hg;obtain⟨us,Y,p1,z1⟩:=I.list S;obtain⟨ws,Z,p2,z2⟩:=I.list O;obtain⟨u,hu,ru⟩:=Y.get hx;obtain⟨w,hw,b4⟩:=Z.get hy;have hT:s.TypeIs (.ref e) "enumerate" := ⟨_,he,rfl⟩;have ez:e≠z:=(hne z (by simp)).symm;have b3:e≠TI:=(hne TI (by simp)).symm;have a7:e≠TO:=(hne TO (by simp)).symm;have a9:e≠i1:=(hne i1 (by simp)).symm;have a8:e≠i2:=(hne i2 (by simp)).symm;unfold pyNext;refine A0 (Q2 (E6 (name:=Str.ofString "__next__") hT r8
   (D3 r8 hT Cy0
    (ZipL.g40 he (R:=λv h'=>v=.ref s.heap.objs.size/\ZipL.ns0 h' z TI TO/\(∃p q,IsPair h' TO p q)/\h'.IsListIter i1 a (i+1)/\h'.IsListIter i2 b (i+1)/\IsPair h' s.heap.objs.size u w/\h'.objs.size=s.heap.objs.size+1 /\
      (∀c o,c≠z->c≠TO->c≠i1->c≠i2->s.heap.get? c=some o->h'.get? c=some o))
     (λQ' c5=>ZipL.kn0 D hz J M h1 h2 p1.isList p2.isList (x:=u) (y:=w) (by simpa using hu) (by simpa using hw) λh' a1 a2 a3 a4 a5 a6 hk=>c5 _ h' ⟨rfl,a1,a2,a3,a4,a5,a6,hk⟩ (hk _ _ ez a7 a9 a8 he))
     λv h₁ h' hR ho c3 c4=>A1 ?_) (Cz0 _))))
  obtain⟨rfl,a1,a2,a3,a4,a5,a6,hk⟩:=hR;refine⟨_,rfl,wpAny_letOwnedTupleGo_enum (s:={ s with heap:=h',toks:=s.toks+1 }) ho λa0 b1 hs=>?_⟩;have lt:∀{c o},s.heap.get? c=some o->c<s.heap.objs.size:=λe=>A6 e
  obtain⟨v0,f0,b5,_⟩:=id hz;have le:=lt he;have lz:=lt b5;have c8:=lt M;have c9:=lt J;obtain⟨o1,e1,_⟩:=id h1;obtain⟨o2,e2,_⟩:=id h2;have l1:=lt e1;have l2:=lt e2;have b0:∀c∈[e,z,TI,TO,i1,i2],c<s.heap.objs.size:=λc hc=>by
   simp only[List.mem_cons,List.not_mem_nil,or_false] at hc;rcases hc with rfl|rfl|rfl|rfl|rfl|rfl<;>assumption
  obtain⟨I1,fr⟩:=I.turnedNew (h':=h₁) (t':=s.toks) (fp:=[e,z,TI,TO,i1,i2]) hf ru b4 b0 a5 (λc o hc e=>by
   simp only[List.mem_cons,List.not_mem_nil,or_false,not_or] at hc;exact hk c o hc.2.1 hc.2.2.2.1 hc.2.2.2.2.1 hc.2.2.2.2.2 e)
  have up:∀c o,c≠e->h₁.get? c=some o->a0.get? c=some o:=λc o hc q=>(hs.2 c hc).trans (c4 c o hc q)
  obtain⟨I2,c6⟩:=I1.turnedNew (h':=a0) (t':=s.toks+1) (fp:=[e,z,TI,TO,i1,i2]) (x:=.int (i:Int)) (u:=.int i s.toks) (y:=.ref s.heap.objs.size) (w:=.ref s.heap.objs.size) (λb hb=>⟨fr b hb,(hf b hb).2⟩) ⟨_,rfl⟩ rfl
   (λc hc=>by show c<h₁.objs.size;rw[a6];exact X0 (b0 c hc)) ((hs.2 _ (by show h₁.objs.size≠e;rw[a6];exact L6 (X0 le))).trans c3) (λc o hc q=>by
   simp only[List.mem_cons,List.not_mem_nil,or_false,not_or] at hc;exact up c o hc.1 q)
  refine⟨.ref h₁.objs.size,_,I2,rfl,⟨_,s.heap.objs.size,x,y,rfl,I.hok.fresh (A4 _),I1.hok.fresh (A4 _),rfl,λys U=>by rw[I.list_inj U S];exact hx,λc7 U=>by rw[I.list_inj U O];exact hy⟩,
   ⟨⟨_,by simpa using b1⟩,?_,up _ _ b3.symm (hk _ _ D.TIz D.TITO D.TIi1 D.TIi2 J),?_,a3.at λo q=>up _ o a9.symm q,a4.at λo q=>up _ o a8.symm q⟩,c6⟩
  ·obtain⟨v,f,q1,q2⟩:=a1
   exact⟨v,f,up _ _ ez.symm q1,q2⟩
  ·obtain⟨p',q',r⟩:=a2
   exact⟨p',q',up _ _ a7.symm r⟩
 done:=by
  intro X hP hw hK hc i pins s σ H E I hf st hg;subst hP hw hK;obtain⟨⟨old,he⟩,hz,J,⟨p,q,M⟩,h1,h2⟩:=st;obtain⟨xs,ys,S,O,b2⟩:=hg;obtain⟨us,Y,p1,z1⟩:=I.list S;obtain⟨ws,Z,p2,z2⟩:=I.list O;have l1:=Y.length;have l2:=Z.length;have hT:s.TypeIs (.ref e) "enumerate" := ⟨_,he,rfl⟩;unfold pyNext;refine A0 (Q2 (E6 (name:=Str.ofString "__next__") hT r8
   (D3 r8 hT Cy0 ?_ (Cz0 _))))
  show wpAny _ _ (field (.ref e) 2>>=_) _ _ _;refine A0 (B5 he rfl (x:=.ref z) rfl ?_);refine A0 (ZipL.rq0 (A:=X.A.in1) (I.ok.hd hc) D hz J M h1 h2 p1.isList p2.isList (b2.imp (λh=>by simp;omega) λh=>by simp;omega) λh' x hk b6=>?_);obtain⟨o,ho,c0⟩:=b6;refine A0 (A80 (T := "StopIteration") (b:=true) ⟨o,ho,c0⟩ isSubtype_stop ?_);refine A1 ⟨rfl,I.turnedL (t':=s.toks) (fp:=[e,z,TI,TO,i1,i2]) hf λc o hc e=>?_⟩;simp only[List.mem_cons,List.not_mem_nil,or_false,not_or] at hc;exact hk c o hc.2.1 hc.2.2.2.1 hc.2.2.2.2.1 hc.2.2.2.2.2 e
 self:=λ_ _ _ _ _ st h=>by
  obtain⟨⟨old,he⟩,_⟩:=st;exact wpAny_pyIter_enum he h
def Zf0(K:W.Frag)(ta:TA):TI:=fun σ H R=>ta σ H λvs H1=>∃a b,vs=[.ref a,.ref b]/\(∃xs,SqL K H1 a xs)/\(∃ys,SqL K H1 b ys)/\R (ak0 K a b) H1
theorem f90{a:Expr}{ta:TA}{p pos p2 pos2:Pos}(hg1:Gl X "enumerate")(hm1:X.mg "enumerate"=none)(hg:Gl X "zip")(hm:X.mg "zip"=none)(ha:PA X [a,b] ta)
  (e1:starEach [.Call (.Name "zip" p2) [a,b] [] pos2] X.env=(false,eval (.Call (.Name "zip" p2) [a,b] [] pos2) X.env)::starEach [] X.env:=by rfl) (h1':(backTo pos (starEach [] X.env)).any (·.1)=false:=by rfl)
  (hs:starEach [a,b] X.env=(false,eval a X.env)::starEach [b] X.env:=by rfl) (hs2:(backTo pos2 (starEach [b] X.env)).any (·.1)=false:=by rfl) :
  PI X (.Tuple elts x1 tpos) (.Call (.Name "enumerate" p) [.Call (.Name "zip" p2) [a,b] [] pos2] [] pos) (Zf0 X.K ta):=by
 intro pins s σ H R I h;refine Call_ (yf0 I hg1 hm1 js0 ?_);refine N4 ?_ e1 h1';rw[e1];show wpAny _ _ (spliced ((false,eval (.Call (.Name "zip" p2) [a,b] [] pos2) X.env)::backTo pos (starEach [] X.env))) _ _ s;refine d3 ?_;refine P5 (yf0 I hg hm boot_zip ?_);refine N4 (thn (ha pos2 pins s σ H _ I h) λus s1 ⟨vs,H1,I1,r1,q1⟩=>?_) hs hs2;obtain⟨qa,qb,e,⟨xs,h1⟩,⟨ys,h2⟩,q⟩:=q1;subst e;cases r1 with
 | cons r rr =>
  cases rr with
  | cons r' rr =>
   cases rr;obtain rfl:=r;obtain rfl:=r';obtain⟨us1,v1,p1,z1⟩:=I1.list h1;obtain⟨us2,v2,p2,z2⟩:=I1.list h2;have a1:qa<s1.heap.objs.size:=by obtain⟨_,e,_⟩:=p1.isList;exact A6 e
   have a2:qb<s1.heap.objs.size:=by obtain⟨_,e,_⟩:=p2.isList;exact A6 e
   refine call_zip_2 p1.isList p2.isList λh' hz U M hi1 hi2 S hk=>b9 ?_
   refine ZipL.qo0 (s:={ s1 with heap:=h' }) hz λO he Y J=>?_
   refine wpAny_pyIter_enum (s:={ s1 with heap:=O }) he ?_;have sz:h'.objs.size=s1.heap.objs.size+5:=S;refine⟨_,_,_,_,H1,rfl,I1.kept (t':=s1.toks) λb o q=>J b o (hk b o q),kh0 (zipApart_new a1 a2) (λc hc=>?_),⟨⟨_,he⟩,⟨_,_,J _ _ hz,.inl rfl⟩,J _ _ U,⟨_,_,J _ _ M⟩,hi1.at λo q=>J _ o q,hi2.at λo q=>J _ o q⟩,λb hb=>?_,q⟩
   ·simp only[List.mem_cons,List.not_mem_nil,or_false] at hc
    show c≠h'.objs.size;rw[sz];rcases hc with rfl|rfl|rfl|rfl|rfl<;>exact B8 (by omega)
   ·simp only[List.mem_cons,List.not_mem_nil,or_false] at hb
    rcases hb with rfl|rfl|rfl|rfl|rfl|rfl
    ·show xz0 X pins H1 h'.objs.size
     rw[sz];exact I1.fpOk (D9 _ 5) (I1.hok.fresh (D9 _ 5))
    ·exact I1.fpOk (D9 _ 4) (I1.hok.fresh (D9 _ 4))
    ·exact I1.fpOk (D9 _ 2) (I1.hok.fresh (D9 _ 2))
    ·exact I1.fpOk (D9 _ 3) (I1.hok.fresh (D9 _ 3))
    ·exact I1.fpOk (A4 _) (I1.hok.fresh (A4 _))
    ·exact I1.fpOk (D9 _ 1) (I1.hok.fresh (D9 _ 1))
end L2
namespace DL
open Spec PyProof.Rows L2
def w00(ds es:List D):List D:=pe0 ((ds.zip es).map λp=>D.tup [p.1,p.2])
def lc0:List D->Option (List D)
 | [.lst ds,.lst es]=>some (w00 ds es)
 | _=>none
theorem o30{es:List D}(h1:i<ds.length)(h2:i<es.length):(w00 ds es)[i]?=some (.tup [.int (i:Int),.tup [ds[i],es[i]]]):=by
 have hz:(ds.zip es)[i]?=some (ds[i],es[i]):=S1.mpr ⟨B6 h1,B6 h2⟩;unfold w00 pe0;rw[List.getElem?_map,List.getElem?_range (by rw[List.length_map,List.length_zip];omega),Option.map_some,List.getD_eq_getElem?_getD,List.getElem?_map,hz];rfl
def ws0(gA:Ds->Option (List D)):Ds->Option (List D):=fun δ=>(gA δ).bind lc0
section
variable{a:Expr}
theorem ih0(hm1:X.mg "enumerate"=none)(hm:X.mg "zip"=none)(ha:PDA X [a,b] gA)(hg1:Gl X "enumerate" := by rfl)(hg:Gl X "zip" := by rfl)
  (e1:starEach [.Call (.Name "zip" p2) [a,b] [] pos2] X.env=(false,eval (.Call (.Name "zip" p2) [a,b] [] pos2) X.env)::starEach [] X.env:=by rfl) (h1':(backTo pos (starEach [] X.env)).any (·.1)=false:=by rfl)
  (hs:starEach [a,b] X.env=(false,eval a X.env)::starEach [b] X.env:=by rfl) (hs2:(backTo pos2 (starEach [b] X.env)).any (·.1)=false:=by rfl) :
  PID X (.Tuple elts x1 tpos) (.Call (.Name "enumerate" p) [.Call (.Name "zip" p2) [a,b] [] pos2] [] pos) (ws0 gA):=.mk λB δ=>L2.PI.imp (f90 hg1 hm1 hg hm (ha B δ) e1 h1' hs hs2) fun σ H R ⟨items,en,e1,k⟩=>by
 unfold ws0 at e1;cases e2:gA δ with
 | none=>rw[e2] at e1;cases e1
 | some ds =>
  rw[e2] at e1;simp only[Option.bind_some] at e1;unfold lc0 at e1;split at e1<;>try cases e1
  rename_i ds es;refine⟨_,en,e2,λvs H' s' r=>?_⟩;rw[o7] at r;obtain⟨x,t,rfl,r1,r⟩:=r;rw[o7] at r;obtain⟨y,t,rfl,r2,r⟩:=r;rw[m9] at r;subst r;rw[X7] at r1 r2;obtain⟨q1,us,rfl,s1,t1⟩:=r1;obtain⟨q2,ws,rfl,s2,t2⟩:=r2;have J:(w00 ds es).length=min us.length ws.length:=by unfold w00 pe0;simp[t1.length,t2.length]
  refine⟨q1,q2,rfl,⟨us,s1.to⟩,⟨ws,s2.to⟩,k _ H' s' ⟨λi H2 g2 hi=>?_,λi H2 v H3 g2 y hi=>?_,λi H2 g2 hi=>?_⟩⟩
  ·rw[J] at hi
   have h1:i<us.length:=by omega
   have h2:i<ws.length:=by omega
   exact⟨us,ws,us[i],ws[i],(s1.mono g2).to,(s2.mono g2).to,by simp[h1],by simp[h2]⟩
  ·obtain⟨t,u,x,y,rfl,hu,ht,rfl,hx,hy⟩:=y
   rw[J,t1.length,t2.length] at hi;have h1:i<ds.length:=by omega
   have h2:i<es.length:=by omega
   obtain⟨x',e4,rx⟩:=t1.get (i:=i) (B6 h1);obtain⟨y',e5,ry⟩:=t2.get (i:=i) (B6 h2);have ex:=hx us (s1.mono g2).to;have ey:=hy ws (s2.mono g2).to;rw[e4] at ex;rw[e5] at ey;cases ex;cases ey;have tu:t≠u:=λz=>by subst z;rw[Z4] at ht;cases ht
   have M:H2 t=none:=by rw[Z2 tu] at ht;exact ht
   refine⟨(Y7 hu).trans (Y7 ht),.tup [.int (i:Int),.tup [ds[i],es[i]]],o30 h1 h2,λB' gB hb=>?_⟩;exact l30 (λz=>hb t z M) Z4 (by rw[m8]) (l30 (λz=>hb u z hu) (by rw[Z2 tu.symm,Z4]) (rx.mono gB) (ry.mono gB))
  ·rw[J] at hi
   exact⟨us,ws,(s1.mono g2).to,(s2.mono g2).to,by omega⟩
end
end DL
namespace W
open DL
def hasAll(x s:Str):Bool:=x.cps.toList.all λc=>decide (c∈s.cps.toList)
def nameS:Str := "0123456789abcdefghijklmnopqrstuvwxyz"
def pd0:Str := " 0123456789abcdefghijklmnopqrstuvwxyz"
def isName(x:Str):Bool:=(decide ((x.length:Int)<=8)&&hasAll x nameS)&&decide (0<(x.length:Int))
def isWord(x:Str):Bool:=decide ((x.length:Int)<=20)&&hasAll x pd0
def marks(x:D)(m:Str):Bool:=match x with
 | .str y=>decide (y=m)
 | _=>false
def ss0:D->Bool
 | .non=>true
 | .int _=>true
 | .tup [x,.int i]=>marks x "at"&&decide (0<=i)
 | _=>false
def Xv0:D->Str
 | .tup (.str n::_)=>n
 | _ => ""
inductive Pt where
 | text (w:Str)|row (vs:List D)|table (ps:List (Str×D))|rcd (c:Str) (ps:List (Str×D))
variable{ps qs:List W.Pt}
def pr(p:Str×D):D:=.tup [.str p.1,p.2]
def Pt.d:Pt->D
 | .text w=>.tup [.str "text",.str w]
 | .row vs=>.tup [.str "row",.tup vs]
 | .table ps=>.tup [.str "table",.tup (ps.map pr)]
 | .rcd c ps=>.tup [.str "record",.str c,.tup (ps.map pr)]
def Pt.vals:Pt->List D
 | .text _=>[]
 | .row vs=>vs
 | .table ps=>ps.map (·.2)
 | .rcd _ ps=>ps.map (·.2)
def Pt.pnames:Pt->List Str
 | .text _=>[]
 | .row _=>[]
 | .table ps=>ps.map (·.1)
 | .rcd _ ps=>ps.map (·.1)
def Pt.cls:Pt->List Str
 | .rcd c _=>[c]
 | _=>[]
def Pt.all(p:Pt):List Str:=p.pnames++p.cls
def lk:D->Option Int
 | .tup [_,.int i]=>some i
 | _=>none
structure PsOk(ps:List (Str×D)):Prop where
 len:ps.length<=12
 names:∀p∈ps,isName p.1=true
 vals:∀p∈ps,ss0 p.2=true
 nd:(ps.map (·.1)).Nodup
def Pt.Ok:Pt->Prop
 | .text w=>isWord w=true
 | .row vs=>vs.length<=12/\∀v∈vs,ss0 v=true
 | .table ps=>PsOk ps
 | .rcd c ps=>isName c=true/\PsOk ps
theorem lr0{n:Str}(h:isName n=true):n.length<=8:=by
 unfold isName at h;simp only[Bool.and_eq_true,decide_eq_true_eq] at h;omega
theorem ng0(ps:List (Str×D)):N7 (gN 0) noT (o2 (gv 0) (gc (.int 1)) ixD) [.un] (ps.map pr)=some (ps.map (·.2)):=by
 rw[J7 (λd=>match d with|.tup [_,v]=>v|_=>.non) (λd hd=>by
  obtain⟨p,hp,rfl⟩:=A9.mp hd;exact⟨[.sh (pr p)],rfl,rfl,rfl⟩),List.map_map]
 rfl
theorem nm0(ps:List (Str×D)):N7 (gN 0) noT (o2 (gv 0) (gc (.int 0)) ixD) [.un] (ps.map pr)=some ((ps.map (·.1)).map .str):=by
 rw[J7 (λd=>.str (Xv0 d)) (λd hd=>by
  obtain⟨p,hp,rfl⟩:=A9.mp hd;exact⟨[.sh (pr p)],rfl,rfl,rfl⟩),List.map_map,List.map_map]
 rfl
def Pt.few(p:Pt):Prop:=p.vals.length<=sizeLine
theorem qa0{v:D}(h:ss0 v=true):v=.non∨(∃i,v=.int i)∨∃i,v=.tup [.str "at",.int i]/\0<=i:=by
 cases v with
 | non=>exact .inl rfl
 | int i=>exact .inr (.inl ⟨i,rfl⟩)
 | tup xs =>
  match xs,h with
  | [x,.int i],h =>
   simp only[ss0,Bool.and_eq_true,decide_eq_true_eq] at h;cases x<;>simp[marks] at h
   exact .inr (.inr ⟨i,by rw[h.1],h.2⟩)
 | _=>cases h
def U4:Str := "abcdefghijklmnopqrstuvwxyz0123456789"
def cg(i:Int):Nat:=U4.cps.toList.getD i.toNat 0
theorem l50(i:Int)(h0:0<=i)(h1:i<36):ixD (.str U4) (.int i)=some (.str ⟨#[cg i]⟩):=by
 have hl:U4.cps.toList.length=36:=by decide +kernel
 have hz:U4.length<=sizeLine:=by decide +kernel
 have:=K1 (xs:=U4.cps.toList) (i:=i) h0 (by rw[hl];omega) 0;simp only[ixD,if_pos hz,this,Option.map_some];rfl
theorem iu0(i:Int)(h0:0<=i)(h1:i<36):cg i∈nameS.cps.toList:=by
 have h:∀n:Nat,n<36->U4.cps.toList.getD n 0∈nameS.cps.toList:=by decide +kernel
 exact h i.toNat (by omega)
theorem ax0(i j:Int)(h0:0<=i)(h1:i<36)(h2:0<=j)(h3:j<36)(e:cg i=cg j):i=j:=by
 have h:∀n:Nat,n<36->∀m:Nat,m<36->U4.cps.toList.getD n 0=U4.cps.toList.getD m 0->n=m:=by decide +kernel
 have:=h i.toNat (by omega) j.toNat (by omega) e;omega
def ones(l:List Nat):List Str:=l.map λc=>⟨#[c]⟩
def strOf(l:List Nat):Str:=⟨l.toArray⟩
theorem join_ones(l:List Nat):Txt.join "" (ones l)=strOf l:=by
 have key:∀(l:List Nat) (J:List Nat),(ones l).foldl (λa p=>a++("" : Str).cps++p.cps) J.toArray=(J++l).toArray:=by
  intro l
  induction l with
  | nil=>intro J;simp[ones]
  | cons c l ih =>
   intro J;show (ones l).foldl _ (J.toArray++("" : Str).cps++#[c])=_;have e:J.toArray++("" : Str).cps++#[c]=(J++[c]).toArray:=by
    have:("" : Str).cps=#[]:=rfl;rw[this];simp
   rw[e,ih];simp
 cases l with
 | nil=>rfl
 | cons c l =>
  show (⟨_⟩:Str)=_;unfold strOf;congr 1;exact key l [c]
theorem qi0:∀l:List Nat,((ones l).map (·.length)).sum=l.length
 | []=>rfl
 | c::l=>by
  show 1+((ones l).map (·.length)).sum=l.length+1;rw[qi0 l];omega
theorem qd0(l:List Nat)(h1:0<l.length)(h2:l.length<=8)(h3:∀c∈l,c∈nameS.cps.toList):isName (strOf l)=true:=by
 unfold isName hasAll;have e:(strOf l).length=l.length:=by show l.toArray.size=_;simp
 have e2:(strOf l).cps.toList=l:=by simp[strOf]
 rw[e,e2];simp only[Bool.and_eq_true,decide_eq_true_eq,List.all_eq_true];exact⟨⟨by omega,λc hc=>by simpa using h3 c hc⟩,by omega⟩
theorem qj0{l m:List Nat}(h:strOf l=strOf m):l=m:=by
 unfold strOf at h;injection h with h
 simpa using D1 Array.toList h
end W
variable{ps qs:List W.Pt}
namespace Ma
open DL
def vp0:GS:=(v8 (ifD (we0 (ob (o2 (o2 (gv 0) (gc (.int 0)) ixD) (gc (.str "text")) eqD)) (ob (o2 (o2 (gv 0) (gc (.int 0)) ixD) (gc (.str "row")) eqD)))
 (v8 (y00 (Y8 v7))
 p7)
 p7)
 (v8 (y00 (R5 1 [] (tupI (o2 (gv 0) (unG zs0 (gc (.int 1))) ixD)) (gN 0) noT (o2 (gv 0) (gc (.int 0)) ixD)))
 p7))
def o10:List Str:=["part"]
def J5:List D->Option D:=mkN 1 o10 vp0
def h40:GS:=(v8 (ifD (ob (o2 (o2 (gv 0) (gc (.int 0)) ixD) (gc (.str "text")) eqD))
 (v8 (j7 (Z6 (z9 (gc (.str "text")) (z9 (o2 (gv 0) (gc (.int 1)) ixD) v7))))
 p7)
 p7)
 (v8 (ifD (ob (o2 (o2 (gv 0) (gc (.int 0)) ixD) (gc (.str "row")) eqD))
 (v8 (j7 (Z6 (z9 (gc (.str "row")) (z9 (oA (z9 (o2 (gv 0) (gc (.int 1)) ixD) v7) X4) v7))))
 p7)
 p7)
 (v8 (ifD (ob (o2 (o2 (gv 0) (gc (.int 0)) ixD) (gc (.str "table")) eqD))
 (v8 (j7 (Z6 (z9 (gc (.str "table")) (z9 (oA (z9 (oA (z9 (gv 0) v7) J5) v7) O1) v7))))
 p7)
 p7)
 (v8 (j7 (Z6 (z9 (gc (.str "record")) (z9 (o2 (gv 0) (gc (.int 1)) ixD) (z9 (oA (z9 (oA (z9 (gv 0) v7) J5) v7) O1) v7)))))
 p7))))
def bw0:List Str:=["part"]
def O2:List D->Option D:=mkF 1 bw0 h40
def m90:GS:=(v8 (ifD (ob (o2 (o2 (gv 0) (gc (.int 0)) ixD) (gc (.str "text")) eqD))
 (v8 (y00 (Y8 v7))
 p7)
 p7)
 (v8 (ifD (ob (o2 (o2 (gv 0) (gc (.int 0)) ixD) (gc (.str "row")) eqD))
 (v8 (y00 (oA (z9 (o2 (gv 0) (gc (.int 1)) ixD) v7) u60))
 p7)
 p7)
 (v8 (y00 (R5 1 [] (tupI (o2 (gv 0) (unG zs0 (gc (.int 1))) ixD)) (gN 0) noT (o2 (gv 0) (gc (.int 1)) ixD)))
 p7)))
def fo0:List Str:=["part"]
def m_values:List D->Option D:=mkN 1 fo0 m90
def ta0:GS:=(v8 (j7 (v00 (V7 isTup (o2 (gv 0) (gc (.int 0)) ixD)) (V7 isTup (o2 (gv 0) (gc (.int 1)) ixD))))
 p7)
def t90:List Str:=["both"]
def V5:List D->Option D:=mkF 1 t90 ta0
def vh0:GS:=(v8 (j7 (Z6 (z9 (o2 (o2 (gv 0) (gc (.int 0)) ixD) (gc (.int 1)) ixD) (z9 (o2 (o2 (gv 0) (gc (.int 1)) ixD) (gc (.int 1)) ixD) v7))))
 p7)
def qx0:List Str:=["both"]
def Z3:List D->Option D:=mkF 1 qx0 vh0
def vi0:GS:=(v8 (ifD (ob (oA (z9 (gv 2) v7) V5))
 (v8 (n6 (gN 3) (oA (z9 (gv 2) v7) Z3))
 (v8 (j7 (o2 (oA (z9 (o2 (gv 0) (o2 (gv 3) (gc (.int 0)) ixD) ixD) v7) O2) (oA (z9 (o2 (gv 1) (o2 (gv 3) (gc (.int 1)) ixD) ixD) v7) O2) Q5))
 p7))
 p7)
 (v8 (j7 (o2 (o2 (gv 2) (gc (.int 0)) ixD) (o2 (gv 2) (gc (.int 1)) ixD) Q5))
 p7))
def qm0:List Str:=["one", "other", "both", "pair"]
def T3:List D->Option D:=mkF 3 qm0 vi0
def pp0:GS:=(v8 (T7 2 (Y8 v7))
 (v8 (n6 (gN 3) (o2 (gv 0) (gv 1) yo0))
 (v8 (Q3 (ob (o2 (gv 3) (gc .non) v50))
 (v8 (W3 (U5 2 (o2 (gv 3) (gc (.int 1)) ixD)))
 (v8 (n6 (gN 3) (o2 (gv 0) (o2 (gv 3) (gc (.int 0)) ixD) yo0))
 p7)) 100000)
 (v8 (y00 (zt0 (oA (z9 (gv 2) v7) g80)))
 p7))))
def fh0:List Str:=["came", "pair", "backward", "step"]
def zx0:List D->Option D:=mkN 2 fh0 pp0
def vj0:GS:=(v8 (T7 3 (y70 (gv 2) (gc .non)))
 (v8 (ifD (ob (o2 (oA (z9 (o2 (gv 0) (o2 (gv 2) (gc (.int 0)) ixD) ixD) v7) O2) (oA (z9 (o2 (gv 1) (o2 (gv 2) (gc (.int 1)) ixD) ixD) v7) O2) Q5))
 (v8 (j7 (zt0 (Z6 (z9 (gv 3) (z9 (Y8 v7) v7)))))
 p7)
 p7)
 (v8 (T7 4 (Y8 (z9 (gv 2) v7)))
 (v8 (n6 (gN 5) (gc (.int 0)))
 (v8 (Q3 (ob (o2 (gv 5) (yx0 (oA (z9 (gv 4) v7) X4)) ltD))
 (v8 (n6 (gN 6) (xy0 (o2 (gv 4) (gv 5) ixD)))
 (v8 (kr0 5 (gc (.int 1)))
 (v8 (T8 (ws0 (z9 (oA (z9 (o2 (gv 0) (o2 (gv 6) (gc (.int 0)) ixD) ixD) v7) m_values) (z9 (oA (z9 (o2 (gv 1) (o2 (gv 6) (gc (.int 1)) ixD) ixD) v7) m_values) v7))) (J9 7 8)
 (v8 (ifD (ob (oA (z9 (gv 0) (z9 (gv 1) (z9 (gv 8) v7))) T3))
 (v8 (j7 (zt0 (Z6 (z9 (gv 3) (z9 (o2 (oA (z9 (gv 3) (z9 (gv 6) v7)) zx0) (Y8 (z9 (gv 7) v7)) j6) v7)))))
 p7)
 p7)
 (v8 (ifD (G5 (ob (oA (z9 (gv 8) v7) V5)) (zz0 (ob (o2 (oA (z9 (gv 8) v7) Z3) (gv 3) (R8 true)))))
 (v8 (M4 (O4 (Z6 (z9 (gv 6) (z9 (gv 7) v7)))) (z90 3 (oA (z9 (gv 8) v7) Z3)))
 (v8 (W3 (U5 4 (oA (z9 (gv 8) v7) Z3)))
 p7))
 p7)
 p7)))
 p7))) 100000)
 (v8 (j7 (zt0 (Z6 (z9 (gv 3) (z9 (gc .non) v7)))))
 p7))))))
def yw0:List Str:=["one", "other", "start", "came", "waiting", "number", "pair", "place", "both"]
def W6:List D->Option D:=mkF 3 yw0 vj0
def wk0:GS:=(v8 (ifD (ob (o2 (gv 1) (oA (z9 (gv 0) v7) X4) ltD))
 (v8 (j7 (o2 (gv 0) (gv 1) ixD))
 p7)
 p7)
 (v8 (j7 (gc (.int 0)))
 p7))
def rh0:List Str:=["_law_script", "_law_k"]
def j9:List D->Option D:=mkF 2 rh0 wk0
def t80:GS:=(v8 (n6 (gN 2) (gc (.str "abcdefghijklmnopqrstuvwxyz0123456789")))
 (v8 (n6 (gN 3) (o2 (gc (.int 1)) (o2 (gv 0) (gc (.int 8)) d7) j6))
 (v8 (n6 (gN 0) (o2 (gv 0) (gc (.int 8)) Y4))
 (v8 (T7 4 (Y8 v7))
 (v8 (T8 (V9 (z9 (gv 3) v7)) (gN 5)
 (v8 (W3 (U5 4 (o2 (gv 0) (gc (.int 36)) d7)))
 (v8 (n6 (gN 0) (o2 (gv 0) (gc (.int 36)) Y4))
 p7)))
 (v8 (n6 (gN 6) (yx0 (ui0 (gc (.str "")) (z9 (R5 1 [2] (yy0 (gv 4)) (gN 0) noT (o2 (gv 1) (gv 0) ixD)) v7))))
 (v8 (ifD (ob (o2 (o2 (o2 (gv 1) (gc (.int 8)) Y4) (gc (.int 3)) d7) (gc (.int 1)) eqD))
 (v8 (y00 (R5 1 [6] (k00 (z9 (gc (.int 1)) (z9 (gc (.int 9)) v7))) (gN 0) noT (O3 (o2 (gc (.int 8)) (gv 1) rl0) N8 (someO (gv 0)))))
 p7)
 p7)
 (v8 (n6 (gN 7) (o2 (gv 1) (gv 3) d7))
 (v8 (T7 8 (Y8 v7))
 (v8 (T8 (V9 (z9 (gc (.int 8)) v7)) (gN 5)
 (v8 (n6 (gN 9) (o2 (gv 2) (o2 (o2 (yx0 (o2 (gv 4) (gv 7) ixD)) (o2 (gc (.int 4)) (gv 5) U6) j6) (gc (.int 36)) d7) ixD))
 (v8 (W3 (U5 8 (o2 (o2 (O3 (gv 6) N8 (someO (gv 7))) (gv 9) j6) (O3 (gv 6) (someO (o2 (gv 7) (gc (.int 1)) j6)) N8) j6)))
 p7)))
 (v8 (lv0 8)
 p7)))))))))))
def mq0:List Str:=["_law_cell", "_law_turn", "_law_signs", "_law_size", "_law_places", "_law_k", "_law_word", "_law_at", "_law_found", "_law_sign"]
def z20:List D->Option D:=mkN 2 mq0 t80
def s40:GS:=(v8 (j7 (o2 (o2 (o2 (o2 (gv 0) (gc (.int 2147483647)) d7) (gc (.int 1)) j6) (o2 (gc (.int 48271)) (o2 (gc (.int 7)) (gv 1) U6) j6) U6) (gc (.int 2147483647)) d7))
 p7)
def lz0:List Str:=["_law_cell", "_law_k"]
def X5:List D->Option D:=mkF 2 lz0 s40
def u00:GS:=(v8 (n6 (gN 2) (o2 (gv 0) (gc (.int 10)) d7))
 (v8 (ifD (ob (o2 (gv 2) (gc (.int 6)) ltD))
 (v8 (j7 (Z6 (z9 (gc (.str "at")) (z9 (o2 (o2 (gv 0) (gc (.int 10)) Y4) (gv 1) d7) v7))))
 p7)
 p7)
 (v8 (ifD (ob (o2 (gv 2) (gc (.int 6)) eqD))
 (v8 (j7 (gc .non))
 p7)
 p7)
 (v8 (ifD (ob (o2 (gv 2) (gc (.int 9)) ltD))
 (v8 (j7 (o2 (o2 (o2 (gv 0) (gc (.int 10)) Y4) (gc (.int 3)) d7) (gc (.int 1)) gs0))
 p7)
 p7)
 (v8 (j7 (o2 (o2 (o2 (o2 (gv 0) (gc (.int 10)) Y4) (gc (.int 7)) m00) (o2 (gc (.int 10)) (gc (.int 60)) m00) d7) (o2 (gc (.int 1)) (o2 (gc (.int 2)) (o2 (o2 (gv 0) (gc (.int 20)) Y4) (gc (.int 2)) d7) U6) gs0) U6))
 p7)))))
def ol0:List Str:=["_law_number", "_law_many", "_law_kind"]
def T9:List D->Option D:=mkF 2 ol0 u00
def ve0:GS:=(v8 (T7 3 (Y8 v7))
 (v8 (T8 (V9 (z9 (gv 1) v7)) (gN 4)
 (v8 (n6 (gN 0) (o2 (o2 (gv 0) (gc (.int 48271)) U6) (gc (.int 2147483647)) d7))
 (v8 (W3 (U5 3 (oA (z9 (gv 0) (z9 (gv 2) v7)) T9)))
 p7)))
 (v8 (lv0 3)
 p7)))
def qp0:List Str:=["_law_number", "_law_count", "_law_many", "_law_found", "_law_k"]
def M7:List D->Option D:=mkN 3 qp0 ve0
def t50:GS:=(v8 (n6 (gN 3) (o2 (gv 0) (gc (.int 8)) d7))
 (v8 (ifD (ob (o2 (gv 3) (gc (.int 0)) eqD))
 (v8 (j7 (Z6 (z9 (gc (.str "text")) (z9 (o2 (Y8 (z9 (gc (.str "")) (z9 (gc (.str "a")) (z9 (gc (.str " a")) (z9 (o2 (o2 (gv 2) (gc (.int 0)) ixD) (gc (.str " 0")) j6) v7))))) (o2 (o2 (gv 0) (gc (.int 16)) Y4) (gc (.int 4)) d7) ixD) v7))))
 p7)
 p7)
 (v8 (ifD (ob (o2 (gv 3) (gc (.int 4)) ltD))
 (v8 (j7 (Z6 (z9 (gc (.str "row")) (z9 (oA (z9 (gv 1) v7) O1) v7))))
 p7)
 p7)
 (v8 (n6 (gN 4) (o2 (o2 (o2 (gv 0) (gc (.int 8)) Y4) (gc (.int 2)) d7) (gc (.int 3)) U6))
 (v8 (n6 (gN 5) (oA (z9 (R5 1 [1,2,4] (V9 (z9 (oA (z9 (gv 1) v7) X4) v7)) (gN 0) noT (Z6 (z9 (o2 (gv 2) (o2 (o2 (gv 3) (gv 0) j6) (gc (.int 8)) d7) ixD) (z9 (o2 (gv 1) (gv 0) ixD) v7)))) v7) O1))
 (v8 (ifD (ob (o2 (gv 3) (gc (.int 6)) ltD))
 (v8 (j7 (Z6 (z9 (gc (.str "table")) (z9 (gv 5) v7))))
 p7)
 p7)
 (v8 (j7 (Z6 (z9 (gc (.str "record")) (z9 (o2 (gv 2) (o2 (o2 (gv 0) (gc (.int 16)) Y4) (gc (.int 2)) d7) ixD) (z9 (gv 5) v7)))))
 p7)))))))
def mg0:List Str:=["_law_number", "_law_some", "_law_pool_here", "_law_kind", "_law_start", "_law_pairs"]
def z10:List D->Option D:=mkF 3 mg0 t50
def tx0:GS:=(v8 (T7 3 (Y8 v7))
 (v8 (T8 (V9 (z9 (gv 1) v7)) (gN 4)
 (v8 (n6 (gN 5) (oA (z9 (o2 (o2 (gv 0) (o2 (gv 4) (oA (z9 (gv 0) v7) X4) d7) ixD) (o2 (gv 4) (o2 (gv 4) (oA (z9 (gv 0) v7) X4) Y4) U6) j6) (z9 (gv 4) v7)) X5))
 (v8 (n6 (gN 6) (o2 (Y8 (z9 (gc (.int 0)) (z9 (gc (.int 1)) (z9 (gc (.int 2)) (z9 (gc (.int 2)) (z9 (gc (.int 3)) (z9 (gc (.int 2)) (z9 (gc (.int 3)) (z9 (gc (.int 1)) v7))))))))) (o2 (o2 (gv 5) (gc (.int 32)) Y4) (gc (.int 8)) d7) ixD))
 (v8 (ifD (ob (o2 (o2 (o2 (gv 5) (gc (.int 256)) Y4) (gc (.int 16)) d7) (gc (.int 3)) eqD))
 (v8 (n6 (gN 6) (o2 (Y8 (z9 (gc (.int 8)) (z9 (gc (.int 12)) v7))) (oA (z9 (o2 (o2 (gv 5) (gc (.int 8)) d7) (gc (.int 4)) ltD) v7) intOfD) ixD))
 p7)
 p7)
 (v8 (n6 (gN 7) (oA (z9 (o2 (o2 (gv 5) (gc (.int 8)) Y4) (gc (.int 1)) j6) (z9 (gv 6) (z9 (gv 1) v7))) M7))
 (v8 (W3 (U5 3 (oA (z9 (gv 5) (z9 (gv 7) (z9 (gv 2) v7))) z10)))
 p7))))))
 (v8 (j7 (zt0 (oA (z9 (gv 3) v7) O1)))
 p7)))
def ln0:List Str:=["_law_cells", "_law_many", "_law_pool_here", "_law_parts", "_law_k", "_law_number", "_law_count", "_law_some"]
def zl0:List D->Option D:=mkF 3 ln0 tx0
def t10:GS:=(v8 (ifD (ob (o2 (o2 (gv 0) (gc (.int 0)) ixD) (gc (.str "text")) eqD))
 (v8 (y00 (Y8 v7))
 p7)
 p7)
 (v8 (ifD (ob (o2 (o2 (gv 0) (gc (.int 0)) ixD) (gc (.str "row")) eqD))
 (v8 (y00 (oA (z9 (o2 (gv 0) (gc (.int 1)) ixD) v7) u60))
 p7)
 p7)
 (v8 (y00 (R5 2 [] (tupI (o2 (gv 0) (unG zs0 (gc (.int 1))) ixD)) (J9 0 1) noT (gv 1)))
 p7)))
def mi0:List Str:=["_law_part_here"]
def m5:List D->Option D:=mkN 1 mi0 t10
def t30:GS:=(v8 (ifD (ob (o2 (o2 (gv 0) (gc (.int 0)) ixD) (gc (.str "row")) eqD))
 (v8 (j7 (Z6 (z9 (gc (.str "row")) (z9 (oA (z9 (o2 (gv 0) (gc (.int 1)) ixD) v7) X4) v7))))
 p7)
 p7)
 (v8 (ifD (ob (o2 (o2 (gv 0) (gc (.int 0)) ixD) (gc (.str "text")) eqD))
 (v8 (j7 (gv 0))
 p7)
 p7)
 (v8 (j7 (o2 (O3 (gv 0) N8 (someO (unG zs0 (gc (.int 1))))) (Z6 (z9 (oA (z9 (R5 2 [] (tupI (o2 (gv 0) (unG zs0 (gc (.int 1))) ixD)) (J9 0 1) noT (gv 0)) v7) O1) v7)) j6))
 p7)))
def ml0:List Str:=["_law_part_here"]
def Z5:List D->Option D:=mkF 1 ml0 t30
def t60:GS:=(v8 (ifD (ob (o2 (o2 (gv 0) (gc (.int 0)) ixD) (gc (.str "text")) eqD))
 (v8 (j7 (gv 0))
 p7)
 p7)
 (v8 (ifD (ob (o2 (o2 (gv 0) (gc (.int 0)) ixD) (gc (.str "row")) eqD))
 (v8 (j7 (Z6 (z9 (gc (.str "row")) (z9 (oA (z9 (gv 1) v7) O1) v7))))
 p7)
 p7)
 (v8 (j7 (o2 (O3 (gv 0) N8 (someO (unG zs0 (gc (.int 1))))) (Z6 (z9 (oA (z9 (R5 1 [0,1] (V9 (z9 (oA (z9 (gv 1) v7) X4) v7)) (gN 0) noT (Z6 (z9 (o2 (o2 (o2 (gv 1) (unG zs0 (gc (.int 1))) ixD) (gv 0) ixD) (gc (.int 0)) ixD) (z9 (o2 (gv 2) (gv 0) ixD) v7)))) v7) O1) v7)) j6))
 p7)))
def mn0:List Str:=["_law_part_here", "_law_some"]
def V4:List D->Option D:=mkF 2 mn0 t60
def vc0:GS:=(v8 (T7 3 (Y8 v7))
 (v8 (T8 (V9 (z9 (oA (z9 (gv 0) v7) X4) v7)) (gN 4)
 (v8 (T8 (V9 (z9 (gv 1) v7)) (gN 5)
 (v8 (T7 6 (Y8 v7))
 (v8 (n6 (gN 7) (oA (z9 (o2 (gv 2) (o2 (gv 5) (gv 5) U6) j6) (z9 (o2 (gv 4) (gc (.int 31)) j6) v7)) X5))
 (v8 (T8 (yy0 (oA (z9 (o2 (gv 0) (gv 4) ixD) v7) m5)) (gN 8)
 (v8 (n6 (gN 7) (o2 (o2 (gv 7) (gc (.int 48271)) U6) (gc (.int 2147483647)) d7))
 (v8 (ifD (ob (V7 isTup (gv 8)))
 (v8 (n6 (gN 8) (Z6 (z9 (gc (.str "at")) (z9 (o2 (o2 (o2 (gv 8) (gc (.int 1)) ixD) (gv 1) U6) (o2 (gv 7) (gv 1) d7) j6) v7))))
 p7)
 p7)
 (v8 (W3 (U5 6 (gv 8)))
 p7))))
 (v8 (W3 (U5 3 (xy0 (oA (z9 (o2 (gv 0) (gv 4) ixD) (z9 (gv 6) v7)) V4))))
 p7)))))
 p7))
 (v8 (j7 (zt0 (oA (z9 (gv 3) v7) O1)))
 p7)))
def ql0:List Str:=["_law_web_here", "_law_times", "_law_cell", "_law_parts", "_law_k", "_law_turn", "_law_some", "_law_number", "_law_value_here"]
def M6:List D->Option D:=mkF 3 ql0 vc0
def u80:GS:=(v8 (n6 (gN 2) (oA (z9 (oA (z9 (gv 0) (z9 (gc (.int 0)) v7)) j9) (z9 (oA (z9 (gv 0) (z9 (gc (.int 1)) v7)) j9) v7)) z20))
 (v8 (n6 (gN 3) (oA (z9 (gv 0) (z9 (gc (.int 2)) v7)) j9))
 (v8 (n6 (gN 4) (o2 (gc (.int 1)) (o2 (gv 3) (gv 1) d7) j6))
 (v8 (j7 (oA (z9 (o2 (O3 (gv 0) (someO (gc (.int 9))) (someO (gc (.int 60)))) (Y8 (z9 (oA (z9 (gv 0) (z9 (gc (.int 3)) v7)) j9) v7)) j6) (z9 (gv 4) (z9 (gv 2) v7))) zl0))
 p7))))
def ob0:List Str:=["_law_script", "_law_most", "_law_pool_here", "_law_turn", "_law_many"]
def J1:List D->Option D:=mkF 2 ob0 u80
def wp0:GS:=(v8 (n6 (gN 2) (o2 (gv 1) (oA (z9 (gv 0) v7) X4) d7))
 (v8 (T7 3 (oA (z9 (o2 (gv 0) (gv 2) ixD) v7) m5))
 (v8 (ifD (zz0 (ob (o2 (gv 3) (Y8 v7) yv0)))
 (v8 (j7 (gv 0))
 p7)
 p7)
 (v8 (n6 (gN 4) (o2 (o2 (gv 1) (gc (.int 60)) Y4) (yx0 (oA (z9 (gv 3) v7) X4)) d7))
 (v8 (M4 (O4 (oA (z9 (o2 (o2 (gv 1) (gc (.int 240)) Y4) (gc (.int 1000000)) d7) (z9 (oA (z9 (gv 0) v7) X4) v7)) T9)) (setAt 3 (gv 4)))
 (v8 (j7 (zt0 (o2 (o2 (O3 (gv 0) N8 (someO (gv 2))) (Z6 (z9 (oA (z9 (o2 (gv 0) (gv 2) ixD) (z9 (gv 3) v7)) V4) v7)) j6) (O3 (gv 0) (someO (o2 (gv 2) (gc (.int 1)) j6)) N8) j6)))
 p7))))))
def rc0:List Str:=["_law_web_here", "_law_cell", "_law_k", "_law_some", "_law_at"]
def R4:List D->Option D:=mkF 2 rc0 wp0
def ud0:GS:=(v8 (T7 3 (Y8 v7))
 (v8 (n6 (gN 4) (oA (z9 (o2 (gv 0) (o2 (gv 2) (gc (.int 0)) ixD) ixD) v7) m5))
 (v8 (n6 (gN 5) (oA (z9 (o2 (gv 1) (o2 (gv 2) (gc (.int 1)) ixD) ixD) v7) m5))
 (v8 (ifD (ob (o2 (oA (z9 (o2 (gv 0) (o2 (gv 2) (gc (.int 0)) ixD) ixD) v7) Z5) (oA (z9 (o2 (gv 1) (o2 (gv 2) (gc (.int 1)) ixD) ixD) v7) Z5) Q5))
 (v8 (j7 (gc .non))
 p7)
 p7)
 (v8 (T8 (V9 (z9 (oA (z9 (gv 4) v7) X4) v7)) (gN 6)
 (v8 (ifD (G5 (ob (V7 isTup (o2 (gv 4) (gv 6) ixD))) (ob (V7 isTup (o2 (gv 5) (gv 6) ixD))))
 (v8 (W3 (U5 3 (Z6 (z9 (o2 (o2 (gv 4) (gv 6) ixD) (gc (.int 1)) ixD) (z9 (o2 (o2 (gv 5) (gv 6) ixD) (gc (.int 1)) ixD) v7)))))
 p7)
 (v8 (ifD (ob (o2 (o2 (gv 4) (gv 6) ixD) (o2 (gv 5) (gv 6) ixD) Q5))
 (v8 (j7 (gc .non))
 p7)
 p7)
 p7))
 p7))
 (v8 (j7 (zt0 (gv 3)))
 p7))))))
def pv0:List Str:=["_law_one", "_law_other", "_law_pair", "_law_found", "_law_first", "_law_second", "_law_k"]
def W7:List D->Option D:=mkF 3 pv0 ud0
def t40:GS:=(v8 (T7 3 (y70 (gv 2) (gc (.bl true))))
 (v8 (T7 4 (Y8 (z9 (gv 2) v7)))
 (v8 (Q3 (ob (o2 (yx0 (oA (z9 (gv 4) v7) X4)) (gc (.int 0)) gtD))
 (v8 (M4 (to0 0 1 (ub0 4) W7) (gN 5))
 (v8 (ifD (ob (o2 (gv 5) (gc .non) ot0))
 (v8 (j7 (gc .non))
 p7)
 p7)
 (v8 (T8 (yy0 (gv 5)) (gN 6)
 (v8 (ifD (zz0 (ob (o2 (gv 6) (gv 3) (R8 true))))
 (v8 (M4 (O4 (gc (.bl true))) (z90 3 (gv 6)))
 (v8 (W3 (U5 4 (gv 6)))
 p7))
 p7)
 p7))
 p7))) 100000)
 (v8 (j7 (zt0 (oA (z9 (oA (z9 (gv 3) v7) u40) v7) vx0)))
 p7))))
def t70:List Str:=["_law_one", "_law_other", "_law_pair", "_law_known", "_law_waiting", "_law_more", "_law_fresh"]
def K6:List D->Option D:=mkF 3 t70 t40
end Ma
namespace Pn
open Ma
open DL W
theorem vq0(p:Pt)(h:p.few):m_values [p.d]=some (.lst p.vals):=by
 cases p with
 | text w=>kernel_rfl
 | row vs =>
  refine G9 rfl (v9 (δ':=[.sh (Pt.row vs).d]) (by rw[Z0 (by kernel_rfl)];rfl) (J6 (by rw[U8 (by kernel_rfl)];rfl)))
 | table ps =>
  refine G9 rfl (v9 (δ':=[.sh (Pt.table ps).d]) (by rw[Z0 (by kernel_rfl)];rfl) (v9 (δ':=[.sh (Pt.table ps).d]) (by rw[Z0 (by kernel_rfl)];rfl) (J6 (yl0 ?_))));exact O7 (items:=ps.map pr) rfl (by have:(ps.map (·.2)).length<=sizeLine:=h;simpa using this) (ng0 ps)
 | rcd c ps =>
  refine G9 rfl (v9 (δ':=[.sh (Pt.rcd c ps).d]) (by rw[Z0 (by kernel_rfl)];rfl) (v9 (δ':=[.sh (Pt.rcd c ps).d]) (by rw[Z0 (by kernel_rfl)];rfl) (J6 (yl0 ?_))));exact O7 (items:=ps.map pr) rfl (by have:(ps.map (·.2)).length<=sizeLine:=h;simpa using this) (ng0 ps)
theorem p00(p:Pt)(h:p.few):J5 [p.d]=some (.lst (p.pnames.map .str)):=by
 cases p with
 | text w=>kernel_rfl
 | row vs=>kernel_rfl
 | table ps =>
  refine G9 rfl (v9 (δ':=[.sh (Pt.table ps).d]) (by rw[Z0 (by kernel_rfl)];rfl) (J6 (yl0 ?_)));exact O7 (items:=ps.map pr) rfl (by have:(ps.map (·.2)).length<=sizeLine:=h;simpa using this) (nm0 ps)
 | rcd c ps =>
  refine G9 rfl (v9 (δ':=[.sh (Pt.rcd c ps).d]) (by rw[Z0 (by kernel_rfl)];rfl) (J6 (yl0 ?_)));exact O7 (items:=ps.map pr) rfl (by have:(ps.map (·.2)).length<=sizeLine:=h;simpa using this) (nm0 ps)
def hd:Pt->D
 | .text w=>.tup [.str "text",.str w]
 | .row vs=>.tup [.str "row",.int vs.length]
 | .table ps=>.tup [.str "table",.tup ((ps.map (·.1)).map .str)]
 | .rcd c ps=>.tup [.str "record",.str c,.tup ((ps.map (·.1)).map .str)]
def put:Pt->List D->Pt
 | .text w,_=>.text w
 | .row _,vs=>.row vs
 | .table ps,vs=>.table ((ps.map (·.1)).zip vs)
 | .rcd c ps,vs=>.rcd c ((ps.map (·.1)).zip vs)
theorem rv0(p:Pt)(h:p.few):O2 [p.d]=some (hd p):=by
 have e:=p00 p h;cases p with
 | text w=>kernel_rfl
 | row vs=>kernel_rfl
 | table ps =>
  refine j5 rfl (v9 (δ':=[.sh (Pt.table ps).d]) (by rw[Z0 (by kernel_rfl)];rfl) (v9 (δ':=[.sh (Pt.table ps).d]) (by rw[Z0 (by kernel_rfl)];rfl) (o8 ?_)));rw[U8 (by kernel_rfl)];refine o8 (Z1 (X6 (cons_of rfl (cons_of (d:=.tup ((ps.map (·.1)).map .str)) ?_ rfl)) (by show 2<=sizeLine;decide)));rw[o9 (cons_of (by rw[o9 (ds:=[(Pt.table ps).d]) rfl];exact e) rfl)];rfl
 | rcd c ps =>
  refine j5 rfl (v9 (δ':=[.sh (Pt.rcd c ps).d]) (by rw[Z0 (by kernel_rfl)];rfl) (v9 (δ':=[.sh (Pt.rcd c ps).d]) (by rw[Z0 (by kernel_rfl)];rfl) (v9 (δ':=[.sh (Pt.rcd c ps).d]) (by rw[Z0 (by kernel_rfl)];rfl) ?_)));refine o8 (Z1 (X6 (cons_of rfl (cons_of (d:=.str c) rfl (cons_of (d:=.tup ((ps.map (·.1)).map .str)) ?_ rfl))) (by show 3<=sizeLine;decide)));rw[o9 (cons_of (by rw[o9 (ds:=[(Pt.rcd c ps).d]) rfl];exact e) rfl)];rfl
theorem gk0(h:∀d∈l,lean d n=true):leans l n=true:=by
 induction l with
 | nil=>unfold leans;rfl
 | cons d l ih =>
  unfold leans;rw[h d A5,ih λe he=>h e (C2 _ he)];rfl
theorem xq0(s:Str)(n:Nat):lean (.str s) n=true:=by unfold lean;rfl
theorem xu0(h:∀d∈l,lean d n=true):lean (.tup l) (n+1)=true:=by unfold lean;exact gk0 h
mutual
theorem tm0:∀(d:D) (n:Nat),lean d n=true->deq d d=true
 | .non,_,_=>by unfold deq;rfl
 | .bl b,_,_=>by unfold deq;simp
 | .int b,_,_=>by unfold deq;simp
 | .str b,_,_=>by unfold deq;simp
 | .tup ds,0,h=>by unfold lean at h;cases h
 | .tup ds,n+1,h=>by unfold lean at h;unfold deq;exact ug0 ds n h
 | .lst ds,0,h=>by unfold lean at h;cases h
 | .lst ds,n+1,h=>by unfold lean at h;unfold deq;exact ug0 ds n h
 | .dct _ _,n,h=>by unfold lean at h;cases h
 | .fn _ _,n,h=>by unfold lean at h;cases h
theorem ug0:∀(ds:List D) (n:Nat),leans ds n=true->J4 ds ds=true
 | [],_,_=>by unfold J4;rfl
 | d::ds,n,h=>by
  unfold leans at h;rw[Bool.and_eq_true] at h;unfold J4;rw[tm0 d n h.1,ug0 ds n h.2];rfl
end
mutual
def nb:D->Bool
 | .bl _=>false
 | .dct _ _=>false
 | .fn _ _=>false
 | .tup xs=>nbs xs
 | .lst xs=>nbs xs
 | _=>true
def nbs:List D->Bool
 | []=>true
 | x::xs=>nb x&&nbs xs
end
mutual
theorem iy0:∀(d e:D),nb d=true->nb e=true->deq d e=true->d=e
 | .non,e,_,h2,h=>by cases e<;>unfold deq at h<;>first|rfl|(cases h)
 | .bl b,e,h1,_,_=>by unfold nb at h1;cases h1
 | .int i,e,_,h2,h=>by
  cases e<;>unfold deq at h<;>first|(cases h;done)|(unfold nb at h2;cases h2;done)|(rw[beq_iff_eq] at h;rw[h])
 | .str x,e,_,h2,h=>by cases e<;>unfold deq at h<;>first|(cases h;done)|(rw[beq_iff_eq] at h;rw[h])
 | .tup xs,e,h1,h2,h=>by
  cases e<;>unfold deq at h<;>try (cases h;done)
  unfold nb at h1 h2;rw[rf0 _ _ h1 h2 h]
 | .lst xs,e,h1,h2,h=>by
  cases e<;>unfold deq at h<;>try (cases h;done)
  unfold nb at h1 h2;rw[rf0 _ _ h1 h2 h]
 | .dct _ _,e,h1,_,_=>by unfold nb at h1;cases h1
 | .fn _ _,e,h1,_,_=>by unfold nb at h1;cases h1
theorem rf0:∀(ds es:List D),nbs ds=true->nbs es=true->J4 ds es=true->ds=es
 | [],[],_,_,_=>rfl
 | [],_::_,_,_,h=>by unfold J4 at h;cases h
 | _::_,[],_,_,h=>by unfold J4 at h;cases h
 | d::ds,e::es,h1,h2,h=>by
  unfold nbs at h1 h2;unfold J4 at h;rw[Bool.and_eq_true] at h1 h2 h;rw[iy0 d e h1.1 h2.1 h.1,rf0 ds es h1.2 h2.2 h.2]
end
theorem Zl0(h:∀d∈l,nb d=true):nbs l=true:=by
 induction l with
 | nil=>unfold nbs;rfl
 | cons d l ih =>
  unfold nbs;rw[h d A5,ih λe he=>h e (C2 _ he)];rfl
structure Pl(d:D):Prop where
 le:lean d 50=true
 nb:nb d=true
theorem Xw0{d:D}(h:lean d 50=true):yv0 d d=some (.bl true):=by
 unfold yv0;rw[if_pos ⟨h,h⟩,tm0 d 50 h]
theorem tf0{d:D}(h:lean d 50=true):Q5 d d=some (.bl false):=by
 unfold Q5;rw[if_pos ⟨h,h⟩,tm0 d 50 h];rfl
theorem rr0{d e:D}(h1:Pl d)(h2:Pl e)(n:d≠e):Q5 d e=some (.bl true):=by
 unfold Q5;rw[if_pos ⟨h1.le,h2.le⟩];cases q:deq d e with
 | false=>rfl
 | true=>exact absurd (iy0 d e h1.nb h2.nb q) n
theorem u20(s:Str):nb (.str s)=true:=by unfold nb;rfl
theorem Z40(i:Int):nb (.int i)=true:=by unfold nb;rfl
theorem uc0(h:∀d∈l,nb d=true):nb (.tup l)=true:=by unfold nb;exact Zl0 h
theorem xb0(p:Pt):Pl (hd p):=by
 have ls:∀(ns:List Str) (n:Nat),lean (.tup (ns.map .str)) (n+1)=true:=λns n=>xu0 λd hd=>by
  obtain⟨q,_,rfl⟩:=A9.mp hd;exact xq0 _ _
 have nn:∀(ns:List Str),nb (.tup (ns.map .str))=true:=λns=>uc0 λd hd=>by
  obtain⟨q,_,rfl⟩:=A9.mp hd;exact u20 _
 have li:∀(i:Int) (n:Nat),lean (.int i) n=true:=λi n=>by unfold lean;rfl
 cases p with
 | text w=>exact⟨xu0 λd hd=>by simp only[List.mem_cons,List.not_mem_nil,or_false] at hd;rcases hd with rfl|rfl<;>exact xq0 _ _,uc0 λd hd=>by simp only[List.mem_cons,List.not_mem_nil,or_false] at hd;rcases hd with rfl|rfl<;>exact u20 _⟩
 | row w=>exact⟨xu0 λd hd=>by simp only[List.mem_cons,List.not_mem_nil,or_false] at hd;rcases hd with rfl|rfl<;>first|exact xq0 _ _|exact li _ _,uc0 λd hd=>by simp only[List.mem_cons,List.not_mem_nil,or_false] at hd;rcases hd with rfl|rfl<;>first|exact u20 _|exact Z40 _⟩
 | table w=>exact⟨xu0 λd hd=>by simp only[List.mem_cons,List.not_mem_nil,or_false] at hd;rcases hd with rfl|rfl<;>first|exact xq0 _ _|exact ls _ _,uc0 λd hd=>by simp only[List.mem_cons,List.not_mem_nil,or_false] at hd;rcases hd with rfl|rfl<;>first|exact u20 _|exact nn _⟩
 | rcd c w=>exact⟨xu0 λd hd=>by simp only[List.mem_cons,List.not_mem_nil,or_false] at hd;rcases hd with rfl|rfl|rfl<;>first|exact xq0 _ _|exact ls _ _,uc0 λd hd=>by simp only[List.mem_cons,List.not_mem_nil,or_false] at hd;rcases hd with rfl|rfl|rfl<;>first|exact u20 _|exact nn _⟩
end Pn
namespace W
open DL StrLaws Builtin.Str
theorem yd0(l:List Nat):(strOf l).cps.toList=l:=by simp[strOf]
theorem z50(l:List Nat):(strOf l).length=l.length:=by show l.toArray.size=_;simp
theorem gn0(x:PySem.Str):strOf x.cps.toList=x:=by cases x;simp[strOf]
end W
namespace Gw
open Ma
open DL W StrLaws
theorem mul_r(i j:Int)(h:-(2 ^ 64)<j/\j<2 ^ 64):U6 (.int i) (.int j)=some (.int (i*j)):=by simp only[U6];rw[if_pos (.inr h)]
theorem k30(i j:Int)(h:-(2 ^ 64)<i/\i<2 ^ 64):U6 (.int i) (.int j)=some (.int (i*j)):=by simp only[U6];rw[if_pos (.inl h)]
theorem z40(i j:Int)(h:0<j):d7 (.int i) (.int j)=some (.int (i%j)):=by simp only[d7,ii];rw[if_pos h]
theorem sa0(i j:Int)(h:0<j/\j<1073741824):Y4 (.int i) (.int j)=some (.int (i/j)):=by simp only[Y4,ii];rw[if_pos h]
theorem vv0{g:GE}{d:D}(h1:owL i δ=some l)(h2:g δ=some d)(h3:l.length<sizeLine):W3 (U5 i g) δ=some (.nx (δ.set i (.ow (.lst (l++[d]))))):=by
 unfold W3 U5;rw[h1,h2];simp only[Option.bind_some];rw[if_pos h3];rfl
theorem yi0(ns:List Int)(k:Int)(h0:0<=k):∃z,j9 [.lst (ns.map .int),.int k]=some (.int z):=by
 by_cases h:k<ns.length
 ·have J:k.toNat<ns.length:=by omega
  refine⟨ns[k.toNat],j5 rfl (o8 ?_)⟩;rw[U8 (by
   show some (decide (k<(((ns.map D.int).length:Nat):Int)))=_;rw[decide_eq_true (by rw[List.length_map];exact h)])]
  refine o8 (Z1 ?_);show atI (ns.map D.int) k=_;rw[K1 h0 (by rw[List.length_map];exact h) .non];simp[List.getD_eq_getElem?_getD,J]
 ·refine⟨0,j5 rfl (v9 (δ':=[.sh (.lst (ns.map .int)),.sh (.int k)]) ?_ rfl)⟩
  rw[Z0 (by
   show some (decide (k<(((ns.map D.int).length:Nat):Int)))=_;rw[decide_eq_false (by rw[List.length_map];exact h)])]
  rfl
theorem gg0(l:List Nat)(n:Nat):lm0 (strOf l) (n:Int)=strOf (List.replicate n l).flatten:=by
 have key:∀(k:Nat) (J:Array Nat),(List.replicate k l.toArray).foldl (·++·) J=J++(List.replicate k l).flatten.toArray:=by
  intro k
  induction k with
  | zero=>intro J;simp
  | succ k ih=>intro J;rw[List.replicate_succ,List.foldl_cons,ih,List.replicate_succ,List.flatten_cons];simp
 unfold lm0;show (⟨(List.replicate ((n:Int)).toNat l.toArray).foldl (·++·) #[]⟩:Str)=⟨_⟩;rw[Int.toNat_natCast,key];simp
theorem i60(l:List Nat)(k:Int)(h0:0<=k)(h1:k<=l.length):Txt.slice (strOf l) none (some k)=strOf (l.take k.toNat):=by
 show sliceText _ _ _=_;rw[sliceText_to ⟨h0,by rw[yd0];exact h1⟩,yd0];simp[strOf]
theorem be0(l:List Nat)(k:Int)(h0:0<=k)(h1:k<=l.length):Txt.slice (strOf l) (some k) none=strOf (l.drop k.toNat):=by
 show sliceText _ _ _=_;rw[sliceText_from ⟨h0,by rw[yd0];exact h1⟩,yd0];unfold strOf;congr 2;rw[List.take_of_length_le];rw[List.length_drop];omega
theorem Yj0(a b:List Nat):strOf a++strOf b=strOf (a++b):=by
 show (⟨_⟩:Str)=⟨_⟩;simp[strOf]
theorem km0(a b:List Nat)(h:a.length+b.length<=sizeLine):j6 (.str (strOf a)) (.str (strOf b))=some (.str (strOf (a++b))):=by
 simp only[j6];rw[if_pos (by rw[z50,z50];exact h),Yj0]
structure Pool(nm:List Str):Prop where
 len:nm.length=8
 names:∀s∈nm,isName s=true
 nd:nm.Nodup
def PB:GS:=(v8 (W3 (U5 4 (o2 (gv 0) (gc (.int 36)) d7)))
 (v8 (n6 (gN 0) (o2 (gv 0) (gc (.int 36)) Y4))
 p7))
def PC:GS:=(v8 (n6 (gN 9) (o2 (gv 2) (o2 (o2 (yx0 (o2 (gv 4) (gv 7) ixD)) (o2 (gc (.int 4)) (gv 5) U6) j6) (gc (.int 36)) d7) ixD))
 (v8 (W3 (U5 8 (o2 (o2 (O3 (gv 6) N8 (someO (gv 7))) (gv 9) j6) (O3 (gv 6) (someO (o2 (gv 7) (gc (.int 1)) j6)) N8) j6)))
 p7))
theorem sy0(c t:Int):∃nm,z20 [.int c,.int t]=some (.lst (nm.map .str))/\Pool nm:=by
 have z:(1000:Nat)<=sizeLine:=by decide
 obtain⟨n,hn⟩:∃n:Nat,(n:Int)=1+c%8:=⟨(1+c%8).toNat,by omega⟩;obtain⟨δ',l1,l2⟩:=O9 (f:=gN 5) (G:=PB) (λi δ=>∃(c':Int) (l:List Int) (s5:Sl),δ=[.sh (.int c'),.sh (.int t),.sh (.str U4),.sh (.int (n:Int)),.ow (.lst (l.map .int)),s5,.un,.un,.un,.un]/\l.length=i/\∀x∈l,0<=x/\x<36) (W4 0 (n:Int)) 0
  [.sh (.int (c/8)),.sh (.int t),.sh (.str U4),.sh (.int (n:Int)),.ow (.lst []),.un,.un,.un,.un,.un] (by
   rintro j d δ hj ⟨c',l,s5,rfl,hl,hx⟩;obtain⟨O,rfl⟩:=y40 hj;rw[Int.toNat_natCast] at O;refine⟨_,[.sh (.int (c'/36)),.sh (.int t),.sh (.str U4),.sh (.int (n:Int)),.ow (.lst ((l++[c'%36]).map .int)),.sh (.int (j:Int)),.un,.un,.un,.un],rfl,?_,c'/36,l++[c'%36],_,rfl,by simp[hl],λx a0=>?_⟩
   ·refine v9 (vv0 (l:=l.map .int) (d:=.int (c'%36)) rfl rfl (by rw[List.length_map];omega)) ?_
    rw[List.map_append];rfl
   ·rcases C3.mp a0 with q|q
    ·exact hx x q
    ·rw[List.mem_singleton.mp q];omega) ⟨_,[],_,rfl,rfl,λx hx=>by cases hx⟩
 obtain⟨c',pl,s5,rfl,Z,M⟩:=l2;rw[xi0,Int.toNat_natCast,Nat.zero_add] at Z;obtain⟨w,hw⟩:∃w:List Nat,w=pl.map cg:=⟨_,rfl⟩;have wl:w.length=n:=by rw[hw,List.length_map,Z]
 have wm:∀x∈w,x∈nameS.cps.toList:=λx hx=>by
  rw[hw] at hx;obtain⟨i,hi,rfl⟩:=A9.mp hx;exact iu0 i (M i hi).1 (M i hi).2
 have U:∀(G:GS) (r:Option Res),G [.sh (.int c'),.sh (.int t),.sh (.str U4),.sh (.int (n:Int)),.ow (.lst (pl.map .int)),s5,.sh (.str (strOf w)),.un,.un,.un]=r ->
   (v8 (n6 (gN 2) (gc (.str "abcdefghijklmnopqrstuvwxyz0123456789")))
    (v8 (n6 (gN 3) (o2 (gc (.int 1)) (o2 (gv 0) (gc (.int 8)) d7) j6))
    (v8 (n6 (gN 0) (o2 (gv 0) (gc (.int 8)) Y4))
    (v8 (T7 4 (Y8 v7))
    (v8 (T8 (V9 (z9 (gv 3) v7)) (gN 5) PB)
    (v8 (n6 (gN 6) (yx0 (ui0 (gc (.str "")) (z9 (R5 1 [2] (yy0 (gv 4)) (gN 0) noT (o2 (gv 1) (gv 0) ixD)) v7)))) G)))))) [.sh (.int c),.sh (.int t),.un,.un,.un,.un,.un,.un,.un,.un]=r:=λG r hG=>by
  refine v9 (j4 (d:=.str U4) rfl) (v9 (j4 (d:=.int (n:Int)) (by rw[hn];rfl)) (v9 (j4 (d:=.int (c/8)) rfl) (v9 (δ':=[.sh (.int (c/8)),.sh (.int t),.sh (.str U4),.sh (.int (n:Int)),.ow (.lst []),.un,.un,.un,.un,.un]) rfl (v9 (T6 (items:=W4 0 (n:Int)) (M5 (cons_of rfl rfl) (by omega) (by omega)) l1) (v9 (j4 (d:=.str (strOf w)) ?_) hG)))));show Option.bind _ _=_;rw[ck0 (x:=.str "") (ds:=[.lst ((ones w).map .str)]) rfl (cons_of (O7 (items:=pl.map .int) rfl (by rw[List.length_map];omega) (by
   rw[J7 (λd=>match d with|.int i=>.str ⟨#[cg i]⟩|_=>.non) (λd hd=>by
    obtain⟨i,hi,rfl⟩:=A9.mp hd;refine⟨[.sh (.int i),.sh (.str U4)],rfl,rfl,?_⟩;rw[o5 (x:=.str U4) (y:=.int i) rfl rfl];exact l50 i (M i hi).1 (M i hi).2)]
   rw[hw];unfold ones;rw[List.map_map,List.map_map,List.map_map];rfl)) rfl)]
  have e1:=strs_map id (ones w);have a1:vn0 ((ones w).map D.str)=some (ones w):=by simpa using e1
  simp only[pa0];rw[a1,Option.bind_some,qi0,join_ones,if_pos (by
   have:("" : PySem.Str).length=0:=by decide +kernel
   rw[this];omega)]
  rfl
 by_cases hb:t/8%3=1
 ·refine⟨(List.range 8).map λk=>strOf ((List.replicate 8 w).flatten.take (k+1)),G9 rfl (U _ _ (J6 ?_)),by simp,λs hs=>?_,?_⟩
  ·rw[U8 (by show some (decide (t/8%3=1))=_;rw[decide_eq_true hb])]
   refine J6 (yl0 (O7 (items:=(List.range 8).map λ(k:Nat)=>D.int ((k:Int)+1)) rfl (by simp;omega) ?_));rw[J7 (λd=>match d with|.int i=>.str (strOf ((List.replicate 8 w).flatten.take i.toNat))|_=>.non) (λd hd=>by
    obtain⟨k,hk,rfl⟩:=A9.mp hd;have hk:=E5.mp hk;refine⟨[.sh (.int ((k:Int)+1)),.sh (.str (strOf w))],rfl,rfl,?_⟩;have hm:o2 (gc (.int 8)) (gv 1) rl0 [.sh (.int ((k:Int)+1)),.sh (.str (strOf w))]=some (.str (strOf (List.replicate 8 w).flatten)):=by
     rw[o5 (x:=.int 8) (y:=.str (strOf w)) rfl rfl];simp only[rl0];rw[if_pos ⟨by decide,by decide,by rw[z50,wl];show n*8<=_;omega⟩];exact D1 (λs=>some (D.str s)) (gg0 w 8)
    have J:(List.replicate 8 w).flatten.length=8*n:=by simp[wl];omega
    unfold O3;rw[hm];show slA (.str (strOf (List.replicate 8 w).flatten)) none (some ((k:Int)+1))=_;simp only[slA];rw[if_pos (by rw[z50,J];omega),i60 _ _ (by omega) (by rw[J];omega)])]
   rw[List.map_map,List.map_map];rfl
  ·obtain⟨k,hk,rfl⟩:=A9.mp hs
   have hk:=E5.mp hk;have J:(List.replicate 8 w).flatten.length=8*n:=by simp[wl];omega
   refine qd0 _ (by rw[List.length_take,J];omega) (by rw[List.length_take];omega) λx hx=>?_
   have:=m4 hx;obtain⟨l,hl,hx⟩:=List.mem_flatten.mp this;rw[(List.mem_replicate.mp hl).2] at hx;exact wm x hx
  ·refine Ah0.mpr (Y1.mpr (Ai0 ?_ (Aj0 (n:=8))))
   intro a b ha Y a4 e;have ha:=E5.mp ha;have Y:=E5.mp Y;have e:=D1 List.length (qj0 e);have J:(List.replicate 8 w).flatten.length=8*n:=by simp[wl];omega
   rw[List.length_take,List.length_take,J] at e;omega
 ·obtain⟨a,ha⟩:∃a:Nat,(a:Int)=t%(n:Int):=⟨(t%(n:Int)).toNat,by have:=E7 t (by omega:(n:Int)≠0);omega⟩
  have a7:a<n:=by have:=E8 t (by omega:(0:Int)<n);omega
  obtain⟨p,hp⟩:∃p,p=pl.getD a 0:=⟨_,rfl⟩;have a2:0<=p/\p<36:=by
   have S:a<pl.length:=by omega
   have:p=pl[a]:=by rw[hp];simp[List.getD_eq_getElem?_getD,S]
   rw[this];exact M _ (D5 S)
  let F:Nat->List Nat:=λk=>w.take a++cg ((p+4*(k:Int))%36)::w.drop (a+1)
  have Fl:∀k,(F k).length=n:=λk=>by
   show (w.take a++cg ((p+4*(k:Int))%36)::w.drop (a+1)).length=n;rw[List.length_append,List.length_cons,List.length_take,List.length_drop];omega
  obtain⟨a3,m1,m2⟩:=O9 (f:=gN 5) (G:=PC) (λi δ=>∃(s5 s9:Sl),δ=[.sh (.int c'),.sh (.int t),.sh (.str U4),.sh (.int (n:Int)),.ow (.lst (pl.map .int)),s5,.sh (.str (strOf w)),.sh (.int (a:Int)),.ow (.lst (((List.range i).map λk=>strOf (F k)).map .str)),s9]) (W4 0 8) 0
   [.sh (.int c'),.sh (.int t),.sh (.str U4),.sh (.int (n:Int)),.ow (.lst (pl.map .int)),s5,.sh (.str (strOf w)),.sh (.int (a:Int)),.ow (.lst []),.un] (by
    rintro j d δ hj ⟨s5,s9,rfl⟩;obtain⟨O,rfl⟩:=y40 hj;have O:j<8:=O;rw[Nat.zero_add];refine⟨_,[.sh (.int c'),.sh (.int t),.sh (.str U4),.sh (.int (n:Int)),.ow (.lst (pl.map .int)),.sh (.int (j:Int)),.sh (.str (strOf w)),.sh (.int (a:Int)),.ow (.lst (((List.range (j+1)).map λk=>strOf (F k)).map .str)),.sh (.str ⟨#[cg ((p+4*(j:Int))%36)]⟩)],rfl,?_,_,_,rfl⟩;refine v9 (j4 (d:=.str ⟨#[cg ((p+4*(j:Int))%36)]⟩) ?_) ?_
    ·rw[o5 (x:=.str U4) (y:=.int ((p+4*(j:Int))%36)) rfl (by
      rw[o5 (x:=.int (p+4*(j:Int))) (y:=.int 36) (by
       rw[o5 (x:=.int p) (y:=.int (4*(j:Int))) (by
        have q:o2 (gv 4) (gv 7) ixD (frz [.sh (.int c'),.sh (.int t),.sh (.str U4),.sh (.int (n:Int)),.ow (.lst (pl.map .int)),.sh (.int (j:Int)),.sh (.str (strOf w)),.sh (.int (a:Int)),.ow (.lst (((List.range j).map λk=>strOf (F k)).map .str)),s9])=some (.int p):=by
         rw[o5 (x:=.lst (pl.map .int)) (y:=.int (a:Int)) rfl rfl];show atI (pl.map D.int) (a:Int)=_;have S:a<pl.length:=by omega
         rw[K1 (by omega) (by rw[List.length_map];omega) .non,hp];simp[List.getD_eq_getElem?_getD,S]
        show Option.bind _ _=_;exact(D1 (λo=>Option.bind o _) q).trans rfl) (by rw[o5 (x:=.int 4) (y:=.int (j:Int)) rfl rfl];exact mul_r _ _ (by omega))]
       rfl) rfl]
      rfl)]
     exact l50 _ (by omega) (by omega)
    ·refine v9 (vv0 (l:=((List.range j).map λk=>strOf (F k)).map .str) (d:=.str (strOf (F j))) rfl ?_ (by simp;omega)) ?_
     ·have t1:O3 (gv 6) N8 (someO (gv 7)) [.sh (.int c'),.sh (.int t),.sh (.str U4),.sh (.int (n:Int)),.ow (.lst (pl.map .int)),.sh (.int (j:Int)),.sh (.str (strOf w)),.sh (.int (a:Int)),.ow (.lst (((List.range j).map λk=>strOf (F k)).map .str)),.sh (.str ⟨#[cg ((p+4*(j:Int))%36)]⟩)]=some (.str (strOf (w.take a))):=by
       show slA (.str (strOf w)) none (some (a:Int))=_;simp only[slA];rw[if_pos (by rw[z50,wl];omega),i60 _ _ (by omega) (by omega),Int.toNat_natCast]
      have t2:O3 (gv 6) (someO (o2 (gv 7) (gc (.int 1)) j6)) N8 [.sh (.int c'),.sh (.int t),.sh (.str U4),.sh (.int (n:Int)),.ow (.lst (pl.map .int)),.sh (.int (j:Int)),.sh (.str (strOf w)),.sh (.int (a:Int)),.ow (.lst (((List.range j).map λk=>strOf (F k)).map .str)),.sh (.str ⟨#[cg ((p+4*(j:Int))%36)]⟩)]=some (.str (strOf (w.drop (a+1)))):=by
       show slA (.str (strOf w)) (some ((a:Int)+1)) none=_;simp only[slA];rw[if_pos (by rw[z50,wl];omega),be0 _ _ (by omega) (by omega),show ((a:Int)+1).toNat=a+1 by omega]
      change o2 _ _ _ [.sh (.int c'),.sh (.int t),.sh (.str U4),.sh (.int (n:Int)),.ow (.lst (pl.map .int)),.sh (.int (j:Int)),.sh (.str (strOf w)),.sh (.int (a:Int)),.ow (.lst (((List.range j).map λk=>strOf (F k)).map .str)),.sh (.str ⟨#[cg ((p+4*(j:Int))%36)]⟩)]=_
      rw[o5 (x:=.str (strOf (w.take a++[cg ((p+4*(j:Int))%36)]))) (y:=.str (strOf (w.drop (a+1)))) (by
       rw[o5 t1 rfl];exact km0 _ [cg ((p+4*(j:Int))%36)] (by rw[List.length_take];simp;omega)) t2]
      rw[km0 _ _ (by rw[List.length_append,List.length_take,List.length_drop];simp;omega)];show some (D.str (strOf _))=some (D.str (strOf (w.take a++cg ((p+4*(j:Int))%36)::w.drop (a+1))));rw[List.append_assoc];rfl
     ·rw[List.range_succ,List.map_append,List.map_append]
      rfl) ⟨_,_,rfl⟩
  obtain⟨a5,s9,rfl⟩:=m2;refine⟨(List.range 8).map λk=>strOf (F k),G9 rfl (U _ _ (v9 (δ':=[.sh (.int c'),.sh (.int t),.sh (.str U4),.sh (.int (n:Int)),.ow (.lst (pl.map .int)),s5,.sh (.str (strOf w)),.un,.un,.un]) ?_ (v9 (j4 (d:=.int (a:Int)) ?_) (v9 (δ':=[.sh (.int c'),.sh (.int t),.sh (.str U4),.sh (.int (n:Int)),.ow (.lst (pl.map .int)),s5,.sh (.str (strOf w)),.sh (.int (a:Int)),.ow (.lst []),.un]) rfl (v9 (T6 (items:=W4 0 8) rfl m1) (J6 rfl)))))),by simp,λs hs=>?_,?_⟩
  ·rw[Z0 (by show some (decide (t/8%3=1))=_;rw[decide_eq_false hb])];rfl
  ·rw[o5 (x:=.int t) (y:=.int (n:Int)) rfl rfl,z40 _ _ (by omega),ha]
  ·obtain⟨k,hk,rfl⟩:=A9.mp hs
   refine qd0 _ (by rw[Fl];omega) (by rw[Fl];omega) λx hx=>?_
   rcases C3.mp hx with q|q
   ·exact wm x (m4 q)
   ·rcases C0.mp q with q|q
    ·rw[q];exact iu0 _ (by omega) (by omega)
    ·exact wm x (Ch0 q)
  ·refine Ah0.mpr (Y1.mpr (Ai0 ?_ (Aj0 (n:=8))))
   intro x y hx hy a6 e;have hx:=E5.mp hx;have hy:=E5.mp hy;have e:w.take a++cg ((p+4*(x:Int))%36)::w.drop (a+1)=w.take a++cg ((p+4*(y:Int))%36)::w.drop (a+1):=qj0 e;have e:=List.append_cancel_left e;injection e with e _
   have:=ax0 _ _ (by omega) (by omega) (by omega) (by omega) e;omega
end Gw
namespace Gw
open Ma
open DL W
theorem vw0(c k:Int)(hk:0<=k/\k<=1000000):∃x,0<=x/\x<2147483647/\X5 [.int c,.int k]=some (.int x):=by
 refine⟨(c%2147483647+1)*(48271+7*k)%2147483647,E7 _ (by decide),E8 _ (by decide),j5 rfl (o8 (Z1 ?_))⟩;rw[o5 (x:=.int ((c%2147483647+1)*(48271+7*k))) (y:=.int 2147483647) (by
  rw[o5 (x:=.int (c%2147483647+1)) (y:=.int (48271+7*k)) rfl (by
   rw[o5 (x:=.int 48271) (y:=.int (7*k)) rfl (by rw[o5 (x:=.int 7) (y:=.int k) rfl rfl];exact mul_r _ _ (by omega))];rfl)]
  exact mul_r _ _ (by omega)) rfl]
 rfl
structure Vk(v:D)(m:Int):Prop where
 ok:ss0 v=true
 bd:∀i,v=.int i->i.natAbs<10 ^ 60
 lk:∀k,lk v=some k->k<m
theorem Yn0:m00 (.int 10) (.int 60)=some (.int (10 ^ 60)):=by kernel_rfl
theorem xp0(x m:Int)(hx:0<=x/\x<2 ^ 40)(hm:0<m):∃v,T9 [.int x,.int m]=some v/\Vk v m:=by
 have z:(100:Nat)<=sizeLine:=by decide
 have s0:n6 (gN 2) (o2 (gv 0) (gc (.int 10)) d7) [.sh (.int x),.sh (.int m),.un]=some (.nx [.sh (.int x),.sh (.int m),.sh (.int (x%10))]):=rfl;have el:∀k:Int,ob (o2 (gv 2) (gc (.int k)) ltD) [.sh (.int x),.sh (.int m),.sh (.int (x%10))]=some (decide (x%10<k)):=λk=>rfl
 have ee:∀k:Int,ob (o2 (gv 2) (gc (.int k)) eqD) [.sh (.int x),.sh (.int m),.sh (.int (x%10))]=some (decide (x%10=k)):=λk=>rfl
 have nl:∀(k:Int) (A:GS),¬x%10<k->ifD (ob (o2 (gv 2) (gc (.int k)) ltD)) A p7 [.sh (.int x),.sh (.int m),.sh (.int (x%10))]=some (.nx [.sh (.int x),.sh (.int m),.sh (.int (x%10))]):=λk A h=>by
  rw[Z0 (by rw[el,decide_eq_false h])];rfl
 have ne:∀(k:Int) (A:GS),¬x%10=k->ifD (ob (o2 (gv 2) (gc (.int k)) eqD)) A p7 [.sh (.int x),.sh (.int m),.sh (.int (x%10))]=some (.nx [.sh (.int x),.sh (.int m),.sh (.int (x%10))]):=λk A h=>by
  rw[Z0 (by rw[ee,decide_eq_false h])];rfl
 by_cases h6:x%10<6
 ·have O:0<=x/10%m:=E7 _ (by omega)
  have U:x/10%m<m:=E8 _ hm;refine⟨.tup [.str "at",.int (x/10%m)],j5 rfl (v9 s0 (o8 ?_)),by simp[ss0,marks,O],(λi hi=>by cases hi),λk hk=>?_⟩
  ·rw[U8 (by rw[el,decide_eq_true h6])]
   exact o8 (Z1 (X6 (cons_of rfl (cons_of (d:=.int (x/10%m)) (by
    rw[o5 (x:=.int (x/10)) (y:=.int m) rfl rfl];exact z40 _ _ hm) rfl)) (by show 2<=sizeLine;omega)))
  ·have:=B4 hk
   omega
 by_cases e6:x%10=6
 ·refine⟨.non,j5 rfl (v9 s0 (v9 (nl 6 _ h6) (o8 ?_))),rfl,(λi hi=>by cases hi),λk hk=>by cases hk⟩
  rw[U8 (by rw[ee,decide_eq_true e6])];rfl
 have J:(10:Nat) ^ 60=1000000000000000000000000000000000000000000000000000000000000:=by decide
 by_cases h9:x%10<9
 ·refine⟨.int (x/10%3 - 1),j5 rfl (v9 s0 (v9 (nl 6 _ h6) (v9 (ne 6 _ e6) (o8 ?_)))),rfl,(λi hi=>?_),λk hk=>by cases hk⟩
  ·rw[U8 (by rw[el,decide_eq_true h9])];rfl
  ·injection hi with hi
   rw[J];omega
 ·obtain⟨b,hb⟩:∃b:Int,b=(x/10) ^ 7%10 ^ 60:=⟨_,rfl⟩
  have M:(10:Int) ^ 60=1000000000000000000000000000000000000000000000000000000000000:=by decide
  have b0:0<=b:=by rw[hb];exact E7 _ (by decide)
  have b1:b<10 ^ 60:=by rw[hb];exact E8 _ (by decide)
  obtain⟨q,hq,S⟩:∃q:Int,q=1 - 2*(x/20%2)/\(q=1∨q=-1):=⟨_,rfl,by omega⟩;refine⟨.int (b*q),j5 rfl (v9 s0 (v9 (nl 6 _ h6) (v9 (ne 6 _ e6) (v9 (nl 9 _ h9) (o8 (Z1 ?_)))))),rfl,(λi hi=>?_),λk hk=>by cases hk⟩
  ·rw[o5 (x:=.int b) (y:=.int q) (by
    rw[o5 (x:=.int ((x/10) ^ 7)) (y:=.int (10 ^ 60)) (by
     rw[o5 (x:=.int (x/10)) (y:=.int 7) rfl rfl];simp only[m00,ii];rw[if_pos ⟨by decide,by decide,by omega⟩];rfl) (by rw[o5 (x:=.int 10) (y:=.int 60) rfl rfl];exact Yn0)]
    rw[z40 _ _ (by decide),hb]) (by
    rw[o5 (x:=.int 1) (y:=.int (2*(x/20%2))) rfl (by rw[o5 (x:=.int 2) (y:=.int (x/20%2)) rfl rfl];exact mul_r _ _ (by omega)),hq];rfl)]
   exact mul_r _ _ (by omega)
  ·injection hi with hi
   rw[← hi,J];rw[M] at b1;rcases S with rfl|rfl
   ·rw[Int.mul_one];omega
   ·rw[Int.mul_neg,Int.mul_one,Int.natAbs_neg];omega
def VB:GS:=(v8 (n6 (gN 0) (o2 (o2 (gv 0) (gc (.int 48271)) U6) (gc (.int 2147483647)) d7))
 (v8 (W3 (U5 3 (oA (z9 (gv 0) (z9 (gv 2) v7)) T9)))
 p7))
theorem vq0(x:Int)(c:Nat)(m:Int)(hc:c<=1000)(hm:0<m):∃vs,M7 [.int x,.int (c:Int),.int m]=some (.lst vs)/\vs.length=c/\∀v∈vs,Vk v m:=by
 have z:(10000:Nat)<=sizeLine:=by decide
 obtain⟨δ',l1,l2⟩:=O9 (f:=gN 4) (G:=VB) (λi δ=>∃(x':Int) (vs:List D) (s4:Sl),δ=[.sh (.int x'),.sh (.int (c:Int)),.sh (.int m),.ow (.lst vs),s4]/\vs.length=i/\∀v∈vs,Vk v m) (W4 0 (c:Int)) 0
  [.sh (.int x),.sh (.int (c:Int)),.sh (.int m),.ow (.lst []),.un] (by
   rintro j d δ hj ⟨x',vs,s4,rfl,hl,hv⟩;obtain⟨J,rfl⟩:=y40 hj;rw[Int.toNat_natCast] at J;obtain⟨v,O,M⟩:=xp0 (x'*48271%2147483647) m ⟨E7 _ (by decide),by have:=E8 (x'*48271) (by decide:(0:Int)<2147483647);omega⟩ hm;refine⟨_,[.sh (.int (x'*48271%2147483647)),.sh (.int (c:Int)),.sh (.int m),.ow (.lst (vs++[v])),.sh (.int (j:Int))],rfl,?_,_,vs++[v],_,rfl,by simp[hl],λu hu=>?_⟩
   ·refine v9 (j4 (d:=.int (x'*48271%2147483647)) (by
     rw[o5 (x:=.int (x'*48271)) (y:=.int 2147483647) (by rw[o5 (x:=.int x') (y:=.int 48271) rfl rfl];exact mul_r _ _ (by omega)) rfl];rfl)) ?_
    refine v9 (vv0 (l:=vs) (d:=v) rfl (by rw[o9 (ds:=[.int (x'*48271%2147483647),.int m]) rfl];exact O) (by omega)) rfl
   ·rcases C3.mp hu with q|q
    ·exact hv u q
    ·rw[List.mem_singleton.mp q];exact M) ⟨_,[],_,rfl,rfl,λv hv=>by cases hv⟩
 obtain⟨x',vs,s4,rfl,hl,hv⟩:=l2;rw[xi0,Int.toNat_natCast,Nat.zero_add] at hl;exact⟨vs,G9 rfl (v9 (δ':=[.sh (.int x),.sh (.int (c:Int)),.sh (.int m),.ow (.lst []),.un]) rfl (v9 (T6 (items:=W4 0 (c:Int)) (M5 (cons_of rfl rfl) (by omega) (by omega)) l1) (J6 rfl))),hl,hv⟩
structure Gd(p:Pt)(m:Int)(nm:List Str):Prop where
 ok:p.Ok
 vk:∀v∈p.vals,Vk v m
 nms:∀s∈p.all,s∈nm
theorem w_a:isWord ("" : Str)=true/\isWord ("a" : Str)=true/\isWord (" a" : Str)=true:=by decide +kernel
theorem s_0:((" 0" : Str))=strOf [32,48]:=by decide +kernel
theorem j80(l:List Nat)(h2:l.length<=20)(h3:∀c∈l,c∈pd0.cps.toList):isWord (strOf l)=true:=by
 unfold isWord hasAll;rw[z50,yd0];simp only[Bool.and_eq_true,decide_eq_true_eq,List.all_eq_true];exact⟨by omega,λc hc=>by simpa using h3 c hc⟩
theorem it0:∀c∈nameS.cps.toList,c∈pd0.cps.toList:=by decide +kernel
theorem dx0:∀c∈([32,48]:List Nat),c∈pd0.cps.toList:=by decide +kernel
theorem name_mem{s:Str}(h:isName s=true):∀c∈s.cps.toList,c∈nameS.cps.toList:=by
 unfold isName hasAll at h;simp only[Bool.and_eq_true,decide_eq_true_eq,List.all_eq_true] at h;intro c hc;have:=h.1.2 c hc
 simpa using this
theorem p70(nm:List Str)(hp:Pool nm)(i:Int)(h0:0<=i)(h1:i<8):ixD (.lst (nm.map .str)) (.int i)=some (.str (nm.getD i.toNat ""))/\nm.getD i.toNat ""∈nm:=by
 have hl:=hp.len;have J:i.toNat<nm.length:=by omega
 refine⟨?_,?_⟩
 ·show atI (nm.map D.str) i=_
  rw[K1 h0 (by rw[List.length_map];omega) .non];simp[List.getD_eq_getElem?_getD,J]
 ·rw[show nm.getD i.toNat ""=nm[i.toNat] by simp[List.getD_eq_getElem?_getD,J]]
  exact D5 J
theorem c90(x m:Int)(vs:List D)(nm:List Str)(hp:Pool nm)(hv:∀v∈vs,Vk v m)(hl:vs.length<=12)(hl8:¬x%8<4->vs.length<=8):∃p:Pt,z10 [.int x,.lst vs,.lst (nm.map .str)]=some p.d/\Gd p m nm:=by
 have z:(100:Nat)<=sizeLine:=by decide
 have a5:=hp.len;have s0:n6 (gN 3) (o2 (gv 0) (gc (.int 8)) d7) [.sh (.int x),.sh (.lst vs),.sh (.lst (nm.map .str)),.un,.un,.un]=some (.nx [.sh (.int x),.sh (.lst vs),.sh (.lst (nm.map .str)),.sh (.int (x%8)),.un,.un]):=rfl
 by_cases h0:x%8=0
 ·obtain⟨w,hw,Z⟩:∃w:Str,o2 (Y8 (z9 (gc (.str "")) (z9 (gc (.str "a")) (z9 (gc (.str " a")) (z9 (o2 (o2 (gv 2) (gc (.int 0)) ixD) (gc (.str " 0")) j6) v7))))) (o2 (o2 (gv 0) (gc (.int 16)) Y4) (gc (.int 4)) d7) ixD [.sh (.int x),.sh (.lst vs),.sh (.lst (nm.map .str)),.sh (.int (x%8)),.un,.un]=some (.str w)/\isWord w=true:=by
   obtain⟨a1,a2⟩:=p70 nm hp 0 (by omega) (by omega);obtain⟨s,hs⟩:∃s,s=nm.getD (0:Int).toNat "" := ⟨_,rfl⟩;rw[← hs] at a1 a2;have hn:=hp.names s a2;have a7:=lr0 hn;have es:s=strOf s.cps.toList:=(gn0 s).symm;have a3:s.cps.toList.length<=8:=by
    have:s.length=s.cps.toList.length:=by show s.cps.size=_;simp
    omega
   rw[o5 (x:=.lst [.str "",.str "a",.str " a",.str (strOf (s.cps.toList++[32,48]))]) (y:=.int (x/16%4)) (z60 (cons_of rfl (cons_of rfl (cons_of rfl (cons_of (d:=.str (strOf (s.cps.toList++[32,48]))) (by
    rw[o5 (x:=.str s) (y:=.str " 0") (by rw[o5 (x:=.lst (nm.map .str)) (y:=.int 0) rfl rfl];exact a1) rfl];have e:j6 (.str (strOf s.cps.toList)) (.str (strOf [32,48]))=some (.str (strOf (s.cps.toList++[32,48]))):=km0 _ _ (by simp only[List.length_cons,List.length_nil];omega);rw[← es,← s_0] at e;exact e) rfl)))) (by show 4<=sizeLine;omega)) rfl]
   have q:x/16%4=0∨x/16%4=1∨x/16%4=2∨x/16%4=3:=by omega
   rcases q with q|q|q|q<;>rw[q]
   ·exact⟨_,rfl,w_a.1⟩
   ·exact⟨_,rfl,w_a.2.1⟩
   ·exact⟨_,rfl,w_a.2.2⟩
   ·refine⟨_,rfl,j80 _ (by simp only[List.length_append,List.length_cons,List.length_nil];omega) λc hc=>?_⟩
    rcases C3.mp hc with q|q
    ·exact it0 c (name_mem hn c q)
    ·exact dx0 c q
  refine⟨.text w,j5 rfl (v9 s0 (o8 ?_)),Z,(λv hv=>by cases hv),λs hs=>by cases hs⟩;rw[U8 (by show some (decide (x%8=0))=_;rw[decide_eq_true h0])];exact o8 (Z1 (X6 (cons_of rfl (cons_of hw rfl)) (by show 2<=sizeLine;omega)))
 have n0:∀A:GS,ifD (ob (o2 (gv 3) (gc (.int 0)) eqD)) A p7 [.sh (.int x),.sh (.lst vs),.sh (.lst (nm.map .str)),.sh (.int (x%8)),.un,.un]=some (.nx [.sh (.int x),.sh (.lst vs),.sh (.lst (nm.map .str)),.sh (.int (x%8)),.un,.un]):=λA=>by
  rw[Z0 (by show some (decide (x%8=0))=_;rw[decide_eq_false h0])];rfl
 by_cases h4:x%8<4
 ·refine⟨.row vs,j5 rfl (v9 s0 (v9 (n0 _) (o8 ?_))),⟨hl,λv q=>(hv v q).ok⟩,hv,λs hs=>by cases hs⟩
  rw[U8 (by show some (decide (x%8<4))=_;rw[decide_eq_true h4])];exact o8 (Z1 (X6 (cons_of rfl (cons_of (by rw[o9 (ds:=[.lst vs]) rfl];rfl) rfl)) (by show 2<=sizeLine;omega)))
 have n4:∀A:GS,ifD (ob (o2 (gv 3) (gc (.int 4)) ltD)) A p7 [.sh (.int x),.sh (.lst vs),.sh (.lst (nm.map .str)),.sh (.int (x%8)),.un,.un]=some (.nx [.sh (.int x),.sh (.lst vs),.sh (.lst (nm.map .str)),.sh (.int (x%8)),.un,.un]):=λA=>by
  rw[Z0 (by show some (decide (x%8<4))=_;rw[decide_eq_false h4])];rfl
 have a4:=hl8 h4;obtain⟨st,U⟩:∃st:Int,st=x/8%2*3:=⟨_,rfl⟩;have a0:0<=st/\st<=3:=by omega
 obtain⟨ns,O⟩:∃ns:Nat->Str,ns=λ(j:Nat)=>nm.getD ((st+(j:Int))%8).toNat "" := ⟨_,rfl⟩
 have Y:∀j,ns j∈nm:=λj=>by rw[O];exact(p70 nm hp ((st+(j:Int))%8) (by omega) (by omega)).2
 obtain⟨ps,M⟩:∃ps:List (Str×D),ps=(List.range vs.length).map λj=>(ns j,vs.getD j .non):=⟨_,rfl⟩
 have snd:ps.map (·.2)=vs:=by
  rw[M,List.map_map];refine D10 (by simp) λi h1 h2=>?_
  simp[List.getD_eq_getElem?_getD,h2]
 have fst:∀s∈ps.map (·.1),s∈nm:=λs hs=>by
  obtain⟨p,J,rfl⟩:=A9.mp hs;rw[M] at J;obtain⟨j,_,rfl⟩:=A9.mp J;exact Y j
 have S:PsOk ps:=by
  refine⟨by rw[M];simp;omega,λp J=>hp.names _ (fst _ (A9.mpr ⟨p,J,rfl⟩)),λp J=>(hv p.2 (by rw[← snd];exact A9.mpr ⟨p,J,rfl⟩)).ok,?_⟩;rw[M,List.map_map];refine Ah0.mpr (Y1.mpr (Ai0 ?_ (Aj0 (n:=vs.length))));intro a b ha hb a6 e;have ha:=E5.mp ha;have hb:=E5.mp hb;have e:ns a=ns b:=e;rw[O] at e;have la:((st+(a:Int))%8).toNat<nm.length:=by omega
  have lb:((st+(b:Int))%8).toNat<nm.length:=by omega
  have e:nm.getD ((st+(a:Int))%8).toNat ""=nm.getD ((st+(b:Int))%8).toNat "" := e;rw[show nm.getD ((st+(a:Int))%8).toNat ""=nm[((st+(a:Int))%8).toNat] by simp[List.getD_eq_getElem?_getD,la],show nm.getD ((st+(b:Int))%8).toNat ""=nm[((st+(b:Int))%8).toNat] by simp[List.getD_eq_getElem?_getD,lb]] at e;have:=(x0 hp.nd).mp e;omega
 have s4:n6 (gN 4) (o2 (o2 (o2 (gv 0) (gc (.int 8)) Y4) (gc (.int 2)) d7) (gc (.int 3)) U6) [.sh (.int x),.sh (.lst vs),.sh (.lst (nm.map .str)),.sh (.int (x%8)),.un,.un]=some (.nx [.sh (.int x),.sh (.lst vs),.sh (.lst (nm.map .str)),.sh (.int (x%8)),.sh (.int st),.un]):=j4 (d:=.int st) (by
  rw[o5 (x:=.int (x/8%2)) (y:=.int 3) rfl rfl,mul_r _ _ (by omega),U])
 have s5:n6 (gN 5) (oA (z9 (R5 1 [1,2,4] (V9 (z9 (oA (z9 (gv 1) v7) X4) v7)) (gN 0) noT (Z6 (z9 (o2 (gv 2) (o2 (o2 (gv 3) (gv 0) j6) (gc (.int 8)) d7) ixD) (z9 (o2 (gv 1) (gv 0) ixD) v7)))) v7) O1) [.sh (.int x),.sh (.lst vs),.sh (.lst (nm.map .str)),.sh (.int (x%8)),.sh (.int st),.un]=some (.nx [.sh (.int x),.sh (.lst vs),.sh (.lst (nm.map .str)),.sh (.int (x%8)),.sh (.int st),.sh (.tup (ps.map pr))]):=j4 (d:=.tup (ps.map pr)) (by
  rw[o9 (ds:=[.lst (ps.map pr)]) (cons_of (O7 (items:=W4 0 (vs.length:Int)) (M5 (cons_of rfl rfl) (by omega) (by omega)) (by rw[xi0];omega) (by
   rw[M,List.map_map];have q:=n00 (gt:=noT) (ge:=(Z6 (z9 (o2 (gv 2) (o2 (o2 (gv 3) (gv 0) j6) (gc (.int 8)) d7) ixD) (z9 (o2 (gv 1) (gv 0) ixD) v7)))) (δ:=[.un,.sh (.lst vs),.sh (.lst (nm.map .str)),.sh (.int st)]) (n:=(vs.length:Int)) (λj=>pr (ns j,vs.getD j .non)) (λk hk=>⟨[.sh (.int (k:Int)),.sh (.lst vs),.sh (.lst (nm.map .str)),.sh (.int st)],rfl,rfl,by
    refine X6 (cons_of (d:=.str (ns k)) ?_ (cons_of (d:=vs.getD k .non) ?_ rfl)) (by show 2<=sizeLine;omega)
    ·rw[o5 (x:=.lst (nm.map .str)) (y:=.int ((st+(k:Int))%8)) rfl rfl,O]
     exact(p70 nm hp _ (by omega) (by omega)).1
    ·rw[o5 (x:=.lst vs) (y:=.int (k:Int)) rfl rfl]
     show atI vs (k:Int)=_;rw[K1 (by omega) (by omega) .non,Int.toNat_natCast]⟩)
   rw[Int.toNat_natCast] at q;exact q)) rfl)]
  rfl)
 by_cases h6:x%8<6
 ·refine⟨.table ps,j5 rfl (v9 s0 (v9 (n0 _) (v9 (n4 _) (v9 s4 (v9 s5 (o8 ?_)))))),S,by show ∀v∈ps.map (·.2),Vk v m;rw[snd];exact hv,λs hs=>fst s (by simpa [Pt.all,Pt.pnames,Pt.cls] using hs)⟩
  rw[U8 (by show some (decide (x%8<6))=_;rw[decide_eq_true h6])];exact o8 (Z1 (X6 (cons_of rfl (cons_of rfl rfl)) (by show 2<=sizeLine;omega)))
 ·obtain⟨a1,a2⟩:=p70 nm hp (x/16%2) (by omega) (by omega)
  refine⟨.rcd (nm.getD (x/16%2).toNat "") ps,j5 rfl (v9 s0 (v9 (n0 _) (v9 (n4 _) (v9 s4 (v9 s5 (v9 (δ':=[.sh (.int x),.sh (.lst vs),.sh (.lst (nm.map .str)),.sh (.int (x%8)),.sh (.int st),.sh (.tup (ps.map pr))]) ?_ (o8 (Z1 ?_)))))))),⟨hp.names _ a2,S⟩,by show ∀v∈ps.map (·.2),Vk v m;rw[snd];exact hv,λs hs=>?_⟩
  ·rw[Z0 (by show some (decide (x%8<6))=_;rw[decide_eq_false h6])];rfl
  ·exact X6 (cons_of rfl (cons_of (by
    rw[o5 (x:=.lst (nm.map .str)) (y:=.int (x/16%2)) rfl rfl];exact a1) (cons_of rfl rfl))) (by show 3<=sizeLine;omega)
  ·rcases C3.mp hs with q|q
   ·exact fst s q
   ·have:=L5.mp q
    rw[this];exact a2
def WB:GS:=(v8 (n6 (gN 5) (oA (z9 (o2 (o2 (gv 0) (o2 (gv 4) (oA (z9 (gv 0) v7) X4) d7) ixD) (o2 (gv 4) (o2 (gv 4) (oA (z9 (gv 0) v7) X4) Y4) U6) j6) (z9 (gv 4) v7)) X5))
 (v8 (n6 (gN 6) (o2 (Y8 (z9 (gc (.int 0)) (z9 (gc (.int 1)) (z9 (gc (.int 2)) (z9 (gc (.int 2)) (z9 (gc (.int 3)) (z9 (gc (.int 2)) (z9 (gc (.int 3)) (z9 (gc (.int 1)) v7))))))))) (o2 (o2 (gv 5) (gc (.int 32)) Y4) (gc (.int 8)) d7) ixD))
 (v8 (ifD (ob (o2 (o2 (o2 (gv 5) (gc (.int 256)) Y4) (gc (.int 16)) d7) (gc (.int 3)) eqD))
 (v8 (n6 (gN 6) (o2 (Y8 (z9 (gc (.int 8)) (z9 (gc (.int 12)) v7))) (oA (z9 (o2 (o2 (gv 5) (gc (.int 8)) d7) (gc (.int 4)) ltD) v7) intOfD) ixD))
 p7)
 p7)
 (v8 (n6 (gN 7) (oA (z9 (o2 (o2 (gv 5) (gc (.int 8)) Y4) (gc (.int 1)) j6) (z9 (gv 6) (z9 (gv 1) v7))) M7))
 (v8 (W3 (U5 3 (oA (z9 (gv 5) (z9 (gv 7) (z9 (gv 2) v7))) z10)))
 p7)))))
theorem Y20(cs:List Int)(hc:0<cs.length/\cs.length<=1000)(m:Int)(hm:0<m/\m<=1000)(nm:List Str)(hp:Pool nm)(k:Nat)(hk:k<=1000)(acc:List D)(ha:acc.length<=2000)(s5 s6 s7:Sl) :
  ∃(p:Pt) (t5 t6 t7:Sl),Gd p m nm/\WB [.sh (.lst (cs.map .int)),.sh (.int m),.sh (.lst (nm.map .str)),.ow (.lst acc),.sh (.int (k:Int)),s5,s6,s7]=some (.nx [.sh (.lst (cs.map .int)),.sh (.int m),.sh (.lst (nm.map .str)),.ow (.lst (acc++[p.d])),.sh (.int (k:Int)),t5,t6,t7]):=by
 have z:(10000:Nat)<=sizeLine:=by decide
 obtain⟨l,hl⟩:∃l:Int,l=(cs.length:Int):=⟨_,rfl⟩;have Y:0<=(k:Int)%l:=E7 _ (by omega);have hi1:(k:Int)%l<l:=E8 _ (by omega);obtain⟨c,O⟩:∃c:Int,ixD (.lst (cs.map .int)) (.int ((k:Int)%l))=some (.int c):=by
  have a2:((k:Int)%l).toNat<cs.length:=by omega
  refine⟨cs[((k:Int)%l).toNat],?_⟩;show atI (cs.map D.int) _=_;rw[K1 Y (by rw[List.length_map];omega) .non];simp[List.getD_eq_getElem?_getD,a2]
 have a6:(k:Int)/l<=1000/\0<=(k:Int)/l:=by
  have h1:=Int.ediv_le_self l (show (0:Int)<=(k:Int) by omega);have h2:=Int.ediv_nonneg (show (0:Int)<=(k:Int) by omega) (show (0:Int)<=l by omega);omega
 obtain⟨x,a7,a5,hx⟩:=vw0 (c+(k:Int)*((k:Int)/l)) (k:Int) ⟨by omega,by omega⟩;obtain⟨n,hn,a3,Z⟩:∃n:Nat,(n:Int)=(if x/256%16=3 then (if x%8<4 then 12 else 8) else [0,1,2,2,3,2,3,1].getD (x/32%8).toNat 0)/\n<=12/\(¬x%8<4->n<=8):=by
  split
  ·split
   ·exact⟨12,rfl,by omega,λh=>absurd (by assumption) h⟩
   ·exact⟨8,rfl,by omega,λ_=>by omega⟩
  ·have q:x/32%8=0∨x/32%8=1∨x/32%8=2∨x/32%8=3∨x/32%8=4∨x/32%8=5∨x/32%8=6∨x/32%8=7:=by omega
   rcases q with q|q|q|q|q|q|q|q<;>rw[q]
   ·exact⟨0,rfl,by omega,λ_=>by omega⟩
   ·exact⟨1,rfl,by omega,λ_=>by omega⟩
   ·exact⟨2,rfl,by omega,λ_=>by omega⟩
   ·exact⟨2,rfl,by omega,λ_=>by omega⟩
   ·exact⟨3,rfl,by omega,λ_=>by omega⟩
   ·exact⟨2,rfl,by omega,λ_=>by omega⟩
   ·exact⟨3,rfl,by omega,λ_=>by omega⟩
   ·exact⟨1,rfl,by omega,λ_=>by omega⟩
 obtain⟨vs,S,a4,a1⟩:=vq0 (x/8+1) n m (by omega) (by omega);obtain⟨p,U,a0⟩:=c90 x m vs nm hp a1 (by omega) (λh=>by have:=Z h;omega);refine⟨p,.sh (.int x),.sh (.int (n:Int)),.sh (.lst vs),a0,?_⟩;unfold WB;have J:∀(s5 s6 s7:Sl),oA (z9 (gv 0) v7) X4 [.sh (.lst (cs.map .int)),.sh (.int m),.sh (.lst (nm.map .str)),.ow (.lst acc),.sh (.int (k:Int)),s5,s6,s7]=some (.int l):=λs5 s6 s7=>by
  rw[o9 (ds:=[.lst (cs.map .int)]) rfl];show some (D.int (((cs.map D.int).length:Nat):Int))=_;rw[List.length_map,hl]
 refine v9 (j4 (d:=.int x) ?_) ?_
 ·rw[o9 (ds:=[.int (c+(k:Int)*((k:Int)/l)),.int (k:Int)]) (cons_of (d:=.int (c+(k:Int)*((k:Int)/l))) (by
   rw[o5 (x:=.int c) (y:=.int ((k:Int)*((k:Int)/l))) (by
    rw[o5 (x:=.lst (cs.map .int)) (y:=.int ((k:Int)%l)) rfl (by rw[o5 (x:=.int (k:Int)) (y:=.int l) rfl (J _ _ _)];exact z40 _ _ (by omega))];exact O) (by
    rw[o5 (x:=.int (k:Int)) (y:=.int ((k:Int)/l)) rfl (by rw[o5 (x:=.int (k:Int)) (y:=.int l) rfl (J _ _ _)];exact sa0 _ _ ⟨by omega,by omega⟩)];exact mul_r _ _ (by omega))]
   rfl) rfl)]
  exact hx
 obtain⟨n0,M⟩:∃n0:Int,n0=[0,1,2,2,3,2,3,1].getD (x/32%8).toNat 0:=⟨_,rfl⟩;refine v9 (j4 (d:=.int n0) ?_) ?_
 ·rw[o5 (x:=.lst [.int 0,.int 1,.int 2,.int 2,.int 3,.int 2,.int 3,.int 1]) (y:=.int (x/32%8)) (z60 rfl (by show 8<=sizeLine;omega)) rfl]
  rw[M];have q:x/32%8=0∨x/32%8=1∨x/32%8=2∨x/32%8=3∨x/32%8=4∨x/32%8=5∨x/32%8=6∨x/32%8=7:=by omega
  rcases q with q|q|q|q|q|q|q|q<;>rw[q]<;>rfl
 refine v9 (δ':=[.sh (.lst (cs.map .int)),.sh (.int m),.sh (.lst (nm.map .str)),.ow (.lst acc),.sh (.int (k:Int)),.sh (.int x),.sh (.int (n:Int)),s7]) ?_ ?_
 ·change ifD _ _ _ [.sh (.lst (cs.map .int)),.sh (.int m),.sh (.lst (nm.map .str)),.ow (.lst acc),.sh (.int (k:Int)),.sh (.int x),.sh (.int n0),s7]=_
  rw[hn]
  by_cases h:x/256%16=3
  ·rw[U8 (by show some (decide (x/256%16=3))=_;rw[decide_eq_true h]),if_pos h]
   refine v9 (j4 (d:=.int (if x%8<4 then 12 else 8)) ?_) rfl;rw[o5 (x:=.lst [.int 8,.int 12]) (y:=.int (if decide (x%8<4)=true then 1 else 0)) (z60 rfl (by show 2<=sizeLine;omega)) rfl]
   by_cases q:x%8<4
   ·rw[if_pos (S2 q),if_pos q];rfl
   ·rw[if_neg (by simpa using q),if_neg q];rfl
  ·rw[Z0 (by show some (decide (x/256%16=3))=_;rw[decide_eq_false h]),if_neg h,M];rfl
 refine v9 (j4 (d:=.lst vs) (by
  rw[o9 (ds:=[.int (x/8+1),.int (n:Int),.int m]) rfl];exact S)) ?_
 refine v9 (vv0 (l:=acc) (d:=p.d) rfl (by
  rw[o9 (ds:=[.int x,.lst vs,.lst (nm.map .str)]) rfl];exact U) (by omega)) rfl
theorem nu0(cs:List Int)(hc:0<cs.length/\cs.length<=1000)(m:Nat)(hm:0<m/\m<=1000)(nm:List Str)(hp:Pool nm) :
  ∃ps:List Pt,zl0 [.lst (cs.map .int),.int (m:Int),.lst (nm.map .str)]=some (.tup (ps.map Pt.d))/\ps.length=m/\∀p∈ps,Gd p (m:Int) nm:=by
 have z:(10000:Nat)<=sizeLine:=by decide
 obtain⟨δ',l1,l2⟩:=O9 (f:=gN 4) (G:=WB) (λi δ=>∃(ps:List Pt) (s4 s5 s6 s7:Sl),δ=[.sh (.lst (cs.map .int)),.sh (.int (m:Int)),.sh (.lst (nm.map .str)),.ow (.lst (ps.map Pt.d)),s4,s5,s6,s7]/\ps.length=i/\∀p∈ps,Gd p (m:Int) nm) (W4 0 (m:Int)) 0
  [.sh (.lst (cs.map .int)),.sh (.int (m:Int)),.sh (.lst (nm.map .str)),.ow (.lst []),.un,.un,.un,.un] (by
   rintro j d δ hj ⟨ps,s4,s5,s6,s7,rfl,hl,hg⟩;obtain⟨J,rfl⟩:=y40 hj;rw[Int.toNat_natCast] at J;obtain⟨p,t5,t6,t7,h1,h2⟩:=Y20 cs hc (m:Int) (by omega) nm hp j (by omega) (ps.map Pt.d) (by rw[List.length_map];omega) s5 s6 s7;refine⟨_,_,rfl,h2,ps++[p],_,t5,t6,t7,by rw[List.map_append];rfl,by simp[hl],λq hq=>?_⟩;rcases C3.mp hq with a|a
   ·exact hg q a
   ·rw[List.mem_singleton.mp a];exact h1) ⟨[],_,_,_,_,rfl,rfl,λp hp=>by cases hp⟩
 obtain⟨ps,s4,s5,s6,s7,rfl,hl,hg⟩:=l2;rw[xi0,Int.toNat_natCast,Nat.zero_add] at hl;refine⟨ps,j5 rfl (v9 (δ':=[.sh (.lst (cs.map .int)),.sh (.int (m:Int)),.sh (.lst (nm.map .str)),.ow (.lst []),.un,.un,.un,.un]) rfl (v9 (T6 (items:=W4 0 (m:Int)) (M5 (cons_of rfl rfl) (by omega) (by omega)) l1) (o8 (Z1 ?_)))),hl,hg⟩;show oA (z9 (gv 3) v7) O1 (frz _)=_;rw[o9 (ds:=[.lst (ps.map Pt.d)]) rfl];rfl
theorem q80(ps:List (Str×D)):N7 (J9 0 1) noT (gv 1) [.un,.un] (ps.map pr)=some (ps.map (·.2)):=by
 rw[J7 (λd=>match d with|.tup [_,v]=>v|_=>.non) (λd hd=>by
  obtain⟨p,hp,rfl⟩:=A9.mp hd;exact⟨_,rfl,rfl,rfl⟩),List.map_map]
 rfl
theorem jt0(ps:List (Str×D)):N7 (J9 0 1) noT (gv 0) [.un,.un] (ps.map pr)=some ((ps.map (·.1)).map .str):=by
 rw[J7 (λd=>match d with|.tup [v,_]=>v|_=>.non) (λd hd=>by
  obtain⟨p,hp,rfl⟩:=A9.mp hd;exact⟨_,rfl,rfl,rfl⟩),List.map_map,List.map_map]
 rfl
theorem rn0(p:Pt)(h:p.few):m5 [p.d]=some (.lst p.vals):=by
 cases p with
 | text w=>kernel_rfl
 | row vs =>
  refine G9 rfl (v9 (δ':=[.sh (Pt.row vs).d]) (by rw[Z0 (by kernel_rfl)];rfl) (J6 (by rw[U8 (by kernel_rfl)];rfl)))
 | table ps =>
  refine G9 rfl (v9 (δ':=[.sh (Pt.table ps).d]) (by rw[Z0 (by kernel_rfl)];rfl) (v9 (δ':=[.sh (Pt.table ps).d]) (by rw[Z0 (by kernel_rfl)];rfl) (J6 (yl0 ?_))));exact O7 (items:=ps.map pr) rfl (by have:(ps.map (·.2)).length<=sizeLine:=h;simpa using this) (q80 ps)
 | rcd c ps =>
  refine G9 rfl (v9 (δ':=[.sh (Pt.rcd c ps).d]) (by rw[Z0 (by kernel_rfl)];rfl) (v9 (δ':=[.sh (Pt.rcd c ps).d]) (by rw[Z0 (by kernel_rfl)];rfl) (J6 (yl0 ?_))));exact O7 (items:=ps.map pr) rfl (by have:(ps.map (·.2)).length<=sizeLine:=h;simpa using this) (q80 ps)
theorem nh0(xs:List D)(x:D):cutD (xs++[x]) none (some (-1))=xs:=by
 unfold cutD;have i1:sIx (xs++[x]).length (xs++[x]).length (some (-1))=xs.length:=by
  show (if (-1:Int)<0 then ((-1:Int)+((xs++[x]).length:Int)).toNat else min (-1:Int).toNat (xs++[x]).length)=_;rw[if_pos (by decide),List.length_append];simp only[List.length_cons,List.length_nil];omega
 rw[i1];show ((xs++[x]).drop 0).take (xs.length - 0)=_;simp
theorem rv0(p:Pt)(h:p.few):Z5 [p.d]=some (Pn.hd p):=by
 have z:(100:Nat)<=sizeLine:=by decide
 have key:∀(xs:List D) (ps:List (Str×D)),(ps.map (·.2)).length<=sizeLine->xs.length<=10->o2 (O3 (gv 0) N8 (someO (unG zs0 (gc (.int 1))))) (Z6 (z9 (oA (z9 (R5 2 [] (tupI (o2 (gv 0) (unG zs0 (gc (.int 1))) ixD)) (J9 0 1) noT (gv 0)) v7) O1) v7)) j6 [.sh (.tup (xs++[.tup (ps.map pr)]))]=some (.tup (xs++[.tup ((ps.map (·.1)).map .str)])):=λxs ps hl hx=>by
  have a1:o2 (gv 0) (unG zs0 (gc (.int 1))) ixD [.sh (.tup (xs++[.tup (ps.map pr)]))]=some (.tup (ps.map pr)):=by
   rw[o5 (x:=.tup (xs++[.tup (ps.map pr)])) (y:=.int (-1)) rfl rfl];show atI (xs++[.tup (ps.map pr)]) (-1)=_;unfold atI ixN;rw[if_neg (by decide),if_pos (by rw[List.length_append];simp only[List.length_cons,List.length_nil];omega)];rw[show ((-1:Int)+((xs++[D.tup (ps.map pr)]).length:Int)).toNat=xs.length by rw[List.length_append];simp only[List.length_cons,List.length_nil];omega];simp
  rw[o5 (x:=.tup xs) (y:=.tup [.tup ((ps.map (·.1)).map .str)]) (by
   show slA (.tup (xs++[.tup (ps.map pr)])) none (some (-1))=_;simp only[slA];rw[nh0]) (X6 (cons_of (by
    rw[o9 (ds:=[.lst ((ps.map (·.1)).map .str)]) (cons_of (O7 (items:=ps.map pr) (by unfold tupI;rw[a1];rfl) (by simpa using hl) (jt0 ps)) rfl)];rfl) rfl) (by show 1<=sizeLine;omega))]
  simp only[j6];rw[if_pos (by simp only[List.length_cons,List.length_nil];omega)]
 cases p with
 | text w=>kernel_rfl
 | row vs=>kernel_rfl
 | table ps =>
  exact j5 rfl (v9 (δ':=[.sh (Pt.table ps).d]) (by rw[Z0 (by kernel_rfl)];rfl) (v9 (δ':=[.sh (Pt.table ps).d]) (by rw[Z0 (by kernel_rfl)];rfl) (o8 (Z1 (key [.str "table"] ps h (by simp))))))
 | rcd c ps =>
  exact j5 rfl (v9 (δ':=[.sh (Pt.rcd c ps).d]) (by rw[Z0 (by kernel_rfl)];rfl) (v9 (δ':=[.sh (Pt.rcd c ps).d]) (by rw[Z0 (by kernel_rfl)];rfl) (o8 (Z1 (key [.str "record",.str c] ps h (by simp))))))
theorem fc0(xs:List D)(x:D):atI (xs++[x]) (-1)=some x:=by
 unfold atI ixN;rw[if_neg (by decide),if_pos (by rw[List.length_append];simp only[List.length_cons,List.length_nil];omega)];rw[show ((-1:Int)+((xs++[x]).length:Int)).toNat=xs.length by rw[List.length_append];simp only[List.length_cons,List.length_nil];omega];simp
theorem l80(p:Pt)(h:p.few)(vs:List D)(hl:vs.length=p.vals.length∨p.vals=[]/\vs=[]):V4 [p.d,.lst vs]=some (Pn.put p vs).d:=by
 have z:(100:Nat)<=sizeLine:=by decide
 have zz:(sizeLine:Int)<2 ^ 62:=by decide
 have key:∀(xs:List D) (ps:List (Str×D)),ps.length=vs.length->ps.length<=sizeLine->xs.length<=10 ->
   o2 (O3 (gv 0) N8 (someO (unG zs0 (gc (.int 1))))) (Z6 (z9 (oA (z9 (R5 1 [0,1] (V9 (z9 (oA (z9 (gv 1) v7) X4) v7)) (gN 0) noT (Z6 (z9 (o2 (o2 (o2 (gv 1) (unG zs0 (gc (.int 1))) ixD) (gv 0) ixD) (gc (.int 0)) ixD) (z9 (o2 (gv 2) (gv 0) ixD) v7)))) v7) O1) v7)) j6 [.sh (.tup (xs++[.tup (ps.map pr)])),.sh (.lst vs)]=some (.tup (xs++[.tup (((ps.map (·.1)).zip vs).map pr)])):=λxs ps hp hz hx=>by
  have hc:oA (z9 (R5 1 [0,1] (V9 (z9 (oA (z9 (gv 1) v7) X4) v7)) (gN 0) noT (Z6 (z9 (o2 (o2 (o2 (gv 1) (unG zs0 (gc (.int 1))) ixD) (gv 0) ixD) (gc (.int 0)) ixD) (z9 (o2 (gv 2) (gv 0) ixD) v7)))) v7) O1 [.sh (.tup (xs++[.tup (ps.map pr)])),.sh (.lst vs)]=some (.tup (((ps.map (·.1)).zip vs).map pr)):=by
   rw[o9 (ds:=[.lst (((ps.map (·.1)).zip vs).map pr)]) (cons_of (O7 (items:=W4 0 (vs.length:Int)) (M5 (cons_of rfl rfl) (by omega) (by omega)) (by rw[xi0];omega) (by
    have q:=n00 (gt:=noT) (ge:=(Z6 (z9 (o2 (o2 (o2 (gv 1) (unG zs0 (gc (.int 1))) ixD) (gv 0) ixD) (gc (.int 0)) ixD) (z9 (o2 (gv 2) (gv 0) ixD) v7)))) (δ:=[.un,.sh (.tup (xs++[.tup (ps.map pr)])),.sh (.lst vs)]) (n:=(vs.length:Int)) (λj=>pr ((ps.map (·.1)).getD j "",vs.getD j .non)) (λk hk=>⟨[.sh (.int (k:Int)),.sh (.tup (xs++[.tup (ps.map pr)])),.sh (.lst vs)],rfl,rfl,by
     have M:k<ps.length:=by omega
     refine X6 (cons_of (d:=.str ((ps.map (·.1)).getD k "")) ?_ (cons_of (d:=vs.getD k .non) ?_ rfl)) (by show 2<=sizeLine;omega)
     ·rw[o5 (x:=pr ps[k]) (y:=.int 0) (by
       rw[o5 (x:=.tup (ps.map pr)) (y:=.int (k:Int)) (by
        rw[o5 (x:=.tup (xs++[.tup (ps.map pr)])) (y:=.int (-1)) rfl rfl];exact fc0 _ _) rfl]
       show atI (ps.map pr) (k:Int)=_;rw[K1 (by omega) (by rw[List.length_map];omega) .non,Int.toNat_natCast];simp[List.getD_eq_getElem?_getD,M]) rfl]
      simp[List.getD_eq_getElem?_getD,M];rfl
     ·rw[o5 (x:=.lst vs) (y:=.int (k:Int)) rfl rfl]
      show atI vs (k:Int)=_;rw[K1 (by omega) (by omega) .non,Int.toNat_natCast]⟩)
    rw[Int.toNat_natCast] at q;refine q.trans ?_;congr 1;refine D10 (by simp;omega) λi h1 h2=>?_
    have hi:i<vs.length:=by simpa using h1
    have hi2:i<ps.length:=by omega
    simp[List.getD_eq_getElem?_getD,hi,hi2])) rfl)]
   rfl
  rw[o5 (x:=.tup xs) (y:=.tup [.tup (((ps.map (·.1)).zip vs).map pr)]) (by
   show slA (.tup (xs++[.tup (ps.map pr)])) none (some (-1))=_;simp only[slA];rw[nh0]) (X6 (cons_of hc rfl) (by show 1<=sizeLine;omega))]
  simp only[j6];rw[if_pos (by simp only[List.length_cons,List.length_nil];omega)]
 have J:∀ps:List (Str×D),p.vals=ps.map (·.2)->ps.length=vs.length:=λps e=>by
  rcases hl with q|⟨q1,q2⟩
  ·rw[q,e,List.length_map]
  ·rw[q2];rw[q1] at e;have:=D1 List.length e;simp at this;simpa using this.symm
 cases p with
 | text w=>kernel_rfl
 | row us=>kernel_rfl
 | table ps =>
  exact j5 rfl (v9 (δ':=[.sh (Pt.table ps).d,.sh (.lst vs)]) (by rw[Z0 (by kernel_rfl)];rfl) (v9 (δ':=[.sh (Pt.table ps).d,.sh (.lst vs)]) (by rw[Z0 (by kernel_rfl)];rfl) (o8 (Z1 (key [.str "table"] ps (J ps rfl) (by have:(ps.map (·.2)).length<=sizeLine:=h;simpa using this) (by simp))))))
 | rcd c ps =>
  exact j5 rfl (v9 (δ':=[.sh (Pt.rcd c ps).d,.sh (.lst vs)]) (by rw[Z0 (by kernel_rfl)];rfl) (v9 (δ':=[.sh (Pt.rcd c ps).d,.sh (.lst vs)]) (by rw[Z0 (by kernel_rfl)];rfl) (o8 (Z1 (key [.str "record",.str c] ps (J ps rfl) (by have:(ps.map (·.2)).length<=sizeLine:=h;simpa using this) (by simp))))))
end Gw
namespace K22
open DL W
theorem Zt0{g1 g2:GB}{b1 b2:Bool}(h1:g1 δ=some b1)(h2:g2 δ=some b2):G5 g1 g2 δ=some (b1&&b2):=by
 unfold G5;rw[h1];cases b1
 ·rfl
 ·show g2 δ=_
  rw[h2];rfl
def Lv(n:Nat)(v:D):Prop:=v=.non∨(∃z,v=.int z)∨∃j:Nat,v=.tup [.str "at",.int (j:Int)]/\j<n
structure Pw(n:Nat)(p:Pt):Prop where
 few:p.vals.length<=12
 lv:∀v∈p.vals,Lv n v
theorem Pw.f{p:Pt}(h:Pw n p):p.few:=by
 have z:(12:Nat)<=sizeLine:=by decide
 exact C5 h.few z
structure Web(ps:List Pt):Prop where
 len:0<ps.length/\ps.length<=60
 pw:∀p∈ps,Pw ps.length p
def wd(ps:List Pt):D:=.tup (ps.map Pt.d)
theorem Web.at(h:Web ps)(hi:i<ps.length):ixD (wd ps) (.int (i:Int))=some ps[i].d/\(ps.map Pt.d).getD i .non=ps[i].d/\Pw ps.length ps[i]:=by
 refine⟨?_,?_,h.pw _ (D5 hi)⟩
 ·show atI (ps.map Pt.d) (i:Int)=_
  rw[K1 (by omega) (by rw[List.length_map];omega) .non,Int.toNat_natCast];simp[hi]
 ·simp[hi]
theorem nf0(p:Pt)(vs:List D)(h:vs.length=p.vals.length):(Pn.put p vs).vals=vs:=by
 cases p with
 | text w=>exact(M1 h).symm
 | row us=>rfl
 | table ps =>
  show ((ps.map (·.1)).zip vs).map (·.2)=vs;refine n5 ?_;have h':vs.length=(ps.map (·.2)).length:=h;simp only[List.length_map] at h' ⊢;omega
 | rcd c ps =>
  show ((ps.map (·.1)).zip vs).map (·.2)=vs;refine n5 ?_;have h':vs.length=(ps.map (·.2)).length:=h;simp only[List.length_map] at h' ⊢;omega
end K22
namespace K22
open DL W
theorem Yw0{p:Pt}{nm:List Str}(h:Gw.Gd p (m:Int) nm):Pw m p:=by
 refine⟨?_,λv hv=>?_⟩
 ·have ok:=h.ok
  cases p with
  | text w=>show 0<=12;decide
  | row vs=>exact ok.1
  | table ps=>show (ps.map (·.2)).length<=12;rw[List.length_map];exact ok.len
  | rcd c ps=>show (ps.map (·.2)).length<=12;rw[List.length_map];exact ok.2.len
 ·have k:=h.vk v hv
  rcases qa0 k.ok with rfl|⟨i,rfl⟩|⟨i,rfl,hi⟩
  ·exact .inl rfl
  ·exact .inr (.inl ⟨i,rfl⟩)
  ·have:=k.lk i rfl
   exact .inr (.inr ⟨i.toNat,by rw[Int.toNat_of_nonneg hi],by omega⟩)
theorem j90{v:D}(h:Lv n v)(k:Nat):lean v (k+1)=true:=by
 rcases h with rfl|⟨z,rfl⟩|⟨j,rfl,_⟩<;>simp[lean,leans]
theorem q30{k:Nat}(h:∀x∈l,lean x k=true):leans l k=true:=by
 induction l with
 | nil=>rfl
 | cons a l ih=>rw[leans,h a A5,ih λx hx=>h x (C2 _ hx)];rfl
end K22
namespace Bw
open DL W
theorem yj0{g:GE}{b:Bool}(h:g δ=some (.bl b)):ob g δ=some b:=by
 unfold ob;rw[h];rfl
end Bw
namespace Ta
open Ma
open DL W K22
def pN(p:Nat×Nat):D:=.tup [.int (p.1:Int),.int (p.2:Int)]
def k2(p:Nat×Nat):List J2:=[.inl (p.1:Int),.inl (p.2:Int)]
theorem J3{p:Nat×Nat}(h:k2 p=k2 q):p=q:=by
 unfold k2 at h;injection h with h1 h2
 injection h2 with h2 _
 injection h1 with h1
 injection h2 with h2
 exact E1 (by omega) (by omega)
theorem ox0(ks:List (List J2))(k:List J2):N6 ks k=true↔k∈ks:=by
 unfold N6;rw[List.any_eq_true];constructor
 ·rintro⟨x,hx,e⟩
  rw[← of_decide_eq_true e];exact hx
 ·intro h
  exact⟨k,h,S2 rfl⟩
def Dc(L:List (Nat×Nat))(d:D):Prop:=∃ks vs,d=.dct (.inr ks) vs/\∀x,x∈ks↔∃p∈L,x=k2 p
theorem kc0{L:List (Nat×Nat)}{d:D}(h:Dc L d)(p:Nat×Nat):R8 true (pN p) d=some (.bl (decide (p∉L))):=by
 obtain⟨ks,vs,rfl,hk⟩:=h;show some (D.bl (xor true (N6 ks (k2 p))))=_
 by_cases z:p∈L
 ·rw[(ox0 ks _).mpr ((hk _).mpr ⟨p,z,rfl⟩),decide_eq_false (λq=>q z)];rfl
 ·have:N6 ks (k2 p)=false:=by
   cases e:N6 ks (k2 p) with
   | false=>rfl
   | true =>
    obtain⟨q,hq,e2⟩:=(hk _).mp ((ox0 ks _).mp e);exact absurd (J3 e2▸hq) z
  rw[this,decide_eq_true z];rfl
theorem gh0{v:D}(h:Lv n v):Pn.Pl v:=by
 refine⟨j90 h 49,?_⟩;rcases h with rfl|⟨z,rfl⟩|⟨j,rfl,_⟩<;>simp[Pn.nb,Pn.nbs]
def zr0(p:Prop)(o:Option D):Prop:=(p->o=some (.bl true))/\(¬p->o=some (.bl false))
theorem Xr0{v w:D}(hv:Lv n v)(hw:Lv m w):zr0 (v≠w) (Q5 v w) :=
 ⟨λe=>Pn.rr0 (gh0 hv) (gh0 hw) e,λe=>by
  have:=Y2.mp e;subst this;exact Pn.tf0 (gh0 hv).le⟩
theorem zj0{p:Prop}{g:GE}(h:zr0 p (g δ)):(p->ob g δ=some true)/\(¬p->ob g δ=some false) :=
 ⟨λz=>by unfold ob;rw[h.1 z];rfl,λz=>by unfold ob;rw[h.2 z];rfl⟩
theorem dp0(v w:D):V5 [.tup [v,w]]=some (.bl (isTup v&&isTup w)):=by
 refine j5 rfl (o8 (Z1 ?_));unfold v00;rw[show ob (V7 isTup (o2 (gv 0) (gc (.int 0)) ixD)) (W5 t90 [.tup [v,w]])=some (isTup v) from rfl,Option.bind_some];cases isTup v with
 | false=>rfl
 | true=>rw[if_pos rfl];rfl
def pa(ps:List Pt)(i:Nat):Pt:=ps.getD i (.row [])
theorem W9(h:Web ps)(hi:i<ps.length):ixD (wd ps) (.int (i:Int))=some (pa ps i).d/\Pw ps.length (pa ps i):=by
 obtain⟨a,_,c⟩:=h.at hi;have:pa ps i=ps[i]:=by unfold pa;simp[hi]
 rw[this];exact⟨a,c⟩
theorem wo0(ps:List Pt)(δ:Ds)(h:gv i δ=some (wd ps)):oA (z9 (gv i) v7) X4 δ=some (.int (ps.length:Int)):=by
 rw[o9 (ds:=[wd ps]) (cons_of h rfl)];show some (D.int ((ps.map Pt.d).length:Int))=_;rw[List.length_map]
end Ta
namespace Ta
open Ma
open DL W K22
theorem m60{p:Pt}(h:Pw n p):Z5 [p.d]=some (Pn.hd p):=by
 have zs:(1000:Nat)<=sizeLine:=by decide
 have hf:=h.few;have nc:∀ps:List (Str×D),N7 (J9 0 1) noT (gv 0) [.un,.un] (ps.map pr)=some ((ps.map (·.1)).map .str):=λps=>by
  rw[J7 (λd=>match d with|.tup [a,_]=>a|_=>.non) (λd hd=>by
   obtain⟨q,_,rfl⟩:=A9.mp hd;exact⟨[.sh (.str q.1),.sh q.2],rfl,rfl,rfl⟩),List.map_map,List.map_map]
  rfl
 cases p with
 | text w=>kernel_rfl
 | row vs =>
  have hf:vs.length<=12:=hf;refine j5 rfl (o8 ?_);rw[U8 (by kernel_rfl)];exact o8 (Z1 (X6 (cons_of rfl (cons_of rfl rfl)) (by show 2<=sizeLine;omega)))
 | table ps =>
  have hf:(ps.map (·.2)).length<=12:=hf;rw[List.length_map] at hf;refine j5 rfl (v9 (δ':=[.sh (Pt.table ps).d]) (by rw[Z0 (by kernel_rfl)];rfl) (v9 (δ':=[.sh (Pt.table ps).d]) (by rw[Z0 (by kernel_rfl)];rfl) (o8 (Z1 ?_))));rw[o5 (x:=.tup [.str "table"]) (y:=.tup [.tup ((ps.map (·.1)).map .str)]) rfl (X6 (cons_of (by
   rw[o9 (ds:=[.lst ((ps.map (·.1)).map .str)]) (cons_of (O7 (items:=ps.map pr) rfl (by rw[List.length_map];omega) (nc ps)) rfl)];rfl) rfl) (by show 1<=sizeLine;omega))]
  rfl
 | rcd c ps =>
  have hf:(ps.map (·.2)).length<=12:=hf;rw[List.length_map] at hf;refine j5 rfl (v9 (δ':=[.sh (Pt.rcd c ps).d]) (by rw[Z0 (by kernel_rfl)];rfl) (v9 (δ':=[.sh (Pt.rcd c ps).d]) (by rw[Z0 (by kernel_rfl)];rfl) (o8 (Z1 ?_))));rw[o5 (x:=.tup [.str "record",.str c]) (y:=.tup [.tup ((ps.map (·.1)).map .str)]) rfl (X6 (cons_of (by
   rw[o9 (ds:=[.lst ((ps.map (·.1)).map .str)]) (cons_of (O7 (items:=ps.map pr) rfl (by rw[List.length_map];omega) (nc ps)) rfl)];rfl) rfl) (by show 1<=sizeLine;omega))]
  rfl
theorem tv0{p q:Pt}(h:Pn.hd p=Pn.hd q):p.vals.length=q.vals.length:=by
 have inj:∀{a b:List (Str×D)},D.tup ((a.map (·.1)).map .str)=D.tup ((b.map (·.1)).map .str)->(a.map (·.2)).length=(b.map (·.2)).length:=λ{a b} e=>by
  injection e with e
  have:=D1 List.length e
  simpa using this
 cases p with
 | text w =>
  cases q with
  | text w'=>rfl
  | row vs=>injection h with h;injection h with h _;injection h with h;exact absurd h (by decide +kernel)
  | table ps=>injection h with h;injection h with h _;injection h with h;exact absurd h (by decide +kernel)
  | rcd c ps=>injection h with h;injection h with h _;injection h with h;exact absurd h (by decide +kernel)
 | row vs =>
  cases q with
  | text w'=>injection h with h;injection h with h _;injection h with h;exact absurd h (by decide +kernel)
  | row ws =>
   injection h with h
   injection h with _ h
   injection h with h _
   injection h with h
   show vs.length=ws.length;omega
  | table ps=>injection h with h;injection h with h _;injection h with h;exact absurd h (by decide +kernel)
  | rcd c ps=>injection h with h;injection h with h _;injection h with h;exact absurd h (by decide +kernel)
 | table as =>
  cases q with
  | text w'=>injection h with h;injection h with h _;injection h with h;exact absurd h (by decide +kernel)
  | row vs=>injection h with h;injection h with h _;injection h with h;exact absurd h (by decide +kernel)
  | table ps =>
   injection h with h
   injection h with _ h
   injection h with h _
   exact inj h
  | rcd c ps=>injection h with h;injection h with h _;injection h with h;exact absurd h (by decide +kernel)
 | rcd c as =>
  cases q with
  | text w'=>injection h with h;injection h with h _;injection h with h;exact absurd h (by decide +kernel)
  | row vs=>injection h with h;injection h with h _;injection h with h;exact absurd h (by decide +kernel)
  | table ps=>injection h with h;injection h with h _;injection h with h;exact absurd h (by decide +kernel)
  | rcd c' ps =>
   injection h with h
   injection h with _ h
   injection h with _ h
   injection h with h _
   exact inj h
def gl1:D×D->Option (Nat×Nat)
 | (.tup [_,.int i],.tup [_,.int j])=>some (i.toNat,j.toNat)
 | _=>none
def gl(z:List (D×D)):List (Nat×Nat):=z.filterMap gl1
def nl(q:D×D):Prop:=(isTup q.1=true/\isTup q.2=true)∨q.1=q.2
def GB:GS:=(v8 (ifD (G5 (ob (V7 isTup (o2 (gv 4) (gv 6) ixD))) (ob (V7 isTup (o2 (gv 5) (gv 6) ixD))))
 (v8 (W3 (U5 3 (Z6 (z9 (o2 (o2 (gv 4) (gv 6) ixD) (gc (.int 1)) ixD) (z9 (o2 (o2 (gv 5) (gv 6) ixD) (gc (.int 1)) ixD) v7)))))
 p7)
 (v8 (ifD (ob (o2 (o2 (gv 4) (gv 6) ixD) (o2 (gv 5) (gv 6) ixD) Q5))
 (v8 (j7 (gc .non))
 p7)
 p7)
 p7))
 p7)
theorem jj0(z:List (D×D)):(gl z).length<=z.length:=List.length_filterMap_le _ _
theorem Ys0{vs ws:List D}(hv:∀v∈vs,Lv n v)(hw:∀w∈ws,Lv m w)(hl:vs.length=ws.length)(h12:vs.length<=12)(a b c:Sl)(i:Nat)(hi:i<vs.length) :
  (nl (vs[i],ws[i]'(by omega))->GB [a,b,c,.ow (.lst ((gl ((vs.zip ws).take i)).map pN)),.sh (.lst vs),.sh (.lst ws),.sh (.int (i:Int))]=some (.nx [a,b,c,.ow (.lst ((gl ((vs.zip ws).take (i+1))).map pN)),.sh (.lst vs),.sh (.lst ws),.sh (.int (i:Int))])) /\
  (¬nl (vs[i],ws[i]'(by omega))->GB [a,b,c,.ow (.lst ((gl ((vs.zip ws).take i)).map pN)),.sh (.lst vs),.sh (.lst ws),.sh (.int (i:Int))]=some (.rt .non)):=by
 have zs:(1000:Nat)<=sizeLine:=by decide
 have S:i<ws.length:=by omega
 have g4:∀s:Sl,o2 (gv 4) (gv 6) ixD [a,b,c,s,.sh (.lst vs),.sh (.lst ws),.sh (.int (i:Int))]=some vs[i]:=λs=>by
  rw[o5 (x:=.lst vs) (y:=.int (i:Int)) rfl rfl];show atI vs (i:Int)=_;rw[K1 (by omega) (by omega) .non,Int.toNat_natCast];simp[List.getD_eq_getElem?_getD,hi]
 have g5:∀s:Sl,o2 (gv 5) (gv 6) ixD [a,b,c,s,.sh (.lst vs),.sh (.lst ws),.sh (.int (i:Int))]=some ws[i]:=λs=>by
  rw[o5 (x:=.lst ws) (y:=.int (i:Int)) rfl rfl];show atI ws (i:Int)=_;rw[K1 (by omega) (by omega) .non,Int.toNat_natCast];simp[List.getD_eq_getElem?_getD,S]
 have tk:(vs.zip ws).take (i+1)=(vs.zip ws).take i++[(vs[i],ws[i])]:=by
  rw[List.take_succ,List.getElem?_eq_getElem (by rw[List.length_zip];omega),List.getElem_zip];rfl
 have J:gl ((vs.zip ws).take (i+1))=gl ((vs.zip ws).take i)++(gl1 (vs[i],ws[i])).toList:=by
  rw[tk];unfold gl;rw[List.filterMap_append];congr 1
 have M:=hv _ (D5 hi);have O:=hw _ (D5 S);have U:(gl ((vs.zip ws).take i)).length<=12:=C5 (jj0 _) (by rw[List.length_take,List.length_zip];omega);generalize gl ((vs.zip ws).take (i+1))=Z' at J ⊢;generalize gl ((vs.zip ws).take i)=Z at J U ⊢;generalize vs[i]=v at g4 J M ⊢;generalize ws[i]=w at g5 J O ⊢;have ht:G5 (ob (V7 isTup (o2 (gv 4) (gv 6) ixD))) (ob (V7 isTup (o2 (gv 5) (gv 6) ixD))) [a,b,c,.ow (.lst (Z.map pN)),.sh (.lst vs),.sh (.lst ws),.sh (.int (i:Int))]=some (isTup v&&isTup w):=by
  refine Zt0 ?_ ?_
  ·unfold ob V7;rw[g4];rfl
  ·unfold ob V7;rw[g5];rfl
 by_cases hb:isTup v=true/\isTup w=true
 ·refine⟨λ_=>?_,λz=>absurd (.inl hb) z⟩
  rw[hb.1,hb.2] at ht;obtain⟨x,rfl,_⟩:∃j:Nat,v=.tup [.str "at",.int (j:Int)]/\j<n:=by
   rcases M with rfl|⟨z,rfl⟩|h
   ·exact absurd hb.1 (by simp)
   ·exact absurd hb.1 (by simp)
   ·exact h
  obtain⟨y,rfl,_⟩:∃j:Nat,w=.tup [.str "at",.int (j:Int)]/\j<m:=by
   rcases O with rfl|⟨z,rfl⟩|h
   ·exact absurd hb.2 (by simp)
   ·exact absurd hb.2 (by simp)
   ·exact h
  have e:gl1 (D.tup [.str "at",.int (x:Int)],D.tup [.str "at",.int (y:Int)])=some (x,y):=by
   unfold gl1;simp only[Int.toNat_natCast]
  rw[e] at J;rw[J];refine v9 (δ':=[a,b,c,.ow (.lst ((Z++[(x,y)]).map pN)),.sh (.lst vs),.sh (.lst ws),.sh (.int (i:Int))]) ?_ rfl;rw[U8 ht];refine v9 ((Gw.vv0 (l:=Z.map pN) (d:=pN (x,y)) rfl ?_ (by rw[List.length_map];omega)).trans ?_) rfl
  ·exact X6 (cons_of (by rw[o5 (x:=.tup [.str "at",.int (x:Int)]) (y:=.int 1) (g4 _) rfl];rfl) (cons_of (by rw[o5 (x:=.tup [.str "at",.int (y:Int)]) (y:=.int 1) (g5 _) rfl];rfl) rfl)) (by show 2<=sizeLine;omega)
  ·rw[List.map_append];rfl
 ·have a0:(isTup v&&isTup w)=false:=by
   cases e1:isTup v with
   | false=>rfl
   | true =>
    cases e2:isTup w with
    | false=>rfl
    | true=>exact absurd ⟨e1,e2⟩ hb
  rw[a0] at ht;have en:gl1 (v,w)=none:=by
   rcases M with rfl|⟨z,rfl⟩|⟨j,rfl,_⟩<;>rcases O with rfl|⟨z',rfl⟩|⟨j',rfl,_⟩<;>first|rfl|exact absurd ⟨rfl,rfl⟩ hb
  rw[en] at J;have J:Z'=Z:=by rw[J];simp
  rw[J];have Y:nl (v,w)↔v=w:=⟨λz=>z.resolve_left hb,.inr⟩;rw[Y];obtain⟨t1,t2⟩:=zj0 (g:=o2 (o2 (gv 4) (gv 6) ixD) (o2 (gv 5) (gv 6) ixD) Q5) (δ:=[a,b,c,.ow (.lst (Z.map pN)),.sh (.lst vs),.sh (.lst ws),.sh (.int (i:Int))]) (p:=v≠w) (by
   rw[o5 (x:=v) (y:=w) (g4 _) (g5 _)];exact Xr0 M O)
  refine⟨λz=>?_,λz=>?_⟩
  ·refine v9 (δ':=[a,b,c,.ow (.lst (Z.map pN)),.sh (.lst vs),.sh (.lst ws),.sh (.int (i:Int))]) ?_ rfl
   rw[Z0 ht];refine v9 (δ':=[a,b,c,.ow (.lst (Z.map pN)),.sh (.lst vs),.sh (.lst ws),.sh (.int (i:Int))]) ?_ rfl;rw[Z0 (t2 λq=>q z)];rfl
  ·refine o8 ?_
   rw[Z0 ht];refine o8 ?_;rw[U8 (t1 z)];rfl
theorem ow0(n:Nat):W4 0 (n:Int)=(List.range' 0 n).map λ(k:Nat)=>D.int (k:Int):=by
 unfold W4;rw[List.range_eq_range',show ((n:Int) - 0).toNat=n by omega];refine A70 λk _=>?_
 congr 1;omega
theorem lh0(n:Nat)(st:Nat->Sl->Ds)(hf:∀i s d,gN j d (st i s)=some (st i (.sh d)))(ok:Nat->Prop)(r:D)(hG:∀i,i<n->(ok i->G (st i (.sh (.int (i:Int))))=some (.nx (st (i+1) (.sh (.int (i:Int))))))/\(¬ok i->G (st i (.sh (.int (i:Int))))=some (.rt r))) :
  ∀(m i:Nat) (s:Sl),i+m=n->((∀k,i<=k->k<n->ok k)->∃s',W2 (gN j) G ((List.range' i m).map λ(k:Nat)=>D.int (k:Int)) (st i s)=some (.nx (st n s')))/\(¬(∀k,i<=k->k<n->ok k)->W2 (gN j) G ((List.range' i m).map λ(k:Nat)=>D.int (k:Int)) (st i s)=some (.rt r))
 | 0,i,s,h=>by
  have:i=n:=by omega
  subst this;exact⟨λ_=>⟨s,rfl⟩,λz=>absurd (λk h1 h2=>by omega) z⟩
 | m+1,i,s,h=>by
  obtain⟨g1,g2⟩:=hG i (by omega);rw[List.range'_succ,List.map_cons];have un:W2 (gN j) G (D.int (i:Int)::(List.range' (i+1) m).map λ(k:Nat)=>D.int (k:Int)) (st i s)=(match G (st i (.sh (.int (i:Int)))) with|some (.nx δ')=>W2 (gN j) G ((List.range' (i+1) m).map λ(k:Nat)=>D.int (k:Int)) δ'|some (.ct δ')=>W2 (gN j) G ((List.range' (i+1) m).map λ(k:Nat)=>D.int (k:Int)) δ'|some (.bk δ')=>some (.nx δ')|r=>r):=by
   conv=>lhs;unfold W2
   rw[hf];rfl
  rw[un]
  by_cases hk:ok i
  ·rw[g1 hk]
   obtain⟨i1,i2⟩:=lh0 n st hf ok r hG m (i+1) (.sh (.int (i:Int))) (by omega);refine⟨λz=>i1 λk h1 h2=>z k (by omega) h2,λz=>i2 λq=>z λk h1 h2=>?_⟩
   by_cases e:k=i
   ·subst e;exact hk
   ·exact q k (by omega) h2
  ·rw[g2 hk]
   exact⟨λz=>absurd (z i (A4 _) (by omega)) hk,λ_=>rfl⟩
theorem tt0{p:Pt}(h:Pw n p):m5 [p.d]=some (.lst p.vals):=Gw.rn0 p h.f
theorem Xa0(hp:Web ps)(hq:Web qs){p:Nat×Nat}(h1:p.1<ps.length)(h2:p.2<qs.length) :
  (Pn.hd (pa ps p.1)=Pn.hd (pa qs p.2)/\(∀q∈(pa ps p.1).vals.zip (pa qs p.2).vals,nl q)->W7 [wd ps,wd qs,pN p]=some (.lst ((gl ((pa ps p.1).vals.zip (pa qs p.2).vals)).map pN))) /\
  (¬(Pn.hd (pa ps p.1)=Pn.hd (pa qs p.2)/\(∀q∈(pa ps p.1).vals.zip (pa qs p.2).vals,nl q))->W7 [wd ps,wd qs,pN p]=some .non):=by
 obtain⟨a1,a2⟩:=W9 hp h1;obtain⟨b1,b2⟩:=W9 hq h2;generalize pa ps p.1=P at a1 a2 ⊢;generalize pa qs p.2=R at b1 b2 ⊢;have g1:∀δ:Ds,o2 (gv 0) (o2 (gv 2) (gc (.int 0)) ixD) ixD (.sh (wd ps)::.sh (wd qs)::.sh (pN p)::δ)=some P.d:=fun δ=>by
  rw[o5 (x:=wd ps) (y:=.int (p.1:Int)) rfl rfl];exact a1
 have g2:∀δ:Ds,o2 (gv 1) (o2 (gv 2) (gc (.int 1)) ixD) ixD (.sh (wd ps)::.sh (wd qs)::.sh (pN p)::δ)=some R.d:=fun δ=>by
  rw[o5 (x:=wd qs) (y:=.int (p.2:Int)) rfl rfl];exact b1
 obtain⟨t1,t2⟩:=zj0 (g:=o2 (oA (z9 (o2 (gv 0) (o2 (gv 2) (gc (.int 0)) ixD) ixD) v7) Z5) (oA (z9 (o2 (gv 1) (o2 (gv 2) (gc (.int 1)) ixD) ixD) v7) Z5) Q5) (δ:=[.sh (wd ps),.sh (wd qs),.sh (pN p),.ow (.lst []),.sh (.lst P.vals),.sh (.lst R.vals),.un]) (p:=Pn.hd P≠Pn.hd R) (by
  rw[o5 (x:=Pn.hd P) (y:=Pn.hd R) (by rw[o9 (ds:=[P.d]) (cons_of (g1 _) rfl)];exact m60 a2) (by rw[o9 (ds:=[R.d]) (cons_of (g2 _) rfl)];exact m60 b2)];exact⟨λe=>Pn.rr0 (Pn.xb0 P) (Pn.xb0 R) e,λe=>by rw[Classical.not_not.mp e];exact Pn.tf0 (Pn.xb0 R).le⟩)
 have s4:∀s:Sl,n6 (gN 4) (oA (z9 (o2 (gv 0) (o2 (gv 2) (gc (.int 0)) ixD) ixD) v7) m5) [.sh (wd ps),.sh (wd qs),.sh (pN p),.ow (.lst []),s,.un,.un]=some (.nx [.sh (wd ps),.sh (wd qs),.sh (pN p),.ow (.lst []),.sh (.lst P.vals),.un,.un]):=λs=>j4 (by
  rw[o9 (ds:=[P.d]) (cons_of (g1 _) rfl)];exact tt0 a2)
 have s5:∀s:Sl,n6 (gN 5) (oA (z9 (o2 (gv 1) (o2 (gv 2) (gc (.int 1)) ixD) ixD) v7) m5) [.sh (wd ps),.sh (wd qs),.sh (pN p),.ow (.lst []),.sh (.lst P.vals),s,.un]=some (.nx [.sh (wd ps),.sh (wd qs),.sh (pN p),.ow (.lst []),.sh (.lst P.vals),.sh (.lst R.vals),.un]):=λs=>j4 (by
  rw[o9 (ds:=[R.d]) (cons_of (g2 _) rfl)];exact tt0 b2)
 by_cases hh:Pn.hd P=Pn.hd R
 ·have hl:=tv0 hh
  have M:=a2.few;obtain⟨f1,f2⟩:=lh0 (G:=GB) (j:=6) P.vals.length (λi s=>[.sh (wd ps),.sh (wd qs),.sh (pN p),.ow (.lst ((gl ((P.vals.zip R.vals).take i)).map pN)),.sh (.lst P.vals),.sh (.lst R.vals),s]) (λ_ _ _=>rfl)
   (λi=>∀(h:i<P.vals.length) (h':i<R.vals.length),nl (P.vals[i],R.vals[i])) .non (λi hi=>by
    obtain⟨u1,u2⟩:=Ys0 a2.lv b2.lv hl M (.sh (wd ps)) (.sh (wd qs)) (.sh (pN p)) i hi;exact⟨λz=>u1 (z hi (by omega)),λz=>u2 λq=>z λ_ _=>q⟩) P.vals.length 0 .un (Nat.zero_add _)
  rw[← ow0] at f1 f2;have e0:gl ((P.vals.zip R.vals).take 0)=[]:=rfl;have en:(P.vals.zip R.vals).take P.vals.length=P.vals.zip R.vals:=List.take_of_length_le (by rw[List.length_zip];omega);simp only[e0,en,List.map_nil] at f1 f2;have hr:V9 (z9 (oA (z9 (gv 4) v7) X4) v7) [.sh (wd ps),.sh (wd qs),.sh (pN p),.ow (.lst []),.sh (.lst P.vals),.sh (.lst R.vals),.un]=some (W4 0 (P.vals.length:Int)):=M5 (cons_of (n80 rfl) rfl) (by omega) (by omega);have J:(∀q∈P.vals.zip R.vals,nl q)↔∀k,0<=k->k<P.vals.length->∀(h:k<P.vals.length) (h':k<R.vals.length),nl (P.vals[k],R.vals[k]):=by
   constructor
   ·intro z k _ _ h h'
    refine z _ ?_;have:k<(P.vals.zip R.vals).length:=by rw[List.length_zip];omega
    have e:=D5 this
    rwa [List.getElem_zip] at e
   ·intro z q O
    obtain⟨k,hk,e⟩:=E3.mp O;rw[List.length_zip] at hk;rw[List.getElem_zip] at e;rw[← e];exact z k (K2 _) (by omega) (by omega) (by omega)
  refine⟨λz=>?_,λz=>?_⟩
  ·obtain⟨s',hs⟩:=f1 (J.mp z.2)
   refine j5 rfl (v9 (δ':=[.sh (wd ps),.sh (wd qs),.sh (pN p),.ow (.lst []),.un,.un,.un]) rfl (v9 (s4 _) (v9 (s5 _) (v9 (δ':=[.sh (wd ps),.sh (wd qs),.sh (pN p),.ow (.lst []),.sh (.lst P.vals),.sh (.lst R.vals),.un]) (by rw[Z0 (t2 λq=>q hh)];rfl) (v9 (T6 hr hs) (o8 rfl))))))
  ·refine j5 rfl (v9 (δ':=[.sh (wd ps),.sh (wd qs),.sh (pN p),.ow (.lst []),.un,.un,.un]) rfl (v9 (s4 _) (v9 (s5 _) (v9 (δ':=[.sh (wd ps),.sh (wd qs),.sh (pN p),.ow (.lst []),.sh (.lst P.vals),.sh (.lst R.vals),.un]) (by rw[Z0 (t2 λq=>q hh)];rfl) (o8 (T6 hr (f2 λq=>z ⟨hh,J.mpr q⟩)))))))
 ·refine⟨λz=>absurd z.1 hh,λ_=>?_⟩
  refine j5 rfl (v9 (δ':=[.sh (wd ps),.sh (wd qs),.sh (pN p),.ow (.lst []),.un,.un,.un]) rfl (v9 (s4 _) (v9 (s5 _) (o8 ?_))));rw[U8 (t1 hh)];rfl
def tr(A:List (Nat×Nat)):List D:=A.map λ_=>.bl true
def dT(A:List (Nat×Nat)):D:=.dct (.inr (A.map k2)) (tr A)
theorem fw0{A:List (Nat×Nat)}{p:Nat×Nat}(h:p∉A):zk0 (A.map k2) (k2 p)=(A++[p]).map k2/\ya0 (A.map k2) (tr A) (k2 p) (.bl true)=tr (A++[p]):=by
 have hf:N6 (A.map k2) (k2 p)=false:=by
  cases e:N6 (A.map k2) (k2 p) with
  | false=>rfl
  | true =>
   obtain⟨q,hq,e2⟩:=A9.mp ((ox0 _ _).mp e);exact absurd (J3 e2▸hq) h
 unfold zk0 ya0;rw[hf,if_neg (by simp),if_neg (by simp)];constructor
 ·rw[List.map_append];rfl
 ·unfold tr;rw[List.map_append];rfl
theorem rt0{l:List α}{a:α}:(l++[a]).Nodup↔l.Nodup/\a∉l:=by
 rw[List.nodup_append];constructor
 ·rintro⟨h1,_,h3⟩
  exact⟨h1,λz=>h3 a z a (L5.mpr rfl) rfl⟩
 ·rintro⟨h1,h2⟩
  exact⟨h1,by simp,λx hx y hy e=>by rw[List.mem_singleton.mp hy] at e;exact h2 (e▸hx)⟩
theorem Xt0(A:List (Nat×Nat)):Dc A (dT A):=⟨_,_,rfl,λx=>by
 rw[List.mem_map];exact⟨λ⟨p,hp,e⟩=>⟨p,hp,e.symm⟩,λ⟨p,hp,e⟩=>⟨p,hp,e.symm⟩⟩⟩
end Ta
namespace Ta
open Ma
open DL W K22
theorem i30(h:j<n):ixN n (j:Int)=some j:=by
 unfold ixN;rw[if_pos (by omega),if_pos (by omega),Int.toNat_natCast]
end Ta
namespace Ta
open Ma
open DL W K22
theorem e40(qs:List Pt)(j:Nat)(q:Pt):(qs.map Pt.d).set j q.d=(qs.set j q).map Pt.d:=by rw[List.map_set]
theorem i70{g:GE}{gx:GE}{v:D}(h1:owL i δ=some ds)(h2:g δ=some (.int (j:Int)))(h3:j<ds.length)(h4:gx δ=some v):M4 (O4 gx) (setAt i g) δ=some (.nx (δ.set i (.ow (.lst (ds.set j v))))):=by
 unfold M4 O4;rw[h4];unfold setAt;rw[Option.map_some,Option.bind_some,h1,Option.bind_some,h2,Option.bind_some];simp only[];rw[i30 h3];rfl
theorem fj0(xs:List D)(n:Nat):cutD xs none (some (n:Int))=xs.take n:=by
 unfold cutD;show (xs.drop 0).take (sIx xs.length xs.length (some (n:Int)) - 0)=_;rw[List.drop_zero,Nat.sub_zero];unfold sIx;simp only[];rw[if_neg (by omega),Int.toNat_natCast]
 by_cases h:n<=xs.length
 ·rw[Nat.min_eq_left h]
 ·rw[Nat.min_eq_right (by omega),List.take_length,List.take_of_length_le (by omega)]
theorem fl0(xs:List D)(n:Nat):cutD xs (some (n:Int)) none=xs.drop n:=by
 unfold cutD;show (xs.drop (sIx xs.length 0 (some (n:Int)))).take (xs.length - sIx xs.length 0 (some (n:Int)))=_;unfold sIx;simp only[];rw[if_neg (by omega),Int.toNat_natCast]
 by_cases h:n<=xs.length
 ·rw[Nat.min_eq_left h,List.take_of_length_le (by rw[List.length_drop];exact A4 _)]
 ·rw[Nat.min_eq_right (by omega),List.drop_length,List.take_nil,List.drop_of_length_le (by omega)]
theorem Yc0{g gh:GE}{xs:List D}(h1:g δ=some (.tup xs))(h2:gh δ=some (.int (n:Int))):O3 g N8 (someO gh) δ=some (.tup (xs.take n)):=by
 unfold O3 someO;rw[h1,h2,← fj0];rfl
theorem ev0{g gh:GE}{xs:List D}(h1:g δ=some (.tup xs))(h2:gh δ=some (.int (n:Int))):O3 g (someO gh) N8 δ=some (.tup (xs.drop n)):=by
 unfold O3 someO;rw[h1,h2,← fl0];rfl
end Ta
namespace Ta
open Ma
open DL W K22
theorem jk0(x m:Int)(hx:0<=x/\x<2 ^ 40)(hm:0<m):∃v,T9 [.int x,.int m]=some v/\Gw.Vk v m:=Gw.xp0 x m hx hm
theorem kw0(p:Pt)(h:p.few)(vs:List D)(hl:vs.length=p.vals.length):V4 [p.d,.lst vs]=some (Pn.put p vs).d:=Gw.l80 p h vs (.inl hl)
theorem Yv0{v:D}(k:Gw.Vk v (m:Int)):Lv m v:=by
 rcases qa0 k.ok with rfl|⟨i,rfl⟩|⟨i,rfl,hi⟩
 ·exact .inl rfl
 ·exact .inr (.inl ⟨i,rfl⟩)
 ·have:=k.lk i rfl
  exact .inr (.inr ⟨i.toNat,by rw[Int.toNat_of_nonneg hi],by omega⟩)
theorem br0{p:Pt}(h:Pw n p){vs:List D}(hl:vs.length=p.vals.length)(hv:∀v∈vs,Lv n v):Pw n (Pn.put p vs):=by
 have e:=nf0 p vs hl;exact⟨by rw[e,hl];exact h.few,λv J=>by rw[e] at J;exact hv v J⟩
theorem eq_nil{vs:List D}(h:∀v∈vs,Lv n v):yv0 (.lst vs) (.lst [])=some (.bl (decide (vs=[]))):=by
 unfold yv0;have e:lean (.lst vs) 50=true:=by
  rw[lean];exact q30 λx hx=>j90 (h x hx) 48
 rw[if_pos ⟨e,by simp[lean,leans]⟩];cases vs with
 | nil=>simp[deq,J4]
 | cons a vs=>simp[deq,J4]
theorem ea0{xs ys:List D}(h:xs.length+ys.length<=sizeLine):j6 (.tup xs) (.tup ys)=some (.tup (xs++ys)):=by
 simp only[j6];rw[if_pos h]
theorem kf0(h:Web qs)(x:Int):∃rs,R4 [wd qs,.int x]=some (wd rs)/\Web rs/\rs.length=qs.length:=by
 have zs:(2000:Nat)<=sizeLine:=by decide
 have hq:=h.len;have b1:0<=x%(qs.length:Int):=E7 _ (by omega);have b2:x%(qs.length:Int)<qs.length:=E8 _ (by omega);obtain⟨k,hk⟩:∃k:Nat,x%(qs.length:Int)=(k:Int):=⟨(x%(qs.length:Int)).toNat,by omega⟩;have J:k<qs.length:=by omega
 obtain⟨e1,_,pw⟩:=h.at J;have gk:o2 (gv 1) (oA (z9 (gv 0) v7) X4) d7 [.sh (wd qs),.sh (.int x),.un,.un,.un]=some (.int (k:Int)):=by
  rw[o5 (x:=.int x) (y:=.int (qs.length:Int)) rfl (wo0 qs _ rfl),Gw.z40 _ _ (by omega),hk]
 have gp:∀s2 s3:Sl,o2 (gv 0) (gv 2) ixD [.sh (wd qs),.sh (.int x),.sh (.int (k:Int)),s2,s3]=some qs[k].d:=λs2 s3=>by
  rw[o5 (x:=wd qs) (y:=.int (k:Int)) rfl rfl];exact e1
 have M:oA (z9 (o2 (gv 0) (gv 2) ixD) v7) m5 [.sh (wd qs),.sh (.int x),.sh (.int (k:Int)),.un,.un]=some (.lst qs[k].vals):=by
  rw[o9 (ds:=[qs[k].d]) (cons_of (gp _ _) rfl)];exact tt0 pw
 have s1:n6 (gN 2) (o2 (gv 1) (oA (z9 (gv 0) v7) X4) d7) [.sh (wd qs),.sh (.int x),.un,.un,.un]=some (.nx [.sh (wd qs),.sh (.int x),.sh (.int (k:Int)),.un,.un]):=j4 gk;have s2:T7 3 (oA (z9 (o2 (gv 0) (gv 2) ixD) v7) m5) [.sh (wd qs),.sh (.int x),.sh (.int (k:Int)),.un,.un]=some (.nx [.sh (wd qs),.sh (.int x),.sh (.int (k:Int)),.ow (.lst qs[k].vals),.un]):=by
  unfold T7;rw[M];rfl
 have t:zz0 (ob (o2 (gv 3) (Y8 v7) yv0)) [.sh (wd qs),.sh (.int x),.sh (.int (k:Int)),.ow (.lst qs[k].vals),.un]=some (decide (qs[k].vals=[])):=by
  show ob (o2 (gv 3) (Y8 v7) yv0) [.sh (wd qs),.sh (.int x),.sh (.int (k:Int)),.sh (.lst qs[k].vals),.un]=_;exact Bw.yj0 (by rw[o5 (x:=.lst qs[k].vals) (y:=.lst []) rfl (z60 rfl (by show 0<=sizeLine;omega))];exact eq_nil pw.lv)
 by_cases hn:qs[k].vals=[]
 ·refine⟨qs,j5 rfl (v9 s1 (v9 s2 (o8 ?_))),h,rfl⟩
  rw[U8 (t.trans (by rw[decide_eq_true hn]))];exact o8 (Z1 rfl)
 ·have S:0<qs[k].vals.length:=List.length_pos_iff.mpr hn
  have c1:0<=x/60%(qs[k].vals.length:Int):=E7 _ (by omega);have c2:x/60%(qs[k].vals.length:Int)<qs[k].vals.length:=E8 _ (by omega);obtain⟨j,hj⟩:∃j:Nat,x/60%(qs[k].vals.length:Int)=(j:Int):=⟨(x/60%(qs[k].vals.length:Int)).toNat,by omega⟩;obtain⟨v,hv,vk⟩:=jk0 (x/240%1000000) (qs.length:Int) (by omega) (by omega);have hl:(qs[k].vals.set j v).length=qs[k].vals.length:=List.length_set;have O:Pw qs.length (Pn.put qs[k] (qs[k].vals.set j v)):=br0 pw hl λu hu=>by
   rcases D30 hu with z|rfl
   ·exact pw.lv u z
   ·exact Yv0 vk
  refine⟨qs.set k (Pn.put qs[k] (qs[k].vals.set j v)),j5 rfl (v9 s1 (v9 s2 (v9 (δ':=[.sh (wd qs),.sh (.int x),.sh (.int (k:Int)),.ow (.lst qs[k].vals),.un]) ?_ (v9 (δ':=[.sh (wd qs),.sh (.int x),.sh (.int (k:Int)),.ow (.lst qs[k].vals),.sh (.int (j:Int))]) (j4 ?_) (v9 (δ':=[.sh (wd qs),.sh (.int x),.sh (.int (k:Int)),.ow (.lst (qs[k].vals.set j v)),.sh (.int (j:Int))]) ?_ (o8 (Z1 ?_))))))),⟨by rw[List.length_set];exact hq,λp hp=>?_⟩,List.length_set⟩
  ·rw[Z0 (t.trans (by rw[decide_eq_false hn]))];rfl
  ·rw[o5 (x:=.int (x/60)) (y:=.int (qs[k].vals.length:Int)) (by rw[o5 (x:=.int x) (y:=.int 60) rfl rfl];rfl) rfl,Gw.z40 _ _ (by omega),hj]
  ·rw[i70 (ds:=qs[k].vals) (j:=j) (v:=v) rfl rfl (by omega) (by
    rw[o9 (ds:=[.int (x/240%1000000),.int (qs.length:Int)]) (cons_of (by
     rw[o5 (x:=.int (x/240)) (y:=.int 1000000) (by rw[o5 (x:=.int x) (y:=.int 240) rfl rfl];rfl) rfl];rfl) (cons_of (wo0 qs _ rfl) rfl))]
    exact hv)]
   rfl
  ·show o2 _ _ _ [.sh (wd qs),.sh (.int x),.sh (.int (k:Int)),.sh (.lst (qs[k].vals.set j v)),.sh (.int (j:Int))]=_
   have g1:O3 (gv 0) N8 (someO (gv 2)) [.sh (wd qs),.sh (.int x),.sh (.int (k:Int)),.sh (.lst (qs[k].vals.set j v)),.sh (.int (j:Int))]=some (.tup ((qs.map Pt.d).take k)):=Yc0 rfl rfl;have g2:Z6 (z9 (oA (z9 (o2 (gv 0) (gv 2) ixD) (z9 (gv 3) v7)) V4) v7) [.sh (wd qs),.sh (.int x),.sh (.int (k:Int)),.sh (.lst (qs[k].vals.set j v)),.sh (.int (j:Int))]=some (.tup [(Pn.put qs[k] (qs[k].vals.set j v)).d]):=X6 (cons_of (by
    rw[o9 (ds:=[qs[k].d,.lst (qs[k].vals.set j v)]) (cons_of (gp _ _) rfl)];exact kw0 _ pw.f _ hl) rfl) (by show 1<=sizeLine;omega)
   have g3:O3 (gv 0) (someO (o2 (gv 2) (gc (.int 1)) j6)) N8 [.sh (wd qs),.sh (.int x),.sh (.int (k:Int)),.sh (.lst (qs[k].vals.set j v)),.sh (.int (j:Int))]=some (.tup ((qs.map Pt.d).drop (k+1))):=ev0 rfl (by rw[o5 (x:=.int (k:Int)) (y:=.int 1) rfl rfl];rfl);have l1:((qs.map Pt.d).take k).length<=60:=by rw[List.length_take,List.length_map];omega
   have l2:((qs.map Pt.d).drop (k+1)).length<=60:=by rw[List.length_drop,List.length_map];omega
   rw[o5 (o5 g1 g2 |>.trans (ea0 (by rw[List.length_singleton];omega))) g3,ea0 (by rw[List.length_append,List.length_singleton];omega)];have es:(qs.map Pt.d).take k++[(Pn.put qs[k] (qs[k].vals.set j v)).d]++(qs.map Pt.d).drop (k+1)=(qs.set k (Pn.put qs[k] (qs[k].vals.set j v))).map Pt.d:=by
    rw[← e40,List.set_eq_take_append_cons_drop (l:=qs.map Pt.d),if_pos (by rw[List.length_map];exact J),List.append_assoc];rfl
   rw[es];rfl
  ·rw[List.length_set]
   rcases D30 hp with z|rfl
   ·exact h.pw p z
   ·exact O
end Ta
namespace Ta
open Ma
open DL W K22 SoT
theorem eb0{g1 g2:DL.GB}(h1:g1 δ=some false)(h2:g2 δ=some false):we0 g1 g2 δ=some false:=by unfold we0;rw[h1];exact h2
end Ta
namespace Fa
open Ma
open DL W K22 Ta
def ir(n:Nat)(L:List (Nat×Nat)):Prop:=∀p∈L,p.1<n/\p.2<n
def WT:DL.GB:=(ob (o2 (yx0 (oA (z9 (gv 4) v7) X4)) (gc (.int 0)) gtD))
def WF:GS:=(v8 (ifD (zz0 (ob (o2 (gv 6) (gv 3) (R8 true))))
 (v8 (M4 (O4 (gc (.bl true))) (z90 3 (gv 6)))
 (v8 (W3 (U5 4 (gv 6)))
 p7))
 p7)
 p7)
def WB:GS:=(v8 (M4 (to0 0 1 (ub0 4) W7) (gN 5))
 (v8 (ifD (ob (o2 (gv 5) (gc .non) ot0))
 (v8 (j7 (gc .non))
 p7)
 p7)
 (v8 (T8 (yy0 (gv 5)) (gN 6)
 WF)
 p7)))
def ws(W P:D)(A V:List (Nat×Nat))(m f:Sl):Ds:=[.sh W,.sh W,.sh P,.ow (dT A),.ow (.lst (V.map pN)),m,f]
theorem X50(W P:D)(A V:List (Nat×Nat))(m f:Sl):WT (ws W P A V m f)=some (decide (0<V.length)):=by
 unfold WT ob;rw[o5 (x:=.int (V.length:Int)) (y:=.int 0) (by
  show some (D.int ((V.map pN).length:Int))=_;rw[List.length_map]) rfl]
 show some (decide ((0:Int)<(V.length:Int)))=_;congr 1;rw[decide_eq_decide];omega
theorem Y90(W P:D)(A V:List (Nat×Nat))(m:Sl)(q:Nat×Nat)(hA:A.length<=5000)(hV:V.length<=5000) :
  (q∈A->WF (ws W P A V m (.sh (pN q)))=some (.nx (ws W P A V m (.sh (pN q))))) /\
  (q∉A->WF (ws W P A V m (.sh (pN q)))=some (.nx (ws W P (A++[q]) (V++[q]) m (.sh (pN q))))):=by
 have zs:(9000:Nat)<=sizeLine:=by decide
 have ht:zz0 (ob (o2 (gv 6) (gv 3) (R8 true))) (ws W P A V m (.sh (pN q)))=some (decide (q∉A)):=by
  show ob (o2 (gv 6) (gv 3) (R8 true)) [.sh W,.sh W,.sh P,.sh (dT A),.sh (.lst (V.map pN)),zd0 m,.sh (pN q)]=_;exact Bw.yj0 (by rw[o5 (x:=pN q) (y:=dT A) rfl rfl];exact kc0 (Xt0 A) q)
 refine⟨λh=>?_,λh=>?_⟩
 ·rw[decide_eq_false (λz=>z h)] at ht
  refine v9 (δ':=ws W P A V m (.sh (pN q))) ?_ rfl;rw[Z0 ht];rfl
 ·rw[decide_eq_true h] at ht
  refine v9 (δ':=ws W P (A++[q]) (V++[q]) m (.sh (pN q))) ?_ rfl;rw[U8 ht];refine v9 (δ':=ws W P (A++[q]) V m (.sh (pN q))) ?_ (v9 (δ':=ws W P (A++[q]) (V++[q]) m (.sh (pN q))) ?_ rfl)
  ·show Option.map Res.nx (if (A.map k2).length<sizeLine then some ([.sh W,.sh W,.sh P,.ow (.dct (.inr (zk0 (A.map k2) (k2 q))) (ya0 (A.map k2) (tr A) (k2 q) (.bl true))),.ow (.lst (V.map pN)),m,.sh (pN q)]:Ds) else none)=_
   rw[if_pos (by rw[List.length_map];omega),(fw0 h).1,(fw0 h).2];rfl
  ·unfold W3 U5
   rw[show owL 4 (ws W P (A++[q]) V m (.sh (pN q)))=some (V.map pN) from rfl,Option.bind_some];show Option.map (λr:D×Ds=>Res.nx r.2) (if (V.map pN).length<sizeLine then some (D.non,([.sh W,.sh W,.sh P,.ow (dT (A++[q])),.ow (.lst (V.map pN++[pN q])),m,.sh (pN q)]:Ds)) else none)=_;rw[if_pos (by rw[List.length_map];omega)];show some (Res.nx [.sh W,.sh W,.sh P,.ow (dT (A++[q])),.ow (.lst (V.map pN++[pN q])),m,.sh (pN q)])=_;unfold ws;rw[List.map_append];rfl
theorem Xm0{vs ws:List D}(hv:∀v∈vs,Lv n v)(hw:∀w∈ws,Lv n w):ir n (gl (vs.zip ws)):=λp hp=>by
 unfold gl at hp;obtain⟨q,hq,e⟩:=L7.mp hp;have h1:=hv q.1 (N9 hq).1;have h2:=hw q.2 (N9 hq).2;obtain⟨a,c⟩:=q;dsimp only at h1 h2;rcases h1 with rfl|⟨z,rfl⟩|⟨i,rfl,hi⟩
 ·cases e
 ·cases e
 ·rcases h2 with rfl|⟨z,rfl⟩|⟨j,rfl,hj⟩
  ·cases e
  ·cases e
  ·have e:some ((i:Int).toNat,(j:Int).toNat)=some p:=e
   cases e;exact⟨hi,hj⟩
theorem kg0{A:List (Nat×Nat)}(h:A.Nodup)(hA:ir n A):A.length<=n*n:=by
 have h2:(A.map λp=>p.1*n+p.2).Nodup:=by
  refine Y1.mpr (h.imp_of_mem λ{p q} hp hq J z=>J ?_);have a1:=hA p hp;have a2:=hA q hq;have e1:p.1=q.1:=by
   have:=D1 (·/n) z;rw[Nat.add_comm,Nat.add_mul_div_right _ _ (by omega),Nat.div_eq_of_lt a1.2,Nat.add_comm (q.1*n),Nat.add_mul_div_right _ _ (by omega),Nat.div_eq_of_lt a2.2] at this;omega
  refine E1 e1 ?_;rw[e1] at z;omega
 have h3:(A.map λp=>p.1*n+p.2).length<=n*n:=by
  have sub:(A.map λp=>p.1*n+p.2) ⊆ List.range (n*n):=λx hx=>by
   obtain⟨p,hp,rfl⟩:=A9.mp hx;have:=hA p hp;rw[List.mem_range]
   calc p.1*n+p.2<p.1*n+n:=by omega
    _=(p.1+1)*n:=by rw[Nat.add_mul,Nat.one_mul]
    _<=n*n:=r9 n (by omega)
  have:=Ak0 h2 sub
  rwa [List.length_range] at this
 rwa [List.length_map] at h3
def c2(p:Nat×Nat):Int×Int:=((p.1:Int),(p.2:Int))
theorem Xp0{A:List (Nat×Nat)}(h:A.Nodup):(A.map c2).Nodup:=Y1.mpr (h.imp λ{p q} J z=>J (by
 unfold c2 at z;injection z with z1 z2
 exact E1 (by omega) (by omega)))
theorem yi0(ns:List Int)(k:Int)(h0:0<=k):∃z,j9 [.lst (ns.map .int),.int k]=some (.int z):=Gw.yi0 ns k h0
theorem sy0(c t:Int):∃nm,z20 [.int c,.int t]=some (.lst (nm.map .str))/\Gw.Pool nm:=Gw.sy0 c t
theorem vw0(c k:Int)(hk:0<=k/\k<=1000000):∃x,0<=x/\x<2147483647/\X5 [.int c,.int k]=some (.int x):=Gw.vw0 c k hk
theorem nu0(cs:List Int)(hc:0<cs.length/\cs.length<=1000)(m:Nat)(hm:0<m/\m<=1000)(nm:List Str)(hp:Gw.Pool nm) :
  ∃ps:List Pt,zl0 [.lst (cs.map .int),.int (m:Int),.lst (nm.map .str)]=some (.tup (ps.map Pt.d))/\ps.length=m/\∀p∈ps,Gw.Gd p (m:Int) nm:=Gw.nu0 cs hc m hm nm hp
theorem Xj0(p:Pt)(h:p.few)(vs:List D)(hl:vs.length=p.vals.length):V4 [p.d,.lst vs]=some (Pn.put p vs).d:=Gw.l80 p h vs (.inl hl)
theorem ib0(ns:List Int)(hl:ns.length<=63){M:Nat}(hM:0<M/\M<=12):∃ps,J1 [.lst (ns.map .int),.int (M:Int)]=some (wd ps)/\Web ps/\ps.length<=M:=by
 have tm:∀t:Int,0<=t%(M:Int)/\t%(M:Int)<M:=λt=>⟨E7 _ (by omega),E8 _ (by omega)⟩
 have z:(1000:Nat)<=sizeLine:=by decide
 obtain⟨c0,h0⟩:=yi0 ns 0 (by decide);obtain⟨c1,h1⟩:=yi0 ns 1 (by decide);obtain⟨t,ht⟩:=yi0 ns 2 (by decide);obtain⟨c3,h3⟩:=yi0 ns 3 (by decide);obtain⟨nm,Z,O⟩:=sy0 c0 c1;obtain⟨m,hm,Y⟩:∃m:Nat,(0<m/\m<=M)/\∀s4:Sl,o2 (gc (.int 1)) (o2 (gv 3) (gv 1) d7) j6 [.sh (.lst (ns.map .int)),.sh (.int (M:Int)),.sh (.lst (nm.map .str)),.sh (.int t),s4]=some (.int (m:Int)):=by
  obtain⟨y1,y2⟩:=tm t;refine⟨(1+t%(M:Int)).toNat,by omega,λs4=>?_⟩;have e:(((1+t%(M:Int)).toNat:Nat):Int)=1+t%(M:Int):=by omega
  rw[e,o5 (x:=.int 1) (y:=.int (t%(M:Int))) rfl (by
   rw[o5 (x:=.int t) (y:=.int (M:Int)) rfl rfl];exact Gw.z40 _ _ (by omega))]
  rfl
 obtain⟨cs,a1,a0⟩:∃cs:List Int,(0<cs.length/\cs.length<=1000)/\o2 (O3 (gv 0) (someO (gc (.int 9))) (someO (gc (.int 60)))) (Y8 (z9 (oA (z9 (gv 0) (z9 (gc (.int 3)) v7)) j9) v7)) j6 [.sh (.lst (ns.map .int)),.sh (.int (M:Int)),.sh (.lst (nm.map .str)),.sh (.int t),.sh (.int (m:Int))]=some (.lst (cs.map .int)):=by
  obtain⟨us,hu,S⟩:∃us:List Int,us.length<=63/\cutD (ns.map D.int) (some 9) (some 60)=us.map .int:=by
   refine⟨(ns.drop (sIx (ns.map D.int).length 0 (some 9))).take (sIx (ns.map D.int).length (ns.map D.int).length (some 60) - sIx (ns.map D.int).length 0 (some 9)),?_,?_⟩
   ·rw[List.length_take,List.length_drop];omega
   ·unfold cutD
    rw[List.map_take,List.map_drop]
  refine⟨us++[c3],by simp;omega,?_⟩;rw[o5 (x:=.lst (us.map .int)) (y:=.lst [.int c3]) (by rw[← S];rfl) (z60 (cons_of (by rw[o9 (ds:=[.lst (ns.map .int),.int 3]) rfl];exact h3) rfl) (by show (1:Nat)<=_;omega))];simp only[j6];rw[if_pos (by rw[List.length_map];show us.length+1<=_;omega),List.map_append];rfl
 obtain⟨ps,U,J,hg⟩:=nu0 cs a1 m ⟨hm.1,by omega⟩ nm O;refine⟨ps,j5 rfl (v9 (j4 (d:=.lst (nm.map .str)) ?_) (v9 (j4 (d:=.int t) ?_) (v9 (j4 (Y _)) (o8 (Z1 ?_))))),⟨by rw[J];omega,λp hp=>by rw[J];exact Yw0 (hg p hp)⟩,by rw[J];exact hm.2⟩
 ·rw[o9 (ds:=[.int c0,.int c1]) (cons_of (by rw[o9 (ds:=[.lst (ns.map .int),.int 0]) rfl];exact h0) (cons_of (by rw[o9 (ds:=[.lst (ns.map .int),.int 1]) rfl];exact h1) rfl))]
  exact Z
 ·rw[o9 (ds:=[.lst (ns.map .int),.int 2]) rfl]
  exact ht
 ·rw[o9 (ds:=[.lst (cs.map .int),.int (m:Int),.lst (nm.map .str)]) (cons_of (by exact a0) rfl)]
  exact U
def UV:GS:=(v8 (n6 (gN 7) (o2 (o2 (gv 7) (gc (.int 48271)) U6) (gc (.int 2147483647)) d7))
 (v8 (ifD (ob (V7 isTup (gv 8)))
 (v8 (n6 (gN 8) (Z6 (z9 (gc (.str "at")) (z9 (o2 (o2 (o2 (gv 8) (gc (.int 1)) ixD) (gv 1) U6) (o2 (gv 7) (gv 1) d7) j6) v7))))
 p7)
 p7)
 (v8 (W3 (U5 6 (gv 8)))
 p7)))
def uS(W:D)(T:Nat)(C Ps K Tn:Sl)(us:List D)(z:Int)(s8:Sl):Ds:=[.sh W,.sh (.int (T:Int)),C,Ps,K,Tn,.ow (.lst us),.sh (.int z),s8]
theorem Xd0(W:D)(hT:0<T/\T<=7)(hn:n<=60)(C Ps K Tn:Sl)(us:List D)(z:Int){v:D}(hv:Lv n v)(hl:us.length<=100) :
  ∃z' v',UV (uS W T C Ps K Tn us z (.sh v))=some (.nx (uS W T C Ps K Tn (us++[v']) z' (.sh v')))/\Lv (n*T) v':=by
 have zs:(1000:Nat)<=sizeLine:=by decide
 have e7:∀s8,o2 (o2 (gv 7) (gc (.int 48271)) U6) (gc (.int 2147483647)) d7 (uS W T C Ps K Tn us z s8)=some (.int (z*48271%2147483647)):=λs8=>by
  rw[o5 (x:=.int (z*48271)) (y:=.int 2147483647) (by rw[o5 (x:=.int z) (y:=.int 48271) rfl rfl];exact Gw.mul_r _ _ (by decide)) rfl];exact Gw.z40 _ _ (by decide)
 have app:∀(z':Int) (v':D),W3 (U5 6 (gv 8)) (uS W T C Ps K Tn us z' (.sh v'))=some (.nx (uS W T C Ps K Tn (us++[v']) z' (.sh v'))):=λz' v'=>by
  unfold W3 U5;rw[show owL 6 (uS W T C Ps K Tn us z' (.sh v'))=some us from rfl,Option.bind_some];show Option.map (λr:D×Ds=>Res.nx r.2) (if us.length<sizeLine then some (D.non,([.sh W,.sh (.int (T:Int)),C,Ps,K,Tn,.ow (.lst (us++[v'])),.sh (.int z'),.sh v']:Ds)) else none)=_;rw[if_pos (by omega)];rfl
 have plain:isTup v=false->UV (uS W T C Ps K Tn us z (.sh v))=some (.nx (uS W T C Ps K Tn (us++[v]) (z*48271%2147483647) (.sh v))):=λhi=>by
  refine v9 (δ':=uS W T C Ps K Tn us (z*48271%2147483647) (.sh v)) (j4 (e7 _)) (v9 (δ':=uS W T C Ps K Tn us (z*48271%2147483647) (.sh v)) ?_ (v9 (app _ _) rfl));rw[Z0 (show ob (V7 isTup (gv 8)) (uS W T C Ps K Tn us (z*48271%2147483647) (.sh v))=some false from by
   show some (isTup v)=_;rw[hi])]
  rfl
 rcases hv with rfl|⟨i,rfl⟩|⟨j,rfl,hj⟩
 ·exact⟨_,_,plain rfl,.inl rfl⟩
 ·exact⟨_,_,plain rfl,.inr (.inl ⟨i,rfl⟩)⟩
 ·obtain⟨w,hw⟩:∃w,w=z*48271%2147483647:=⟨_,rfl⟩
  have b1:0<=w%(T:Int):=E7 _ (by omega);have b2:w%(T:Int)<T:=E8 _ (by omega);obtain⟨r,hr⟩:∃r:Nat,w%(T:Int)=(r:Int):=⟨(w%(T:Int)).toNat,by omega⟩;have M:j*T+r<n*T:=by
   calc j*T+r<j*T+T:=by omega
    _=(j+1)*T:=by rw[Nat.add_mul,Nat.one_mul]
    _<=n*T:=r9 T (by omega)
  refine⟨w,.tup [.str "at",.int ((j*T+r:Nat):Int)],v9 (δ':=uS W T C Ps K Tn us w (.sh (.tup [.str "at",.int (j:Int)]))) (by rw[hw];exact j4 (e7 _)) (v9 (δ':=uS W T C Ps K Tn us w (.sh (.tup [.str "at",.int ((j*T+r:Nat):Int)]))) ?_ (v9 (app _ _) rfl)),.inr (.inr ⟨_,rfl,M⟩)⟩;rw[U8 (show ob (V7 isTup (gv 8)) (uS W T C Ps K Tn us w (.sh (.tup [.str "at",.int (j:Int)])))=some true from rfl)];refine v9 (δ':=uS W T C Ps K Tn us w (.sh (.tup [.str "at",.int ((j*T+r:Nat):Int)]))) (j4 ?_) rfl;have O:(n:Int)<=60:=by omega
  have J:(j:Int)<2 ^ 64:=by omega
  refine X6 (cons_of rfl (cons_of ?_ rfl)) (by show 2<=sizeLine;omega);rw[o5 (x:=.int ((j:Int)*(T:Int))) (y:=.int (r:Int)) (by
   rw[o5 (x:=.int (j:Int)) (y:=.int (T:Int)) rfl rfl];exact Gw.k30 _ _ ⟨by omega,J⟩) (by
   rw[o5 (x:=.int w) (y:=.int (T:Int)) rfl rfl,Gw.z40 _ _ (by omega),hr])]
  show some (D.int ((j:Int)*(T:Int)+(r:Int)))=_;rw[Int.natCast_add,Int.natCast_mul]
theorem o60(h:∀d∈l,tree d=true):trees l=true:=by
 induction l with
 | nil=>unfold trees;rfl
 | cons d l ih =>
  unfold trees;rw[h d A5,ih λe he=>h e (C2 _ he)];rfl
theorem G4(h:∀d∈l,tree d=true):tree (.tup l)=true:=by unfold tree;exact o60 h
theorem ym0(s:Str):tree (.str s)=true:=by unfold tree;rfl
theorem ur0{v:D}(h:Lv n v):tree v=true:=by
 rcases h with rfl|⟨i,rfl⟩|⟨i,rfl,_⟩
 ·unfold tree;rfl
 ·unfold tree;rfl
 ·exact G4 λd hd=>by
   simp only[List.mem_cons,List.not_mem_nil,or_false] at hd;rcases hd with rfl|rfl<;>(unfold tree;rfl)
theorem lb0(p:Pt)(h:∀v∈p.vals,tree v=true):tree p.d=true:=by
 have J:∀ps:List (Str×D),(∀v∈ps.map (·.2),tree v=true)->tree (.tup (ps.map pr))=true:=λps hv=>G4 λd hd=>by
  obtain⟨q,hq,rfl⟩:=A9.mp hd;refine G4 λe he=>?_
  simp only[List.mem_cons,List.not_mem_nil,or_false] at he;rcases he with rfl|rfl
  ·exact ym0 _
  ·exact hv q.2 (A9.mpr ⟨q,hq,rfl⟩)
 cases p with
 | text w=>exact G4 λd hd=>by simp only[List.mem_cons,List.not_mem_nil,or_false] at hd;rcases hd with rfl|rfl<;>exact ym0 _
 | row vs =>
   refine G4 λd hd=>?_
   simp only[List.mem_cons,List.not_mem_nil,or_false] at hd;rcases hd with rfl|rfl
   ·exact ym0 _
   ·exact G4 λv hv=>(h v hv)
 | table ps =>
   refine G4 λd hd=>?_
   simp only[List.mem_cons,List.not_mem_nil,or_false] at hd;rcases hd with rfl|rfl
   ·exact ym0 _
   ·exact J ps h
 | rcd c ps =>
   refine G4 λd hd=>?_
   simp only[List.mem_cons,List.not_mem_nil,or_false] at hd;rcases hd with rfl|rfl|rfl
   ·exact ym0 _
   ·exact ym0 _
   ·exact J ps h
theorem df0(W:D)(hT:0<T/\T<=7)(hn:n<=60)(C Ps K Tn:Sl)(z:Int)(s8:Sl)(vs:List D)(hv:∀v∈vs,Lv n v)(hl:vs.length<=12) :
  ∃us z' t8,W2 (gN 8) UV vs (uS W T C Ps K Tn [] z s8)=some (.nx (uS W T C Ps K Tn us z' t8))/\us.length=vs.length/\∀u∈us,Lv (n*T) u:=by
 obtain⟨δ',e,us,z',t8,rfl,h1,h2⟩:=O9 (f:=gN 8) (G:=UV) (λi δ=>∃us z t8,δ=uS W T C Ps K Tn us z t8/\us.length=i/\∀u∈us,Lv (n*T) u) vs 0 (uS W T C Ps K Tn [] z s8) (by
  rintro j d δ hj ⟨us,z,t8,rfl,h1,h2⟩;have J:j<vs.length:=(A7.mp hj).1;obtain⟨z',v',e,h3⟩:=Xd0 W hT hn C Ps K Tn us z (hv d (B0 hj)) (by omega);refine⟨_,_,rfl,e,us++[v'],z',_,rfl,by rw[List.length_append,List.length_singleton,h1],λu hu=>?_⟩;rcases C3.mp hu with hu|hu
  ·exact h2 u hu
  ·rw[List.mem_singleton.mp hu];exact h3) ⟨[],z,s8,rfl,rfl,λu hu=>by cases hu⟩
 exact⟨us,z',t8,e,by omega,h2⟩
def UT:GS:=(v8 (T7 6 (Y8 v7))
 (v8 (n6 (gN 7) (oA (z9 (o2 (gv 2) (o2 (gv 5) (gv 5) U6) j6) (z9 (o2 (gv 4) (gc (.int 31)) j6) v7)) X5))
 (v8 (T8 (yy0 (oA (z9 (o2 (gv 0) (gv 4) ixD) v7) m5)) (gN 8)
 UV)
 (v8 (W3 (U5 3 (xy0 (oA (z9 (o2 (gv 0) (gv 4) ixD) (z9 (gv 6) v7)) V4))))
 p7))))
def tS(W:D)(T:Nat)(c:Int)(Ps:List Pt)(k t:Nat)(s6 s7 s8:Sl):Ds:=[.sh W,.sh (.int (T:Int)),.sh (.int c),.ow (.lst (Ps.map Pt.d)),.sh (.int (k:Int)),.sh (.int (t:Int)),s6,s7,s8]
theorem Xc0(hp:Web ps)(hT:0<T/\T<=7)(c:Int)(Ps:List Pt){k t:Nat}(hk:k<ps.length)(ht:t<T)(hl:Ps.length<=500)(s6 s7 s8:Sl) :
  ∃p t6 t7 t8,UT (tS (wd ps) T c Ps k t s6 s7 s8)=some (.nx (tS (wd ps) T c (Ps++[p]) k t t6 t7 t8))/\Pw (ps.length*T) p:=by
 have zs:(1000:Nat)<=sizeLine:=by decide
 have J:=hp.len;obtain⟨hx,_,pw⟩:=hp.at hk;obtain⟨z,_,_,hz⟩:=vw0 (c+(t:Int)*(t:Int)) ((k:Int)+31) (by omega);obtain⟨us,z',t8,e,h1,h2⟩:=df0 (wd ps) hT J.2 (.sh (.int c)) (.ow (.lst (Ps.map Pt.d))) (.sh (.int (k:Int))) (.sh (.int (t:Int))) z s8 ps[k].vals pw.lv pw.few;have q1:=nf0 ps[k] us h1;refine⟨Pn.put ps[k] us,.ow (.lst us),.sh (.int z'),t8,?_,⟨by rw[q1,h1];exact pw.few,by rw[q1];exact h2⟩⟩;refine v9 (δ':=tS (wd ps) T c Ps k t (.ow (.lst [])) s7 s8) rfl (v9 (δ':=uS (wd ps) T (.sh (.int c)) (.ow (.lst (Ps.map Pt.d))) (.sh (.int (k:Int))) (.sh (.int (t:Int))) [] z s8) (j4 (d:=.int z) ?_) (v9 (T6 (items:=ps[k].vals) ?_ e) (v9 (δ':=tS (wd ps) T c (Ps++[Pn.put ps[k] us]) k t (.ow (.lst us)) (.sh (.int z')) t8) ?_ rfl)))
 ·rw[o9 (ds:=[.int (c+(t:Int)*(t:Int)),.int ((k:Int)+31)]) (cons_of (by
   rw[o5 (x:=.int c) (y:=.int ((t:Int)*(t:Int))) rfl (by
    rw[o5 (x:=.int (t:Int)) (y:=.int (t:Int)) rfl rfl];exact Gw.k30 _ _ (by omega))]
   rfl) (cons_of rfl rfl))]
  exact hz
 ·show (oA (z9 (o2 (gv 0) (gv 4) ixD) v7) m5 _).bind _=_
  rw[o9 (ds:=[ps[k].d]) (cons_of (by rw[o5 (x:=wd ps) (y:=.int (k:Int)) rfl rfl];exact hx) rfl),show m5 [ps[k].d]=some (.lst ps[k].vals) from Gw.rn0 _ pw.f];rfl
 ·have eb:xy0 (oA (z9 (o2 (gv 0) (gv 4) ixD) (z9 (gv 6) v7)) V4) (uS (wd ps) T (.sh (.int c)) (.ow (.lst (Ps.map Pt.d))) (.sh (.int (k:Int))) (.sh (.int (t:Int))) us z' t8)=some (Pn.put ps[k] us).d:=by
   refine uv0 ?_ (lb0 _ (by rw[q1];exact λv hv=>ur0 (h2 v hv)));rw[o9 (ds:=[ps[k].d,.lst us]) (cons_of (by rw[o5 (x:=wd ps) (y:=.int (k:Int)) rfl rfl];exact hx) rfl)];exact Xj0 _ pw.f us h1
  unfold W3 U5;rw[show owL 3 (uS (wd ps) T (.sh (.int c)) (.ow (.lst (Ps.map Pt.d))) (.sh (.int (k:Int))) (.sh (.int (t:Int))) us z' t8)=some (Ps.map Pt.d) from rfl,Option.bind_some,eb];show Option.map (λr:D×Ds=>Res.nx r.2) (if (Ps.map Pt.d).length<sizeLine then some (D.non,([.sh (wd ps),.sh (.int (T:Int)),.sh (.int c),.ow (.lst (Ps.map Pt.d++[(Pn.put ps[k] us).d])),.sh (.int (k:Int)),.sh (.int (t:Int)),.ow (.lst us),.sh (.int z'),t8]:Ds)) else none)=_;rw[if_pos (by rw[List.length_map];omega)];show some (Res.nx [.sh (wd ps),.sh (.int (T:Int)),.sh (.int c),.ow (.lst (Ps.map Pt.d++[(Pn.put ps[k] us).d])),.sh (.int (k:Int)),.sh (.int (t:Int)),.ow (.lst us),.sh (.int z'),t8])=_;unfold tS;rw[List.map_append];rfl
def tR(W:D)(T:Nat)(c:Int)(Ps:List Pt)(s4 s5 s6 s7 s8:Sl):Ds:=[.sh W,.sh (.int (T:Int)),.sh (.int c),.ow (.lst (Ps.map Pt.d)),s4,s5,s6,s7,s8]
theorem Yd0(hp:Web ps)(hT:0<T/\T<=7)(c:Int)(Ps:List Pt){k:Nat}(hk:k<ps.length)(hl:Ps.length<=400)(hw:∀p∈Ps,Pw (ps.length*T) p)(s5 s6 s7 s8:Sl) :
  ∃Ps' t5 t6 t7 t8,W2 (gN 5) UT (W4 0 (T:Int)) (tR (wd ps) T c Ps (.sh (.int (k:Int))) s5 s6 s7 s8)=some (.nx (tR (wd ps) T c Ps' (.sh (.int (k:Int))) t5 t6 t7 t8))/\Ps'.length=Ps.length+T/\∀p∈Ps',Pw (ps.length*T) p:=by
 have J:(W4 0 (T:Int)).length=T:=by rw[ow0,List.length_map,List.length_range']
 obtain⟨δ',e,Ps',t5,t6,t7,t8,rfl,h1,h2⟩:=O9 (f:=gN 5) (G:=UT) (λi δ=>∃Ps' t5 t6 t7 t8,δ=tR (wd ps) T c Ps' (.sh (.int (k:Int))) t5 t6 t7 t8/\Ps'.length=Ps.length+i/\∀p∈Ps',Pw (ps.length*T) p) (W4 0 (T:Int)) 0 (tR (wd ps) T c Ps (.sh (.int (k:Int))) s5 s6 s7 s8) (by
  rintro j d δ hj ⟨Ps',t5,t6,t7,t8,rfl,h1,h2⟩;obtain⟨M,rfl⟩:=y40 hj;obtain⟨p,u6,u7,u8,e,h3⟩:=Xc0 hp hT c Ps' hk (t:=j) (by omega) (by omega) t6 t7 t8;refine⟨_,_,rfl,e,Ps'++[p],_,u6,u7,u8,rfl,by rw[List.length_append,List.length_singleton];omega,λx hx=>?_⟩;rcases C3.mp hx with hx|hx
  ·exact h2 x hx
  ·rw[List.mem_singleton.mp hx];exact h3) ⟨Ps,s5,s6,s7,s8,rfl,rfl,hw⟩
 exact⟨Ps',t5,t6,t7,t8,e,by rw[J] at h1;omega,h2⟩
def UK:GS:=(v8 (T8 (V9 (z9 (gv 1) v7)) (gN 5)
 UT)
 p7)
theorem kj0(hp:Web ps)(h32:ps.length*T<=60)(hT:0<T/\T<=7)(c:Int):∃qs,M6 [wd ps,.int (T:Int),.int c]=some (wd qs)/\Web qs/\qs.length=ps.length*T:=by
 have zs:(1000:Nat)<=sizeLine:=by decide
 have U:=hp.len;have S:(W4 0 (ps.length:Int)).length=ps.length:=by rw[ow0,List.length_map,List.length_range']
 have Y:0<ps.length*T:=Nat.mul_pos U.1 hT.1;obtain⟨δ',e,J,t4,t5,t6,t7,t8,rfl,h1,h2⟩:=O9 (f:=gN 4) (G:=UK) (λi δ=>∃J t4 t5 t6 t7 t8,δ=tR (wd ps) T c J t4 t5 t6 t7 t8/\J.length=i*T/\∀p∈J,Pw (ps.length*T) p) (W4 0 (ps.length:Int)) 0 (tR (wd ps) T c [] .un .un .un .un .un) (by
  rintro j d δ hj ⟨J,t4,t5,t6,t7,t8,rfl,h1,h2⟩;obtain⟨Z,rfl⟩:=y40 hj;have M:j<ps.length:=by omega
  have a0:j*T<=60:=C5 (r9 T (Y3 M)) h32;rw[Nat.zero_add] at h1;obtain⟨Q,u5,u6,u7,u8,e,h3,h4⟩:=Yd0 hp hT c J M (by omega) h2 t5 t6 t7 t8;refine⟨_,_,rfl,v9 (T6 (items:=W4 0 (T:Int)) (M5 (n:=(T:Int)) rfl (by omega) (by omega)) e) rfl,Q,_,u5,u6,u7,u8,rfl,?_,h4⟩;rw[h3,h1,Nat.zero_add,Nat.add_mul,Nat.one_mul]) ⟨[],.un,.un,.un,.un,.un,rfl,(by simp),λp O=>by cases O⟩
 rw[Nat.zero_add,S] at h1;refine⟨J,j5 rfl (v9 (δ':=tR (wd ps) T c [] .un .un .un .un .un) rfl (v9 (T6 (items:=W4 0 (ps.length:Int)) (M5 (n:=(ps.length:Int)) (cons_of (wo0 ps _ rfl) rfl) (by omega) (by omega)) e) (o8 (Z1 ?_)))),⟨by omega,by rw[h1];exact h2⟩,h1⟩;rfl
theorem Zz0{k t:Nat}(hd:T ∣ n)(hk:k<n)(ht:t<T):k/T*T+t<n:=by
 obtain⟨m,rfl⟩:=hd;have:k/T<m:=Nat.div_lt_of_lt_mul hk
 calc k/T*T+t<k/T*T+T:=by omega
  _=(k/T+1)*T:=by rw[Nat.add_mul,Nat.one_mul]
  _<=m*T:=r9 T (by omega)
  _=T*m:=Nat.mul_comm _ _
end Fa
namespace Ma
open DL W
def vf0:GS:=(v8 (j7 (o2 (oA (z9 (gv 0) (z9 (gv 0) (z9 (Z6 (z9 (gv 1) (z9 (gv 2) v7))) v7))) W6) (gc (.int 1)) ixD))
 p7)
def p10:List Str:=["web", "p", "q"]
def Y0:List D->Option D:=mkF 3 p10 vf0
def w70:GS:=(v8 (n6 (gN 3) (Z6 (z9 (gc (.str "at")) (z9 (gv 2) v7))))
 (v8 (T8 (yy0 (gv 1)) (gN 4)
 (v8 (ifD (we0 (J0 (ob (V7 isTup (gv 3)))) (J0 (ob (yt0 (gc (.int 0)) (gv 4) (oA (z9 (oA (z9 (o2 (gv 0) (o2 (gv 3) (gc (.int 1)) ixD) ixD) v7) m5) v7) X4) leD ltD))))
 (v8 (j7 (gc (.str "nowhere")))
 p7)
 p7)
 (v8 (n6 (gN 3) (o2 (oA (z9 (o2 (gv 0) (o2 (gv 3) (gc (.int 1)) ixD) ixD) v7) m5) (gv 4) ixD))
 p7)))
 (v8 (j7 (gv 3))
 p7)))
def se0:List Str:=["_law_web_here", "_law_way", "_law_k", "_law_here", "_law_place"]
def U3:List D->Option D:=mkF 3 se0 w70
def vd0:GS:=(v8 (ifD (G5 (ob (V7 isTup (gv 1))) (ob (V7 isTup (gv 2))))
 (v8 (j7 (o2 (oA (z9 (o2 (gv 0) (o2 (gv 1) (gc (.int 1)) ixD) ixD) v7) Z5) (oA (z9 (o2 (gv 0) (o2 (gv 2) (gc (.int 1)) ixD) ixD) v7) Z5) Q5))
 p7)
 p7)
 (v8 (j7 (o2 (gv 1) (gv 2) Q5))
 p7))
def qn0:List Str:=["_law_web_here", "_law_first", "_law_second"]
def W0:List D->Option D:=mkF 3 qn0 vd0
def vz0:GS:=(v8 (T7 2 (gc (.dct (.inr []) [])))
 (v8 (T8 (kq0 (gv 1)) (gN 3)
 (v8 (n6 (gN 4) (oA (z9 (o2 (gv 0) (o2 (gv 3) (gc (.int 0)) ixD) ixD) v7) m5))
 (v8 (n6 (gN 5) (oA (z9 (o2 (gv 0) (o2 (gv 3) (gc (.int 1)) ixD) ixD) v7) m5))
 (v8 (T8 (V9 (z9 (oA (z9 (gv 4) v7) X4) v7)) (gN 6)
 (v8 (n6 (gN 7) (o2 (o2 (gv 1) (gv 3) yo0) (Y8 (z9 (gv 6) v7)) j6))
 (v8 (ifD (ob (oA (z9 (gv 0) (z9 (o2 (gv 4) (gv 6) ixD) (z9 (o2 (gv 5) (gv 6) ixD) v7))) W0))
 (v8 (j7 (zt0 (Z6 (z9 (gv 7) (z9 (gv 2) v7)))))
 p7)
 p7)
 (v8 (ifD (ob (V7 isTup (o2 (gv 4) (gv 6) ixD)))
 (v8 (n6 (gN 8) (Z6 (z9 (o2 (o2 (gv 4) (gv 6) ixD) (gc (.int 1)) ixD) (z9 (o2 (o2 (gv 5) (gv 6) ixD) (gc (.int 1)) ixD) v7))))
 (v8 (ifD (zz0 (ob (o2 (gv 8) (gv 2) (R8 true))))
 (v8 (M4 (O4 (gv 7)) (z90 2 (gv 8)))
 p7)
 p7)
 p7))
 p7)
 p7))))
 p7))))
 (v8 (j7 (zt0 (Z6 (z9 (gc .non) (z9 (gv 2) v7)))))
 p7)))
def ov0:List Str:=["_law_web_here", "_law_level_here", "_law_fresh", "_law_pair", "_law_first", "_law_second", "_law_place", "_law_way", "_law_spot"]
def U7:List D->Option D:=mkF 2 ov0 vz0
def vy0:GS:=(v8 (ifD (ob (o2 (oA (z9 (o2 (gv 0) (gv 1) ixD) v7) Z5) (oA (z9 (o2 (gv 0) (gv 2) ixD) v7) Z5) Q5))
 (v8 (j7 (Y8 v7))
 p7)
 p7)
 (v8 (n6 (gN 4) (y70 (Z6 (z9 (gv 1) (z9 (gv 2) v7))) (Y8 v7)))
 (v8 (T8 (V9 (z9 (gv 3) v7)) (gN 5)
 (v8 (M4 (O4 (oA (z9 (gv 0) (z9 (gv 4) v7)) U7)) (J9 6 4))
 (v8 (ifD (ob (o2 (gv 6) (gc .non) v50))
 (v8 (j7 (gv 6))
 p7)
 p7)
 p7)))
 (v8 (j7 (gc .non))
 p7))))
def n60:List Str:=["_law_web_here", "_law_p", "_law_q", "_law_most", "_law_level_here", "_law_count", "_law_way"]
def ze0:List D->Option D:=mkF 4 n60 vy0
def u90:GS:=(v8 (orS (T7 3 (oA (z9 (gv 0) (z9 (gv 1) (z9 (gv 2) v7))) (fT Y0))) (n6 (gN 3) (oA (z9 (gv 0) (z9 (gv 1) (z9 (gv 2) v7))) Y0)))
 (v8 (ifD (zz0 (ob (o2 (gv 3) (gc .non) ot0)))
 (v8 (j7 (v00 (o2 (oA (z9 (gv 0) (z9 (gv 0) (z9 (Z6 (z9 (gv 1) (z9 (gv 2) v7))) v7))) K6) (gc .non) v50) (o2 (oA (z9 (gv 0) (z9 (gv 2) (z9 (gv 1) v7))) Y0) (gc .non) ot0)))
 p7)
 p7)
 (v8 (ifD (J0 (ob (yx0 (V7 e50 (gv 3)))))
 (v8 (j7 (gc (.bl false)))
 p7)
 p7)
 (v8 (sj0 3 (T8 (yy0 (gv 3)) (gN 4)
 (v8 (ifD (we0 (J0 (ob (V7 isInt (gv 4)))) (ob (V7 isBool (gv 4))))
 (v8 (j7 (gc (.bl false)))
 p7)
 p7)
 p7)))
 (v8 (n6 (gN 5) (xy0 (oA (z9 (gv 0) (z9 (gv 3) (z9 (gv 1) v7))) U3)))
 (v8 (n6 (gN 6) (xy0 (oA (z9 (gv 0) (z9 (gv 3) (z9 (gv 2) v7))) U3)))
 (v8 (ifD (we0 (ob (o2 (gc (.str "nowhere")) (Z6 (z9 (gv 5) (z9 (gv 6) v7))) k80)) (J0 (ob (oA (z9 (gv 0) (z9 (gv 5) (z9 (gv 6) v7))) W0))))
 (v8 (j7 (gc (.bl false)))
 p7)
 p7)
 (v8 (n6 (gN 7) (oe0 (oA (z9 (gv 3) v7) u60)))
 (v8 (ifD (ob (o2 (oA (z9 (gv 0) (z9 (gv 1) (z9 (gv 2) (z9 (oA (z9 (gv 7) v7) X4) v7)))) ze0) (gv 7) Q5))
 (v8 (j7 (gc (.bl false)))
 p7)
 p7)
 (v8 (W3 (U5 3 (gc (.int 0))))
 (v8 (j7 (v00 (o2 (oA (z9 (gv 0) (z9 (gv 2) (z9 (gv 1) v7))) Y0) (gv 7) yv0) (o2 (oA (z9 (gv 0) (z9 (gv 1) (z9 (gv 2) v7))) Y0) (gv 7) yv0)))
 p7)))))))))))
def xl0:List Str:=["_law_web_here", "_law_p", "_law_q", "_law_found", "_law_place", "_law_one", "_law_other", "_law_kept"]
def N5:List D->Option D:=mkF 3 xl0 u90
def el0:GS:=(v8 (n6 (gN 1) (oA (z9 (gv 0) (z9 (gc (.int 4)) v7)) j9))
 (v8 (n6 (gN 2) (o2 (Y8 (z9 (gc (.int 2)) (z9 (gc (.int 3)) (z9 (gc (.int 4)) (z9 (gc (.int 7)) v7))))) (o2 (gv 1) (gc (.int 4)) d7) ixD))
 (v8 (n6 (gN 3) (oA (z9 (oA (z9 (gv 0) (z9 (gc (.int 8)) v7)) J1) (z9 (gv 2) (z9 (oA (z9 (gv 0) (z9 (gc (.int 5)) v7)) j9) v7))) M6))
 (v8 (T8 (V9 (z9 (o2 (gc (.int 1)) (o2 (o2 (gv 1) (gc (.int 4)) Y4) (gc (.int 3)) d7) j6) v7)) (gN 4)
 (v8 (n6 (gN 3) (oA (z9 (gv 3) (z9 (oA (z9 (o2 (oA (z9 (gv 0) (z9 (gc (.int 6)) v7)) j9) (gv 4) j6) (z9 (o2 (gv 4) (gc (.int 9)) j6) v7)) X5) v7)) R4))
 p7))
 (v8 (T8 (V9 (z9 (gc (.int 8)) v7)) (gN 4)
 (v8 (n6 (gN 5) (oA (z9 (o2 (oA (z9 (gv 0) (z9 (gc (.int 7)) v7)) j9) (o2 (gv 4) (gv 4) U6) j6) (z9 (o2 (gv 4) (gc (.int 70)) j6) v7)) X5))
 (v8 (n6 (gN 6) (o2 (gv 5) (oA (z9 (gv 3) v7) X4) d7))
 (v8 (n6 (gN 7) (o2 (o2 (gv 5) (gc (.int 60)) Y4) (oA (z9 (gv 3) v7) X4) d7))
 (v8 (ifD (ob (o2 (o2 (gv 4) (gc (.int 4)) d7) (gc (.int 0)) gtD))
 (v8 (n6 (gN 7) (o2 (o2 (o2 (gv 6) (gv 2) Y4) (gv 2) U6) (o2 (o2 (gv 5) (gc (.int 60)) Y4) (gv 2) d7) j6))
 p7)
 p7)
 (v8 (ifD (J0 (ob (oA (z9 (gv 3) (z9 (gv 6) (z9 (gv 7) v7))) N5)))
 (v8 (j7 (gc (.bl false)))
 p7)
 p7)
 p7))))))
 (v8 (j7 (gc (.bl true)))
 p7))))))
def Xo0:List Str:=["_law_script", "_law_turn", "_law_times", "_law_web_here", "_law_j", "_law_number", "_law_p", "_law_q"]
def ut0:List D->Option D:=mkF 1 Xo0 el0
end Ma
namespace La
open Ma
open DL W K22 Ta
abbrev Bk:=Option ((Nat×Nat)×Nat)
abbrev Cs:=List (Nat×Nat)×List Bk
def cD:Bk->D
 | none=>.non
 | some (p,k)=>.tup [pN p,.int (k:Int)]
def cm(s:Cs):D:=.dct (.inr (s.1.map k2)) (s.2.map cD)
def nI(k:Nat):D:=.int (k:Int)
def ex1(q:Nat×Nat)(k:Nat)(v:D×D)(s:Cs):Cs:=match gl1 v with
 | some x=>if x∈s.1 then s else (s.1++[x],s.2++[some (q,k)])
 | none=>s
def exs(q:Nat×Nat):Nat->List (D×D)->Cs->Cs
 | _,[],s=>s
 | k,v::z,s=>exs q (k+1) z (ex1 q k v s)
def prt(ps qs:List Pt)(v:D×D):Prop:=match gl1 v with
 | some x=>Pn.hd (pa ps x.1)≠Pn.hd (pa qs x.2)
 | none=>v.1≠v.2
def zp(ps qs:List Pt)(q:Nat×Nat):List (D×D):=(pa ps q.1).vals.zip (pa qs q.2).vals
def lk(s:Cs)(q:Nat×Nat)(b:Bk):Prop:=zq0 (s.1.map k2) (s.2.map cD) (k2 q)=some (cD b)
inductive Wy (s:Cs):(Nat×Nat)->List Nat->Prop
 | top {q:Nat×Nat}:lk s q none->Wy s q []
 | go {q:Nat×Nat} {p:Nat×Nat} {k:Nat} {w:List Nat}:lk s q (some (p,k))->Wy s p w->Wy s q (w++[k])
theorem Wy.lk{s:Cs}{w:List Nat}(h:Wy s q w):∃b,lk s q b:=by
 cases h with
 | top h=>exact⟨_,h⟩
 | go h _=>exact⟨_,h⟩
theorem dn0{ks:List (List J2)}{k:List J2}{d:D}(ks':List (List J2))(ds':List D)(h:zq0 ks ds k=some d):zq0 (ks++ks') (ds++ds') k=some d:=by
 induction ks generalizing ds with
 | nil=>cases ds<;>exact nomatch h
 | cons q ks ih =>
  cases ds with
  | nil=>exact nomatch h
  | cons x ds =>
   rw[List.cons_append,List.cons_append];unfold zq0 at h ⊢;split at h
   ·rename_i e;rw[if_pos e];exact h
   ·rename_i e;rw[if_neg e];exact ih h
theorem dd0{ks:List (List J2)}{k:List J2}{d:D}(hl:ks.length=ds.length)(h:k∉ks):zq0 (ks++[k]) (ds++[d]) k=some d:=by
 induction ks generalizing ds with
 | nil =>
  cases ds with
  | nil=>show (if k=k then some d else _)=_;rw[if_pos rfl]
  | cons=>cases hl
 | cons q ks ih =>
  cases ds with
  | nil=>cases hl
  | cons x ds =>
   rw[List.cons_append,List.cons_append];unfold zq0;rw[if_neg (λe=>h (by rw[e];exact A5))];exact ih (by simpa using hl) λz=>h (C2 _ z)
theorem Wy.app{s:Cs}{w:List Nat}(A:List (Nat×Nat))(B:List Bk)(h:Wy s q w):Wy (s.1++A,s.2++B) q w:=by
 have up:∀{q b},La.lk s q b->La.lk (s.1++A,s.2++B) q b:=λ{q b} e=>by
  unfold La.lk;rw[List.map_append,List.map_append];exact dn0 _ _ e
 induction h with
 | top e=>exact .top (up e)
 | go e _ ih=>exact .go (up e) ih
def WW:GS:=(v8 (W3 (U5 2 (o2 (gv 3) (gc (.int 1)) ixD)))
 (v8 (n6 (gN 3) (o2 (gv 0) (o2 (gv 3) (gc (.int 0)) ixD) yo0))
 p7))
theorem g00(p:Nat×Nat):za0 (pN p)=some (k2 p):=rfl
theorem j20{s:Cs}{b:Bk}(h:lk s q b):yo0 (cm s) (pN q)=some (cD b):=h
theorem ff0{s:Cs}(P:Sl):∀{q:Nat×Nat} {w:List Nat},Wy s q w->∀(b:Bk),lk s q b->∀(f:Nat) (bk:List Nat),w.length<f->bk.length+w.length<=5000 ->
  Q3 (ob (o2 (gv 3) (gc .non) v50)) WW f [.sh (cm s),P,.ow (.lst (bk.map nI)),.sh (cD b)]=some (.nx [.sh (cm s),P,.ow (.lst ((bk++w.reverse).map nI)),.sh .non]):=by
 intro q w h;have one:∀{q:Nat×Nat} {b c:Bk},lk s q b->lk s q c->cD b=cD c:=λh1 h2=>B4 (h1.symm.trans h2)
 have zs:(5000:Nat)<=sizeLine:=by decide
 induction h with
 | top e =>
  intro b hb f bk hf _;rw[one hb e];obtain⟨f,rfl⟩:∃g,f=g+1:=⟨f - 1,by simp at hf;omega⟩;rw[List.reverse_nil,List.append_nil];rfl
 | @go q p k w e hw ih =>
  intro b hb f bk hf hl;rw[one hb e];rw[List.length_append,List.length_singleton] at hf hl;obtain⟨f,rfl⟩:∃g,f=g+1:=⟨f - 1,by omega⟩;obtain⟨c,hc⟩:=hw.lk;have body:WW [.sh (cm s),P,.ow (.lst (bk.map nI)),.sh (cD (some (p,k)))]=some (.nx [.sh (cm s),P,.ow (.lst ((bk++[k]).map nI)),.sh (cD c)]):=by
   refine v9 (δ':=[.sh (cm s),P,.ow (.lst ((bk++[k]).map nI)),.sh (cD (some (p,k)))]) ?_ (v9 (j4 (d:=cD c) ?_) rfl)
   ·unfold W3 U5
    show Option.map (λr:D×Ds=>Res.nx r.2) (if (bk.map nI).length<sizeLine then some (D.non,([.sh (cm s),P,.ow (.lst (bk.map nI++[nI k])),.sh (cD (some (p,k)))]:Ds)) else none)=_;rw[if_pos (by rw[List.length_map];omega),List.map_append];rfl
   ·rw[o5 (x:=cm s) (y:=pN p) rfl rfl]
    exact j20 hc
  have:=ih c hc f (bk++[k]) (by omega) (by rw[List.length_append,List.length_singleton];omega);unfold Q3;rw[show ob (o2 (gv 3) (gc .non) v50) [.sh (cm s),P,.ow (.lst (bk.map nI)),.sh (cD (some (p,k)))]=some true from rfl];dsimp only;rw[body];dsimp only;rw[this,List.reverse_append,List.append_assoc];rfl
theorem aj0{s:Cs}{w:List Nat}(h:Wy s q w)(hl:w.length<=4000):zx0 [cm s,pN q]=some (.lst (w.map nI)):=by
 obtain⟨b,hb⟩:=h.lk;refine G9 rfl (v9 (δ':=[.sh (cm s),.sh (pN q),.ow (.lst ([].map nI)),.un]) rfl (v9 (j4 (d:=cD b) ?_) (v9 (ff0 (.sh (pN q)) h b hb 100000 [] (by omega) (by simp only[List.length_nil];omega)) (J6 ?_))))
 ·rw[o5 (x:=cm s) (y:=pN q) rfl rfl]
  exact j20 hb
 ·show some (Res.rf (.lst ((([]++w.reverse).map nI).reverse)))=_
  rw[List.nil_append,← List.map_reverse,List.reverse_reverse]
theorem e60(p:Pt)(h:p.few):O2 [p.d]=some (Pn.hd p):=Pn.rv0 p h
theorem mu0(p:Pt)(h:p.few):m_values [p.d]=some (.lst p.vals):=Pn.vq0 p h
theorem ie0(v w:D):V5 [.tup [v,w]]=some (.bl (isTup v&&isTup w)):=Ta.dp0 v w
theorem ph0(i j:Nat):Z3 [.tup [.tup [.str "at",.int (i:Int)],.tup [.str "at",.int (j:Int)]]]=some (pN (i,j)):=j5 rfl (o8 (Z1 (X6 (cons_of rfl (cons_of rfl rfl)) (by show 2<=sizeLine;decide))))
theorem uu0{v:D}(h:Lv n v):Pn.Pl v:=by
 rcases h with rfl|⟨z,rfl⟩|⟨j,rfl,_⟩<;>exact⟨rfl,rfl⟩
theorem z70{v w:D}(hv:Lv n v)(hw:Lv m w):(∃i j:Nat,i<n/\j<m/\v=.tup [.str "at",.int (i:Int)]/\w=.tup [.str "at",.int (j:Int)]/\gl1 (v,w)=some (i,j))∨(gl1 (v,w)=none/\(isTup v&&isTup w)=false):=by
 rcases hv with rfl|⟨z,rfl⟩|⟨i,rfl,hi⟩
 ·exact .inr ⟨rfl,rfl⟩
 ·exact .inr ⟨rfl,rfl⟩
 ·rcases hw with rfl|⟨z,rfl⟩|⟨j,rfl,hj⟩
  ·exact .inr ⟨rfl,rfl⟩
  ·exact .inr ⟨rfl,rfl⟩
  ·exact .inl ⟨i,j,hi,hj,rfl,rfl,rfl⟩
theorem sg0(hp:Web ps)(hq:Web qs){x:Nat×Nat}(h1:x.1<ps.length)(h2:x.2<qs.length){g1 g2:GE}(e1:g1 δ=ixD (wd ps) (.int (x.1:Int)))(e2:g2 δ=ixD (wd qs) (.int (x.2:Int))) :
  zr0 (Pn.hd (pa ps x.1)≠Pn.hd (pa qs x.2)) (o2 (oA (z9 g1 v7) O2) (oA (z9 g2 v7) O2) Q5 δ):=by
 obtain⟨a1,a2⟩:=W9 hp h1;obtain⟨b1,b2⟩:=W9 hq h2;rw[o5 (x:=Pn.hd (pa ps x.1)) (y:=Pn.hd (pa qs x.2)) (by rw[o9 (ds:=[(pa ps x.1).d]) (cons_of (e1.trans a1) rfl)];exact e60 _ a2.f) (by rw[o9 (ds:=[(pa qs x.2).d]) (cons_of (e2.trans b1) rfl)];exact e60 _ b2.f)];exact⟨λe=>Pn.rr0 (Pn.xb0 _) (Pn.xb0 _) e,λe=>by rw[Classical.not_not.mp e];exact Pn.tf0 (Pn.xb0 _).le⟩
theorem k90(hp:Web ps)(hq:Web qs){v w:D}(hv:Lv ps.length v)(hw:Lv qs.length w):zr0 (prt ps qs (v,w)) (T3 [wd ps,wd qs,.tup [v,w]]):=by
 have hl:ob (oA (z9 (gv 2) v7) V5) [.sh (wd ps),.sh (wd qs),.sh (.tup [v,w]),.un]=some (isTup v&&isTup w):=Bw.yj0 (by rw[o9 (ds:=[.tup [v,w]]) rfl];exact ie0 v w);rcases z70 hv hw with⟨i,j,hi,hj,rfl,rfl,e⟩|⟨e,e2⟩
 ·unfold prt
  rw[e];dsimp only;obtain⟨t1,t2⟩:=sg0 hp hq (x:=(i,j)) hi hj (g1:=o2 (gv 0) (o2 (gv 3) (gc (.int 0)) ixD) ixD) (g2:=o2 (gv 1) (o2 (gv 3) (gc (.int 1)) ixD) ixD) (δ:=[.sh (wd ps),.sh (wd qs),.sh (.tup [.tup [.str "at",.int (i:Int)],.tup [.str "at",.int (j:Int)]]),.sh (pN (i,j))]) rfl rfl;have k:∀b,o2 (oA (z9 (o2 (gv 0) (o2 (gv 3) (gc (.int 0)) ixD) ixD) v7) O2) (oA (z9 (o2 (gv 1) (o2 (gv 3) (gc (.int 1)) ixD) ixD) v7) O2) Q5 [.sh (wd ps),.sh (wd qs),.sh (.tup [.tup [.str "at",.int (i:Int)],.tup [.str "at",.int (j:Int)]]),.sh (pN (i,j))]=some (.bl b)->T3 [wd ps,wd qs,.tup [.tup [.str "at",.int (i:Int)],.tup [.str "at",.int (j:Int)]]]=some (.bl b):=λb hb=>by
   refine j5 rfl (o8 ?_)
   change ifD _ _ _ [.sh (wd ps),.sh (wd qs),.sh (.tup [.tup [.str "at",.int (i:Int)],.tup [.str "at",.int (j:Int)]]),.un]=_
   rw[U8 hl];refine v9 (j4 (d:=pN (i,j)) (by rw[o9 (ds:=[.tup [.tup [.str "at",.int (i:Int)],.tup [.str "at",.int (j:Int)]]]) rfl];exact ph0 i j)) (o8 (Z1 hb))
  exact⟨λz=>k _ (t1 z),λz=>k _ (t2 z)⟩
 ·unfold prt
  rw[e];dsimp only;rw[e2] at hl;have k:∀b,Q5 v w=some (.bl b)->T3 [wd ps,wd qs,.tup [v,w]]=some (.bl b):=λb hb=>by
   refine j5 rfl (v9 (δ':=[.sh (wd ps),.sh (wd qs),.sh (.tup [v,w]),.un]) ?_ (o8 (Z1 ?_)))
   ·change ifD _ _ _ [.sh (wd ps),.sh (wd qs),.sh (.tup [v,w]),.un]=_
    rw[Z0 hl];rfl
   ·rw[o5 (x:=v) (y:=w) rfl rfl]
    exact hb
  exact⟨λz=>k _ (Pn.rr0 (uu0 hv) (uu0 hw) z),λz=>k _ (by rw[Classical.not_not.mp z];exact Pn.tf0 (uu0 hw).le)⟩
def PB:GS:=(v8 (ifD (ob (oA (z9 (gv 0) (z9 (gv 1) (z9 (gv 8) v7))) T3))
 (v8 (j7 (zt0 (Z6 (z9 (gv 3) (z9 (o2 (oA (z9 (gv 3) (z9 (gv 6) v7)) zx0) (Y8 (z9 (gv 7) v7)) j6) v7)))))
 p7)
 p7)
 (v8 (ifD (G5 (ob (oA (z9 (gv 8) v7) V5)) (zz0 (ob (o2 (oA (z9 (gv 8) v7) Z3) (gv 3) (R8 true)))))
 (v8 (M4 (O4 (Z6 (z9 (gv 6) (z9 (gv 7) v7)))) (z90 3 (oA (z9 (gv 8) v7) Z3)))
 (v8 (W3 (U5 4 (oA (z9 (gv 8) v7) Z3)))
 p7))
 p7)
 p7))
def pS(ps qs:List Pt)(P:Sl)(s:Cs)(n:Nat)(a b c:Sl):Ds:=[.sh (wd ps),.sh (wd qs),P,.ow (cm s),.ow (.lst (s.1.map pN)),.sh (.int (n:Int)),a,b,c]
theorem X10(s:Cs):Dc s.1 (cm s):=⟨_,_,rfl,λx=>by
 rw[List.mem_map];constructor
 ·rintro⟨p,h,e⟩;exact⟨p,h,e.symm⟩
 ·rintro⟨p,h,e⟩;exact⟨p,h,e.symm⟩⟩
theorem cw0{s:Cs}{x:Nat×Nat}(h:x∉s.1)(b:Bk):zk0 (s.1.map k2) (k2 x)=(s.1++[x]).map k2/\ya0 (s.1.map k2) (s.2.map cD) (k2 x) (cD b)=(s.2++[b]).map cD:=by
 have hf:N6 (s.1.map k2) (k2 x)=false:=by
  cases e:N6 (s.1.map k2) (k2 x) with
  | false=>rfl
  | true =>
   obtain⟨q,hq,e2⟩:=A9.mp ((ox0 _ _).mp e);exact absurd (J3 e2▸hq) h
 unfold zk0 ya0;rw[hf];simp
theorem Yi0(hp:Web ps)(hq:Web qs)(P:Sl){s:Cs}(n:Nat){w:List Nat}(hw:Wy s q w)(hwl:w.length<=4000)(hs:s.1.length<=4000)(k:Nat){v u:D}(hv:Lv ps.length v)(hu:Lv qs.length u) :
  (prt ps qs (v,u)->PB (pS ps qs P s n (.sh (pN q)) (.sh (nI k)) (.sh (.tup [v,u])))=some (.rt (.tup [cm s,.lst ((w++[k]).map nI)]))) /\
  (¬prt ps qs (v,u)->PB (pS ps qs P s n (.sh (pN q)) (.sh (nI k)) (.sh (.tup [v,u])))=some (.nx (pS ps qs P (ex1 q k (v,u) s) n (.sh (pN q)) (.sh (nI k)) (.sh (.tup [v,u]))))):=by
 have zs:(9000:Nat)<=sizeLine:=by decide
 obtain⟨t1,t2⟩:=zj0 (g:=oA (z9 (gv 0) (z9 (gv 1) (z9 (gv 8) v7))) T3) (δ:=pS ps qs P s n (.sh (pN q)) (.sh (nI k)) (.sh (.tup [v,u]))) (p:=prt ps qs (v,u)) (by
  rw[o9 (ds:=[wd ps,wd qs,.tup [v,u]]) rfl];exact k90 hp hq hv hu)
 refine⟨λz=>?_,λz=>?_⟩
 ·refine o8 ?_
  rw[U8 (t1 z)];refine o8 (Z1 ?_);show Z6 (z9 (gv 3) (z9 (o2 (oA (z9 (gv 3) (z9 (gv 6) v7)) zx0) (Y8 (z9 (gv 7) v7)) j6) v7)) [.sh (wd ps),.sh (wd qs),zd0 P,.sh (cm s),.sh (.lst (s.1.map pN)),.sh (.int (n:Int)),.sh (pN q),.sh (nI k),.sh (.tup [v,u])]=_;refine X6 (cons_of rfl (cons_of (d:=.lst ((w++[k]).map nI)) ?_ rfl)) (by show 2<=sizeLine;omega);rw[o5 (x:=.lst (w.map nI)) (y:=.lst [nI k]) (by rw[o9 (ds:=[cm s,pN q]) rfl];exact aj0 hw hwl) (z60 rfl (by show 1<=sizeLine;omega))];show (if (w.map nI).length+1<=sizeLine then some (D.lst (w.map nI++[nI k])) else none)=_;rw[if_pos (by rw[List.length_map];omega),List.map_append];rfl
 ·refine v9 (δ':=pS ps qs P s n (.sh (pN q)) (.sh (nI k)) (.sh (.tup [v,u]))) (by rw[Z0 (t2 z)];rfl) ?_
  have hl:ob (oA (z9 (gv 8) v7) V5) (pS ps qs P s n (.sh (pN q)) (.sh (nI k)) (.sh (.tup [v,u])))=some (isTup v&&isTup u):=Bw.yj0 (by rw[o9 (ds:=[.tup [v,u]]) rfl];exact ie0 v u);unfold ex1;rcases z70 hv hu with⟨i,j,hi,hj,rfl,rfl,e⟩|⟨e,e2⟩
  ·rw[e]
   dsimp only;have lp:∀s':Cs,oA (z9 (gv 8) v7) Z3 (pS ps qs P s' n (.sh (pN q)) (.sh (nI k)) (.sh (.tup [.tup [.str "at",.int (i:Int)],.tup [.str "at",.int (j:Int)]])))=some (pN (i,j)):=λs'=>by
    rw[o9 (ds:=[.tup [.tup [.str "at",.int (i:Int)],.tup [.str "at",.int (j:Int)]]]) rfl];exact ph0 i j
   have M:zz0 (ob (o2 (oA (z9 (gv 8) v7) Z3) (gv 3) (R8 true))) (pS ps qs P s n (.sh (pN q)) (.sh (nI k)) (.sh (.tup [.tup [.str "at",.int (i:Int)],.tup [.str "at",.int (j:Int)]])))=some (decide ((i,j)∉s.1)):=by
    show ob (o2 (oA (z9 (gv 8) v7) Z3) (gv 3) (R8 true)) [.sh (wd ps),.sh (wd qs),zd0 P,.sh (cm s),.sh (.lst (s.1.map pN)),.sh (.int (n:Int)),.sh (pN q),.sh (nI k),.sh (.tup [.tup [.str "at",.int (i:Int)],.tup [.str "at",.int (j:Int)]])]=_;refine Bw.yj0 ?_;rw[o5 (x:=pN (i,j)) (y:=cm s) (by rw[o9 (ds:=[.tup [.tup [.str "at",.int (i:Int)],.tup [.str "at",.int (j:Int)]]]) rfl];exact ph0 i j) rfl];exact kc0 (X10 s) (i,j)
   have ht:G5 (ob (oA (z9 (gv 8) v7) V5)) (zz0 (ob (o2 (oA (z9 (gv 8) v7) Z3) (gv 3) (R8 true)))) (pS ps qs P s n (.sh (pN q)) (.sh (nI k)) (.sh (.tup [.tup [.str "at",.int (i:Int)],.tup [.str "at",.int (j:Int)]])))=some (decide ((i,j)∉s.1)):=by
    unfold G5;rw[hl,Option.bind_some];exact M
   by_cases h:(i,j)∈s.1
   ·rw[if_pos h]
    rw[decide_eq_false (λz=>z h)] at ht;refine v9 (δ':=pS ps qs P s n (.sh (pN q)) (.sh (nI k)) (.sh (.tup [.tup [.str "at",.int (i:Int)],.tup [.str "at",.int (j:Int)]]))) ?_ rfl;rw[Z0 ht];rfl
   ·rw[if_neg h]
    rw[decide_eq_true h] at ht;obtain⟨k1,J⟩:=cw0 h (some (q,k));refine v9 (δ':=pS ps qs P (s.1++[(i,j)],s.2++[some (q,k)]) n (.sh (pN q)) (.sh (nI k)) (.sh (.tup [.tup [.str "at",.int (i:Int)],.tup [.str "at",.int (j:Int)]]))) ?_ rfl;rw[U8 ht];refine v9 (δ':=[.sh (wd ps),.sh (wd qs),P,.ow (cm (s.1++[(i,j)],s.2++[some (q,k)])),.ow (.lst (s.1.map pN)),.sh (.int (n:Int)),.sh (pN q),.sh (nI k),.sh (.tup [.tup [.str "at",.int (i:Int)],.tup [.str "at",.int (j:Int)]])]) ?_ (v9 (δ':=pS ps qs P (s.1++[(i,j)],s.2++[some (q,k)]) n (.sh (pN q)) (.sh (nI k)) (.sh (.tup [.tup [.str "at",.int (i:Int)],.tup [.str "at",.int (j:Int)]]))) ?_ rfl)
    ·unfold M4
     rw[show O4 (Z6 (z9 (gv 6) (z9 (gv 7) v7))) (pS ps qs P s n (.sh (pN q)) (.sh (nI k)) (.sh (.tup [.tup [.str "at",.int (i:Int)],.tup [.str "at",.int (j:Int)]])))=some (cD (some (q,k)),pS ps qs P s n (.sh (pN q)) (.sh (nI k)) (.sh (.tup [.tup [.str "at",.int (i:Int)],.tup [.str "at",.int (j:Int)]]))) from rfl,Option.bind_some];unfold z90;show Option.map Res.nx ((ue0 3 _).bind _)=_;rw[lp s,show ue0 3 (pS ps qs P s n (.sh (pN q)) (.sh (nI k)) (.sh (.tup [.tup [.str "at",.int (i:Int)],.tup [.str "at",.int (j:Int)]])))=some (s.1.map k2,s.2.map cD) from rfl,Option.bind_some,Option.bind_some,g00,Option.bind_some];dsimp only;rw[if_pos (by rw[List.length_map];omega),k1,J];rfl
    ·unfold W3 U5
     have O:oA (z9 (gv 8) v7) Z3 [.sh (wd ps),.sh (wd qs),P,.ow (cm (s.1++[(i,j)],s.2++[some (q,k)])),.ow (.lst (s.1.map pN)),.sh (.int (n:Int)),.sh (pN q),.sh (nI k),.sh (.tup [.tup [.str "at",.int (i:Int)],.tup [.str "at",.int (j:Int)]])]=some (pN (i,j)):=by
      rw[o9 (ds:=[.tup [.tup [.str "at",.int (i:Int)],.tup [.str "at",.int (j:Int)]]]) rfl];exact ph0 i j
     rw[O];show Option.map (λr:D×Ds=>Res.nx r.2) (if (s.1.map pN).length<sizeLine then some (D.non,([.sh (wd ps),.sh (wd qs),P,.ow (cm (s.1++[(i,j)],s.2++[some (q,k)])),.ow (.lst (s.1.map pN++[pN (i,j)])),.sh (.int (n:Int)),.sh (pN q),.sh (nI k),.sh (.tup [.tup [.str "at",.int (i:Int)],.tup [.str "at",.int (j:Int)]])]:Ds)) else none)=_;rw[if_pos (by rw[List.length_map];omega)];unfold pS;rw[List.map_append];rfl
  ·rw[e]
   dsimp only;rw[e2] at hl;refine v9 (δ':=pS ps qs P s n (.sh (pN q)) (.sh (nI k)) (.sh (.tup [v,u]))) ?_ rfl;rw[Z0 (by unfold G5;rw[hl];rfl)];rfl
inductive Rch (ps qs:List Pt) (p0:Nat×Nat):Nat×Nat->Prop
 | top:Rch ps qs p0 p0
 | go {q x:Nat×Nat}:Rch ps qs p0 q->x∈gl (zp ps qs q)->Rch ps qs p0 x
structure Pi(ps qs:List Pt)(p0:Nat×Nat)(s:Cs):Prop where
 len:s.1.length=s.2.length
 nd:s.1.Nodup
 inr:∀x∈s.1,x.1<ps.length/\x.2<qs.length
 way:∀x∈s.1,∃w,Wy s x w/\w.length<s.1.length
 hds:∀x∈s.1,Pn.hd (pa ps x.1)=Pn.hd (pa qs x.2)
 rc:∀x∈s.1,Rch ps qs p0 x
theorem Pi.few(hp:Web ps)(hq:Web qs){s:Cs}(h:Pi ps qs p0 s):s.1.length<=3600 :=
 Fa.kg0 (n:=60) h.nd λx hx=>by
  have:=h.inr x hx;have:=hp.len.2;have:=hq.len.2;omega
theorem ux0(hp:Web ps)(hq:Web qs)(h1:q.1<ps.length)(h2:q.2<qs.length){v:D×D}(hv:v∈zp ps qs q):Lv ps.length v.1/\Lv qs.length v.2 :=
 ⟨(W9 hp h1).2.lv _ (N9 hv).1,(W9 hq h2).2.lv _ (N9 hv).2⟩
theorem ou0(hp:Web ps)(hq:Web qs){s:Cs}(h:Pi ps qs p0 s)(hm:q∈s.1)(k:Nat){v:D×D}(hv:v∈zp ps qs q)(hn:¬prt ps qs v) :
  Pi ps qs p0 (ex1 q k v s)/\(∀x∈s.1,x∈(ex1 q k v s).1)/\∀x,gl1 v=some x->x∈(ex1 q k v s).1:=by
 obtain⟨i1,i2⟩:=h.inr q hm;obtain⟨l1,l2⟩:=ux0 hp hq i1 i2 hv;unfold ex1;unfold prt at hn;cases e:gl1 v with
 | none=>exact⟨h,λx hx=>hx,λx hx=>nomatch hx⟩
 | some x =>
  rw[e] at hn;dsimp only at hn ⊢
  by_cases hx:x∈s.1
  ·rw[if_pos hx]
   exact⟨h,λy hy=>hy,λy hy=>by cases hy;exact hx⟩
  ·rw[if_neg hx]
   have M:x.1<ps.length/\x.2<qs.length:=by
    rcases z70 l1 l2 with⟨i,j,hi,hj,_,_,e2⟩|⟨e2,_⟩
    ·rw[show (v.1,v.2)=v from rfl,e] at e2
     cases e2;exact⟨hi,hj⟩
    ·rw[show (v.1,v.2)=v from rfl,e] at e2
     cases e2
   have mem:∀y,y∈s.1++[x]↔y∈s.1∨y=x:=λy=>by simp
   refine⟨⟨by rw[List.length_append,List.length_append,h.len];rfl,rt0.mpr ⟨h.nd,hx⟩,λy hy=>?_,λy hy=>?_,λy hy=>?_,λy hy=>?_⟩,λy hy=>(mem y).mpr (.inl hy),λy hy=>by cases hy;exact(mem x).mpr (.inr rfl)⟩
   ·rcases (mem y).mp hy with hy|rfl
    ·exact h.inr y hy
    ·exact M
   ·rw[List.length_append,List.length_singleton]
    rcases (mem y).mp hy with hy|rfl
    ·obtain⟨w,w1,w2⟩:=h.way y hy
     exact⟨w,w1.app _ _,by omega⟩
    ·obtain⟨w,w1,w2⟩:=h.way q hm
     refine⟨w++[k],.go ?_ (w1.app _ _),by rw[List.length_append,List.length_singleton];omega⟩;unfold lk;rw[List.map_append,List.map_append];refine dd0 (by rw[List.length_map,List.length_map,h.len]) λz=>hx ?_
     obtain⟨y',J,e2⟩:=A9.mp z;exact J3 e2▸J
   ·rcases (mem y).mp hy with hy|rfl
    ·exact h.hds y hy
    ·exact Y2.mp hn
   ·rcases (mem y).mp hy with hy|rfl
    ·exact h.rc y hy
    ·exact .go (h.rc q hm) (L7.mpr ⟨v,hv,e⟩)
theorem s20(hp:Web ps)(hq:Web qs):∀(z:List (D×D)) (k:Nat) (s:Cs),Pi ps qs p0 s->q∈s.1->(∀v∈z,v∈zp ps qs q/\¬prt ps qs v) ->
  Pi ps qs p0 (exs q k z s)/\(∀x∈s.1,x∈(exs q k z s).1)/\∀x∈gl z,x∈(exs q k z s).1
 | [],k,s,h,hm,_=>⟨h,λx hx=>hx,λx hx=>by cases hx⟩
 | v::z,k,s,h,hm,hz=>by
  obtain⟨h1,h2⟩:=hz v A5;obtain⟨a1,a2,a3⟩:=ou0 hp hq h hm k h1 h2;obtain⟨b1,b2,b3⟩:=s20 hp hq z (k+1) (ex1 q k v s) a1 (a2 q hm) λu hu=>hz u (C2 _ hu)
  refine⟨b1,λx hx=>b2 x (a2 x hx),λx hx=>?_⟩;obtain⟨u,hu,e⟩:=L7.mp hx;rcases C0.mp hu with rfl|hu
  ·exact b2 x (a3 x e)
  ·exact b3 x (L7.mpr ⟨u,hu,e⟩)
def itm:Nat->List (D×D)->List D
 | _,[]=>[]
 | k,v::z=>.tup [nI k,.tup [v.1,v.2]]::itm (k+1) z
theorem h00:∀(z:List (D×D)) (k i:Nat),(itm k z)[i]?=z[i]?.map λv=>.tup [nI (k+i),.tup [v.1,v.2]]
 | [],k,i=>by simp[itm]
 | v::z,k,0=>rfl
 | v::z,k,i+1=>by
  unfold itm;rw[List.getElem?_cons_succ,List.getElem?_cons_succ,h00 z (k+1) i,show k+1+i=k+(i+1) by omega]
theorem fm0(ds es:List D):w00 ds es=itm 0 (ds.zip es):=by
 refine Ab0 λi=>?_
 rw[h00,Nat.zero_add]
 by_cases h:i<(ds.zip es).length
 ·have h':=h
  rw[List.length_zip] at h';have h1:i<ds.length:=by omega
  have h2:i<es.length:=by omega
  rw[o30 h1 h2,show (ds.zip es)[i]?=some (ds[i],es[i]) from S1.mpr ⟨B6 h1,B6 h2⟩];rfl
 ·rw[List.getElem?_eq_none (B60 h),List.getElem?_eq_none (by unfold w00 pe0;simp at h ⊢;omega)]
  rfl
theorem ic0(hp:Web ps)(hq:Web qs)(P:Sl)(n:Nat):∀(z:List (D×D)) (k:Nat) (s:Cs) (b c:Sl),(∀v∈z,v∈zp ps qs q)->Pi ps qs p0 s->q∈s.1 ->
  (∃b' c',W2 (J9 7 8) PB (itm k z) (pS ps qs P s n (.sh (pN q)) b c)=some (.nx (pS ps qs P (exs q k z s) n (.sh (pN q)) b' c'))/\∀v∈z,¬prt ps qs v) ∨
  (∃j v w,z[j]?=some v/\(∀u∈z.take j,¬prt ps qs u)/\prt ps qs v/\Wy (exs q k (z.take j) s) q w/\W2 (J9 7 8) PB (itm k z) (pS ps qs P s n (.sh (pN q)) b c)=some (.rt (.tup [cm (exs q k (z.take j) s),.lst ((w++[k+j]).map nI)])))
 | [],k,s,b,c,_,h,hm=>.inl ⟨b,c,rfl,λv hv=>by cases hv⟩
 | v::z,k,s,b,c,hz,h,hm=>by
  have hv:=hz v A5;obtain⟨i1,i2⟩:=h.inr q hm;obtain⟨l1,l2⟩:=ux0 hp hq i1 i2 hv;obtain⟨w,w1,w2⟩:=h.way q hm;have few:=h.few hp hq;obtain⟨t1,t2⟩:=Yi0 hp hq P n w1 (by omega) (by omega) k l1 l2;have un:W2 (J9 7 8) PB (itm k (v::z)) (pS ps qs P s n (.sh (pN q)) b c)=(match PB (pS ps qs P s n (.sh (pN q)) (.sh (nI k)) (.sh (.tup [v.1,v.2]))) with|some (.nx δ')=>W2 (J9 7 8) PB (itm (k+1) z) δ'|some (.ct δ')=>W2 (J9 7 8) PB (itm (k+1) z) δ'|some (.bk δ')=>some (.nx δ')|r=>r):=by
   rw[show itm k (v::z)=.tup [nI k,.tup [v.1,v.2]]::itm (k+1) z from rfl]
   conv=>lhs;unfold W2
   rfl
  rw[un]
  by_cases hc:prt ps qs v
  ·refine .inr ⟨0,v,w,rfl,(λu hu=>absurd hu (by simp)),hc,w1,?_⟩
   rw[t1 hc];rfl
  ·rw[t2 hc]
   obtain⟨a1,a2,a3⟩:=ou0 hp hq h hm k hv hc;rcases ic0 hp hq P n z (k+1) (ex1 q k v s) (.sh (nI k)) (.sh (.tup [v.1,v.2])) (λu hu=>hz u (C2 _ hu)) a1 (a2 q hm) with⟨b',c',e,f⟩|⟨j,u,w',e1,e2,e3,e4,e5⟩
   ·refine .inl ⟨b',c',e,λu hu=>?_⟩
    rcases C0.mp hu with rfl|hu
    ·exact hc
    ·exact f u hu
   ·refine .inr ⟨j+1,u,w',e1,λy hy=>?_,e3,e4,?_⟩
    ·rw[List.take_succ_cons] at hy
     rcases C0.mp hy with rfl|hy
     ·exact hc
     ·exact e2 y hy
    ·rw[show k+(j+1)=k+1+j by omega]
     exact e5
inductive Run (ps qs:List Pt):Nat->Cs->Cs->Option ((Nat×Nat)×Nat)->Prop
 | fin {n:Nat} {s:Cs}:s.1.length=n->Run ps qs n s s none
 | go {n:Nat} {s s':Cs} {r:Option ((Nat×Nat)×Nat)} {q:Nat×Nat}:s.1[n]?=some q->(∀v∈zp ps qs q,¬prt ps qs v)->Run ps qs (n+1) (exs q 0 (zp ps qs q) s) s' r->Run ps qs n s s' r
 | prt {n:Nat} {s:Cs} {q:Nat×Nat} {j:Nat} {v:D×D}:s.1[n]?=some q->(zp ps qs q)[j]?=some v->(∀u∈(zp ps qs q).take j,¬prt ps qs u)->prt ps qs v->Run ps qs n s (exs q 0 ((zp ps qs q).take j) s) (some (q,j))
def PT:DL.GB:=(ob (o2 (gv 5) (yx0 (oA (z9 (gv 4) v7) X4)) ltD))
def PW:GS:=(v8 (n6 (gN 6) (xy0 (o2 (gv 4) (gv 5) ixD)))
 (v8 (kr0 5 (gc (.int 1)))
 (v8 (T8 (ws0 (z9 (oA (z9 (o2 (gv 0) (o2 (gv 6) (gc (.int 0)) ixD) ixD) v7) m_values) (z9 (oA (z9 (o2 (gv 1) (o2 (gv 6) (gc (.int 1)) ixD) ixD) v7) m_values) v7))) (J9 7 8)
 PB)
 p7)))
theorem Ye0(ps qs:List Pt)(P:Sl)(s:Cs)(n:Nat)(a b c:Sl):PT (pS ps qs P s n a b c)=some (decide (n<s.1.length)):=by
 unfold PT ob;rw[o5 (x:=.int (n:Int)) (y:=.int (s.1.length:Int)) rfl (by
  show some (D.int ((s.1.map pN).length:Int))=_;rw[List.length_map])]
 show some (decide ((n:Int)<(s.1.length:Int)))=_;congr 1;rw[decide_eq_decide];omega
theorem eg0(hp:Web ps)(hq:Web qs)(P:Sl){s:Cs}(e:s.1[n]?=some q)(i1:q.1<ps.length)(i2:q.2<qs.length)(a b c:Sl){r:Option Res}(hr:W2 (J9 7 8) PB (itm 0 (zp ps qs q)) (pS ps qs P s (n+1) (.sh (pN q)) b c)=r) :
  PW (pS ps qs P s n a b c)=r:=by
 have hn:n<s.1.length:=(A7.mp e).1;obtain⟨a1,a2⟩:=W9 hp i1;obtain⟨b1,b2⟩:=W9 hq i2;refine v9 (δ':=pS ps qs P s n (.sh (pN q)) b c) (j4 (d:=pN q) ?_) (v9 (δ':=pS ps qs P s (n+1) (.sh (pN q)) b c) ?_ ?_)
 ·refine uv0 ?_ rfl
  show o2 (gv 4) (gv 5) ixD [.sh (wd ps),.sh (wd qs),zd0 P,.sh (cm s),.sh (.lst (s.1.map pN)),.sh (.int (n:Int)),zd0 a,zd0 b,zd0 c]=_;rw[o5 (x:=.lst (s.1.map pN)) (y:=.int (n:Int)) rfl rfl];show atI (s.1.map pN) (n:Int)=_;rw[K1 (by omega) (by rw[List.length_map];omega) .non,Int.toNat_natCast,List.getD_eq_getElem?_getD,List.getElem?_map,e];rfl
 ·rfl
 ·have hz:ws0 (z9 (oA (z9 (o2 (gv 0) (o2 (gv 6) (gc (.int 0)) ixD) ixD) v7) m_values) (z9 (oA (z9 (o2 (gv 1) (o2 (gv 6) (gc (.int 1)) ixD) ixD) v7) m_values) v7)) (pS ps qs P s (n+1) (.sh (pN q)) b c)=some (itm 0 (zp ps qs q)):=by
   unfold ws0;rw[cons_of (d:=.lst (pa ps q.1).vals) (ds:=[.lst (pa qs q.2).vals]) (by
    rw[o9 (ds:=[(pa ps q.1).d]) (cons_of (by rw[o5 (x:=wd ps) (y:=.int (q.1:Int)) rfl rfl];exact a1) rfl)];exact mu0 _ a2.f) (cons_of (by
    rw[o9 (ds:=[(pa qs q.2).d]) (cons_of (by rw[o5 (x:=wd qs) (y:=.int (q.2:Int)) rfl rfl];exact b1) rfl)];exact mu0 _ b2.f) rfl)]
   show some (w00 _ _)=_;rw[fm0];rfl
  unfold v8;rw[T6 hz hr];rcases r with _|r
  ·rfl
  ·cases r<;>rfl
theorem go0(hp:Web ps)(hq:Web qs)(P:Sl):∀(f n:Nat) (s:Cs) (a b c:Sl),Pi ps qs p0 s->n<=s.1.length->3600 - n<f ->
  ∃s' r,Run ps qs n s s' r/\Pi ps qs p0 s'/\((r=none/\∃n' a' b' c',Q3 PT PW f (pS ps qs P s n a b c)=some (.nx (pS ps qs P s' n' a' b' c'))) ∨
   ∃q j w,r=some (q,j)/\Wy s' q w/\Q3 PT PW f (pS ps qs P s n a b c)=some (.rt (.tup [cm s',.lst ((w++[j]).map nI)]))):=by
 intro f
 induction f with
 | zero=>intro n s a b c _ _ h;omega
 | succ f ih =>
  intro n s a b c h hn hf;have few:=h.few hp hq;unfold Q3;rw[Ye0]
  by_cases h0:n<s.1.length
  ·rw[decide_eq_true h0]
   dsimp only;obtain⟨q,e⟩:∃q,s.1[n]?=some q:=⟨_,B6 h0⟩;have hm:q∈s.1:=B0 e;obtain⟨i1,i2⟩:=h.inr q hm;rcases ic0 hp hq P (n+1) (zp ps qs q) 0 s b c (λv hv=>hv) h hm with⟨b',c',e1,e2⟩|⟨j,v,w,e1,e2,e3,e4,e5⟩
   ·obtain⟨p1,p2,_⟩:=s20 hp hq (zp ps qs q) 0 s h hm λv hv=>⟨hv,e2 v hv⟩
    have hl:s.1.length<=(exs q 0 (zp ps qs q) s).1.length:=Ak0 h.nd p2;obtain⟨s',r,R,Q,k⟩:=ih (n+1) _ (.sh (pN q)) b' c' p1 (by omega) (by omega);rw[eg0 hp hq P e i1 i2 a b c e1];exact⟨s',r,.go e e2 R,Q,k⟩
   ·rw[Nat.zero_add] at e5
    rw[eg0 hp hq P e i1 i2 a b c e5];obtain⟨p1,_,_⟩:=s20 hp hq ((zp ps qs q).take j) 0 s h hm λv hv=>⟨m4 hv,e2 v hv⟩
    exact⟨_,_,.prt e e1 e2 e3,p1,.inr ⟨q,j,w,rfl,e4,rfl⟩⟩
  ·rw[decide_eq_false h0]
   exact⟨s,none,.fin (by omega),h,.inl ⟨rfl,n,a,b,c,rfl⟩⟩
theorem ds0(hp:Web ps)(hq:Web qs)(h1:p0.1<ps.length)(h2:p0.2<qs.length) :
  (Pn.hd (pa ps p0.1)≠Pn.hd (pa qs p0.2)/\W6 [wd ps,wd qs,pN p0]=some (.tup [cm ([p0],[none]),.lst []])) ∨
  (Pn.hd (pa ps p0.1)=Pn.hd (pa qs p0.2)/\∃s r,Run ps qs 0 ([p0],[none]) s r/\Pi ps qs p0 s/\((r=none/\W6 [wd ps,wd qs,pN p0]=some (.tup [cm s,.non])) ∨
   ∃q j w,r=some (q,j)/\Wy s q w/\W6 [wd ps,wd qs,pN p0]=some (.tup [cm s,.lst ((w++[j]).map nI)]))):=by
 have zs:(9000:Nat)<=sizeLine:=by decide
 obtain⟨t1,t2⟩:=zj0 (sg0 hp hq (x:=p0) h1 h2 (g1:=o2 (gv 0) (o2 (gv 2) (gc (.int 0)) ixD) ixD) (g2:=o2 (gv 1) (o2 (gv 2) (gc (.int 1)) ixD) ixD) (δ:=[.sh (wd ps),.sh (wd qs),.sh (pN p0),.ow (cm ([p0],[none])),.un,.un,.un,.un,.un]) rfl rfl);have M:T7 3 (y70 (gv 2) (gc .non)) (W5 yw0 [wd ps,wd qs,pN p0])=some (.nx [.sh (wd ps),.sh (wd qs),.sh (pN p0),.ow (cm ([p0],[none])),.un,.un,.un,.un,.un]):=rfl
 by_cases hh:Pn.hd (pa ps p0.1)=Pn.hd (pa qs p0.2)
 ·refine .inr ⟨hh,?_⟩
  have O:Pi ps qs p0 ([p0],[none]):=by
   have one:∀x,x∈[p0]->x=p0:=λx hx=>L5.mp hx
   refine⟨rfl,L8.mpr ⟨by simp,P9⟩,λx hx=>by rw[one x hx];exact⟨h1,h2⟩,λx hx=>?_,λx hx=>by rw[one x hx];exact hh,λx hx=>by rw[one x hx];exact .top⟩;rw[one x hx];refine⟨[],.top ?_,by simp⟩;show (if k2 p0=k2 p0 then some (cD none) else _)=_;rw[if_pos rfl]
  obtain⟨s,r,R,Q,k⟩:=go0 hp hq (.sh (pN p0)) 100000 0 ([p0],[none]) .un .un .un O (by simp) (by decide);have J:∀rest:GS,v8 (T7 3 (y70 (gv 2) (gc .non))) (v8 (ifD (ob (o2 (oA (z9 (o2 (gv 0) (o2 (gv 2) (gc (.int 0)) ixD) ixD) v7) O2) (oA (z9 (o2 (gv 1) (o2 (gv 2) (gc (.int 1)) ixD) ixD) v7) O2) Q5)) (v8 (j7 (zt0 (Z6 (z9 (gv 3) (z9 (Y8 v7) v7))))) p7) p7) (v8 (T7 4 (Y8 (z9 (gv 2) v7))) (v8 (n6 (gN 5) (gc (.int 0))) rest))) (W5 yw0 [wd ps,wd qs,pN p0])=rest (pS ps qs (.sh (pN p0)) ([p0],[none]) 0 .un .un .un):=λrest =>
   v9 M (v9 (by rw[Z0 (t2 λz=>z hh)];rfl) (v9 (by rfl) (v9 (by rfl) rfl)))
  refine⟨s,r,R,Q,?_⟩;rcases k with⟨rfl,n',a',b',c',e⟩|⟨q,j,w,rfl,hw,e⟩
  ·refine .inl ⟨rfl,j5 rfl ((J _).trans (v9 e (o8 (Z1 ?_))))⟩
   exact X6 (cons_of rfl (cons_of rfl rfl)) (by show 2<=sizeLine;omega)
  ·exact .inr ⟨q,j,w,rfl,hw,j5 rfl ((J _).trans (o8 e))⟩
 ·refine .inl ⟨hh,j5 rfl (v9 M (o8 ?_))⟩
  rw[U8 (t1 hh)];refine o8 (Z1 ?_);exact X6 (cons_of rfl (cons_of (z60 rfl (by show 0<=sizeLine;omega)) rfl)) (by show 2<=sizeLine;omega)
end La
namespace La
open Ma
open DL W K22 Ta Fa
def okp(ps qs:List Pt)(q:Nat×Nat):Prop:=Pn.hd (pa ps q.1)=Pn.hd (pa qs q.2)/\∀v∈zp ps qs q,nl v
theorem mx0(q:Nat×Nat):∀(z:List (D×D)) (k:Nat) (s:Cs),∃A B,exs q k z s=(s.1++A,s.2++B)
 | [],k,s=>⟨[],[],by simp[exs]⟩
 | v::z,k,s=>by
  obtain⟨A,B,e⟩:=mx0 q z (k+1) (ex1 q k v s);unfold exs;rw[e];unfold ex1;cases gl1 v with
  | none=>exact⟨A,B,rfl⟩
  | some x =>
   dsimp only;split
   ·exact⟨A,B,rfl⟩
   ·exact⟨x::A,some (q,k)::B,by simp⟩
theorem Ya0{v:D×D}(l1:Lv n v.1)(l2:Lv m v.2)(h:¬prt ps qs v):nl v:=by
 unfold prt at h;rcases z70 l1 l2 with⟨i,j,_,_,e1,e2,e⟩|⟨e,_⟩
 ·exact .inl ⟨by rw[e1];rfl,by rw[e2];rfl⟩
 ·rw[show (v.1,v.2)=v from rfl] at e
  rw[e] at h;exact .inr (Y2.mp h)
theorem fb0(hp:Web ps)(hq:Web qs){s s':Cs}{r:Option ((Nat×Nat)×Nat)}(R:Run ps qs n s s' r):r=none->Pi ps qs p0 s->(∀i q,i<n->s.1[i]?=some q->(∀v∈zp ps qs q,¬prt ps qs v)/\∀x∈gl (zp ps qs q),x∈s.1) ->
  (∀x∈s.1,x∈s'.1)/\∀q∈s'.1,(∀v∈zp ps qs q,¬prt ps qs v)/\∀x∈gl (zp ps qs q),x∈s'.1:=by
 induction R with
 | @fin n s hl =>
  intro _ h hc;refine⟨λx hx=>hx,λq hq=>?_⟩;obtain⟨i,hi,e⟩:=E3.mp hq;exact hc i q (by omega) (by rw[List.getElem?_eq_getElem hi,e])
 | @go n s s' r q e hn R ih =>
  intro hr h hc;have hm:=B0 e;obtain⟨p1,p2,p3⟩:=s20 hp hq (zp ps qs q) 0 s h hm λv hv=>⟨hv,hn v hv⟩
  have M:=(A7.mp e).1;obtain⟨A,B,ee⟩:=mx0 q (zp ps qs q) 0 s;obtain⟨i1,i2⟩:=ih hr p1 λi q' hi e'=>by
   by_cases hin:i=n
   ·subst hin
    rw[ee,List.getElem?_append_left M,e] at e';cases e';exact⟨hn,p3⟩
   ·have J:i<n:=by omega
    rw[ee,List.getElem?_append_left (by omega)] at e';obtain⟨c1,c2⟩:=hc i q' J e';exact⟨c1,λx hx=>p2 x (c2 x hx)⟩
  exact⟨λx hx=>i1 x (p2 x hx),i2⟩
 | prt=>intro hr;cases hr
theorem dg0(hp:Web ps)(hq:Web qs){s:Cs}(R:Run ps qs 0 ([p0],[none]) s none)(h0:Pi ps qs p0 ([p0],[none]))(h:Pi ps qs p0 s):(∀x,x∈s.1↔Rch ps qs p0 x)/\∀x,Rch ps qs p0 x->okp ps qs x:=by
 obtain⟨c1,c2⟩:=fb0 hp hq R rfl h0 λi q hi=>by omega
 have all:∀x,Rch ps qs p0 x->x∈s.1:=λx hx=>by
  induction hx with
  | top=>exact c1 _ (by simp)
  | go _ hg ih=>exact(c2 _ ih).2 _ hg
 refine⟨λx=>⟨h.rc x,all x⟩,λx hx=>⟨h.hds x (all x hx),λv hv=>?_⟩⟩;obtain⟨i1,i2⟩:=h.inr x (all x hx);obtain⟨l1,l2⟩:=ux0 hp hq i1 i2 hv;exact Ya0 l1 l2 ((c2 x (all x hx)).1 v hv)
theorem az0(hp:Web ps)(hq:Web qs)(hr:Rch ps qs p0 q)(i1:q.1<ps.length)(i2:q.2<qs.length){v:D×D}(hv:v∈zp ps qs q)(h:prt ps qs v):∃x,Rch ps qs p0 x/\¬okp ps qs x:=by
 obtain⟨l1,l2⟩:=ux0 hp hq i1 i2 hv;unfold prt at h;rcases z70 l1 l2 with⟨i,j,_,_,e1,e2,e⟩|⟨e,e2⟩
 ·rw[show (v.1,v.2)=v from rfl] at e
  rw[e] at h;exact⟨(i,j),.go hr (L7.mpr ⟨v,hv,e⟩),λz=>h z.1⟩
 ·rw[show (v.1,v.2)=v from rfl] at e
  rw[e] at h;refine⟨q,hr,λz=>?_⟩;rcases z.2 v hv with⟨a,b⟩|z
  ·rw[a,b] at e2
   cases e2
  ·exact h z
def Tab(ps qs:List Pt)(p0:Nat×Nat)(A:List (Nat×Nat)):Prop:=A.Nodup/\(∀x,x∈A↔Rch ps qs p0 x)/\∀x,Rch ps qs p0 x->okp ps qs x
end La
namespace Ea
open DL W K22
open Ta (pa W9 zr0 gl gl1 nl pN k2 J3)
open La
structure Pg(ps qs:List Pt)(p0:Nat×Nat)(n:Nat)(k:Nat)(s:Cs):Prop where
 len:s.1.length=s.2.length
 top:s.1[0]?=some p0/\s.2[0]?=some none
 ptr:∀i b,0<i->s.2[i]?=some b->∃j q c v,b=some (q,c)/\j<i/\s.1[j]?=some q/\(zp ps qs q)[c]?=some v/\gl1 v=s.1[i]?/\(j<n∨j=n/\c<k)
 up:∀(i i':Nat) (q:Nat×Nat) (c:Nat) (q':Nat×Nat) (c' j j':Nat),0<i->i<i'->s.2[i]?=some (some (q,c))->s.2[i']?=some (some (q',c'))->s.1[j]?=some q->s.1[j']?=some q'->j<j'∨j=j'/\c<c'
theorem s80{s:List (Nat×Nat)}(h:s.Nodup){x:Nat×Nat}(hi:s[i]?=some x)(hj:s[j]?=some x):i=j:=by
 obtain⟨h1,e1⟩:=A7.mp hi;obtain⟨h2,e2⟩:=A7.mp hj;exact(x0 h).mp (e1.trans e2.symm)
theorem Pg.ex1{k:Nat}{s:Cs}(hnd:s.1.Nodup)(h:Pg ps qs p0 n k s)(hq:s.1[n]?=some q){v:D×D}(hv:(zp ps qs q)[k]?=some v):Pg ps qs p0 n (k+1) (La.ex1 q k v s):=by
 have weak:Pg ps qs p0 n (k+1) s:=⟨h.len,h.top,λi b hi hb=>by
  obtain⟨j,q',c,v',e1,e2,e3,e4,e5,e6⟩:=h.ptr i b hi hb;exact⟨j,q',c,v',e1,e2,e3,e4,e5,e6.imp id λz=>⟨z.1,by omega⟩⟩,h.up⟩
 unfold La.ex1;cases e:gl1 v with
 | none=>exact weak
 | some x =>
  dsimp only
  by_cases hx:x∈s.1
  ·rw[if_pos hx];exact weak
  ·rw[if_neg hx]
   have O:n<s.1.length:=(A7.mp hq).1;have a1:∀{i:Nat} {y:Nat×Nat},s.1[i]?=some y->(s.1++[x])[i]?=some y:=λ{i y} hy=>by rw[List.getElem?_append_left (A7.mp hy).1];exact hy
   have b1:∀{i:Nat} {b:Bk},(s.2++[some (q,k)])[i]?=some b->(s.2[i]?=some b)∨(i=s.2.length/\b=some (q,k)):=λ{i b} hb=>by
    rcases N0 i s.2.length with z|z
    ·rw[List.getElem?_append_left z] at hb;exact .inl hb
    ·rw[List.getElem?_append_right z] at hb
     have:i - s.2.length=0:=by
      have:=(A7.mp hb).1;simp at this;exact this
     rw[this] at hb;simp at hb;exact .inr ⟨by omega,hb.symm⟩
   have a2:∀{j:Nat} {y:Nat×Nat},(s.1++[x])[j]?=some y->y∈s.1->s.1[j]?=some y:=λ{j y} hy hm=>by
    rcases N0 j s.1.length with z|z
    ·rw[List.getElem?_append_left z] at hy;exact hy
    ·rw[List.getElem?_append_right z] at hy
     have:j - s.1.length=0:=by
      have:=(A7.mp hy).1;simp at this;exact this
     rw[this] at hy;simp at hy;exact absurd (hy▸hm) hx
   have S:q∈s.1:=B0 hq;refine⟨by rw[List.length_append,List.length_append,h.len];rfl,⟨a1 h.top.1,?_⟩,λi b hi hb=>?_,λi i' q1 c1 q2 c2 j j' hi M h1 h2 h3 h4=>?_⟩
   ·rw[List.getElem?_append_left (A7.mp h.top.2).1];exact h.top.2
   ·rcases b1 hb with hb|⟨rfl,rfl⟩
    ·obtain⟨j,q',c,v',e1,e2,e3,e4,e5,e6⟩:=weak.ptr i b hi hb
     have U:i<s.1.length:=by rw[h.len];exact(A7.mp hb).1
     exact⟨j,q',c,v',e1,e2,a1 e3,e4,by rw[e5,List.getElem?_append_left U],e6⟩
    ·refine⟨n,q,k,v,rfl,by rw[← h.len];exact O,a1 hq,hv,?_,.inr ⟨rfl,i0 _⟩⟩
     rw[e,← h.len,List.getElem?_append_right (A4 _),Nat.sub_self];rfl
   ·rcases b1 h1 with h1|⟨e1,e2⟩
    ·obtain⟨j1,Z,d1,v1,g1,g2,g3,g4,g5,g6⟩:=h.ptr i _ hi h1
     cases g1;have hj:s.1[j]?=some q1:=a2 h3 (B0 g3);have ej:=s80 hnd hj g3;rcases b1 h2 with h2|⟨e1,e2⟩
     ·obtain⟨j2,a0,d2,v2,k1,_,k3,_⟩:=h.ptr i' _ (by omega) h2
      cases k1;exact h.up i i' q1 c1 q2 c2 j j' hi M h1 h2 hj (a2 h4 (B0 k3))
     ·cases e2
      have Y:=s80 hnd (a2 h4 S) hq;rw[ej,Y];exact g6
    ·have J:=b1 h2
     rcases J with J|⟨e3,_⟩
     ·have:=(A7.mp J).1
      omega
     ·omega
theorem Pg.next{k:Nat}{s:Cs}(h:Pg ps qs p0 n k s):Pg ps qs p0 (n+1) 0 s:=⟨h.len,h.top,λi b hi hb=>by
 obtain⟨j,q',c,v',e1,e2,e3,e4,e5,e6⟩:=h.ptr i b hi hb;exact⟨j,q',c,v',e1,e2,e3,e4,e5,.inl (by omega)⟩,h.up⟩
theorem pg0:Pg ps qs p0 0 0 ([p0],[none]):=⟨rfl,⟨rfl,rfl⟩,λi b hi hb=>by
 have:=(A7.mp hb).1;simp at this;omega,λi i' q c q' c' j j' hi J h1 h2=>by
 have:=(A7.mp h2).1;simp at this;omega⟩
theorem Yy0{s:Cs}(hl:s.1.length=s.2.length)(hnd:s.1.Nodup){x:Nat×Nat}{b:Bk}(h1:s.1[i]?=some x)(h2:s.2[i]?=some b):lk s x b:=by
 unfold La.lk;obtain⟨A,B⟩:=s;dsimp only at *;clear hl
 induction A generalizing B i with
 | nil=>simp at h1
 | cons a A ih =>
  cases B with
  | nil=>simp at h2
  | cons c B =>
   rw[List.map_cons,List.map_cons];unfold zq0;cases i with
   | zero =>
    simp at h1 h2;subst h1 h2;rw[if_pos rfl]
   | succ i =>
    rw[List.nodup_cons] at hnd;have J:A[i]?=some x:=by simpa using h1
    rw[if_neg (λz=>hnd.1 (by have z':a=x:=J3 z;rw[z'];exact B0 J))];exact ih B hnd.2 J (by simpa using h2)
theorem ab0{a b:Bk}(h:cD a=cD b):a=b:=by
 cases a with
 | none=>cases b with
  | none=>rfl
  | some q=>obtain⟨p,c⟩:=q;cases h
 | some p =>
  obtain⟨p,c⟩:=p;cases b with
  | none=>cases h
  | some q =>
   obtain⟨q,d⟩:=q;unfold cD at h;injection h with h
   injection h with h1 h
   injection h with h2 _
   injection h2 with h2
   have e:p=q:=by
    unfold pN at h1;injection h1 with h1
    injection h1 with h3 h1
    injection h1 with h4 _
    injection h3 with h3
    injection h4 with h4
    exact E1 (by omega) (by omega)
   rw[e,show c=d by omega]
inductive Wi' (s:Cs):Nat->List Nat->Prop
 | top:Wi' s 0 []
 | go {i j:Nat} {q:Nat×Nat} {c:Nat} {w:List Nat}:0<i->s.2[i]?=some (some (q,c))->s.1[j]?=some q->j<i->Wi' s j w->Wi' s i (w++[c])
theorem xn0{k:Nat}{s:Cs}(hnd:s.1.Nodup)(g:Pg ps qs p0 n k s):∀{x:Nat×Nat} {w:List Nat},Wy s x w->∀i,s.1[i]?=some x->Wi' s i w:=by
 have one:∀{x:Nat×Nat} {i:Nat} {b:Bk},s.1[i]?=some x->lk s x b->s.2[i]?=some b:=λ{x i b} hi hb=>by
  have J:i<s.2.length:=by rw[← g.len];exact(A7.mp hi).1
  have e:=Yy0 g.len hnd hi (B6 J);rw[List.getElem?_eq_getElem J];congr 1;exact ab0 (B4 (e.symm.trans hb))
 intro x w h
 induction h with
 | @top q hb =>
  intro i hi;rcases t0 i with rfl|z
  ·exact .top
  ·obtain⟨_,_,_,_,e,_⟩:=g.ptr i none z (one hi hb)
   cases e
 | @go q p c w hb hw ih =>
  intro i hi;have e2:=one hi hb;rcases t0 i with rfl|z
  ·rw[g.top.2] at e2
   cases e2
  ·obtain⟨j,q',c',v,e,hj,e3,_⟩:=g.ptr i _ z e2
   cases e;exact .go z e2 e3 hj (ih j e3)
def wlt(a b:List Nat):Prop:=a.length<b.length∨(a.length=b.length/\HT.lexLt (a.map λ(k:Nat)=>(k:Int)) (b.map λ(k:Nat)=>(k:Int))=true)
theorem ll0:∀(a b:List Int) (x y:Int),a.length=b.length->HT.lexLt a b=true->HT.lexLt (a++[x]) (b++[y])=true
 | [],[],_,_,_,h=>by rw[HT.yu0] at h;cases h
 | [],_::_,_,_,hl,_=>by cases hl
 | _::_,[],_,_,hl,_=>by cases hl
 | a::as,b::bs,x,y,hl,h=>by
  rw[HT.K4] at h;rw[List.cons_append,List.cons_append,HT.K4]
  by_cases e:a=b
  ·rw[if_pos e] at h ⊢
   exact ll0 as bs x y (by simpa using hl) h
  ·rw[if_neg e] at h ⊢
   exact h
theorem na0:∀(a:List Int) (x y:Int),x<y->HT.lexLt (a++[x]) (a++[y])=true
 | [],x,y,h=>by
  show HT.lexLt [x] [y]=true;rw[HT.K4,if_neg (by omega),decide_eq_true h]
 | a::as,x,y,h=>by
  rw[List.cons_append,List.cons_append,HT.K4,if_pos rfl];exact na0 as x y h
theorem y50{a b:List Nat}(h:wlt a b)(x y:Nat):wlt (a++[x]) (b++[y]):=by
 unfold wlt at *;rw[List.length_append,List.length_append,List.length_singleton,List.length_singleton];rcases h with h|⟨h1,h2⟩
 ·exact .inl (by omega)
 ·refine .inr ⟨by omega,?_⟩
  rw[List.map_append,List.map_append];exact ll0 _ _ _ _ (by rw[List.length_map,List.length_map,h1]) h2
theorem v80(a:List Nat){x y:Nat}(h:x<y):wlt (a++[x]) (a++[y]):=by
 unfold wlt;refine .inr ⟨by rw[List.length_append,List.length_append];rfl,?_⟩;rw[List.map_append,List.map_append];exact na0 _ _ _ (Int.ofNat_lt.mpr h)
theorem wi0{s:Cs}:∀{i:Nat} {w w':List Nat},s.1.Nodup->Wi' s i w->Wi' s i w'->w=w':=by
 intro i w w' J h
 induction h generalizing w' with
 | top=>intro h';cases h' with
  | top=>rfl
  | go z=>omega
 | go z e1 e2 e3 hw ih =>
  intro h';cases h' with
  | top=>omega
  | go z' f1 f2 f3 hw' =>
   rw[e1] at f1;cases f1;have:=s80 J e2 f2;subst this;rw[ih hw']
theorem ul0{k:Nat}{s:Cs}(hnd:s.1.Nodup)(g:Pg ps qs p0 n k s):∀(i':Nat) (i:Nat) (w w':List Nat),i<i'->Wi' s i w->Wi' s i' w'->wlt w w':=by
 intro i'
 induction i' using Nat.strongRecOn with
 | ind i' ih =>
  intro i w w' J h h';cases h' with
  | top=>omega
  | @go _ j' q' c' v' z' f1 f2 f3 hw' =>
   cases h with
   | top =>
    unfold wlt;exact .inl (by rw[List.length_append];simp)
   | @go _ j q c v z e1 e2 e3 hw =>
    rcases g.up i i' q c q' c' j j' z J e1 f1 e2 f2 with hj|⟨hj,hc⟩
    ·exact y50 (ih j' f3 j v v' hj hw hw') c c'
    ·subst hj
     rw[wi0 hnd hw hw'];exact v80 _ hc
end Ea
namespace Ma
open DL W K22
open Ta (pa W9 zr0 gl gl1 nl pN k2 J3)
open La Ea
structure Pf(ps qs:List Pt)(n k:Nat)(s:Cs):Prop where
 fst:∀(i c:Nat) (y:Nat×Nat) (v:D×D) (x:Nat×Nat),s.1[i]?=some y->(zp ps qs y)[c]?=some v->gl1 v=some x->(i<n∨i=n/\c<k)->∃i',s.1[i']?=some x/\(i'=0∨∃(y':Nat×Nat) (c' j':Nat),s.2[i']?=some (some (y',c'))/\s.1[j']?=some y'/\(j'<i∨j'=i/\c'<=c))
 np:∀(i c:Nat) (y:Nat×Nat) (v:D×D),s.1[i]?=some y->(zp ps qs y)[c]?=some v->(i<n∨i=n/\c<k)->¬prt ps qs v
theorem Pf.ex1{k:Nat}{s:Cs}(hnd:s.1.Nodup)(g:Pg ps qs p0 n k s)(h:Pf ps qs n k s)(hq:s.1[n]?=some q){v:D×D}(hv:(zp ps qs q)[k]?=some v)(hn:¬prt ps qs v):Pf ps qs n (k+1) (La.ex1 q k v s):=by
 have J:∀(i c:Nat) (y:Nat×Nat) (v:D×D),s.1[i]?=some y->(zp ps qs y)[c]?=some v->(i<n∨i=n/\c<k+1)->¬prt ps qs v:=λi c y v' h1 h2 h3=>by
  by_cases z:i=n/\c=k
  ·obtain⟨rfl,rfl⟩:=z
   rw[hq] at h1;cases h1;rw[hv] at h2;cases h2;exact hn
  ·exact h.np i c y v' h1 h2 (by omega)
 unfold La.ex1;cases e:gl1 v with
 | none =>
  refine⟨λi c y v' x h1 h2 h3 h4=>?_,J⟩
  by_cases z:i=n/\c=k
  ·obtain⟨rfl,rfl⟩:=z
   rw[hq] at h1;cases h1;rw[hv] at h2;cases h2;rw[e] at h3;cases h3
  ·exact h.fst i c y v' x h1 h2 h3 (by omega)
 | some x =>
  dsimp only
  by_cases hx:x∈s.1
  ·rw[if_pos hx]
   refine⟨λi c y v' x' h1 h2 h3 h4=>?_,J⟩
   by_cases z:i=n/\c=k
   ·obtain⟨rfl,rfl⟩:=z
    rw[hq] at h1;cases h1;rw[hv] at h2;cases h2;rw[e] at h3;cases h3;obtain⟨i',O,ex⟩:=E3.mp hx;have Y:s.1[i']?=some x:=by rw[List.getElem?_eq_getElem O,ex]
    refine⟨i',Y,?_⟩;rcases t0 i' with z|z
    ·exact .inl z
    ·have hb:s.2[i']?=some (s.2[i']'(by rw[← g.len];exact O)):=B6 _
     obtain⟨j,q',c',v',e1,e2,e3,e4,e5,e6⟩:=g.ptr i' _ z hb;rw[e1] at hb;exact .inr ⟨q',c',j,hb,e3,by omega⟩
   ·exact h.fst i c y v' x' h1 h2 h3 (by omega)
  ·rw[if_neg hx]
   have nl:n<s.1.length:=(A7.mp hq).1;have S:∀{i:Nat} {y:Nat×Nat},i<=n->(s.1++[x])[i]?=some y->s.1[i]?=some y:=λ{i y} hi h=>by
    rwa [List.getElem?_append_left (by omega)] at h
   have up1:∀{i:Nat} {y:Nat×Nat},s.1[i]?=some y->(s.1++[x])[i]?=some y:=λ{i y} h=>by
    rw[List.getElem?_append_left (A7.mp h).1];exact h
   have U:∀{i:Nat} {y:Bk},s.2[i]?=some y->(s.2++[some (q,k)])[i]?=some y:=λ{i y} h=>by
    rw[List.getElem?_append_left (A7.mp h).1];exact h
   refine⟨λi c y v' x' h1 h2 h3 h4=>?_,λi c y v' h1 h2 h3=>J i c y v' (S (by omega) h1) h2 h3⟩;have M:=S (i:=i) (by omega) h1
   by_cases z:i=n/\c=k
   ·obtain⟨rfl,rfl⟩:=z
    rw[hq] at M;cases M;rw[hv] at h2;cases h2;rw[e] at h3;cases h3;refine⟨s.1.length,by rw[List.getElem?_append_right (A4 _)];simp,.inr ⟨q,c,i,?_,up1 hq,.inr ⟨rfl,A4 _⟩⟩⟩;dsimp only;rw[g.len,List.getElem?_append_right (A4 _)];simp
   ·obtain⟨i',f1,f2⟩:=h.fst i c y v' x' M h2 h3 (by omega)
    refine⟨i',up1 f1,f2.imp id λ⟨y',c',j',g1,g2,g3⟩=>⟨y',c',j',U g1,up1 g2,g3⟩⟩
theorem og0(hp:Web ps)(hq:Web qs):∀(z:List (D×D)) (k:Nat) (s:Cs),La.Pi ps qs p0 s->Pg ps qs p0 n k s->Pf ps qs n k s->s.1[n]?=some q->(∀i v,z[i]?=some v->(zp ps qs q)[k+i]?=some v)->(∀v∈z,¬prt ps qs v) ->
  La.Pi ps qs p0 (exs q k z s)/\Pg ps qs p0 n (k+z.length) (exs q k z s)/\Pf ps qs n (k+z.length) (exs q k z s)/\(exs q k z s).1[n]?=some q
 | [],k,s,h,g,f,e,_,_=>⟨h,g,f,e⟩
 | v::z,k,s,h,g,f,e,hz,hn=>by
  have hv:(zp ps qs q)[k]?=some v:=hz 0 v rfl;obtain⟨a1,a2,_⟩:=ou0 hp hq h (B0 e) k (B0 hv) (hn v A5);have e':(La.ex1 q k v s).1[n]?=some q:=by
   unfold La.ex1;cases gl1 v with
   | none=>exact e
   | some x =>
    dsimp only;split
    ·exact e
    ·rw[List.getElem?_append_left (A7.mp e).1];exact e
  have:=og0 hp hq z (k+1) (La.ex1 q k v s) a1 (g.ex1 h.nd e hv) (f.ex1 h.nd g e hv (hn v A5)) e' (λi u hu=>by have:=hz (i+1) u hu;rwa [show k+(i+1)=k+1+i by omega] at this) λu hu=>hn u (C2 _ hu)
  rw[List.length_cons,show k+(z.length+1)=k+1+z.length by omega];exact this
theorem io0(hp:Web ps)(hq:Web qs){s s':Cs}{r:Option ((Nat×Nat)×Nat)}(R:Run ps qs n s s' r):La.Pi ps qs p0 s->Pg ps qs p0 n 0 s->Pf ps qs n 0 s ->
  ∀q j,r=some (q,j)->∃n' v,s'.1[n']?=some q/\(zp ps qs q)[j]?=some v/\prt ps qs v/\La.Pi ps qs p0 s'/\Pg ps qs p0 n' j s'/\Pf ps qs n' j s':=by
 induction R with
 | fin _=>intro _ _ _ q j h;cases h
 | @go n s s' r q e hn R ih =>
  intro h g f;obtain⟨p1,p2,p3,p4⟩:=og0 hp hq (zp ps qs q) 0 s h g f e (λi v hv=>by rw[Nat.zero_add];exact hv) hn;rw[Nat.zero_add] at p2 p3;refine ih p1 p2.next ⟨λi c y v x h1 h2 h3 h4=>p3.fst i c y v x h1 h2 h3 ?_,λi c y v h1 h2 h3=>p3.np i c y v h1 h2 ?_⟩
  ·have hi:i<=n:=by omega
   rcases Al0 hi with z|z
   ·exact .inl z
   ·subst z
    rw[p4] at h1;cases h1;exact .inr ⟨rfl,(A7.mp h2).1⟩
  ·have hi:i<=n:=by omega
   rcases Al0 hi with z|z
   ·exact .inl z
   ·subst z
    rw[p4] at h1;cases h1;exact .inr ⟨rfl,(A7.mp h2).1⟩
 | @prt n s q j v e e1 e2 e3 =>
  intro h g f q' j' he;cases he;have hj:=(A7.mp e1).1;have hl:((zp ps qs q).take j).length=j:=by rw[List.length_take];omega
  obtain⟨p1,p2,p3,p4⟩:=og0 hp hq ((zp ps qs q).take j) 0 s h g f e (λi u hu=>by
   rw[Nat.zero_add];rw[List.getElem?_take] at hu;split at hu
   ·exact hu
   ·cases hu) e2
  rw[hl,Nat.zero_add] at p2 p3;exact⟨n,v,p4,e1,e3,p1,p2,p3⟩
theorem pf0:Pf ps qs 0 0 ([p0],[none]):=⟨λi c y v x _ _ _ h=>absurd h (by omega),λi c y v _ _ h=>absurd h (by omega)⟩
def wle(a b:List Nat):Prop:=a=b∨wlt a b
theorem uw0:∀a:List Int,HT.lexLt a a=false
 | []=>HT.yu0
 | x::a=>by rw[HT.K4,if_pos rfl];exact uw0 a
theorem lex_trans:∀(a b c:List Int),a.length=b.length->b.length=c.length->HT.lexLt a b=true->HT.lexLt b c=true->HT.lexLt a c=true
 | [],[],_,_,_,h,_=>by rw[HT.yu0] at h;cases h
 | [],_::_,_,h,_,_,_=>by cases h
 | _::_,[],_,h,_,_,_=>by cases h
 | _::_,_::_,[],_,h,_,_=>by cases h
 | x::a,y::b,z::c,l1,l2,h1,h2=>by
  rw[HT.K4] at h1 h2 ⊢
  by_cases e1:x=y
  ·rw[if_pos e1] at h1
   by_cases e2:y=z
   ·rw[if_pos e2] at h2
    rw[if_pos (e1.trans e2)];exact lex_trans a b c (by simpa using l1) (by simpa using l2) h1 h2
   ·rw[if_neg e2] at h2
    rw[if_neg (by rw[e1];exact e2),e1];exact h2
  ·rw[if_neg e1] at h1
   have l1':=Ag0 h1
   by_cases e2:y=z
   ·rw[← e2,if_neg e1];exact h1
   ·rw[if_neg e2] at h2
    have J:=Ag0 h2;rw[if_neg (by omega)];exact S2 (by omega)
theorem my0:∀(a b:List Int),a.length=b.length->a=b∨HT.lexLt a b=true∨HT.lexLt b a=true
 | [],[],_=>.inl rfl
 | [],_::_,h=>by cases h
 | _::_,[],h=>by cases h
 | x::a,y::b,h=>by
  rw[HT.K4,HT.K4]
  by_cases e:x=y
  ·subst e
   rw[if_pos rfl,if_pos rfl];rcases my0 a b (by simpa using h) with z|z|z
   ·exact .inl (by rw[z])
   ·exact .inr (.inl z)
   ·exact .inr (.inr z)
  ·rw[if_neg e,if_neg (C1 e)]
   rcases Int.lt_or_gt_of_ne e with z|z
   ·exact .inr (.inl (S2 z))
   ·exact .inr (.inr (S2 z))
theorem ld0{a:List Nat}(h:wlt a a):False:=by
 rcases h with h|⟨_,h⟩
 ·omega
 ·rw[uw0] at h;cases h
theorem qb0{a b c:List Nat}(h:wlt a b)(h':wlt b c):wlt a c:=by
 rcases h with h|⟨h,hx⟩<;>rcases h' with h'|⟨h',J⟩
 ·exact .inl (by omega)
 ·exact .inl (by omega)
 ·exact .inl (by omega)
 ·exact .inr ⟨by omega,lex_trans _ _ _ (by rw[List.length_map,List.length_map,h]) (by rw[List.length_map,List.length_map,h']) hx J⟩
theorem cy0(a b:List Nat):a=b∨wlt a b∨wlt b a:=by
 rcases Cg0 a.length b.length with h|h|h
 ·exact .inr (.inl (.inl h))
 ·rcases my0 (a.map λ(k:Nat)=>(k:Int)) (b.map λ(k:Nat)=>(k:Int)) (by rw[List.length_map,List.length_map,h]) with z|z|z
  ·refine .inl ((List.map_inj_right λx y e=>?_).mp z)
   exact Int.ofNat_inj.mp e
  ·exact .inr (.inl (.inr ⟨h,z⟩))
  ·exact .inr (.inr (.inr ⟨h.symm,z⟩))
 ·exact .inr (.inr (.inl h))
theorem zc0{a b c:List Nat}(h:wle a b)(h':wle b c):wle a c:=by
 rcases h with rfl|h
 ·exact h'
 ·rcases h' with rfl|h'
  ·exact .inr h
  ·exact .inr (qb0 h h')
theorem rm0{a b:List Nat}(h:wle a b)(h':wlt b a):False:=by
 rcases h with rfl|h
 ·exact ld0 h'
 ·exact ld0 (qb0 h h')
theorem zi0{a b:List Nat}(h:wle a b){x y:Nat}(hx:x<=y):wle (a++[x]) (b++[y]):=by
 rcases h with rfl|h
 ·rcases Al0 hx with z|rfl
  ·exact .inr (v80 _ z)
  ·exact .inl rfl
 ·exact .inr (y50 h x y)
theorem oj0(a:List Nat)(c:Nat):wle a (a++[c]):=.inr (.inl (by rw[List.length_append,List.length_singleton];omega))
end Ma
namespace Ea
open DL W K22
open Ta (pa W9 zr0 gl gl1 nl pN k2 J3)
open La
def lnk(j:Nat):D:=.tup [.str "at",.int (j:Int)]
def stp(ps:List Pt)(v:D)(k:Nat):Option D:=match v with
 | .tup [_,.int j]=>(pa ps j.toNat).vals[k]?
 | _=>none
def vat(ps:List Pt)(v:D):List Nat->Option D
 | []=>some v
 | k::w=>(stp ps v k).bind λu=>vat ps u w
theorem ww0(ps:List Pt)(j k:Nat):stp ps (lnk j) k=(pa ps j).vals[k]?:=by
 unfold stp lnk;simp only[Int.toNat_natCast]
theorem xh0(ps:List Pt):∀(w:List Nat) (v:D) (k:Nat),vat ps v (w++[k])=(vat ps v w).bind λu=>stp ps u k
 | [],v,k=>by
  show (stp ps v k).bind (λu=>some u)=_;unfold vat;rw[Option.bind_some];cases stp ps v k<;>rfl
 | x::w,v,k=>by
  rw[List.cons_append];unfold vat;cases stp ps v x with
  | none=>rfl
  | some u =>
   rw[Option.bind_some,Option.bind_some];exact xh0 ps w u k
theorem vm0{v:D}(h:Lv n v){k:Nat}{u:D}(hs:stp ps v k=some u):∃j,j<n/\v=lnk j/\(pa ps j).vals[k]?=some u:=by
 rcases h with rfl|⟨z,rfl⟩|⟨j,rfl,hj⟩
 ·cases hs
 ·cases hs
 ·refine⟨j,hj,rfl,?_⟩
  have:=ww0 ps j k;unfold lnk at this;rw[this] at hs;exact hs
end Ea
namespace Ma
open DL W K22
open Ta (pa W9 zr0 gl gl1 nl pN k2 J3)
open La
open Ea (Pg Wi' wlt y50 v80 ul0 wi0 s80 xn0 pg0 lnk stp vat ww0 xh0 vm0)
def lds(ps qs:List Pt)(p0:Nat×Nat)(a:List Nat)(x:Nat×Nat):Prop:=vat ps (lnk p0.1) a=some (lnk x.1)/\vat qs (lnk p0.2) a=some (lnk x.2)
def PWy(ps qs:List Pt)(p0:Nat×Nat)(a:List Nat):Prop:=∃u v,vat ps (lnk p0.1) a=some u/\vat qs (lnk p0.2) a=some v/\prt ps qs (u,v)
def Lst(ps qs:List Pt)(p0:Nat×Nat)(w:List Nat):Prop:=PWy ps qs p0 w/\∀w',wlt w' w->¬PWy ps qs p0 w'
theorem q00{w w':List Nat}(h:Lst ps qs p0 w)(h':Lst ps qs p0 w'):w=w':=by
 rcases cy0 w w' with z|z|z
 ·exact z
 ·exact absurd h.1 (h'.2 w z)
 ·exact absurd h'.1 (h.2 w' z)
theorem wv0(h:j<n):Lv n (lnk j):=.inr (.inr ⟨j,rfl,h⟩)
theorem wr0(hp:Web ps):∀(w:List Nat) (v u:D),Lv ps.length v->vat ps v w=some u->Lv ps.length u
 | [],v,u,hv,e=>by unfold vat at e;cases e;exact hv
 | k::w,v,u,hv,e=>by
  unfold vat at e;cases e1:stp ps v k with
  | none=>rw[e1] at e;cases e
  | some x =>
   rw[e1,Option.bind_some] at e;obtain⟨j,hj,rfl,hk⟩:=vm0 hv e1;exact wr0 hp w x u ((W9 hp hj).2.lv x (B0 hk)) e
theorem ny0(hp:Web ps){p:Nat}(h1:p<ps.length){b:List Nat}{c:Nat}{u:D}(e:vat ps (lnk p) (b++[c])=some u):∃y,y<ps.length/\vat ps (lnk p) b=some (lnk y)/\(pa ps y).vals[c]?=some u:=by
 rw[xh0] at e;cases e1:vat ps (lnk p) b with
 | none=>rw[e1] at e;cases e
 | some t =>
  rw[e1,Option.bind_some] at e;obtain⟨j,hj,rfl,hk⟩:=vm0 (wr0 hp b _ _ (wv0 h1) e1) e;exact⟨j,hj,rfl,hk⟩
theorem y20(hp:Web ps)(hq:Web qs)(h1:p0.1<ps.length)(h2:p0.2<qs.length){b:List Nat}{c:Nat}{u v:D}(e1:vat ps (lnk p0.1) (b++[c])=some u)(e2:vat qs (lnk p0.2) (b++[c])=some v) :
  ∃y:Nat×Nat,(y.1<ps.length/\y.2<qs.length)/\lds ps qs p0 b y/\(zp ps qs y)[c]?=some (u,v):=by
 obtain⟨y1,l1,a1,b1⟩:=ny0 hp h1 e1;obtain⟨y2,l2,a2,b2⟩:=ny0 hq h2 e2;exact⟨(y1,y2),⟨l1,l2⟩,⟨a1,a2⟩,S1.mpr ⟨b1,b2⟩⟩
theorem v20{y:Nat×Nat}{b:List Nat}{c:Nat}{v:D×D}(h:lds ps qs p0 b y)(e:(zp ps qs y)[c]?=some v):vat ps (lnk p0.1) (b++[c])=some v.1/\vat qs (lnk p0.2) (b++[c])=some v.2:=by
 obtain⟨z1,z2⟩:=S1.mp (show ((pa ps y.1).vals.zip (pa qs y.2).vals)[c]?=some (v.1,v.2) from e);exact⟨by rw[xh0,h.1,Option.bind_some,ww0,z1],by rw[xh0,h.2,Option.bind_some,ww0,z2]⟩
theorem yr0(i j:Nat):gl1 (lnk i,lnk j)=some (i,j):=rfl
theorem dr0(hp:Web ps)(hq:Web qs){k:Nat}{s:Cs}(P:La.Pi ps qs p0 s)(g:Pg ps qs p0 n k s):∀{i:Nat} {w:List Nat},Wi' s i w->∀x,s.1[i]?=some x->lds ps qs p0 w x:=by
 intro i w h
 induction h with
 | top =>
  intro x hx;rw[g.top.1] at hx;cases hx;exact⟨rfl,rfl⟩
 | @go i j q c w z e1 e2 e3 hw ih =>
  intro x hx;obtain⟨j',q',c',v,f1,_,f3,f4,f5,_⟩:=g.ptr i _ z e1;cases f1;rw[hx] at f5;obtain⟨r1,r2⟩:=P.inr q (B0 e2);obtain⟨l1,l2⟩:=ux0 hp hq r1 r2 (B0 f4);obtain⟨a1,a2⟩:=v20 (ih q e2) f4;rcases z70 l1 l2 with⟨a,b,_,_,h1,h2,h3⟩|⟨h3,_⟩
  ·rw[show (v.1,v.2)=v from rfl,f5] at h3
   cases h3;exact⟨a1.trans (by rw[h1];rfl),a2.trans (by rw[h2];rfl)⟩
  ·rw[show (v.1,v.2)=v from rfl,f5] at h3
   cases h3
theorem ah0{k:Nat}{s:Cs}(P:La.Pi ps qs p0 s)(g:Pg ps qs p0 n k s){x:Nat×Nat}(hi:s.1[i]?=some x):∃w,Wi' s i w:=by
 obtain⟨w,h,_⟩:=P.way x (B0 hi);exact⟨w,xn0 P.nd g h i hi⟩
theorem come(hp:Web ps)(hq:Web qs)(h1:p0.1<ps.length)(h2:p0.2<qs.length){s:Cs}(P:La.Pi ps qs p0 s)(g:Pg ps qs p0 n j s)(f:Pf ps qs n j s){w0:List Nat}(hw0:Wi' s n w0) :
  ∀(m:Nat) (a:List Nat) (x:Nat×Nat),a.length=m->lds ps qs p0 a x->(∃i w,s.1[i]?=some x/\Wi' s i w/\wle w a)∨wle (w0++[j]) a:=by
 intro m
 induction m with
 | zero =>
  intro a x hl h;have:a=[]:=H0.mp hl;subst this;have e:x=p0:=by
   obtain⟨e1,e2⟩:=h;unfold vat lnk at e1 e2;injection e1 with e1
   injection e2 with e2
   injection e1 with e1
   injection e2 with e2
   simp at e1 e2;exact E1 (by omega) (by omega)
  subst e;exact .inl ⟨0,[],g.top.1,.top,.inl rfl⟩
 | succ m ih =>
  intro a x hl h;obtain⟨b,c,rfl⟩:∃b c,a=b++[c]:=by
   rcases T0 a with z|⟨b,c,z⟩
   ·subst z;cases hl
   ·exact⟨b,c,by rw[z,List.concat_eq_append]⟩
  obtain⟨y,_,hb,hz⟩:=y20 hp hq h1 h2 h.1 h.2;rw[List.length_append,List.length_singleton] at hl;rcases ih b y (by omega) hb with⟨i,wi,hi,J,le⟩|le
  ·by_cases hd:i<n∨i=n/\c<j
   ·obtain⟨i',f1,f2⟩:=f.fst i c y _ x hi hz (yr0 x.1 x.2) hd
    rcases f2 with rfl|⟨y',c',j',e1,e2,e3⟩
    ·exact .inl ⟨0,[],f1,.top,.inr (.inl (by rw[List.length_append,List.length_singleton];exact Nat.succ_pos _))⟩
    ·rcases t0 i' with rfl|z
     ·rw[g.top.2] at e1;cases e1
     ·obtain⟨wj,M⟩:=ah0 P g e2
      obtain⟨j2,q2,c2,v2,g1,g2,g3,_⟩:=g.ptr i' _ z e1;cases g1;have:=s80 P.nd g3 e2;subst this;refine .inl ⟨i',wj++[c'],f1,.go z e1 e2 g2 M,zc0 (b:=wi++[c]) ?_ (zi0 le (A4 _))⟩;rcases e3 with e3|⟨rfl,e3⟩
      ·exact .inr (y50 (ul0 P.nd g i _ _ _ e3 M J) _ _)
      ·rw[wi0 P.nd M J];exact zi0 (.inl rfl) e3
   ·refine .inr (zc0 (b:=wi++[c]) ?_ (zi0 le (A4 _)))
    rcases N0 n i with z|z
    ·exact .inr (y50 (ul0 P.nd g i _ _ _ z hw0 J) _ _)
    ·have:i=n:=by omega
     subst this;rw[wi0 P.nd hw0 J];exact zi0 (.inl rfl) (by omega)
  ·exact .inr (zc0 le (oj0 _ _))
theorem g30(hp:Web ps)(hq:Web qs)(h1:p0.1<ps.length)(h2:p0.2<qs.length)(hh:Pn.hd (pa ps p0.1)=Pn.hd (pa qs p0.2)){s:Cs}(R:Run ps qs 0 ([p0],[none]) s (some (q,j)))
  (P0:La.Pi ps qs p0 ([p0],[none])) {w:List Nat} (hw:Wy s q w):Lst ps qs p0 (w++[j]):=by
 obtain⟨n,v,e1,e2,e3,P,g,f⟩:=io0 hp hq R P0 pg0 pf0 q j rfl;have J:=xn0 P.nd g hw n e1;have ld:=dr0 hp hq P g J q e1;obtain⟨a1,a2⟩:=v20 ld e2;refine⟨⟨v.1,v.2,a1,a2,e3⟩,λw' O ⟨u,t,b1,b2,b3⟩=>?_⟩;rcases T0 w' with z|⟨b,c,z⟩
 ·subst z
  unfold vat at b1 b2;cases b1;cases b2;unfold prt at b3;rw[yr0] at b3;exact b3 hh
 ·rw[List.concat_eq_append] at z
  subst z;obtain⟨y,_,hb,hz⟩:=y20 hp hq h1 h2 b1 b2;rcases come hp hq h1 h2 P g f J b.length b y rfl hb with⟨i,wi,hi,M,le⟩|le
  ·by_cases hd:i<n∨i=n/\c<j
   ·exact f.np i c y _ hi hz hd b3
   ·refine rm0 (zc0 (b:=wi++[c]) ?_ (zi0 le (A4 c))) O
    rcases N0 n i with z|z
    ·exact .inr (y50 (ul0 P.nd g i _ _ _ z J M) _ _)
    ·have:i=n:=by omega
     subst this;rw[wi0 P.nd J M];exact zi0 (.inl rfl) (by omega)
  ·exact rm0 (zc0 le (oj0 _ _)) O
theorem pi0(h1:p0.1<ps.length)(h2:p0.2<qs.length)(hh:Pn.hd (pa ps p0.1)=Pn.hd (pa qs p0.2)):La.Pi ps qs p0 ([p0],[none]):=by
 have one:∀x,x∈[p0]->x=p0:=λx hx=>L5.mp hx
 refine⟨rfl,L8.mpr ⟨by simp,P9⟩,λx hx=>by rw[one x hx];exact⟨h1,h2⟩,λx hx=>?_,λx hx=>by rw[one x hx];exact hh,λx hx=>by rw[one x hx];exact .top⟩;rw[one x hx];refine⟨[],.top ?_,by simp⟩;show (if k2 p0=k2 p0 then some (cD none) else _)=_;rw[if_pos rfl]
theorem Zp0(hp:Web ps)(hq:Web qs){s:Cs}(P:La.Pi ps qs p0 s){k:Nat}(g:Pg ps qs p0 n k s){w:List Nat}(hm:q∈s.1)(hw:Wy s q w):w.length<=3600:=by
 obtain⟨w',h1,h2⟩:=P.way q hm;obtain⟨i,hi,e⟩:=E3.mp hm;have J:s.1[i]?=some q:=by rw[List.getElem?_eq_getElem hi,e]
 rw[wi0 P.nd (xn0 P.nd g hw i J) (xn0 P.nd g h1 i J)];have:=P.few hp hq;omega
def Non(ps qs:List Pt)(p0:Nat×Nat):Prop:=(∀x,Rch ps qs p0 x->okp ps qs x)/\∀w,¬PWy ps qs p0 w
theorem da0(hp:Web ps)(hq:Web qs)(h1:p0.1<ps.length)(h2:p0.2<qs.length):∀(m:Nat) (a:List Nat) (x:Nat×Nat),a.length=m->lds ps qs p0 a x->Rch ps qs p0 x:=by
 intro m
 induction m with
 | zero =>
  intro a x hl h;have:a=[]:=H0.mp hl;subst this;obtain⟨e1,e2⟩:=h;unfold vat lnk at e1 e2;injection e1 with e1
  injection e2 with e2
  injection e1 with e1
  injection e2 with e2
  simp at e1 e2;rw[show x=p0 from E1 (by omega) (by omega)];exact .top
 | succ m ih =>
  intro a x hl h;obtain⟨b,c,rfl⟩:∃b c,a=b++[c]:=by
   rcases T0 a with z|⟨b,c,z⟩
   ·subst z;cases hl
   ·exact⟨b,c,by rw[z,List.concat_eq_append]⟩
  obtain⟨y,_,hb,hz⟩:=y20 hp hq h1 h2 h.1 h.2;rw[List.length_append,List.length_singleton] at hl;exact .go (ih b y (by omega) hb) (L7.mpr ⟨_,B0 hz,yr0 _ _⟩)
theorem Zv0(hp:Web ps)(hq:Web qs)(h1:p0.1<ps.length)(h2:p0.2<qs.length)(h:∀x,Rch ps qs p0 x->okp ps qs x):Non ps qs p0:=by
 refine⟨h,λw ⟨u,v,b1,b2,b3⟩=>?_⟩;rcases T0 w with z|⟨b,c,z⟩
 ·subst z
  unfold vat at b1 b2;cases b1;cases b2;unfold prt at b3;rw[yr0] at b3;exact b3 (h p0 .top).1
 ·rw[List.concat_eq_append] at z
  subst z;obtain⟨y,yl,hb,hz⟩:=y20 hp hq h1 h2 b1 b2;have ry:=da0 hp hq h1 h2 _ b y rfl hb;obtain⟨x,rx,nx⟩:=az0 hp hq ry yl.1 yl.2 (B0 hz) b3;exact nx (h x rx)
theorem fd0(hp:Web ps)(hq:Web qs)(h1:p0.1<ps.length)(h2:p0.2<qs.length) :
  (∃(s:Cs) (w:List Nat),Lst ps qs p0 w/\w.length<=4000/\W6 [wd ps,wd qs,pN p0]=some (.tup [cm s,.lst (w.map nI)])) ∨
  ∃s:Cs,Non ps qs p0/\W6 [wd ps,wd qs,pN p0]=some (.tup [cm s,.non]):=by
 rcases ds0 hp hq h1 h2 with⟨hh,e⟩|⟨hh,s,r,R,Q,k⟩
 ·refine .inl ⟨_,[],⟨⟨lnk p0.1,lnk p0.2,rfl,rfl,?_⟩,λw' h=>?_⟩,by simp,e⟩
  ·unfold prt
   rw[yr0];exact hh
  ·rcases h with h|⟨h,z⟩
   ·simp at h
   ·have:w'=[]:=H0.mp h
    subst this;rw[uw0] at z;cases z
 ·have P0:=pi0 h1 h2 hh
  rcases k with⟨rfl,e⟩|⟨q,j,w,rfl,hw,e⟩
  ·obtain⟨_,a2⟩:=dg0 hp hq R P0 Q
   exact .inr ⟨s,Zv0 hp hq h1 h2 a2,e⟩
  ·obtain⟨n',v,e1,_,_,P,g,_⟩:=io0 hp hq R P0 pg0 pf0 q j rfl
   have:=Zp0 hp hq P g (B0 e1) hw;exact .inl ⟨s,_,g30 hp hq h1 h2 hh R P0 hw,by rw[List.length_append,List.length_singleton];omega,e⟩
abbrev Lvl:=List ((Nat×Nat)×List Nat)
def lv1(a:List Nat)(k:Nat)(v:D×D)(F:Lvl):Lvl:=match gl1 v with
 | some y=>if y∈F.map (·.1) then F else F++[(y,a++[k])]
 | none=>F
variable{F L:Ma.Lvl}
structure Jl(ps qs:List Pt)(p0:Nat×Nat)(c:Nat)(L:Lvl):Prop where
 nd:(L.map (·.1)).Nodup
 ld:∀z∈L,z.2.length=c/\lds ps qs p0 z.2 z.1/\z.1.1<ps.length/\z.1.2<qs.length
 up:∀(i j:Nat) z z',i<j->L[i]?=some z->L[j]?=some z'->wlt z.2 z'.2
 all:∀a x,a.length=c->lds ps qs p0 a x->∃b,(x,b)∈L/\wle b a
 hd:∀z∈L,Pn.hd (pa ps z.1.1)=Pn.hd (pa qs z.1.2)
structure Sl'(ps qs:List Pt)(p0:Nat×Nat)(c:Nat)(L:Lvl)(i k:Nat)(F:Lvl):Prop where
 nd:(F.map (·.1)).Nodup
 ld:∀z∈F,z.2.length=c+1/\lds ps qs p0 z.2 z.1/\z.1.1<ps.length/\z.1.2<qs.length
 up:∀(i j:Nat) z z',i<j->F[i]?=some z->F[j]?=some z'->wlt z.2 z'.2
 hd:∀z∈F,Pn.hd (pa ps z.1.1)=Pn.hd (pa qs z.1.2)
 lo:∀z∈F,∃(i' k':Nat) (y:(Nat×Nat)×List Nat),L[i']?=some y/\z.2=y.2++[k']/\(i'<i∨i'=i/\k'<k)
 all:∀(i' k':Nat) (y:(Nat×Nat)×List Nat) (v:D×D) (x:Nat×Nat),L[i']?=some y->(zp ps qs y.1)[k']?=some v->gl1 v=some x->(i'<i∨i'=i/\k'<k)->∃b,(x,b)∈F/\wle b (y.2++[k'])
 np:∀(i' k':Nat) (y:(Nat×Nat)×List Nat) (v:D×D),L[i']?=some y->(zp ps qs y.1)[k']?=some v->(i'<i∨i'=i/\k'<k)->¬prt ps qs v
section
variable{c:Nat}
theorem sl0:Sl' ps qs p0 c L 0 0 []:=⟨P9,(λz h=>absurd h (by simp)),(λi j z z' _ h=>absurd h (by simp)),(λz h=>absurd h (by simp)),(λz h=>absurd h (by simp)),(λi' k' y v x _ _ _ h=>absurd h (by omega)),λi' k' y v _ _ h=>absurd h (by omega)⟩
theorem bn0(J:Jl ps qs p0 c L){k i' k':Nat}{z z':(Nat×Nat)×List Nat}(h:L[i]?=some z)(h':L[i']?=some z')(hl:¬(i'<i∨i'=i/\k'<k)):wle (z.2++[k]) (z'.2++[k']):=by
 rcases N0 i i' with q|q
 ·exact .inr (y50 (J.up i i' z z' q h h') _ _)
 ·have:i=i':=by omega
  subst this;rw[h] at h';cases h';exact zi0 (.inl rfl) (by omega)
theorem he0(J:Jl ps qs p0 c L){k i' k':Nat}{z z':(Nat×Nat)×List Nat}(h:L[i]?=some z)(h':L[i']?=some z')(hl:i'<i∨i'=i/\k'<k):wlt (z'.2++[k']) (z.2++[k]):=by
 rcases hl with q|⟨rfl,q⟩
 ·exact y50 (J.up i' i z' z q h' h) _ _
 ·rw[h] at h'
  cases h';exact v80 _ q
theorem Sl'.step(hp:Web ps)(hq:Web qs)(J:Jl ps qs p0 c L){k:Nat}(S:Sl' ps qs p0 c L i k F)(hy:L[i]?=some y){v:D×D}(hv:(zp ps qs y.1)[k]?=some v)(hn:¬prt ps qs v):Sl' ps qs p0 c L i (k+1) (lv1 y.2 k v F):=by
 have Z:=B0 hy;obtain⟨y1,y2,y3,y4⟩:=J.ld y Z;have O:∀(i' k':Nat) (y:(Nat×Nat)×List Nat) (v:D×D),L[i']?=some y->(zp ps qs y.1)[k']?=some v->(i'<i∨i'=i/\k'<k+1)->¬prt ps qs v:=λi' k' y' v' h1 h2 h3=>by
  by_cases z:i'=i/\k'=k
  ·obtain⟨rfl,rfl⟩:=z
   rw[hy] at h1;cases h1;rw[hv] at h2;cases h2;exact hn
  ·exact S.np i' k' y' v' h1 h2 (by omega)
 have M:∀z∈F,∃(i' k':Nat) (y:(Nat×Nat)×List Nat),L[i']?=some y/\z.2=y.2++[k']/\(i'<i∨i'=i/\k'<k+1):=λz hz=>by
  obtain⟨i',k',y',a1,a2,a3⟩:=S.lo z hz;exact⟨i',k',y',a1,a2,by omega⟩
 have keep:(∀x,gl1 v=some x->∃b,(x,b)∈F/\wle b (y.2++[k]))->Sl' ps qs p0 c L i (k+1) F:=λhx=>by
  refine⟨S.nd,S.ld,S.up,S.hd,M,λi' k' y' v' x h1 h2 h3 h4=>?_,O⟩
  by_cases z:i'=i/\k'=k
  ·obtain⟨rfl,rfl⟩:=z
   rw[hy] at h1;cases h1;rw[hv] at h2;cases h2;exact hx x h3
  ·exact S.all i' k' y' v' x h1 h2 h3 (by omega)
 unfold lv1;cases e:gl1 v with
 | none=>exact keep λx h=>by rw[e] at h;cases h
 | some x =>
  dsimp only
  by_cases hx:x∈F.map (·.1)
  ·rw[if_pos hx]
   refine keep λx' h=>?_
   rw[e] at h;cases h;obtain⟨z,hz,ez⟩:=A9.mp hx;obtain⟨i',k',y',a1,a2,a3⟩:=S.lo z hz;refine⟨z.2,by rw[← ez];exact hz,?_⟩;rw[a2];exact .inr (he0 J hy a1 a3)
  ·rw[if_neg hx]
   obtain⟨l1,l2⟩:=ux0 hp hq y3 y4 (B0 hv);obtain⟨xi,vd⟩:(x.1<ps.length/\x.2<qs.length)/\v=(lnk x.1,lnk x.2):=by
    rcases z70 l1 l2 with⟨a,b,ha,hb,q1,q2,q3⟩|⟨q3,_⟩
    ·rw[show (v.1,v.2)=v from rfl,e] at q3
     cases q3;exact⟨⟨ha,hb⟩,E1 q1 q2⟩
    ·rw[show (v.1,v.2)=v from rfl,e] at q3
     cases q3
   have a0:Pn.hd (pa ps x.1)=Pn.hd (pa qs x.2):=by
    unfold prt at hn;rw[e] at hn;exact Y2.mp hn
   have Y:lds ps qs p0 (y.2++[k]) x:=by
    obtain⟨a1,a2⟩:=v20 y2 hv;rw[vd] at a1 a2;exact⟨a1,a2⟩
   have mem:∀z,z∈F++[(x,y.2++[k])]↔z∈F∨z=(x,y.2++[k]):=λz=>by simp
   refine⟨?_,λz hz=>?_,λa b z z' U h1 h2=>?_,λz hz=>?_,λz hz=>?_,λi' k' y' v' x' h1 h2 h3 h4=>?_,O⟩
   ·rw[List.map_append]
    exact Ta.rt0.mpr ⟨S.nd,hx⟩
   ·rcases (mem z).mp hz with hz|rfl
    ·exact S.ld z hz
    ·exact⟨by rw[List.length_append,List.length_singleton,y1],Y,xi⟩
   ·have lb:=(A7.mp h2).1
    rw[List.length_append,List.length_singleton] at lb;rw[List.getElem?_append_left (by omega)] at h1;rcases N0 b F.length with q|q
    ·rw[List.getElem?_append_left q] at h2
     exact S.up a b z z' U h1 h2
    ·rw[List.getElem?_append_right q,show b - F.length=0 by omega] at h2
     cases h2;obtain⟨i',k',y',a1,a2,a3⟩:=S.lo z (B0 h1);rw[a2];exact he0 J hy a1 a3
   ·rcases (mem z).mp hz with hz|rfl
    ·exact S.hd z hz
    ·exact a0
   ·rcases (mem z).mp hz with hz|rfl
    ·exact M z hz
    ·exact⟨i,k,y,hy,rfl,.inr ⟨rfl,i0 _⟩⟩
   ·by_cases z:i'=i/\k'=k
    ·obtain⟨rfl,rfl⟩:=z
     rw[hy] at h1;cases h1;rw[hv] at h2;cases h2;rw[e] at h3;cases h3;exact⟨_,(mem _).mpr (.inr rfl),.inl rfl⟩
    ·obtain⟨b,b1,b2⟩:=S.all i' k' y' v' x' h1 h2 h3 (by omega)
     exact⟨b,(mem _).mpr (.inl b1),b2⟩
theorem Sl'.next(J:Jl ps qs p0 c L){k:Nat}(hy:L[i]?=some y)(hk:(zp ps qs y.1).length<=k)(S:Sl' ps qs p0 c L i k F):Sl' ps qs p0 c L (i+1) 0 F:=by
 have M:∀(i' k':Nat) (y':(Nat×Nat)×List Nat) (v:D×D),L[i']?=some y'->(zp ps qs y'.1)[k']?=some v->(i'<i+1∨i'=i+1/\k'<0)->(i'<i∨i'=i/\k'<k):=λi' k' y' v h1 h2 h3=>by
  rcases N0 i' i with q|q
  ·exact .inl q
  ·have:i'=i:=by omega
   subst this;rw[hy] at h1;cases h1;have:=(A7.mp h2).1;exact .inr ⟨rfl,by omega⟩
 refine⟨S.nd,S.ld,S.up,S.hd,λz hz=>?_,λi' k' y' v' x' h1 h2 h3 h4=>S.all i' k' y' v' x' h1 h2 h3 (M _ _ _ _ h1 h2 h4),λi' k' y' v' h1 h2 h3=>S.np i' k' y' v' h1 h2 (M _ _ _ _ h1 h2 h3)⟩;obtain⟨i',k',y',a1,a2,a3⟩:=S.lo z hz;exact⟨i',k',y',a1,a2,.inl (by omega)⟩
theorem sw0{x:Nat×Nat}{b:List Nat}(h:(x,b)∈L):∃i:Nat,L[i]?=some (x,b):=by
 obtain⟨i,hi,e⟩:=E3.mp h;exact⟨i,by rw[List.getElem?_eq_getElem hi,e]⟩
theorem Sl'.fin(hp:Web ps)(hq:Web qs)(h1:p0.1<ps.length)(h2:p0.2<qs.length)(J:Jl ps qs p0 c L)(S:Sl' ps qs p0 c L L.length 0 F):Jl ps qs p0 (c+1) F/\∀a,a.length=c+1->¬PWy ps qs p0 a:=by
 have sp:∀a:List Nat,a.length=c+1->∃b k,a=b++[k]/\b.length=c:=λa ha=>by
  rcases T0 a with z|⟨b,k,z⟩
  ·subst z;cases ha
  ·rw[List.concat_eq_append] at z
   subst z;rw[List.length_append,List.length_singleton] at ha;exact⟨b,k,rfl,by omega⟩
 refine⟨⟨S.nd,S.ld,S.up,λa x ha hl=>?_,S.hd⟩,λa ha ⟨u,v,b1,b2,b3⟩=>?_⟩
 ·obtain⟨b,k,rfl,hb⟩:=sp a ha
  obtain⟨y,_,M,hz⟩:=y20 hp hq h1 h2 hl.1 hl.2;obtain⟨b',m,le⟩:=J.all b y hb M;obtain⟨i,hi⟩:=sw0 m;obtain⟨d,d1,d2⟩:=S.all i k _ _ x hi hz (yr0 x.1 x.2) (.inl (A7.mp hi).1);exact⟨d,d1,zc0 d2 (zi0 le (A4 _))⟩
 ·obtain⟨b,k,rfl,hb⟩:=sp a ha
  obtain⟨y,_,M,hz⟩:=y20 hp hq h1 h2 b1 b2;obtain⟨b',m,le⟩:=J.all b y hb M;obtain⟨i,hi⟩:=sw0 m;exact S.np i k _ _ hi hz (.inl (A7.mp hi).1) b3
theorem Sl'.ret(hp:Web ps)(hq:Web qs)(h1:p0.1<ps.length)(h2:p0.2<qs.length)(J:Jl ps qs p0 c L)(no:∀a,a.length<=c->¬PWy ps qs p0 a){k:Nat}(S:Sl' ps qs p0 c L i k F)(hy:L[i]?=some y){v:D×D}(hv:(zp ps qs y.1)[k]?=some v)(hn:prt ps qs v):Lst ps qs p0 (y.2++[k]):=by
 obtain⟨y1,y2,y3,y4⟩:=J.ld y (B0 hy);obtain⟨a1,a2⟩:=v20 y2 hv;refine⟨⟨v.1,v.2,a1,a2,hn⟩,λw' O ⟨u,t,b1,b2,b3⟩=>?_⟩;have hl:w'.length=c+1∨w'.length<=c:=by
  rcases O with z|⟨z,_⟩<;>rw[List.length_append,List.length_singleton,y1] at z<;>omega
 rcases hl with hl|hl
 ·rcases T0 w' with z|⟨b,k',z⟩
  ·subst z;cases hl
  ·rw[List.concat_eq_append] at z
   subst z;rw[List.length_append,List.length_singleton] at hl;obtain⟨x,_,U,hz⟩:=y20 hp hq h1 h2 b1 b2;obtain⟨b',m,le⟩:=J.all b x (by omega) U;obtain⟨i',M⟩:=sw0 m
   by_cases q:i'<i∨i'=i/\k'<k
   ·exact S.np i' k' _ _ M hz q b3
   ·exact rm0 (zc0 (bn0 J hy M q) (zi0 le (A4 _))) O
 ·exact no w' hl ⟨u,t,b1,b2,b3⟩
theorem jl0(h1:p0.1<ps.length)(h2:p0.2<qs.length)(hh:Pn.hd (pa ps p0.1)=Pn.hd (pa qs p0.2)):Jl ps qs p0 0 [(p0,[])]/\∀a,a.length<=0->¬PWy ps qs p0 a:=by
 have one:∀z:(Nat×Nat)×List Nat,z∈[(p0,([]:List Nat))]->z=(p0,[]):=λz hz=>L5.mp hz
 refine⟨⟨L8.mpr ⟨by simp,P9⟩,λz hz=>by rw[one z hz];exact⟨rfl,⟨rfl,rfl⟩,h1,h2⟩,λi j z z' J e1 e2=>?_,λa x ha hl=>?_,λz hz=>by rw[one z hz];exact hh⟩,λa ha ⟨u,v,b1,b2,b3⟩=>?_⟩
 ·have:=(A7.mp e2).1
  simp at this;omega
 ·have:a=[]:=H0.mp ha
  subst this;obtain⟨e1,e2⟩:=hl;unfold vat lnk at e1 e2;injection e1 with e1
  injection e2 with e2
  injection e1 with e1
  injection e2 with e2
  simp at e1 e2;have:x=p0:=E1 (by omega) (by omega);subst this;exact⟨[],by simp,.inl rfl⟩
 ·have:a=[]:=H0.mp (by omega)
  subst this;unfold vat at b1 b2;cases b1;cases b2;unfold prt at b3;rw[yr0] at b3;exact b3 hh
end
end Ma
variable{F L:Ma.Lvl}
namespace La
open Ma
open DL W K22 Ta Fa
structure Wi(ps:List Pt)(p0:Nat×Nat)(A V:List (Nat×Nat)):Prop where
 nd:A.Nodup
 inr:ir ps.length A
 sub:∀x∈V,x∈A
 rc:∀x∈A,Rch ps ps p0 x
 st:p0∈A
 cl:∀x∈A,x∉V->okp ps ps x/\∀y∈gl (zp ps ps x),y∈A
theorem ti0(W P:D)(m:Sl):∀(M A V:List (Nat×Nat)) (f:Sl),A.length+M.length<=5000->V.length+M.length<=5000->A.Nodup ->
  ∃A' V' f',W2 (gN 6) WF (M.map pN) (ws W P A V m f)=some (.nx (ws W P A' V' m f'))/\A'.Nodup/\A'.length+V.length=A.length+V'.length/\(∀x,x∈A'↔x∈A∨x∈M)/\(∀x∈V,x∈V')/\(∀x∈V',x∈V∨x∈A')/\∀x∈A',x∈A∨x∈V'
 | [],A,V,f,_,_,hn=>⟨A,V,f,rfl,hn,rfl,λx=>by simp,λx hx=>hx,λx hx=>.inl hx,λx hx=>.inl hx⟩
 | q::M,A,V,f,l1,l2,hn=>by
  rw[List.length_cons] at l1 l2;obtain⟨w1,w2⟩:=Y90 W P A V m q (by omega) (by omega);have un:∀δ',WF (ws W P A V m (.sh (pN q)))=some (.nx δ')->W2 (gN 6) WF ((q::M).map pN) (ws W P A V m f)=W2 (gN 6) WF (M.map pN) δ':=fun δ' h=>by
   rw[List.map_cons]
   conv=>lhs;unfold W2
   show (match WF (ws W P A V m (.sh (pN q))) with|some (.nx δ')=>W2 (gN 6) WF (M.map pN) δ'|some (.ct δ')=>W2 (gN 6) WF (M.map pN) δ'|some (.bk δ')=>some (.nx δ')|r=>r)=_;rw[h]
  by_cases h:q∈A
  ·obtain⟨A',V',f',e,r1,r2,r3,r4,r5,r6⟩:=ti0 W P m M A V (.sh (pN q)) (by omega) (by omega) hn
   refine⟨A',V',f',(un _ (w1 h)).trans e,r1,r2,λx=>?_,r4,r5,r6⟩;rw[r3,List.mem_cons];constructor
   ·rintro (z|z)
    ·exact .inl z
    ·exact .inr (.inr z)
   ·rintro (z|rfl|z)
    ·exact .inl z
    ·exact .inl h
    ·exact .inr z
  ·obtain⟨A',V',f',e,r1,r2,r3,r4,r5,r6⟩:=ti0 W P m M (A++[q]) (V++[q]) (.sh (pN q)) (by rw[List.length_append,List.length_singleton];omega) (by rw[List.length_append,List.length_singleton];omega) (rt0.mpr ⟨hn,h⟩)
   rw[List.length_append,List.length_append,List.length_singleton] at r2;have qA:q∈A':=(r3 q).mpr (.inl (by simp));refine⟨A',V',f',(un _ (w2 h)).trans e,r1,by omega,λx=>?_,λx hx=>r4 x (by simp[hx]),λx hx=>?_,λx hx=>?_⟩
   ·rw[r3,List.mem_append,List.mem_singleton,List.mem_cons,or_assoc]
   ·rcases r5 x hx with z|z
    ·rcases C3.mp z with z|z
     ·exact .inl z
     ·rw[List.mem_singleton.mp z];exact .inr qA
    ·exact .inr z
   ·rcases r6 x hx with z|z
    ·rcases C3.mp z with z|z
     ·exact .inl z
     ·rw[List.mem_singleton.mp z];exact .inr (r4 q (by simp))
    ·exact .inr z
theorem wb2(hp:Web ps)(P:D){A V:List (Nat×Nat)}(m f:Sl)(h:Wi ps p0 A (V++[q]))(l1:A.length<=4000)(l2:V.length<=4000) :
  (¬okp ps ps q/\WB (ws (wd ps) P A (V++[q]) m f)=some (.rt .non))∨∃A' V' m' f',WB (ws (wd ps) P A (V++[q]) m f)=some (.nx (ws (wd ps) P A' V' m' f'))/\Wi ps p0 A' V'/\A.length<=A'.length/\A'.length+V.length=A.length+V'.length:=by
 have M:=h.sub q (by simp);have hq:=h.inr q M;obtain⟨g1,g2⟩:=Xa0 hp hp hq.1 hq.2;have O:ub0 4 (ws (wd ps) P A (V++[q]) m f)=some (pN q,ws (wd ps) P A V m f):=by
  unfold ub0;rw[show owL 4 (ws (wd ps) P A (V++[q]) m f)=some ((V++[q]).map pN) from rfl,Option.bind_some,List.map_append,List.map_cons,List.map_nil];show Option.map _ ((V.map pN++[pN q]).getLast?)=_;rw[List.getLast?_concat,List.dropLast_concat];rfl
 have J:∀d:D,Ma.W7 [wd ps,wd ps,pN q]=some d->M4 (to0 0 1 (ub0 4) Ma.W7) (gN 5) (ws (wd ps) P A (V++[q]) m f)=some (.nx (ws (wd ps) P A V (.sh d) f)):=λd hd=>by
  have e:to0 0 1 (ub0 4) Ma.W7 (ws (wd ps) P A (V++[q]) m f)=some (d,ws (wd ps) P A V m f):=by
   unfold to0;rw[show gv 0 (ws (wd ps) P A (V++[q]) m f)=some (wd ps) from rfl,Option.bind_some,show gv 1 (ws (wd ps) P A (V++[q]) m f)=some (wd ps) from rfl,Option.bind_some,O,Option.bind_some];show Option.map _ (Ma.W7 [wd ps,wd ps,pN q])=_;rw[show Ma.W7 [wd ps,wd ps,pN q]=some d from hd];rfl
  unfold M4;rw[e];rfl
 by_cases hg:okp ps ps q
 ·refine .inr ?_
  have a1:=(W9 hp hq.1).2;have a2:=(W9 hp hq.2).2;have hM:ir ps.length (gl (zp ps ps q)):=Xm0 a1.lv a2.lv;have U:(gl (zp ps ps q)).length<=12:=C5 (jj0 _) (by unfold zp;rw[List.length_zip];have:=a1.few;omega);have S:∀x∈gl (zp ps ps q),Rch ps ps p0 x:=λx hx=>.go (h.rc q M) hx
  have e1:=J _ (g1 hg);rw[show (pa ps q.1).vals.zip (pa ps q.2).vals=zp ps ps q from rfl] at e1;obtain⟨A',V',f',e2,r1,r2,r3,r4,r5,r6⟩:=ti0 (wd ps) P (.sh (.lst ((gl (zp ps ps q)).map pN))) (gl (zp ps ps q)) A V f (by omega) (by omega) h.nd;refine⟨A',V',_,f',v9 e1 (v9 (δ':=ws (wd ps) P A V (.sh (.lst ((gl (zp ps ps q)).map pN))) f) (by rw[Z0 (by rfl)];rfl) (v9 (T6 (items:=(gl (zp ps ps q)).map pN) rfl e2) rfl)),⟨r1,λx hx=>?_,λx hx=>?_,λx hx=>?_,(r3 p0).mpr (.inl h.st),λx hx hv=>?_⟩,Ak0 h.nd λx hx=>(r3 x).mpr (.inl hx),r2⟩
  ·rcases (r3 x).mp hx with z|z
   ·exact h.inr x z
   ·exact hM x z
  ·rcases r5 x hx with z|z
   ·exact(r3 x).mpr (.inl (h.sub x (by simp[z])))
   ·exact z
  ·rcases (r3 x).mp hx with z|z
   ·exact h.rc x z
   ·exact S x z
  ·rcases r6 x hx with z|z
   ·by_cases hxq:x=q
    ·subst hxq
     exact⟨hg,λy hy=>(r3 y).mpr (.inr hy)⟩
    ·obtain⟨c1,c2⟩:=h.cl x z λy=>by
      rcases C3.mp y with y|y
      ·exact hv (r4 x y)
      ·exact hxq (L5.mp y)
     exact⟨c1,λy hy=>(r3 y).mpr (.inl (c2 y hy))⟩
   ·exact absurd z hv
 ·refine .inl ⟨hg,v9 (J _ (g2 hg)) (o8 ?_)⟩
  rw[U8 (by rfl)];rfl
theorem wh2(hp:Web ps)(P:D):∀(f:Nat) (A V:List (Nat×Nat)) (m g:Sl),Wi ps p0 A V->V.length<=A.length->(3600 - A.length)+V.length<f ->
  ((∃x,Rch ps ps p0 x/\¬okp ps ps x)/\Q3 WT WB f (ws (wd ps) P A V m g)=some (.rt .non))∨∃A' m' g',Q3 WT WB f (ws (wd ps) P A V m g)=some (.nx (ws (wd ps) P A' [] m' g'))/\Wi ps p0 A' []:=by
 intro f
 induction f with
 | zero=>intro A V m g _ _ h;omega
 | succ f ih =>
  intro A V m g hw hl h;have few:∀{A V},Wi ps p0 A V->A.length<=3600:=λhw=>kg0 (n:=60) hw.nd λx hx=>by
   have:=hw.inr x hx;have:=hp.len.2;omega
  have hz:=few hw;unfold Q3;rw[X50]
  by_cases h0:0<V.length
  ·rw[decide_eq_true h0]
   obtain⟨V0,q,rfl⟩:∃V0 q,V=V0++[q]:=⟨V.dropLast,V.getLast (List.length_pos_iff.mp h0),(List.dropLast_concat_getLast _).symm⟩;rw[List.length_append,List.length_singleton] at h hl;dsimp only;rcases wb2 hp P m g hw (by omega) (by omega) with⟨hb,e⟩|⟨A',V',m',g',e,r1,r2,r3⟩
   ·rw[e];exact .inl ⟨⟨q,hw.rc q (hw.sub q (by simp)),hb⟩,rfl⟩
   ·rw[e]
    have J:=few r1;exact ih A' V' m' g' r1 (by omega) (by omega)
  ·rw[decide_eq_false h0]
   have:V=[]:=H0.mp (by omega);subst this;exact .inr ⟨A,m,g,rfl,hw⟩
theorem Y50(hp:Web ps){p:Nat×Nat}(hq:p.1<ps.length/\p.2<ps.length) :
  ((∃x,Rch ps ps p x/\¬okp ps ps x)/\K6 [wd ps,wd ps,pN p]=some .non)∨∃A,Tab ps ps p A/\K6 [wd ps,wd ps,pN p]=some (.lst ((SoT.srt (A.map c2)).map pD)):=by
 have h1:Wi ps p [p] [p]:=by
  have one:∀x,x∈[p]->x=p:=λx hx=>L5.mp hx
  exact⟨L8.mpr ⟨by simp,P9⟩,λx hx=>by rw[one x hx];exact hq,λx hx=>hx,λx hx=>by rw[one x hx];exact .top,by simp,λx hx hn=>absurd hx hn⟩
 have J:∀rest:GS,v8 (T7 3 (y70 (gv 2) (gc (.bl true)))) (v8 (T7 4 (Y8 (z9 (gv 2) v7))) rest) (W5 t70 [wd ps,wd ps,pN p])=rest (ws (wd ps) (pN p) [p] [p] .un .un):=λrest=>rfl
 rcases wh2 hp (pN p) 100000 [p] [p] .un .un h1 (A4 _) (by simp only[List.length_singleton];omega) with⟨hb,e⟩|⟨A,m,g,e,r⟩
 ·exact .inl ⟨hb,j5 rfl ((J _).trans (o8 e))⟩
 ·have all:∀x,Rch ps ps p x->x∈A:=λx hx=>by
   induction hx with
   | top=>exact r.st
   | go _ hg ih=>exact(r.cl _ ih (by simp)).2 _ hg
  refine .inr ⟨A,⟨r.nd,λx=>⟨r.rc x,all x⟩,λx hx=>(r.cl x (all x hx) (by simp)).1⟩,j5 rfl ((J _).trans (v9 e (o8 (Z1 ?_))))⟩;show oA (z9 (oA (z9 (gv 3) v7) u40) v7) vx0 [.sh (wd ps),.sh (wd ps),.sh (pN p),.sh (dT A),.sh (.lst []),zd0 m,zd0 g]=_;have e1:oA (z9 (gv 3) v7) u40 [.sh (wd ps),.sh (wd ps),.sh (pN p),.sh (dT A),.sh (.lst []),zd0 m,zd0 g]=some (.lst ((A.map c2).map pD)):=by
   show some (D.lst ((A.map k2).map ktD))=_;rw[List.map_map,List.map_map];rfl
  rw[o9 (ds:=[.lst ((A.map c2).map pD)]) (cons_of e1 rfl),f80 (Xp0 r.nd)]
end La
namespace Ma
open DL W K22
open Ta (pa W9 zr0 gl gl1 nl pN k2 J3 zj0)
open La
open Ea (lnk stp vat ww0 xh0 vm0 wlt)
theorem pk0{f:D->Ds->Option Ds}{d x:D}{δ1:Ds}(h1:f d δ=some δ1)(h2:G δ1=some (.rt x)):W2 f G (d::ds) δ=some (.rt x):=by
 conv=>lhs;unfold W2
 rw[h1];simp only[Option.bind_some,h2]
theorem k60(p:Pt)(h:p.few):m5 [p.d]=some (.lst p.vals):=Gw.rn0 p h
theorem lhd(p:Pt)(h:p.few):Z5 [p.d]=some (Pn.hd p):=Gw.rv0 p h
theorem po0(hp:Web ps){x:Nat×Nat}(h1:x.1<ps.length)(h2:x.2<ps.length){g1 g2:GE}(e1:g1 δ=ixD (wd ps) (.int (x.1:Int)))(e2:g2 δ=ixD (wd ps) (.int (x.2:Int))) :
  zr0 (Pn.hd (pa ps x.1)≠Pn.hd (pa ps x.2)) (o2 (oA (z9 g1 v7) Z5) (oA (z9 g2 v7) Z5) Q5 δ):=by
 obtain⟨a1,a2⟩:=W9 hp h1;obtain⟨b1,b2⟩:=W9 hp h2;rw[o5 (x:=Pn.hd (pa ps x.1)) (y:=Pn.hd (pa ps x.2)) (by rw[o9 (ds:=[(pa ps x.1).d]) (cons_of (e1.trans a1) rfl)];exact lhd _ a2.f) (by rw[o9 (ds:=[(pa ps x.2).d]) (cons_of (e2.trans b1) rfl)];exact lhd _ b2.f)];exact⟨λe=>Pn.rr0 (Pn.xb0 _) (Pn.xb0 _) e,λe=>by rw[Classical.not_not.mp e];exact Pn.tf0 (Pn.xb0 _).le⟩
theorem qk0(hp:Web ps){v w:D}(hv:Lv ps.length v)(hw:Lv ps.length w):zr0 (prt ps ps (v,w)) (W0 [wd ps,v,w]):=by
 have hl:G5 (ob (V7 isTup (gv 1))) (ob (V7 isTup (gv 2))) [.sh (wd ps),.sh v,.sh w]=some (isTup v&&isTup w):=by
  unfold G5;rw[show ob (V7 isTup (gv 1)) [.sh (wd ps),.sh v,.sh w]=some (isTup v) from rfl,Option.bind_some];cases isTup v<;>rfl
 rcases z70 hv hw with⟨i,j,hi,hj,rfl,rfl,e⟩|⟨e,e2⟩
 ·unfold prt
  rw[e];dsimp only;obtain⟨t1,t2⟩:=po0 hp (x:=(i,j)) hi hj (g1:=o2 (gv 0) (o2 (gv 1) (gc (.int 1)) ixD) ixD) (g2:=o2 (gv 0) (o2 (gv 2) (gc (.int 1)) ixD) ixD) (δ:=[.sh (wd ps),.sh (.tup [.str "at",.int (i:Int)]),.sh (.tup [.str "at",.int (j:Int)])]) rfl rfl;have k:∀b,o2 (oA (z9 (o2 (gv 0) (o2 (gv 1) (gc (.int 1)) ixD) ixD) v7) Z5) (oA (z9 (o2 (gv 0) (o2 (gv 2) (gc (.int 1)) ixD) ixD) v7) Z5) Q5 [.sh (wd ps),.sh (.tup [.str "at",.int (i:Int)]),.sh (.tup [.str "at",.int (j:Int)])]=some (.bl b)->W0 [wd ps,.tup [.str "at",.int (i:Int)],.tup [.str "at",.int (j:Int)]]=some (.bl b):=λb hb=>by
   refine j5 rfl (o8 ?_)
   change ifD _ _ _ [.sh (wd ps),.sh (.tup [.str "at",.int (i:Int)]),.sh (.tup [.str "at",.int (j:Int)])]=_
   rw[U8 hl];exact o8 (Z1 hb)
  exact⟨λz=>k _ (t1 z),λz=>k _ (t2 z)⟩
 ·unfold prt
  rw[e];dsimp only;rw[e2] at hl;have k:∀b,Q5 v w=some (.bl b)->W0 [wd ps,v,w]=some (.bl b):=λb hb=>by
   refine j5 rfl (v9 (δ':=[.sh (wd ps),.sh v,.sh w]) ?_ (o8 (Z1 ?_)))
   ·change ifD _ _ _ [.sh (wd ps),.sh v,.sh w]=_
    rw[Z0 hl];rfl
   ·rw[o5 (x:=v) (y:=w) rfl rfl]
    exact hb
  exact⟨λz=>k _ (Pn.rr0 (uu0 hv) (uu0 hw) z),λz=>k _ (by rw[Classical.not_not.mp z];exact Pn.tf0 (uu0 hw).le)⟩
def VB:GS:=(v8 (ifD (we0 (J0 (ob (V7 isTup (gv 3)))) (J0 (ob (yt0 (gc (.int 0)) (gv 4) (oA (z9 (oA (z9 (o2 (gv 0) (o2 (gv 3) (gc (.int 1)) ixD) ixD) v7) m5) v7) X4) leD ltD))))
 (v8 (j7 (gc (.str "nowhere")))
 p7)
 p7)
 (v8 (n6 (gN 3) (o2 (oA (z9 (o2 (gv 0) (o2 (gv 3) (gc (.int 1)) ixD) ixD) v7) m5) (gv 4) ixD))
 p7))
theorem Xe0(h:Web ps)(a b:Sl){k:Nat}(hj:j<ps.length){u:D}(hu:(pa ps j).vals[k]?=some u) :
  VB [.sh (wd ps),a,b,.sh (lnk j),.sh (nI k)]=some (.nx [.sh (wd ps),a,b,.sh u,.sh (nI k)]):=by
 obtain⟨a1,a2⟩:=W9 h hj;have hk:=(A7.mp hu).1;have ev:oA (z9 (o2 (gv 0) (o2 (gv 3) (gc (.int 1)) ixD) ixD) v7) m5 [.sh (wd ps),a,b,.sh (lnk j),.sh (nI k)]=some (.lst (pa ps j).vals):=by
  rw[o9 (ds:=[(pa ps j).d]) (cons_of ((o5 (x:=wd ps) (y:=.int (j:Int)) rfl rfl).trans a1) rfl)];exact k60 _ a2.f
 have ec:ob (yt0 (gc (.int 0)) (gv 4) (oA (z9 (oA (z9 (o2 (gv 0) (o2 (gv 3) (gc (.int 1)) ixD) ixD) v7) m5) v7) X4) leD ltD) [.sh (wd ps),a,b,.sh (lnk j),.sh (nI k)]=some true:=by
  refine Bw.yj0 ?_;unfold yt0;rw[show gc (.int 0) ([.sh (wd ps),a,b,.sh (lnk j),.sh (nI k)]:Ds)=some (.int 0) from rfl,show gv 4 ([.sh (wd ps),a,b,.sh (lnk j),.sh (nI k)]:Ds)=some (.int (k:Int)) from rfl];simp only[Option.bind_some];rw[show leD (.int 0) (.int (k:Int))=some (.bl true) from by show some (D.bl (decide ((0:Int)<=(k:Int))))=_;rw[decide_eq_true (by omega)]];simp only[Option.bind_some,asB];rw[if_pos trivial,o9 (ds:=[.lst (pa ps j).vals]) (cons_of ev rfl)];show some (D.bl (decide ((k:Int)<((pa ps j).vals.length:Int))))=_;rw[decide_eq_true (by omega)]
 refine v9 (δ':=[.sh (wd ps),a,b,.sh (lnk j),.sh (nI k)]) ?_ (v9 (j4 (d:=u) ?_) rfl)
 ·rw[Z0]
  ·rfl
  ·refine Ta.eb0 (by rfl) ?_
   unfold J0;rw[ec];rfl
 ·rw[o5 (x:=.lst (pa ps j).vals) (y:=.int (k:Int)) ev rfl]
  show atI (pa ps j).vals (k:Int)=_;rw[K1 (by omega) (by omega) .non,Int.toNat_natCast,List.getD_eq_getElem?_getD,hu];rfl
theorem j40(h:Web ps)(a b:Sl):∀(w:List Nat) (v u:D) (s4:Sl),Lv ps.length v->vat ps v w=some u ->
  ∃t4,W2 (gN 4) VB (w.map nI) [.sh (wd ps),a,b,.sh v,s4]=some (.nx [.sh (wd ps),a,b,.sh u,t4])
 | [],v,u,s4,hv,e=>by
  unfold vat at e;cases e;exact⟨s4,rfl⟩
 | k::w,v,u,s4,hv,e=>by
  unfold vat at e;cases e1:stp ps v k with
  | none=>rw[e1] at e;cases e
  | some x =>
   rw[e1,Option.bind_some] at e;obtain⟨j,hj,rfl,hk⟩:=vm0 hv e1;have hx:Lv ps.length x:=(W9 h hj).2.lv x (B0 hk);obtain⟨u4,e3⟩:=j40 h a b w x u (.sh (nI k)) hx e;exact⟨u4,(vb0 (f:=gN 4) rfl (Xe0 h a b hj hk)).trans e3⟩
theorem xp0(h:Web ps){p:Nat}(hp:p<ps.length){w:List Nat}{u:D}(e:vat ps (lnk p) w=some u):U3 [wd ps,.lst (w.map nI),nI p]=some u:=by
 have zs:(9:Nat)<=sizeLine:=by decide
 obtain⟨t4,lo⟩:=j40 h (.sh (.lst (w.map nI))) (.sh (nI p)) w (lnk p) u .un (wv0 hp) e;exact j5 rfl (v9 (δ':=[.sh (wd ps),.sh (.lst (w.map nI)),.sh (nI p),.sh (lnk p),.un]) (j4 (d:=lnk p) (X6 (cons_of rfl (cons_of rfl rfl)) (by show 2<=sizeLine;omega))) (v9 (T6 (items:=w.map nI) rfl lo) (o8 rfl)))
def wD(w:List Nat):D:=.lst (w.map nI)
def ld(L:Lvl):D:=.dct (.inr ((L.map (·.1)).map k2)) (L.map λz=>wD z.2)
theorem j70:∀{L:Lvl},(L.map (·.1)).Nodup->∀{i:Nat} {z:(Nat×Nat)×List Nat},L[i]?=some z->yo0 (ld L) (pN z.1)=some (wD z.2)
 | [],_,i,z,h=>by simp at h
 | y::L,nd,i,z,h=>by
  rw[List.map_cons,List.nodup_cons] at nd;show (if k2 y.1=k2 z.1 then some (wD y.2) else zq0 ((L.map (·.1)).map k2) (L.map λz=>wD z.2) (k2 z.1))=_;cases i with
  | zero=>cases h;rw[if_pos rfl]
  | succ i =>
   have h':L[i]?=some z:=by simpa using h
   rw[if_neg λe=>nd.1 (by rw[J3 e];exact A9.mpr ⟨z,B0 h',rfl⟩)];exact j70 nd.2 h'
theorem al0{x:Nat×Nat}(h:x∉F.map (·.1))(w:List Nat):zk0 ((F.map (·.1)).map k2) (k2 x)=((F++[(x,w)]).map (·.1)).map k2/\ya0 ((F.map (·.1)).map k2) (F.map λz=>wD z.2) (k2 x) (wD w)=(F++[(x,w)]).map λz=>wD z.2:=by
 have hf:N6 ((F.map (·.1)).map k2) (k2 x)=false:=by
  cases e:N6 ((F.map (·.1)).map k2) (k2 x) with
  | false=>rfl
  | true =>
   obtain⟨q,hq,e2⟩:=A9.mp ((Ta.ox0 _ _).mp e);exact absurd (J3 e2▸hq) h
 unfold zk0 ya0;rw[hf];simp
theorem Yb0(F:Lvl):Ta.Dc (F.map (·.1)) (ld F):=⟨_,_,rfl,λx=>by
 rw[List.mem_map];constructor
 ·rintro⟨p,h,e⟩;exact⟨p,h,e.symm⟩
 ·rintro⟨p,h,e⟩;exact⟨p,h,e.symm⟩⟩
def LP:GS:=(v8 (n6 (gN 7) (o2 (o2 (gv 1) (gv 3) yo0) (Y8 (z9 (gv 6) v7)) j6))
 (v8 (ifD (ob (oA (z9 (gv 0) (z9 (o2 (gv 4) (gv 6) ixD) (z9 (o2 (gv 5) (gv 6) ixD) v7))) W0))
 (v8 (j7 (zt0 (Z6 (z9 (gv 7) (z9 (gv 2) v7)))))
 p7)
 p7)
 (v8 (ifD (ob (V7 isTup (o2 (gv 4) (gv 6) ixD)))
 (v8 (n6 (gN 8) (Z6 (z9 (o2 (o2 (gv 4) (gv 6) ixD) (gc (.int 1)) ixD) (z9 (o2 (o2 (gv 5) (gv 6) ixD) (gc (.int 1)) ixD) v7))))
 (v8 (ifD (zz0 (ob (o2 (gv 8) (gv 2) (R8 true))))
 (v8 (M4 (O4 (gv 7)) (z90 2 (gv 8)))
 p7)
 p7)
 p7))
 p7)
 p7)))
def lS2(ps:List Pt)(L F:Lvl)(a b c s6 s7 s8:Sl):Ds:=[.sh (wd ps),.sh (ld L),.ow (ld F),a,b,c,s6,s7,s8]
theorem bm0{k:Nat}{u:D}(h:l[k]?=some u):ixD (.lst l) (nI k)=some u:=by
 have hk:=(A7.mp h).1;show atI l (k:Int)=_;rw[K1 (by omega) (by omega) .non,Int.toNat_natCast,List.getD_eq_getElem?_getD,h];rfl
theorem X40(hp:Web ps)(nd:(L.map (·.1)).Nodup)(hy:L[i]?=some y)(hl:y.2.length<=4000)(hf:F.length<=4000){l1 l2:List D}{k:Nat}{u v:D}(hu:l1[k]?=some u)(hv:l2[k]?=some v)(lu:Lv ps.length u)(lv:Lv ps.length v)(s7 s8:Sl) :
  (prt ps ps (u,v)->LP (lS2 ps L F (.sh (pN y.1)) (.sh (.lst l1)) (.sh (.lst l2)) (.sh (nI k)) s7 s8)=some (.rt (.tup [wD (y.2++[k]),ld F]))) /\
  (¬prt ps ps (u,v)->∃t7 t8,LP (lS2 ps L F (.sh (pN y.1)) (.sh (.lst l1)) (.sh (.lst l2)) (.sh (nI k)) s7 s8)=some (.nx (lS2 ps L (lv1 y.2 k (u,v) F) (.sh (pN y.1)) (.sh (.lst l1)) (.sh (.lst l2)) (.sh (nI k)) t7 t8))):=by
 have zs:(9000:Nat)<=sizeLine:=by decide
 have e7:o2 (o2 (gv 1) (gv 3) yo0) (Y8 (z9 (gv 6) v7)) j6 (lS2 ps L F (.sh (pN y.1)) (.sh (.lst l1)) (.sh (.lst l2)) (.sh (nI k)) s7 s8)=some (wD (y.2++[k])):=by
  rw[o5 (x:=wD y.2) (y:=.lst [nI k]) ((o5 (x:=ld L) (y:=pN y.1) rfl rfl).trans (j70 nd hy)) (z60 rfl (by show 1<=sizeLine;omega))];show (if (y.2.map nI).length+1<=sizeLine then some (D.lst (y.2.map nI++[nI k])) else none)=_;rw[if_pos (by rw[List.length_map];omega)];unfold wD;rw[List.map_append];rfl
 have i4:∀s7 s8,o2 (gv 4) (gv 6) ixD (lS2 ps L F (.sh (pN y.1)) (.sh (.lst l1)) (.sh (.lst l2)) (.sh (nI k)) s7 s8)=some u:=λs7 s8=>(o5 (x:=.lst l1) (y:=nI k) rfl rfl).trans (bm0 hu)
 have i5:∀s7 s8,o2 (gv 5) (gv 6) ixD (lS2 ps L F (.sh (pN y.1)) (.sh (.lst l1)) (.sh (.lst l2)) (.sh (nI k)) s7 s8)=some v:=λs7 s8=>(o5 (x:=.lst l2) (y:=nI k) rfl rfl).trans (bm0 hv)
 obtain⟨t1,t2⟩:=zj0 (g:=oA (z9 (gv 0) (z9 (o2 (gv 4) (gv 6) ixD) (z9 (o2 (gv 5) (gv 6) ixD) v7))) W0) (δ:=lS2 ps L F (.sh (pN y.1)) (.sh (.lst l1)) (.sh (.lst l2)) (.sh (nI k)) (.sh (wD (y.2++[k]))) s8) (p:=prt ps ps (u,v)) (by
  rw[o9 (ds:=[wd ps,u,v]) (cons_of rfl (cons_of (i4 _ _) (cons_of (i5 _ _) rfl)))];exact qk0 hp lu lv)
 refine⟨λz=>v9 (j4 e7) (o8 ?_),λz=>?_⟩
 ·change ifD _ _ _ (lS2 ps L F (.sh (pN y.1)) (.sh (.lst l1)) (.sh (.lst l2)) (.sh (nI k)) (.sh (wD (y.2++[k]))) s8)=_
  rw[U8 (t1 z)];refine o8 (Z1 ?_);exact X6 (cons_of rfl (cons_of rfl rfl)) (by show 2<=sizeLine;omega)
 ·have go:∀{F':Lvl} {t8:Sl},(v8 (ifD (ob (V7 isTup (o2 (gv 4) (gv 6) ixD)))
 (v8 (n6 (gN 8) (Z6 (z9 (o2 (o2 (gv 4) (gv 6) ixD) (gc (.int 1)) ixD) (z9 (o2 (o2 (gv 5) (gv 6) ixD) (gc (.int 1)) ixD) v7))))
 (v8 (ifD (zz0 (ob (o2 (gv 8) (gv 2) (R8 true))))
 (v8 (M4 (O4 (gv 7)) (z90 2 (gv 8)))
 p7)
 p7)
 p7))
 p7)
 p7) (lS2 ps L F (.sh (pN y.1)) (.sh (.lst l1)) (.sh (.lst l2)) (.sh (nI k)) (.sh (wD (y.2++[k]))) s8)=some (.nx (lS2 ps L F' (.sh (pN y.1)) (.sh (.lst l1)) (.sh (.lst l2)) (.sh (nI k)) (.sh (wD (y.2++[k]))) t8)) ->
    ∃t7 t8,LP (lS2 ps L F (.sh (pN y.1)) (.sh (.lst l1)) (.sh (.lst l2)) (.sh (nI k)) s7 s8)=some (.nx (lS2 ps L F' (.sh (pN y.1)) (.sh (.lst l1)) (.sh (.lst l2)) (.sh (nI k)) t7 t8)):=λ{F' t8} h =>
   ⟨_,t8,v9 (j4 e7) (v9 (δ':=lS2 ps L F (.sh (pN y.1)) (.sh (.lst l1)) (.sh (.lst l2)) (.sh (nI k)) (.sh (wD (y.2++[k]))) s8) (by
    change ifD _ _ _ (lS2 ps L F (.sh (pN y.1)) (.sh (.lst l1)) (.sh (.lst l2)) (.sh (nI k)) (.sh (wD (y.2++[k]))) s8)=_
    rw[Z0 (t2 z)];rfl) h)⟩
  have it:ob (V7 isTup (o2 (gv 4) (gv 6) ixD)) (lS2 ps L F (.sh (pN y.1)) (.sh (.lst l1)) (.sh (.lst l2)) (.sh (nI k)) (.sh (wD (y.2++[k]))) s8)=some (isTup u):=Bw.yj0 (by
   unfold V7;rw[i4];rfl)
  unfold lv1;rcases z70 lu lv with⟨a,b,ha,hb,rfl,rfl,e⟩|⟨e,e2⟩
  ·rw[e]
   dsimp only;have e8:Z6 (z9 (o2 (o2 (gv 4) (gv 6) ixD) (gc (.int 1)) ixD) (z9 (o2 (o2 (gv 5) (gv 6) ixD) (gc (.int 1)) ixD) v7)) (lS2 ps L F (.sh (pN y.1)) (.sh (.lst l1)) (.sh (.lst l2)) (.sh (nI k)) (.sh (wD (y.2++[k]))) s8)=some (pN (a,b)):=by
    refine X6 (cons_of (d:=.int (a:Int)) ?_ (cons_of (d:=.int (b:Int)) ?_ rfl)) (by show 2<=sizeLine;omega)
    ·exact(o5 (i4 _ _) rfl).trans rfl
    ·exact(o5 (i5 _ _) rfl).trans rfl
   have J:zz0 (ob (o2 (gv 8) (gv 2) (R8 true))) (lS2 ps L F (.sh (pN y.1)) (.sh (.lst l1)) (.sh (.lst l2)) (.sh (nI k)) (.sh (wD (y.2++[k]))) (.sh (pN (a,b))))=some (decide ((a,b)∉F.map (·.1))):=by
    show ob (o2 (gv 8) (gv 2) (R8 true)) [.sh (wd ps),.sh (ld L),.sh (ld F),.sh (pN y.1),.sh (.lst l1),.sh (.lst l2),.sh (nI k),.sh (wD (y.2++[k])),.sh (pN (a,b))]=_;refine Bw.yj0 ?_;rw[o5 (x:=pN (a,b)) (y:=ld F) rfl rfl];exact Ta.kc0 (Yb0 F) (a,b)
   by_cases h:(a,b)∈F.map (·.1)
   ·rw[if_pos h]
    refine go (t8:=.sh (pN (a,b))) (v9 (δ':=lS2 ps L F (.sh (pN y.1)) (.sh (.lst l1)) (.sh (.lst l2)) (.sh (nI k)) (.sh (wD (y.2++[k]))) (.sh (pN (a,b)))) ?_ rfl);rw[U8 it];refine v9 (j4 e8) (v9 (δ':=lS2 ps L F (.sh (pN y.1)) (.sh (.lst l1)) (.sh (.lst l2)) (.sh (nI k)) (.sh (wD (y.2++[k]))) (.sh (pN (a,b)))) ?_ rfl)
    change ifD _ _ _ (lS2 ps L F (.sh (pN y.1)) (.sh (.lst l1)) (.sh (.lst l2)) (.sh (nI k)) (.sh (wD (y.2++[k]))) (.sh (pN (a,b))))=_
    rw[Z0 (by rw[J,decide_eq_false λz=>z h])];rfl
   ·rw[if_neg h]
    obtain⟨k1,M⟩:=al0 h (y.2++[k]);refine go (t8:=.sh (pN (a,b))) (v9 (δ':=lS2 ps L (F++[((a,b),y.2++[k])]) (.sh (pN y.1)) (.sh (.lst l1)) (.sh (.lst l2)) (.sh (nI k)) (.sh (wD (y.2++[k]))) (.sh (pN (a,b)))) ?_ rfl);rw[U8 it];refine v9 (j4 e8) (v9 (δ':=lS2 ps L (F++[((a,b),y.2++[k])]) (.sh (pN y.1)) (.sh (.lst l1)) (.sh (.lst l2)) (.sh (nI k)) (.sh (wD (y.2++[k]))) (.sh (pN (a,b)))) ?_ rfl)
    change ifD _ _ _ (lS2 ps L F (.sh (pN y.1)) (.sh (.lst l1)) (.sh (.lst l2)) (.sh (nI k)) (.sh (wD (y.2++[k]))) (.sh (pN (a,b))))=_
    rw[U8 (by rw[J,decide_eq_true h])];refine v9 (δ':=lS2 ps L (F++[((a,b),y.2++[k])]) (.sh (pN y.1)) (.sh (.lst l1)) (.sh (.lst l2)) (.sh (nI k)) (.sh (wD (y.2++[k]))) (.sh (pN (a,b)))) ?_ rfl;unfold M4;rw[show O4 (gv 7) (lS2 ps L F (.sh (pN y.1)) (.sh (.lst l1)) (.sh (.lst l2)) (.sh (nI k)) (.sh (wD (y.2++[k]))) (.sh (pN (a,b))))=some (wD (y.2++[k]),lS2 ps L F (.sh (pN y.1)) (.sh (.lst l1)) (.sh (.lst l2)) (.sh (nI k)) (.sh (wD (y.2++[k]))) (.sh (pN (a,b)))) from rfl,Option.bind_some];unfold z90;show Option.map Res.nx ((ue0 2 _).bind _)=_;rw[show gv 8 (lS2 ps L F (.sh (pN y.1)) (.sh (.lst l1)) (.sh (.lst l2)) (.sh (nI k)) (.sh (wD (y.2++[k]))) (.sh (pN (a,b))))=some (pN (a,b)) from rfl,show ue0 2 (lS2 ps L F (.sh (pN y.1)) (.sh (.lst l1)) (.sh (.lst l2)) (.sh (nI k)) (.sh (wD (y.2++[k]))) (.sh (pN (a,b))))=some ((F.map (·.1)).map k2,F.map λz=>wD z.2) from rfl,Option.bind_some,Option.bind_some,g00,Option.bind_some];dsimp only;rw[if_pos (by rw[List.length_map,List.length_map];omega),k1,M];rfl
  ·rw[e]
   dsimp only;cases hu':isTup u with
   | false =>
    rw[hu'] at it;exact go (t8:=s8) (v9 (δ':=lS2 ps L F (.sh (pN y.1)) (.sh (.lst l1)) (.sh (.lst l2)) (.sh (nI k)) (.sh (wD (y.2++[k]))) s8) (by rw[Z0 it];rfl) rfl)
   | true =>
    exfalso;rw[hu',Bool.true_and] at e2;unfold prt at z;rw[e] at z;have:=Y2.mp z;dsimp only at this;rw[← this,hu'] at e2;cases e2
theorem bz0(hp:Web ps)(nd:(F.map (·.1)).Nodup)(h:∀z∈F,z.1.1<ps.length/\z.1.2<ps.length):F.length<=3600:=by
 rw[← List.length_map (f:=λz:(Nat×Nat)×List Nat=>z.1)];refine Fa.kg0 (n:=60) nd λx hx=>?_
 obtain⟨z,hz,rfl⟩:=A9.mp hx;have:=h z hz;have:=hp.len.2;omega
theorem ad0(hp:Web ps)(h1:p0.1<ps.length)(h2:p0.2<ps.length){c:Nat}(hc:c<=4000)(J:Jl ps ps p0 c L)(no:∀a,a.length<=c->¬PWy ps ps p0 a)(hy:L[i]?=some y) :
  ∀(d k:Nat) (F:Lvl) (s6 s7 s8:Sl),k+d=(pa ps y.1.1).vals.length->Sl' ps ps p0 c L i k F ->
  (∃F' t6 t7 t8,W2 (gN 6) LP ((List.range' k d).map nI) (lS2 ps L F (.sh (pN y.1)) (.sh (.lst (pa ps y.1.1).vals)) (.sh (.lst (pa ps y.1.2).vals)) s6 s7 s8)=some (.nx (lS2 ps L F' (.sh (pN y.1)) (.sh (.lst (pa ps y.1.1).vals)) (.sh (.lst (pa ps y.1.2).vals)) t6 t7 t8))/\Sl' ps ps p0 c L i (k+d) F') ∨
  ∃w F',Lst ps ps p0 w/\W2 (gN 6) LP ((List.range' k d).map nI) (lS2 ps L F (.sh (pN y.1)) (.sh (.lst (pa ps y.1.1).vals)) (.sh (.lst (pa ps y.1.2).vals)) s6 s7 s8)=some (.rt (.tup [wD w,ld F'])):=by
 have M:=B0 hy;obtain⟨y1,y2,y3,y4⟩:=J.ld y M;have O:=Ta.tv0 (J.hd y M);intro d
 induction d with
 | zero=>intro k F s6 s7 s8 _ S;exact .inl ⟨F,s6,s7,s8,rfl,S⟩
 | succ d ih =>
  intro k F s6 s7 s8 hk S;have hu:(pa ps y.1.1).vals[k]?=some ((pa ps y.1.1).vals[k]'(by omega)):=B6 _;have hv:(pa ps y.1.2).vals[k]?=some ((pa ps y.1.2).vals[k]'(by omega)):=B6 _;have hz:(zp ps ps y.1)[k]?=some ((pa ps y.1.1).vals[k]'(by omega),(pa ps y.1.2).vals[k]'(by omega)):=S1.mpr ⟨hu,hv⟩;have few:F.length<=3600:=bz0 hp S.nd λz hz=>(S.ld z hz).2.2
  have lu:=(W9 hp y3).2.lv _ (B0 hu);have lv:=(W9 hp y4).2.lv _ (B0 hv);obtain⟨r1,r2⟩:=X40 hp J.nd hy (by rw[y1];exact hc) (F:=F) (by omega) hu hv lu lv s7 s8;rw[List.range'_succ,List.map_cons]
  by_cases z:prt ps ps ((pa ps y.1.1).vals[k]'(by omega),(pa ps y.1.2).vals[k]'(by omega))
  ·refine .inr ⟨_,F,S.ret hp hp h1 h2 J no hy hz z,?_⟩
   exact pk0 (f:=gN 6) rfl (r1 z)
  ·obtain⟨t7,t8,e⟩:=r2 z
   have S':=S.step hp hp J hy hz z;rw[vb0 (f:=gN 6) (G:=LP) (δ1:=lS2 ps L F (.sh (pN y.1)) (.sh (.lst (pa ps y.1.1).vals)) (.sh (.lst (pa ps y.1.2).vals)) (.sh (nI k)) s7 s8) rfl e];have:=ih (k+1) _ (.sh (nI k)) t7 t8 (by omega) S'
   rwa [show k+1+d=k+(d+1) by omega] at this
theorem i20(n:Nat):W4 0 (n:Int)=(List.range' 0 n).map nI:=by
 unfold W4;rw[show ((n:Int) - 0).toNat=n by omega,List.range_eq_range'];refine A70 λk _=>?_
 show D.int (0+(k:Int))=D.int (k:Int);rw[Int.zero_add]
def LQ:GS:=(v8 (n6 (gN 4) (oA (z9 (o2 (gv 0) (o2 (gv 3) (gc (.int 0)) ixD) ixD) v7) m5))
 (v8 (n6 (gN 5) (oA (z9 (o2 (gv 0) (o2 (gv 3) (gc (.int 1)) ixD) ixD) v7) m5))
 (v8 (T8 (V9 (z9 (oA (z9 (gv 4) v7) X4) v7)) (gN 6) LP)
 p7)))
section
variable{c:Nat}
theorem Yx0(hp:Web ps)(h1:p0.1<ps.length)(h2:p0.2<ps.length)(hc:c<=4000)(J:Jl ps ps p0 c L)(no:∀a,a.length<=c->¬PWy ps ps p0 a)(hy:L[i]?=some y)(F:Lvl)(s4 s5 s6 s7 s8:Sl)(S:Sl' ps ps p0 c L i 0 F) :
  (∃F' t4 t5 t6 t7 t8,LQ (lS2 ps L F (.sh (pN y.1)) s4 s5 s6 s7 s8)=some (.nx (lS2 ps L F' (.sh (pN y.1)) t4 t5 t6 t7 t8))/\Sl' ps ps p0 c L (i+1) 0 F') ∨
  ∃w F',Lst ps ps p0 w/\LQ (lS2 ps L F (.sh (pN y.1)) s4 s5 s6 s7 s8)=some (.rt (.tup [wD w,ld F'])):=by
 have M:=B0 hy;obtain⟨y1,y2,y3,y4⟩:=J.ld y M;obtain⟨a1,a2⟩:=W9 hp y3;obtain⟨b1,b2⟩:=W9 hp y4;have hv:=Ta.tv0 (J.hd y M);have few:(pa ps y.1.1).vals.length<=20000000:=C5 (show (pa ps y.1.1).vals.length<=sizeLine from a2.f) (by decide);have hr:∀(s6 s7 s8:Sl),V9 (z9 (oA (z9 (gv 4) v7) X4) v7) (lS2 ps L F (.sh (pN y.1)) (.sh (.lst (pa ps y.1.1).vals)) (.sh (.lst (pa ps y.1.2).vals)) s6 s7 s8)=some ((List.range' 0 (pa ps y.1.1).vals.length).map nI):=λs6 s7 s8=>by
  rw[← i20];exact M5 (cons_of (n80 rfl) rfl) (by omega) (by omega)
 have st:∀{r:Option Res},v8 (T8 (V9 (z9 (oA (z9 (gv 4) v7) X4) v7)) (gN 6) LP) p7 (lS2 ps L F (.sh (pN y.1)) (.sh (.lst (pa ps y.1.1).vals)) (.sh (.lst (pa ps y.1.2).vals)) s6 s7 s8)=r->LQ (lS2 ps L F (.sh (pN y.1)) s4 s5 s6 s7 s8)=r:=λ{r} h=>by
  refine v9 (j4 (d:=.lst (pa ps y.1.1).vals) ?_) (v9 (j4 (d:=.lst (pa ps y.1.2).vals) ?_) h)
  ·rw[o9 (ds:=[(pa ps y.1.1).d]) (cons_of ((o5 (x:=wd ps) (y:=.int (y.1.1:Int)) rfl rfl).trans a1) rfl)]
   exact k60 _ a2.f
  ·rw[o9 (ds:=[(pa ps y.1.2).d]) (cons_of ((o5 (x:=wd ps) (y:=.int (y.1.2:Int)) rfl rfl).trans b1) rfl)]
   exact k60 _ b2.f
 rcases ad0 hp h1 h2 hc J no hy (pa ps y.1.1).vals.length 0 F s6 s7 s8 (by omega) S with⟨F',t6,t7,t8,e,S'⟩|⟨w,F',hw,e⟩
 ·refine .inl ⟨F',_,_,t6,t7,t8,st (v9 (T6 (hr s6 s7 s8) e) rfl),S'.next J hy ?_⟩
  unfold zp;rw[List.length_zip];omega
 ·exact .inr ⟨w,F',hw,st (o8 (T6 (hr s6 s7 s8) e))⟩
theorem ay0(hp:Web ps)(h1:p0.1<ps.length)(h2:p0.2<ps.length)(hc:c<=4000)(J:Jl ps ps p0 c L)(no:∀a,a.length<=c->¬PWy ps ps p0 a):∀(M:Lvl) (i:Nat) (F:Lvl) (s3 s4 s5 s6 s7 s8:Sl),L.drop i=M->i+M.length=L.length->Sl' ps ps p0 c L i 0 F ->
  (∃F' t3 t4 t5 t6 t7 t8,W2 (gN 3) LQ (M.map λz=>pN z.1) (lS2 ps L F s3 s4 s5 s6 s7 s8)=some (.nx (lS2 ps L F' t3 t4 t5 t6 t7 t8))/\Sl' ps ps p0 c L L.length 0 F') ∨
  ∃w F',Lst ps ps p0 w/\W2 (gN 3) LQ (M.map λz=>pN z.1) (lS2 ps L F s3 s4 s5 s6 s7 s8)=some (.rt (.tup [wD w,ld F'])):=by
 intro M
 induction M with
 | nil =>
  intro i F s3 s4 s5 s6 s7 s8 _ hl S;rw[List.length_nil,Nat.add_zero] at hl;subst hl;exact .inl ⟨F,s3,s4,s5,s6,s7,s8,rfl,S⟩
 | cons y M ih =>
  intro i F s3 s4 s5 s6 s7 s8 hd hl S;have hy:L[i]?=some y:=by
   have:=D1 (λl=>l[0]?) hd
   simpa using this
  rw[List.map_cons];rcases Yx0 hp h1 h2 hc J no hy F s4 s5 s6 s7 s8 S with⟨F',t4,t5,t6,t7,t8,e,S'⟩|⟨w,F',hw,e⟩
  ·rw[vb0 (f:=gN 3) (G:=LQ) (δ1:=lS2 ps L F (.sh (pN y.1)) s4 s5 s6 s7 s8) rfl e]
   refine ih (i+1) F' _ _ _ _ _ _ ?_ (by rw[List.length_cons] at hl;omega) S';rw[← List.drop_drop,hd];rfl
  ·exact .inr ⟨w,F',hw,pk0 (f:=gN 3) rfl e⟩
theorem gc0(hp:Web ps)(h1:p0.1<ps.length)(h2:p0.2<ps.length)(hc:c<=4000)(J:Jl ps ps p0 c L)(no:∀a,a.length<=c->¬PWy ps ps p0 a) :
  (∃F,Jl ps ps p0 (c+1) F/\(∀a,a.length<=c+1->¬PWy ps ps p0 a)/\U7 [wd ps,ld L]=some (.tup [.non,ld F])) ∨
  ∃w F,Lst ps ps p0 w/\U7 [wd ps,ld L]=some (.tup [wD w,ld F]):=by
 have zs:(9:Nat)<=sizeLine:=by decide
 have it:kq0 (gv 1) (lS2 ps L [] .un .un .un .un .un .un)=some (L.map λz=>pN z.1):=by
  show some (((L.map (·.1)).map k2).map ktD)=_;rw[List.map_map,List.map_map];rfl
 rcases ay0 hp h1 h2 hc J no L 0 [] .un .un .un .un .un .un rfl (by omega) sl0 with⟨F,t3,t4,t5,t6,t7,t8,e,S⟩|⟨w,F,hw,e⟩
 ·obtain⟨J',M⟩:=S.fin hp hp h1 h2 J
  refine .inl ⟨F,J',λa ha=>?_,j5 rfl (v9 (δ':=lS2 ps L [] .un .un .un .un .un .un) rfl (v9 (T6 it e) (o8 (Z1 ?_))))⟩
  ·rcases N0 a.length (c+1) with z|z
   ·exact no a (by omega)
   ·exact M a (by omega)
  ·exact X6 (cons_of rfl (cons_of rfl rfl)) (by show 2<=sizeLine;omega)
 ·exact .inr ⟨w,F,hw,j5 rfl (v9 (δ':=lS2 ps L [] .un .un .un .un .un .un) rfl (o8 (T6 it e)))⟩
theorem cz0(hh:Pn.hd (pa ps p0.1)≠Pn.hd (pa ps p0.2)):Lst ps ps p0 []:=by
 refine⟨⟨lnk p0.1,lnk p0.2,rfl,rfl,?_⟩,λw' h=>?_⟩
 ·unfold prt
  rw[yr0];exact hh
 ·rcases h with h|⟨h,z⟩
  ·simp at h
  ·have:w'=[]:=H0.mp h
   subst this;rw[uw0] at z;cases z
def LC:GS:=(v8 (M4 (O4 (oA (z9 (gv 0) (z9 (gv 4) v7)) U7)) (J9 6 4))
 (v8 (ifD (ob (o2 (gv 6) (gc .non) v50))
 (v8 (j7 (gv 6))
 p7)
 p7)
 p7))
theorem em0(a b d s5:Sl){s6:Sl}{x y:D}(e:U7 [wd ps,ld L]=some (.tup [x,y])):M4 (O4 (oA (z9 (gv 0) (z9 (gv 4) v7)) U7)) (J9 6 4) [.sh (wd ps),a,b,d,.sh (ld L),s5,s6]=some (.nx [.sh (wd ps),a,b,d,.sh y,s5,.sh x]):=by
 unfold M4;rw[show O4 (oA (z9 (gv 0) (z9 (gv 4) v7)) U7) [.sh (wd ps),a,b,d,.sh (ld L),s5,s6]=some (.tup [x,y],[.sh (wd ps),a,b,d,.sh (ld L),s5,s6]) from by
  unfold O4;rw[o9 (ds:=[wd ps,ld L]) rfl,e];rfl,Option.bind_some]
 rfl
theorem d30(hp:Web ps)(h1:p0.1<ps.length)(h2:p0.2<ps.length){w:List Nat}(hw:Lst ps ps p0 w)(hl:w.length<=4000)(a b m:Sl):∀(d c:Nat) (L:Lvl) (s5 s6:Sl),c+d=w.length->Jl ps ps p0 c L->(∀a,a.length<=c->¬PWy ps ps p0 a) ->
  W2 (gN 5) LC ((List.range' c d).map nI) [.sh (wd ps),a,b,m,.sh (ld L),s5,s6]=some (.rt (wD w)):=by
 intro d
 induction d with
 | zero=>intro c L s5 s6 hc J no;exact absurd hw.1 (no w (by omega))
 | succ d ih =>
  intro c L s5 s6 hc J no;rw[List.range'_succ,List.map_cons];rcases gc0 hp h1 h2 (by omega) J no with⟨F,J',O,e⟩|⟨w',F,M,e⟩
  ·rw[vb0 (f:=gN 5) (G:=LC) (δ1:=[.sh (wd ps),a,b,m,.sh (ld L),.sh (nI c),s6]) (δ2:=[.sh (wd ps),a,b,m,.sh (ld F),.sh (nI c),.sh .non]) rfl (v9 (em0 a b m _ e) rfl)]
   exact ih (c+1) F _ _ (by omega) J' O
  ·rw[← q00 M hw]
   exact pk0 (f:=gN 5) (δ1:=[.sh (wd ps),a,b,m,.sh (ld L),.sh (nI c),s6]) rfl (v9 (em0 a b m _ e) rfl)
end
theorem fs0(hp:Web ps){p q:Nat}(h1:p<ps.length)(h2:q<ps.length){w:List Nat}(hw:Lst ps ps (p,q) w)(hl:w.length<=4000):ze0 [wd ps,nI p,nI q,nI w.length]=some (wD w):=by
 have zs:(9:Nat)<=sizeLine:=by decide
 obtain⟨t1,t2⟩:=zj0 (po0 hp (x:=(p,q)) h1 h2 (g1:=o2 (gv 0) (gv 1) ixD) (g2:=o2 (gv 0) (gv 2) ixD) (δ:=[.sh (wd ps),.sh (nI p),.sh (nI q),.sh (nI w.length),.un,.un,.un]) rfl rfl)
 by_cases hh:Pn.hd (pa ps p)=Pn.hd (pa ps q)
 ·obtain⟨J,no⟩:=jl0 (p0:=(p,q)) h1 h2 hh
  refine j5 rfl (v9 (δ':=[.sh (wd ps),.sh (nI p),.sh (nI q),.sh (nI w.length),.un,.un,.un]) ?_ (v9 (j4 (d:=ld [((p,q),[])]) ?_) (o8 (T6 (items:=(List.range' 0 w.length).map nI) ?_ (d30 hp h1 h2 hw hl _ _ _ w.length 0 _ .un .un (by omega) J no)))))
  ·change ifD _ _ _ [.sh (wd ps),.sh (nI p),.sh (nI q),.sh (nI w.length),.un,.un,.un]=_
   rw[Z0 (t2 λz=>z hh)];rfl
  ·unfold y70
   rw[X6 (ds:=[nI p,nI q]) (cons_of rfl (cons_of rfl rfl)) (by show 2<=sizeLine;omega),z60 (ds:=[]) rfl (by show 0<=sizeLine;omega)];rfl
  ·rw[← i20]
   exact M5 rfl (by omega) (by omega)
 ·have ew:=q00 (cz0 (p0:=(p,q)) hh) hw
  refine j5 rfl (o8 ?_)
  change ifD _ _ _ [.sh (wd ps),.sh (nI p),.sh (nI q),.sh (nI w.length),.un,.un,.un]=_
  rw[U8 (t1 hh),← ew];exact o8 (Z1 (z60 rfl (by show 0<=sizeLine;omega)))
theorem Z90{u v:D}(hu:Lv ps.length u)(hv:Lv ps.length v)(h:prt ps ps (u,v)):prt ps ps (v,u):=by
 unfold prt at *;rcases z70 hu hv with⟨i,j,hi,hj,rfl,rfl,e⟩|⟨e,e2⟩
 ·rw[e] at h
  exact λz=>h z.symm
 ·rw[e] at h
  rcases z70 hv hu with⟨i,j,hi,hj,rfl,rfl,e'⟩|⟨e',_⟩
  ·cases e2
  ·rw[e']
   exact λz=>h z.symm
theorem ja0(hp:Web ps){p q:Nat}(h1:p<ps.length)(h2:q<ps.length){w:List Nat}(h:PWy ps ps (p,q) w):PWy ps ps (q,p) w:=by
 obtain⟨u,v,a,b,c⟩:=h;exact⟨v,u,b,a,Z90 (wr0 hp w _ _ (wv0 h1) a) (wr0 hp w _ _ (wv0 h2) b) c⟩
theorem pl0(hp:Web ps){p q:Nat}(h1:p<ps.length)(h2:q<ps.length){w:List Nat}(h:Lst ps ps (p,q) w):Lst ps ps (q,p) w:=⟨ja0 hp h1 h2 h.1,λw' hl z=>h.2 w' hl (ja0 hp h2 h1 z)⟩
theorem rs0(hp:Web ps){p q:Nat}(h1:p<ps.length)(h2:q<ps.length) :
  (∃w,Lst ps ps (p,q) w/\w.length<=4000/\Y0 [wd ps,nI p,nI q]=some (wD w))∨(Non ps ps (p,q)/\Y0 [wd ps,nI p,nI q]=some .non):=by
 have zs:(9000:Nat)<=sizeLine:=by decide
 have ca:∀(d:D) (δ:Ds),W6 [wd ps,wd ps,pN (p,q)]=some d->oA (z9 (gv 0) (z9 (gv 0) (z9 (Z6 (z9 (gv 1) (z9 (gv 2) v7))) v7))) W6 (.sh (wd ps)::.sh (nI p)::.sh (nI q)::δ)=some d:=λd δ e=>by
  rw[o9 (ds:=[wd ps,wd ps,pN (p,q)]) (cons_of rfl (cons_of rfl (cons_of (X6 (cons_of rfl (cons_of rfl rfl)) (by show 2<=sizeLine;omega)) rfl)))];exact e
 rcases fd0 hp hp (p0:=(p,q)) h1 h2 with⟨s,w,hw,hl,e⟩|⟨s,hn,e⟩
 ·exact .inl ⟨w,hw,hl,j5 rfl (o8 (Z1 ((o5 (x:=.tup [cm s,.lst (w.map nI)]) (y:=.int 1) (ca _ [] e) rfl).trans rfl)))⟩
 ·exact .inr ⟨hn,j5 rfl (o8 (Z1 ((o5 (x:=.tup [cm s,.non]) (y:=.int 1) (ca _ [] e) rfl).trans rfl)))⟩
theorem l00(hp:Web ps):tree (wd ps)=true:=Fa.G4 λd hd=>by
 obtain⟨p,hm,rfl⟩:=A9.mp hd;exact Fa.lb0 p λv hv=>Fa.ur0 ((hp.pw p hm).lv v hv)
theorem xw0(i:Int):tree (.int i)=true:=by unfold tree;rfl
theorem v90(w:List Nat):flats (w.map nI)=true:=by
 unfold flats;rw[List.all_eq_true];intro d hd;obtain⟨k,_,rfl⟩:=A9.mp hd;rfl
theorem mw0(w:List Nat):lean (wD w) 50=true:=by
 show leans (w.map nI) 49=true;refine q30 λx hx=>?_
 obtain⟨p,_,rfl⟩:=A9.mp hx;rfl
def aS(ps:List Pt)(p q:Nat)(f s4 s5 s6 s7:Sl):Ds:=[.sh (wd ps),.sh (nI p),.sh (nI q),f,s4,s5,s6,s7]
theorem l70(hp:Web ps)(p q:Nat)(f:Sl){s4:Sl}(h:G6 s4=true):restOk 3 (aS ps p q f s4 .un .un .un)=true:=by
 show (([.sh (wd ps),.sh (nI p),.sh (nI q),.un,s4,.un,.un,.un]:Ds).all G6)=true;show (G6 (.sh (wd ps))&&(G6 (.sh (nI p))&&(G6 (.sh (nI q))&&(G6 .un&&(G6 s4&&(G6 .un&&(G6 .un&&(G6 .un&&true))))))))=true;rw[show G6 (.sh (wd ps))=true from l00 hp,show G6 (.sh (nI p))=true from xw0 (p:Int),show G6 (.sh (nI q))=true from xw0 (q:Int),h];rfl
def AF:GS:=(v8 (ifD (we0 (J0 (ob (V7 isInt (gv 4)))) (ob (V7 isBool (gv 4))))
 (v8 (j7 (gc (.bl false)))
 p7)
 p7)
 p7)
theorem d90(hp:Web ps)(p q:Nat)(w:List Nat):∃t4,sj0 3 (T8 (yy0 (gv 3)) (gN 4) AF) (aS ps p q (.ow (wD w)) .un .un .un .un)=some (.nx (aS ps p q (.ow (wD w)) t4 .un .un .un)):=by
 obtain⟨δ',lo,s4,hs,rfl⟩:=O9 (f:=gN 4) (G:=AF) (λ_ δ=>∃s4:Sl,G6 s4=true/\δ=aS ps p q (.sh (wD w)) s4 .un .un .un) (w.map nI) 0 (aS ps p q (.sh (wD w)) .un .un .un .un) (by
  rintro j d δ hj ⟨s4,_,rfl⟩;obtain⟨k,_,rfl⟩:=A9.mp (B0 hj);exact⟨_,aS ps p q (.sh (wD w)) (.sh (nI k)) .un .un .un,rfl,rfl,.sh (nI k),(show G6 (.sh (nI k))=true from xw0 (k:Int)),rfl⟩) ⟨.un,rfl,rfl⟩
 refine⟨s4,?_⟩;unfold sj0;rw[show (aS ps p q (.ow (wD w)) .un .un .un .un)[3]?=some (.ow (.lst (w.map nI))) from rfl];dsimp only;rw[if_pos ⟨v90 w,l70 hp p q _ rfl⟩];rw[show T8 (yy0 (gv 3)) (gN 4) AF ((aS ps p q (.ow (wD w)) .un .un .un .un).set 3 (.sh (.lst (w.map nI))))=some (.nx (aS ps p q (.sh (wD w)) s4 .un .un .un)) from T6 (items:=w.map nI) rfl lo,Option.bind_some];unfold lt0;dsimp only;rw[show (aS ps p q (.sh (wD w)) s4 .un .un .un)[3]?=some (.sh (.lst (w.map nI))) from rfl];dsimp only;rw[if_pos ⟨v90 w,l70 hp p q _ hs⟩];rfl
theorem fa0{u v:D}(hu:Lv n u)(hv:Lv n v):k80 (.str "nowhere") (.tup [u,v])=some (.bl false):=by
 rcases hu with rfl|⟨i,rfl⟩|⟨i,rfl,_⟩<;>rcases hv with rfl|⟨j,rfl⟩|⟨j,rfl,_⟩<;>rfl
theorem gx0(hp:Web ps){p q:Nat}(h1:p<ps.length)(h2:q<ps.length):N5 [wd ps,nI p,nI q]=some (.bl true):=by
 have zs:(9000:Nat)<=sizeLine:=by decide
 rcases rs0 hp h1 h2 with⟨w,hw,hl,e⟩|⟨hn,e⟩
 ·obtain⟨t4,lo⟩:=d90 hp p q w
  obtain⟨u,v,a1,a2,a3⟩:=hw.1;have lu:=wr0 hp w _ _ (wv0 h1) a1;have lv:=wr0 hp w _ _ (wv0 h2) a2;have e':Y0 [wd ps,nI q,nI p]=some (wD w):=by
   rcases rs0 hp h2 h1 with⟨w',J,_,e'⟩|⟨hn,_⟩
   ·rw[q00 (pl0 hp h1 h2 hw) J];exact e'
   ·exact absurd (pl0 hp h1 h2 hw).1 (hn.2 w)
  have ft:fT Y0 [wd ps,nI p,nI q]=some (wD w):=by
   unfold fT;rw[if_pos (Fa.o60 λd hd=>by
    simp only[List.mem_cons,List.not_mem_nil,or_false] at hd;rcases hd with rfl|rfl|rfl
    ·exact l00 hp
    ·exact xw0 _
    ·exact xw0 _),e]
   show (if flats (w.map nI)=true then some (D.lst (w.map nI)) else none)=_;rw[if_pos (v90 w)];rfl
  obtain⟨q1,_⟩:=zj0 (g:=oA (z9 (gv 0) (z9 (gv 5) (z9 (gv 6) v7))) W0) (δ:=aS ps p q (.ow (wD w)) t4 (.sh u) (.sh v) .un) (p:=prt ps ps (u,v)) (by
   rw[o9 (ds:=[wd ps,u,v]) rfl];exact qk0 hp lu lv)
  refine j5 rfl (v9 (δ':=aS ps p q (.ow (wD w)) .un .un .un .un) ?_ (v9 (δ':=aS ps p q (.ow (wD w)) .un .un .un .un) rfl (v9 (δ':=aS ps p q (.ow (wD w)) .un .un .un .un) rfl (v9 lo (v9 (j4 (d:=u) ?_) (v9 (j4 (d:=v) ?_) (v9 (δ':=aS ps p q (.ow (wD w)) t4 (.sh u) (.sh v) .un) ?_ (v9 (j4 (d:=wD w) ?_) (v9 (δ':=aS ps p q (.ow (wD w)) t4 (.sh u) (.sh v) (.sh (wD w))) ?_ (v9 (δ':=aS ps p q (.ow (.lst (w.map nI++[.int 0]))) t4 (.sh u) (.sh v) (.sh (wD w))) ?_ (o8 (Z1 ?_))))))))))))
  ·unfold orS
   rw[show T7 3 (oA (z9 (gv 0) (z9 (gv 1) (z9 (gv 2) v7))) (fT Y0)) (W5 xl0 [wd ps,nI p,nI q])=some (.nx (aS ps p q (.ow (wD w)) .un .un .un .un)) from by
    unfold T7;rw[o9 (ds:=[wd ps,nI p,nI q]) rfl,ft];rfl]
  ·refine uv0 ?_ (Fa.ur0 lu)
   show oA (z9 (gv 0) (z9 (gv 3) (z9 (gv 1) v7))) U3 [.sh (wd ps),.sh (nI p),.sh (nI q),.sh (wD w),zd0 t4,.un,.un,.un]=_;rw[o9 (ds:=[wd ps,wD w,nI p]) rfl];exact xp0 hp h1 a1
  ·refine uv0 ?_ (Fa.ur0 lv)
   show oA (z9 (gv 0) (z9 (gv 3) (z9 (gv 2) v7))) U3 [.sh (wd ps),.sh (nI p),.sh (nI q),.sh (wD w),zd0 t4,.sh u,.un,.un]=_;rw[o9 (ds:=[wd ps,wD w,nI q]) rfl];exact xp0 hp h2 a2
  ·change ifD _ _ _ (aS ps p q (.ow (wD w)) t4 (.sh u) (.sh v) .un)=_
   rw[Z0]
   ·rfl
   ·refine Ta.eb0 (Bw.yj0 ?_) ?_
    ·rw[o5 (x:=.str "nowhere") (y:=.tup [u,v]) rfl (X6 (cons_of rfl (cons_of rfl rfl)) (by show 2<=sizeLine;omega))]
     exact fa0 lu lv
    ·unfold J0
     rw[q1 a3];rfl
  ·refine ci0 (ds:=w.map nI) ?_ (v90 w)
   exact(o9 (ds:=[wD w]) rfl).trans rfl
  ·change ifD _ _ _ (aS ps p q (.ow (wD w)) t4 (.sh u) (.sh v) (.sh (wD w)))=_
   rw[Z0]
   ·rfl
   ·refine Bw.yj0 ?_
    rw[o5 (x:=wD w) (y:=wD w) (by
     rw[o9 (ds:=[wd ps,nI p,nI q,nI w.length]) (cons_of rfl (cons_of rfl (cons_of rfl (cons_of (by
      rw[n80 (ds:=w.map nI) rfl,List.length_map];rfl) rfl))))]
     exact fs0 hp h1 h2 hw hl) rfl]
    exact Pn.tf0 (mw0 w)
  ·unfold W3 U5
   show Option.map (λr:D×Ds=>Res.nx r.2) (if (w.map nI).length<sizeLine then some (D.non,aS ps p q (.ow (.lst (w.map nI++[.int 0]))) t4 (.sh u) (.sh v) (.sh (wD w))) else none)=_;rw[if_pos (by rw[List.length_map];omega)];rfl
  ·have q2:yv0 (wD w) (wD w)=some (.bl true):=Pn.Xw0 (mw0 w)
   show v00 _ _ (aS ps p q (.ow (.lst (w.map nI++[.int 0]))) t4 (.sh u) (.sh v) (.sh (wD w)))=_;unfold v00;rw[Bw.yj0 (b:=true),Option.bind_some,if_pos rfl]
   ·rw[o5 (x:=wD w) (y:=wD w) (by rw[o9 (ds:=[wd ps,nI p,nI q]) rfl];exact e) rfl]
    exact q2
   ·rw[o5 (x:=wD w) (y:=wD w) (by rw[o9 (ds:=[wd ps,nI q,nI p]) rfl];exact e') rfl]
    exact q2
 ·have e':Y0 [wd ps,nI q,nI p]=some .non:=by
   rcases rs0 hp h2 h1 with⟨w',J,_,_⟩|⟨_,e'⟩
   ·exact absurd (pl0 hp h2 h1 J).1 (hn.2 w')
   ·exact e'
  obtain⟨l,es⟩:∃l,K6 [wd ps,wd ps,pN (p,q)]=some (.lst l):=by
   rcases Y50 hp (p:=(p,q)) ⟨h1,h2⟩ with⟨⟨x,hx1,hx2⟩,_⟩|⟨A,_,es⟩
   ·exact absurd (hn.1 x hx1) hx2
   ·exact⟨_,es⟩
  refine j5 rfl (v9 (δ':=aS ps p q (.sh .non) .un .un .un .un) ?_ (o8 ?_))
  ·unfold orS
   rw[show T7 3 (oA (z9 (gv 0) (z9 (gv 1) (z9 (gv 2) v7))) (fT Y0)) (W5 xl0 [wd ps,nI p,nI q])=none from by
    unfold T7;rw[o9 (ds:=[wd ps,nI p,nI q]) rfl];unfold fT;rw[e];split<;>rfl]
   exact j4 (d:=.non) (by rw[o9 (ds:=[wd ps,nI p,nI q]) rfl];exact e)
  ·rw[U8 (by rfl)]
   refine o8 (Z1 ?_);unfold v00;rw[Bw.yj0 (b:=true),Option.bind_some,if_pos rfl]
   ·rw[o5 (x:=.non) (y:=.non) (by rw[o9 (ds:=[wd ps,nI q,nI p]) rfl];exact e') rfl]
    rfl
   ·rw[o5 (x:=.lst l) (y:=.non) (by
     rw[o9 (ds:=[wd ps,wd ps,pN (p,q)]) (cons_of rfl (cons_of rfl (cons_of (X6 (cons_of rfl (cons_of rfl rfl)) (by show 2<=sizeLine;omega)) rfl)))];exact es) rfl]
    rfl
end Ma
namespace Ma
open DL W K22
open Ta (pa W9 zr0 gl gl1 nl pN k2 J3 zj0 wo0)
open La (nI)
open Fa (Zz0)
theorem va0(ns:List Int)(k:Int)(h0:0<=k):∃z,j9 [.lst (ns.map .int),.int k]=some (.int z):=Gw.yi0 ns k h0
theorem l40(c k:Int)(hk:0<=k/\k<=1000000):∃x,0<=x/\x<2147483647/\X5 [.int c,.int k]=some (.int x):=Gw.vw0 c k hk
theorem mf0(h:Web qs)(x:Int):∃rs,R4 [wd qs,.int x]=some (wd rs)/\Web rs/\rs.length=qs.length:=Ta.kf0 h x
theorem h50(ns:List Int)(hl:ns.length<=63){M:Nat}(hM:0<M/\M<=12):∃ps,J1 [.lst (ns.map .int),.int (M:Int)]=some (wd ps)/\Web ps/\ps.length<=M:=Fa.ib0 ns hl hM
theorem kd0(hp:Web ps)(h:ps.length*T<=60)(hT:0<T/\T<=7)(c:Int):∃qs,M6 [wd ps,.int (T:Int),.int c]=some (wd qs)/\Web qs/\qs.length=ps.length*T:=Fa.kj0 hp h hT c
def LB:GS:=(v8 (n6 (gN 5) (oA (z9 (o2 (oA (z9 (gv 0) (z9 (gc (.int 7)) v7)) j9) (o2 (gv 4) (gv 4) U6) j6) (z9 (o2 (gv 4) (gc (.int 70)) j6) v7)) X5))
 (v8 (n6 (gN 6) (o2 (gv 5) (oA (z9 (gv 3) v7) X4) d7))
 (v8 (n6 (gN 7) (o2 (o2 (gv 5) (gc (.int 60)) Y4) (oA (z9 (gv 3) v7) X4) d7))
 (v8 (ifD (ob (o2 (o2 (gv 4) (gc (.int 4)) d7) (gc (.int 0)) gtD))
 (v8 (n6 (gN 7) (o2 (o2 (o2 (gv 6) (gv 2) Y4) (gv 2) U6) (o2 (o2 (gv 5) (gc (.int 60)) Y4) (gv 2) d7) j6))
 p7)
 p7)
 (v8 (ifD (J0 (ob (oA (z9 (gv 3) (z9 (gv 6) (z9 (gv 7) v7))) N5)))
 (v8 (j7 (gc (.bl false)))
 p7)
 p7)
 p7)))))
def lS(ns:List Int)(qs:List Pt)(t:Int)(T:Nat)(s4 s5 s6 s7:Sl):Ds:=[.sh (.lst (ns.map .int)),.sh (.int t),.sh (.int (T:Int)),.sh (wd qs),s4,s5,s6,s7]
theorem Yr0(ns:List Int)(hq:Web qs)(t:Int)(hT:0<T/\T<=7)(hd:T ∣ qs.length)(j:Nat)(hj:j<8)(s5 s6 s7:Sl) :
  ∃t5 t6 t7,LB (lS ns qs t T (.sh (nI j)) s5 s6 s7)=some (.nx (lS ns qs t T (.sh (nI j)) t5 t6 t7)):=by
 have zs:(4000:Nat)<=sizeLine:=by decide
 have hl:=hq.len;obtain⟨c7,h7⟩:=va0 ns 7 (by decide);obtain⟨x,_,_,hx⟩:=l40 (c7+(j:Int)*(j:Int)) ((j:Int)+70) (by omega);have nn:∀(y:Int) (n:Nat),0<n->0<=y%(n:Int)/\y%(n:Int)<n:=λy n h=>⟨E7 _ (by omega),E8 _ (by omega)⟩
 obtain⟨p,ep,hp⟩:∃a:Nat,x%(qs.length:Int)=(a:Int)/\a<qs.length:=⟨(x%(qs.length:Int)).toNat,by have:=nn x _ hl.1;omega,by have:=nn x _ hl.1;omega⟩;obtain⟨q,eq,S⟩:∃b:Nat,x/60%(qs.length:Int)=(b:Int)/\b<qs.length:=⟨(x/60%(qs.length:Int)).toNat,by have:=nn (x/60) _ hl.1;omega,by have:=nn (x/60) _ hl.1;omega⟩;obtain⟨r,er,hr⟩:∃b:Nat,x/60%(T:Int)=(b:Int)/\b<T:=⟨(x/60%(T:Int)).toNat,by have:=nn (x/60) _ hT.1;omega,by have:=nn (x/60) _ hT.1;omega⟩;have e5:∀s5 s6 s7,oA (z9 (o2 (oA (z9 (gv 0) (z9 (gc (.int 7)) v7)) j9) (o2 (gv 4) (gv 4) U6) j6) (z9 (o2 (gv 4) (gc (.int 70)) j6) v7)) X5 (lS ns qs t T (.sh (nI j)) s5 s6 s7)=some (.int x):=λs5 s6 s7=>by
  rw[o9 (ds:=[.int (c7+(j:Int)*(j:Int)),.int ((j:Int)+70)]) (cons_of (by
   rw[o5 (x:=.int c7) (y:=.int ((j:Int)*(j:Int))) (by rw[o9 (ds:=[.lst (ns.map .int),.int 7]) rfl];exact h7) (by
    rw[o5 (x:=.int (j:Int)) (y:=.int (j:Int)) rfl rfl];exact Gw.k30 _ _ (by omega))]
   rfl) (cons_of rfl rfl))]
  exact hx
 have ln:∀s5 s6 s7,oA (z9 (gv 3) v7) X4 (lS ns qs t T (.sh (nI j)) s5 s6 s7)=some (.int (qs.length:Int)):=λs5 s6 s7=>wo0 qs _ rfl
 have M:∀s6 s7,o2 (gv 5) (gc (.int 60)) Y4 (lS ns qs t T (.sh (nI j)) (.sh (.int x)) s6 s7)=some (.int (x/60)):=λs6 s7=>by
  rw[o5 (x:=.int x) (y:=.int 60) rfl rfl];exact Gw.sa0 _ _ (by decide)
 have last:∀k:Nat,k<qs.length->v8 (ifD (J0 (ob (oA (z9 (gv 3) (z9 (gv 6) (z9 (gv 7) v7))) N5))) (v8 (j7 (gc (.bl false))) p7) p7) p7 (lS ns qs t T (.sh (nI j)) (.sh (.int x)) (.sh (nI p)) (.sh (nI k)))=some (.nx (lS ns qs t T (.sh (nI j)) (.sh (.int x)) (.sh (nI p)) (.sh (nI k)))):=λk hk=>by
  refine v9 (δ':=lS ns qs t T (.sh (nI j)) (.sh (.int x)) (.sh (nI p)) (.sh (nI k))) ?_ rfl;rw[Z0 (by
   unfold J0;rw[Bw.yj0 (b:=true) (by rw[o9 (ds:=[wd qs,nI p,nI k]) rfl];exact gx0 hq hp hk)];rfl)]
  rfl
 obtain⟨b,hb⟩:∃b,ob (o2 (o2 (gv 4) (gc (.int 4)) d7) (gc (.int 0)) gtD) (lS ns qs t T (.sh (nI j)) (.sh (.int x)) (.sh (nI p)) (.sh (nI q)))=some b:=⟨_,rfl⟩;have U:∃k:Nat,k<qs.length/\o2 (o2 (o2 (gv 6) (gv 2) Y4) (gv 2) U6) (o2 (o2 (gv 5) (gc (.int 60)) Y4) (gv 2) d7) j6 (lS ns qs t T (.sh (nI j)) (.sh (.int x)) (.sh (nI p)) (.sh (nI q)))=some (nI k):=by
  refine⟨p/T*T+r,Zz0 hd hp hr,?_⟩;have Y:p/T<=p:=Nat.div_le_self _ _;rw[o5 (x:=.int (((p/T:Nat):Int)*(T:Int))) (y:=.int (r:Int)) (by
   rw[o5 (x:=.int ((p/T:Nat):Int)) (y:=.int (T:Int)) (by
    rw[o5 (x:=.int (p:Int)) (y:=.int (T:Int)) rfl rfl,Gw.sa0 _ _ (by omega),Int.natCast_ediv]) rfl]
   exact Gw.mul_r _ _ (by omega)) (by
   rw[o5 (x:=.int (x/60)) (y:=.int (T:Int)) (M _ _) rfl,Gw.z40 _ _ (by omega),er])]
  show some (D.int (((p/T:Nat):Int)*(T:Int)+(r:Int)))=_;unfold nI;rw[Int.natCast_add,Int.natCast_mul]
 have O:n6 (gN 6) (o2 (gv 5) (oA (z9 (gv 3) v7) X4) d7) (lS ns qs t T (.sh (nI j)) (.sh (.int x)) s6 s7)=some (.nx (lS ns qs t T (.sh (nI j)) (.sh (.int x)) (.sh (nI p)) s7)):=j4 (d:=nI p) (by
  rw[o5 (x:=.int x) (y:=.int (qs.length:Int)) rfl (ln _ _ _),Gw.z40 _ _ (by omega),ep];rfl)
 have J:n6 (gN 7) (o2 (o2 (gv 5) (gc (.int 60)) Y4) (oA (z9 (gv 3) v7) X4) d7) (lS ns qs t T (.sh (nI j)) (.sh (.int x)) (.sh (nI p)) s7)=some (.nx (lS ns qs t T (.sh (nI j)) (.sh (.int x)) (.sh (nI p)) (.sh (nI q)))):=j4 (d:=nI q) (by
  rw[o5 (x:=.int (x/60)) (y:=.int (qs.length:Int)) (M _ _) (ln _ _ _),Gw.z40 _ _ (by omega),eq];rfl)
 cases b with
 | false =>
  refine⟨_,_,_,v9 (j4 (e5 _ _ _)) (v9 O (v9 J (v9 (δ':=lS ns qs t T (.sh (nI j)) (.sh (.int x)) (.sh (nI p)) (.sh (nI q))) ?_ (last q S))))⟩;rw[Z0 hb];rfl
 | true =>
  obtain⟨k,hk,ek⟩:=U;refine⟨_,_,_,v9 (j4 (e5 _ _ _)) (v9 O (v9 J (v9 (δ':=lS ns qs t T (.sh (nI j)) (.sh (.int x)) (.sh (nI p)) (.sh (nI k))) ?_ (last k hk))))⟩;rw[U8 hb];exact v9 (j4 ek) rfl
def CB:GS:=(v8 (n6 (gN 3) (oA (z9 (gv 3) (z9 (oA (z9 (o2 (oA (z9 (gv 0) (z9 (gc (.int 6)) v7)) j9) (gv 4) j6) (z9 (o2 (gv 4) (gc (.int 9)) j6) v7)) X5) v7)) R4))
 p7)
theorem Xg0(ns:List Int)(hq:Web qs)(t:Int)(T:Nat)(j:Nat)(hj:j<3):∃rs,Web rs/\rs.length=qs.length/\CB (lS ns qs t T (.sh (nI j)) .un .un .un)=some (.nx (lS ns rs t T (.sh (nI j)) .un .un .un)):=by
 obtain⟨c6,h6⟩:=va0 ns 6 (by decide);obtain⟨x,_,_,hx⟩:=l40 (c6+(j:Int)) ((j:Int)+9) (by omega);obtain⟨rs,e,wr,lr⟩:=mf0 hq x;refine⟨rs,wr,lr,v9 (j4 (d:=wd rs) ?_) rfl⟩;rw[o9 (ds:=[wd qs,.int x]) (cons_of rfl (cons_of (by
  rw[o9 (ds:=[.int (c6+(j:Int)),.int ((j:Int)+9)]) (cons_of (by
   rw[o5 (x:=.int c6) (y:=.int (j:Int)) (by rw[o9 (ds:=[.lst (ns.map .int),.int 6]) rfl];exact h6) rfl];rfl) (cons_of rfl rfl))]
  exact hx) rfl))]
 exact e
theorem f50(ns:List Int)(hl:ns.length<=63):ut0 [.lst (ns.map .int)]=some (.bl true):=by
 obtain⟨ps,J,O,l9⟩:=h50 ns hl (M:=8) (by decide);obtain⟨t,ht⟩:=va0 ns 4 (by decide);obtain⟨c5,h5⟩:=va0 ns 5 (by decide);obtain⟨T,hT,eT⟩:∃T:Nat,(0<T/\T<=7)/\o2 (Y8 (z9 (gc (.int 2)) (z9 (gc (.int 3)) (z9 (gc (.int 4)) (z9 (gc (.int 7)) v7))))) (o2 (gv 1) (gc (.int 4)) d7) ixD [.sh (.lst (ns.map .int)),.sh (.int t),.un,.un,.un,.un,.un,.un]=some (.int (T:Int)):=by
  have zs:(4:Nat)<=sizeLine:=by decide
  have h:t%4=0∨t%4=1∨t%4=2∨t%4=3:=by omega
  have e:o2 (Y8 (z9 (gc (.int 2)) (z9 (gc (.int 3)) (z9 (gc (.int 4)) (z9 (gc (.int 7)) v7))))) (o2 (gv 1) (gc (.int 4)) d7) ixD [.sh (.lst (ns.map .int)),.sh (.int t),.un,.un,.un,.un,.un,.un]=ixD (.lst [.int 2,.int 3,.int 4,.int 7]) (.int (t%4)) :=
   o5 (z60 rfl zs) (by rw[o5 (x:=.int t) (y:=.int 4) rfl rfl];exact Gw.z40 _ _ (by decide))
  rw[e];rcases h with h|h|h|h<;>rw[h]
  ·exact⟨2,by decide,rfl⟩
  ·exact⟨3,by decide,rfl⟩
  ·exact⟨4,by decide,rfl⟩
  ·exact⟨7,by decide,rfl⟩
 obtain⟨q0,U,S,l0⟩:=kd0 O (T:=T) (C5 (Nat.mul_le_mul l9 hT.2) (by decide)) hT c5;have dv:T ∣ q0.length:=by rw[l0];exact Nat.dvd_mul_left T _
 obtain⟨m,hm,em⟩:∃m:Nat,m<=3/\V9 (z9 (o2 (gc (.int 1)) (o2 (o2 (gv 1) (gc (.int 4)) Y4) (gc (.int 3)) d7) j6) v7) (lS ns q0 t T .un .un .un .un)=some (W4 0 (m:Int)):=by
  refine⟨(1+t/4%3).toNat,by omega,?_⟩;rw[Int.toNat_of_nonneg (by omega)];refine M5 (cons_of (d:=.int (1+t/4%3)) ?_ rfl) (by omega) (by omega);rw[o5 (x:=.int 1) (y:=.int (t/4%3)) rfl (by rw[o5 (x:=.int (t/4)) (y:=.int 3) (by rw[o5 (x:=.int t) (y:=.int 4) rfl rfl];exact Gw.sa0 _ _ (by decide)) rfl];exact Gw.z40 _ _ (by decide))];rfl
 obtain⟨δ1,lc,rs,s4,wr,lr,rfl⟩:=O9 (f:=gN 4) (G:=CB) (λ_ δ=>∃(rs:List Pt) (s4:Sl),Web rs/\rs.length=q0.length/\δ=lS ns rs t T s4 .un .un .un) (W4 0 (m:Int)) 0 (lS ns q0 t T .un .un .un .un) (by
  rintro j d δ hj ⟨rs,s4,wr,lr,rfl⟩;obtain⟨Z,rfl⟩:=y40 hj;obtain⟨Y,w',l',e⟩:=Xg0 ns wr t T j (by omega);exact⟨_,_,rfl,e,Y,_,w',l'.trans lr,rfl⟩) ⟨q0,.un,S,rfl,rfl⟩
 obtain⟨δ',lo,u4,s5,s6,s7,rfl⟩:=O9 (f:=gN 4) (G:=LB) (λ_ δ=>∃s4 s5 s6 s7:Sl,δ=lS ns rs t T s4 s5 s6 s7) (W4 0 8) 0 (lS ns rs t T s4 .un .un .un) (by
  rintro j d δ hj ⟨s4,s5,s6,s7,rfl⟩;obtain⟨a0,rfl⟩:=y40 hj;obtain⟨t5,t6,t7,e⟩:=Yr0 ns wr t (T:=T) hT (by rw[lr];exact dv) j (by omega) s5 s6 s7;exact⟨_,_,rfl,e,_,t5,t6,t7,rfl⟩) ⟨s4,.un,.un,.un,rfl⟩
 refine j5 rfl (v9 (j4 (d:=.int t) ?_) (v9 (j4 (d:=.int (T:Int)) eT) (v9 (j4 (d:=wd q0) ?_) (v9 (T6 em lc) (v9 (T6 (M5 (n:=8) rfl (by decide) (by decide)) lo) (o8 rfl))))))
 ·rw[o9 (ds:=[.lst (ns.map .int),.int 4]) rfl]
  exact ht
 ·rw[o9 (ds:=[wd ps,.int (T:Int),.int c5]) (cons_of (by rw[o9 (ds:=[.lst (ns.map .int),.int 8]) rfl];exact J) (cons_of rfl (cons_of (by rw[o9 (ds:=[.lst (ns.map .int),.int 5]) rfl];exact h5) rfl)))]
  exact U
end Ma
namespace Ma
open L2 DL W
def top(i:Nat):Stmt:=PySem.Challenge.pw_graphpack_k13_least_parting_ways.main.body.getD i (.Pass ⟨0,0,0,0⟩)
theorem b_bool:bootBuiltins "bool"=some (.type "bool"):=by decide +kernel
theorem b_int:bootBuiltins "int"=some (.type "int"):=by decide +kernel
theorem b_list:bootBuiltins "list"=some (.type "list"):=by decide +kernel
theorem b_sorted:bootBuiltins "sorted"=some (.builtin "sorted"):=by decide +kernel
theorem b_tuple:bootBuiltins "tuple"=some (.type "tuple"):=by decide +kernel
structure Txt(mg:Str->Option Value):Prop where
 b_bool:mg "bool"=none
 b_enumerate:mg "enumerate"=none
 b_int:mg "int"=none
 b_isinstance:mg "isinstance"=none
 b_len:mg "len"=none
 b_list:mg "list"=none
 b_range:mg "range"=none
 b_reversed:mg "reversed"=none
 b_sorted:mg "sorted"=none
 b_tuple:mg "tuple"=none
 b_zip:mg "zip"=none
section
variable{P:Program}{w:World}
theorem qv0:FnScope ["part"] ["part"] (p8 (top 1)):=⟨rfl,rfl,rfl,by decide +kernel,rfl,by decide +kernel,by decide +kernel⟩
theorem qu0(F:Fun K "pair_names" "pair_names" (top 1) fa fd)(T:Txt mg)  : FnOk P w K mg base CX0 1 fa fd ["part"] (spN K J5) :=
 okN (k:=0) (G:=vp0) F qv0 (λJ A outer s H E hr=>(v6 (j8 (PWD.pt (sk0 (b7 M9 Q6 (o4 (w6 0) p6) Z8) (um0 (b7 M9 Q6 (o4 (w6 0) p6) Z8))))
   (v6 (K8 (O6 u0))
   u9)
   u9)
   (v6 (K8 (v10 (sc:=p8 (top 1)) (N:=["part"]) (N':=["pair"]) (n:=1) (caps:=[]) ⟨rfl,by decide +kernel,by decide +kernel,by decide +kernel,by decide +kernel,rfl,by decide +kernel⟩ (by decide) (us0 (o4 (w6 0) (xm0 p6))) (λcl s H ex=>o6 0 (by decide +kernel:(["pair"]:List Str).Nodup)) (λcl s H ex=>y30) (λcl s H ex=>(o4 (w6 0) p6))))
   u9))) (λds d h=>wj0 h)
theorem dh0:FnScope ["part"] ["part"] (p8 (top 2)):=⟨rfl,rfl,rfl,by decide +kernel,rfl,by decide +kernel,by decide +kernel⟩
theorem et0(F:Fun K "head" "head" (top 2) fa fd)(T:Txt mg)(C_pair_names:FnN P w K mg base "pair_names" 1 ["part"] J5):FnOk P w K mg base CX0 2 fa fd ["part"] (spD K O2) :=
 okD (k:=1) (G:=h40) F dh0 (λJ A outer s H E hr=>(v6 (j8 (b7 M9 Q6 (o4 (w6 0) p6) Z8)
   (v6 (m7 (Y6 (v5 Z8 (v5 (o4 (w6 0) p6) u0))))
   u9)
   u9)
   (v6 (j8 (b7 M9 Q6 (o4 (w6 0) p6) Z8)
   (v6 (m7 (Y6 (v5 Z8 (v5 (S5 T.b_len (v5 (o4 (w6 0) p6) u0)) u0))))
   u9)
   u9)
   (v6 (j8 (b7 M9 Q6 (o4 (w6 0) p6) Z8)
   (v6 (m7 (Y6 (v5 Z8 (v5 (R9 U9 y90 T.b_tuple b_tuple (v5 (M8 C_pair_names hr (by decide) (v5 (w6 0) u0)) u0)) u0))))
   u9)
   u9)
   (v6 (m7 (Y6 (v5 Z8 (v5 (o4 (w6 0) p6) (v5 (R9 U9 y90 T.b_tuple b_tuple (v5 (M8 C_pair_names hr (by decide) (v5 (w6 0) u0)) u0)) u0)))))
   u9))))) (λds d h=>V1 h)
theorem h80:FnScope ["part"] ["part"] (p8 (top 3)):=⟨rfl,rfl,rfl,by decide +kernel,rfl,by decide +kernel,by decide +kernel⟩
theorem je0(F:Fun K "values" "values" (top 3) fa fd)(T:Txt mg)  : FnOk P w K mg base CX0 1 fa fd ["part"] (spN K m_values) :=
 okN (k:=0) (G:=m90) F h80 (λJ A outer s H E hr=>(v6 (j8 (b7 M9 Q6 (o4 (w6 0) p6) Z8)
   (v6 (K8 (O6 u0))
   u9)
   u9)
   (v6 (j8 (b7 M9 Q6 (o4 (w6 0) p6) Z8)
   (v6 (K8 (tl0 T.b_list b_list (o4 (w6 0) p6)))
   u9)
   u9)
   (v6 (K8 (v10 (sc:=p8 (top 3)) (N:=["part"]) (N':=["pair"]) (n:=1) (caps:=[]) ⟨rfl,by decide +kernel,by decide +kernel,by decide +kernel,by decide +kernel,rfl,by decide +kernel⟩ (by decide) (us0 (o4 (w6 0) (xm0 p6))) (λcl s H ex=>o6 0 (by decide +kernel:(["pair"]:List Str).Nodup)) (λcl s H ex=>y30) (λcl s H ex=>(o4 (w6 0) p6))))
   u9)))) (λds d h=>wj0 h)
theorem sq0:FnScope ["web", "p", "q"] ["web", "p", "q"] (p8 (top 5)):=⟨rfl,rfl,rfl,by decide +kernel,rfl,by decide +kernel,by decide +kernel⟩
theorem rd0(F:Fun K "parting_way" "parting_way" (top 5) fa fd)(T:Txt mg)(C_paired_walk:FnD P w K mg base "paired_walk" 4 ["one", "other", "start"] W6):FnOk P w K mg base CX0 5 fa fd ["web", "p", "q"] (spD K Y0) :=
 okD (k:=4) (G:=vf0) F sq0 (λJ A outer s H E hr=>(v6 (m7 (o4 (d9 C_paired_walk hr (by decide) (v5 (w6 0) (v5 (w6 0) (v5 (Y6 (v5 (w6 1) (v5 (w6 2) u0))) u0)))) p6))
   u9)) (λds d h=>V1 h)
theorem R0:FnScope ["one", "other", "start", "came", "waiting", "number", "pair", "place", "both"] ["one", "other", "start"] (p8 (top 6)):=⟨rfl,rfl,rfl,by decide +kernel,rfl,by decide +kernel,by decide +kernel⟩
theorem rb0(F:Fun K "paired_walk" "paired_walk" (top 6) fa fd)(T:Txt mg)(C_are_links:FnD P w K mg base "are_links" 1 ["both"] V5)(C_are_parting:FnD P w K mg base "are_parting" 3 ["one", "other", "both"] T3)(C_head:FnD P w K mg base "head" 2 ["part"] O2)(C_linked_pair:FnD P w K mg base "linked_pair" 1 ["both"] Z3)(C_values:FnN P w K mg base "values" 1 ["part"] m_values)(C_way_to:FnN P w K mg base "way_to" 1 ["came", "pair"] zx0):FnOk P w K mg base CX0 4 fa fd ["one", "other", "start"] (spD K W6) :=
 okD (k:=3) (G:=vj0) F R0 (λJ A outer s H E hr=>(v6 (R3 3 (vr0 (d6 (D9 _ 64) hr.units) (w6 2) K3) R0.nd)
   (v6 (j8 (b7 (yc0 hr.units) zo0 (d9 C_head hr (by decide) (v5 (o4 (w6 0) (o4 (w6 2) p6)) u0)) (d9 C_head hr (by decide) (v5 (o4 (w6 1) (o4 (w6 2) p6)) u0)))
   (v6 (K7 (Y6 (v5 (w6 3) (v5 (zb0 u0) u0))))
   u9)
   u9)
   (v6 (R3 4 (O6 (v5 (w6 2) u0)) R0.nd)
   (v6 (n8 p6 (o6 5 R0.nd))
   (v6 (vs0 100000 C4 (b7 wb0 yq0 (w6 5) (wy0 (S5 T.b_len (v5 (w6 4) u0))))
   (v6 (n8 (uo0 (o4 (w6 4) (w6 5))) (o6 6 R0.nd))
   (v6 (d70 5 R0.nd p6)
   (v6 (T4 C4 rfl (ih0 T.b_enumerate T.b_zip (v5 (M8 C_values hr (by decide) (v5 (o4 (w6 0) (o4 (w6 6) p6)) u0)) (v5 (M8 C_values hr (by decide) (v5 (o4 (w6 1) (o4 (w6 6) p6)) u0)) u0))) (v70 7 8 R0.nd (by decide))
   (v6 (j8 (S7 (d9 C_are_parting hr (by decide) (v5 (w6 0) (v5 (w6 1) (v5 (w6 8) u0)))))
   (v6 (K7 (Y6 (v5 (w6 3) (v5 (Z9 (M8 C_way_to hr (by decide) (v5 (w6 3) (v5 (w6 6) u0))) (zb0 (v5 (w6 7) u0))) u0))))
   u9)
   u9)
   (v6 (j8 (PWD.pt (sp0 (S7 (d9 C_are_links hr (by decide) (v5 (w6 8) u0))) (tp0 (wn0 (tr0 (yz0 hr) (d9 C_linked_pair hr (by decide) (v5 (w6 8) u0)) (w6 3))))))
   (v6 (yn0 (wf0 (Y6 (v5 (w6 6) (v5 (w6 7) u0)))) (tc0 3 (yz0 hr) (d9 C_linked_pair hr (by decide) (v5 (w6 8) u0))))
   (v6 (Q4 (zg0 4 (d9 C_linked_pair hr (by decide) (v5 (w6 8) u0))))
   u9))
   u9)
   u9)))
   u9))))
   (v6 (K7 (Y6 (v5 (w6 3) (v5 K3 u0))))
   u9))))))) (λds d h=>V1 h)
theorem w40:FnScope ["came", "pair", "backward", "step"] ["came", "pair"] (p8 (top 7)):=⟨rfl,rfl,rfl,by decide +kernel,rfl,by decide +kernel,by decide +kernel⟩
theorem i80(F:Fun K "way_to" "way_to" (top 7) fa fd)(T:Txt mg)  : FnOk P w K mg base CX0 1 fa fd ["came", "pair"] (spN K zx0) :=
 okN (k:=0) (G:=pp0) F w40 (λJ A outer s H E hr=>(v6 (R3 2 (O6 u0) w40.nd)
   (v6 (n8 (rj0 (yz0 hr) (w6 0) (w6 1)) (o6 3 w40.nd))
   (v6 (vs0 100000 C4 (b7 ru0 te0 (w6 3) K3)
   (v6 (Q4 (zg0 2 (o4 (w6 3) p6)))
   (v6 (n8 (rj0 (yz0 hr) (w6 0) (o4 (w6 3) p6)) (o6 3 w40.nd))
   u9)))
   (v6 (jr0 (f70 T.b_list T.b_reversed (w6 2)))
   u9))))) (λds d h=>wj0 h)
theorem oz0:FnScope ["both"] ["both"] (p8 (top 8)):=⟨rfl,rfl,rfl,by decide +kernel,rfl,by decide +kernel,by decide +kernel⟩
theorem pu0(F:Fun K "are_links" "are_links" (top 8) fa fd)(T:Txt mg)  : FnOk P w K mg base CX0 1 fa fd ["both"] (spD K V5) :=
 okD (k:=0) (G:=ta0) F oz0 (λJ A outer s H E hr=>(v6 (m7 (om0 (z00 K5 b_tuple T.b_isinstance T.b_tuple (o4 (w6 0) p6)) (nn0 (z00 K5 b_tuple T.b_isinstance T.b_tuple (o4 (w6 0) p6)))))
   u9)) (λds d h=>V1 h)
theorem re0:FnScope ["both"] ["both"] (p8 (top 9)):=⟨rfl,rfl,rfl,by decide +kernel,rfl,by decide +kernel,by decide +kernel⟩
theorem q10(F:Fun K "linked_pair" "linked_pair" (top 9) fa fd)(T:Txt mg)  : FnOk P w K mg base CX0 1 fa fd ["both"] (spD K Z3) :=
 okD (k:=0) (G:=vh0) F re0 (λJ A outer s H E hr=>(v6 (m7 (Y6 (v5 (o4 (o4 (w6 0) p6) p6) (v5 (o4 (o4 (w6 0) p6) p6) u0))))
   u9)) (λds d h=>V1 h)
theorem wx0:FnScope ["one", "other", "both", "pair"] ["one", "other", "both"] (p8 (top 10)):=⟨rfl,rfl,rfl,by decide +kernel,rfl,by decide +kernel,by decide +kernel⟩
theorem sz0(F:Fun K "are_parting" "are_parting" (top 10) fa fd)(T:Txt mg)(C_are_links:FnD P w K mg base "are_links" 1 ["both"] V5)(C_head:FnD P w K mg base "head" 2 ["part"] O2)(C_linked_pair:FnD P w K mg base "linked_pair" 1 ["both"] Z3):FnOk P w K mg base CX0 3 fa fd ["one", "other", "both"] (spD K T3) :=
 okD (k:=2) (G:=vi0) F wx0 (λJ A outer s H E hr=>(v6 (j8 (S7 (d9 C_are_links hr (by decide) (v5 (w6 2) u0)))
   (v6 (n8 (d9 C_linked_pair hr (by decide) (v5 (w6 2) u0)) (o6 3 wx0.nd))
   (v6 (m7 (yh0 (yc0 hr.units) zo0 (d9 C_head hr (by decide) (v5 (o4 (w6 0) (o4 (w6 3) p6)) u0)) (d9 C_head hr (by decide) (v5 (o4 (w6 1) (o4 (w6 3) p6)) u0))))
   u9))
   u9)
   (v6 (m7 (yh0 (yc0 hr.units) zo0 (o4 (w6 2) p6) (o4 (w6 2) p6)))
   u9))) (λds d h=>V1 h)
theorem so0:FnScope ["_law_script", "_law_k"] ["_law_script", "_law_k"] (p8 (top 12)):=⟨rfl,rfl,rfl,by decide +kernel,rfl,by decide +kernel,by decide +kernel⟩
theorem s90(F:Fun K "_law_cell_at" "_law_cell_at" (top 12) fa fd)(T:Txt mg)  : FnOk P w K mg base CX0 1 fa fd ["_law_script", "_law_k"] (spD K j9) :=
 okD (k:=0) (G:=wk0) F so0 (λJ A outer s H E hr=>(v6 (j8 (b7 wb0 yq0 (w6 1) (S5 T.b_len (v5 (w6 0) u0)))
   (v6 (m7 (o4 (w6 0) (w6 1)))
   u9)
   u9)
   (v6 (m7 p6)
   u9))) (λds d h=>V1 h)
theorem W8:FnScope ["_law_cell", "_law_turn", "_law_signs", "_law_size", "_law_places", "_law_k", "_law_word", "_law_at", "_law_found", "_law_sign"] ["_law_cell", "_law_turn"] (p8 (top 13)):=⟨rfl,rfl,rfl,by decide +kernel,rfl,by decide +kernel,by decide +kernel⟩
theorem oq0(F:Fun K "_law_pool" "_law_pool" (top 13) fa fd)(T:Txt mg)  : FnOk P w K mg base CX0 1 fa fd ["_law_cell", "_law_turn"] (spN K z20) :=
 okN (k:=0) (G:=t80) F W8 (λJ A outer s H E hr=>(v6 (n8 Z8 (o6 2 W8.nd))
   (v6 (n8 (Z9 p6 (Z7 (w6 0) p6)) (o6 3 W8.nd))
   (v6 (n8 (V2 (w6 0) p6) (o6 0 W8.nd))
   (v6 (R3 4 (O6 u0) W8.nd)
   (v6 (T4 C4 rfl (V8 T.b_range (v5 (w6 3) u0)) (o6 5 W8.nd)
   (v6 (Q4 (zg0 4 (Z7 (w6 0) p6)))
   (v6 (n8 (V2 (w6 0) p6) (o6 0 W8.nd))
   u9)))
   (v6 (n8 (wy0 (dq0 Z8 (v5 (up0 (sc:=p8 (top 13)) (N:=["_law_cell", "_law_turn", "_law_signs", "_law_size", "_law_places", "_law_k", "_law_word", "_law_at", "_law_found", "_law_sign"]) (N':=["_law_k", "_law_signs"]) (n:=1) (caps:=[2]) ⟨rfl,by decide +kernel,by decide +kernel,by decide +kernel,by decide +kernel,rfl,by decide +kernel⟩ (by decide) (xv0 (w6 4)) (λcl s H ex=>o6 0 (by decide +kernel:(["_law_k", "_law_signs"]:List Str).Nodup)) (λcl s H ex=>y30) (λcl s H ex=>(o4 (w6 1) (w6 0)))) u0))) (o6 6 W8.nd))
   (v6 (j8 (b7 M9 Q6 (Z7 (V2 (w6 1) p6) p6) p6)
   (v6 (K8 (v10 (sc:=p8 (top 13)) (N:=["_law_cell", "_law_turn", "_law_signs", "_law_size", "_law_places", "_law_k", "_law_word", "_law_at", "_law_found", "_law_sign"]) (N':=["_law_k", "_law_word"]) (n:=1) (caps:=[6]) ⟨rfl,by decide +kernel,by decide +kernel,by decide +kernel,by decide +kernel,rfl,by decide +kernel⟩ (by decide) (lx0 T.b_range (v5 p6 (v5 p6 u0))) (λcl s H ex=>o6 0 (by decide +kernel:(["_law_k", "_law_word"]:List Str).Nodup)) (λcl s H ex=>y30) (λcl s H ex=>(J8 (d40 p6 (w6 1)) zy0 (G3 (w6 0))))))
   u9)
   u9)
   (v6 (n8 (Z7 (w6 1) (w6 3)) (o6 7 W8.nd))
   (v6 (R3 8 (O6 u0) W8.nd)
   (v6 (T4 C4 rfl (V8 T.b_range (v5 p6 u0)) (o6 5 W8.nd)
   (v6 (n8 (o4 (w6 2) (Z7 (Z9 (wy0 (o4 (w6 4) (w6 7))) (O8 p6 (w6 5))) p6)) (o6 9 W8.nd))
   (v6 (Q4 (zg0 8 (Z9 (Z9 (J8 (w6 6) zy0 (G3 (w6 7))) (w6 9)) (J8 (w6 6) (G3 (Z9 (w6 7) p6)) zy0))))
   u9)))
   (v6 (m20 8)
   u9)))))))))))) (λds d h=>wj0 h)
theorem mm0:FnScope ["_law_cell", "_law_k"] ["_law_cell", "_law_k"] (p8 (top 14)):=⟨rfl,rfl,rfl,by decide +kernel,rfl,by decide +kernel,by decide +kernel⟩
theorem mc0(F:Fun K "_law_mix" "_law_mix" (top 14) fa fd)(T:Txt mg)  : FnOk P w K mg base CX0 1 fa fd ["_law_cell", "_law_k"] (spD K X5) :=
 okD (k:=0) (G:=s40) F mm0 (λJ A outer s H E hr=>(v6 (m7 (Z7 (O8 (Z9 (Z7 (w6 0) p6) p6) (Z9 p6 (O8 p6 (w6 1)))) p6))
   u9)) (λds d h=>V1 h)
theorem vg0:FnScope ["_law_number", "_law_many", "_law_kind"] ["_law_number", "_law_many"] (p8 (top 15)):=⟨rfl,rfl,rfl,by decide +kernel,rfl,by decide +kernel,by decide +kernel⟩
theorem qw0(F:Fun K "_law_value" "_law_value" (top 15) fa fd)(T:Txt mg)  : FnOk P w K mg base CX0 1 fa fd ["_law_number", "_law_many"] (spD K T9) :=
 okD (k:=0) (G:=u00) F vg0 (λJ A outer s H E hr=>(v6 (n8 (Z7 (w6 0) p6) (o6 2 vg0.nd))
   (v6 (j8 (b7 wb0 yq0 (w6 2) p6)
   (v6 (m7 (Y6 (v5 Z8 (v5 (Z7 (V2 (w6 0) p6) (w6 1)) u0))))
   u9)
   u9)
   (v6 (j8 (b7 M9 Q6 (w6 2) p6)
   (v6 (m7 K3)
   u9)
   u9)
   (v6 (j8 (b7 wb0 yq0 (w6 2) p6)
   (v6 (m7 (j00 (Z7 (V2 (w6 0) p6) p6) p6))
   u9)
   u9)
   (v6 (m7 (O8 (Z7 (i90 (V2 (w6 0) p6) p6) (i90 p6 p6)) (j00 p6 (O8 p6 (Z7 (V2 (w6 0) p6) p6)))))
   u9)))))) (λds d h=>V1 h)
theorem zp0:FnScope ["_law_number", "_law_count", "_law_many", "_law_found", "_law_k"] ["_law_number", "_law_count", "_law_many"] (p8 (top 16)):=⟨rfl,rfl,rfl,by decide +kernel,rfl,by decide +kernel,by decide +kernel⟩
theorem rk0(F:Fun K "_law_values" "_law_values" (top 16) fa fd)(T:Txt mg)(C__law_value:FnD P w K mg base "_law_value" 1 ["_law_number", "_law_many"] T9):FnOk P w K mg base CX0 2 fa fd ["_law_number", "_law_count", "_law_many"] (spN K M7) :=
 okN (k:=1) (G:=ve0) F zp0 (λJ A outer s H E hr=>(v6 (R3 3 (O6 u0) zp0.nd)
   (v6 (T4 C4 rfl (V8 T.b_range (v5 (w6 1) u0)) (o6 4 zp0.nd)
   (v6 (n8 (Z7 (O8 (w6 0) p6) p6) (o6 0 zp0.nd))
   (v6 (Q4 (zg0 3 (d9 C__law_value hr (by decide) (v5 (w6 0) (v5 (w6 2) u0)))))
   u9)))
   (v6 (m20 3)
   u9)))) (λds d h=>wj0 h)
theorem ye0:FnScope ["_law_number", "_law_some", "_law_pool_here", "_law_kind", "_law_start", "_law_pairs"] ["_law_number", "_law_some", "_law_pool_here"] (p8 (top 17)):=⟨rfl,rfl,rfl,by decide +kernel,rfl,by decide +kernel,by decide +kernel⟩
theorem nl0(F:Fun K "_law_part" "_law_part" (top 17) fa fd)(T:Txt mg)  : FnOk P w K mg base CX0 1 fa fd ["_law_number", "_law_some", "_law_pool_here"] (spD K z10) :=
 okD (k:=0) (G:=t50) F ye0 (λJ A outer s H E hr=>(v6 (n8 (Z7 (w6 0) p6) (o6 3 ye0.nd))
   (v6 (j8 (b7 M9 Q6 (w6 3) p6)
   (v6 (m7 (Y6 (v5 Z8 (v5 (o4 (zb0 (v5 Z8 (v5 Z8 (v5 Z8 (v5 (Z9 (o4 (w6 2) p6) Z8) u0))))) (Z7 (V2 (w6 0) p6) p6)) u0))))
   u9)
   u9)
   (v6 (j8 (b7 wb0 yq0 (w6 3) p6)
   (v6 (m7 (Y6 (v5 Z8 (v5 (R9 U9 y90 T.b_tuple b_tuple (v5 (w6 1) u0)) u0))))
   u9)
   u9)
   (v6 (n8 (O8 (Z7 (V2 (w6 0) p6) p6) p6) (o6 4 ye0.nd))
   (v6 (n8 (R9 U9 y90 T.b_tuple b_tuple (v5 (up0 (sc:=p8 (top 17)) (N:=["_law_number", "_law_some", "_law_pool_here", "_law_kind", "_law_start", "_law_pairs"]) (N':=["_law_k", "_law_some", "_law_pool_here", "_law_start"]) (n:=1) (caps:=[1,2,4]) ⟨rfl,by decide +kernel,by decide +kernel,by decide +kernel,by decide +kernel,rfl,by decide +kernel⟩ (by decide) (V8 T.b_range (v5 (S5 T.b_len (v5 (w6 1) u0)) u0)) (λcl s H ex=>o6 0 (by decide +kernel:(["_law_k", "_law_some", "_law_pool_here", "_law_start"]:List Str).Nodup)) (λcl s H ex=>y30) (λcl s H ex=>(Y6 (v5 (o4 (w6 2) (Z7 (Z9 (w6 3) (w6 0)) p6)) (v5 (o4 (w6 1) (w6 0)) u0))))) u0)) (o6 5 ye0.nd))
   (v6 (j8 (b7 wb0 yq0 (w6 3) p6)
   (v6 (m7 (Y6 (v5 Z8 (v5 (w6 5) u0))))
   u9)
   u9)
   (v6 (m7 (Y6 (v5 Z8 (v5 (o4 (w6 2) (Z7 (V2 (w6 0) p6) p6)) (v5 (w6 5) u0)))))
   u9)))))))) (λds d h=>V1 h)
theorem K9:FnScope ["_law_cells", "_law_many", "_law_pool_here", "_law_parts", "_law_k", "_law_number", "_law_count", "_law_some"] ["_law_cells", "_law_many", "_law_pool_here"] (p8 (top 18)):=⟨rfl,rfl,rfl,by decide +kernel,rfl,by decide +kernel,by decide +kernel⟩
theorem me0(F:Fun K "_law_web" "_law_web" (top 18) fa fd)(T:Txt mg)(C__law_mix:FnD P w K mg base "_law_mix" 1 ["_law_cell", "_law_k"] X5)(C__law_part:FnD P w K mg base "_law_part" 1 ["_law_number", "_law_some", "_law_pool_here"] z10)(C__law_values:FnN P w K mg base "_law_values" 2 ["_law_number", "_law_count", "_law_many"] M7):FnOk P w K mg base CX0 3 fa fd ["_law_cells", "_law_many", "_law_pool_here"] (spD K zl0) :=
 okD (k:=2) (G:=tx0) F K9 (λJ A outer s H E hr=>(v6 (R3 3 (O6 u0) K9.nd)
   (v6 (T4 C4 rfl (V8 T.b_range (v5 (w6 1) u0)) (o6 4 K9.nd)
   (v6 (n8 (d9 C__law_mix hr (by decide) (v5 (Z9 (o4 (w6 0) (Z7 (w6 4) (S5 T.b_len (v5 (w6 0) u0)))) (O8 (w6 4) (V2 (w6 4) (S5 T.b_len (v5 (w6 0) u0))))) (v5 (w6 4) u0))) (o6 5 K9.nd))
   (v6 (n8 (o4 (zb0 (v5 p6 (v5 p6 (v5 p6 (v5 p6 (v5 p6 (v5 p6 (v5 p6 (v5 p6 u0))))))))) (Z7 (V2 (w6 5) p6) p6)) (o6 6 K9.nd))
   (v6 (j8 (b7 M9 Q6 (Z7 (V2 (w6 5) p6) p6) p6)
   (v6 (n8 (o4 (zb0 (v5 p6 (v5 p6 u0))) (R9 ip0 Zm0 T.b_int b_int (v5 (yh0 wb0 yq0 (Z7 (w6 5) p6) p6) u0))) (o6 6 K9.nd))
   u9)
   u9)
   (v6 (n8 (M8 C__law_values hr (by decide) (v5 (Z9 (V2 (w6 5) p6) p6) (v5 (w6 6) (v5 (w6 1) u0)))) (o6 7 K9.nd))
   (v6 (Q4 (zg0 3 (d9 C__law_part hr (by decide) (v5 (w6 5) (v5 (w6 7) (v5 (w6 2) u0))))))
   u9))))))
   (v6 (K7 (R9 U9 y90 T.b_tuple b_tuple (v5 (w6 3) u0)))
   u9)))) (λds d h=>V1 h)
theorem nt0:FnScope ["_law_part_here"] ["_law_part_here"] (p8 (top 19)):=⟨rfl,rfl,rfl,by decide +kernel,rfl,by decide +kernel,by decide +kernel⟩
theorem nq0(F:Fun K "_law_vals" "_law_vals" (top 19) fa fd)(T:Txt mg)  : FnOk P w K mg base CX0 1 fa fd ["_law_part_here"] (spN K m5) :=
 okN (k:=0) (G:=t10) F nt0 (λJ A outer s H E hr=>(v6 (j8 (b7 M9 Q6 (o4 (w6 0) p6) Z8)
   (v6 (K8 (O6 u0))
   u9)
   u9)
   (v6 (j8 (b7 M9 Q6 (o4 (w6 0) p6) Z8)
   (v6 (K8 (tl0 T.b_list b_list (o4 (w6 0) p6)))
   u9)
   u9)
   (v6 (K8 (v10 (sc:=p8 (top 19)) (N:=["_law_part_here"]) (N':=["_law_name", "_law_value_here"]) (n:=2) (caps:=[]) ⟨rfl,by decide +kernel,by decide +kernel,by decide +kernel,by decide +kernel,rfl,by decide +kernel⟩ (by decide) (us0 (o4 (w6 0) (xm0 p6))) (λcl s H ex=>v70 0 1 (by decide +kernel:(["_law_name", "_law_value_here"]:List Str).Nodup) (by decide)) (λcl s H ex=>y30) (λcl s H ex=>(w6 1))))
   u9)))) (λds d h=>wj0 h)
theorem nz0:FnScope ["_law_part_here"] ["_law_part_here"] (p8 (top 20)):=⟨rfl,rfl,rfl,by decide +kernel,rfl,by decide +kernel,by decide +kernel⟩
theorem pt0(F:Fun K "_law_head" "_law_head" (top 20) fa fd)(T:Txt mg)  : FnOk P w K mg base CX0 1 fa fd ["_law_part_here"] (spD K Z5) :=
 okD (k:=0) (G:=t30) F nz0 (λJ A outer s H E hr=>(v6 (j8 (b7 M9 Q6 (o4 (w6 0) p6) Z8)
   (v6 (m7 (Y6 (v5 Z8 (v5 (S5 T.b_len (v5 (o4 (w6 0) p6) u0)) u0))))
   u9)
   u9)
   (v6 (j8 (b7 M9 Q6 (o4 (w6 0) p6) Z8)
   (v6 (m7 (w6 0))
   u9)
   u9)
   (v6 (m7 (Z9 (J8 (w6 0) zy0 (G3 (xm0 p6))) (Y6 (v5 (R9 U9 y90 T.b_tuple b_tuple (v5 (up0 (sc:=p8 (top 20)) (N:=["_law_part_here"]) (N':=["_law_name", "_law_value_here"]) (n:=2) (caps:=[]) ⟨rfl,by decide +kernel,by decide +kernel,by decide +kernel,by decide +kernel,rfl,by decide +kernel⟩ (by decide) (us0 (o4 (w6 0) (xm0 p6))) (λcl s H ex=>v70 0 1 (by decide +kernel:(["_law_name", "_law_value_here"]:List Str).Nodup) (by decide)) (λcl s H ex=>y30) (λcl s H ex=>(w6 0))) u0)) u0))))
   u9)))) (λds d h=>V1 h)
theorem m10:FnScope ["_law_part_here", "_law_some"] ["_law_part_here", "_law_some"] (p8 (top 21)):=⟨rfl,rfl,rfl,by decide +kernel,rfl,by decide +kernel,by decide +kernel⟩
theorem oi0(F:Fun K "_law_with" "_law_with" (top 21) fa fd)(T:Txt mg)  : FnOk P w K mg base CX0 1 fa fd ["_law_part_here", "_law_some"] (spD K V4) :=
 okD (k:=0) (G:=t60) F m10 (λJ A outer s H E hr=>(v6 (j8 (b7 M9 Q6 (o4 (w6 0) p6) Z8)
   (v6 (m7 (w6 0))
   u9)
   u9)
   (v6 (j8 (b7 M9 Q6 (o4 (w6 0) p6) Z8)
   (v6 (m7 (Y6 (v5 Z8 (v5 (R9 U9 y90 T.b_tuple b_tuple (v5 (w6 1) u0)) u0))))
   u9)
   u9)
   (v6 (m7 (Z9 (J8 (w6 0) zy0 (G3 (xm0 p6))) (Y6 (v5 (R9 U9 y90 T.b_tuple b_tuple (v5 (up0 (sc:=p8 (top 21)) (N:=["_law_part_here", "_law_some"]) (N':=["_law_k", "_law_part_here", "_law_some"]) (n:=1) (caps:=[0,1]) ⟨rfl,by decide +kernel,by decide +kernel,by decide +kernel,by decide +kernel,rfl,by decide +kernel⟩ (by decide) (V8 T.b_range (v5 (S5 T.b_len (v5 (w6 1) u0)) u0)) (λcl s H ex=>o6 0 (by decide +kernel:(["_law_k", "_law_part_here", "_law_some"]:List Str).Nodup)) (λcl s H ex=>y30) (λcl s H ex=>(Y6 (v5 (o4 (o4 (o4 (w6 1) (xm0 p6)) (w6 0)) p6) (v5 (o4 (w6 2) (w6 0)) u0))))) u0)) u0))))
   u9)))) (λds d h=>V1 h)
theorem U0:FnScope ["_law_web_here", "_law_times", "_law_cell", "_law_parts", "_law_k", "_law_turn", "_law_some", "_law_number", "_law_value_here"] ["_law_web_here", "_law_times", "_law_cell"] (p8 (top 23)):=⟨rfl,rfl,rfl,by decide +kernel,rfl,by decide +kernel,by decide +kernel⟩
theorem sx0(F:Fun K "_law_unfold" "_law_unfold" (top 23) fa fd)(T:Txt mg)(C__law_mix:FnD P w K mg base "_law_mix" 1 ["_law_cell", "_law_k"] X5)(C__law_vals:FnN P w K mg base "_law_vals" 1 ["_law_part_here"] m5)(C__law_with:FnD P w K mg base "_law_with" 1 ["_law_part_here", "_law_some"] V4):FnOk P w K mg base CX0 2 fa fd ["_law_web_here", "_law_times", "_law_cell"] (spD K M6) :=
 okD (k:=1) (G:=vc0) F U0 (λJ A outer s H E hr=>(v6 (R3 3 (O6 u0) U0.nd)
   (v6 (T4 C4 rfl (V8 T.b_range (v5 (S5 T.b_len (v5 (w6 0) u0)) u0)) (o6 4 U0.nd)
   (v6 (T4 C4 rfl (V8 T.b_range (v5 (w6 1) u0)) (o6 5 U0.nd)
   (v6 (R3 6 (O6 u0) U0.nd)
   (v6 (n8 (d9 C__law_mix hr (by decide) (v5 (Z9 (w6 2) (O8 (w6 5) (w6 5))) (v5 (Z9 (w6 4) p6) u0))) (o6 7 U0.nd))
   (v6 (T4 C4 rfl (xv0 (M8 C__law_vals hr (by decide) (v5 (o4 (w6 0) (w6 4)) u0))) (o6 8 U0.nd)
   (v6 (n8 (Z7 (O8 (w6 7) p6) p6) (o6 7 U0.nd))
   (v6 (j8 (S7 (z00 K5 b_tuple T.b_isinstance T.b_tuple (w6 8)))
   (v6 (n8 (Y6 (v5 Z8 (v5 (Z9 (O8 (o4 (w6 8) p6) (w6 1)) (Z7 (w6 7) (w6 1))) u0))) (o6 8 U0.nd))
   u9)
   u9)
   (v6 (Q4 (zg0 6 (w6 8)))
   u9))))
   (v6 (Q4 (zg0 3 (uo0 (d9 C__law_with hr (by decide) (v5 (o4 (w6 0) (w6 4)) (v5 (w6 6) u0))))))
   u9)))))
   u9))
   (v6 (K7 (R9 U9 y90 T.b_tuple b_tuple (v5 (w6 3) u0)))
   u9)))) (λds d h=>V1 h)
theorem zw0:FnScope ["_law_script", "_law_most", "_law_pool_here", "_law_turn", "_law_many"] ["_law_script", "_law_most"] (p8 (top 24)):=⟨rfl,rfl,rfl,by decide +kernel,rfl,by decide +kernel,by decide +kernel⟩
theorem qt0(F:Fun K "_law_small" "_law_small" (top 24) fa fd)(T:Txt mg)(C__law_cell_at:FnD P w K mg base "_law_cell_at" 1 ["_law_script", "_law_k"] j9)(C__law_pool:FnN P w K mg base "_law_pool" 1 ["_law_cell", "_law_turn"] z20)(C__law_web:FnD P w K mg base "_law_web" 3 ["_law_cells", "_law_many", "_law_pool_here"] zl0):FnOk P w K mg base CX0 4 fa fd ["_law_script", "_law_most"] (spD K J1) :=
 okD (k:=3) (G:=u80) F zw0 (λJ A outer s H E hr=>(v6 (n8 (M8 C__law_pool hr (by decide) (v5 (d9 C__law_cell_at hr (by decide) (v5 (w6 0) (v5 p6 u0))) (v5 (d9 C__law_cell_at hr (by decide) (v5 (w6 0) (v5 p6 u0))) u0))) (o6 2 zw0.nd))
   (v6 (n8 (d9 C__law_cell_at hr (by decide) (v5 (w6 0) (v5 p6 u0))) (o6 3 zw0.nd))
   (v6 (n8 (Z9 p6 (Z7 (w6 3) (w6 1))) (o6 4 zw0.nd))
   (v6 (m7 (d9 C__law_web hr (by decide) (v5 (Z9 (J8 (w6 0) (G3 p6) (G3 p6)) (zb0 (v5 (d9 C__law_cell_at hr (by decide) (v5 (w6 0) (v5 p6 u0))) u0))) (v5 (w6 4) (v5 (w6 2) u0)))))
   u9))))) (λds d h=>V1 h)
theorem z30:FnScope ["_law_web_here", "_law_cell", "_law_k", "_law_some", "_law_at"] ["_law_web_here", "_law_cell"] (p8 (top 25)):=⟨rfl,rfl,rfl,by decide +kernel,rfl,by decide +kernel,by decide +kernel⟩
theorem s50(F:Fun K "_law_changed" "_law_changed" (top 25) fa fd)(T:Txt mg)(C__law_vals:FnN P w K mg base "_law_vals" 1 ["_law_part_here"] m5)(C__law_value:FnD P w K mg base "_law_value" 1 ["_law_number", "_law_many"] T9)(C__law_with:FnD P w K mg base "_law_with" 1 ["_law_part_here", "_law_some"] V4):FnOk P w K mg base CX0 2 fa fd ["_law_web_here", "_law_cell"] (spD K R4) :=
 okD (k:=1) (G:=wp0) F z30 (λJ A outer s H E hr=>(v6 (n8 (Z7 (w6 1) (S5 T.b_len (v5 (w6 0) u0))) (o6 2 z30.nd))
   (v6 (R3 3 (im0 C__law_vals hr (by decide) (v5 (o4 (w6 0) (w6 2)) u0)) z30.nd)
   (v6 (j8 (wn0 (b7 (o00 hr.units) sv0 (w6 3) (zb0 u0)))
   (v6 (m7 (w6 0))
   u9)
   u9)
   (v6 (n8 (Z7 (V2 (w6 1) p6) (wy0 (S5 T.b_len (v5 (w6 3) u0)))) (o6 4 z30.nd))
   (v6 (yn0 (wf0 (d9 C__law_value hr (by decide) (v5 (Z7 (V2 (w6 1) p6) p6) (v5 (S5 T.b_len (v5 (w6 0) u0)) u0)))) (c50 3 (w6 4)))
   (v6 (K7 (Z9 (Z9 (J8 (w6 0) zy0 (G3 (w6 2))) (Y6 (v5 (d9 C__law_with hr (by decide) (v5 (o4 (w6 0) (w6 2)) (v5 (w6 3) u0))) u0))) (J8 (w6 0) (G3 (Z9 (w6 2) p6)) zy0)))
   u9))))))) (λds d h=>V1 h)
theorem G8:FnScope ["_law_one", "_law_other", "_law_pair", "_law_found", "_law_first", "_law_second", "_law_k"] ["_law_one", "_law_other", "_law_pair"] (p8 (top 26)):=⟨rfl,rfl,rfl,by decide +kernel,rfl,by decide +kernel,by decide +kernel⟩
theorem qy0(F:Fun K "_law_go_on" "_law_go_on" (top 26) fa fd)(T:Txt mg)(C__law_head:FnD P w K mg base "_law_head" 1 ["_law_part_here"] Z5)(C__law_vals:FnN P w K mg base "_law_vals" 1 ["_law_part_here"] m5):FnOk P w K mg base CX0 2 fa fd ["_law_one", "_law_other", "_law_pair"] (spD K W7) :=
 okD (k:=1) (G:=ud0) F G8 (λJ A outer s H E hr=>(v6 (R3 3 (O6 u0) G8.nd)
   (v6 (n8 (M8 C__law_vals hr (by decide) (v5 (o4 (w6 0) (o4 (w6 2) p6)) u0)) (o6 4 G8.nd))
   (v6 (n8 (M8 C__law_vals hr (by decide) (v5 (o4 (w6 1) (o4 (w6 2) p6)) u0)) (o6 5 G8.nd))
   (v6 (j8 (b7 (yc0 hr.units) zo0 (d9 C__law_head hr (by decide) (v5 (o4 (w6 0) (o4 (w6 2) p6)) u0)) (d9 C__law_head hr (by decide) (v5 (o4 (w6 1) (o4 (w6 2) p6)) u0)))
   (v6 (m7 K3)
   u9)
   u9)
   (v6 (T4 C4 rfl (V8 T.b_range (v5 (S5 T.b_len (v5 (w6 4) u0)) u0)) (o6 6 G8.nd)
   (v6 (j8 (PWD.pt (sp0 (S7 (z00 K5 b_tuple T.b_isinstance T.b_tuple (o4 (w6 4) (w6 6)))) (tp0 (S7 (z00 K5 b_tuple T.b_isinstance T.b_tuple (o4 (w6 5) (w6 6)))))))
   (v6 (Q4 (zg0 3 (Y6 (v5 (o4 (o4 (w6 4) (w6 6)) p6) (v5 (o4 (o4 (w6 5) (w6 6)) p6) u0)))))
   u9)
   (v6 (j8 (b7 (yc0 hr.units) zo0 (o4 (w6 4) (w6 6)) (o4 (w6 5) (w6 6)))
   (v6 (m7 K3)
   u9)
   u9)
   u9))
   u9))
   (v6 (K7 (w6 3))
   u9))))))) (λds d h=>V1 h)
theorem z80:FnScope ["_law_one", "_law_other", "_law_pair", "_law_known", "_law_waiting", "_law_more", "_law_fresh"] ["_law_one", "_law_other", "_law_pair"] (p8 (top 27)):=⟨rfl,rfl,rfl,by decide +kernel,rfl,by decide +kernel,by decide +kernel⟩
theorem nr0(F:Fun K "_law_shut" "_law_shut" (top 27) fa fd)(T:Txt mg)(C__law_go_on:FnD P w K mg base "_law_go_on" 2 ["_law_one", "_law_other", "_law_pair"] W7):FnOk P w K mg base CX0 3 fa fd ["_law_one", "_law_other", "_law_pair"] (spD K K6) :=
 okD (k:=2) (G:=t40) F z80 (λJ A outer s H E hr=>(v6 (R3 3 (vr0 (d6 (D9 _ 64) hr.units) (w6 2) w80) z80.nd)
   (v6 (R3 4 (O6 (v5 (w6 2) u0)) z80.nd)
   (v6 (vs0 100000 C4 (b7 e70 jx0 (wy0 (S5 T.b_len (v5 (w6 4) u0))) p6)
   (v6 (yn0 (d50 0 1 C__law_go_on hr (by decide) (bo0 4)) (jq0 (o6 5 z80.nd)))
   (v6 (j8 (b7 n90 rz0 (w6 5) K3)
   (v6 (m7 K3)
   u9)
   u9)
   (v6 (T4 C4 rfl (xv0 (w6 5)) (o6 6 z80.nd)
   (v6 (j8 (wn0 (tr0 (yz0 hr) (w6 6) (w6 3)))
   (v6 (yn0 (wf0 w80) (tc0 3 (yz0 hr) (w6 6)))
   (v6 (Q4 (zg0 4 (w6 6)))
   u9))
   u9)
   u9))
   u9))))
   (v6 (K7 (PDF.pd (i50 T.b_sorted b_sorted (R9 (k40 rfl) f60 T.b_list b_list (v5 (w6 3) u0)))))
   u9))))) (λds d h=>V1 h)
theorem G7:FnScope ["_law_web_here", "_law_way", "_law_k", "_law_here", "_law_place"] ["_law_web_here", "_law_way", "_law_k"] (p8 (top 28)):=⟨rfl,rfl,rfl,by decide +kernel,rfl,by decide +kernel,by decide +kernel⟩
theorem tq0(F:Fun K "_law_value_at" "_law_value_at" (top 28) fa fd)(T:Txt mg)(C__law_vals:FnN P w K mg base "_law_vals" 1 ["_law_part_here"] m5):FnOk P w K mg base CX0 2 fa fd ["_law_web_here", "_law_way", "_law_k"] (spD K U3) :=
 okD (k:=1) (G:=w70) F G7 (λJ A outer s H E hr=>(v6 (n8 (Y6 (v5 Z8 (v5 (w6 2) u0))) (o6 3 G7.nd))
   (v6 (T4 C4 rfl (xv0 (w6 1)) (o6 4 G7.nd)
   (v6 (j8 (PWD.pt (sk0 (xg0 (S7 (z00 K5 b_tuple T.b_isinstance T.b_tuple (w6 3)))) (um0 (xg0 (i00 Yl0 ac0 wb0 yq0 p6 (w6 4) (S5 T.b_len (v5 (M8 C__law_vals hr (by decide) (v5 (o4 (w6 0) (o4 (w6 3) p6)) u0)) u0)))))))
   (v6 (m7 Z8)
   u9)
   u9)
   (v6 (n8 (o4 (M8 C__law_vals hr (by decide) (v5 (o4 (w6 0) (o4 (w6 3) p6)) u0)) (w6 4)) (o6 3 G7.nd))
   u9)))
   (v6 (m7 (w6 3))
   u9)))) (λds d h=>V1 h)
theorem rp0:FnScope ["_law_web_here", "_law_first", "_law_second"] ["_law_web_here", "_law_first", "_law_second"] (p8 (top 29)):=⟨rfl,rfl,rfl,by decide +kernel,rfl,by decide +kernel,by decide +kernel⟩
theorem r00(F:Fun K "_law_unlike" "_law_unlike" (top 29) fa fd)(T:Txt mg)(C__law_head:FnD P w K mg base "_law_head" 1 ["_law_part_here"] Z5):FnOk P w K mg base CX0 2 fa fd ["_law_web_here", "_law_first", "_law_second"] (spD K W0) :=
 okD (k:=1) (G:=vd0) F rp0 (λJ A outer s H E hr=>(v6 (j8 (PWD.pt (sp0 (S7 (z00 K5 b_tuple T.b_isinstance T.b_tuple (w6 1))) (tp0 (S7 (z00 K5 b_tuple T.b_isinstance T.b_tuple (w6 2))))))
   (v6 (m7 (yh0 (yc0 hr.units) zo0 (d9 C__law_head hr (by decide) (v5 (o4 (w6 0) (o4 (w6 1) p6)) u0)) (d9 C__law_head hr (by decide) (v5 (o4 (w6 0) (o4 (w6 2) p6)) u0))))
   u9)
   u9)
   (v6 (m7 (yh0 (yc0 hr.units) zo0 (w6 1) (w6 2)))
   u9))) (λds d h=>V1 h)
theorem S8:FnScope ["_law_web_here", "_law_level_here", "_law_fresh", "_law_pair", "_law_first", "_law_second", "_law_place", "_law_way", "_law_spot"] ["_law_web_here", "_law_level_here"] (p8 (top 30)):=⟨rfl,rfl,rfl,by decide +kernel,rfl,by decide +kernel,by decide +kernel⟩
theorem qz0(F:Fun K "_law_level" "_law_level" (top 30) fa fd)(T:Txt mg)(C__law_unlike:FnD P w K mg base "_law_unlike" 2 ["_law_web_here", "_law_first", "_law_second"] W0)(C__law_vals:FnN P w K mg base "_law_vals" 1 ["_law_part_here"] m5):FnOk P w K mg base CX0 3 fa fd ["_law_web_here", "_law_level_here"] (spD K U7) :=
 okD (k:=2) (G:=vz0) F S8 (λJ A outer s H E hr=>(v6 (R3 2 k50 S8.nd)
   (v6 (T4 C4 rfl (er0 (w6 1)) (o6 3 S8.nd)
   (v6 (n8 (M8 C__law_vals hr (by decide) (v5 (o4 (w6 0) (o4 (w6 3) p6)) u0)) (o6 4 S8.nd))
   (v6 (n8 (M8 C__law_vals hr (by decide) (v5 (o4 (w6 0) (o4 (w6 3) p6)) u0)) (o6 5 S8.nd))
   (v6 (T4 C4 rfl (V8 T.b_range (v5 (S5 T.b_len (v5 (w6 4) u0)) u0)) (o6 6 S8.nd)
   (v6 (n8 (Z9 (rj0 (yz0 hr) (w6 1) (w6 3)) (zb0 (v5 (w6 6) u0))) (o6 7 S8.nd))
   (v6 (j8 (S7 (d9 C__law_unlike hr (by decide) (v5 (w6 0) (v5 (o4 (w6 4) (w6 6)) (v5 (o4 (w6 5) (w6 6)) u0)))))
   (v6 (K7 (Y6 (v5 (w6 7) (v5 (w6 2) u0))))
   u9)
   u9)
   (v6 (j8 (S7 (z00 K5 b_tuple T.b_isinstance T.b_tuple (o4 (w6 4) (w6 6))))
   (v6 (n8 (Y6 (v5 (o4 (o4 (w6 4) (w6 6)) p6) (v5 (o4 (o4 (w6 5) (w6 6)) p6) u0))) (o6 8 S8.nd))
   (v6 (j8 (wn0 (tr0 (yz0 hr) (w6 8) (w6 2)))
   (v6 (yn0 (wf0 (w6 7)) (tc0 2 (yz0 hr) (w6 8)))
   u9)
   u9)
   u9))
   u9)
   u9))))
   u9))))
   (v6 (K7 (Y6 (v5 K3 (v5 (w6 2) u0))))
   u9)))) (λds d h=>V1 h)
theorem zv0:FnScope ["_law_web_here", "_law_p", "_law_q", "_law_most", "_law_level_here", "_law_count", "_law_way"] ["_law_web_here", "_law_p", "_law_q", "_law_most"] (p8 (top 31)):=⟨rfl,rfl,rfl,by decide +kernel,rfl,by decide +kernel,by decide +kernel⟩
theorem qr0(F:Fun K "_law_least" "_law_least" (top 31) fa fd)(T:Txt mg)(C__law_head:FnD P w K mg base "_law_head" 1 ["_law_part_here"] Z5)(C__law_level:FnD P w K mg base "_law_level" 3 ["_law_web_here", "_law_level_here"] U7):FnOk P w K mg base CX0 4 fa fd ["_law_web_here", "_law_p", "_law_q", "_law_most"] (spD K ze0) :=
 okD (k:=3) (G:=vy0) F zv0 (λJ A outer s H E hr=>(v6 (j8 (b7 (yc0 hr.units) zo0 (d9 C__law_head hr (by decide) (v5 (o4 (w6 0) (w6 1)) u0)) (d9 C__law_head hr (by decide) (v5 (o4 (w6 0) (w6 2)) u0)))
   (v6 (m7 (zb0 u0))
   u9)
   u9)
   (v6 (n8 (vr0 (d6 (D9 _ 64) hr.units) (Y6 (v5 (w6 1) (v5 (w6 2) u0))) (zb0 u0)).pd (o6 4 zv0.nd))
   (v6 (T4 C4 rfl (V8 T.b_range (v5 (w6 3) u0)) (o6 5 zv0.nd)
   (v6 (yn0 (wf0 (d9 C__law_level hr (by decide) (v5 (w6 0) (v5 (w6 4) u0)))) (jq0 (v70 6 4 zv0.nd (by decide))))
   (v6 (j8 (b7 ru0 te0 (w6 6) K3)
   (v6 (m7 (w6 6))
   u9)
   u9)
   u9)))
   (v6 (m7 K3)
   u9))))) (λds d h=>V1 h)
theorem Q9:FnScope ["_law_web_here", "_law_p", "_law_q", "_law_found", "_law_place", "_law_one", "_law_other", "_law_kept"] ["_law_web_here", "_law_p", "_law_q"] (p8 (top 32)):=⟨rfl,rfl,rfl,by decide +kernel,rfl,by decide +kernel,by decide +kernel⟩
theorem qs0(F:Fun K "_law_asked" "_law_asked" (top 32) fa fd)(T:Txt mg)(C__law_least:FnD P w K mg base "_law_least" 4 ["_law_web_here", "_law_p", "_law_q", "_law_most"] ze0)(C__law_shut:FnD P w K mg base "_law_shut" 3 ["_law_one", "_law_other", "_law_pair"] K6)(C__law_unlike:FnD P w K mg base "_law_unlike" 2 ["_law_web_here", "_law_first", "_law_second"] W0)(C__law_value_at:FnD P w K mg base "_law_value_at" 2 ["_law_web_here", "_law_way", "_law_k"] U3)(C_parting_way:FnD P w K mg base "parting_way" 5 ["web", "p", "q"] Y0):FnOk P w K mg base CX0 6 fa fd ["_law_web_here", "_law_p", "_law_q"] (spD K N5) :=
 okD (k:=5) (G:=u90) F Q9 (λJ A outer s H E hr=>(v6 (bq0 (R3 3 (b00 C_parting_way hr (by decide) (v5 (w6 0) (v5 (w6 1) (v5 (w6 2) u0)))) Q9.nd) (n8 (d9 C_parting_way hr (by decide) (v5 (w6 0) (v5 (w6 1) (v5 (w6 2) u0)))) (o6 3 Q9.nd)))
   (v6 (j8 (wn0 (b7 n90 rz0 (w6 3) K3))
   (v6 (m7 (om0 (yh0 ru0 te0 (d9 C__law_shut hr (by decide) (v5 (w6 0) (v5 (w6 0) (v5 (Y6 (v5 (w6 1) (v5 (w6 2) u0))) u0)))) K3) (nn0 (yh0 n90 rz0 (d9 C_parting_way hr (by decide) (v5 (w6 0) (v5 (w6 2) (v5 (w6 1) u0)))) K3))))
   u9)
   u9)
   (v6 (j8 (xg0 (S7 (wy0 (z00 fi0 b_list T.b_isinstance T.b_list (w6 3)))))
   (v6 (m7 w80)
   u9)
   u9)
   (v6 (gv0 3 (T4 C4 rfl (xv0 (w6 3)) (o6 4 Q9.nd)
   (v6 (j8 (PWD.pt (sk0 (xg0 (S7 (z00 ce0 b_int T.b_isinstance T.b_int (w6 4)))) (um0 (S7 (z00 gt0 b_bool T.b_isinstance T.b_bool (w6 4))))))
   (v6 (m7 w80)
   u9)
   u9)
   u9)))
   (v6 (n8 (uo0 (d9 C__law_value_at hr (by decide) (v5 (w6 0) (v5 (w6 3) (v5 (w6 1) u0))))) (o6 5 Q9.nd))
   (v6 (n8 (uo0 (d9 C__law_value_at hr (by decide) (v5 (w6 0) (v5 (w6 3) (v5 (w6 2) u0))))) (o6 6 Q9.nd))
   (v6 (j8 (PWD.pt (sk0 (b7 (cj0 hr.units) ge0 Z8 (Y6 (v5 (w6 5) (v5 (w6 6) u0)))) (um0 (xg0 (S7 (d9 C__law_unlike hr (by decide) (v5 (w6 0) (v5 (w6 5) (v5 (w6 6) u0)))))))))
   (v6 (m7 w80)
   u9)
   u9)
   (v6 (n8 (gr0 (tl0 T.b_list b_list (w6 3))).pd (o6 7 Q9.nd))
   (v6 (j8 (b7 (yc0 hr.units) zo0 (d9 C__law_least hr (by decide) (v5 (w6 0) (v5 (w6 1) (v5 (w6 2) (v5 (S5 T.b_len (v5 (w6 7) u0)) u0))))) (w6 7))
   (v6 (m7 w80)
   u9)
   u9)
   (v6 (Q4 (zg0 3 p6))
   (v6 (m7 (om0 (yh0 (o00 hr.units) sv0 (d9 C_parting_way hr (by decide) (v5 (w6 0) (v5 (w6 2) (v5 (w6 1) u0)))) (w6 7)) (nn0 (yh0 (o00 hr.units) sv0 (d9 C_parting_way hr (by decide) (v5 (w6 0) (v5 (w6 1) (v5 (w6 2) u0)))) (w6 7)))))
   u9)))))))))))) (λds d h=>V1 h)
theorem zh0:FnScope ["_law_script", "_law_turn", "_law_times", "_law_web_here", "_law_j", "_law_number", "_law_p", "_law_q"] ["_law_script"] (p8 (top 33)):=⟨rfl,rfl,rfl,by decide +kernel,rfl,by decide +kernel,by decide +kernel⟩
theorem Za0(F:Fun K "law" "law" (top 33) fa fd)(T:Txt mg)(C__law_asked:FnD P w K mg base "_law_asked" 6 ["_law_web_here", "_law_p", "_law_q"] N5)(C__law_cell_at:FnD P w K mg base "_law_cell_at" 1 ["_law_script", "_law_k"] j9)(C__law_changed:FnD P w K mg base "_law_changed" 2 ["_law_web_here", "_law_cell"] R4)(C__law_mix:FnD P w K mg base "_law_mix" 1 ["_law_cell", "_law_k"] X5)(C__law_small:FnD P w K mg base "_law_small" 4 ["_law_script", "_law_most"] J1)(C__law_unfold:FnD P w K mg base "_law_unfold" 2 ["_law_web_here", "_law_times", "_law_cell"] M6):FnOk P w K mg base CX0 7 fa fd ["_law_script"] (spD K ut0) :=
 okD (k:=6) (G:=el0) F zh0 (λJ A outer s H E hr=>(v6 (n8 (d9 C__law_cell_at hr (by decide) (v5 (w6 0) (v5 p6 u0))) (o6 1 zh0.nd))
   (v6 (n8 (o4 (zb0 (v5 p6 (v5 p6 (v5 p6 (v5 p6 u0))))) (Z7 (w6 1) p6)) (o6 2 zh0.nd))
   (v6 (n8 (d9 C__law_unfold hr (by decide) (v5 (d9 C__law_small hr (by decide) (v5 (w6 0) (v5 p6 u0))) (v5 (w6 2) (v5 (d9 C__law_cell_at hr (by decide) (v5 (w6 0) (v5 p6 u0))) u0)))) (o6 3 zh0.nd))
   (v6 (T4 C4 rfl (V8 T.b_range (v5 (Z9 p6 (Z7 (V2 (w6 1) p6) p6)) u0)) (o6 4 zh0.nd)
   (v6 (n8 (d9 C__law_changed hr (by decide) (v5 (w6 3) (v5 (d9 C__law_mix hr (by decide) (v5 (Z9 (d9 C__law_cell_at hr (by decide) (v5 (w6 0) (v5 p6 u0))) (w6 4)) (v5 (Z9 (w6 4) p6) u0))) u0))) (o6 3 zh0.nd))
   u9))
   (v6 (T4 C4 rfl (V8 T.b_range (v5 p6 u0)) (o6 4 zh0.nd)
   (v6 (n8 (d9 C__law_mix hr (by decide) (v5 (Z9 (d9 C__law_cell_at hr (by decide) (v5 (w6 0) (v5 p6 u0))) (O8 (w6 4) (w6 4))) (v5 (Z9 (w6 4) p6) u0))) (o6 5 zh0.nd))
   (v6 (n8 (Z7 (w6 5) (S5 T.b_len (v5 (w6 3) u0))) (o6 6 zh0.nd))
   (v6 (n8 (Z7 (V2 (w6 5) p6) (S5 T.b_len (v5 (w6 3) u0))) (o6 7 zh0.nd))
   (v6 (j8 (b7 e70 jx0 (Z7 (w6 4) p6) p6)
   (v6 (n8 (Z9 (O8 (V2 (w6 6) (w6 2)) (w6 2)) (Z7 (V2 (w6 5) p6) (w6 2))) (o6 7 zh0.nd))
   u9)
   u9)
   (v6 (j8 (xg0 (S7 (d9 C__law_asked hr (by decide) (v5 (w6 3) (v5 (w6 6) (v5 (w6 7) u0))))))
   (v6 (m7 w80)
   u9)
   u9)
   u9))))))
   (v6 (m7 w80)
   u9))))))) (λds d h=>V1 h)
end
theorem us1:∀{us:List α},us.length=1->∃a,us=[a]
 | [a],_=>⟨a,rfl⟩
theorem us2:∀{us:List α},us.length=2->∃a b,us=[a,b]
 | [a,b],_=>⟨a,b,rfl⟩
theorem us3:∀{us:List α},us.length=3->∃a b c,us=[a,b,c]
 | [a,b,c],_=>⟨a,b,c,rfl⟩
theorem us4:∀{us:List α},us.length=4->∃a b c d,us=[a,b,c,d]
 | [a,b,c,d],_=>⟨a,b,c,d,rfl⟩
theorem all_mk{l:W.OpenLaw}{w:World}{h:Heap}(X:K.In h)(G:h.Ns mainGlobals mg)(hfa:mg "law"=some (.ref fa))
  {f0 f1 f2 f3 f4 f5 f6 f7 f8 f9 f10 f11 f12 f13 f14 f15 f16 f17 f18 f19 f20 f21 f22 f23 f24 f25 f26 f27 f28 f29:Addr}
  {od0 an0 od1 an1 od2 an2 od3 an3 od4 an4 od5 an5 od6 an6 od7 an7 od8 an8 od9 an9 od10 an10 od11 an11 od12 an12 od13 an13 od14 an14 od15 an15 od16 an16 od17 an17 od18 an18 od19 an19 od20 an20 od21 an21 od22 an22 od23 an23 od24 an24 od25 an25 od26 an26 od27 an27 od28 an28 od29 an29:Option Addr} {sl0 sl1 sl2 sl3 sl4 sl5 sl6 sl7 sl8 sl9 sl10 sl11 sl12 sl13 sl14 sl15 sl16 sl17 sl18 sl19 sl20 sl21 sl22 sl23 sl24 sl25 sl26 sl27 sl28 sl29:Array (Option Value)} {oc0 kV0 dc0 pm0 cd0 ct0 oc1 kV1 dc1 pm1 cd1 ct1 oc2 kV2 dc2 pm2 cd2 ct2 oc3 kV3 dc3 pm3 cd3 ct3 oc4 kV4 dc4 pm4 cd4 ct4 oc5 kV5 dc5 pm5 cd5 ct5 oc6 kV6 dc6 pm6 cd6 ct6 oc7 kV7 dc7 pm7 cd7 ct7 oc8 kV8 dc8 pm8 cd8 ct8 oc9 kV9 dc9 pm9 cd9 ct9 oc10 kV10 dc10 pm10 cd10 ct10 oc11 kV11 dc11 pm11 cd11 ct11 oc12 kV12 dc12 pm12 cd12 ct12 oc13 kV13 dc13 pm13 cd13 ct13 oc14 kV14 dc14 pm14 cd14 ct14 oc15 kV15 dc15 pm15 cd15 ct15 oc16 kV16 dc16 pm16 cd16 ct16 oc17 kV17 dc17 pm17 cd17 ct17 oc18 kV18 dc18 pm18 cd18 ct18 oc19 kV19 dc19 pm19 cd19 ct19 oc20 kV20 dc20 pm20 cd20 ct20 oc21 kV21 dc21 pm21 cd21 ct21 oc22 kV22 dc22 pm22 cd22 ct22 oc23 kV23 dc23 pm23 cd23 ct23 oc24 kV24 dc24 pm24 cd24 ct24 oc25 kV25 dc25 pm25 cd25 ct25 oc26 kV26 dc26 pm26 cd26 ct26 oc27 kV27 dc27 pm27 cd27 ct27 oc28 kV28 dc28 pm28 cd28 ct28 oc29 kV29 dc29 pm29 cd29 ct29:Value}
  (a0:W.nsIn K mainGlobals "pair_names"=some (some (.ref f0))) (l0:K.lookup f0=some ⟨oc0,od0,.func (W.fnOf "pair_names" "pair_names" (b8 (top 1)) (d8 (top 1)) (p8 (top 1)) .none kV0 dc0 pm0 an0 cd0 ct0),sl0⟩) (c0:W.codeIn K cd0 "pair_names"=true) (k0:W.keepIn K (.ref f0)=true)
  (a1:W.nsIn K mainGlobals "head"=some (some (.ref f1))) (l1:K.lookup f1=some ⟨oc1,od1,.func (W.fnOf "head" "head" (b8 (top 2)) (d8 (top 2)) (p8 (top 2)) .none kV1 dc1 pm1 an1 cd1 ct1),sl1⟩) (c1:W.codeIn K cd1 "head"=true) (k1:W.keepIn K (.ref f1)=true)
  (a2:W.nsIn K mainGlobals "values"=some (some (.ref f2))) (l2:K.lookup f2=some ⟨oc2,od2,.func (W.fnOf "values" "values" (b8 (top 3)) (d8 (top 3)) (p8 (top 3)) .none kV2 dc2 pm2 an2 cd2 ct2),sl2⟩) (c2:W.codeIn K cd2 "values"=true) (k2:W.keepIn K (.ref f2)=true)
  (a3:W.nsIn K mainGlobals "parting_way"=some (some (.ref f3))) (l3:K.lookup f3=some ⟨oc3,od3,.func (W.fnOf "parting_way" "parting_way" (b8 (top 5)) (d8 (top 5)) (p8 (top 5)) .none kV3 dc3 pm3 an3 cd3 ct3),sl3⟩) (c3:W.codeIn K cd3 "parting_way"=true) (k3:W.keepIn K (.ref f3)=true)
  (a4:W.nsIn K mainGlobals "paired_walk"=some (some (.ref f4))) (l4:K.lookup f4=some ⟨oc4,od4,.func (W.fnOf "paired_walk" "paired_walk" (b8 (top 6)) (d8 (top 6)) (p8 (top 6)) .none kV4 dc4 pm4 an4 cd4 ct4),sl4⟩) (c4:W.codeIn K cd4 "paired_walk"=true) (k4:W.keepIn K (.ref f4)=true)
  (a5:W.nsIn K mainGlobals "way_to"=some (some (.ref f5))) (l5:K.lookup f5=some ⟨oc5,od5,.func (W.fnOf "way_to" "way_to" (b8 (top 7)) (d8 (top 7)) (p8 (top 7)) .none kV5 dc5 pm5 an5 cd5 ct5),sl5⟩) (c5:W.codeIn K cd5 "way_to"=true) (k5:W.keepIn K (.ref f5)=true)
  (a6:W.nsIn K mainGlobals "are_links"=some (some (.ref f6))) (l6:K.lookup f6=some ⟨oc6,od6,.func (W.fnOf "are_links" "are_links" (b8 (top 8)) (d8 (top 8)) (p8 (top 8)) .none kV6 dc6 pm6 an6 cd6 ct6),sl6⟩) (c6:W.codeIn K cd6 "are_links"=true) (k6:W.keepIn K (.ref f6)=true)
  (a7:W.nsIn K mainGlobals "linked_pair"=some (some (.ref f7))) (l7:K.lookup f7=some ⟨oc7,od7,.func (W.fnOf "linked_pair" "linked_pair" (b8 (top 9)) (d8 (top 9)) (p8 (top 9)) .none kV7 dc7 pm7 an7 cd7 ct7),sl7⟩) (c7:W.codeIn K cd7 "linked_pair"=true) (k7:W.keepIn K (.ref f7)=true)
  (a8:W.nsIn K mainGlobals "are_parting"=some (some (.ref f8))) (l8:K.lookup f8=some ⟨oc8,od8,.func (W.fnOf "are_parting" "are_parting" (b8 (top 10)) (d8 (top 10)) (p8 (top 10)) .none kV8 dc8 pm8 an8 cd8 ct8),sl8⟩) (c8:W.codeIn K cd8 "are_parting"=true) (k8:W.keepIn K (.ref f8)=true)
  (a9:W.nsIn K mainGlobals "_law_cell_at"=some (some (.ref f9))) (l9:K.lookup f9=some ⟨oc9,od9,.func (W.fnOf "_law_cell_at" "_law_cell_at" (b8 (top 12)) (d8 (top 12)) (p8 (top 12)) .none kV9 dc9 pm9 an9 cd9 ct9),sl9⟩) (c9:W.codeIn K cd9 "_law_cell_at"=true) (k9:W.keepIn K (.ref f9)=true)
  (a10:W.nsIn K mainGlobals "_law_pool"=some (some (.ref f10))) (l10:K.lookup f10=some ⟨oc10,od10,.func (W.fnOf "_law_pool" "_law_pool" (b8 (top 13)) (d8 (top 13)) (p8 (top 13)) .none kV10 dc10 pm10 an10 cd10 ct10),sl10⟩) (c10:W.codeIn K cd10 "_law_pool"=true) (k10:W.keepIn K (.ref f10)=true)
  (a11:W.nsIn K mainGlobals "_law_mix"=some (some (.ref f11))) (l11:K.lookup f11=some ⟨oc11,od11,.func (W.fnOf "_law_mix" "_law_mix" (b8 (top 14)) (d8 (top 14)) (p8 (top 14)) .none kV11 dc11 pm11 an11 cd11 ct11),sl11⟩) (c11:W.codeIn K cd11 "_law_mix"=true) (k11:W.keepIn K (.ref f11)=true)
  (a12:W.nsIn K mainGlobals "_law_value"=some (some (.ref f12))) (l12:K.lookup f12=some ⟨oc12,od12,.func (W.fnOf "_law_value" "_law_value" (b8 (top 15)) (d8 (top 15)) (p8 (top 15)) .none kV12 dc12 pm12 an12 cd12 ct12),sl12⟩) (c12:W.codeIn K cd12 "_law_value"=true) (k12:W.keepIn K (.ref f12)=true)
  (a13:W.nsIn K mainGlobals "_law_values"=some (some (.ref f13))) (l13:K.lookup f13=some ⟨oc13,od13,.func (W.fnOf "_law_values" "_law_values" (b8 (top 16)) (d8 (top 16)) (p8 (top 16)) .none kV13 dc13 pm13 an13 cd13 ct13),sl13⟩) (c13:W.codeIn K cd13 "_law_values"=true) (k13:W.keepIn K (.ref f13)=true)
  (a14:W.nsIn K mainGlobals "_law_part"=some (some (.ref f14))) (l14:K.lookup f14=some ⟨oc14,od14,.func (W.fnOf "_law_part" "_law_part" (b8 (top 17)) (d8 (top 17)) (p8 (top 17)) .none kV14 dc14 pm14 an14 cd14 ct14),sl14⟩) (c14:W.codeIn K cd14 "_law_part"=true) (k14:W.keepIn K (.ref f14)=true)
  (a15:W.nsIn K mainGlobals "_law_web"=some (some (.ref f15))) (l15:K.lookup f15=some ⟨oc15,od15,.func (W.fnOf "_law_web" "_law_web" (b8 (top 18)) (d8 (top 18)) (p8 (top 18)) .none kV15 dc15 pm15 an15 cd15 ct15),sl15⟩) (c15:W.codeIn K cd15 "_law_web"=true) (k15:W.keepIn K (.ref f15)=true)
  (a16:W.nsIn K mainGlobals "_law_vals"=some (some (.ref f16))) (l16:K.lookup f16=some ⟨oc16,od16,.func (W.fnOf "_law_vals" "_law_vals" (b8 (top 19)) (d8 (top 19)) (p8 (top 19)) .none kV16 dc16 pm16 an16 cd16 ct16),sl16⟩) (c16:W.codeIn K cd16 "_law_vals"=true) (k16:W.keepIn K (.ref f16)=true)
  (a17:W.nsIn K mainGlobals "_law_head"=some (some (.ref f17))) (l17:K.lookup f17=some ⟨oc17,od17,.func (W.fnOf "_law_head" "_law_head" (b8 (top 20)) (d8 (top 20)) (p8 (top 20)) .none kV17 dc17 pm17 an17 cd17 ct17),sl17⟩) (c17:W.codeIn K cd17 "_law_head"=true) (k17:W.keepIn K (.ref f17)=true)
  (a18:W.nsIn K mainGlobals "_law_with"=some (some (.ref f18))) (l18:K.lookup f18=some ⟨oc18,od18,.func (W.fnOf "_law_with" "_law_with" (b8 (top 21)) (d8 (top 21)) (p8 (top 21)) .none kV18 dc18 pm18 an18 cd18 ct18),sl18⟩) (c18:W.codeIn K cd18 "_law_with"=true) (k18:W.keepIn K (.ref f18)=true)
  (a19:W.nsIn K mainGlobals "_law_unfold"=some (some (.ref f19))) (l19:K.lookup f19=some ⟨oc19,od19,.func (W.fnOf "_law_unfold" "_law_unfold" (b8 (top 23)) (d8 (top 23)) (p8 (top 23)) .none kV19 dc19 pm19 an19 cd19 ct19),sl19⟩) (c19:W.codeIn K cd19 "_law_unfold"=true) (k19:W.keepIn K (.ref f19)=true)
  (a20:W.nsIn K mainGlobals "_law_small"=some (some (.ref f20))) (l20:K.lookup f20=some ⟨oc20,od20,.func (W.fnOf "_law_small" "_law_small" (b8 (top 24)) (d8 (top 24)) (p8 (top 24)) .none kV20 dc20 pm20 an20 cd20 ct20),sl20⟩) (c20:W.codeIn K cd20 "_law_small"=true) (k20:W.keepIn K (.ref f20)=true)
  (a21:W.nsIn K mainGlobals "_law_changed"=some (some (.ref f21))) (l21:K.lookup f21=some ⟨oc21,od21,.func (W.fnOf "_law_changed" "_law_changed" (b8 (top 25)) (d8 (top 25)) (p8 (top 25)) .none kV21 dc21 pm21 an21 cd21 ct21),sl21⟩) (c21:W.codeIn K cd21 "_law_changed"=true) (k21:W.keepIn K (.ref f21)=true)
  (a22:W.nsIn K mainGlobals "_law_go_on"=some (some (.ref f22))) (l22:K.lookup f22=some ⟨oc22,od22,.func (W.fnOf "_law_go_on" "_law_go_on" (b8 (top 26)) (d8 (top 26)) (p8 (top 26)) .none kV22 dc22 pm22 an22 cd22 ct22),sl22⟩) (c22:W.codeIn K cd22 "_law_go_on"=true) (k22:W.keepIn K (.ref f22)=true)
  (a23:W.nsIn K mainGlobals "_law_shut"=some (some (.ref f23))) (l23:K.lookup f23=some ⟨oc23,od23,.func (W.fnOf "_law_shut" "_law_shut" (b8 (top 27)) (d8 (top 27)) (p8 (top 27)) .none kV23 dc23 pm23 an23 cd23 ct23),sl23⟩) (c23:W.codeIn K cd23 "_law_shut"=true) (k23:W.keepIn K (.ref f23)=true)
  (a24:W.nsIn K mainGlobals "_law_value_at"=some (some (.ref f24))) (l24:K.lookup f24=some ⟨oc24,od24,.func (W.fnOf "_law_value_at" "_law_value_at" (b8 (top 28)) (d8 (top 28)) (p8 (top 28)) .none kV24 dc24 pm24 an24 cd24 ct24),sl24⟩) (c24:W.codeIn K cd24 "_law_value_at"=true) (k24:W.keepIn K (.ref f24)=true)
  (a25:W.nsIn K mainGlobals "_law_unlike"=some (some (.ref f25))) (l25:K.lookup f25=some ⟨oc25,od25,.func (W.fnOf "_law_unlike" "_law_unlike" (b8 (top 29)) (d8 (top 29)) (p8 (top 29)) .none kV25 dc25 pm25 an25 cd25 ct25),sl25⟩) (c25:W.codeIn K cd25 "_law_unlike"=true) (k25:W.keepIn K (.ref f25)=true)
  (a26:W.nsIn K mainGlobals "_law_level"=some (some (.ref f26))) (l26:K.lookup f26=some ⟨oc26,od26,.func (W.fnOf "_law_level" "_law_level" (b8 (top 30)) (d8 (top 30)) (p8 (top 30)) .none kV26 dc26 pm26 an26 cd26 ct26),sl26⟩) (c26:W.codeIn K cd26 "_law_level"=true) (k26:W.keepIn K (.ref f26)=true)
  (a27:W.nsIn K mainGlobals "_law_least"=some (some (.ref f27))) (l27:K.lookup f27=some ⟨oc27,od27,.func (W.fnOf "_law_least" "_law_least" (b8 (top 31)) (d8 (top 31)) (p8 (top 31)) .none kV27 dc27 pm27 an27 cd27 ct27),sl27⟩) (c27:W.codeIn K cd27 "_law_least"=true) (k27:W.keepIn K (.ref f27)=true)
  (a28:W.nsIn K mainGlobals "_law_asked"=some (some (.ref f28))) (l28:K.lookup f28=some ⟨oc28,od28,.func (W.fnOf "_law_asked" "_law_asked" (b8 (top 32)) (d8 (top 32)) (p8 (top 32)) .none kV28 dc28 pm28 an28 cd28 ct28),sl28⟩) (c28:W.codeIn K cd28 "_law_asked"=true) (k28:W.keepIn K (.ref f28)=true)
  (a29:W.nsIn K mainGlobals "law"=some (some (.ref f29))) (l29:K.lookup f29=some ⟨oc29,od29,.func (W.fnOf "law" "law" (b8 (top 33)) (d8 (top 33)) (p8 (top 33)) .none kV29 dc29 pm29 an29 cd29 ct29),sl29⟩) (c29:W.codeIn K cd29 "law"=true) (k29:W.keepIn K (.ref f29)=true)
  (z_bool:W.nsIn K mainGlobals "bool"=some none)
  (z_enumerate:W.nsIn K mainGlobals "enumerate"=some none)
  (z_int:W.nsIn K mainGlobals "int"=some none)
  (z_isinstance:W.nsIn K mainGlobals "isinstance"=some none)
  (z_len:W.nsIn K mainGlobals "len"=some none)
  (z_list:W.nsIn K mainGlobals "list"=some none)
  (z_range:W.nsIn K mainGlobals "range"=some none)
  (z_reversed:W.nsIn K mainGlobals "reversed"=some none)
  (z_sorted:W.nsIn K mainGlobals "sorted"=some none)
  (z_tuple:W.nsIn K mainGlobals "tuple"=some none)
  (z_zip:W.nsIn K mainGlobals "zip"=some none)
  : ∃fd:FuncData,(∀(s:Shared) (v:Value),BindsTo s fd ⟨[v],[]⟩ [("_law_script",v)])/\∀base:Heap,K.In base->base.Ns mainGlobals mg->FnOk l.prog w K mg base CX0 7 fa fd ["_law_script"] (spD K ut0):=by
 have e:=hfa.symm.trans (B3 X G a29);cases e;have T:Txt mg:=⟨E9 X G z_bool,E9 X G z_enumerate,E9 X G z_int,E9 X G z_isinstance,E9 X G z_len,E9 X G z_list,E9 X G z_range,E9 X G z_reversed,E9 X G z_sorted,E9 X G z_tuple,E9 X G z_zip⟩;have F0:=Y9 (st:=top 1) l0 c0 k0;have F1:=Y9 (st:=top 2) l1 c1 k1;have F2:=Y9 (st:=top 3) l2 c2 k2;have F3:=Y9 (st:=top 5) l3 c3 k3;have F4:=Y9 (st:=top 6) l4 c4 k4;have F5:=Y9 (st:=top 7) l5 c5 k5;have F6:=Y9 (st:=top 8) l6 c6 k6;have F7:=Y9 (st:=top 9) l7 c7 k7;have F8:=Y9 (st:=top 10) l8 c8 k8;have F9:=Y9 (st:=top 12) l9 c9 k9;have m0:=Y9 (st:=top 13) l10 c10 k10;have g3:=Y9 (st:=top 14) l11 c11 k11;have h3:=Y9 (st:=top 15) l12 c12 k12;have i4:=Y9 (st:=top 16) l13 c13 k13;have i5:=Y9 (st:=top 17) l14 c14 k14;have h4:=Y9 (st:=top 18) l15 c15 k15;have g4:=Y9 (st:=top 19) l16 c16 k16;have g5:=Y9 (st:=top 20) l17 c17 k17;have h9:=Y9 (st:=top 21) l18 c18 k18;have i3:=Y9 (st:=top 23) l19 c19 k19;have j1:=Y9 (st:=top 24) l20 c20 k20;have h5:=Y9 (st:=top 25) l21 c21 k21;have g8:=Y9 (st:=top 26) l22 c22 k22;have g7:=Y9 (st:=top 27) l23 c23 k23;have g6:=Y9 (st:=top 28) l24 c24 k24;have h0:=Y9 (st:=top 29) l25 c25 k25;have j2:=Y9 (st:=top 30) l26 c26 k26;have h6:=Y9 (st:=top 31) l27 c27 k27;have h7:=Y9 (st:=top 32) l28 c28 k28;have m1:=Y9 (st:=top 33) l29 c29 k29;refine⟨W.fnOf "law" "law" (b8 (top 33)) (d8 (top 33)) (p8 (top 33)) .none kV29 dc29 pm29 an29 cd29 ct29,λs v=>.of_eq rfl,λbase _ _=>?_⟩;have d2:FnN l.prog w K mg base "pair_names" 1 ["part"] J5:=⟨f0,_,qu0 F0 T ,B3 X G a0,k0,F0.binds (ps:=["part"]) λ_ _ _ _ _ _ us hl=>by obtain⟨_,rfl⟩:=us1 hl;rfl⟩;have g1:FnN l.prog w K mg base "values" 1 ["part"] m_values:=⟨f2,_,je0 F2 T ,B3 X G a2,k2,F2.binds (ps:=["part"]) λ_ _ _ _ _ _ us hl=>by obtain⟨_,rfl⟩:=us1 hl;rfl⟩;have g2:FnN l.prog w K mg base "way_to" 1 ["came", "pair"] zx0:=⟨f5,_,i80 F5 T ,B3 X G a5,k5,F5.binds (ps:=["came", "pair"]) λ_ _ _ _ _ _ us hl=>by obtain⟨_,_,rfl⟩:=us2 hl;rfl⟩;have b1:FnD l.prog w K mg base "are_links" 1 ["both"] V5:=⟨f6,_,pu0 F6 T ,B3 X G a6,k6,F6.binds (ps:=["both"]) λ_ _ _ _ _ _ us hl=>by obtain⟨_,rfl⟩:=us1 hl;rfl⟩;have U:FnD l.prog w K mg base "linked_pair" 1 ["both"] Z3:=⟨f7,_,q10 F7 T ,B3 X G a7,k7,F7.binds (ps:=["both"]) λ_ _ _ _ _ _ us hl=>by obtain⟨_,rfl⟩:=us1 hl;rfl⟩;have O:FnD l.prog w K mg base "_law_cell_at" 1 ["_law_script", "_law_k"] j9:=⟨f9,_,s90 F9 T ,B3 X G a9,k9,F9.binds (ps:=["_law_script", "_law_k"]) λ_ _ _ _ _ _ us hl=>by obtain⟨_,_,rfl⟩:=us2 hl;rfl⟩;have e5:FnN l.prog w K mg base "_law_pool" 1 ["_law_cell", "_law_turn"] z20:=⟨f10,_,oq0 m0 T ,B3 X G a10,k10,m0.binds (ps:=["_law_cell", "_law_turn"]) λ_ _ _ _ _ _ us hl=>by obtain⟨_,_,rfl⟩:=us2 hl;rfl⟩;have S:FnD l.prog w K mg base "_law_mix" 1 ["_law_cell", "_law_k"] X5:=⟨f11,_,mc0 g3 T ,B3 X G a11,k11,g3.binds (ps:=["_law_cell", "_law_k"]) λ_ _ _ _ _ _ us hl=>by obtain⟨_,_,rfl⟩:=us2 hl;rfl⟩;have Z:FnD l.prog w K mg base "_law_value" 1 ["_law_number", "_law_many"] T9:=⟨f12,_,qw0 h3 T ,B3 X G a12,k12,h3.binds (ps:=["_law_number", "_law_many"]) λ_ _ _ _ _ _ us hl=>by obtain⟨_,_,rfl⟩:=us2 hl;rfl⟩;have e7:FnD l.prog w K mg base "_law_part" 1 ["_law_number", "_law_some", "_law_pool_here"] z10:=⟨f14,_,nl0 i5 T ,B3 X G a14,k14,i5.binds (ps:=["_law_number", "_law_some", "_law_pool_here"]) λ_ _ _ _ _ _ us hl=>by obtain⟨_,_,_,rfl⟩:=us3 hl;rfl⟩;have J:FnN l.prog w K mg base "_law_vals" 1 ["_law_part_here"] m5:=⟨f16,_,nq0 g4 T ,B3 X G a16,k16,g4.binds (ps:=["_law_part_here"]) λ_ _ _ _ _ _ us hl=>by obtain⟨_,rfl⟩:=us1 hl;rfl⟩;have M:FnD l.prog w K mg base "_law_head" 1 ["_law_part_here"] Z5:=⟨f17,_,pt0 g5 T ,B3 X G a17,k17,g5.binds (ps:=["_law_part_here"]) λ_ _ _ _ _ _ us hl=>by obtain⟨_,rfl⟩:=us1 hl;rfl⟩;have b0:FnD l.prog w K mg base "_law_with" 1 ["_law_part_here", "_law_some"] V4:=⟨f18,_,oi0 h9 T ,B3 X G a18,k18,h9.binds (ps:=["_law_part_here", "_law_some"]) λ_ _ _ _ _ _ us hl=>by obtain⟨_,_,rfl⟩:=us2 hl;rfl⟩;have e9:FnD l.prog w K mg base "head" 2 ["part"] O2:=⟨f1,_,et0 F1 T d2,B3 X G a1,k1,F1.binds (ps:=["part"]) λ_ _ _ _ _ _ us hl=>by obtain⟨_,rfl⟩:=us1 hl;rfl⟩;have b4:FnN l.prog w K mg base "_law_values" 2 ["_law_number", "_law_count", "_law_many"] M7:=⟨f13,_,rk0 i4 T Z,B3 X G a13,k13,i4.binds (ps:=["_law_number", "_law_count", "_law_many"]) λ_ _ _ _ _ _ us hl=>by obtain⟨_,_,_,rfl⟩:=us3 hl;rfl⟩;have d0:FnD l.prog w K mg base "_law_unfold" 2 ["_law_web_here", "_law_times", "_law_cell"] M6:=⟨f19,_,sx0 i3 T S J b0,B3 X G a19,k19,i3.binds (ps:=["_law_web_here", "_law_times", "_law_cell"]) λ_ _ _ _ _ _ us hl=>by obtain⟨_,_,_,rfl⟩:=us3 hl;rfl⟩;have b3:FnD l.prog w K mg base "_law_changed" 2 ["_law_web_here", "_law_cell"] R4:=⟨f21,_,s50 h5 T J Z b0,B3 X G a21,k21,h5.binds (ps:=["_law_web_here", "_law_cell"]) λ_ _ _ _ _ _ us hl=>by obtain⟨_,_,rfl⟩:=us2 hl;rfl⟩;have e1:FnD l.prog w K mg base "_law_go_on" 2 ["_law_one", "_law_other", "_law_pair"] W7:=⟨f22,_,qy0 g8 T M J,B3 X G a22,k22,g8.binds (ps:=["_law_one", "_law_other", "_law_pair"]) λ_ _ _ _ _ _ us hl=>by obtain⟨_,_,_,rfl⟩:=us3 hl;rfl⟩;have b2:FnD l.prog w K mg base "_law_value_at" 2 ["_law_web_here", "_law_way", "_law_k"] U3:=⟨f24,_,tq0 g6 T J,B3 X G a24,k24,g6.binds (ps:=["_law_web_here", "_law_way", "_law_k"]) λ_ _ _ _ _ _ us hl=>by obtain⟨_,_,_,rfl⟩:=us3 hl;rfl⟩;have Y:FnD l.prog w K mg base "_law_unlike" 2 ["_law_web_here", "_law_first", "_law_second"] W0:=⟨f25,_,r00 h0 T M,B3 X G a25,k25,h0.binds (ps:=["_law_web_here", "_law_first", "_law_second"]) λ_ _ _ _ _ _ us hl=>by obtain⟨_,_,_,rfl⟩:=us3 hl;rfl⟩;have b5:FnD l.prog w K mg base "are_parting" 3 ["one", "other", "both"] T3:=⟨f8,_,sz0 F8 T b1 e9 U,B3 X G a8,k8,F8.binds (ps:=["one", "other", "both"]) λ_ _ _ _ _ _ us hl=>by obtain⟨_,_,_,rfl⟩:=us3 hl;rfl⟩;have e8:FnD l.prog w K mg base "_law_web" 3 ["_law_cells", "_law_many", "_law_pool_here"] zl0:=⟨f15,_,me0 h4 T S e7 b4,B3 X G a15,k15,h4.binds (ps:=["_law_cells", "_law_many", "_law_pool_here"]) λ_ _ _ _ _ _ us hl=>by obtain⟨_,_,_,rfl⟩:=us3 hl;rfl⟩;have e6:FnD l.prog w K mg base "_law_shut" 3 ["_law_one", "_law_other", "_law_pair"] K6:=⟨f23,_,nr0 g7 T e1,B3 X G a23,k23,g7.binds (ps:=["_law_one", "_law_other", "_law_pair"]) λ_ _ _ _ _ _ us hl=>by obtain⟨_,_,_,rfl⟩:=us3 hl;rfl⟩;have e3:FnD l.prog w K mg base "_law_level" 3 ["_law_web_here", "_law_level_here"] U7:=⟨f26,_,qz0 j2 T Y J,B3 X G a26,k26,j2.binds (ps:=["_law_web_here", "_law_level_here"]) λ_ _ _ _ _ _ us hl=>by obtain⟨_,_,rfl⟩:=us2 hl;rfl⟩;have b6:FnD l.prog w K mg base "paired_walk" 4 ["one", "other", "start"] W6:=⟨f4,_,rb0 F4 T b1 b5 e9 U g1 g2,B3 X G a4,k4,F4.binds (ps:=["one", "other", "start"]) λ_ _ _ _ _ _ us hl=>by obtain⟨_,_,_,rfl⟩:=us3 hl;rfl⟩;have e4:FnD l.prog w K mg base "_law_small" 4 ["_law_script", "_law_most"] J1:=⟨f20,_,qt0 j1 T O e5 e8,B3 X G a20,k20,j1.binds (ps:=["_law_script", "_law_most"]) λ_ _ _ _ _ _ us hl=>by obtain⟨_,_,rfl⟩:=us2 hl;rfl⟩;have e2:FnD l.prog w K mg base "_law_least" 4 ["_law_web_here", "_law_p", "_law_q", "_law_most"] ze0:=⟨f27,_,qr0 h6 T M e3,B3 X G a27,k27,h6.binds (ps:=["_law_web_here", "_law_p", "_law_q", "_law_most"]) λ_ _ _ _ _ _ us hl=>by obtain⟨_,_,_,_,rfl⟩:=us4 hl;rfl⟩;have d1:FnD l.prog w K mg base "parting_way" 5 ["web", "p", "q"] Y0:=⟨f3,_,rd0 F3 T b6,B3 X G a3,k3,F3.binds (ps:=["web", "p", "q"]) λ_ _ _ _ _ _ us hl=>by obtain⟨_,_,_,rfl⟩:=us3 hl;rfl⟩;have e0:FnD l.prog w K mg base "_law_asked" 6 ["_law_web_here", "_law_p", "_law_q"] N5:=⟨f28,_,qs0 h7 T e2 e6 Y b2 d1,B3 X G a28,k28,h7.binds (ps:=["_law_web_here", "_law_p", "_law_q"]) λ_ _ _ _ _ _ us hl=>by obtain⟨_,_,_,rfl⟩:=us3 hl;rfl⟩;exact Za0 m1 T e0 O b3 S e4 d0
theorem pr0:∀ns:List Int,Rps K H B (ns.map D.int) (ns.map V.int)
 | []=>by rw[List.map_nil,List.map_nil,m9]
 | n::ns=>by
  rw[List.map_cons,List.map_cons,o7];exact⟨_,_,rfl,by rw[m8],pr0 ns⟩
theorem ij0{ns:List Int}(hK:ps0 K=true)(hS:SqL K H a (ns.map V.int))(hm:ut0 [.lst (ns.map .int)]=some (.bl true)):spD K ut0 [.ref a] H (λv _=>v=.bl true) λ_ _ _=>False:=by
 refine⟨λ_=>False,[.lst (ns.map .int)],.bl true,λ_ z=>z.elim,?_,hm,λv H' _ r=>by rw[X8] at r;exact r⟩;rw[o7];refine⟨_,[],rfl,?_,by rw[m9]⟩;rw[X7];exact⟨a,ns.map V.int,rfl,script_at hK hS,pr0 ns⟩
end Ma
open PySem.W PyProof.Rows
theorem PySem.W.Fast.tw14790770681649538288:True:=trivial
theorem PySem.W.Fast.tw16854749325835821844:True:=trivial
theorem PySem.W.Fast.tw1643340093155162080:True:=trivial
theorem PySem.W.Fast.tw7059996276220945301:True:=trivial
theorem PySem.W.Fast.tw16676020051801685054:True:=trivial
theorem PySem.W.Fast.tw15433190858814266686:True:=trivial
theorem PySem.W.Fast.tw10696773537220865311:True:=trivial
theorem PySem.W.Fast.tw10855915076741308108:True:=trivial
theorem PySem.W.Fast.tw1533858234368078809:True:=trivial
theorem PySem.W.Fast.tw15582561182211566762:True:=trivial
theorem PySem.W.Fast.tw10423655198418788686:True:=trivial
theorem PySem.W.Fast.tw14232471689002619430:True:=trivial
theorem PySem.W.Fast.tw9977077650855452037:True:=trivial
theorem PySem.W.Fast.tw435392069670511217:True:=trivial
theorem PySem.W.Fast.tw14802965784003438067:True:=trivial
theorem PySem.W.Fast.tw13177071715665241646:True:=trivial
theorem PySem.W.Fast.tw5202976904711849445:True:=trivial
theorem PySem.W.Fast.tw9416369835667957561:True:=trivial
theorem PySem.W.Fast.tw3897395616488776456:True:=trivial
theorem PySem.W.Fast.tw6226714702193737212:True:=trivial
theorem PySem.W.Fast.tw3846590313970452365:True:=trivial
theorem PySem.W.Fast.tw1534107145909529128:True:=trivial
theorem PySem.W.Fast.tw14666824462387504613:True:=trivial
theorem PySem.W.Fast.tw17243314008767301353:True:=trivial
theorem PySem.W.Fast.tw2527681022350397550:True:=trivial
theorem PySem.W.Fast.tw17506499683172570941:True:=trivial
theorem PySem.W.Fast.tw1080351735526735542:True:=trivial
theorem PySem.W.Fast.tw11620521643234114518:True:=trivial
theorem PySem.W.Fast.tw4877132543414254338:True:=trivial
theorem PySem.W.Fast.tw4715735551172978263:True:=trivial
theorem PySem.W.Fast.tw2297790152729293554:True:=trivial
theorem PySem.W.Fast.tw16011842528300368756:True:=trivial
theorem PySem.W.Fast.tw14583532830175335607:True:=trivial
theorem PySem.W.Fast.tw3112678860037221709:True:=trivial
theorem PySem.W.Fast.tw10716756051719695672:True:=trivial
theorem PySem.W.Fast.tw13432552761125856899:True:=trivial
theorem PySem.W.Fast.tw8910921610222257111:True:=trivial
theorem PySem.W.Fast.tw4534947358392914247:True:=trivial
theorem PySem.W.Fast.tw16469819863631764936:True:=trivial
theorem PySem.W.Fast.tw3788889401614128519:True:=trivial
theorem PySem.W.Fast.tw4838226056219795068:True:=trivial
theorem PySem.W.Fast.tw7684486413343060283:True:=trivial
theorem PySem.W.Fast.tw15083465880048872021:True:=trivial
theorem PySem.W.Fast.tw3390221975909579822:True:=trivial
theorem PySem.W.Fast.tw6762027288941279074:True:=trivial
theorem PySem.W.Fast.tw2714355038779760073:True:=trivial
theorem PySem.W.Fast.tw4262846731057860417:True:=trivial
theorem PySem.W.Fast.tw6554593062998650435:True:=trivial
theorem PySem.W.Fast.tw16722151136504158639:True:=trivial
theorem PySem.W.Fast.tw12204537160301463975:True:=trivial
theorem PySem.W.Fast.tw11489022787009029804:True:=trivial
theorem PySem.W.Fast.tw11568214151416581856:True:=trivial
theorem PySem.W.Fast.tw4876702314182374919:True:=trivial
theorem PySem.W.Fast.tw13664197953395914949:True:=trivial
theorem PySem.W.Fast.tw4372487480168851374:True:=trivial
theorem PySem.W.Fast.tw193437334480651928:True:=trivial
theorem PySem.W.Fast.tw13285110459738934781:True:=trivial
theorem PySem.W.Fast.tw604249486323483935:True:=trivial
theorem PySem.W.Fast.tw9560639388464722044:True:=trivial
theorem PySem.W.Fast.tw18015519337913975652:True:=trivial
theorem PySem.W.Fast.tw4436774302669584644:True:=trivial
theorem PySem.W.Fast.tw13400560792460284928:True:=trivial
theorem PySem.W.Fast.tw17392325524213189080:True:=trivial
theorem PySem.W.Fast.tw2532976587838888945:True:=trivial
theorem PySem.W.Fast.tw2019697060287794884:True:=trivial
theorem PySem.W.Fast.tw2439971491229493117:True:=trivial
theorem PySem.W.Fast.tw12850522815048178471:True:=trivial
theorem PySem.W.Fast.tw2745702149792751283:True:=trivial
theorem PySem.W.Fast.tw17403225206892269943:True:=trivial
theorem PySem.W.Fast.tw4682224045842771554:True:=trivial
theorem PySem.W.Fast.tw247171165589444980:True:=trivial
theorem PySem.W.Fast.tw8175411240151552854:True:=trivial
theorem PySem.W.Fast.tw10325624172983479636:True:=trivial
theorem PySem.W.Fast.tw6860898524075855844:True:=trivial
theorem PySem.W.Fast.tw1707413649052010760:True:=trivial
theorem PySem.W.Fast.tw14234970018845383742:True:=trivial
theorem PySem.W.Fast.tw8861358482336871470:True:=trivial
theorem PySem.W.Fast.tw10529406794762191884:True:=trivial
theorem PySem.W.Fast.tw17527727488026177484:True:=trivial
theorem PySem.W.Fast.tw17200944745651834448:True:=trivial
theorem PySem.W.Fast.tw4738382538503469349:True:=trivial
theorem PySem.W.Fast.tw12052831331458095097:True:=trivial
theorem PySem.W.Fast.tw17289015148283795443:True:=trivial
theorem PySem.W.Fast.tw430671494331892556:True:=trivial
theorem PySem.W.Fast.tw8951935766292441677:True:=trivial
theorem PySem.W.Fast.tw16895134294464408383:True:=trivial
theorem PySem.W.Fast.tw7658124885266121045:True:=trivial
theorem PySem.W.Fast.tw3972628967726015225:True:=trivial
theorem PySem.W.Fast.tw14585089877910370079:True:=trivial
theorem PySem.W.Fast.tw10388572374656786267:True:=trivial
theorem PySem.W.Fast.tw11995426927634311766:True:=trivial
theorem PySem.W.Fast.tw11876695094714328237:True:=trivial
theorem PySem.W.Fast.tw13368353552206545241:True:=trivial
theorem PySem.W.Fast.tw270096527255018668:True:=trivial
theorem PySem.W.Fast.tw10235884127382064106:True:=trivial
theorem PySem.W.Fast.tw10192017056427342463:True:=trivial
theorem PySem.W.Fast.tw10412258274244849536:True:=trivial
theorem PySem.W.Fast.tw11312626203980538055:True:=trivial
theorem PySem.W.Fast.tw6941845672981524581:True:=trivial
theorem PySem.W.Fast.tw16128095513119531335:True:=trivial
set_option maxRecDepth 100000 in
theorem PySem.Challenge.cw_graphpack_k13_least_parting_ways_holds : PySem.Challenge.rw_graphpack_k13_least_parting_ways.Holds := by
 w_on;o_law;k_head;(case hw=>w_witness2)
 k_fill
 refine DL.gj0 (l:=PySem.Challenge.rw_graphpack_k13_least_parting_ways) (n:=63) (k:=7) (x := "_law_script") (CX:=L2.CX0) (sp:=λK=>DL.spD K Ma.ut0) rfl (by decide) rfl ⟨rfl,by decide,by decide⟩ (λw h Y=>W.kIn_of Y) ?F ?S ?C
 case F =>
  intro w mg fa h KX G hmg;refine' Ma.all_mk KX G hmg ?a0 ?l0 ?c0 ?k0 ?a1 ?l1 ?c1 ?k1 ?a2 ?l2 ?c2 ?k2 ?a3 ?l3 ?c3 ?k3 ?a4 ?l4 ?c4 ?k4 ?a5 ?l5 ?c5 ?k5 ?a6 ?l6 ?c6 ?k6 ?a7 ?l7 ?c7 ?k7 ?a8 ?l8 ?c8 ?k8 ?a9 ?l9 ?c9 ?k9 ?a10 ?l10 ?c10 ?k10 ?a11 ?l11 ?c11 ?k11 ?a12 ?l12 ?c12 ?k12 ?a13 ?l13 ?c13 ?k13 ?a14 ?l14 ?c14 ?k14 ?a15 ?l15 ?c15 ?k15 ?a16 ?l16 ?c16 ?k16 ?a17 ?l17 ?c17 ?k17 ?a18 ?l18 ?c18 ?k18 ?a19 ?l19 ?c19 ?k19 ?a20 ?l20 ?c20 ?k20 ?a21 ?l21 ?c21 ?k21 ?a22 ?l22 ?c22 ?k22 ?a23 ?l23 ?c23 ?k23 ?a24 ?l24 ?c24 ?k24 ?a25 ?l25 ?c25 ?k25 ?a26 ?l26 ?c26 ?k26 ?a27 ?l27 ?c27 ?k27 ?a28 ?l28 ?c28 ?k28 ?a29 ?l29 ?c29 ?k29 ?z_bool ?z_enumerate ?z_int ?z_isinstance ?z_len ?z_list ?z_range ?z_reversed ?z_sorted ?z_tuple ?z_zip
  (case a0=>k_is)
  (case l0=>k_is)
  (case c0=>k_is)
  (case k0=>k_is)
  (case a1=>k_is)
  (case l1=>k_is)
  (case c1=>k_is)
  (case k1=>k_is)
  (case a2=>k_is)
  (case l2=>k_is)
  (case c2=>k_is)
  (case k2=>k_is)
  (case a3=>k_is)
  (case l3=>k_is)
  (case c3=>k_is)
  (case k3=>k_is)
  (case a4=>k_is)
  (case l4=>k_is)
  (case c4=>k_is)
  (case k4=>k_is)
  (case a5=>k_is)
  (case l5=>k_is)
  (case c5=>k_is)
  (case k5=>k_is)
  (case a6=>k_is)
  (case l6=>k_is)
  (case c6=>k_is)
  (case k6=>k_is)
  (case a7=>k_is)
  (case l7=>k_is)
  (case c7=>k_is)
  (case k7=>k_is)
  (case a8=>k_is)
  (case l8=>k_is)
  (case c8=>k_is)
  (case k8=>k_is)
  (case a9=>k_is)
  (case l9=>k_is)
  (case c9=>k_is)
  (case k9=>k_is)
  (case a10=>k_is)
  (case l10=>k_is)
  (case c10=>k_is)
  (case k10=>k_is)
  (case a11=>k_is)
  (case l11=>k_is)
  (case c11=>k_is)
  (case k11=>k_is)
  (case a12=>k_is)
  (case l12=>k_is)
  (case c12=>k_is)
  (case k12=>k_is)
  (case a13=>k_is)
  (case l13=>k_is)
  (case c13=>k_is)
  (case k13=>k_is)
  (case a14=>k_is)
  (case l14=>k_is)
  (case c14=>k_is)
  (case k14=>k_is)
  (case a15=>k_is)
  (case l15=>k_is)
  (case c15=>k_is)
  (case k15=>k_is)
  (case a16=>k_is)
  (case l16=>k_is)
  (case c16=>k_is)
  (case k16=>k_is)
  (case a17=>k_is)
  (case l17=>k_is)
  (case c17=>k_is)
  (case k17=>k_is)
  (case a18=>k_is)
  (case l18=>k_is)
  (case c18=>k_is)
  (case k18=>k_is)
  (case a19=>k_is)
  (case l19=>k_is)
  (case c19=>k_is)
  (case k19=>k_is)
  (case a20=>k_is)
  (case l20=>k_is)
  (case c20=>k_is)
  (case k20=>k_is)
  (case a21=>k_is)
  (case l21=>k_is)
  (case c21=>k_is)
  (case k21=>k_is)
  (case a22=>k_is)
  (case l22=>k_is)
  (case c22=>k_is)
  (case k22=>k_is)
  (case a23=>k_is)
  (case l23=>k_is)
  (case c23=>k_is)
  (case k23=>k_is)
  (case a24=>k_is)
  (case l24=>k_is)
  (case c24=>k_is)
  (case k24=>k_is)
  (case a25=>k_is)
  (case l25=>k_is)
  (case c25=>k_is)
  (case k25=>k_is)
  (case a26=>k_is)
  (case l26=>k_is)
  (case c26=>k_is)
  (case k26=>k_is)
  (case a27=>k_is)
  (case l27=>k_is)
  (case c27=>k_is)
  (case k27=>k_is)
  (case a28=>k_is)
  (case l28=>k_is)
  (case c28=>k_is)
  (case k28=>k_is)
  (case a29=>k_is)
  (case l29=>k_is)
  (case c29=>k_is)
  (case k29=>k_is)
  (case z_bool=>k_is)
  (case z_enumerate=>k_is)
  (case z_int=>k_is)
  (case z_isinstance=>k_is)
  (case z_len=>k_is)
  (case z_list=>k_is)
  (case z_range=>k_is)
  (case z_reversed=>k_is)
  (case z_sorted=>k_is)
  (case z_tuple=>k_is)
  (case z_zip=>k_is)
 case S=>exact λw H a ns hl hS=>Ma.ij0 (by kernel_rfl) hS (Ma.f50 ns hl)
 case C=>exact λ_ _ _ _ z=>z
#print axioms PySem.Challenge.cw_graphpack_k13_least_parting_ways_holds
