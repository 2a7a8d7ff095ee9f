import PyProof.Rows.All
import Wide.All
import OpenK.AllK
import Wide.FinOn
import Lean
import PyProof.EqAt
import PyProof.EqKinds
import PyProof.TupleCall
import PyProof.NeKinds
import PyProof.Rows.SetFrom
import KE.KRevIter
import PyProof.ZipIter
import PyProof.TupleOfGen
import PyProof.Rows.ZipGen
import PyProof.EnumMake
import PyProof.EnumFor
import PyProof.ListRange
import PyProof.LayNew
import KE.KDictOf
import KE.KIntText
import KE.IntTextLaws
import PyProof.StrCalls2
import PyProof.Rows.StrNews2
import PyProof.StrLawsTight
import PyProof.ExcArgsOwn
import PyProof.ExcAttrAll.ValueError
import PyProof.IsInstanceT
import PyProof.RulesAs
import PyProof.Rows.Tup
import OpenK.KOwn
import PyProof.ExcInit
import OpenK.KCls
import OpenK.KMake
import PyProof.InstStoreFacts
import PyProof.FactsAll.object
import PyProof.IsiStr
import KE.KIsAll
import PyProof.ListMulRight
import PyProof.AttrMissHeap
import PyProof.RaisesMany
import PyProof.RulesTry
import PyProof.NsDelKeeps
import PyProof.Rows.FStr
import OpenK.KWalk
import PyProof.AutoListH
import PyProof.CallFns
import PyProof.Rows.SortStr
import KE.KDictSum
import PyProof.Draws
import PyProof.Rows.CallKwBuiltin
import PyProof.SumWalkG
import KE.KDictLaws
import PyProof.DictTruth
import PyProof.Rows.SortShellK
import PyProof.Rows.SortWalk
import KE.KDictList
import PySem.Challenge.RW_graphpack_k23_whole_copies_stand_alone
set_option maxHeartbeats 0
noncomputable section
open PySem
def A0:=@PySem.wpAny_bind
def A1:=@PySem.wpAny_pure
def A2:=@PyProof.Rows.wpS_pure
def A3:=@PyProof.Rows.wpS_bind
def A4:=@Nat.le_refl
def A5:=@List.mem_cons_self
def A6:=@PySem.Heap.lt_size
def A7:=@List.mem_cons_of_mem
def A8:=@PySem.Heap.get?_push_of_some
def A9:=@Nat.ne_of_lt
def B0:=@List.mem_map
def B1:=@PySem.W.mg_of
def B2:=@List.mem_cons
def B3:=@Option.some.inj
def B4:=@List.mem_append
def B5:=@PySem.Heap.get?_push_size
def B6:=@Nat.lt_of_lt_of_le
def B7:=@Ne.symm
def B8:=@Nat.ne_of_gt
def B9:=@PySem.wpAny_field
def C0:=@PyProof.Rows.wpS_mono
def C1:=@Bool.false_ne_true
def C2:=@Nat.le_trans
def C3:=@PySem.wpAny_holding
def C4:=@Nat.le_add_right
def C5:=@PyProof.Rows.wpS_forRange
def C6:=@List.mem_append_right
def C7:=@List.getElem?_eq_getElem
def C8:=@getElem?_pos
def C9:=@List.mem_range
def D0:=@PySem.wpAny_mono
def D1:=@PySem.wpAny_call_entry
def D2:=@PySem.PassesOwn.never
def D3:=@Nat.zero_le
def D4:=@PyProof.Rows.wpS_get
def D5:=@PySem.wpAny_rule
def D6:=@PySem.F.slot_zip_next
def D7:=@PyProof.Rows.wpS_modify
def D8:=@PySem.W.mg_none_of
def D9:=@Nat.lt_irrefl
def E1:=@List.getElem?_eq_some_iff
def E2:=@congrArg
def E3:=@PySem.wpAny_callSpecial?_slot
def E4:=@PySem.wpAny_setField_rec
def E5:=@List.pairwise_iff_getElem
def E6:=@Nat.le_of_lt
def E7:=@List.mem_append_left
def E8:=@List.getElem_mem
def E9:=@PyProof.Rows.callWith_type1
def G0:=@List.mem_of_getElem?
def H0:=@PySem.wpAny_newObj_type
def I0:=@Nat.lt_trans
def K0:=@PySem.wpAny_loadPart'
def K2:=@PySem.wpAny_seqItems
def L1:=@Int.emod_nonneg
def L3:=@PySem.codeAny_builtin
def L4:=@List.mem_filterMap
def L5:=@PySem.mem_of_lookup
def L6:=@PySem.wpAny_typeOf
def L7:=@PySem.W.kia_one
def L8:=@List.mem_reverse
def L9:=@Int.emod_lt_of_pos
def M1:=@PySem.wpAny_Call_Name_kw
def N0:=@List.nodup_cons
def N1:=@PySem.wpAny_attempt
def N2:=@List.pairwise_append
def N3:=@PyProof.Rows.wpS_lift
def N4:=@List.mem_iff_getElem
def N9:=@List.mem_singleton
def O0:=@List.eq_nil_of_length_eq_zero
def P1:=@PySem.wpAny_truthy_bool
def P2:=@PySem.wpAny_passesOwn
def P3:=@Prod.ext
def P4:=@List.map_congr_left
def P5:=@PySem.plainId_quiet
def P6:=@Nat.lt_succ_of_lt
def P7:=@Array.perm_iff_toList_perm
def P8:=@decide_eq_false
def P9:=@PyProof.Rows.slot_tuple_getitem
def Q1:=@PySem.typeIs_str
def Q2:=@PySem.Heap.get?_update_other
def R1:=@List.nodup_nil
def S1:=@PySem.wpAny_nextOf_list_item
def S2:=@PySem.F.entry_zip_next
def T0:=@PySem.F.args_zip_next_1
def U1:=@PySem.wpAny_pyIter_enum
def U2:=@List.idxOf_lt_length_of_mem
def W1:=@PySem.W.binds_K
def X0:=@beq_eq_false_iff_ne
def X1:=@PySem.wpAny_standAt
def X2:=@PySem.wpAny_pyIter_list
def X9:=@PySem.Calls.spliced_nil
def Y1:=@PySem.Calls.spliced_cons
def Y2:=@PySem.codeAny_mono
def Y3:=@List.of_mem_zip
def d4:=@PySem.SeqAt.EqAt.same
def d5:=@PySem.typeIs_int
def d6:=@Nat.le_of_eq
def g9:=@PySem.wpAny_specialOf
def h8:=@PySem.wpAny_updateSeq
def i0:=@PySem.Heap.get?_update_self
def i4:=@PySem.wpAny_letGo
def i5:=@Array.getElem?_eq_getElem
def i6:=@PySem.wpAny_nextOf_list_end
def i7:=@List.rel_of_pairwise_cons
def i8:=@List.mem_of_mem_take
def i9:=@List.pairwise_reverse
def j0:=@PySem.F.slot_dict_keyiterator_next
def j3:=@List.pairwise_map
def n5:=@PySem.codeAny_call_builtin
def n9:=@PySem.SeqAt.EqAt.int_str
def o0:=@PySem.SeqAt.EqAt.str_int
def p4:=@PySem.concat_meets
def p9:=@PySem.call_meets
def q0:=@Nat.lt_of_le_of_lt
def r0:=@Nat.lt_succ_self
def r8:=@PySem.wpAny_isInstance
def r9:=@PySem.wpAny_newTuple
def t0:=@PySem.F.plain_extend_loop
def u4:=@List.mem_map_of_mem
def u7:=@PySem.wpAny_onRaise
def u8:=@Array.getElem?_eq_some_iff
def v3:=@PyProof.Rows.listItems_at
def w4:=@List.pairwise_cons
def w8:=@List.append_nil
def x0:=@List.nodup_append
def x5:=@List.map_snd_zip
def x6:=@PySem.wpAny_typeNameOfWhole_keyiter
def x8:=@PySem.F.slot_enumerate_next
def x9:=@List.length_range
def y4:=@PySem.F.typeOf_object_class
def y6:=@PySem.wpAny_eqBool_int
def y8:=@PySem.Paired.length
def y9:=@List.mem_filter
def A10:=@PySem.wpAny_execs_nil
def A20:=@PySem.noFill_tuple_add
def A30:=@PySem.seq_tuple_add
def A40:=@PySem.F.slot_tuple_add
def A50:=@PySem.F.entry_tuple_add
def A60:=@PySem.F.args_tuple_add_2
def A80:=@PySem.SeqAt.EqAt.none_bool
def A90:=@PySem.SeqAt.EqAt.none_int
def Aa0:=@PySem.SeqAt.EqAt.none_str
def Ab0:=@PySem.SeqAt.EqAt.bool_none
def Ac0:=@PySem.SeqAt.EqAt.bool_bool
def Ad0:=@PySem.SeqAt.EqAt.bool_int
def Ae0:=@PySem.SeqAt.EqAt.bool_str
def Af0:=@PySem.SeqAt.EqAt.int_none
def Ag0:=@PySem.SeqAt.EqAt.int_bool
def Ah0:=@PySem.SeqAt.EqAt.int_int
def Ai0:=@PySem.SeqAt.EqAt.str_none
def Aj0:=@PySem.SeqAt.EqAt.str_bool
def Ak0:=@PySem.SeqAt.EqAt.str_str
def Al0:=@Option.map_eq_some_iff
def Am0:=@PySem.tupleKind_room_in1
def An0:=@PySem.F.plainAttrs_list
def Ao0:=@List.length_eq_zero_iff
def Ap0:=@PySem.callType_codes
def Aq0:=@PySem.isSubtype_stop
def As0:=@List.getElem?_zip_eq_some
def At0:=@PySem.wpAny_letOwnedTupleGo_enum
def Au0:=@PySem.wpAny_updateSeq_pair
def Av0:=@PySem.F.called_enumerate
def Aw0:=@List.mem_of_mem_drop
def Ax0:=@List.ext_getElem?
def B00:=@PySem.wpAny_dictEntries
def B10:=@PySem.wpAny_dictEpoch
def B20:=@List.nodup_iff_pairwise_ne
def B30:=@List.Pairwise.imp_of_mem
def B40:=@List.nodup_range
def B50:=@decide_eq_true
def B60:=@of_decide_eq_true
def B80:=@List.getElem_inj
def Bb0:=@PySem.Calls.Name_function_global
def Bi0:=@PySem.wpAny_pyNext_list_item
def Bo0:=@Nat.min_le_right
def By0:=@PySem.Calls.callWith_builtin
def Bz0:=@Nat.le_of_not_lt
def C00:=@Nat.add_le_add_left
def C10:=@PySem.wpAny_comprehension_free
def C50:=@Bool.eq_false_iff
def Cj0:=@PySem.SeqAt.RcAt.lists_lengths
def Cl0:=@Array.getElem?_eq_none
def Cn0:=@List.pairwise_singleton
def Co0:=@Nat.lt_trichotomy
def Cw0:=@PySem.F.slot_int_mul
def D40:=@List.Sublist.nodup
def D50:=@List.sublist_append_right
def D60:=@List.sublist_append_left
def D80:=@List.reverse_perm
def Da0:=@Nat.le_succ_of_le
def Dc0:=@PySem.F.entry_dict_keyiterator_next
def Dd0:=@PySem.F.args_dict_keyiterator_next_1
def Di0:=@PySem.F.entry_enumerate_next
def Dj0:=@PySem.F.args_enumerate_next_1
def Dk0:=@List.Nodup.length_le_of_subset
def Dm0:=@Classical.not_not
def Dp0:=@List.mem_or_eq_of_mem_set
set_option Elab.async false
set_option linter.all false
set_option maxRecDepth 100000
variable{prog:Program}{A:Around}{E Q:Value->Shared->Prop}{a it dx fa I z i1 i2 l1 l2:Addr}{o e b c iter value elt:Expr}{tl us vs its:List Value}{od an:Option Addr}{x name qual x2 root:Str}{r caps idx S T:List Nat}{R:Result->Shared->Prop}{y u v dV doc pm cdv ct oc vl vu:Value}{K:W.Frag}{xs items ys:Array Value}{h' base:Heap}{α β κ:Type}{pins:List (Addr×Obj)}{t' i j n pl m k1 x1 ia ib ac bc na:Nat}{ch fp:List Addr}{N loose N' cs rs:List Str}{s':Shared}{pos pos' p tpos apos p2 cpos py spos px pos2 np:Pos}{rest body:List Stmt}{st:Stmt}{es ifs elts:List Expr}{lo hi:Option Int}{fd:FuncData}{sc scope:Scope}{mg:Str->Option Value}{q p0:Nat×Nat}{XP:(Str->Option Value)->Heap->Prop}{YP:World->Heap->Prop}{oa:Obj}
namespace KfT
theorem sl:Slot "function" "__getattribute__" "object.__getattribute__" := by
 refine .of (owner := "object") (n := "__getattribute__") ?_ (by decide +kernel) (by decide +kernel) (by decide +kernel) ?_ ?_
 ·rw[typeLookup_type,builtinLookup_eq_fast];kernel_rfl
 ·first|exact .inl (by decide +kernel)|exact .inr (by decide +kernel)
 ·rw[isSubtype_type];kernel_rfl
theorem lk:typeLookup (.type "function") "__class__"=pure (some (.builtin "object.__class__")):=by
 rw[typeLookup_type,builtinLookup_eq_fast];kernel_rfl
theorem ow:isSubtype (.type "function") (.type (".".intercalate ("object.__class__".cutAt '.').dropLast))=pure true:=by
 rw[F.owner_object_class,isSubtype_type];kernel_rfl
section
variable{P:Program}{W:World}{X:Value->Shared->Prop}{s:Shared}{f:Addr}{y:Obj}
theorem gs(e:s.heap.get? f=some y)(c:y.cls=.type "function")(q:R (.ok (.ret (.type "function"))) s) :
  codeAny (model P W) A (.call (.builtin "getset_descriptor.__get__") ⟨[.builtin "object.__class__",.ref f,.type "function"],[]⟩) R s:=by
 obtain⟨hh,gg,dd,tt,oo⟩:=s;have z1:(⟨hh,gg,dd,tt,oo⟩:Shared).TypeIs (.ref f) "function" := ⟨_,e,c⟩;have z2:=ow;refine n5 F.slot_gs_get.plain F.entry_gs_get (F.slot_gs_get.check _ _ _ _ _ _ _ _ y4 (F.args_gs_get _ _ _) ?_)
 repeat (any_goals (first|assumption|wp_step))
 refine⟨Code.quiet_builtin _ (by decide +kernel),L3 F.entry_object_class ?_⟩
 repeat (any_goals (first|assumption|wp_step))
theorem ga{tk:Tok}{R:Fin->Shared->Prop}(e:s.heap.get? f=some y)(c:y.cls=.type "function")(q:R (.done (.ret (.type "function"))) s) :
  wpAny (model P W) A (Builtin.«object.__getattribute__» ⟨[.ref f,.str "__class__" tk],[]⟩) R X s:=by
 obtain⟨hh,gg,dd,tt,oo⟩:=s;have z1:(⟨hh,gg,dd,tt,oo⟩:Shared).TypeIs (.ref f) "function" := ⟨_,e,c⟩;have z2:(⟨hh,gg,dd,tt,oo⟩:Shared).TypeIs (.builtin "object.__class__") "getset_descriptor" := y4;have z3:=lk;have z4:=y4;have z5:=F.slot_gs_get.lookup;have z6:=F.slot_gs_set.lookup
 repeat (any_goals (first|assumption|wp_step))
 refine gs e c ?_
 repeat (any_goals (first|assumption|wp_step))
variable{hh:Heap}{gg:Array GenState}{dd:Drawn}{tt:Nat}{oo:OsState}
theorem by'{tk:Tok}{R:Value->Shared->Prop}(e:hh.get? f=some y)(c:y.cls=.type "function")(q:R (.type "function") ⟨hh,gg,dd,tt,oo⟩):wpAny (model P W) A (getAttrBy (.ref f) (.str "__class__" tk) false) R X ⟨hh,gg,dd,tt,oo⟩:=by
 have z1:(⟨hh,gg,dd,tt,oo⟩:Shared).TypeIs (.ref f) "function" := ⟨_,e,c⟩;have z2:=sl.lookup;have z3:=sl.bind (.ref f)
 repeat (any_goals (first|assumption|wp_step))
 refine n5 sl.plain F.entry_object_getattribute (sl.check _ _ _ _ _ _ _ _ z1 (F.args_object_getattribute_2 _ _) (ga e c ?_))
 repeat (any_goals (first|assumption|wp_step))
theorem at'{R:Option Value->Shared->Prop}(e:hh.get? f=some y)(c:y.cls=.type "function")(q:R (some (.type "function")) ⟨hh,gg,dd,tt+1,oo⟩):wpAny (model P W) A (getAttr? (.ref f) "__class__") R X ⟨hh,gg,dd,tt,oo⟩:=by
 unfold getAttr? getAttrBy?
 repeat (any_goals (first|assumption|with_reducible apply by' e c|wp_step))
end
theorem kit{f:Addr}:W.KitX K (.ref f) (.type "function") (W.KitAt f "function"):=W.kitx_of W.kitAt_ty λ{_ _ _ _ _ s} p k=>by
 obtain⟨hh,gg,dd,tt,oo⟩:=s;obtain⟨_,e,c⟩:=p;exact at' e c k
end KfT
namespace L2
open Spec PyProof.Rows
abbrev Key:=Sum Int Str
def tf0:Key->Value->Bool
 | .inl k,v=>Value.isInt k v
 | .inr x,v=>Value.isStrOf x v
variable{ks:List L2.Key}
def Uf0(w:World):Key->Int
 | .inl k=>hashInt k
 | .inr x=>hashStr w x
theorem R5:∀{k:Key} {v:Value},tf0 k v=true->(∃i t,k=Sum.inl i/\v=Value.int i t)∨(∃x t,k=Sum.inr x/\v=Value.str x t)
 | .inl i,v,h=>by
  obtain⟨t,e⟩:=Value.isInt_shape (k:=i) (v:=v) h;exact .inl ⟨i,t,rfl,e⟩
 | .inr x,v,h=>by
  obtain⟨t,e⟩:=Value.isStrOf_shape (x:=x) (v:=v) h;exact .inr ⟨x,t,rfl,e⟩
theorem gg0(i:Int)(t:Tok):tf0 (.inl i) (.int i t)=true:=by simp[tf0,Value.isInt]
theorem iz0(x:Str)(t:Tok):tf0 (.inr x) (.str x t)=true:=by simp[tf0,Value.isStrOf]
theorem Zw0(a b:Int):decide ((Sum.inl a:Key)=Sum.inl b)=(a==b):=by
 by_cases e:a=b
 ·subst e;simp
 ·have h:¬(Sum.inl a:Key)=Sum.inl b:=λq=>e (Sum.inl.inj q)
  rw[decide_eq_false h];exact(X0.mpr e).symm
theorem Y60(a b:Str):decide ((Sum.inr a:Key)=Sum.inr b)=decide (a=b):=by
 by_cases e:a=b
 ·subst e;simp
 ·have h:¬(Sum.inr a:Key)=Sum.inr b:=λq=>e (Sum.inr.inj q)
  rw[decide_eq_false h,decide_eq_false e]
theorem Xa0(a:Int)(b:Str):decide ((Sum.inl a:Key)=Sum.inr b)=false:=P8 (λq=>nomatch q)
theorem X80(a:Str)(b:Int):decide ((Sum.inr a:Key)=Sum.inl b)=false:=P8 (λq=>nomatch q)
def R3(prog:Program)(w:World):PySem.KeyKind prog w Key where
 is:=tf0
 hash:=Uf0 w
 inj:=λv a b ha hb=>by
  rcases R5 ha with⟨i,t,rfl,rfl⟩|⟨x,t,rfl,rfl⟩
  ·rcases R5 hb with⟨j,u,rfl,e⟩|⟨y,u,rfl,e⟩
   ·injection e with e1 _;rw[e1]
   ·exact nomatch e
  ·rcases R5 hb with⟨j,u,rfl,e⟩|⟨y,u,rfl,e⟩
   ·exact nomatch e
   ·injection e with e1 _;rw[e1]
 byValue:=λk v h=>by
  rcases R5 h with⟨i,t,rfl,rfl⟩|⟨x,t,rfl,rfl⟩<;>rfl
 pyHash:=λhv h=>by
  rcases R5 hv with⟨i,t,rfl,rfl⟩|⟨x,t,rfl,rfl⟩
  ·exact wpAny_pyHash_int h
  ·exact wpAny_pyHash_str h
 eqBool:=λhu hv h=>by
  rcases R5 hu with⟨i,t,rfl,rfl⟩|⟨x,t,rfl,rfl⟩
  ·rcases R5 hv with⟨j,u,rfl,rfl⟩|⟨y,u,rfl,rfl⟩
   ·rw[Zw0] at h;exact y6 h
   ·rw[Xa0] at h;exact n9 i t y u _ _ _ _ h
  ·rcases R5 hv with⟨j,u,rfl,rfl⟩|⟨y,u,rfl,rfl⟩
   ·rw[X80] at h;exact o0 x t j u _ _ _ _ h
   ·rw[Y60] at h;exact wpAny_eqBool_str h
 «strs»:=λk x t v h=>by
  rcases R5 h with⟨i,u,rfl,e⟩|⟨y,u,rfl,e⟩
  ·exact nomatch e
  ·injection e with e1 _
   subst e1;cases v<;>rfl
theorem lu0(prog:Program)(w:World)(i:Int)(t:Tok):(R3 prog w).is (.inl i) (.int i t)=true:=gg0 i t
theorem lj0(prog:Program)(w:World)(x:Str)(t:Tok):(R3 prog w).is (.inr x) (.str x t)=true:=iz0 x t
inductive V where
 | non|bl (b:Bool)|int (i:Int)|str (x:Str)|byt (b:Array UInt8)|flt (b:UInt64)|ref (a:Addr)|ty (n:String)
 deriving DecidableEq
variable{σ:List (Option L2.V)}{kvs:List (List L2.Key×L2.V)}
def RelV:V->Value->Prop
 | .non,u=>u=Value.none
 | .bl b,u=>u=Value.bool b
 | .int i,u=>∃t,u=Value.int i t
 | .str x,u=>∃t,u=Value.str x t
 | .byt b,u=>∃t,u=Value.bytes b t
 | .flt b,u=>∃t,u=Value.float b t
 | .ref a,u=>u=Value.ref a
 | .ty n,u=>u=Value.type n
abbrev Vals:List V->List Value->Prop:=Paired RelV
theorem Vals.length{xs:List V}(r:Vals xs us):xs.length=us.length:=y8 r
theorem Vals.get:∀{xs:List V} {us:List Value} {i:Nat} {x:V},Vals xs us->xs[i]?=some x->∃u,us[i]?=some u/\RelV x u
 | _,_,_,_,.nil,e=>by simp at e
 | _,_,0,_,.cons r _,e=>by simp at e;subst e;exact⟨_,rfl,r⟩
 | _,_,i+1,x,.cons _ t,e=>by
  obtain⟨u,h1,h2⟩:=Vals.get (i:=i) (x:=x) t (by simpa using e);exact⟨u,by simpa using h1,h2⟩
theorem Vals.set{x:V}(r:RelV x u):∀{xs:List V} {us:List Value} (i:Nat),Vals xs us->Vals (xs.set i x) (us.set i u)
 | _,_,_,.nil=>.nil
 | _,_,0,.cons _ t=>.cons r t
 | _,_,i+1,.cons q t=>.cons q (Vals.set r i t)
theorem Vals.append:∀{xs ys:List V} {us ws:List Value},Vals xs us->Vals ys ws->Vals (xs++ys) (us++ws)
 | _,_,_,_,.nil,s=>s
 | _,_,_,_,.cons r t,s=>.cons r (Vals.append t s)
theorem Vals.take:∀{xs:List V} {us:List Value} (n:Nat),Vals xs us->Vals (xs.take n) (us.take n)
 | _,_,0,_=>.nil
 | _,_,_+1,.nil=>.nil
 | _,_,n+1,.cons r t=>.cons r (Vals.take n t)
theorem Vals.drop:∀{xs:List V} {us:List Value} (n:Nat),Vals xs us->Vals (xs.drop n) (us.drop n)
 | _,_,0,r=>r
 | _,_,_+1,.nil=>.nil
 | _,_,n+1,.cons _ t=>Vals.drop n t
def RelO:Option V->Option Value->Prop
 | some v,some u=>RelV v u
 | none,none=>True
 | _,_=>False
def KV{κ:Type}:List (κ×V)->List (κ×Value)->Prop:=Paired λ(p:κ×V) (q:κ×Value)=>p.1=q.1/\RelV p.2 q.2
def kV:Key->V
 | .inl i=>.int i
 | .inr x=>.str x
inductive HO where
 | lst (xs:List V)
 | tup (xs:List V)
 | dK (kvs:List (Key×V))|dT (kvs:List (List Key×V))
 | set (S:Int->Bool) (n:Nat)
 | ins (C dx:Addr) (fs:List (Str×V))
 | own (x:Addr)
 | xd (fs:List (Str×V))
 | met (f x:Addr)
 | rng (lo hi:Int)
 | frz (o:Obj) (u:HO)
 | tbl (ps:Array Value)
 | ext (φ:Heap->Prop)
abbrev Hp:=Addr->Option HO
def upd(H:Hp)(a:Addr)(o:HO):Hp:=λb=>if b=a then some o else H b
variable{H H' H2 H₀:L2.Hp}
theorem m8{o:HO}:upd H a o a=some o:=by unfold upd;rw[if_pos rfl]
theorem j7{b:Addr}{o:HO}(h:b≠a):upd H a o b=H b:=by unfold upd;rw[if_neg h]
theorem sr0{b:Addr}{o u:HO}(h:H a=some o)(h':H b=some u)(d:o≠u):a≠b:=by
 intro e;subst e;rw[h] at h';exact d (B3 h')
theorem U6{b:Addr}{o:HO}(h:H a=some o)(h':H b=none):a≠b:=by
 intro e;subst e;rw[h] at h';cases h'
def IsTupN(h:Heap)(a:Addr)(items:Array Value):Prop:=∃o,h.get? a=some o/\o.cls=.type "tuple"/\∃n,o.data=.seq items n/\o.dict=none
theorem IsTupN.tup{h:Heap}(x:IsTupN h a items):IsTup h a items:=let ⟨o,e,c,n,d,_⟩:=x;⟨o,e,c,n,d⟩
theorem IsTupN.new(h:Heap)(items:Array Value):IsTupN (h.push { cls:=.type "tuple",data:=.seq items }) h.objs.size items:=⟨_,B5 _ rfl,rfl,_,rfl,rfl⟩
def qOf(ps:Array Value):Str:=match (ps[0]?:Option Value) with
 | some (.str q _)=>q
 | _ => ""
def TabOk(H:Hp)(h:Heap)(a:Addr)(q:Str):Prop:=∃cont:Array Value,h.get? a=some { cls:=.none,data:=.fields cont }/\TriplesOk cont.toList /\
 ∀pos cv,codeAmong pos cont.toList=some cv->∃c oc vs tq,cv=.ref c/\H c=some (.frz oc (.own c))/\oc.data=.fields vs/\vs[1]?=some (.str q tq)
section
variable(P:Program)(w:World)
def ObjOk(H:Hp)(h:Heap)(a:Addr):HO->Prop
 | .lst xs=>xs.length<=sizeLine/\∃(its:List Value) (n:Nat),Vals xs its/\h.get? a=some { cls:=.type "list",data:=.seq its.toArray n }
 | .tup xs=>xs.length<=sizeLine/\∃its:List Value,Vals xs its/\IsTupN h a its.toArray
 | .dK kvs=>kvs.length<=sizeLine/\(a==sysModules)=false/\∃vs,KV kvs vs/\h.DictOf (R3 P w) a vs
 | .dT kvs=>kvs.length<=sizeLine/\(a==sysModules)=false/\∃xs:List (List Key×Addr×Value),
   Paired (λ(p:List Key×V) (q:List Key×Addr×Value)=>p.1=q.1/\H q.2.1=some (.tup (p.1.map kV))/\RelV p.2 q.2.2) kvs xs /\
   ∃o es ep,h.get? a=some o/\o.ExactDict/\o.data=.dict es ep/\es.toList=xs.map (entryOfKey (tupleKind (R3 P w)))/\(xs.map (·.1)).Nodup
 | .set S n=>h.SetOf (intKind P w) a S n
 | .ins C dx fs=>H dx=some (.own a)/\fs.length<=1000/\dx≠a/\h.get? a=some (W.instObj C dx) /\
   ∃mA,h.Ns1 dx mA/\(∀f,RelO (fs.lookup f) (mA f))/\PySem.Within mA (fs.map (·.1))
 | .own _=>∃o,h.get? a=some o
 | .xd fs=>∃mA,h.Ns1 a mA/\∀f,RelO (fs.lookup f) (mA f)
 | .rng lo hi=>∃t u v,h.get? a=some { cls:=.type "range",data:=.fields #[.int lo t,.int hi u,.int 1 v] }
 | .frz o u=>h.get? a=some o/\ObjOk H h a u
 | .tbl ps=>TabOk H h a (qOf ps)
 | .met f x=>h.get? a=some (W.methodObj (.ref f) (.ref x))
 | .ext φ=>φ h/\(∃o,h.get? a=some o)/\∀h1 h2:Heap,φ h1->(∀o,h1.get? a=some o->h2.get? a=some o)->φ h2
def HOk(H:Hp)(h:Heap):Prop:=∀a o,H a=some o->ObjOk P w H h a o
end
section
variable{P:Program}{w:World}{h:Heap}{o:HO}
theorem ObjOk.lt(x:ObjOk P w H h a o):a<h.objs.size:=by
 cases o with
 | lst xs=>obtain⟨_,_,_,_,e⟩:=x;exact A6 e
 | tup xs=>obtain⟨_,_,_,p⟩:=x;exact p.tup.lt
 | dK kvs=>obtain⟨_,_,_,_,o,_,_,e,_⟩:=x;exact A6 e
 | dT kvs=>obtain⟨_,_,_,_,o,_,_,e,_⟩:=x;exact A6 e
 | set S n=>obtain⟨o,_,_,_,e,_⟩:=x;exact A6 e
 | ins C dx fs=>obtain⟨_,_,_,e,_⟩:=x;exact A6 e
 | own y=>obtain⟨_,e⟩:=x;exact A6 e
 | xd fs=>obtain⟨_,⟨_,_,_,e,_⟩,_⟩:=x;exact A6 e
 | rng lo hi=>obtain⟨_,_,_,e⟩:=x;exact A6 e
 | frz ob u=>obtain⟨e,_⟩:=x;exact A6 e
 | tbl ps=>obtain⟨_,e,_⟩:=(show TabOk H h a (qOf ps) from x);exact A6 e
 | met f y=>exact A6 (show h.get? a=some _ from x)
 | ext φ=>obtain⟨_,⟨_,e⟩,_⟩:=x;exact A6 e
theorem Paired.mapP{F G:α->β->Prop}:∀{l₁:List α} {l₂:List β},Paired F l₁ l₂->(∀a b,F a b->G a b)->Paired G l₁ l₂
 | _,_,.nil,_=>.nil
 | _,_,.cons r t,f=>.cons (f _ _ r) (Paired.mapP t f)
theorem ObjOk.stay(x:ObjOk P w H h a o)(k:∀b u,(b=a∨H b=some (.own a))->h.get? b=some u->h'.get? b=some u)
  (ho:∀b,H b=some (.own a)->H' b=some (.own a)) (ht:∀b xs,H b=some (.tup xs)->H' b=some (.tup xs)) (hf:∀b ob u,H b=some (.frz ob u)->H' b=some (.frz ob u)):ObjOk P w H' h' a o:=by
 induction o with
 | lst xs=>obtain⟨z,its,n,r,e⟩:=x;exact⟨z,its,n,r,k _ _ (.inl rfl) e⟩
 | tup xs=>obtain⟨z,its,r,ob,e,c⟩:=x;exact⟨z,its,r,ob,k _ _ (.inl rfl) e,c⟩
 | dK kvs=>obtain⟨z,y,vs,r,ob,es,ep,e,c⟩:=x;exact⟨z,y,vs,r,ob,es,ep,k _ _ (.inl rfl) e,c⟩
 | dT kvs =>
  obtain⟨z,y,xs,r,ob,es,ep,e,c⟩:=x;exact⟨z,y,xs,Paired.mapP r λp q z=>⟨z.1,ht _ _ z.2.1,z.2.2⟩,ob,es,ep,k _ _ (.inl rfl) e,c⟩
 | set S n=>obtain⟨ob,es,ep,t,e,c⟩:=x;exact⟨ob,es,ep,t,k _ _ (.inl rfl) e,c⟩
 | ins C dx fs =>
  obtain⟨d,z,ne,e,mA,⟨od,es,ep,e2,c⟩,r⟩:=x;exact⟨ho _ d,z,ne,k _ _ (.inl rfl) e,mA,⟨od,es,ep,k _ _ (.inr d) e2,c⟩,r⟩
 | own y=>obtain⟨ob,e⟩:=x;exact⟨ob,k _ _ (.inl rfl) e⟩
 | xd fs=>obtain⟨mA,⟨od,es,ep,e,c⟩,r⟩:=x;exact⟨mA,⟨od,es,ep,k _ _ (.inl rfl) e,c⟩,r⟩
 | rng lo hi=>obtain⟨t,u,v,e⟩:=x;exact⟨t,u,v,k _ _ (.inl rfl) e⟩
 | frz ob u ih=>obtain⟨e,q⟩:=x;exact⟨k _ _ (.inl rfl) e,ih q⟩
 | tbl ps =>
  obtain⟨cont,e,t,c⟩:=(show TabOk H h a (qOf ps) from x);exact⟨cont,k a _ (.inl rfl) e,t,λpos cv q=>let ⟨c',oc,vs,tq,z1,z2,z3⟩:=c pos cv q;⟨c',oc,vs,tq,z1,hf _ _ _ z2,z3⟩⟩
 | met f y =>
  have e:h.get? a=some (W.methodObj (.ref f) (.ref y)):=x;show h'.get? a=some (W.methodObj (.ref f) (.ref y));exact k a _ (.inl rfl) e
 | ext φ=>obtain⟨p,⟨o,e⟩,st⟩:=x;exact⟨st _ _ p λo q=>k _ _ (.inl rfl) q,⟨o,k _ _ (.inl rfl) e⟩,st⟩
theorem HOk.lt(x:HOk P w H h)(e:H a=some o):a<h.objs.size:=(x a o e).lt
theorem HOk.fresh(x:HOk P w H h)(e:h.objs.size<=a):H a=none:=by
 cases q:H a with
 | none=>rfl
 | some u=>exact absurd (B6 (x.lt q) e) (D9 _)
theorem HOk.kept(x:HOk P w H h)(k:∀b u,h.get? b=some u->h'.get? b=some u):HOk P w H h':=λa o e =>
 (x a o e).stay (λb u _ q=>k b u q) (λ_ q=>q) (λ_ _ q=>q) λ_ _ _ q=>q
theorem HOk.laid(x:HOk P w H h)(k:∀b u,h.get? b=some u->h'.get? b=some u)(hp:h.objs.size<=a)(new:ObjOk P w (upd H a o) h' a o):HOk P w (upd H a o) h':=λb u e=>by
 have hn:=x.fresh hp
 by_cases hb:b=a
 ·subst hb;rw[m8] at e;cases e;exact new
 ·rw[j7 hb] at e
  exact(x b u e).stay (λc v _ q=>k c v q) (λc q=>by rw[j7 (U6 q hn)];exact q) (λc xs q=>by rw[j7 (U6 q hn)];exact q) λc ob u' q=>by rw[j7 (U6 q hn)];exact q
end
def Rd(H:Hp)(a:Addr)(u:HO):Prop:=H a=some u∨∃o,H a=some (.frz o u)
theorem Rd.ok{P:Program}{w:World}{h:Heap}{u:HO}(r:Rd H a u)(x:HOk P w H h):ObjOk P w H h a u:=by
 rcases r with r|⟨o,r⟩
 ·exact x a u r
 ·obtain⟨_,q⟩:=x a _ r
  exact q
def Mut:Option HO->Prop
 | some (.lst _)=>True
 | some (.dK _)=>True
 | some (.dT _)=>True
 | some (.set _ _)=>True
 | some (.ins _ _ _)=>True
 | some (.ext _)=>True
 | _=>False
section
variable{P:Program}{w:World}{h:Heap}{x e:Addr}{o':HO}
theorem HOk.write(ok:HOk P w H h)(mu:Mut (H x))(he:e=x∨H e=some (.own x))(k:∀b u,b≠e->h.get? b=some u->h'.get? b=some u)(heo:∃u,h'.get? e=some u)
  (new:ObjOk P w (upd H x o') h' x o'):HOk P w (upd H x o') h':=λb u q=>by
 have F:∀c y,H c=some (.own y)->c≠x:=λc y r z=>by subst z;rw[r] at mu;exact mu
 have J:∀c xs,H c=some (.tup xs)->c≠x:=λc xs r z=>by subst z;rw[r] at mu;exact mu
 have L:∀c ob u',H c=some (.frz ob u')->c≠x:=λc ob u' r z=>by subst z;rw[r] at mu;exact mu
 by_cases hb:b=x
 ·subst hb;rw[m8] at q;cases q;exact new
 ·rw[j7 hb] at q
  by_cases hbe:b=e
  ·have q':H b=some (.own x):=by
    rcases he with z|z
    ·exact absurd (hbe.trans z) hb
    ·rw[hbe];exact z
   rw[q] at q';cases q';obtain⟨v,hv⟩:=heo;exact⟨v,by rw[hbe];exact hv⟩
  ·refine(ok b u q).stay (λc v hc r=>k c v ?_ r) (λc r=>by rw[j7 (F c b r)];exact r) (λc xs r=>by rw[j7 (J c xs r)];exact r) λc ob u' r=>by rw[j7 (L c ob u' r)];exact r
   rcases hc with rfl|hc
   ·exact hbe
   ·rintro rfl
    rcases he with z|z
    ·exact F c b hc z
    ·rw[hc] at z;cases z;exact hb rfl
end
structure Un(fs ex:List Addr)(H H':Hp)(h h':Heap):Prop where
 keep:∀b o,h.get? b=some o->H b=none->b∉fs->b∉ex->h'.get? b=some o
 slot:∀b o,h.get? b=some o->H b=none->b∈fs->b∉ex->∃sl,h'.get? b=some { o with slots:=sl }
 free:∀b o,h.get? b=some o->H b=none->b∉ex->H' b=none
 there:∀b o,h.get? b=some o->b∉ex->∃o',h'.get? b=some o'
 tups:∀b xs,H b=some (.tup xs)->H' b=some (.tup xs)
 frzs:∀b o u,H b=some (.frz o u)->H' b=some (.frz o u)
 tbls:∀b ps,H b=some (.tbl ps)->∃more,H' b=some (.tbl (ps++more))
section
variable{fs fs' ex ex':List Addr}{H1:Hp}{h h1 h2:Heap}{x e:Addr}{o:HO}
theorem Un.any(u:Un fs ex H H1 h h1){b:Addr}{ob:Obj}(q:h.get? b=some ob)(n:H b=none)(hx:b∉ex):∃sl,h1.get? b=some { ob with slots:=sl }:=by
 by_cases hb:b∈fs
 ·exact u.slot b ob q n hb hx
 ·exact⟨ob.slots,u.keep b ob q n hb hx⟩
theorem Un.kept(k:∀b u,h.get? b=some u->h'.get? b=some u):Un fs ex H H h h' :=
 ⟨λb ob q _ _ _=>k b ob q,λb ob q _ _ _=>⟨ob.slots,k b ob q⟩,λ_ _ _ n _=>n,λb ob q _=>⟨ob,k b ob q⟩,λ_ _ q=>q,λ_ _ _ q=>q,λ_ ps q=>⟨#[],by rw[q];simp⟩⟩
theorem Un.refl:Un fs ex H H h h:=Un.kept λ_ _ q=>q
theorem Un.laid(k:∀b u,h.get? b=some u->h'.get? b=some u)(hp:h.objs.size<=a)(hn:H a=none):Un fs ex H (upd H a o) h h' where
 keep:=λb u q _ _ _=>k b u q
 slot:=λb u q _ _ _=>⟨u.slots,k b u q⟩
 free:=λb u q n _=>by rw[j7 (A9 (B6 (A6 q) hp))];exact n
 there:=λb u q _=>⟨u,k b u q⟩
 tups:=λb xs q=>by rw[j7 (U6 q hn)];exact q
 frzs:=λb u xs q=>by rw[j7 (U6 q hn)];exact q
 tbls:=λb ps q=>⟨#[],by rw[j7 (U6 q hn),q];simp⟩
theorem Un.write(mu:Mut (H x))(he:e=x∨H e=some (.own x))(k:∀b u,b≠e->h.get? b=some u->h'.get? b=some u)(heo:∃u,h'.get? e=some u):Un fs ex H (upd H x o) h h':=by
 have hx:∀b,H b=none->b≠x:=λb n z=>by subst z;rw[n] at mu;exact mu
 have hb:∀b,H b=none->b≠e:=λb n z=>by
  subst z;rcases he with r|r
  ·exact hx b n r
  ·rw[n] at r;cases r
 have hm:∀b u,H b=some u->¬Mut (some u)->b≠x:=λb u q nm z=>by subst z;rw[q] at mu;exact nm mu
 refine⟨λb u q n _ _=>k b u (hb b n) q,λb u q n _ _=>⟨u.slots,k b u (hb b n) q⟩,λb u q n _=>by rw[j7 (hx b n)];exact n,λb u q _=>?_,
  λb xs q=>by rw[j7 (hm b _ q λz=>z)];exact q,λb u xs q=>by rw[j7 (hm b _ q λz=>z)];exact q,λb ps q=>⟨#[],by rw[j7 (hm b _ q λz=>z),q];simp⟩⟩
 by_cases hbe:b=e
 ·subst hbe;exact heo
 ·exact⟨u,k b u hbe q⟩
end
def trk(h:Heap)(H:Hp):List Addr:=(List.range h.objs.size).filter λa=>(H a).isSome
def vn0(h:Heap)(H:Hp):Heap:=W.hideAll h (trk h H)
theorem gc0(h:Heap)(H:Hp):(vn0 h H).objs.size=h.objs.size:=W.hideAll_size _ _
theorem dk0{h:Heap}{b:Addr}{o:Obj}(e:h.get? b=some o)(n:H b=none):(vn0 h H).get? b=some o :=
 W.hideAll_get _ e λhm=>by
  have q:(H b).isSome=true:=(y9.mp hm).2;rw[n] at q;simp at q
theorem Z50{h:Heap}{b:Addr}{o:Obj}(e:(vn0 h H).get? b=some o):h.get? b=some o/\H b=none:=by
 have e':h.get? b=some o:=W.of_hideAll (trk h H) e;refine⟨e',?_⟩;cases q:H b with
 | none=>rfl
 | some x =>
  have hm:b∈trk h H:=y9.mpr ⟨C9.mpr (A6 e'),by simp[q]⟩;have z:(vn0 h H).get? b=none:=W.hideAll_none (trk h H) hm;rw[z] at e;cases e
structure Mod(K:W.Frag)(mg:Str->Option Value)(base:Heap):Prop where
 kin:K.In base
 glob:base.Ns mainGlobals mg
 blt:∃mb,base.Ns builtinsNs mb/\∀x:Str,x ≠"__name__"->mb x=bootBuiltins x
 nolimit:base.NoLimit
structure Cx where
 prog:Program
 w:World
 K:W.Frag
 mg:Str->Option Value
 base:Heap
 A:Around
 N:List Str
 s₀:Shared
 H₀:Hp
 env:Env
 outer:List Env
 stack:List Env
 ex:List Addr
 fn:Str->Bool
 calm:Bool
 pn:List (Addr×Obj)
 xe:Value->Shared->Prop
variable{X:L2.Cx}
def frs(l:List Env):List Addr:=l.filterMap (·.frame)
abbrev Cx.fs(X:Cx):List Addr:=frs X.outer
def Vis(sc:Scope)(x:Str):Prop:=sc.names.lookup x=some .local∨sc.names.lookup x=some .cell∨sc.names.lookup x=some .free
def Loc(sc:Scope)(x:Str):Prop:=sc.names.lookup x=some .local∨sc.names.lookup x=some .cell
def Look(env:Env)(h:Heap)(m:Str->Option Value)(x:Str)(u:Value):Prop :=
 (env.kindOf x=some .local/\m x=some u)∨((env.kindOf x=some .cell∨env.kindOf x=some .free)/\∃c,env.cells.lookup x=some c/\h.IsCell c (some u))
structure Cx.Ok(X:Cx):Prop where
 mod:Mod X.K X.mg X.base
 kind:X.env.scope.kind=.function
 glob:X.env.globals=mainGlobals
 blt:X.env.builtins=builtinsNs
 above:X.s₀.heap.objs.size<=X.env.locals
 inj:∀x y c,X.env.cells.lookup x=some c->X.env.cells.lookup y=some c->x=y
 has:∀x,(X.env.kindOf x=some .cell∨X.env.kindOf x=some .free)->∃c,X.env.cells.lookup x=some c
 cab:∀x c,X.fn x=true->X.env.cells.lookup x=some c->X.s₀.heap.objs.size<=c
 hd:X.calm=true->X.A.handled=none
 frames:X.A.frames=some X.stack
 stk:X.stack=X.outer∨(X.stack=X.env::X.outer/\X.env.frame=some X.env.locals)
 exf:∀b∈X.ex,b≠X.env.locals/\∀x c,X.env.cells.lookup x=some c->c≠b
 bs:∀b o,X.base.get? b=some o->X.s₀.heap.get? b=some o/\X.H₀ b=none
 bsz:X.base.objs.size<=X.s₀.heap.objs.size
 noex:∀b o,X.base.get? b=some o->b∉X.ex
 exfs:∀b∈X.ex,b∉X.fs
 funs:X.s₀.heap.FunFrames X.base X.outer
 frf:∀b∈X.fs,X.H₀ b=none
structure Inv(X:Cx)(pins:List (Addr×Obj))(σ:List (Option V))(H:Hp)(s:Shared):Prop where
 ok:X.Ok
 os:s.os=X.s₀.os
 bare:AllBare s.gens
 base:Un X.fs X.ex X.H₀ H X.s₀.heap s.heap
 loc:∃m,s.heap.Ns X.env.locals m/\∀(i:Nat) (x:Str) (v:V),X.N[i]?=some x->σ[i]?=some (some v)->Vis X.env.scope x->∃u,RelV v u/\Look X.env s.heap m x u
 cell:∀x c,X.env.cells.lookup x=some c->∃v,s.heap.IsCell c v
 free:H X.env.locals=none
 freeC:∀x c,X.env.cells.lookup x=some c->H c=none
 pin:∀p∈X.pn++pins,s.heap.get? p.1=some p.2/\H p.1=none/\p.1≠X.env.locals/\p.1∉X.fs/\∀v,p.2.data≠.cell v
 hok:HOk X.prog X.w H s.heap
 len:σ.length=X.N.length
section
variable{s:Shared}
theorem Cx.Ok.nofr(ok:X.Ok){b:Addr}{o:Obj}(e:X.base.get? b=some o):b∉X.fs:=λhb=>by
 have:=(ok.funs.mem hb).1;rw[e] at this;cases this
theorem Inv.bs(I:Inv X pins σ H s):∀b o,X.base.get? b=some o->s.heap.get? b=some o/\H b=none:=λb o e =>
 ⟨I.base.keep b o (I.ok.bs b o e).1 (I.ok.bs b o e).2 (I.ok.nofr e) (I.ok.noex b o e),I.base.free b o (I.ok.bs b o e).1 (I.ok.bs b o e).2 (I.ok.noex b o e)⟩
theorem Inv.bk(I:Inv X pins σ H s):∀b o,X.base.get? b=some o->s.heap.get? b=some o:=λb o e=>(I.bs b o e).1
theorem Inv.mod(I:Inv X pins σ H s):Mod X.K X.mg X.base:=I.ok.mod
theorem Inv.kIn(I:Inv X pins σ H s):X.K.In s.heap:=I.ok.mod.kin.keeps I.bk
theorem Inv.lt(I:Inv X pins σ H s):X.env.locals<s.heap.objs.size:=let ⟨_,hn,_⟩:=I.loc;hn.lt
theorem Inv.sz(I:Inv X pins σ H s):X.s₀.heap.objs.size<=s.heap.objs.size:=C2 I.ok.above (E6 I.lt)
theorem Inv.nofs(I:Inv X pins σ H s)(h:s.heap.objs.size<=a):a∉X.fs:=λhb=>by
 obtain⟨_,o,ho,_⟩:=I.ok.funs.mem hb;exact absurd (B6 (A6 ho) (C2 I.sz h)) (D9 _)
theorem Inv.cne(I:Inv X pins σ H s):∀x c,X.env.cells.lookup x=some c->c≠X.env.locals:=λx c e z=>by
 obtain⟨v,o,ho,hd⟩:=I.cell x c e;obtain⟨m,⟨o',es,ep,F,J,_⟩,_⟩:=I.loc;rw[z,F] at ho;cases ho;rw[J] at hd;cases hd
theorem Inv.funs(I:Inv X pins σ H s):s.heap.FunFrames X.base X.outer:=by
 have all:∀(l:List Env),(∀b∈frs l,b∈X.fs)->X.s₀.heap.FunFrames X.base l->s.heap.FunFrames X.base l:=by
  intro l
  induction l with
  | nil=>intro _ _;trivial
  | cons env r ih =>
   intro hs hl;obtain⟨hk,⟨L,o,hf,hn,ho,hd⟩,hr⟩:=hl;have hL:L∈X.fs:=hs L (by unfold frs;rw[List.filterMap_cons,hf];exact A5);obtain⟨sl,e⟩:=I.base.slot L o ho (I.ok.frf L hL) hL λz=>I.ok.exfs L z hL
   exact⟨hk,⟨L,_,hf,hn,e,hd⟩,ih (λb hb=>hs b (by unfold frs;rw[List.filterMap_cons,hf];exact A7 _ hb)) hr⟩
 exact all X.outer (λ_ hb=>hb) I.ok.funs
theorem Inv.stack(I:Inv X pins σ H s):s.heap.FunFrames X.base X.stack:=by
 rcases I.ok.stk with e|⟨e,hf⟩
 ·rw[e];exact I.funs
 ·rw[e]
  obtain⟨m,hn,_⟩:=I.loc;refine .cons (by rw[I.ok.kind];decide) hf hn ?_ I.funs;exact Heap.get?_none_of_le (C2 I.ok.bsz I.ok.above)
theorem Inv.stkSub(I:Inv X pins σ H s):∀b∈frs X.stack,b∈X.env.locals::X.fs:=λb hb=>by
 rcases I.ok.stk with e|⟨e,hf⟩
 ·rw[e] at hb;exact A7 _ hb
 ·rw[e] at hb
  unfold frs at hb;rw[List.filterMap_cons,hf] at hb;exact hb
theorem Inv.stkFree(I:Inv X pins σ H s):∀b∈frs X.stack,H b=none:=λb hb=>by
 rcases B2.mp (I.stkSub b hb) with e|hb
 ·rw[e];exact I.free
 ·obtain⟨_,o,ho,_⟩:=I.ok.funs.mem hb
  exact I.base.free b o ho (I.ok.frf b hb) λz=>I.ok.exfs b z hb
theorem Inv.step{g':Array GenState}{t':Nat}{d':Drawn}{ch:List Addr}(I:Inv X pins σ H s)
  (hch:∀b∈ch,(b∈X.ex∨X.s₀.heap.objs.size<=b)/\b≠X.env.locals/\(∀x c,X.env.cells.lookup x=some c->c≠b)/\∀p∈X.pn++pins,p.1≠b)
  (keep:∀b o,b≠X.env.locals->b∉X.fs->b∉ch->s.heap.get? b=some o->H b=none->h'.get? b=some o)
  (slot:∀b o,b≠X.env.locals->b∈X.fs->b∉ch->s.heap.get? b=some o->H b=none->∃sl,h'.get? b=some { o with slots:=sl }) (free:∀b o,b∉ch->s.heap.get? b=some o->H b=none->H' b=none)
  (there:∀b o,b∉ch->s.heap.get? b=some o->∃o',h'.get? b=some o')
  (tups:∀b xs,H b=some (.tup xs)->H' b=some (.tup xs)) (frzs:∀b o u,H b=some (.frz o u)->H' b=some (.frz o u)) (tbls:∀b ps,H b=some (.tbl ps)->∃more,H' b=some (.tbl (ps++more)))
  (ns:∀m,s.heap.Ns X.env.locals m->h'.Ns X.env.locals m) (hok:HOk X.prog X.w H' h') (hg:AllBare g') :
  Inv X pins σ H' { s with heap:=h',gens:=g',drawn:=d',toks:=t' }:=by
 have O:∀b o,X.s₀.heap.get? b=some o->b≠X.env.locals:=λb o e=>A9 (B6 (A6 e) I.ok.above)
 have J:∀b o,X.s₀.heap.get? b=some o->b∉X.ex->b∉ch:=λb o e hx hb=>by
  rcases (hch b hb).1 with z|z
  ·exact hx z
  ·exact absurd (B6 (A6 e) z) (D9 _)
 have L:∀x c,X.env.cells.lookup x=some c->∀v,s.heap.IsCell c v->h'.IsCell c v:=λx c e v ⟨o,ho,hd⟩=>by
  have F:c∉ch:=λz=>(hch c z).2.2.1 x c e rfl
  by_cases hc:c∈X.fs
  ·obtain⟨sl,q⟩:=slot c o (I.cne x c e) hc F ho (I.freeC x c e)
   exact⟨_,q,hd⟩
  ·exact⟨o,keep c o (I.cne x c e) hc F ho (I.freeC x c e),hd⟩
 refine⟨I.ok,I.os,hg,⟨λb o e n hb hx=>?_,λb o e n hb hx=>?_,λb o e n hx=>?_,λb o e hx=>?_,λb xs e=>tups b xs (I.base.tups b xs e),λb o xs e=>frzs b o xs (I.base.frzs b o xs e),λb ps e=>?_⟩,?_,λx c e=>?_,?_,λx c e=>?_,λp hp=>?_,hok,I.len⟩
 ·exact keep b o (O b o e) hb (J b o e hx) (I.base.keep b o e n hb hx) (I.base.free b o e n hx)
 ·obtain⟨sl,e1⟩:=I.base.slot b o e n hb hx
  obtain⟨Y,e2⟩:=slot b _ (O b o e) hb (J b o e hx) e1 (I.base.free b o e n hx);exact⟨Y,e2⟩
 ·obtain⟨o',e1⟩:=I.base.there b o e hx
  exact free b o' (J b o e hx) e1 (I.base.free b o e n hx)
 ·obtain⟨o',e1⟩:=I.base.there b o e hx
  exact there b o' (J b o e hx) e1
 ·obtain⟨m1,e1⟩:=I.base.tbls b ps e
  obtain⟨m2,e2⟩:=tbls b _ e1;exact⟨m1++m2,by rw[e2,Array.append_assoc]⟩
 ·obtain⟨m,hn,hl⟩:=I.loc
  refine⟨m,ns m hn,λi x v e1 e2 e3=>?_⟩;obtain⟨u,r,l⟩:=hl i x v e1 e2 e3;refine⟨u,r,?_⟩;rcases l with l|⟨k,c,e,z⟩
  ·exact .inl l
  ·exact .inr ⟨k,c,e,L x c e _ z⟩
 ·obtain⟨v,z⟩:=I.cell x c e
  exact⟨v,L x c e v z⟩
 ·obtain⟨m,⟨o,_,_,ho,_⟩,_⟩:=I.loc
  exact free _ o (λz=>(hch _ z).2.1 rfl) ho I.free
 ·obtain⟨v,o,ho,hd⟩:=I.cell x c e
  exact free c o (λz=>(hch c z).2.2.1 x c e rfl) ho (I.freeC x c e)
 ·obtain⟨e,n,ne,nf,d⟩:=I.pin p hp
  have F:p.1∉ch:=λz=>(hch p.1 z).2.2.2 p hp rfl
  exact⟨keep p.1 p.2 ne nf F e n,free p.1 p.2 F e n,ne,nf,d⟩
theorem Inv.un(I:Inv X pins σ H s)(u:Un X.fs [] H H' s.heap h')(hok:HOk X.prog X.w H' h'):Inv X pins σ H' { s with heap:=h',toks:=t' }:=by
 obtain⟨m,⟨o,es,ep,ho,r⟩,_⟩:=id I.loc;obtain⟨sl,hL⟩:=u.any ho I.free (by simp);exact I.step (g':=s.gens) (d':=s.drawn) (ch:=[]) (λ_ z=>nomatch z) (λb o _ hb _ e n=>u.keep b o e n hb (by simp)) (λb o _ hb _ e n=>u.slot b o e n hb (by simp)) (λb o _ e n=>u.free b o e n (by simp)) (λb o _ e=>u.there b o e (by simp)) u.tups u.frzs u.tbls (λm' hm=>by
  obtain⟨o',J,L,F,r'⟩:=hm;rw[ho] at F;cases F;exact⟨_,J,L,hL,r'⟩) hok I.bare
theorem Inv.call{g':Array GenState}{t':Nat}{d':Drawn}(I:Inv X pins σ H s)(u:Un (frs X.stack) ch H H' s.heap h')(hok:HOk X.prog X.w H' h')(hg:AllBare g')
  (hch:∀b∈ch,(b∈X.ex∨X.s₀.heap.objs.size<=b)/\b≠X.env.locals/\(∀x c,X.env.cells.lookup x=some c->c≠b)/\∀p∈X.pn++pins,p.1≠b) :
  Inv X pins σ H' { s with heap:=h',gens:=g',drawn:=d',toks:=t' }:=by
 obtain⟨m,⟨o,es,ep,ho,r⟩,_⟩:=id I.loc;obtain⟨sl,hL⟩:=u.any ho I.free λz=>(hch _ z).2.1 rfl
 exact I.step (ch:=ch) hch (λb o hL hb hc e n=>u.keep b o e n (λz=>(B2.mp (I.stkSub b z)).elim hL hb) hc) (λb o _ _ hc e n=>u.any e n hc) (λb o hc e n=>u.free b o e n hc) (λb o hc e=>u.there b o e hc) u.tups u.frzs u.tbls (λm' hm=>by
  obtain⟨o',J,L,F,r'⟩:=hm;rw[ho] at F;cases F;exact⟨_,J,L,hL,r'⟩) hok hg
theorem Inv.turned{t':Nat}(I:Inv X pins σ H s)(k:∀b o,b≠it->s.heap.get? b=some o->h'.get? b=some o)(hn:H it=none)(hL:it≠X.env.locals)
  (h1:it∈X.ex∨X.s₀.heap.objs.size<=it) (h2:∀x c,X.env.cells.lookup x=some c->c≠it) (h3:∀p∈X.pn++pins,p.1≠it):Inv X pins σ H { s with heap:=h',toks:=t' }:=by
 have F:∀b u,H b=some u->b≠it:=λb u e z=>by rw[z,hn] at e;cases e
 refine I.step (g':=s.gens) (d':=s.drawn) (ch:=[it]) (λb hb=>?_) (λb o _ _ hc e _=>k b o (λz=>hc (by simp[z])) e) (λb o _ _ hc e _=>⟨o.slots,k b o (λz=>hc (by simp[z])) e⟩) (λ_ _ _ _ n=>n)
  (λb o hc e=>⟨o,k b o (λz=>hc (by simp[z])) e⟩) (λ_ _ e=>e) (λ_ _ _ e=>e) (λb ps e=>⟨#[],by rw[e];simp⟩) (λm hm=>?_) (λb u e=>?_) I.bare
 ·have e:b=it:=by simpa using hb
  subst e;exact⟨h1,hL,h2,h3⟩
 ·obtain⟨o,es,ep,ho,r⟩:=hm
  exact⟨o,es,ep,k _ o (B7 hL) ho,r⟩
 ·refine(I.hok b u e).stay (λc v hc q=>k c v ?_ q) (λ_ q=>q) (λ_ _ q=>q) λ_ _ _ q=>q
  rcases hc with z|z
  ·rw[z];exact F b u e
  ·exact F c _ z
theorem Inv.tok(I:Inv X pins σ H s)(t:Nat):Inv X pins σ H { s with toks:=t }:=I.un (h':=s.heap) (t':=t) Un.refl I.hok
theorem Inv.kept(I:Inv X pins σ H s)(k:∀b u,s.heap.get? b=some u->h'.get? b=some u):Inv X pins σ H { s with heap:=h',toks:=t' }:=I.un (Un.kept k) (I.hok.kept k)
theorem Inv.laid{o:HO}{t':Nat}(I:Inv X pins σ H s)(k:∀b u,s.heap.get? b=some u->h'.get? b=some u)(hp:s.heap.objs.size<=a)(new:ObjOk X.prog X.w (upd H a o) h' a o) :
  Inv X pins σ (upd H a o) { s with heap:=h',toks:=t' }:=I.un (Un.laid k hp (I.hok.fresh hp)) (I.hok.laid k hp new)
theorem Inv.write{x e:Addr}{o:HO}{t':Nat}(I:Inv X pins σ H s)(mu:Mut (H x))(he:e=x∨H e=some (.own x))(k:∀b u,b≠e->s.heap.get? b=some u->h'.get? b=some u)(heo:∃u,h'.get? e=some u)
  (new:ObjOk X.prog X.w (upd H x o) h' x o):Inv X pins σ (upd H x o) { s with heap:=h',toks:=t' }:=I.un (Un.write mu he k heo) (I.hok.write mu he k heo new)
theorem Inv.weak{σ':List (Option V)}(I:Inv X pins σ H s)(hl:σ'.length=σ.length)(w:∀(i:Nat) v,σ'[i]?=some (some v)->σ[i]?=some (some v)):Inv X pins σ' H s :=
 ⟨I.ok,I.os,I.bare,I.base,let ⟨m,hn,hl'⟩:=I.loc;⟨m,hn,λi x v e1 e2 e3=>hl' i x v e1 (w i v e2) e3⟩,I.cell,I.free,I.freeC,I.pin,I.hok,hl.trans I.len⟩
theorem Inv.pins_of{pins':List (Addr×Obj)}(I:Inv X pins σ H s)(h:∀p∈pins',s.heap.get? p.1=some p.2/\H p.1=none/\p.1≠X.env.locals/\p.1∉X.fs/\∀v,p.2.data≠.cell v):Inv X pins' σ H s :=
 ⟨I.ok,I.os,I.bare,I.base,I.loc,I.cell,I.free,I.freeC,λp hp=>(B4.mp hp).elim (λz=>I.pin p (E7 _ z)) (h p),I.hok,I.len⟩
theorem l60(hN:N.Nodup)(a:N[i]?=some x)(b:N[j]?=some x):i=j:=by
 obtain⟨h1,e1⟩:=E1.mp a;obtain⟨h2,e2⟩:=E1.mp b;exact(B80 hN).mp (e1.trans e2.symm)
theorem pb0{M:Model}{A:Around}{E:Value->Shared->Prop}{v:V}{Q:Unit->Shared->Prop}(I:Inv X pins σ H s)(hN:X.N.Nodup)(hi:X.N[i]?=some x)(hx:Loc X.env.scope x)(r:RelV v u)
  (h:∀s',Inv X pins (σ.set i (some v)) H s'->(∃a,Heap.SameBut a s.heap s'.heap/\(a=X.env.locals∨X.env.cells.lookup x=some a))->Q () s') (hf:X.fn x=true∨X.env.scope.names.lookup x=some .local:=by first|exact .inl rfl|exact .inr rfl|assumption):wpAny M A (storeName X.env x u) Q E s:=by
 obtain⟨m,hn,hl⟩:=id I.loc;have Z:(X.env.scope.kind==.class||(X.env.scope.kind==.module&&X.env.locals != X.env.globals))=false:=by rw[I.ok.kind];rfl
 have hiσ:i<σ.length:=by rw[I.len];exact(E1.mp hi).1
 have cne:=I.cne;have F:∀{a:Addr} {h':Heap},(∃o,s.heap.get? a=some o/\H a=none)->Heap.SameBut a s.heap h'->HOk X.prog X.w H h':=λ{a h'} ha hs b ob e=>by
  obtain⟨_,_,J⟩:=ha;refine(I.hok b ob e).stay (λc w' hc q=>(hs.2 c ?_).trans q) (λ_ q=>q) (λ_ _ q=>q) λ_ _ _ q=>q
  rintro rfl;rcases hc with rfl|hc
  ·rw[J] at e;cases e
  ·rw[J] at hc;cases hc
 rcases hx with hk|hk
 ·refine wpAny_storeName_local hk hn (λh' a1 hs=>?_) Z
  obtain⟨oL,_,_,a2,_⟩:=id hn;refine h _ ⟨I.ok,I.os,I.bare,⟨λb o e n hb hx=>?_,λb o e n hb hx=>?_,I.base.free,λb o e hx=>?_,I.base.tups,I.base.frzs,I.base.tbls⟩,⟨_,a1,λj y v' e1 e2 e3=>?_⟩,λy c e=>?_,I.free,I.freeC,λp hp=>?_,F ⟨oL,a2,I.free⟩ hs,by simpa using I.len⟩ ⟨_,hs,.inl rfl⟩
  ·exact(hs.2 b (A9 (B6 (A6 e) I.ok.above))).trans (I.base.keep b o e n hb hx)
  ·obtain⟨sl,e1⟩:=I.base.slot b o e n hb hx
   exact⟨sl,(hs.2 b (A9 (B6 (A6 e) I.ok.above))).trans e1⟩
  ·obtain⟨o',e1⟩:=I.base.there b o e hx
   exact⟨o',(hs.2 b (A9 (B6 (A6 e) I.ok.above))).trans e1⟩
  ·by_cases hj:j=i
   ·subst hj
    rw[hi] at e1;cases e1;rw[List.getElem?_set_self hiσ] at e2;cases e2;exact⟨u,r,.inl ⟨hk,by simp⟩⟩
   ·rw[List.getElem?_set_ne (B7 hj)] at e2
    obtain⟨u',r',q⟩:=hl j y v' e1 e2 e3;refine⟨u',r',?_⟩;rcases q with⟨k,e⟩|⟨k,c,e,z⟩
    ·refine .inl ⟨k,?_⟩
     have:y≠x:=λe=>hj (l60 hN e1 (e▸hi))
     simp[this,e]
    ·exact .inr ⟨k,c,e,z.sameBut hs (cne y c e)⟩
  ·obtain⟨w',z⟩:=I.cell y c e
   exact⟨w',z.sameBut hs (cne y c e)⟩
  ·obtain⟨e,n,ne,nf,d⟩:=I.pin p hp
   exact⟨(hs.2 p.1 ne).trans e,n,ne,nf,d⟩
 ·have L:X.fn x=true:=by
   rcases hf with z|z
   ·exact z
   ·rw[z] at hk;cases hk
  obtain⟨c,hc⟩:=I.ok.has x (.inl hk);obtain⟨w',z⟩:=I.cell x c hc;refine wpAny_storeName_cell I.ok.kind hk hc z (λh' O hs=>?_);obtain⟨oc,Y,a0⟩:=id z;refine h { s with heap:=h' } ⟨I.ok,I.os,I.bare,⟨λb o e n hb hx=>?_,λb o e n hb hx=>?_,I.base.free,λb o e hx=>?_,I.base.tups,I.base.frzs,I.base.tbls⟩,⟨m,hn.sameBut hs (B7 (cne x c hc)),λj y v' e1 e2 e3=>?_⟩,λy c' e=>?_,I.free,I.freeC,λp hp=>?_,F ⟨oc,Y,I.freeC x c hc⟩ hs,by simpa using I.len⟩ ⟨c,hs,.inr hc⟩
  ·exact(hs.2 b (A9 (B6 (A6 e) (I.ok.cab x c L hc)))).trans (I.base.keep b o e n hb hx)
  ·obtain⟨sl,e1⟩:=I.base.slot b o e n hb hx
   exact⟨sl,(hs.2 b (A9 (B6 (A6 e) (I.ok.cab x c L hc)))).trans e1⟩
  ·obtain⟨o',e1⟩:=I.base.there b o e hx
   exact⟨o',(hs.2 b (A9 (B6 (A6 e) (I.ok.cab x c L hc)))).trans e1⟩
  ·by_cases hj:j=i
   ·subst hj
    rw[hi] at e1;cases e1;rw[List.getElem?_set_self hiσ] at e2;cases e2;exact⟨u,r,.inr ⟨.inl hk,c,hc,O⟩⟩
   ·rw[List.getElem?_set_ne (B7 hj)] at e2
    obtain⟨u',r',q⟩:=hl j y v' e1 e2 e3;refine⟨u',r',?_⟩;rcases q with q|⟨k,c',e,z'⟩
    ·exact .inl q
    ·refine .inr ⟨k,c',e,z'.sameBut hs ?_⟩
     rintro rfl;exact hj (l60 hN e1 (I.ok.inj _ _ _ e hc▸hi))
  ·by_cases hcc:c'=c
   ·subst hcc;exact⟨_,O⟩
   ·obtain⟨w2,z2⟩:=I.cell y c' e
    exact⟨w2,z2.sameBut hs hcc⟩
  ·obtain⟨e,n,ne,nf,d⟩:=I.pin p hp
   refine⟨(hs.2 p.1 ?_).trans e,n,ne,nf,d⟩;intro q;rw[q,Y] at e;have q':oc=p.2:=B3 e;exact d w' (by rw[← q'];exact a0)
theorem ov0{M:Model}{A:Around}{E:Value->Shared->Prop}{v:V}{Q:Unit->Shared->Prop}(I:Inv X pins σ H s)(hN:X.N.Nodup)(hi:X.N[i]?=some x)(hx:Loc X.env.scope x)(r:RelV v u)
  (h:∀s',Inv X pins (σ.set i (some v)) H s'->Q () s') (hf:X.fn x=true∨X.env.scope.names.lookup x=some .local:=by first|exact .inl rfl|exact .inr rfl|assumption):wpAny M A (storeName X.env x u) Q E s :=
 pb0 I hN hi hx r (λs' I' _=>h s' I') hf
theorem Inv.call'(I:Inv X pins σ H s)(ho:s'.os=s.os)(u:Un (frs X.stack) ch H H' s.heap s'.heap)(hok:HOk X.prog X.w H' s'.heap)(hg:AllBare s'.gens)
  (hch:∀b∈ch,(b∈X.ex∨X.s₀.heap.objs.size<=b)/\b≠X.env.locals/\(∀x c,X.env.cells.lookup x=some c->c≠b)/\∀p∈X.pn++pins,p.1≠b):Inv X pins σ H' s':=by
 obtain⟨h',g',d',t',o'⟩:=s';have e:o'=s.os:=ho;subst e;exact I.call (g':=g') (t':=t') (d':=d') u hok hg hch
end
abbrev XK:=Value->Option Addr->Hp->Prop
abbrev St:=List (Option V)
abbrev VK:=V->Hp->Prop
abbrev TE:=St->Hp->VK->Prop
abbrev TT:=St->Hp->(Bool->Hp->Prop)->Prop
variable{ta tb te tv:L2.TE}
abbrev TA:=St->Hp->(List V->Hp->Prop)->Prop
structure Ends where
 nx:St->Hp->Prop
 rt:VK
 bk:St->Hp->Prop:=λ_ _=>False
 ct:St->Hp->Prop:=λ_ _=>False
abbrev TS:=Ends->St->Hp->Prop
def EP(X:Cx)(pins:List (Addr×Obj))(σ:St)(Q:VK)(u:Value)(s':Shared):Prop:=∃v H',Inv X pins σ H' s'/\RelV v u/\Q v H'
def TP(X:Cx)(pins:List (Addr×Obj))(σ:St)(Q:Bool->Hp->Prop)(b:Bool)(s':Shared):Prop:=∃H',Inv X pins σ H' s'/\Q b H'
def AP(X:Cx)(pins:List (Addr×Obj))(σ:St)(Q:List V->Hp->Prop)(us:List Value)(s':Shared):Prop:=∃vs H',Inv X pins σ H' s'/\Vals vs us/\Q vs H'
def SP(X:Cx)(pins:List (Addr×Obj))(D:Ends)(f:Flow)(s':Shared):Prop :=
 match f with
 | .next=>∃σ' H',Inv X pins σ' H' s'/\D.nx σ' H'
 | .brk=>∃σ' H',Inv X pins σ' H' s'/\D.bk σ' H'
 | .cont=>∃σ' H',Inv X pins σ' H' s'/\D.ct σ' H'
 | .ret u=>∃v σ' H',Inv X pins σ' H' s'/\RelV v u/\D.rt v H'
def PE(X:Cx)(e:Expr)(t:TE):Prop :=
 ∀(pins:List (Addr×Obj)) (s:Shared) (σ:St) (H:Hp) (Q:VK),Inv X pins σ H s->t σ H Q->wpAny (model X.prog X.w) X.A (eval e X.env) (EP X pins σ Q) X.xe s
def PT(X:Cx)(e:Expr)(t:TT):Prop :=
 ∀(pins:List (Addr×Obj)) (s:Shared) (σ:St) (H:Hp) (Q:Bool->Hp->Prop),Inv X pins σ H s->t σ H Q->wpAny (model X.prog X.w) X.A (isTrue e X.env (eval e X.env)) (TP X pins σ Q) X.xe s
def PW(X:Cx)(e:Expr)(t:TT):Prop :=
 ∀(whole:Sem Value) (pins:List (Addr×Obj)) (s:Shared) (σ:St) (H:Hp) (Q:Bool->Hp->Prop),Inv X pins σ H s->t σ H Q->wpAny (model X.prog X.w) X.A (isTrue e X.env whole) (TP X pins σ Q) X.xe s
theorem PW.pt{t:TT}(h:PW X e t):PT X e t:=h _
def PA(X:Cx)(es:List Expr)(t:TA):Prop :=
 ∀(pos:Pos) (pins:List (Addr×Obj)) (s:Shared) (σ:St) (H:Hp) (Q:List V->Hp->Prop),Inv X pins σ H s->t σ H Q->wpAny (model X.prog X.w) X.A (spliced (backTo pos (starEach es X.env))) (AP X pins σ Q) X.xe s
def PS(X:Cx)(st:Stmt)(t:TS):Prop :=
 ∀(pins:List (Addr×Obj)) (s:Shared) (σ:St) (H:Hp) (D:Ends),Inv X pins σ H s->t D σ H->wpAny (model X.prog X.w) X.A (exec st X.env) (SP X pins D) X.xe s
def PSs(X:Cx)(st:List Stmt)(t:TS):Prop :=
 ∀(pins:List (Addr×Obj)) (s:Shared) (σ:St) (H:Hp) (D:Ends),Inv X pins σ H s->t D σ H->wpAny (model X.prog X.w) X.A (execs st X.env) (SP X pins D) X.xe s
theorem thn{t:Sem α}{Q Q':α->Shared->Prop}{M:Model}{s:Shared}(h:wpAny M A t Q E s)(hQ:∀a s,Q a s->Q' a s):wpAny M A t Q' E s:=D0 h hQ λ_ _ x=>x
section
def Ui0(i:Nat):TE:=fun σ H Q=>∃v,σ[i]?=some (some v)/\Q v H
def tC(v:V):TE:=λ_ H Q=>Q v H
theorem yx0(hN:X.N[i]?=some x)(hv:Vis X.env.scope x)(hd:(x==("__debug__" : Str))=false:=by decide)(hcd:(x==("__classdict__" : Str))=false:=by decide):PE X (.Name x pos) (Ui0 i):=by
 intro pins s σ H Q I h;obtain⟨v,e,h⟩:=h;obtain⟨m,hn,hl⟩:=I.loc;obtain⟨u,r,l⟩:=hl i x v hN e hv;have fin:EP X pins σ Q u s:=⟨v,H,I,r,h⟩;rcases l with⟨hk,hm⟩|⟨hk,c,hc,F⟩
 ·exact wpAny_Name (wpAny_loadName_local I.ok.kind hk hn hm fin) hd
 ·rcases hk with hk|hk
  ·exact wpAny_Name (wpAny_loadName_cell I.ok.kind hk hc F fin) hd
  ·exact wpAny_Name (wpAny_loadName_free I.ok.kind hk hc F fin hcd) hd
theorem Y70{i j pos}:PE X (.Constant (.int i) j pos) (tC (.int i)):=λ_ _ _ H _ I h=>wpAny_Constant_int ⟨.int i,H,I.tok _,⟨_,rfl⟩,h⟩
theorem V00{b j pos}:PE X (.Constant (.bool b) j pos) (tC (.bl b)):=λ_ _ _ H _ I h=>Constant_bool ⟨.bl b,H,I,rfl,h⟩
theorem Xd0{j pos}:PE X (.Constant .none j pos) (tC .non):=λ_ _ _ H _ I h=>Constant_none ⟨.non,H,I,rfl,h⟩
theorem Yl0{x j pos}:PE X (.Constant (.str x) j pos) (tC (.str x)):=λ_ _ _ H _ I h=>Calls.Constant_str ⟨.str x,H,I.tok _,⟨_,rfl⟩,h⟩
def Gl(X:Cx)(x:Str):Prop:=X.env.kindOf x=some .globalImplicit
theorem kq0{E:Value->Shared->Prop}{s:Shared}{σ:St}{pos:Pos}(I:Inv X pins σ H s)(hg:Gl X x)(hm:X.mg x=some u)(h:Q u s)
  (hd:(x==("__debug__" : Str))=false:=by decide):wpAny (model X.prog X.w) X.A (eval (.Name x pos) X.env) Q E s :=
 Bb0 I.ok.kind hg (Calls.loadGlobal_global (by rw[I.ok.glob];exact I.mod.glob.keeps I.bk) hm h) hd
theorem K7{E:Value->Shared->Prop}{s:Shared}{σ:St}{pos:Pos}(I:Inv X pins σ H s)(hg:Gl X x)(hm:X.mg x=none)(hv:bootBuiltins x=some u)(h:Q u s)
  (hn:x ≠"__name__" := by decide) (hd:(x==("__debug__" : Str))=false:=by decide):wpAny (model X.prog X.w) X.A (eval (.Name x pos) X.env) Q E s:=by
 obtain⟨mb,h1,h2⟩:=I.mod.blt;exact Bb0 I.ok.kind hg (Calls.loadGlobal_builtin (by rw[I.ok.glob];exact I.mod.glob.keeps I.bk) hm (by rw[I.ok.blt];exact h1.keeps I.bk) ((h2 x hn).trans hv) h) hd
theorem by0{v:V}(hg:Gl X x)(hm:X.mg x=some u)(r:RelV v u)(hd:(x==("__debug__" : Str))=false:=by decide):PE X (.Name x pos) (tC v) :=
 λ_ _ _ H _ I h=>kq0 I hg hm ⟨v,H,I,r,h⟩ hd
theorem bl0{v:V}(hg:Gl X x)(hm:X.mg x=none)(hv:bootBuiltins x=some u)(r:RelV v u)(hn:x ≠"__name__" := by decide)(hd:(x==("__debug__" : Str))=false:=by decide):PE X (.Name x pos) (tC v) :=
 λ_ _ _ H _ I h=>K7 I hg hm hv ⟨v,H,I,r,h⟩ hn hd
variable{a:Expr}
def PC(X:Cx)(op:CmpOp)(a b:Expr)(t:TE):Prop :=
 ∀(pins:List (Addr×Obj)) (s:Shared) (σ:St) (H:Hp) (Q:VK),Inv X pins σ H s->t σ H Q ->
  wpAny (model X.prog X.w) X.A (eval a X.env) (λv s₁=>wpAny (model X.prog X.w) X.A (eval b X.env) (λu s₂=>wpAny (model X.prog X.w) X.A (compareOp op v u) (EP X pins σ Q) X.xe s₂) X.xe s₁) X.xe s
def tB(t:TE):TT:=fun σ H Q=>t σ H λx H1=>∃c,x=.bl c/\Q c H1
theorem X90{op:CmpOp}{t:TE}(h:PC X op a b t)(h1:behindInMarks op b=false:=by first|exact nobehind _ (by decide) (by decide)|rfl):PT X (.Compare a [op] [b] pos) (tB t):=by
 intro pins s σ H Q I hw;refine wpAny_isTrue_Compare1 (thn (h pins s σ H _ I hw) λv s1 h1=>thn h1 λu s2 h2=>thn h2 λc s3 ⟨x,H1,I1,r1,q1⟩=>?_) h1;obtain⟨d,rfl,q⟩:=q1;cases r1;exact P1 ⟨H1,I1,q⟩
theorem Xp0{t:TE}(h:PE X e t)(he:∀whole,isTrue e X.env whole=(do let v ← whole;standAt e.pos;holding [v] (truthy v)):=by intro _;rfl):PT X e (tB t):=by
 intro pins s σ H Q I hw;refine isTrue_plain (thn (h pins s σ H _ I hw) λv s1 ⟨x,H1,I1,r1,q1⟩=>?_) (he _);obtain⟨d,rfl,q⟩:=q1;cases r1;exact P1 ⟨H1,I1,q⟩
variable{tA tB':TT}{rest:List Expr}
def U00(t u:TT):TT:=fun σ H Q=>t σ H λc H1=>if c=true then u σ H1 Q else Q false H1
def tOr(t u:TT):TT:=fun σ H Q=>t σ H λc H1=>if c=true then Q true H1 else u σ H1 Q
def U80(t:TT):TT:=fun σ H Q=>t σ H λc H1=>Q (!c) H1
theorem ak0(ha:PT X a tA):PW X (.BoolOp .And [a] pos) tA:=by
 intro wh pins s σ H Q I h;refine isTrue_and (thn (ha pins s σ H Q I h) λc s1 e=>?_);cases c with
 | true=>exact isTrue_and_nil e
 | false=>exact e
theorem Yb0(ha:PT X a tA):PW X (.BoolOp .Or [a] pos) tA:=by
 intro wh pins s σ H Q I h;refine isTrue_or (thn (ha pins s σ H Q I h) λc s1 e=>?_);cases c with
 | false=>exact isTrue_or_nil e
 | true=>exact e
theorem Zh0(ha:PT X a tA)(hb:PW X (.BoolOp .And (b::rest) pos) tB'):PW X (.BoolOp .And (a::b::rest) pos) (U00 tA tB'):=by
 intro wh pins s σ H Q I h;refine isTrue_and (thn (ha pins s σ H _ I h) λc s1 ⟨H1,I1,q1⟩=>?_);cases c with
 | true=>exact hb wh pins s1 σ H1 Q I1 q1
 | false=>exact⟨H1,I1,q1⟩
theorem W80(ha:PT X a tA)(hb:PW X (.BoolOp .Or (b::rest) pos) tB'):PW X (.BoolOp .Or (a::b::rest) pos) (tOr tA tB'):=by
 intro wh pins s σ H Q I h;refine isTrue_or (thn (ha pins s σ H _ I h) λc s1 ⟨H1,I1,q1⟩=>?_);cases c with
 | true=>exact⟨H1,I1,q1⟩
 | false=>exact hb wh pins s1 σ H1 Q I1 q1
theorem Y30(ha:PT X a tA):PT X (.UnaryOp .Not a pos) (U80 tA):=by
 intro pins s σ H Q I h;exact isTrue_not (ha pins s σ H (λc H1=>Q (!c) H1) I h)
def W50(ta tb:TE):TE:=fun σ H Q=>ta σ H λx H1=>∃c,x=.bl c/\if c=true then tb σ H1 Q else Q (.bl false) H1
def Vw0(ta tb:TE):TE:=fun σ H Q=>ta σ H λx H1=>∃c,x=.bl c/\if c=true then Q (.bl true) H1 else tb σ H1 Q
def Wb0(ta:TE):TE:=fun σ H Q=>ta σ H λx H1=>∃c,x=.bl c/\Q (.bl (!c)) H1
theorem Zi0{op}{t:TE}(h:PE X a t):PE X (.BoolOp op [a] pos) t:=λpins s σ H Q I hw=>BoolOp_one (h pins s σ H Q I hw)
theorem Yh0(ha:PE X a ta)(hb:PE X (.BoolOp .And (b::rest) pos) tb):PE X (.BoolOp .And (a::b::rest) pos) (W50 ta tb):=by
 intro pins s σ H Q I h;refine BoolOp_and (thn (ha pins s σ H _ I h) λv s1 ⟨x,H1,I1,r1,q1⟩=>?_);obtain⟨c,rfl,q1⟩:=q1;cases r1;refine P1 ?_;cases c with
 | true=>exact hb pins s1 σ H1 Q I1 q1
 | false=>exact⟨.bl false,H1,I1,rfl,q1⟩
theorem Wa0(ha:PE X a ta)(hb:PE X (.BoolOp .Or (b::rest) pos) tb):PE X (.BoolOp .Or (a::b::rest) pos) (Vw0 ta tb):=by
 intro pins s σ H Q I h;refine BoolOp_or (thn (ha pins s σ H _ I h) λv s1 ⟨x,H1,I1,r1,q1⟩=>?_);obtain⟨c,rfl,q1⟩:=q1;cases r1;refine P1 ?_;cases c with
 | false=>exact hb pins s1 σ H1 Q I1 q1
 | true=>exact⟨.bl true,H1,I1,rfl,q1⟩
theorem Ys0(ha:PE X a ta):PE X (.UnaryOp .Not a pos) (Wb0 ta):=by
 intro pins s σ H Q I h;refine UnaryOp_ (thn (ha pins s σ H _ I h) λv s1 ⟨x,H1,I1,r1,q1⟩=>?_);obtain⟨c,rfl,q1⟩:=q1;cases r1;exact not_of (P1 ⟨.bl (!c),H1,I1,rfl,q1⟩)
def tIf(t:TT)(ta tb:TE):TE:=fun σ H Q=>t σ H λc H1=>if c=true then ta σ H1 Q else tb σ H1 Q
theorem er0(hc:PT X c tA)(ha:PE X a ta)(hb:PE X b tb):PE X (.IfExp c a b pos) (tIf tA ta tb):=by
 intro pins s σ H Q I h;refine wpAny_IfExp (thn (hc pins s σ H _ I h) λd s1 ⟨H1,I1,q1⟩=>?_);cases d with
 | true=>exact ha pins s1 σ H1 Q I1 q1
 | false=>exact hb pins s1 σ H1 Q I1 q1
end
def SqL(K:W.Frag)(H:Hp)(a:Addr)(xs:List V):Prop :=
 Rd H a (.lst xs) ∨
  ∃(o:Obj) (its:Array Value) (n:Nat),K.lookup a=some o/\o.cls=.type "list"/\o.dict=none/\o.data=.seq its n/\its.size<=sizeLine/\Vals xs its.toList
def SqT(K:W.Frag)(H:Hp)(a:Addr)(xs:List V):Prop :=
 Rd H a (.tup xs) ∨
  ∃(o:Obj) (its:Array Value) (n:Nat),K.lookup a=some o/\o.cls=.type "tuple"/\o.data=.seq its n/\its.size<=sizeLine/\Vals xs its.toList
def Vx0:Value->Option V
 | .none=>some .non
 | .bool b=>some (.bl b)
 | .int i _=>some (.int i)
 | .str x _=>some (.str x)
 | .bytes b _=>some (.byt b)
 | .float b _=>some (.flt b)
 | .ref a=>some (.ref a)
 | .type n=>some (.ty n)
 | _=>none
theorem RelV.abs{x:V}(r:RelV x u):Vx0 u=some x:=by
 cases x with
 | non=>cases r;rfl
 | bl _=>cases r;rfl
 | int _=>obtain⟨t,rfl⟩:=r;rfl
 | str _=>obtain⟨t,rfl⟩:=r;rfl
 | byt _=>obtain⟨t,rfl⟩:=r;rfl
 | flt _=>obtain⟨t,rfl⟩:=r;rfl
 | ref _=>cases r;rfl
 | ty _=>cases r;rfl
theorem RelV.inj{x y:V}(r:RelV x u)(q:RelV y u):x=y:=B3 (r.abs.symm.trans q.abs)
theorem Vals.inj:∀{xs ys:List V} {us:List Value},Vals xs us->Vals ys us->xs=ys
 | _,_,_,.nil,.nil=>rfl
 | _,_,_,.cons r t,.cons r' t'=>by rw[r.inj r',Vals.inj t t']
section
variable{σ:St}{s:Shared}{xs ys:List V}
theorem SqT.of(h:H a=some (.tup xs)):SqT K H a xs:=.inl (.inl h)
theorem Inv.list(I:Inv X pins σ H s)(h:SqL X.K H a xs):∃its:List Value,Vals xs its/\PlainL s.heap a its.toArray/\xs.length<=sizeLine:=by
 rcases h with h|⟨o,its,n,hk,hc,hd,hs,hz,r⟩
 ·obtain⟨z,its,n,r,e⟩:=h.ok I.hok
  exact⟨its,r,⟨_,n,e,rfl,rfl,rfl⟩,z⟩
 ·refine⟨its.toList,r,⟨o,n,I.kIn a o hk,hc,hd,by simpa using hs⟩,?_⟩
  have e:=r.length;simp only[Array.length_toList] at e;omega
theorem Inv.tuple(I:Inv X pins σ H s)(h:SqT X.K H a xs):∃its:List Value,Vals xs its/\IsTup s.heap a its.toArray/\xs.length<=sizeLine:=by
 rcases h with h|⟨o,its,n,hk,hc,hs,hz,r⟩
 ·obtain⟨z,its,r,p⟩:=h.ok I.hok
  exact⟨its,r,p.tup,z⟩
 ·refine⟨its.toList,r,⟨o,I.kIn a o hk,hc,n,by simpa using hs⟩,?_⟩
  have e:=r.length;simp only[Array.length_toList] at e;omega
theorem Inv.list_inj(I:Inv X pins σ H s)(h:SqL X.K H a xs)(h':SqL X.K H a ys):xs=ys:=by
 obtain⟨its,r,⟨o,n,e,_,_,d⟩,_⟩:=I.list h;obtain⟨F,r',⟨o',n',e',_,_,d'⟩,_⟩:=I.list h';rw[e] at e';cases e';rw[d] at d';injection d' with d1 _
 have:its=F:=by simpa using E2 Array.toList d1
 subst this;exact r.inj r'
theorem Inv.tuple_inj(I:Inv X pins σ H s)(h:SqT X.K H a xs)(h':SqT X.K H a ys):xs=ys:=by
 obtain⟨its,r,⟨o,e,_,n,d⟩,_⟩:=I.tuple h;obtain⟨F,r',⟨o',e',_,n',d'⟩,_⟩:=I.tuple h';rw[e] at e';cases e';rw[d] at d';injection d' with d1 _
 have:its=F:=by simpa using E2 Array.toList d1
 subst this;exact r.inj r'
end
abbrev Cx.wish(X:Cx)(E:Value->Shared->Prop):Cx:={ X with xe:=E }
abbrev Cx.nox(X:Cx):Cx:=X.wish λ_ _=>False
theorem Cx.Ok.wish(ok:X.Ok)(E:Value->Shared->Prop):(X.wish E).Ok :=
 ⟨ok.mod,ok.kind,ok.glob,ok.blt,ok.above,ok.inj,ok.has,ok.cab,ok.hd,ok.frames,ok.stk,ok.exf,ok.bs,ok.bsz,ok.noex,ok.exfs,ok.funs,ok.frf⟩
theorem Cx.Ok.unwish(ok:(X.wish E).Ok):X.Ok :=
 ⟨ok.mod,ok.kind,ok.glob,ok.blt,ok.above,ok.inj,ok.has,ok.cab,ok.hd,ok.frames,ok.stk,ok.exf,ok.bs,ok.bsz,ok.noex,ok.exfs,ok.funs,ok.frf⟩
section
variable{σ:St}{s:Shared}
theorem Inv.wish(I:Inv X pins σ H s)(E:Value->Shared->Prop):Inv (X.wish E) pins σ H s:=⟨I.ok.wish E,I.os,I.bare,I.base,I.loc,I.cell,I.free,I.freeC,I.pin,I.hok,I.len⟩
theorem Inv.unwish(I:Inv (X.wish E) pins σ H s):Inv X pins σ H s:=⟨I.ok.unwish,I.os,I.bare,I.base,I.loc,I.cell,I.free,I.freeC,I.pin,I.hok,I.len⟩
theorem SP.unwish{D:Ends}{f:Flow}(h:SP (X.wish E) pins D f s'):SP X pins D f s':=by
 cases f with
 | next=>obtain⟨σ',H',I,q⟩:=h;exact⟨σ',H',I.unwish,q⟩
 | brk=>obtain⟨σ',H',I,q⟩:=h;exact⟨σ',H',I.unwish,q⟩
 | cont=>obtain⟨σ',H',I,q⟩:=h;exact⟨σ',H',I.unwish,q⟩
 | ret u=>obtain⟨v,σ',H',I,r,q⟩:=h;exact⟨v,σ',H',I.unwish,r,q⟩
theorem PSs.nox{st:List Stmt}{t:TS}(h:PSs X.nox st t):PSs X st t:=λpins s σ H D I hw =>
 D0 (h pins s σ H D (I.wish _) hw) (λ_ _ q=>q.unwish) λ_ _ z=>False.elim z
end
section
variable{t u:TS}
def V50:TS:=λD σ H=>D.nx σ H
def Vs0(t u:TS):TS:=λD σ H=>t { D with nx:=u D } σ H
theorem cl0:PSs X [] V50:=λ_ _ σ H _ I h=>A10 ⟨σ,H,I,h⟩
theorem wa0(h1:PS X st t)(h2:PSs X rest u):PSs X (st::rest) (Vs0 t u):=by
 intro pins s σ H D I h;refine wpAny_execs_cons (thn (h1 pins s σ H { D with nx:=u D } I h) λf s1 q=>?_);cases f with
 | next =>
  obtain⟨σ',H',I',q⟩:=q;exact h2 pins s1 σ' H' D I' q
 | ret v=>exact q
 | brk=>exact q
 | cont=>exact q
theorem Inv.quiet{σ:St}{s:Shared}(I:Inv X pins σ H s):interactive X.env=false:=by simp[interactive,I.ok.kind]
def W40(te:TE):TS:=λD σ H=>te σ H λ_ H1=>D.nx σ H1
theorem bj0(he:PE X e te)(hs:swapsWith e none pos.line X.env=pure false:=by rfl):PS X (.Expr e pos) (W40 te):=by
 intro pins s σ H D I h;exact wpAny_Expr_any (thn (he pins s σ H _ I h) λv s1 ⟨x,H1,I1,r1,q1⟩=>⟨σ,H1,I1,q1⟩) I.quiet hs
def Vo0(te:TE):TS:=λD σ H=>te σ H D.rt
theorem md0(he:PE X e te):PS X (.Return (some e) pos) (Vo0 te):=by
 intro pins s σ H D I h;exact wpAny_Return_some (thn (he pins s σ H _ I h) λv s1 ⟨x,H1,I1,r1,q1⟩=>⟨x,σ,H1,I1,r1,q1⟩)
def Vy0(c:TT)(t u:TS):TS:=λD σ H=>c σ H λb H1=>if b=true then t D σ H1 else u D σ H1
theorem Vf0{a b:List Stmt}{tc:TT}(hc:PT X c tc)(ha:PSs X a t)(hb:PSs X b u):PS X (.If c a b pos) (Vy0 tc t u):=by
 intro pins s σ H D I h;refine wpAny_If (thn (hc pins s σ H _ I h) λd s1 ⟨H1,I1,q1⟩=>?_);cases d with
 | true=>exact ha pins s1 σ H1 D I1 q1
 | false=>exact hb pins s1 σ H1 D I1 q1
def Xx0:TS:=λ_ _ _=>False
theorem wj0{sts:List Stmt}:PSs X sts Xx0:=λ_ _ _ _ _ _ h=>h.elim
end
abbrev TG:=V->St->Hp->(St->Hp->Prop)->Prop
abbrev TGs:=List V->St->Hp->(St->Hp->Prop)->Prop
def PG(X:Cx)(target:Expr)(t:TG):Prop :=
 ∀(pins:List (Addr×Obj)) (s:Shared) (σ:St) (H:Hp) (v:V) (u:Value) (Q:St->Hp->Prop),Inv X pins σ H s->RelV v u->t v σ H Q ->
  wpAny (model X.prog X.w) X.A (assign target X.env u) (λ_ s'=>∃σ' H',Inv X pins σ' H' s'/\Q σ' H') X.xe s
def PGs(X:Cx)(ts:List Expr)(t:TGs):Prop :=
 ∀(pins:List (Addr×Obj)) (s:Shared) (σ:St) (H:Hp) (vs:List V) (us:List Value) (Q:St->Hp->Prop),Inv X pins σ H s->Vals vs us->t vs σ H Q ->
  wpAny (model X.prog X.w) X.A (assignInOrder ((assignEach ts X.env).map (·.2)) us) (λ_ s'=>∃σ' H',Inv X pins σ' H' s'/\Q σ' H') X.xe s
abbrev dd0:=V->V->V->Hp->(Hp->Prop)->Prop
def e30(X:Cx)(t:dd0):Prop :=
 ∀(pins:List (Addr×Obj)) (s:Shared) (σ:St) (H:Hp) (o i v:V) (ov iv u:Value) (Q:Hp->Prop),Inv X pins σ H s->RelV o ov->RelV i iv->RelV v u->t o i v H Q ->
  wpAny (model X.prog X.w) X.A (setItem ov iv u) (λ_ s'=>∃H',Inv X pins σ H' s'/\Q H') X.xe s
abbrev TIp:=V->V->Hp->VK->Prop
def PIp(X:Cx)(op:Operator)(t:TIp):Prop :=
 ∀(pins:List (Addr×Obj)) (s:Shared) (σ:St) (H:Hp) (x y:V) (v u:Value) (Q:VK),Inv X pins σ H s->RelV x v->RelV y u->t x y H Q ->
  wpAny (model X.prog X.w) X.A (inplaceOp op v u) (EP X pins σ Q) X.xe s
def Wr0(i:Nat):TG:=λv σ H Q=>Q (σ.set i (some v)) H
theorem td0(hN:X.N.Nodup)(hi:X.N[i]?=some x)(hx:Loc X.env.scope x)(hf:X.fn x=true∨X.env.scope.names.lookup x=some .local:=by first|exact .inl rfl|exact .inr rfl|assumption):PG X (.Name x pos) (Wr0 i):=by
 intro pins s σ H v u Q I r h;exact wpAny_assign_Name (ov0 I hN hi hx r (λs' I'=>⟨_,H,I',h⟩) hf)
def U90:TGs:=λvs σ H Q=>vs=[]/\Q σ H
def Wt0(t:TG)(u:TGs):TGs:=λvs σ H Q=>∃v r,vs=v::r/\t v σ H fun σ' H'=>u r σ' H' Q
theorem ac0:PGs X [] U90:=by
 intro pins s σ H vs us Q I r h;obtain⟨e,h⟩:=h;subst e;cases r;exact assignInOrder_nil ⟨σ,H,I,h⟩
theorem mi0{t:TG}{u:TGs}(h1:PG X e t)(h2:PGs X es u)
  (hs:(assignEach (e::es) X.env).map (·.2)=assign e X.env::(assignEach es X.env).map (·.2):=by rfl):PGs X (e::es) (Wt0 t u):=by
 intro pins s σ H vs us Q I r h;obtain⟨v,vr,e1,h⟩:=h;subst e1;cases r with
 | cons r rr =>
  rw[hs];refine assignInOrder_cons (thn (h1 pins s σ H _ _ _ I r h) λ_ s1 ⟨σ1,H1,I1,q1⟩=>?_);exact h2 pins s1 σ1 H1 _ _ Q I1 rr q1
def Uh0(K:W.Frag)(n:Nat)(t:TGs):TG:=λv σ H Q=>∃a xs,v=.ref a/\SqT K H a xs/\xs.length=n/\t xs σ H Q
theorem Yv0{k:Nat}{t:TGs}{n:Nat}(hc:X.calm=true)(h:PGs X es t)
  (hn:(assignEach es X.env).length=n:=by rfl) (hst:(assignEach es X.env).findIdx? (·.1)=none:=by rfl):PG X (.Tuple es k pos) (Uh0 X.K n t):=by
 intro pins s σ H v u Q I r hw;obtain⟨a,xs,e1,hq,hl,hw⟩:=hw;subst e1;cases r;obtain⟨its,rv,ht,hz⟩:=I.tuple hq;refine assign_Tuple_tuple (I.ok.hd hc) ht (by simp[hn,← hl,rv.length]) hst λh' hx=>?_
 have I1:Inv X pins σ H { s with heap:=h' }:=I.kept (t':=s.toks) λb o e=>hx b o (A9 (A6 e)) e
 exact h pins _ σ H xs _ Q I1 (by simpa using rv) hw
def U30(to ti:TE)(t:dd0):TG:=λv σ H Q=>to σ H λo H1=>ti σ H1 λi H2=>t o i v H2 λH3=>Q σ H3
theorem nh0{i:Expr}{to ti:TE}{t:dd0}(ho:PE X o to)(hi:PE X i ti)(hs:e30 X t)
  (ha:∀v,assign (.Subscript o i pos) X.env v=(do
   let ov ← holding [v] (eval o X.env)
   let iv ← holding [v,ov] (eval i X.env)
   standAt pos
   holding [v,ov,iv] (setItem ov iv v)
   release [v,ov,iv] []):=by intro _;rfl):PG X (.Subscript o i pos) (U30 to ti t):=by
 intro pins s σ H v u Q I r h;rw[ha];refine A0 (C3 (thn (ho pins s σ H _ I h) λov s1 ⟨x,H1,I1,r1,q1⟩=>?_));refine A0 (C3 (thn (hi pins s1 σ H1 _ I1 q1) λiv s2 ⟨y,H2,I2,r2,q2⟩=>?_));refine A0 (X1 (A0 (C3 (thn (hs pins s2 σ H2 x y v ov iv u _ I2 r1 r2 r q2) λ_ s3 ⟨H3,I3,q3⟩=>?_))));exact wpAny_release ⟨σ,H3,I3,q3⟩
def Ua0(te:TE)(g:TG):TS:=λD σ H=>te σ H λx H1=>g x σ H1 D.nx
theorem mg0{tg:Expr}{g:TG}(he:PE X e te)(hg:PG X tg g)(hs:swapsWithSole [tg] e pos.line X.env=pure false:=by rfl)(hw:swappedStores [tg] e X.env=pure none:=by rfl)
  (h1:(assignEach [tg] X.env).map (·.2)=[assign tg X.env]:=by rfl):PS X (.Assign [tg] e pos) (Ua0 te g):=by
 intro pins s σ H D I h;refine wpAny_Assign_stores (thn (he pins s σ H _ I h) λv s1 ⟨x,H1,I1,r1,q1⟩=>?_) hs hw;rw[h1];exact thn (hg pins s1 σ H1 x v _ I1 r1 q1) λ_ s2 q=>q
def Ub0(i:Nat)(te:TE)(ti:TIp):TS:=λD σ H=>∃x,σ[i]?=some (some x)/\te σ H λy H1=>ti x y H1 λz H2=>D.nx (σ.set i (some z)) H2
theorem Xv0{op:Operator}{ti:TIp}{pos':Pos}(hN:X.N.Nodup)(hi:X.N[i]?=some x)(hx:Loc X.env.scope x)(he:PE X e te)(ho:PIp X op ti)(hf:X.fn x=true∨X.env.scope.names.lookup x=some .local:=by first|exact .inl rfl|exact .inr rfl|assumption) :
  PS X (.AugAssign (.Name x pos') op e pos) (Ub0 i te ti):=by
 intro pins s σ H D I h;obtain⟨v,e1,h⟩:=h;obtain⟨m,hn,hl⟩:=I.loc;have J:Vis X.env.scope x:=by rcases hx with k|k;exact .inl k;exact .inr (.inl k)
 obtain⟨u,r,l⟩:=hl i x v hi e1 J;refine wpAny_AugAssign_Name ?_;have go:wpAny (model X.prog X.w) X.A (eval e X.env) (λw s₂=>wpAny (model X.prog X.w) X.A (inplaceOp op u w) (λr s₃=>wpAny (model X.prog X.w) X.A (storeName X.env x r) (λ_=>SP X pins D .next) X.xe s₃) X.xe s₂) X.xe s:=by
  refine thn (he pins s σ H _ I h) λw s1 ⟨y,H1,I1,r1,q1⟩=>?_
  refine thn (ho pins s1 σ H1 v y u w _ I1 r r1 q1) λz s2 ⟨zv,H2,I2,r2,q2⟩=>?_
  exact ov0 I2 hN hi hx r2 (λs3 I3=>⟨_,H2,I3,q2⟩) hf
 rcases l with⟨hk,hm⟩|⟨hk,c,hc,F⟩
 ·exact wpAny_loadName_local I.ok.kind hk hn hm go
 ·rcases hk with hk|hk
  ·exact wpAny_loadName_cell I.ok.kind hk hc F go
  ·rcases hx with k|k
   ·have:X.env.scope.names.lookup x=some .free:=hk
    rw[k] at this;cases this
   ·have:X.env.scope.names.lookup x=some .free:=hk
    rw[k] at this;cases this
def ipI(f:Int->Int->Int):TIp:=λx y H Q=>∃i j,x=.int i/\y=.int j/\Q (.int (f i j)) H
theorem Zc0:PIp X .Add (ipI λi j=>i+j):=by
 intro pins s σ H x y v u Q I r1 r2 h;obtain⟨i,j,e1,e2,q⟩:=h;subst e1;subst e2;obtain⟨t,rfl⟩:=r1;obtain⟨t',rfl⟩:=r2;exact iadd_int ⟨.int _,H,I.tok _,⟨_,rfl⟩,q⟩
def X50(c:TT)(tb:TS):TS:=λD σ H=>∃W:Nat->St->Hp->Prop,(∃m,W m σ H)/\∀m σ H,W m σ H ->
 c σ H λb H1=>if b=true then ∃N:St->Hp->Prop,(∀σ' H',N σ' H'->∃m',m'<m/\W m' σ' H')/\tb { D with nx:=N,ct:=N,bk:=D.nx } σ H1 else D.nx σ H1
theorem eo0{tc:TT}{tb:TS}(hp:PassesOwn (model X.prog X.w) X.A X.env X.xe)(hc:PT X c tc)(hb:PSs X body tb):PS X (.While c body [] pos) (X50 tc tb):=by
 intro pins s σ H D I h;obtain⟨W,⟨m0,w0⟩,F⟩:=h;refine wpAny_While (codeAny_whileLoop (λn s'=>∃σ' H',Inv X pins σ' H' s'/\W n σ' H') ?_ m0 ⟨σ,H,I,w0⟩);rintro n s1 ⟨σ1,H1,I1,w1⟩;refine P2 hp (thn (hc pins s1 σ1 H1 _ I1 (F n σ1 H1 w1)) λb s2 ⟨H2,I2,q2⟩=>?_);cases b with
 | true =>
  obtain⟨N,hN,q2⟩:=q2;rw[if_pos rfl];refine P2 hp (thn (hb pins s2 σ1 H2 _ I2 q2) λf s3 q3=>?_);cases f with
  | next =>
   obtain⟨σ3,H3,I3,n3⟩:=q3;obtain⟨m',hm,w3⟩:=hN σ3 H3 n3;exact⟨m',hm,σ3,H3,I3,w3⟩
  | cont =>
   obtain⟨σ3,H3,I3,n3⟩:=q3;obtain⟨m',hm,w3⟩:=hN σ3 H3 n3;exact⟨m',hm,σ3,H3,I3,w3⟩
  | brk=>exact q3
  | ret v=>exact q3
 | false =>
  rw[if_neg C1];exact A10 ⟨σ1,H2,I2,q2⟩
structure It where
 go:Nat->Hp->Prop
 yld:Nat->Hp->V->Hp->Prop
 stop:Nat->Hp->Prop
def xk0(X:Cx)(pins:List (Addr×Obj))(H:Hp)(b:Addr):Prop :=
 H b=none/\b≠X.env.locals/\b∉X.fs/\(b∈X.ex∨X.s₀.heap.objs.size<=b)/\(∀x c,X.env.cells.lookup x=some c->c≠b)/\∀p∈X.pn++pins,p.1≠b
theorem Inv.fpOk{σ:St}{s:Shared}{b:Addr}(I:Inv X pins σ H s)(hb:s.heap.objs.size<=b)(hn:H' b=none):xk0 X pins H' b:=by
 refine⟨hn,B8 (B6 I.lt hb),I.nofs hb,.inr (C2 I.sz hb),λx c e z=>?_,λp hp z=>?_⟩
 ·obtain⟨v,q⟩:=I.cell x c e
  exact absurd (B6 q.lt (by rw[z];exact hb)) (D9 _)
 ·exact absurd (B6 (A6 (I.pin p hp).1) (by rw[z];exact hb)) (D9 _)
structure Turn(P:Program)(w:World)(K:W.Frag)(tg:Expr)(J:It)(fp:List Addr)(it:Addr)(tn:Nat->Heap->Prop):Prop where
 mem:it∈fp
 obj:∀i h,tn i h->∀b∈fp,∃o,h.get? b=some o/\∀v,o.data≠.cell v
 keep:∀i h h',tn i h->(∀b∈fp,∀o,h.get? b=some o->h'.get? b=some o)->tn i h'
 item:∀(X:Cx),X.prog=P->X.w=w->X.K=K->X.calm=true->∀(i:Nat) (pins:List (Addr×Obj)) (s:Shared) (σ:St) (H:Hp) (E:Value->Shared->Prop),Inv X pins σ H s->(∀b∈fp,xk0 X pins H b)->tn i s.heap->J.go i H ->
  wpAny (model P w) X.A (pyNext (.ref it)) (λr s1=>∃u,r=some u /\
   wpAny (model P w) X.A (letOwnedTupleGo tg (.ref it) u) (λ_ s2=>∃x H',Inv X pins σ H' s2/\RelV x u/\J.yld i H x H'/\tn (i+1) s2.heap/\∀b∈fp,H' b=none) E s1) E s
 done:∀(X:Cx),X.prog=P->X.w=w->X.K=K->X.calm=true->∀(i:Nat) (pins:List (Addr×Obj)) (s:Shared) (σ:St) (H:Hp) (E:Value->Shared->Prop),Inv X pins σ H s->(∀b∈fp,xk0 X pins H b)->tn i s.heap->J.stop i H ->
  wpAny (model P w) X.A (pyNext (.ref it)) (λr s1=>r=none/\Inv X pins σ H s1) E s
 self:∀(A:Around) (i:Nat) (s:Shared) (Q:Value->Shared->Prop) (E:Value->Shared->Prop),tn i s.heap->Q (.ref it) s->wpAny (model P w) A (pyIter (.ref it)) Q E s
abbrev TI:=St->Hp->(It->Hp->Prop)->Prop
def PIE(X:Cx)(pins:List (Addr×Obj))(σ:St)(tg:Expr)(R:It->Hp->Prop)(itv:Value)(s2:Shared):Prop :=
 ∃(it:Addr) (fp:List Addr) (tn:Nat->Heap->Prop) (J:It) (H':Hp),itv=.ref it/\Inv X pins σ H' s2/\Turn X.prog X.w X.K tg J fp it tn/\tn 0 s2.heap/\(∀b∈fp,xk0 X pins H' b)/\R J H'
def PI(X:Cx)(tg iter:Expr)(wi:TI):Prop :=
 ∀(pins:List (Addr×Obj)) (s:Shared) (σ:St) (H:Hp) (R:It->Hp->Prop),Inv X pins σ H s->wi σ H R ->
  wpAny (model X.prog X.w) X.A (eval iter X.env) (λv s1=>wpAny (model X.prog X.w) X.A (pyIter v) (PIE X pins σ tg R) X.xe s1) X.xe s
theorem jt0{M:Model}{A:Around}{E:Value->Shared->Prop}{s:Shared}{tg:Expr}{u:Value}{o:Obj}{n:String}{vs:Array Value}{Q:Unit->Shared->Prop}(ho:s.heap.get? it=some o)(hc:o.cls=.type n)(hd:o.data=.fields vs)
  (hn:["enumerate", "zip", "dict_itemiterator", "dict_reverseitemiterator", "odict_iterator", "itertools.zip_longest", "itertools.pairwise"].contains n=false) (hQ:Q () s):wpAny M A (letOwnedTupleGo tg (.ref it) u) Q E s:=by
 unfold letOwnedTupleGo;cases tg<;>first
  | exact A1 hQ
  | (cases u<;>first
    | exact A1 hQ
    | (refine A0 (wpAny_load ho ?_)
       rw[hc,hd];show wpAny M A (if (["enumerate", "zip", "dict_itemiterator", "dict_reverseitemiterator", "odict_iterator", "itertools.zip_longest", "itertools.pairwise"].contains n&&vs[0]?==some (rawInt _))=true then _ else _) Q E s;rw[if_neg (by intro h;rw[hn,Bool.false_and] at h;cases h)];exact A1 hQ))
def Itl(K:W.Frag)(a:Addr):It :=
 ⟨λi H=>∃xs x,SqL K H a xs/\xs[i]?=some x,λi H x H'=>H'=H/\∀xs,SqL K H a xs->xs[i]?=some x,λi H=>∃xs,SqL K H a xs/\xs.length<=i⟩
def Itt(K:W.Frag)(a:Addr):It :=
 ⟨λi H=>∃xs x,SqT K H a xs/\xs[i]?=some x,λi H x H'=>H'=H/\∀xs,SqT K H a xs->xs[i]?=some x,λi H=>∃xs,SqT K H a xs/\xs.length<=i⟩
def Itr(lo:Int)(n:Nat):It:=⟨λi _=>i<n,λi H x H'=>H'=H/\x=.int (lo+i),λi _=>n<=i⟩
theorem gp0{P:Program}{w:World}{tg:Expr}(a it:Addr):Turn P w K tg (Itl K a) [it] it (λi h=>h.IsListIter it a i) where
 mem:=by simp
 obj:=λi h st b hb=>by
  have e:b=it:=by simpa using hb
  subst e;obtain⟨o,e,c,d⟩:=st;exact⟨o,e,λv z=>by rw[d] at z;cases z⟩
 keep:=λi h h' st k=>st.at λo e=>k it (by simp) o e
 item:=by
  intro X hP hw hK hc i pins s σ H E I hf st hg;subst hP hw hK;obtain⟨xs,x,hq,hx⟩:=hg;obtain⟨its,rv,p,hz⟩:=I.list hq;obtain⟨u,hu,ru⟩:=rv.get hx;obtain⟨f0,f1,f2,f3,f4,f5⟩:=hf it (by simp);refine Bi0 st p.isList (x:=u) (by simpa using hu) λh' F sb=>?_
  have I1:Inv X pins σ H { s with heap:=h' }:=I.turned (t':=s.toks) (λb o hb e=>(sb.2 b hb).trans e) f0 f1 f3 f4 f5;obtain⟨o,e,c,d⟩:=id F;exact⟨u,rfl,jt0 (s:={ s with heap:=h' }) e c d (by decide) ⟨x,H,I1,ru,⟨rfl,λys hy=>by rw[I.list_inj hy hq];exact hx⟩,F,λb hb=>(hf b hb).1⟩⟩
 done:=by
  intro X hP hw hK hc i pins s σ H E I hf st hg;subst hP hw hK;obtain⟨xs,hq,hx⟩:=hg;obtain⟨its,rv,p,hz⟩:=I.list hq;obtain⟨f0,f1,f2,f3,f4,f5⟩:=hf it (by simp);have hl:=rv.length;exact wpAny_pyNext_list_end (I.ok.hd hc) st p.isList (by simp;omega) λh' eb=>⟨rfl,I.turned (t':=s.toks) (λb o hb e=>eb b o hb e) f0 f1 f3 f4 f5⟩
 self:=λ_ _ _ _ _ st h=>wpAny_pyIter_listiter st h
theorem jc0{P:Program}{w:World}{tg:Expr}(a it:Addr):Turn P w K tg (Itt K a) [it] it (λi h=>h.IsTupleIter it a i) where
 mem:=by simp
 obj:=λi h st b hb=>by
  have e:b=it:=by simpa using hb
  subst e;obtain⟨o,e,c,d⟩:=st;exact⟨o,e,λv z=>by rw[d] at z;cases z⟩
 keep:=λi h h' st k=>st.at λo e=>k it (by simp) o e
 item:=by
  intro X hP hw hK hc i pins s σ H E I hf st hg;subst hP hw hK;obtain⟨xs,x,hq,hx⟩:=hg;obtain⟨its,rv,p,hz⟩:=I.tuple hq;obtain⟨u,hu,ru⟩:=rv.get hx;obtain⟨f0,f1,f2,f3,f4,f5⟩:=hf it (by simp);refine wpAny_pyNext_tuple_item st (show s.heap.IsTuple a its.toArray from p) (x:=u) (by simpa using hu) λh' F sb=>?_
  have I1:Inv X pins σ H { s with heap:=h' }:=I.turned (t':=s.toks) (λb o hb e=>(sb.2 b hb).trans e) f0 f1 f3 f4 f5;obtain⟨o,e,c,d⟩:=id F;exact⟨u,rfl,jt0 (s:={ s with heap:=h' }) e c d (by decide) ⟨x,H,I1,ru,⟨rfl,λys hy=>by rw[I.tuple_inj hy hq];exact hx⟩,F,λb hb=>(hf b hb).1⟩⟩
 done:=by
  intro X hP hw hK hc i pins s σ H E I hf st hg;subst hP hw hK;obtain⟨xs,hq,hx⟩:=hg;obtain⟨its,rv,p,hz⟩:=I.tuple hq;obtain⟨f0,f1,f2,f3,f4,f5⟩:=hf it (by simp);have hl:=rv.length;exact wpAny_pyNext_tuple_end (I.ok.hd hc) st (show s.heap.IsTuple a its.toArray from p) (by simp;omega) λh' eb=>⟨rfl,I.turned (t':=s.toks) (λb o hb e=>eb b o hb e) f0 f1 f3 f4 f5⟩
 self:=λ_ _ _ _ _ st h=>wpAny_pyIter_tupleiter st h
theorem je0{P:Program}{w:World}{tg:Expr}(it:Addr)(lo:Int)(n:Nat):Turn P w K tg (Itr lo n) [it] it (λi h=>IsRangeIter h it (lo+(i:Nat)*1) ((n:Int) - (i:Nat)) 1) where
 mem:=by simp
 obj:=λi h st b hb=>by
  have e:b=it:=by simpa using hb
  subst e;exact⟨_,st,λv z=>by
   have z':Data.fields _=Data.cell v:=z;cases z'⟩
 keep:=λi h h' st k=>k it (by simp) _ st
 item:=by
  intro X hP hw hK hc i pins s σ H E I hf st hg;subst hP hw hK;obtain⟨f0,f1,f2,f3,f4,f5⟩:=hf it (by simp);have W:=Walks.range (prog:=X.prog) (w:=X.w) (I.ok.hd hc) it lo 1 n;refine W.item i s _ _ hg st λv h' tk hv F kk=>?_
  obtain⟨t,rfl⟩:=hv;have I1:Inv X pins σ H { s with heap:=h',toks:=tk }:=I.turned (λb o hb e=>kk b o (by simpa using hb) e) f0 f1 f3 f4 f5;refine⟨_,rfl,jt0 (s:={ s with heap:=h',toks:=tk }) (n := "range_iterator") F rfl rfl (by decide) ⟨.int (lo+i),H,I1,⟨t,?_⟩,⟨rfl,rfl⟩,F,λb hb=>(hf b hb).1⟩⟩;rw[Int.mul_one]
 done:=by
  intro X hP hw hK hc i pins s σ H E I hf st hg;subst hP hw hK;obtain⟨f0,f1,f2,f3,f4,f5⟩:=hf it (by simp);exact wpAny_pyNext_range_end (I.ok.hd hc) st (by have:n<=i:=hg;omega) λh' eb=>⟨rfl,I.turned (t':=s.toks) (λb o hb e=>eb b o hb e) f0 f1 f3 f4 f5⟩
 self:=λ_ _ _ _ _ st h=>wpAny_pyIter_rangeiter st h
section
variable{tg:Expr}
def V80(K:W.Frag)(tl:TE):TI:=fun σ H R=>tl σ H λx H1=>∃a,x=.ref a/\(∃xs,SqL K H1 a xs)/\R (Itl K a) H1
def Vz0(K:W.Frag)(tl:TE):TI:=fun σ H R=>tl σ H λx H1=>∃a,x=.ref a/\(∃xs,SqT K H1 a xs)/\R (Itt K a) H1
theorem a90{l:Expr}{tl:TE}(hl:PE X l tl):PI X tg l (V80 X.K tl):=by
 intro pins s σ H R I h;refine thn (hl pins s σ H _ I h) λv s1 ⟨x,H1,I1,r1,q1⟩=>?_
 obtain⟨a,e,⟨xs,hq⟩,q⟩:=q1;subst e;cases r1;obtain⟨its,rv,p,hz⟩:=I1.list hq;refine X2 p.isList ?_;refine⟨s1.heap.objs.size,[s1.heap.objs.size],_,_,H1,rfl,I1.kept (t':=s1.toks) λb o e=>A8 _ e,gp0 a _,⟨_,B5 _ rfl,rfl,rfl⟩,λb hb=>?_,q⟩;have e:b=s1.heap.objs.size:=by simpa using hb
 subst e;exact I1.fpOk (A4 _) (I1.hok.fresh (A4 _))
theorem Za0{l:Expr}{tl:TE}(hl:PE X l tl):PI X tg l (Vz0 X.K tl):=by
 intro pins s σ H R I h;refine thn (hl pins s σ H _ I h) λv s1 ⟨x,H1,I1,r1,q1⟩=>?_
 obtain⟨a,e,⟨xs,hq⟩,q⟩:=q1;subst e;cases r1;obtain⟨its,rv,p,hz⟩:=I1.tuple hq;refine wpAny_pyIter_tuple (show s1.heap.IsTuple a its.toArray from p) ?_;refine⟨s1.heap.objs.size,[s1.heap.objs.size],_,_,H1,rfl,I1.kept (t':=s1.toks) λb o e=>A8 _ e,jc0 a _,⟨_,B5 _ rfl,rfl,rfl⟩,λb hb=>?_,q⟩;have e:b=s1.heap.objs.size:=by simpa using hb
 subst e;exact I1.fpOk (A4 _) (I1.hok.fresh (A4 _))
theorem mk0{σ:St}{s:Shared}{R:It->Hp->Prop}{E:Value->Shared->Prop}{lo hi:Int}{t u v:Tok}{tk:Nat}(I:Inv X pins σ H s)(h1:-(2 ^ 62)<=lo)(h2:lo<2 ^ 62)(h3:-(2 ^ 62)<=hi)(h4:hi<2 ^ 62)
  (q:R (Itr lo (hi - lo).toNat) H):wpAny (model X.prog X.w) X.A (pyIter (.ref s.heap.objs.size)) (PIE X pins σ tg R) E { s with heap:=s.heap.push { cls:=.type "range",data:=.fields #[.int lo t,.int hi u,.int 1 v] },toks:=tk }:=by
 refine wpAny_pyIter_range (IsRange.new ..) (small_one h1 h2 h3 h4) ?_;have I1:Inv X pins σ H { s with heap:=s.heap.push { cls:=.type "range",data:=.fields #[.int lo t,.int hi u,.int 1 v] },toks:=tk }:=I.kept λb o e=>A8 _ e
 refine⟨(s.heap.push { cls:=.type "range",data:=.fields #[.int lo t,.int hi u,.int 1 v] }).objs.size,[(s.heap.push { cls:=.type "range",data:=.fields #[.int lo t,.int hi u,.int 1 v] }).objs.size],_,_,H,rfl,
  I1.kept (t':=tk) λb o e=>A8 _ e,je0 _ lo (hi - lo).toNat,?_,λb hb=>?_,q⟩
 ·have e1:lo+((0:Nat):Int)*1=lo:=by simp
  have e2:(((hi - lo).toNat:Nat):Int) - ((0:Nat):Int)=Builtin.Range.rangeSize lo hi 1:=by rw[rangeSize_one];split<;>omega
  show IsRangeIter _ _ (lo+((0:Nat):Int)*1) ((((hi - lo).toNat:Nat):Int) - ((0:Nat):Int)) 1;rw[e1,e2];exact B5 _ rfl
 ·have e:b=(s.heap.push { cls:=.type "range",data:=.fields #[.int lo t,.int hi u,.int 1 v] }).objs.size:=by simpa using hb
  subst e;exact I1.fpOk (A4 _) (I1.hok.fresh (A4 _))
def Vg0(ta:TA):TI:=fun σ H R=>ta σ H λvs H1=>∃j:Int,vs=[.int j]/\-(2 ^ 62)<=j/\j<2 ^ 62/\R (Itr 0 j.toNat) H1
def Wo0(ta:TA):TI:=fun σ H R=>ta σ H λvs H1=>∃i j:Int,vs=[.int i,.int j]/\(-(2 ^ 62)<=i/\i<2 ^ 62/\-(2 ^ 62)<=j/\j<2 ^ 62)/\R (Itr i (j - i).toNat) H1
theorem g40{a:Expr}{ta:TA}(hg:Gl X "range")(hm:X.mg "range"=none)(ha:PA X [a] ta)(hs:starEach [a] X.env=[(false,eval a X.env)]:=by rfl):PI X tg (.Call (.Name "range" p) [a] [] pos) (Vg0 ta):=by
 intro pins s σ H R I h;refine Call_ (K7 I hg hm boot_range (E9 (thn (ha pos pins s σ H _ I h) λus s1 ⟨vs,H1,I1,r1,q1⟩=>?_) hs rfl));obtain⟨j,e,q1,q2,q⟩:=q1;subst e;cases r1 with
 | cons r rr =>
  cases rr;obtain⟨t,rfl⟩:=r;exact call_range_1 (mk0 I1 (by omega) (by omega) q1 q2 (by simpa using q))
theorem ff0{a:Expr}{ta:TA}{p pos:Pos}(hg:Gl X "range")(hm:X.mg "range"=none)(ha:PA X [a,b] ta)(hs:starEach [a,b] X.env=[(false,eval a X.env),(false,eval b X.env)]:=by rfl)(hs2:starEach [b] X.env=[(false,eval b X.env)]:=by rfl) :
  PI X tg (.Call (.Name "range" p) [a,b] [] pos) (Wo0 ta):=by
 intro pins s σ H R I h;refine Call_ (K7 I hg hm boot_range (E9 (thn (ha pos pins s σ H _ I h) λus s1 ⟨vs,H1,I1,r1,q1⟩=>?_) (by rw[hs,hs2]) (by rw[hs2];rfl)));obtain⟨i,j,e,⟨q1,q2,q3,q4⟩,q⟩:=q1;subst e;cases r1 with
 | cons r rr =>
  cases rr with
  | cons r' rr =>
   cases rr;obtain⟨t,rfl⟩:=r;obtain⟨t',rfl⟩:=r';exact call_range_2 (mk0 I1 q1 q2 q3 q4 q)
def Vt0(wi:TI)(g:TG)(tb:TS):TS:=λD σ H=>wi σ H λJ H1=>∃W:Nat->Nat->St->Hp->Prop,(∃m,W 0 m σ H1)/\∀i m σ H,W i m σ H ->
 (J.stop i H/\D.nx σ H)∨(J.go i H/\∃N:St->Hp->Prop,(∀σ' H',N σ' H'->∃m',m'<m/\W (i+1) m' σ' H')/\∀x H',J.yld i H x H'->g x σ H' fun σ2 H2=>tb { D with nx:=N,ct:=N,bk:=D.nx } σ2 H2)
def uv0(fp:List Addr)(h:Heap):List (Addr×Obj):=fp.filterMap λb=>(h.get? b).map λo=>(b,o)
theorem xq0{h:Heap}{b:Addr}{o:Obj}(hb:b∈fp)(e:h.get? b=some o):(b,o)∈uv0 fp h:=L4.mpr ⟨b,hb,by rw[e];rfl⟩
theorem g30{h:Heap}{p:Addr×Obj}(hp:p∈uv0 fp h):p.1∈fp/\h.get? p.1=some p.2:=by
 obtain⟨b,hb,e⟩:=L4.mp hp;cases q:h.get? b with
 | none=>rw[q] at e;cases e
 | some o =>
  rw[q] at e;have e':(b,o)=p:=B3 e;subst e';exact⟨hb,q⟩
theorem Inv.pinned{σ:St}{s:Shared}(I:Inv X pins σ H s)(hf:∀b∈fp,xk0 X pins H b)(ho:∀b∈fp,∃o,s.heap.get? b=some o/\∀v,o.data≠.cell v):Inv X (pins++uv0 fp s.heap) σ H s :=
 I.pins_of λp hp=>(B4.mp hp).elim (λz=>I.pin p (C6 _ z)) λz=>by
  obtain⟨hb,e⟩:=g30 z;obtain⟨f0,f1,f2,_⟩:=hf p.1 hb;obtain⟨o,e',d⟩:=ho p.1 hb;rw[e] at e';cases e';exact⟨e,f0,f1,f2,d⟩
theorem Inv.unpinned{pl:List (Addr×Obj)}{σ:St}{s:Shared}(I:Inv X (pins++pl) σ H s):Inv X pins σ H s:=I.pins_of λp hp=>I.pin p (C6 _ (E7 _ hp))
theorem Zt0{wi:TI}{g:TG}{tb:TS}{pos:Pos}(hp:PassesOwn (model X.prog X.w) X.A X.env X.xe)(hc:X.calm=true)(hi:PI X tg iter wi)(hg:PG X tg g)(hb:PSs X body tb)
  (hs:∀x,foldedSetIterable iter X.env x=pure x:=by intro _;rfl):PS X (.For tg iter body [] pos) (Vt0 wi g tb):=by
 intro pins s σ H D I h;refine wpAny_For (thn (hi pins s σ H _ I h) λv s1 h1=>thn h1 λa3 s2 h2=>?_) hs;obtain⟨it,fp,tn,J,H2,e,I2,T,a1,f2,W,⟨m0,w0⟩,Z⟩:=h2;subst e;have F:∀{H':Hp},(∀b∈fp,H' b=none)->∀b∈fp,xk0 X pins H' b:=λhn b hb=>⟨hn b hb,(f2 b hb).2⟩
 refine codeAny_forLoop_any (λn s'=>∃i σ' H',Inv X pins σ' H' s'/\tn i s'.heap/\(∀b∈fp,H' b=none)/\W i n σ' H') ?_ m0 ⟨0,σ,H2,I2,a1,λb hb=>(f2 b hb).1,w0⟩;rintro n s3 ⟨i,σ3,H3,I3,O,Y,w3⟩;rcases Z i n σ3 H3 w3 with⟨stop,qn⟩|⟨go,N,hN,step⟩
 ·refine P2 hp (thn (T.done X rfl rfl rfl hc i pins s3 σ3 H3 X.xe I3 (F Y) O stop) λr s4 ⟨hr,I4⟩=>?_)
  subst hr;exact A10 ⟨σ3,H3,I4,qn⟩
 ·refine P2 hp (thn (T.item X rfl rfl rfl hc i pins s3 σ3 H3 X.xe I3 (F Y) O go) λr s4 ⟨u,hr,h4⟩=>?_)
  subst hr;refine P2 hp (thn h4 λ_ s5 ⟨x,H5,I5,r5,y5,L,a0⟩=>?_);have a2:=I5.pinned (F a0) (T.obj _ _ L);refine P2 hp (thn (hg _ s5 σ3 H5 x u _ a2 r5 (step x H5 y5)) λ_ s6 ⟨σ6,H6,I6,q6⟩=>?_);refine P2 hp (thn (hb _ s6 σ6 H6 _ I6 q6) λf s7 q7=>?_);have again:∀{σ7:St} {H7:Hp},Inv X (pins++uv0 fp s5.heap) σ7 H7 s7->N σ7 H7->∃m,m<n/\∃i σ' H',Inv X pins σ' H' s7/\tn i s7.heap/\(∀b∈fp,H' b=none)/\W i m σ' H':=λ{σ7 H7} I7 n7=>by
   obtain⟨m',hm,w7⟩:=hN σ7 H7 n7;refine⟨m',hm,i+1,σ7,H7,I7.unpinned,T.keep _ _ _ L λb hb o e=>(I7.pin (b,o) (C6 _ (C6 _ (xq0 hb e)))).1,λb hb=>?_,w7⟩;obtain⟨o,e,d⟩:=T.obj _ _ L b hb;exact(I7.pin (b,o) (C6 _ (C6 _ (xq0 hb e)))).2.1
  cases f with
  | next=>obtain⟨σ7,H7,I7,n7⟩:=q7;exact again I7 n7
  | cont=>obtain⟨σ7,H7,I7,n7⟩:=q7;exact again I7 n7
  | brk=>obtain⟨σ7,H7,I7,q7⟩:=q7;exact⟨σ7,H7,I7.unpinned,q7⟩
  | ret v=>obtain⟨x7,σ7,H7,I7,r7,q7⟩:=q7;exact⟨x7,σ7,H7,I7.unpinned,r7,q7⟩
end
abbrev R2:=V->V->Hp->VK->Prop
def OpR(X:Cx)(f:Value->Value->Sem Value)(r:R2):Prop :=
 ∀(pins:List (Addr×Obj)) (s:Shared) (σ:St) (H:Hp) (x y:V) (v u:Value) (Q:VK),Inv X pins σ H s->RelV x v->RelV y u->r x y H Q ->
  wpAny (model X.prog X.w) X.A (f v u) (EP X pins σ Q) X.xe s
def UnR(X:Cx)(f:Value->Sem Value)(r:V->Hp->VK->Prop):Prop :=
 ∀(pins:List (Addr×Obj)) (s:Shared) (σ:St) (H:Hp) (x:V) (v:Value) (Q:VK),Inv X pins σ H s->RelV x v->r x H Q ->
  wpAny (model X.prog X.w) X.A (f v) (EP X pins σ Q) X.xe s
def CallR(X:Cx)(f:Value)(r:List V->Hp->VK->Prop):Prop :=
 ∀(pins:List (Addr×Obj)) (s:Shared) (σ:St) (H:Hp) (xs:List V) (us:List Value) (Q:VK),Inv X pins σ H s->Vals xs us->r xs H Q ->
  wpAny (model X.prog X.w) X.A (call f us) (EP X pins σ Q) X.xe s
def tOp(r:R2)(ta tb:TE):TE:=fun σ H Q=>ta σ H λx H1=>tb σ H1 λy H2=>r x y H2 Q
def tUn(r:V->Hp->VK->Prop)(ta:TE):TE:=fun σ H Q=>ta σ H λx H1=>r x H1 Q
def rI(C:Int->Int->Prop)(g:Int->Int->V):R2:=λx y H Q=>∃i j,x=.int i/\y=.int j/\C i j/\Q (g i j) H
def rI0(g:Int->Int->V):R2:=λx y H Q=>∃i j,x=.int i/\y=.int j/\Q (g i j) H
def rU(g:Int->V):V->Hp->VK->Prop:=λx H Q=>∃i,x=.int i/\Q (g i) H
section
variable{a:Expr}{tc:TE}
theorem d50(ha:PE X a ta)(hb:PE X b tb){s:Shared}{σ:St}{R:V->V->Hp->Prop}(I:Inv X pins σ H s)
  (h:ta σ H λx H1=>tb σ H1 λy H2=>R x y H2) {Q:Value->Shared->Prop} {f:Value->Value->Sem Value}
  (hf:∀v u s2 x y H2,Inv X pins σ H2 s2->RelV x v->RelV y u->R x y H2->wpAny (model X.prog X.w) X.A (f v u) Q X.xe s2) :
  wpAny (model X.prog X.w) X.A (eval a X.env) (λv s₁=>wpAny (model X.prog X.w) X.A (eval b X.env) (λu s₂=>wpAny (model X.prog X.w) X.A (f v u) Q X.xe s₂) X.xe s₁) X.xe s:=by
 refine thn (ha pins s σ H _ I h) λv s1 ⟨x,H1,I1,r1,q1⟩=>?_
 refine thn (hb pins s1 σ H1 _ I1 q1) λu s2 ⟨y,H2,I2,r2,q2⟩=>?_
 exact hf v u s2 x y H2 I2 r1 r2 q2
theorem Wq0{op:Operator}{r:R2}(ho:OpR X (binaryOp op) r)(ha:PE X a ta)(hb:PE X b tb):PE X (.BinOp a op b pos) (tOp r ta tb):=by
 intro pins s σ H Q I h;exact wpAny_BinOp (d50 ha hb I h λv u s2 x y H2 I2 rx ry q=>ho pins s2 σ H2 x y v u Q I2 rx ry q)
theorem Wf0{op:UnaryOp}{r:V->Hp->VK->Prop}(ho:UnR X (unaryOp op) r)(ha:PE X a ta):PE X (.UnaryOp op a pos) (tUn r ta):=by
 intro pins s σ H Q I h;exact UnaryOp_ (thn (ha pins s σ H _ I h) λv s1 ⟨x,H1,I1,r1,q1⟩=>ho pins s1 σ H1 x v Q I1 r1 q1)
theorem opI{f:Value->Value->Sem Value}{C:Int->Int->Prop}{g:Int->Int->Int}
  (rule:∀(i j:Int) (t u:Tok) (s:Shared) (Q:Value->Shared->Prop) (E:Value->Shared->Prop),C i j->Q (.int (g i j) s.toks) { s with toks:=s.toks+1 }->wpAny (model X.prog X.w) X.A (f (.int i t) (.int j u)) Q E s) :
  OpR X f (rI C λi j=>.int (g i j)):=by
 intro pins s σ H x y v u Q I rx ry h;obtain⟨i,j,rfl,rfl,hc,q⟩:=h;obtain⟨t,rfl⟩:=rx;obtain⟨t',rfl⟩:=ry;exact rule i j t t' s _ _ hc ⟨.int (g i j),H,I.tok _,⟨_,rfl⟩,q⟩
theorem X20{f:Value->Value->Sem Value}{g:Int->Int->Int}
  (rule:∀(i j:Int) (t u:Tok) (s:Shared) (Q:Value->Shared->Prop) (E:Value->Shared->Prop),Q (.int (g i j) s.toks) { s with toks:=s.toks+1 }->wpAny (model X.prog X.w) X.A (f (.int i t) (.int j u)) Q E s) :
  OpR X f (rI0 λi j=>.int (g i j)):=by
 intro pins s σ H x y v u Q I rx ry h;obtain⟨i,j,rfl,rfl,q⟩:=h;obtain⟨t,rfl⟩:=rx;obtain⟨t',rfl⟩:=ry;exact rule i j t t' s _ _ ⟨.int (g i j),H,I.tok _,⟨_,rfl⟩,q⟩
theorem dl0{f:Value->Value->Sem Value}{g:Int->Int->Bool}
  (rule:∀(i j:Int) (t u:Tok) (s:Shared) (Q:Value->Shared->Prop) (E:Value->Shared->Prop),Q (.bool (g i j)) s->wpAny (model X.prog X.w) X.A (f (.int i t) (.int j u)) Q E s) :
  OpR X f (rI0 λi j=>.bl (g i j)):=by
 intro pins s σ H x y v u Q I rx ry h;obtain⟨i,j,rfl,rfl,q⟩:=h;obtain⟨t,rfl⟩:=rx;obtain⟨t',rfl⟩:=ry;exact rule i j t t' s _ _ ⟨.bl (g i j),H,I,rfl,q⟩
def dh0(i j:Int):Prop:=0<j/\j<1073741824
def e90(i j:Int):Prop:=0<=j/\j<=1000000/\i.natAbs<2 ^ 64
def CMul(i j:Int):Prop:=(-(2 ^ 64)<i/\i<2 ^ 64)∨(-(2 ^ 64)<j/\j<2 ^ 64)
theorem CMul.ok{i j:Int}(h:CMul i j):IntMulOk i j:=by
 rcases h with⟨h1,h2⟩|⟨h1,h2⟩
 ·exact .of_left (intBits_le_64 h1 h2)
 ·exact .of_right (intBits_le_64 h1 h2)
theorem Xg0:OpR X (binaryOp .Add) (rI0 λi j=>.int (i+j)):=X20 λ_ _ _ _ _ _ _ q=>add_int q
theorem Yp0:OpR X (binaryOp .Sub) (rI0 λi j=>.int (i - j)):=X20 λ_ _ _ _ _ _ _ q=>sub_int q
theorem Zq0:OpR X (binaryOp .Mult) (rI CMul λi j=>.int (i*j)):=opI λ_ _ _ _ _ _ _ hc q=>mul_int q hc.ok
theorem ar0:OpR X (binaryOp .FloorDiv) (rI dh0 λi j=>.int (i/j)):=opI λi j _ _ _ _ _ hc q=>by
 have h1:(0:Int)<j:=hc.1;have h2:j<1073741824:=hc.2;exact floordiv_int (by omega) (by rw[Int.fdiv_eq_ediv_of_nonneg i (by omega)];exact q) (.inl (PyProof.noPylong_small (by omega)))
theorem Xw0:OpR X (binaryOp .Mod) (rI (λ_ j=>0<j) λi j=>.int (i%j)):=opI λi j _ _ _ _ _ hc q=>by
 have h1:(0:Int)<j:=hc;exact mod_int' (by omega) (by rw[Int.fmod_eq_emod_of_nonneg i (by omega)];exact q)
theorem Xi0:OpR X (binaryOp .Pow) (rI e90 λi j=>.int (i ^ j.toNat)):=opI λ_ _ _ _ _ _ _ hc q=>pow_int_small hc.1 hc.2.1 hc.2.2 q
theorem unI{f:Value->Sem Value}{g:Int->Int}
  (rule:∀(i:Int) (t:Tok) (s:Shared) (Q:Value->Shared->Prop) (E:Value->Shared->Prop),Q (.int (g i) s.toks) { s with toks:=s.toks+1 }->wpAny (model X.prog X.w) X.A (f (.int i t)) Q E s) :
  UnR X f (rU λi=>.int (g i)):=by
 intro pins s σ H x v Q I rx h;obtain⟨i,rfl,q⟩:=h;obtain⟨t,rfl⟩:=rx;exact rule i t s _ _ ⟨.int (g i),H,I.tok _,⟨_,rfl⟩,q⟩
theorem Zy0:UnR X (unaryOp .USub) (rU λi=>.int (-i)):=unI λ_ _ _ _ _ q=>neg_int q
end
def Y10:V->V->Bool
 | .non,.non=>true|.non,.int _=>true|.int _,.non=>true|.non,.bl _=>true|.bl _,.non=>true|.non,.str _=>true|.str _,.non=>true
 | .int _,.int _=>true|.bl _,.bl _=>true|.str _,.str _=>true|.byt _,.byt _=>true
 | .int _,.str _=>true|.str _,.int _=>true|.bl _,.str _=>true|.str _,.bl _=>true
 | _,_=>false
def rEq:R2:=λx y H Q=>Y10 x y=true/\Q (.bl (decide (x=y))) H
theorem a80{i j:Int}:decide (V.int i=V.int j)=(i==j):=by
 rw[Bool.eq_iff_iff];simp
theorem Xl0{i j:Bool}:decide (V.bl i=V.bl j)=(i==j):=by
 rw[Bool.eq_iff_iff];simp
theorem b30{i j:Str}:decide (V.str i=V.str j)=(i==j):=by
 rw[Bool.eq_iff_iff];simp
theorem Z40{i j:Array UInt8}:decide (V.byt i=V.byt j)=(i.toList==j.toList):=by
 rw[Bool.eq_iff_iff];cases i;cases j;simp
section
variable{a:Expr}{tc:TE}
theorem R9{σ:St}{s:Shared}{Q:VK}{k k':Bool}(I:Inv X pins σ H s)(q:Q (.bl k) H)(e:k=k'):EP X pins σ Q (.bool k') s:=by
 subst e;exact⟨.bl k,H,I,rfl,q⟩
theorem N8:OpR X (compareOp .Eq) rEq:=by
 intro pins s σ H x y v u Q I rx ry h;obtain⟨hs,q⟩:=h;cases x with
 | non =>
  cases rx;cases y with
  | non=>cases ry;exact PySem.EqNone.eq_none_none (R9 I q (by simp))
  | bl j=>cases ry;exact PySem.EqNone.eq_none_bool (R9 I q (by simp))
  | int j=>obtain⟨t',rfl⟩:=ry;exact PySem.EqNone.eq_none_int (R9 I q (by simp))
  | str j=>obtain⟨t',rfl⟩:=ry;exact PySem.EqNone.eq_none_str (R9 I q (by simp))
  | _=>exact absurd (show false=true from hs) C1
 | bl i =>
  cases rx;cases y with
  | non=>cases ry;exact PySem.EqNone.eq_bool_none (R9 I q (by simp))
  | bl j=>cases ry;exact eq_bool (R9 I q Xl0)
  | str j=>obtain⟨t',rfl⟩:=ry;exact PySem.EqMixed.eq_bool_str (R9 I q (by simp))
  | _=>exact absurd (show false=true from hs) C1
 | int i =>
  obtain⟨t,rfl⟩:=rx;cases y with
  | non=>cases ry;exact PySem.EqNone.eq_int_none (R9 I q (by simp))
  | int j=>obtain⟨t',rfl⟩:=ry;exact eq_int (R9 I q a80)
  | str j=>obtain⟨t',rfl⟩:=ry;exact PySem.EqMixed.eq_int_str (R9 I q (by simp))
  | _=>exact absurd (show false=true from hs) C1
 | str i =>
  obtain⟨t,rfl⟩:=rx;cases y with
  | non=>cases ry;exact PySem.EqNone.eq_str_none (R9 I q (by simp))
  | bl j=>cases ry;exact PySem.EqMixed.eq_str_bool (R9 I q (by simp))
  | int j=>obtain⟨t',rfl⟩:=ry;exact PySem.EqMixed.eq_str_int (R9 I q (by simp))
  | str j=>obtain⟨t',rfl⟩:=ry;exact eq_str (R9 I q b30)
  | _=>exact absurd (show false=true from hs) C1
 | byt i =>
  obtain⟨t,rfl⟩:=rx;cases y with
  | byt j=>obtain⟨t',rfl⟩:=ry;exact W.eq_bytes (R9 I q Z40)
  | _=>exact absurd (show false=true from hs) C1
 | _=>cases y<;>exact absurd (show false=true from hs) C1
theorem yr0:OpR X (compareOp .Lt) (rI0 λi j=>.bl (decide (i<j))):=dl0 λ_ _ _ _ _ _ _ q=>lt_int q
theorem ob0:OpR X (compareOp .Gt) (rI0 λi j=>.bl (decide (j<i))):=dl0 λ_ _ _ _ _ _ _ q=>gt_int q
theorem oa0:OpR X (compareOp .GtE) (rI0 λi j=>.bl (decide (j<=i))):=dl0 λ_ _ _ _ _ _ _ q=>ge_int q
theorem sj0:OpR X (compareOp .Is) (λx y H Q=>y=.non/\Q (.bl (decide (x=.non))) H):=by
 intro pins s σ H x y v u Q I rx ry h;obtain⟨rfl,q⟩:=h;cases ry;refine is_none_gen (R9 I q ?_);cases x<;>first
  | (cases rx;rfl)
  | (obtain⟨t,rfl⟩:=rx;rfl)
theorem km0:OpR X (compareOp .IsNot) (λx y H Q=>y=.non/\Q (.bl (!decide (x=.non))) H):=by
 intro pins s σ H x y v u Q I rx ry h;obtain⟨rfl,q⟩:=h;cases ry;refine isnot_none_gen (R9 I q ?_);cases x<;>first
  | (cases rx;rfl)
  | (obtain⟨t,rfl⟩:=rx;rfl)
theorem OpR.or{f:Value->Value->Sem Value}{r r':R2}(h:OpR X f r)(h':OpR X f r'):OpR X f (λx y H Q=>r x y H Q∨r' x y H Q):=by
 intro pins s σ H x y v u Q I rx ry q;rcases q with q|q
 ·exact h pins s σ H x y v u Q I rx ry q
 ·exact h' pins s σ H x y v u Q I rx ry q
theorem is0(b:Expr){op:CmpOp}(h:op≠.In:=by decide)(h2:op≠.NotIn:=by decide):behindInMarks op b=false:=by
 have e1:(op==CmpOp.In)=false:=by cases op<;>first|rfl|exact absurd rfl h
 have e2:(op==CmpOp.NotIn)=false:=by cases op<;>first|rfl|exact absurd rfl h2
 cases b<;>simp[behindInMarks,e1,e2]
theorem bz0{op:CmpOp}{r:R2}(ho:OpR X (compareOp op) r)(ha:PE X a ta)(hb:PE X b tb)(hm:behindInMarks op b=false):PE X (.Compare a [op] [b] pos) (tOp r ta tb):=by
 intro pins s σ H Q I h;exact wpAny_Compare1 (d50 ha hb I h λv u s2 x y H2 I2 rx ry q=>ho pins s2 σ H2 x y v u Q I2 rx ry q) hm
def We0(t:TE):TT:=fun σ H Q=>t σ H λx H'=>∃k,x=.bl k/\Q k H'
theorem al0{op:CmpOp}{r:R2}(ho:OpR X (compareOp op) r)(ha:PE X a ta)(hb:PE X b tb)(hm:behindInMarks op b=false):PT X (.Compare a [op] [b] pos) (We0 (tOp r ta tb)):=by
 intro pins s σ H Q I h;refine wpAny_isTrue_Compare1 (thn (ha pins s σ H _ I h) λv s1 ⟨x,H1,I1,r1,q1⟩=>thn (hb pins s1 σ H1 _ I1 q1) λu s2 ⟨y,H2,I2,r2,q2⟩ =>
  thn (ho pins s2 σ H2 x y v u _ I2 r1 r2 q2) λc s3 ⟨z,H3,I3,r3,k,e,q3⟩=>?_) hm
 subst e;cases r3;exact P1 ⟨H3,I3,q3⟩
theorem vc0:(sizeLine:Nat)<2 ^ 63:=by rw[sizeLine_eq];decide
theorem jg0:OpR X (binaryOp .Add) (λx y H Q=>∃i j,x=.str i/\y=.str j/\i.length+j.length<=sizeLine/\Q (.str (i++j)) H):=by
 intro pins s σ H x y v u Q I rx ry h;obtain⟨i,j,rfl,rfl,hz,q⟩:=h;obtain⟨t,rfl⟩:=rx;obtain⟨t',rfl⟩:=ry;exact add_str (λt' tk=>⟨.str (i++j),H,I.tok _,⟨_,rfl⟩,q⟩) hz
theorem vals1{x:V}(r:Vals [x] us):∃u,us=[u]/\RelV x u:=by
 cases r with
 | cons r1 r2=>cases r2;exact⟨_,rfl,r1⟩
theorem ip0:CallR X (.type "int") (λxs H Q=>(∃i,xs=[.int i]/\Q (.int i) H)∨∃k,xs=[.bl k]/\Q (.int (if k then 1 else 0)) H):=by
 intro pins s σ H xs us Q I r h;rcases h with⟨i,rfl,q⟩|⟨k,rfl,q⟩
 ·obtain⟨u,rfl,t,rfl⟩:=vals1 r
  exact call_int_int ⟨.int i,H,I,⟨_,rfl⟩,q⟩
 ·obtain⟨u,rfl,r1⟩:=vals1 r
  cases r1;exact call_int_bool ⟨.int (if k then 1 else 0),H,I.tok _,⟨_,rfl⟩,q⟩
end
theorem RelO.some_of{v:V}{o:Option Value}(r:RelO (some v) o):∃u,o=some u/\RelV v u:=by
 cases o with
 | none=>exact(show False from r).elim
 | some u=>exact⟨u,rfl,r⟩
structure Room(k:Nat)(A:Around):Prop where
 hd:A.handled=none
 dp:A.depth+3*k+5<recursionLimit
 un:A.units+16*k+200<cLine
theorem Room.mono{k:Nat}(r:Room k A)(h:j<=k):Room j A:=⟨r.hd,by have:=r.dp;omega,by have:=r.un;omega⟩
theorem Room.deeper{k:Nat}(r:Room (k+1) A)(env:Env):Room k (A.deeper env) :=
 ⟨r.hd,by have:=r.dp;show A.depth+1+3*k+5<_;omega,by have:=r.un;show A.units+3+16*k+200<_;omega⟩
theorem Room.depth{k:Nat}(r:Room k A):A.depth<recursionLimit:=by have:=r.dp;omega
theorem Room.units{k:Nat}(r:Room k A):A.units+64<cLine:=by have:=r.un;omega
def U10:TA:=λ_ H Q=>Q [] H
def Vc0(ta:TE)(tr:TA):TA:=fun σ H Q=>ta σ H λx H1=>tr σ H1 λxs H2=>Q (x::xs) H2
section
variable{t:TA}
theorem xg0:PA X [] U10:=λ_ _ _ _ H Q I h=>X9 ⟨[],H,I,.nil,h⟩
theorem zo0(ha:PE X e te)(hr:PA X es t)(hs:starEach (e::es) X.env=(false,eval e X.env)::starEach es X.env:=by rfl):PA X (e::es) (Vc0 te t):=by
 intro pos pins s σ H Q I h;rw[hs];show wpAny _ _ (spliced ((false,eval e X.env)::backTo pos (starEach es X.env))) _ _ s;refine Y1 (thn (ha pins s σ H _ I h) λu s1 ⟨x,H1,I1,r1,q1⟩=>?_);exact thn (hr pos pins s1 σ H1 _ I1 q1) λus s2 ⟨xs,H2,I2,r2,q2⟩=>⟨x::xs,H2,I2,.cons r1 r2,q2⟩
def Uj0(t:TA):TE:=fun σ H Q=>t σ H λxs H1=>xs.length<=sizeLine/\∀p,H1 p=none->Q (.ref p) (upd H1 p (.tup xs))
def Vn0(t:TA):TE:=fun σ H Q=>t σ H λxs H1=>xs.length<=sizeLine/\∀p,H1 p=none->Q (.ref p) (upd H1 p (.lst xs))
theorem Zd0{x1}(h:PA X es t):PE X (.Tuple es x1 pos) (Uj0 t):=by
 intro pins s σ H Q I hq;refine wpAny_Tuple_spliced (thn (h pos pins s σ H _ I hq) λus s1 ⟨xs,H1,I1,r,z,q⟩=>⟨by rw[← r.length];exact z,?_⟩);have hf:H1 s1.heap.objs.size=none:=I1.hok.fresh (A4 _);refine⟨.ref s1.heap.objs.size,upd H1 s1.heap.objs.size (.tup xs),I1.laid (t':=s1.toks) (λb u e=>A8 _ e) (A4 _) ?_,rfl,q _ hf⟩;exact⟨z,us,r,⟨_,B5 _ rfl,rfl,_,rfl,rfl⟩⟩
theorem f80(h:PA X es t):PE X (.List es pos) (Vn0 t):=by
 intro pins s σ H Q I hq;refine wpAny_List_spliced (thn (h pos pins s σ H _ I hq) λus s1 ⟨xs,H1,I1,r,z,q⟩=>⟨by rw[← r.length];exact z,?_⟩);have hf:H1 s1.heap.objs.size=none:=I1.hok.fresh (A4 _);refine⟨.ref s1.heap.objs.size,upd H1 s1.heap.objs.size (.lst xs),I1.laid (t':=s1.toks) (λb u e=>A8 _ e) (A4 _) ?_,rfl,q _ hf⟩;exact⟨z,us,0,r,B5 _ rfl⟩
end
abbrev Sp:=List V->Hp->VK->XK->Prop
abbrev CXT:=List Env->Hp->Shared->XK->Value->Shared->Prop
variable{sp:L2.Sp}
structure Env0(P:Program)(w:World)(K:W.Frag)(mg:Str->Option Value)(base:Heap)(A:Around)(outer:List Env)(s:Shared)(H:Hp):Prop where
 frames:A.frames=some outer
 mod:Mod K mg base
 bs:∀b o,base.get? b=some o->s.heap.get? b=some o/\H b=none
 bsz:base.objs.size<=s.heap.objs.size
 funs:s.heap.FunFrames base outer
 frf:∀b∈frs outer,H b=none
 hok:HOk P w H s.heap
 bare:AllBare s.gens
variable{CX:L2.CXT}
def CE(outer:List Env)(P:Program)(w:World)(H:Hp)(s:Shared)(Q:VK)(u:Value)(s':Shared):Prop :=
 ∃v H',s'.os=s.os/\AllBare s'.gens/\Un (frs outer) [] H H' s.heap s'.heap/\HOk P w H' s'.heap/\RelV v u/\Q v H'
def CR(CX:CXT)(outer:List Env)(P:Program)(w:World)(H:Hp)(s:Shared)(Q:VK)(E:XK)(r:Result)(s':Shared):Prop :=
 match r with
 | .ok (.ret u)=>CE outer P w H s Q u s'
 | .ok _=>False
 | .error e=>CX outer H s E e s'
structure FnOk(P:Program)(w:World)(K:W.Frag)(mg:Str->Option Value)(base:Heap)(CX:CXT)(k:Nat)(f:Addr)(fd:FuncData)(ps:List Str)(sp:Sp):Prop where
 len:∀vs H Q E,sp vs H Q E->vs.length=ps.length
 run:∀(A:Around) (outer:List Env) (s:Shared) (H:Hp) (args:Args) (us:List Value) (vs:List V) (Q:VK) (E:XK),Room k A->Env0 P w K mg base A outer s H->BindsTo s fd args (ps.zip us)->Vals vs us->sp vs H Q E ->
  codeAny (model P w) A (.call (.ref f) args) (CR CX outer P w H s Q E) s
section
variable{σ:St}{s:Shared}
theorem Inv.env0(I:Inv X pins σ H s):Env0 X.prog X.w X.K X.mg X.base X.A X.stack s H :=
 ⟨I.ok.frames,I.ok.mod,I.bs,C2 I.ok.bsz I.sz,I.stack,I.stkFree,I.hok,I.bare⟩
theorem Inv.after{Q:VK}(I:Inv X pins σ H s)(h:CE X.stack X.prog X.w H s Q u s'):EP X pins σ Q u s':=by
 obtain⟨v,H',os,bare,un,hok,r,q⟩:=h;obtain⟨hh,g,d,t,F⟩:=s';obtain rfl:F=s.os:=os;exact⟨v,H',I.call (h':=hh) (g':=g) (d':=d) (t':=t) (ch:=[]) un hok bare (λb z=>absurd z (by simp)),r,q⟩
end
def Wy0(sp:Sp)(dvs:List V)(E:XK)(t:TA):TE:=fun σ H Q=>t σ H λvs H1=>sp (vs++dvs) H1 Q E
def Binds(K:W.Frag)(fd:FuncData)(ps:List Str)(ds:List Value):Prop :=
 ∀(s:Shared) (us:List Value),K.In s.heap->(us++ds).length=ps.length->BindsTo s fd ⟨us,[]⟩ (ps.zip (us++ds))
theorem Binds.all{ps:List Str}(h:∀us:List Value,us.length=ps.length->bindArgs fd ⟨us,[]⟩=pure (ps.zip us)):Binds K fd ps []:=λs us _ hl=>by
 rw[List.append_nil] at hl ⊢;exact .of_eq (h us hl)
def mf0(CX:CXT)(X:Cx)(E:XK):Prop:=∀(pins:List (Addr×Obj)) (σ:St) (H:Hp) (s:Shared) (e:Value) (s':Shared),Inv X pins σ H s->CX X.stack H s E e s'->X.xe e s'
section
variable{k:Nat}{f C:Addr}{ps:List Str}{dvs:List V}{ds:List Value}{E:XK}{m:Str}{t:TA}
theorem Yr0{pins:List (Addr×Obj)}{σ:St}{H:Hp}{s:Shared}{Q:VK}{us:List Value}{vs:List V}(F:FnOk X.prog X.w X.K X.mg X.base CX k f fd ps sp)(hr:Room k X.A)(hb:Binds X.K fd ps ds)(hd:Vals dvs ds)(hx:mf0 CX X E)
  (I:Inv X pins σ H s) (r:Vals vs us) (h:sp (vs++dvs) H Q E):wpAny (model X.prog X.w) X.A (call (.ref f) us) (EP X pins σ Q) X.xe s:=by
 have r2:Vals (vs++dvs) (us++ds):=r.append hd;have hl:(us++ds).length=ps.length:=by rw[← r2.length];exact F.len _ _ _ _ h
 refine wpAny_call (Y2 (F.run X.A X.stack s H ⟨us,[]⟩ (us++ds) (vs++dvs) Q E hr I.env0 (hb s us I.kIn hl) r2 h) λr s' hq=>?_);cases r with
 | error e=>exact hx pins σ H s e s' I hq
 | ok fl =>
  cases fl with
  | ret u=>exact I.after hq
  | next=>exact False.elim hq
  | brk=>exact False.elim hq
  | cont=>exact False.elim hq
theorem k70(F:FnOk X.prog X.w X.K X.mg X.base CX k f fd ps sp)(hr:Room k X.A)(hg:Gl X x)(hm:X.mg x=some (.ref f))(hk:W.keepIn X.K (.ref f)=true)(hb:Binds X.K fd ps ds)(hd:Vals dvs ds)(hx:mf0 CX X E)
  (ha:PA X (e::es) t) (hdb:(x==("__debug__" : Str))=false:=by decide) (he:starEach (e::es) X.env=(false,eval e X.env)::starEach es X.env:=by rfl) (hpl:(backTo pos (starEach es X.env)).any (·.1)=false:=by rfl) :
  PE X (.Call (.Name x p) (e::es) [] pos) (Wy0 sp dvs E t):=by
 intro pins s σ H Q I h;refine M1 (kq0 I hg hm ?_ hdb);refine W.callWith_K (h₀:=X.base) I.ok.mod.kin hk (thn (ha pos pins s σ H _ I h) λus s1 ⟨vs,H1,I1,r,q⟩=>⟨I1.kIn,?_⟩) he hpl;exact Yr0 F hr hb hd hx I1 r q
end
structure FnScope(N P:List Str)(sc:Scope):Prop where
 kind:sc.kind=.function
 co:sc.isCoroutine=false
 gen:sc.isGenerator=false
 nd:N.Nodup
 pre:N.take P.length=P
 par:∀x∈P,sc.names.lookup x=some .local∨sc.names.lookup x=some .cell
 nofree:∀y∈sc.names,y.2≠.free
theorem po0{kindOf:Str->Option NameKind}:∀{binds:List (Str×Value)} {m:Str->Option Value},(∀v,(x,v)∉binds)->bindL kindOf binds m x=m x
 | [],_,_=>rfl
 | (n,v)::r,m,h=>by
  unfold bindL;rw[po0 λw hw=>h w (A7 _ hw)];split
  ·have:x≠n:=by rintro rfl;exact h v A5
   simp[this]
  ·rfl
theorem p10{kindOf:Str->Option NameKind}:∀{binds:List (Str×Value)} {m:Str->Option Value},(∀v,(x,v)∉binds)->bindC kindOf binds m x=m x
 | [],_,_=>rfl
 | (n,v)::r,m,h=>by
  unfold bindC;rw[p10 λw hw=>h w (A7 _ hw)];split
  ·rfl
  ·have:x≠n:=by rintro rfl;exact h v A5
   simp[this]
theorem qw0{kindOf:Str->Option NameKind}:∀{P:List Str} {vs:List Value} {i:Nat} {m:Str->Option Value},P.Nodup->P[i]?=some x->vs[i]?=some v->kindOf x=some .local ->
  bindL kindOf (P.zip vs) m x=some v
 | [],_,_,_,_,h,_,_=>by simp at h
 | _::_,[],_,_,_,_,h,_=>by simp at h
 | p::P,w::vs,0,m,nd,h1,h2,hk=>by
  simp at h1 h2;subst h1;subst h2;show bindL kindOf ((p,w)::P.zip vs) m p=_;unfold bindL;rw[po0 λv hv=>(N0.mp nd).1 (Y3 hv).1,if_pos hk];simp
 | p::P,w::vs,i+1,m,nd,h1,h2,hk=>by
  show bindL kindOf ((p,w)::P.zip vs) m x=_;unfold bindL;exact qw0 (i:=i) (N0.mp nd).2 (by simpa using h1) (by simpa using h2) hk
theorem pc0{kindOf:Str->Option NameKind}:∀{P:List Str} {vs:List Value} {i:Nat} {m:Str->Option Value},P.Nodup->P[i]?=some x->vs[i]?=some v->kindOf x≠some .local ->
  bindC kindOf (P.zip vs) m x=some v
 | [],_,_,_,_,h,_,_=>by simp at h
 | _::_,[],_,_,_,_,h,_=>by simp at h
 | p::P,w::vs,0,m,nd,h1,h2,hk=>by
  simp at h1 h2;subst h1;subst h2;show bindC kindOf ((p,w)::P.zip vs) m p=_;unfold bindC;rw[p10 λv hv=>(N0.mp nd).1 (Y3 hv).1,if_neg hk];simp
 | p::P,w::vs,i+1,m,nd,h1,h2,hk=>by
  show bindC kindOf ((p,w)::P.zip vs) m x=_;unfold bindC;exact pc0 (i:=i) (N0.mp nd).2 (by simpa using h1) (by simpa using h2) hk
def start(N:List Str)(vs:List V):St:=vs.map some++List.replicate (N.length - vs.length) none
def xy0(CX:CXT)(P:Program)(w:World)(K:W.Frag)(mg:Str->Option Value)(base:Heap)(N:List Str)(qual:Str)(scope:Scope)(f:Addr)(cd:Value)(A:Around)(outer:List Env)(s:Shared)(H:Hp)(E:XK):Cx where
 prog:=P
 w:=w
 K:=K
 mg:=mg
 base:=base
 A:=A.deeper (envOfC qual scope s.heap.objs.size f cd)
 N:=N
 s₀:=s
 H₀:=H
 env:=envOfC qual scope s.heap.objs.size f cd
 outer:=outer
 stack:=envOfC qual scope s.heap.objs.size f cd::outer
 ex:=[]
 calm:=true
 fn:=λ_=>true
 pn:=[]
 xe:=λe s'=>wpAny (model P w) (A.deeper (envOfC qual scope s.heap.objs.size f cd)) (leaving (envOfC qual scope s.heap.objs.size f cd) e) (λ_ s''=>CX outer H s E e s'') (λe' s''=>CX outer H s E e' s'') s'
theorem ng0(h:sc.names.lookup x=some .cell):∃c,(cellsFrom n sc.names []).lookup x=some c:=by
 have q:=W.cellsFrom_some sc.names n [] (.inl h);exact Option.isSome_iff_exists.mp q
theorem ig0{CX:CXT}{P:Program}{w:World}{K:W.Frag}{mg:Str->Option Value}{base:Heap}{N ps:List Str}{qual:Str}{scope:Scope}{f:Addr}{cd:Value}{A:Around}{outer:List Env}{s s1:Shared}{H:Hp}{E:XK}{us:List Value}{vs:List V}
  (S:FnScope N ps scope) (hd:A.handled=none) (e0:Env0 P w K mg base A outer s H) (hl:vs.length=ps.length) (r:Vals vs us)
  (x:InCallC s s.heap.objs.size (bindL (envOfC qual scope s.heap.objs.size f cd).kindOf (ps.zip us) λ_=>none) (cellsFrom (s.heap.objs.size+1) scope.names []) (bindC (envOfC qual scope s.heap.objs.size f cd).kindOf (ps.zip us) λ_=>none) s1) :
  Inv (xy0 CX P w K mg base N qual scope f cd A outer s H E) [] (start N vs) H s1:=by
 have L:ps.length<=N.length:=by have:=E2 List.length S.pre;rw[List.length_take] at this;omega
 obtain⟨h1,tk,rfl,hk⟩:=x.done;have F:∀b:Addr,b∉(xy0 CX P w K mg base N qual scope f cd A outer s H E).ex:=λb z=>absurd (show b∈([]:List Addr) from z) (by simp)
 refine⟨⟨e0.mod,S.kind,rfl,rfl,A4 _,λy z c h1 h2=>?_,λy hy=>?_,λy c _ h=>?_,λ_=>hd,Around.frames_deeper e0.frames,.inr ⟨rfl,rfl⟩,λb z=>absurd z (F b),e0.bs,e0.bsz,λb _ _=>F b,λb z=>absurd z (F b),e0.funs,e0.frf⟩,
  rfl,e0.bare,Un.kept hk,⟨_,x.toInCall.ns,λi y v h1 h2 h3=>?_⟩,λy c h=>⟨_,x.cell y c h⟩,e0.hok.fresh (A4 _),λy c h=>?_,λp hp=>absurd (show p∈([]:List (Addr×Obj)) from hp) (by simp),e0.hok.kept hk,?_⟩
 ·exact name_of_addr x.apart (L5 h1) (L5 h2)
 ·have hy:scope.names.lookup y=some .cell∨scope.names.lookup y=some .free:=hy
  rcases hy with hy|hy
  ·exact ng0 hy
  ·exact absurd rfl (S.nofree _ (L5 hy))
 ·exact E6 (x.above y c (L5 h))
 ·have hi:i<vs.length:=by
   unfold start at h2
   by_cases hi:i<vs.length
   ·exact hi
   ·rw[List.getElem?_append_right (by simpa using hi)] at h2
    rw[List.getElem?_replicate] at h2;split at h2<;>cases h2
  have ha:vs[i]?=some v:=by
   unfold start at h2;rw[List.getElem?_append_left (by simpa using hi),List.getElem?_map] at h2;cases e:vs[i]? with
   | none=>rw[e] at h2;cases h2
   | some a=>rw[e] at h2;cases h2;rfl
  obtain⟨u,hu,rv⟩:=r.get ha;have hp:ps[i]?=some y:=by
   rw[← S.pre,List.getElem?_take_of_lt (by omega)];exact h1
  have J:ps.Nodup:=by rw[← S.pre];exact S.nd.sublist (List.take_sublist _ _)
  refine⟨u,rv,?_⟩;rcases S.par y (G0 hp) with k|k
  ·exact .inl ⟨k,qw0 J hp hu k⟩
  ·obtain⟨c,e⟩:=ng0 (n:=s.heap.objs.size+1) k
   refine .inr ⟨.inl k,c,e,?_⟩;have q:=x.cell y c e;rw[pc0 J hp hu (by show scope.names.lookup y≠_;rw[k];decide)] at q;exact q
 ·exact e0.hok.fresh (E6 (x.above y c (L5 h)))
 ·unfold start
  show _=N.length;rw[List.length_append,List.length_map,List.length_replicate];omega
theorem dv0{CX:CXT}{P:Program}{w:World}{K:W.Frag}{mg:Str->Option Value}{base:Heap}{k:Nat}{f:Addr}{name qual:Str}{params:Arguments}{body:List Stmt}{scope:Scope}{dV kV doc pm cdv ct oc:Value}{an od:Option Addr}
  {osl:Array (Option Value)} {N ps:List Str} {sp:Sp} (lk:K.lookup f=some ⟨oc,od,.func (W.fnOf name qual params body scope dV kV doc pm an cdv ct),osl⟩) (hcd:W.codeIn K cdv qual=true) (S:FnScope N ps scope)
  (len:∀vs H Q E,sp vs H Q E->vs.length=ps.length)
  (hbody:∀(A:Around) (outer:List Env) (s:Shared) (H:Hp) (vs:List V) (Q:VK) (E:XK),Room k (A.deeper (envOfC qual scope s.heap.objs.size f cdv))->sp vs H Q E ->
   ∃t,PSs (xy0 CX P w K mg base N qual scope f cdv A outer s H E) body t/\t { nx:=λ_ H'=>Q .non H',rt:=Q } (start N vs) H) :
  FnOk P w K mg base CX (k+1) f (W.fnOf name qual params body scope dV kV doc pm an cdv ct) ps sp:=by
 refine⟨len,λA outer s H Y us vs Q E hr e0 hb r L=>?_⟩;have hl:=len _ _ _ _ L;have KX:K.In s.heap:=e0.mod.kin.keeps λb o e=>(e0.bs b o e).1
 have O:s.heap.NoLimit:=e0.mod.nolimit.keeps λb o e=>(e0.bs b o e).1
 have F:∀y∈ps.zip us,scope.names.lookup y.1=some .local∨(scope.names.lookup y.1=some .cell/\((cellsFrom (s.heap.objs.size+1) scope.names []).lookup y.1).isSome=true):=λ⟨n,v⟩ hy=>by
  rcases S.par n (Y3 hy).1 with q|q
  ·exact .inl q
  ·exact .inr ⟨q,W.cellsFrom_some _ _ _ (.inl q)⟩
 refine codeAny_call_function hr.depth (KX _ _ lk) rfl S.co S.gen rfl (W.codeRec_of KX hcd) (hb _ _ _ _ ?_);refine wpAny_newFunctionEnv_cells S.kind F λenv he s1 x=>?_
 subst he;refine⟨O.keeps x.toInCall.keep,codeAny_func ?_⟩;obtain⟨t,ht,hq⟩:=hbody A outer s H vs Q E (hr.deeper _) L;have I:Inv (xy0 CX P w K mg base N qual scope f cdv A outer s H E) [] (start N vs) H s1:=ig0 S hr.hd e0 hl r x;refine D0 (ht [] s1 (start N vs) H _ I hq) (λfl s' hs=>?_) λe s' hs=>hs
 have fin:∀{σ':St} {H':Hp} {v:V} {u:Value},Inv (xy0 CX P w K mg base N qual scope f cdv A outer s H E) [] σ' H' s'->RelV v u->Q v H'->CE outer P w H s Q u s' :=
  λ{σ' H' v u} J rv q=>⟨v,H',J.os,J.bare,J.base,J.hok,rv,q⟩
 cases fl with
 | ret u =>
  obtain⟨v,σ',H',J,rv,q⟩:=hs;exact fin J rv q
 | next =>
  obtain⟨σ',H',J,q⟩:=hs;exact fin (v:=V.non) (u:=Value.none) J rfl q
 | brk =>
  obtain⟨_,_,_,q⟩:=hs;exact False.elim q
 | cont =>
  obtain⟨_,_,_,q⟩:=hs;exact False.elim q
section
variable{t:TA}{id T:String}{r:List V->Hp->VK->Prop}
def tCB(r:List V->Hp->VK->Prop)(t:TA):TE:=fun σ H Q=>t σ H λvs H1=>r vs H1 Q
theorem se0(hc:CallR X (.builtin id) r)(hg:Gl X x)(hm:X.mg x=none)(hv:bootBuiltins x=some (.builtin id))(ha:PA X (e::es) t)(hn:x ≠"__name__" := by decide)(hdb:(x==("__debug__" : Str))=false:=by decide)
  (he:starEach (e::es) X.env=(false,eval e X.env)::starEach es X.env:=by rfl) (hpl:(backTo pos (starEach es X.env)).any (·.1)=false:=by rfl):PE X (.Call (.Name x p) (e::es) [] pos) (tCB r t):=by
 intro pins s σ H Q I h;refine M1 (K7 I hg hm hv ?_ hn hdb);exact PyProof.Rows.callWith_builtin1 (thn (ha pos pins s σ H _ I h) λus s1 ⟨vs,H1,I1,r1,q1⟩=>hc pins s1 σ H1 vs us Q I1 r1 q1) he hpl
theorem wk0(hc:CallR X (.type T) r)(hg:Gl X x)(hm:X.mg x=none)(hv:bootBuiltins x=some (.type T))(ha:PA X (e::es) t)(hn:x ≠"__name__" := by decide)(hdb:(x==("__debug__" : Str))=false:=by decide)
  (he:starEach (e::es) X.env=(false,eval e X.env)::starEach es X.env:=by rfl) (hpl:(backTo pos (starEach es X.env)).any (·.1)=false:=by rfl):PE X (.Call (.Name x p) (e::es) [] pos) (tCB r t):=by
 intro pins s σ H Q I h;refine M1 (K7 I hg hm hv ?_ hn hdb);exact E9 (thn (ha pos pins s σ H _ I h) λus s1 ⟨vs,H1,I1,r1,q1⟩=>hc pins s1 σ H1 vs us Q I1 r1 q1) he hpl
end
end L2
variable{X:L2.Cx}{H H' H2 H₀:L2.Hp}{σ:List (Option L2.V)}{ta tb te tv:L2.TE}{CX:L2.CXT}{sp:L2.Sp}{ks:List L2.Key}{kvs:List (List L2.Key×L2.V)}
namespace HT
open PyProof.Rows
section
variable{w:World}{s:Shared}
theorem az0{t b:Addr}{ws:List Value}{Q:Value->Shared->Prop}(ht:IsTup s.heap t vs.toArray)(hb:IsTup s.heap b ws.toArray)(hv:vs≠[])
  (h1:ws=[]->Q (.ref t) s) (h2:ws≠[]->Q (.ref s.heap.objs.size) { s with heap:=s.heap.push { cls:=.type "tuple",data:=.seq (vs++ws).toArray } })
  (hsz:vs.length+ws.length<=sizeLine):wpAny (model prog w) A (binaryOp .Add (.ref t) (.ref b)) Q E s:=by
 obtain⟨⟨cls,dd,data,sl⟩,ho,hc,n,hd⟩:=id ht;obtain⟨⟨Z,L,data2,O⟩,F,Y,n2,J⟩:=id hb;simp only at hc hd Y J;subst hc hd Y J;have e:vs.toArray++ws.toArray=(vs++ws).toArray:=by simp
 by_cases hw:ws=[]
 ·exact p4 ⟨_,ho,rfl⟩ ⟨_,F,rfl⟩ A20 A30 A40 A50 (A60 _ _)
   (tuple_addW1 t b vs.toArray ws.toArray n n2 dd L sl O (by simpa using hv) (by simp[hw])) ⟨ho,F,h1 hw⟩
 ·refine p4 ⟨_,ho,rfl⟩ ⟨_,F,rfl⟩ A20 A30 A40 A50 (A60 _ _)
   (tuple_addW2 t b vs.toArray ws.toArray n n2 dd L sl O (by simpa using hv) (by simpa using hw) (by rw[List.size_toArray,List.size_toArray];exact hsz)) ⟨ho,F,?_⟩
  rw[e];exact h2 hw
def sIx(n d:Nat):Option Int->Nat
 | none=>d
 | some v=>if v<0 then (v+(n:Int)).toNat else min v.toNat n
theorem Z70(n d:Nat)(hd:d<=n)(o:Option Int):sIx n d o<=n:=by
 cases o with
 | none=>exact hd
 | some v =>
  show (if v<0 then (v+(n:Int)).toNat else min v.toNat n)<=n
  by_cases hv:v<0
  ·rw[if_pos hv];omega
  ·rw[if_neg hv];exact Bo0 _ _
theorem ky0(v:Int)(n d:Nat):(if v<0 then max (v+(n:Int)) 0 else min v (n:Int))=((sIx n d (some v):Nat):Int):=by
 show (if v<0 then max (v+(n:Int)) 0 else min v (n:Int))=(((if v<0 then (v+(n:Int)).toNat else min v.toNat n):Nat):Int)
 by_cases hv:v<0
 ·simp only[if_pos hv];omega
 ·simp only[if_neg hv];omega
theorem jm0(lo hi:Option Int)(n:Nat):Builtin.Slice.sliceAdjust lo hi 1 (n:Int)=(((sIx n 0 lo:Nat):Int),((sIx n n hi:Nat):Int)):=by
 have h1:¬((1:Int)<0):=by omega
 unfold Builtin.Slice.sliceAdjust;simp only[h1,if_false];refine P3 ?_ ?_
 ·cases lo with
  | none=>rfl
  | some v=>exact ky0 v n 0
 ·cases hi with
  | none=>rfl
  | some v=>exact ky0 v n n
theorem jy0(i j:Nat):Builtin.Slice.slicePlaces (i:Int) (j:Int) 1=j - i:=by
 unfold Builtin.Slice.slicePlaces;have h1:(1:Int) > 0:=by omega
 simp only[h1,if_true,Int.ediv_one];split<;>omega
theorem sw0{o:Option Int}{Q:Option Int->Shared->Prop}(p:IsPart v o)(h:Q o s):wpAny (model prog w) A (Builtin.Slice.slicePartIndex v) Q E s:=by
 cases p with
 | none=>exact slicePart_none h
 | int i t=>exact slicePart_int h
theorem w50{sl:Addr}{n:Nat}{Q:Int×Int×Nat->Shared->Prop}(hs:s.heap.IsSliceOf sl vl vu .none)(pl:IsPart vl lo)(pu:IsPart vu hi)
  (h:Q (((sIx n 0 lo:Nat):Int),1,sIx n n hi - sIx n 0 lo) s):wpAny (model prog w) A (Builtin.Slice.sliceApplied (.ref sl) (pure (n:Int))) Q E s:=by
 obtain⟨os,F,J,hds⟩:=id hs;unfold Builtin.Slice.sliceApplied Builtin.Slice.sliceFields;refine A0 (A0 (B9 F hds (x:=vl) rfl (A0 (B9 F hds (x:=vu) rfl (A0 (B9 F hds (x:=.none) rfl (A1 ?_)))))));refine A0 (slicePart_none ?_);show wpAny _ _ (if ((1:Int)==0)=true then _ else _) _ _ s;rw[if_neg (by decide)];refine A0 (sw0 pl (A0 (sw0 pu (A0 (A1 ?_)))));show wpAny _ _ (match Builtin.Slice.sliceAdjust lo hi 1 (n:Int) with|(lo,hi)=>pure (lo,(1:Int),Builtin.Slice.slicePlaces lo hi 1)) _ _ s;rw[jm0 lo hi n];show wpAny _ _ (pure (((sIx n 0 lo:Nat):Int),(1:Int),Builtin.Slice.slicePlaces ((sIx n 0 lo:Nat):Int) ((sIx n n hi:Nat):Int) 1)) _ _ s;rw[jy0];exact A1 h
theorem eq0(xs:Array Value)(i k:Nat):((List.range k).filterMap λ(m:Nat)=>xs[((i:Int)+(m:Int)*1).toNat]?).toArray=((xs.toList.drop i).take k).toArray:=by
 have e:(λ(m:Nat)=>xs[((i:Int)+(m:Int)*1).toNat]?)=λm=>xs[i+m]?:=by
  funext m
  have:((i:Int)+(m:Int)*1).toNat=i+m:=by omega
  rw[this]
 rw[e];have:=pick_run xs i k;rw[List.filterMap_map] at this;have e2:((λx=>xs[x]?) ∘ λx=>i+x)=λm=>xs[i+m]?:=rfl
 rw[e2] at this;rw[this]
theorem tl0{t sl:Addr}{Q:Value->Shared->Prop}(ht:IsTup s.heap t items)(hs:s.heap.IsSliceOf sl vl vu .none)(pl:IsPart vl lo)(pu:IsPart vu hi)
  (hw:¬(sIx items.size 0 lo=0/\sIx items.size items.size hi=items.size))
  (h:Q (.ref s.heap.objs.size) { s with heap:=s.heap.push { cls:=.type "tuple",data:=.seq ((items.toList.drop (sIx items.size 0 lo)).take (sIx items.size items.size hi - sIx items.size 0 lo)).toArray } })
  (hsz:items.size<=sizeLine):wpAny (model prog w) A (getItem (.ref t) (.ref sl)) Q E s:=by
 have F:sizeOk (.seq ((items.toList.drop (sIx items.size 0 lo)).take (sIx items.size items.size hi - sIx items.size 0 lo)).toArray):=by
  show ((items.toList.drop (sIx items.size 0 lo)).take (sIx items.size items.size hi - sIx items.size 0 lo)).toArray.size<=sizeLine;rw[List.size_toArray,List.length_take,List.length_drop,Array.length_toList];omega
 have hj:sIx items.size items.size hi<=items.size:=Z70 _ _ (A4 _) hi;obtain⟨os,Y,L,hds⟩:=id hs;have O:s.TypeIs (.ref sl) "slice" := ⟨os,Y,L⟩;unfold getItem
 try with_reducible refine C3 ?_
 first|refine A0 (A1 ?_)|skip
 refine A0 (wpAny_sequenceKey ht.typeIs (by decide) ?_);refine A0 (E3 (name:=Str.ofString "__getitem__") ht.typeIs P9
  (D1 P9 ht.typeIs entry_tuple_getitem ?_ (args_tuple_getitem _ _)))
 show wpAny _ _ (Builtin.Tuple.tupleItemsOf (.ref t)>>=_) _ _ s;refine A0 (tupleItemsOf_ ht ?_);refine A0 (L6 O ?_);rw[if_pos (by decide)];refine A0 (w50 hs pl pu ?_);have J:¬((((sIx items.size 0 lo:Nat):Int)==0&&(1:Int)==1&&(sIx items.size items.size hi - sIx items.size 0 lo)==items.size)=true):=by
  intro q;rw[Bool.and_eq_true,Bool.and_eq_true] at q;have q1:((sIx items.size 0 lo:Nat):Int)=0:=eq_of_beq q.1.1;have q2:sIx items.size items.size hi - sIx items.size 0 lo=items.size:=eq_of_beq q.2;exact hw ⟨by omega,by omega⟩
 show wpAny _ _ (if (((sIx items.size 0 lo:Nat):Int)==0&&(1:Int)==1&&(sIx items.size items.size hi - sIx items.size 0 lo)==items.size)=true then _ else _) _ _ s;rw[if_neg J,eq0]
 first
  | exact A0 (m:=Builtin.Tuple.tupleExact _) (H0 (A1 ⟨_,rfl,A1 h⟩) F)
  | exact A0 (m:=Builtin.Tuple.tupleExact _) (H0 (A0 (A1 (A1 ⟨_,rfl,A1 h⟩))) F)
  | exact A0 (A0 (m:=Builtin.Tuple.tupleExact _) (H0 (A1 (A1 ⟨_,rfl,A1 h⟩)) F))
  | exact A0 (A0 (m:=Builtin.Tuple.tupleExact _) (H0 (A1 ⟨_,rfl,A1 h⟩) F))
end
end HT
namespace L2
open Spec PyProof.Rows
abbrev TO:=St->Hp->(Option Int->Hp->Prop)->Prop
def PO(X:Cx)(e:Option Expr)(t:TO):Prop :=
 ∀(pins:List (Addr×Obj)) (s:Shared) (σ:St) (H:Hp) (Q:Option Int->Hp->Prop),Inv X pins σ H s->t σ H Q ->
  wpAny (model X.prog X.w) X.A (evalPart e X.env) (λu s'=>∃o H',Inv X pins σ H' s'/\IsPart u o/\Q o H') X.xe s
def cw0:TO:=λ_ H Q=>Q none H
def V30(t:TE):TO:=fun σ H Q=>t σ H λx H1=>∃i,x=.int i/\Q (some i) H1
section
variable{lo hi:Option Expr}{tl th:TO}
theorem cv0:PO X none cw0:=by
 intro pins s σ H Q I h;rw[evalPart_none];exact A1 ⟨none,H,I,.none,h⟩
theorem bk0(h:PE X e te):PO X (some e) (V30 te):=by
 intro pins s σ H Q I hw;rw[evalPart_some];refine thn (h pins s σ H _ I hw) λu s1 ⟨x,H1,I1,r1,q1⟩=>?_
 obtain⟨i,rfl,q⟩:=q1;obtain⟨t,rfl⟩:=r1;exact⟨some i,H1,I1,.int i t,q⟩
def SlR(X:Cx)(r:V->Option Int->Option Int->Hp->VK->Prop):Prop :=
 ∀(pins:List (Addr×Obj)) (s:Shared) (σ:St) (H:Hp) (x:V) (v vl vu:Value) (lo hi:Option Int) (sl:Addr) (Q:VK),Inv X pins σ H s->RelV x v->s.heap.IsSliceOf sl vl vu .none->IsPart vl lo->IsPart vu hi->r x lo hi H Q ->
  ∃T id,typeLookup (.type T) "__getitem__"=pure (some (.builtin id))/\s.TypeIs v T/\wpAny (model X.prog X.w) X.A (getItem v (.ref sl)) (EP X pins σ Q) X.xe s
theorem SlR.or{r r':V->Option Int->Option Int->Hp->VK->Prop}(h:SlR X r)(h':SlR X r'):SlR X (λx lo hi H Q=>r x lo hi H Q∨r' x lo hi H Q):=by
 intro pins s σ H x v vl vu lo hi sl Q I rx hs pl pu q;rcases q with q|q
 ·exact h pins s σ H x v vl vu lo hi sl Q I rx hs pl pu q
 ·exact h' pins s σ H x v vl vu lo hi sl Q I rx hs pl pu q
def tSl(r:V->Option Int->Option Int->Hp->VK->Prop)(te:TE)(tl th:TO):TE:=fun σ H Q=>te σ H λx H1=>tl σ H1 λl H2=>th σ H2 λu H3=>r x l u H3 Q
theorem d60{r:V->Option Int->Option Int->Hp->VK->Prop}(hr:SlR X r)(he:PE X e te)(hl:PO X lo tl)(hu:PO X hi th):PE X (.Subscript e (.Slice lo hi none p2) pos) (tSl r te tl th):=by
 intro pins s σ H Q I h;refine Subscript_ (thn (he pins s σ H _ I h) λv s1 ⟨x,H1,I1,r1,q1⟩=>?_);refine wpAny_Slice (thn (hl pins s1 σ H1 _ I1 q1) λvl s2 ⟨l,H2,I2,pl,q2⟩=>thn (hu pins s2 σ H2 _ I2 q2) λvu s3 ⟨u,H3,I3,pu,q3⟩=>?_);rw[evalPart_none];refine A1 ?_;have I4:Inv X pins σ H3 { s3 with heap:=s3.heap.push { cls:=.type "slice",data:=.fields #[vl,vu,.none] } }:=I3.kept (t':=s3.toks) λb ob q=>A8 _ q
 obtain⟨T,id,hT,ht,hg⟩:=hr pins { s3 with heap:=s3.heap.push { cls:=.type "slice",data:=.fields #[vl,vu,.none] } } σ H3 x v vl vu l u s3.heap.objs.size Q I4 r1 (Heap.IsSliceOf.new ..) pl pu q3;show wpAny (model X.prog X.w) X.A (subscriptTail e (.Slice lo hi none p2) v (.ref s3.heap.objs.size)) (EP X pins σ Q) X.xe { s3 with heap:=s3.heap.push { cls:=.type "slice",data:=.fields #[vl,vu,.none] } };exact tail_any (ops:=[.ref s3.heap.objs.size,v]) ht hT hg (by with_unfolding_all rfl)
def up0(xs:List V)(lo hi:Option Int):List V:=(xs.drop (HT.sIx xs.length 0 lo)).take (HT.sIx xs.length xs.length hi - HT.sIx xs.length 0 lo)
theorem tp0(xs:List V)(lo hi:Option Int):(up0 xs lo hi).length<=xs.length:=by
 unfold up0;rw[List.length_take,List.length_drop];omega
def Vq0(K:W.Frag):V->Option Int->Option Int->Hp->VK->Prop:=λx lo hi H Q=>∃a xs,x=.ref a/\SqT K H a xs /\
 ¬(HT.sIx xs.length 0 lo=0/\HT.sIx xs.length xs.length hi=xs.length)/\∀p,H p=none->Q (.ref p) (upd H p (.tup (up0 xs lo hi)))
theorem Yc0:SlR X (Vq0 X.K):=by
 intro pins s σ H x v vl vu lo hi sl Q I rx hs pl pu h;obtain⟨a,xs,rfl,hx,hw,q⟩:=h;cases rx;obtain⟨its,r,ht,hz⟩:=I.tuple hx;have F:its.toArray.size=xs.length:=by rw[List.size_toArray];exact r.length.symm
 refine⟨"tuple",_,P9.lookup,ht.typeIs,?_⟩;refine HT.tl0 ht hs pl pu (by rw[F];exact hw) ?_ (by rw[F];exact hz);rw[F];refine⟨.ref s.heap.objs.size,_,I.laid (t':=s.toks) (o:=.tup (up0 xs lo hi)) (λb ob q=>A8 _ q) (A4 _) ?_,rfl,q _ (I.hok.fresh (A4 _))⟩;exact⟨C2 (tp0 xs lo hi) hz,_,(r.drop (HT.sIx xs.length 0 lo)).take (HT.sIx xs.length xs.length hi - HT.sIx xs.length 0 lo),IsTupN.new _ _⟩
def dx0(K:W.Frag):R2:=λx y H Q=>∃a b xs ys,x=.ref a/\y=.ref b/\SqT K H a xs/\SqT K H b ys/\xs≠[]/\xs.length+ys.length<=sizeLine /\
 (ys=[]->Q (.ref a) H)/\(ys≠[]->∀p,H p=none->Q (.ref p) (upd H p (.tup (xs++ys))))
theorem Vals.nil_iff{xs:List V}(r:Vals xs us):us=[]↔xs=[]:=by
 cases r with
 | nil=>simp
 | cons _ _=>simp
theorem bm0:OpR X (binaryOp .Add) (dx0 X.K):=by
 intro pins s σ H x y v u Q I rx ry h;obtain⟨a,b,xs,ys,rfl,rfl,ha,hb,hx,hz,q1,q2⟩:=h;cases rx;cases ry;obtain⟨its,r1,p1,_⟩:=I.tuple ha;obtain⟨F,r2,p2,_⟩:=I.tuple hb;refine HT.az0 p1 p2 (λz=>hx (r1.nil_iff.mp z)) (λz=>⟨.ref a,H,I,rfl,q1 (r2.nil_iff.mp z)⟩) (λz=>?_) (by rw[← r1.length,← r2.length];exact hz);refine⟨.ref s.heap.objs.size,_,I.laid (t':=s.toks) (o:=.tup (xs++ys)) (λb ob q=>A8 _ q) (A4 _) ?_,rfl,q2 (λw=>z (r2.nil_iff.mpr w)) _ (I.hok.fresh (A4 _))⟩;exact⟨by rw[List.length_append];exact hz,_,r1.append r2,IsTupN.new _ _⟩
end
def ixN(n:Nat)(i:Int):Option Nat:=if 0<=i then (if i<n then some i.toNat else none) else if -(n:Int)<=i then some (i+n).toNat else none
def atI{α:Type}(xs:List α)(i:Int):Option α:=(ixN xs.length i).bind λj=>xs[j]?
theorem kc0{i:Int}(h:ixN n i=some j):seqIndex? i n=some j/\j<n/\-(n:Int)<=i/\i<n:=by
 unfold ixN at h
 by_cases h0:0<=i
 ·rw[if_pos h0] at h
  by_cases h1:i<n
  ·rw[if_pos h1] at h
   have e:i.toNat=j:=B3 h;exact⟨by rw[seqIndex_of h0 h1,e],by omega,by omega,h1⟩
  ·rw[if_neg h1] at h;cases h
 ·rw[if_neg h0] at h
  by_cases h1:-(n:Int)<=i
  ·rw[if_pos h1] at h
   have e:(i+n).toNat=j:=B3 h;exact⟨by rw[seqIndex_neg (by omega) h1,e],by omega,h1,by omega⟩
  ·rw[if_neg h1] at h;cases h
theorem q70{xs:List α}{i:Int}{v:α}(h:atI xs i=some v):∃j,seqIndex? i xs.length=some j/\xs[j]?=some v/\j<xs.length/\-(xs.length:Int)<=i/\i<xs.length:=by
 unfold atI at h;cases e:ixN xs.length i with
 | none=>rw[e] at h;cases h
 | some j =>
  rw[e] at h;obtain⟨h1,h2,h3,h4⟩:=kc0 e;exact⟨j,h1,h,h2,h3,h4⟩
def qs0(b:Expr):Prop:=∀o i,subscripted b false o i=operate [o,i] (getItem o i)
def IxR(X:Cx)(r:R2):Prop :=
 ∀(value slice:Expr) (pins:List (Addr×Obj)) (s:Shared) (σ:St) (H:Hp) (x y:V) (v u:Value) (Q:VK),Inv X pins σ H s->RelV x v->RelV y u->r x y H Q ->
  subscripted slice false v u=operate [v,u] (getItem v u)->wpAny (model X.prog X.w) X.A (subscriptTail value slice v u) (EP X pins σ Q) X.xe s
def MtR(X:Cx)(id:String)(r:V->List V->Hp->VK->Prop):Prop :=
 ∀(pins:List (Addr×Obj)) (s:Shared) (σ:St) (H:Hp) (x:V) (xs:List V) (v:Value) (us:List Value) (Q:VK),Inv X pins σ H s->RelV x v->Vals xs us->r x xs H Q ->
  wpAny (model X.prog X.w) X.A (call (.builtin id) (v::us)) (EP X pins σ Q) X.xe s
section
variable{a:Expr}
theorem IxR.or{r r':R2}(h:IxR X r)(h':IxR X r'):IxR X (λx y H Q=>r x y H Q∨r' x y H Q):=by
 intro value slice pins s σ H x y v u Q I rx ry q hs;rcases q with q|q
 ·exact h value slice pins s σ H x y v u Q I rx ry q hs
 ·exact h' value slice pins s σ H x y v u Q I rx ry q hs
theorem Wx0{r:R2}(hr:IxR X r)(ha:PE X a ta)(hb:PE X b tb)(hs:qs0 b):PE X (.Subscript a b pos) (tOp r ta tb):=by
 intro pins s σ H Q I h;exact Subscript_ (d50 ha hb I h λv u s2 x y H2 I2 rx ry q=>hr a b pins s2 σ H2 x y v u Q I2 rx ry q (hs _ _))
def Zp0(K:W.Frag):R2:=λx y H Q=>∃p xs i v,x=.ref p/\y=.int i/\SqL K H p xs/\atI xs i=some v/\Q v H
def X40(K:W.Frag):R2:=λx y H Q=>∃p xs i v,x=.ref p/\y=.int i/\SqT K H p xs/\atI xs i=some v/\Q v H
def Ye0:R2:=λx y H Q=>∃z i c,x=.str z/\y=.int i/\z.length<=sizeLine/\atI z.cps.toList i=some c/\Q (.str ⟨#[c]⟩) H
theorem ay0:IxR X (Zp0 X.K):=by
 intro value slice pins s σ H x y v u Q I rx ry h hs;obtain⟨p,xs,i,z,rfl,rfl,hq,he,q⟩:=h;cases rx;obtain⟨t,rfl⟩:=ry;obtain⟨its,r,pl,hz⟩:=I.list hq;obtain⟨j,h1,h2,h3,h4,h5⟩:=q70 he;obtain⟨w,ew,F⟩:=r.get h2;have hl:=r.length;have hn:=vc0;have fin:EP X pins σ Q w s:=⟨z,H,I,F,q⟩
 by_cases h0:0<=i
 ·have hj:i.toNat=j:=by
   rw[seqIndex_of h0 h5] at h1;exact B3 h1
  exact item_listR pl.isList h0 (by omega) (by rw[hj];simpa using ew) fin hs
 ·have hj:(i+(its.toArray.size:Int)).toNat=j:=by
   rw[seqIndex_neg (by omega) h4] at h1;rw[List.size_toArray,← hl];exact B3 h1
  exact subscriptTail_builtinR (x:=w) pl.isList.typeIs slot_list_getitem.lookup
   (wpAny_getItem_list_neg (Q:=λr s'=>r=w/\EP X pins σ Q r s') pl.isList (by omega) (by rw[List.size_toArray]<;>omega) (by omega) (by rw[hj];simpa using ew) ⟨rfl,fin⟩) hs
theorem Yu0:IxR X (X40 X.K):=by
 intro value slice pins s σ H x y v u Q I rx ry h hs;obtain⟨p,xs,i,z,rfl,rfl,hq,he,q⟩:=h;cases rx;obtain⟨t,rfl⟩:=ry;obtain⟨its,r,pl,hz⟩:=I.tuple hq;obtain⟨j,h1,h2,h3,h4,h5⟩:=q70 he;obtain⟨w,ew,F⟩:=r.get h2;have hl:=r.length;have hn:=vc0;have fin:EP X pins σ Q w s:=⟨z,H,I,F,q⟩;exact subscriptTail_builtinR (x:=w) pl.typeIs slot_tuple_getitem.lookup
  (getItem_tuple (j:=j) (Q:=λr s'=>r=w/\EP X pins σ Q r s') pl (by omega) (by omega) (by rw[List.size_toArray,← hl];exact h1) (by simpa using ew) ⟨rfl,fin⟩) hs
theorem Yi0:IxR X Ye0:=by
 intro value slice pins s σ H x y v u Q I rx ry h hs;obtain⟨z,i,c,rfl,rfl,hz,he,q⟩:=h;obtain⟨t,rfl⟩:=rx;obtain⟨t',rfl⟩:=ry;obtain⟨j,h1,h2,h3,h4,h5⟩:=q70 he;have hl:z.cps.toList.length=z.length:=by simp[Str.length]
 rw[hl] at h1 h4 h5;have hn:=vc0;exact tail_any (Q1 s z t) slot_str_getitem.lookup (getItem_str (c:=c) (by
  have e1:decide (i < -(2 ^ 63:Int))=false:=P8 (by omega);have e2:decide (i ≥ 2 ^ 63)=false:=P8 (by omega);rw[e1,e2,Bool.or_false]) (by rw[h1];simpa using h2) ⟨.str ⟨#[c]⟩,H,I.tok _,⟨_,rfl⟩,q⟩) hs
def rIx(K:W.Frag):R2:=λx y H Q=>Zp0 K x y H Q∨X40 K x y H Q∨Ye0 x y H Q
theorem Yz0:IxR X (rIx X.K):=ay0.or (Yu0.or Yi0)
theorem jd0(its:List Value)(n j:Nat)(u:Value):Obj.mapSeq (·.setIfInBounds j u) { cls:=.type "list",data:=.seq its.toArray n }={ cls:=.type "list",data:=.seq (its.set j u).toArray n }:=by
 simp[Obj.mapSeq]
theorem Inv.lst{σ:St}{s:Shared}{p:Addr}{xs:List V}(I:Inv X pins σ H s)(h:H p=some (.lst xs)) :
  ∃(its:List Value) (n:Nat),Vals xs its/\s.heap.get? p=some { cls:=.type "list",data:=.seq its.toArray n }/\xs.length<=sizeLine:=by
 obtain⟨z,its,n,r,e⟩:=I.hok p _ h;exact⟨its,n,r,e,z⟩
theorem Inv.lstUpd{σ:St}{s:Shared}{p:Addr}{xs ys:List V}{its its':List Value}{n n':Nat}{f:Obj->Obj}(I:Inv X pins σ H s)(h:H p=some (.lst xs))
  (ho:s.heap.get? p=some { cls:=.type "list",data:=.seq its.toArray n }) (hf:f { cls:=.type "list",data:=.seq its.toArray n }={ cls:=.type "list",data:=.seq its'.toArray n' }) (r:Vals ys its') (hz:ys.length<=sizeLine) (t:Nat) :
  Inv X pins σ (upd H p (.lst ys)) { s with heap:=s.heap.update p f,toks:=t }:=by
 have e:(s.heap.update p f).get? p=some { cls:=.type "list",data:=.seq its'.toArray n' }:=by
  rw[Heap.get?_update_self f ho (by rw[hf]<;>rfl),hf]
 refine I.write (x:=p) (e:=p) (by rw[h];trivial) (.inl rfl) (λb u hb q=>(Q2 _ _ (B7 hb)).trans q) ⟨_,e⟩ ?_;exact⟨hz,its',n',r,e⟩
def Vi0:V->V->V->Hp->(Hp->Prop)->Prop:=λo i v H Q=>∃p xs k j,o=.ref p/\i=.int k/\H p=some (.lst xs)/\ixN xs.length k=some j/\Q (upd H p (.lst (xs.set j v)))
theorem set_list:e30 X Vi0:=by
 intro pins s σ H o i v ov iv u Q I ro ri rv h;obtain⟨p,xs,k,j,rfl,rfl,hp,hj,q⟩:=h;cases ro;obtain⟨t,rfl⟩:=ri;obtain⟨its,n,r,ho,hz⟩:=I.lst hp;obtain⟨h1,h2,h3,h4⟩:=kc0 hj;have hl:=r.length;have hn:=vc0;have I':Inv X pins σ (upd H p (.lst (xs.set j v))) { s with heap:=s.heap.update p (Obj.mapSeq (·.setIfInBounds j u)) } :=
  I.lstUpd hp ho (jd0 its n j u) (r.set rv j) (by rw[List.length_set];exact hz) s.toks
 by_cases h0:0<=k
 ·have hk:k.toNat=j:=by
   rw[seqIndex_of h0 h4] at h1;exact B3 h1
  exact W.ki_setAt ho h0 (by omega) (by rw[List.size_toArray,← hl];exact h4) (by rw[hk];exact⟨_,I',q⟩)
 ·have hk:(k+(its.toArray.size:Int)).toNat=j:=by
   rw[seqIndex_neg (by omega) h3] at h1;rw[List.size_toArray,← hl];exact B3 h1
  exact W.ki_setBack ho (by omega) (by rw[List.size_toArray,← hl];exact h3) (by omega) (by rw[hk];exact⟨_,I',q⟩)
theorem my0(lo hi:Option Int)(n:Nat):(sliceBounds lo hi none n).1=((HT.sIx n 0 lo:Nat):Int)/\(sliceBounds lo hi none n).2.1=((HT.sIx n n hi:Nat):Int)/\(sliceBounds lo hi none n).2.2=1:=by
 refine⟨?_,?_,rfl⟩
 ·cases lo with
  | none=>simp[sliceBounds,HT.sIx]
  | some i =>
   simp only[sliceBounds,HT.sIx,Option.getD_none,show (1:Int) > 0 by decide,if_true]
   by_cases h:i<0
   ·simp only[h,if_true]<;>omega
   ·simp only[h,if_false]<;>omega
 ·cases hi with
  | none=>simp[sliceBounds,HT.sIx]
  | some i =>
   simp only[sliceBounds,HT.sIx,Option.getD_none,show (1:Int) > 0 by decide,if_true]
   by_cases h:i<0
   ·simp only[h,if_true]<;>omega
   ·simp only[h,if_false]<;>omega
theorem o60(its:List Value)(lo hi:Option Int):slicePick its.toArray lo hi none=((its.drop (HT.sIx its.length 0 lo)).take (HT.sIx its.length its.length hi - HT.sIx its.length 0 lo)).toArray:=by
 obtain⟨h1,h2,h3⟩:=my0 lo hi its.toArray.size;unfold slicePick;rw[h1,h2,h3];simp only[sliceRange_one,pick_run,List.size_toArray]<;>rfl
def Ud0(K:W.Frag):V->Option Int->Option Int->Hp->VK->Prop:=λx lo hi H Q=>∃a xs,x=.ref a/\SqL K H a xs/\∀p,H p=none->Q (.ref p) (upd H p (.lst (up0 xs lo hi)))
theorem bi0:SlR X (Ud0 X.K):=by
 intro pins s σ H x v vl vu lo hi sl Q I rx hs pl pu h;obtain⟨a,xs,rfl,hx,q⟩:=h;cases rx;obtain⟨its,r,ht,hz⟩:=I.list hx;have F:=r.length;refine⟨"list",_,slot_list_getitem.lookup,ht.isList.typeIs,?_⟩;refine wpAny_getItem_list_slice ht.isList hs pl pu .none (by simp) ?_ (by rw[List.size_toArray]<;>omega);rw[o60,← F];refine⟨.ref s.heap.objs.size,_,I.laid (t':=s.toks) (o:=.lst (up0 xs lo hi)) (λb ob q=>A8 _ q) (A4 _) ?_,rfl,q _ (I.hok.fresh (A4 _))⟩;exact⟨C2 (tp0 xs lo hi) hz,_,0,(r.drop (HT.sIx xs.length 0 lo)).take (HT.sIx xs.length xs.length hi - HT.sIx xs.length 0 lo),B5 _ rfl⟩
def ys0:V->Bool
 | .non=>true
 | .bl _=>true
 | .int _=>true
 | .str _=>true
 | _=>false
def eqV:V->V->Bool
 | .non,.non=>true
 | .bl a,.bl b=>a==b
 | .bl a,.int b=>(if a then 1 else 0)==b
 | .int a,.bl b=>a==(if b then 1 else 0)
 | .int a,.int b=>a==b
 | .str a,.str b=>a==b
 | _,_=>false
theorem Yn0{s:Shared}{y x:V}(ry:RelV y u)(rx:RelV x v)(fy:ys0 y=true)(fx:ys0 x=true):SeqAt.EqAt A s u v (eqV y x):=by
 cases y with
 | non =>
  cases ry;cases x with
  | non=>cases rx;exact d4 _
  | bl b=>cases rx;exact A80 b
  | int b=>obtain⟨t,rfl⟩:=rx;exact A90 b t
  | str b=>obtain⟨t,rfl⟩:=rx;exact Aa0 b t
  | _=>exact absurd (show false=true from fx) C1
 | bl a =>
  cases ry;cases x with
  | non=>cases rx;exact Ab0 a
  | bl b=>cases rx;exact Ac0 a b
  | int b=>obtain⟨t,rfl⟩:=rx;exact Ad0 a b t
  | str b=>obtain⟨t,rfl⟩:=rx;exact Ae0 a b t
  | _=>exact absurd (show false=true from fx) C1
 | int a =>
  obtain⟨t',rfl⟩:=ry;cases x with
  | non=>cases rx;exact Af0 a t'
  | bl b=>cases rx;exact Ag0 a t' b
  | int b=>obtain⟨t,rfl⟩:=rx;exact Ah0 a t' b t
  | str b=>obtain⟨t,rfl⟩:=rx;exact n9 a t' b t
  | _=>exact absurd (show false=true from fx) C1
 | str a =>
  obtain⟨t',rfl⟩:=ry;cases x with
  | non=>cases rx;exact Ai0 a t'
  | bl b=>cases rx;exact Aj0 a t' b
  | int b=>obtain⟨t,rfl⟩:=rx;exact o0 a t' b t
  | str b=>obtain⟨t,rfl⟩:=rx;exact Ak0 a t' b t
  | _=>exact absurd (show false=true from fx) C1
 | _=>exact absurd (show false=true from fy) C1
def eqU(x:V)(u:Value):Bool:=match u with
 | .none=>eqV .non x
 | .bool b=>eqV (.bl b) x
 | .int i _=>eqV (.int i) x
 | .str z _=>eqV (.str z) x
 | _=>false
theorem ij0{x y:V}(r:RelV y u)(f:ys0 y=true):eqU x u=eqV y x:=by
 cases y with
 | non=>cases r;rfl
 | bl b=>cases r;rfl
 | int i=>obtain⟨t,rfl⟩:=r;rfl
 | str z=>obtain⟨t,rfl⟩:=r;rfl
 | _=>exact absurd (show false=true from f) C1
theorem qj0{x:V}:∀{xs:List V} {us:List Value},Vals xs us->xs.all ys0=true->us.any (eqU x)=xs.any λy=>eqV y x
 | _,_,.nil,_=>rfl
 | y::xs,u::us,.cons r t,f=>by
  rw[List.all_cons,Bool.and_eq_true] at f;rw[List.any_cons,List.any_cons,ij0 r f.1,qj0 t f.2]
theorem s00{s:Shared}{x:V}(rx:RelV x v)(fx:ys0 x=true):∀{xs:List V} {us:List Value},Vals xs us->xs.all ys0=true->∀u∈us,SeqAt.EqAt A s u v (eqU x u)
 | _,_,.nil,_=>λu hu=>by cases hu
 | y::xs,u::us,.cons r t,f=>λu' hu=>by
  rw[List.all_cons,Bool.and_eq_true] at f;rcases B2.mp hu with rfl|hu
  ·rw[ij0 r f.1];exact Yn0 r rx f.1 fx
  ·exact s00 rx fx t f.2 u' hu
def inV(x:V)(xs:List V):Bool:=xs.any λy=>eqV y x
def rIn(K:W.Frag)(neg:Bool):R2:=λx y H Q=>∃p xs,y=.ref p/\(SqL K H p xs∨SqT K H p xs)/\ys0 x=true/\xs.all ys0=true/\Q (.bl (if neg then !inV x xs else inV x xs)) H
theorem we0:OpR X (compareOp .NotIn) (rIn X.K true):=by
 intro pins s σ H x y v u Q I rx ry h;obtain⟨p,xs,rfl,hq,fx,fs,q⟩:=h;cases ry;rcases hq with hq|hq
 ·obtain⟨its,r,pl,hz⟩:=I.list hq
  refine SeqAt.notIn_listAt (eqU x) pl.isList (λw hw=>s00 rx fx r fs w (by simpa using hw)) ⟨.bl _,H,I,rfl,?_⟩;rw[show its.toArray.any (eqU x)=its.any (eqU x) by simp,qj0 r fs];exact q
 ·obtain⟨its,r,pl,hz⟩:=I.tuple hq
  refine SeqAt.notIn_tupleAt (eqU x) pl (λw hw=>s00 rx fx r fs w (by simpa using hw)) ⟨.bl _,H,I,rfl,?_⟩;rw[show its.toArray.any (eqU x)=its.any (eqU x) by simp,qj0 r fs];exact q
theorem mp0:CallR X (.builtin "len") (λxs H Q=>∃p ys,xs=[.ref p]/\(SqL X.K H p ys∨SqT X.K H p ys)/\Q (.int ys.length) H):=by
 intro pins s σ H xs us Q I r h;obtain⟨p,ys,rfl,hq,q⟩:=h;obtain⟨u,rfl,rx⟩:=vals1 r;cases rx;have hn:=vc0;rcases hq with hq|hq
 ·obtain⟨its,r',pl,hz⟩:=I.list hq
  have F:=r'.length;exact Calls.call_len_list pl.isList (by simp only[List.size_toArray]<;>omega) ⟨.int ys.length,H,I.tok _,⟨s.toks+1,by rw[List.size_toArray,F]⟩,q⟩
 ·obtain⟨its,r',pl,hz⟩:=I.tuple hq
  have F:=r'.length;exact len_tuple pl (by simp only[List.size_toArray]<;>omega) ⟨.int ys.length,H,I.tok _,⟨s.toks+1,by rw[List.size_toArray,F]⟩,q⟩
theorem n60:CallR X (.builtin "len") (λxs H Q=>∃z,xs=[.str z]/\z.length<=sizeLine/\Q (.int z.length) H):=by
 intro pins s σ H xs us Q I r h;obtain⟨z,rfl,hz,q⟩:=h;obtain⟨u,rfl,t,rfl⟩:=vals1 r;have hn:=vc0;exact len_str (by omega) ⟨.int z.length,H,I.tok _,⟨_,rfl⟩,q⟩
theorem CallR.or{f:Value}{r r':List V->Hp->VK->Prop}(h:CallR X f r)(h':CallR X f r'):CallR X f (λxs H Q=>r xs H Q∨r' xs H Q):=by
 intro pins s σ H xs us Q I rs q;rcases q with q|q
 ·exact h pins s σ H xs us Q I rs q
 ·exact h' pins s σ H xs us Q I rs q
theorem u80:CallR X (.type "list") (λxs H Q=>∃p ys,xs=[.ref p]/\(SqL X.K H p ys∨SqT X.K H p ys)/\∀l,H l=none->Q (.ref l) (upd H l (.lst ys))):=by
 intro pins s σ H xs us Q I r h;obtain⟨p,ys,rfl,hq,q⟩:=h;obtain⟨u,rfl,rx⟩:=vals1 r;cases rx;have fin:∀(its:List Value),Vals ys its->ys.length<=sizeLine->∀(h':Heap) (c':Nat),(∀b o',s.heap.get? b=some o'->h'.get? b=some o') ->
   h'.get? s.heap.objs.size=some { cls:=.type "list",dict:=none,data:=.seq its.toArray c',slots:=#[] }->EP X pins σ Q (.ref s.heap.objs.size) { s with heap:=h' }:=λits r' hz h' c' kp e =>
  ⟨.ref s.heap.objs.size,_,I.laid (t':=s.toks) kp (A4 _) (show ObjOk X.prog X.w _ h' _ (.lst ys) from ⟨hz,its,c',r',e⟩),rfl,q _ (I.hok.fresh (A4 _))⟩
 rcases hq with hq|hq
 ·obtain⟨its,r',pl,hz⟩:=I.list hq
  have F:=r'.length;obtain⟨o,ho,hc,n,hd⟩:=pl.isList;exact call_list_seq p (.inl rfl) ho hc hd (λh' c' kp e=>fin its r' hz h' c' kp e) (by simp only[List.size_toArray]<;>omega)
 ·obtain⟨its,r',pl,hz⟩:=I.tuple hq
  have F:=r'.length;obtain⟨o,ho,hc,n,hd⟩:=pl;exact call_list_seq p (.inr rfl) ho hc hd (λh' c' kp e=>fin its r' hz h' c' kp e) (by simp only[List.size_toArray]<;>omega)
theorem T8:CallR X (.type "tuple") (λxs H Q=>∃p ys,xs=[.ref p]/\((SqL X.K H p ys/\∀l,H l=none->Q (.ref l) (upd H l (.tup ys)))∨(SqT X.K H p ys/\Q (.ref p) H))):=by
 intro pins s σ H xs us Q I r h;obtain⟨p,ys,rfl,h⟩:=h;obtain⟨u,rfl,rx⟩:=vals1 r;cases rx;rcases h with⟨hq,q⟩|⟨hq,q⟩
 ·obtain⟨its,r',pl,hz⟩:=I.list hq
  have F:=r'.length;refine call_tuple_list pl.isList (λh' kp=>?_) (by simp only[List.size_toArray]<;>omega);have I1:Inv X pins σ H { s with heap:=h' }:=I.kept (t':=s.toks) kp;have I2:Inv X pins σ (upd H h'.objs.size (.tup ys)) { s with heap:=h'.push { cls:=.type "tuple",data:=.seq its.toArray } } :=
   I1.laid (t':=s.toks) (λb o e=>A8 _ e) (A4 _) (show ObjOk X.prog X.w _ _ _ (.tup ys) from ⟨hz,its,r',IsTupN.new _ _⟩)
  exact⟨.ref h'.objs.size,_,I2,rfl,q _ (I1.hok.fresh (A4 _))⟩
 ·obtain⟨its,r',pl,hz⟩:=I.tuple hq
  exact call_tuple_same pl ⟨.ref p,H,I,rfl,q⟩
def tyV(K:W.Frag)(T:String)(x:V)(H:Hp):Prop:=match x with
 | .str _=>T = "str"
 | .int _=>T = "int"
 | .ref p=>(T = "list"/\∃xs,SqL K H p xs)∨(T = "tuple"/\∃o,K.lookup p=some o/\o.cls=.type "tuple"/\o.dict=none) ∨
   (T = "dict"/\((∃kvs,H p=some (.dK kvs))∨∃kvs,H p=some (.dT kvs)))∨(T = "set"/\∃S n,H p=some (.set S n))
 | _=>False
theorem g80{σ:St}{s:Shared}{T:String}{x:V}(I:Inv X pins σ H s)(r:RelV x v)(ty:tyV X.K T x H) :
  s.TypeIs v T/\∀a,v=.ref a->∃ob,s.heap.get? a=some ob/\ob.dict=none:=by
 cases x with
 | str z =>
  obtain⟨t,rfl⟩:=r;cases (show T = "str" from ty);exact⟨Q1 s z t,λ_ e=>nomatch e⟩
 | int i =>
  obtain⟨t,rfl⟩:=r;cases (show T = "int" from ty);exact⟨d5 s i t,λ_ e=>nomatch e⟩
 | ref p =>
  cases r;rcases ty with⟨rfl,xs,hq⟩|⟨rfl,o,hk,hc,hd⟩|⟨rfl,hk⟩|⟨rfl,S,n,hk⟩
  ·obtain⟨its,_,pl,_⟩:=I.list hq
   refine⟨pl.isList.typeIs,λa e=>?_⟩;cases e;obtain⟨o,n,e,c,hd,_⟩:=pl;exact⟨o,e,hd⟩
  ·refine⟨⟨o,I.kIn p o hk,hc⟩,λa e=>?_⟩
   cases e;exact⟨o,I.kIn _ o hk,hd⟩
  ·have z:∃o,s.heap.get? p=some o/\o.ExactDict:=by
    rcases hk with⟨kvs,hk⟩|⟨kvs,hk⟩
    ·obtain⟨_,_,_,_,o,_,_,e,ex,_⟩:=I.hok p _ hk
     exact⟨o,e,ex⟩
    ·obtain⟨_,_,_,_,o,_,_,e,ex,_⟩:=I.hok p _ hk
     exact⟨o,e,ex⟩
   obtain⟨o,e,ex⟩:=z;refine⟨⟨o,e,ex.1⟩,λa e2=>?_⟩;cases e2;exact⟨o,e,ex.2.1⟩
  ·obtain⟨o,_,_,_,e,ex,_⟩:=I.hok p _ hk
   refine⟨⟨o,e,ex.1⟩,λa e2=>?_⟩;cases e2;exact⟨o,e,ex.2.1⟩
 | _=>exact False.elim ty
def U70(K:W.Frag)(T:String)(r:V->List V->Hp->VK->Prop)(to:TE):TE:=fun σ H Q=>to σ H λx H1=>tyV K T x H1/\r x [] H1 Q
def tBM(K:W.Frag)(T:String)(r:V->List V->Hp->VK->Prop)(to:TE)(t:TA):TE:=fun σ H Q=>to σ H λx H1=>tyV K T x H1/\t σ H1 λxs H2=>r x xs H2 Q
variable{to:TE}{t:TA}{T id:String}{r:V->List V->Hp->VK->Prop}
theorem Xj0(pa:PlainAttrs T)(slot:Slot T name id)(hty:typeOf (.builtin id)=pure (.type "method_descriptor"))(hm:MtR X id r)(ho:PE X o to)
  (hbase:attributeBase o name X.env (eval o X.env)=eval o X.env:=by rfl) (hline:(apos.endLine==cpos.line)=true:=by rfl):PE X (.Call (.Attribute o name apos) [] [] cpos) (U70 X.K T r to):=by
 intro pins s σ H Q I h;refine wpAny_Call_method0_late hbase hline (thn (ho pins s σ H _ I h) λv s1 ⟨x,H1,I1,r1,ty,q1⟩=>?_);obtain⟨h1,h2⟩:=g80 I1 r1 ty;exact⟨T,id,pa,slot,hty,h1,h2,By0 rfl (PySem.evalArgs_none (hm pins s1 σ H1 x [] v [] Q I1 r1 .nil q1))⟩
theorem ja0(pa:PlainAttrs T)(slot:Slot T name id)(hty:typeOf (.builtin id)=pure (.type "method_descriptor"))(hm:MtR X id r)(ho:PE X o to)(ha:PA X (e::es) t)
  (hbase:attributeBase o name X.env (eval o X.env)=eval o X.env:=by rfl)
  (hfew:((backTo cpos (starEach (e::es) X.env)).all (λx=>!x.1)&&(backToKw cpos (keywordEach [] X.env)).all (λx=>x.1.isSome)
  &&decide ((e::es).length+([]:List Keyword).length+(if ([]:List Keyword).isEmpty then 0 else 1)<30))=true:=by rfl)
  (hline:(apos.endLine==cpos.line)=true:=by rfl) (hs:starEach (e::es) X.env=(false,eval e X.env)::starEach es X.env:=by rfl) (hplain:(backTo cpos (starEach es X.env)).any (·.1)=false:=by rfl) :
  PE X (.Call (.Attribute o name apos) (e::es) [] cpos) (tBM X.K T r to t):=by
 intro pins s σ H Q I h;refine wpAny_Call_method_late hbase hfew hline rfl (thn (ho pins s σ H _ I h) λv s1 ⟨x,H1,I1,r1,ty,q1⟩=>?_);obtain⟨h1,h2⟩:=g80 I1 r1 ty;refine⟨T,id,pa,slot,hty,h1,h2,?_⟩;have hA:=ha cpos pins s1 σ H1 _ I1 q1;rw[hs] at hA ⊢;refine By0 (by show (false||(backTo cpos (starEach es X.env)).any (·.1))=false;rw[hplain]<;>rfl) (Calls.evalArgs_plain ?_);exact thn hA λus s2 ⟨vs,H2,I2,r2,q2⟩=>hm pins s2 σ H2 x vs v us Q I2 r1 r2 q2
end
def MtM(X:Cx)(id:String)(r:V->List V->Hp->VK->Prop):Prop :=
 ∀(pins:List (Addr×Obj)) (s:Shared) (σ:St) (H:Hp) (x:V) (xs:List V) (v:Value) (us:List Value) (Q:VK),Inv X pins σ H s->RelV x v->Vals xs us->r x xs H Q ->
  wpAny (model X.prog X.w) X.A (call (.builtin id) (v::us)) (EP X pins σ Q) X.xe s
theorem Vals.one:∀{x:V} {us:List Value},Vals [x] us->∃u,us=[u]/\RelV x u
 | _,_,.cons r .nil=>⟨_,rfl,r⟩
theorem Vals.two:∀{x y:V} {us:List Value},Vals [x,y] us->∃u v,us=[u,v]/\RelV x u/\RelV y v
 | _,_,_,.cons r (.cons q .nil)=>⟨_,_,rfl,r,q⟩
theorem Vals.zero:∀{us:List Value},Vals [] us->us=[]
 | _,.nil=>rfl
theorem Vals.dropLast{xs:List V}(h:Vals xs us):Vals xs.dropLast us.dropLast:=by
 induction h with
 | nil=>exact .nil
 | cons r t ih =>
  cases t with
  | nil=>exact .nil
  | cons q t'=>exact .cons r ih
theorem Vals.reverse{xs:List V}(h:Vals xs us):Vals xs.reverse us.reverse:=by
 induction h with
 | nil=>exact .nil
 | cons r t ih=>rw[List.reverse_cons,List.reverse_cons];exact Vals.append ih (.cons r .nil)
theorem j80(l:List α):l.eraseIdx (l.length - 1)=l.dropLast:=by
 induction l with
 | nil=>rfl
 | cons a r ih =>
  cases r with
  | nil=>rfl
  | cons b r =>
   have e:(a::b::r).length - 1=((b::r).length - 1)+1:=by
    have h1:(a::b::r).length=r.length+2:=rfl;have h2:(b::r).length=r.length+1:=rfl;omega
   rw[e,List.eraseIdx_cons_succ,ih]
   all_goals rfl
section
variable{σ:St}{s:Shared}{l b:Addr}{xs ys zs:List V}
theorem Inv.lset{its its':List Value}{n:Nat}{f:Array Value->Array Value}{t':Nat}(I:Inv X pins σ H s)(hH:H l=some (.lst xs))
  (e:s.heap.get? l=some { cls:=.type "list",data:=.seq its.toArray n }) (hf:f its.toArray=its'.toArray) (hv:Vals ys its') (hz:ys.length<=sizeLine) :
  Inv X pins σ (upd H l (.lst ys)) { s with heap:=s.heap.update l (Obj.mapSeq f),toks:=t' }:=by
 have q:=PySem.IsL.update e f;rw[hf] at q;refine I.write (x:=l) (e:=l) (by rw[hH];exact trivial) (.inl rfl) (λb' u hb hu=>(Q2 s.heap (Obj.mapSeq f) (B7 hb)).trans hu) ⟨_,q⟩ ?_;exact⟨hz,its',_,hv,q⟩
theorem Inv.lnew{t':Nat}(I:Inv X pins σ H s)(hv:Vals ys its)(hz:ys.length<=sizeLine) :
  Inv X pins σ (upd H s.heap.objs.size (.lst ys)) { s with heap:=s.heap.push { cls:=.type "list",data:=.seq its.toArray },toks:=t' } :=
 I.laid (λ_ _ q=>A8 _ q) (A4 _) ⟨hz,its,0,hv,B5 _ rfl⟩
theorem Inv.fresh(I:Inv X pins σ H s):H s.heap.objs.size=none:=I.hok.fresh (A4 _)
theorem Inv.lstM(I:Inv X pins σ H s)(hH:H l=some (.lst xs)):xs.length<=sizeLine/\∃(its:List Value) (n:Nat),Vals xs its/\xs.length=its.length/\s.heap.get? l=some { cls:=.type "list",data:=.seq its.toArray n }:=by
 obtain⟨z,its,n,r,e⟩:=I.hok l _ hH;exact⟨z,its,n,r,r.length,e⟩
theorem d30(h:n<=sizeLine):Builtin.List.listTooLong n=false:=by
 unfold Builtin.List.listTooLong;exact P8 (by omega)
end
def b90:V->List V->Hp->VK->Prop:=λx vs H Q=>∃l xs y,x=.ref l/\vs=[y]/\H l=some (.lst xs)/\xs.length<sizeLine/\Q .non (upd H l (.lst (xs++[y])))
theorem pj0:MtM X "list.append" b90:=by
 intro pins s σ H x vs v us Q I rx rv h;obtain⟨l,xs,y,rfl,rfl,hH,hz,q⟩:=h;cases rx;obtain⟨u,rfl,ru⟩:=rv.one;obtain⟨z,its,n,r,hl,e⟩:=I.lstM hH;refine p9 F.slot_list_append ⟨_,e,rfl⟩ F.entry_list_append (F.args_list_append_2 _ _) (PySem.list_append l its.toArray n u (by rw[List.size_toArray];omega)) ⟨e,?_⟩;refine⟨.non,_,I.lset (its':=its++[u]) hH e (by simp) (r.append (.cons ru .nil)) ?_,rfl,q⟩;rw[List.length_append,List.length_singleton];omega
def Vu0:V->List V->Hp->VK->Prop:=λx vs H Q=>∃l xs y,x=.ref l/\vs=[]/\H l=some (.lst xs)/\xs[xs.length - 1]?=some y/\Q y (upd H l (.lst xs.dropLast))
theorem Xe0:MtM X "list.pop" Vu0:=by
 intro pins s σ H x vs v us Q I rx rv h;obtain⟨l,xs,y,rfl,rfl,hH,hy,q⟩:=h;cases rx;have L:=rv.zero;subst L;obtain⟨z,its,n,r,hl,e⟩:=I.lstM hH;obtain⟨u,hu,ru⟩:=r.get hy;have J:its.toArray[its.toArray.size - 1]?=some u:=by
  show its.toArray[its.length - 1]?=some u;rw[← Array.getElem?_toList,← hl];exact hu
 refine p9 F.slot_list_pop ⟨_,e,rfl⟩ F.entry_list_pop (F.args_list_pop_1 _) (MeetsSeq.list_pop_last l its.toArray n u J (by rw[List.size_toArray];omega)) ⟨e,?_⟩;refine⟨y,_,I.lset (its':=its.dropLast) hH e ?_ r.dropLast ?_,ru,q⟩
 ·show its.toArray.eraseIdxIfInBounds (its.toArray.size - 1)=its.dropLast.toArray
  rw[List.size_toArray,List.eraseIdxIfInBounds_toArray,j80]
 ·rw[List.length_dropLast]
  omega
end L2
namespace Att
open PySem.W PySem.Calls PyProof.Rows
theorem rh0{P:Params}{h:Heap}:∀(ns:List Int) (vs:List Value),WellAll P h vs (ns.map WData.int)->IntsAre vs ns:=by
 intro ns
 induction ns with
 | nil =>
  intro vs w;rw[List.map_nil] at w;cases w;exact .nil
 | cons n ns ih =>
  intro vs w;rw[List.map_cons] at w;cases w with
  | cons a b =>
   cases a;exact .cons _ _ (ih _ b)
theorem fs0{l:OpenLaw}(hn:l.most=some n){P:Params}{h:Heap}{args:List WData}{vals:List Value}
  (hpre:l.row.toRowW.claim.pre args=true) (hwl:WellAll P h vals args) :
  ∃a vs ns,vals=[Value.ref a]/\args=[WData.list (ns.map WData.int)]/\h.get? a=some { cls:=.type "list",data:=.seq vs.toArray }/\IntsAre vs ns/\ns.length<=n:=by
 have J:WShape.hasAll [] args [.list .int]=true:=(pre_splitW hpre).1;have hc:l.pre.holds [] { args:=args }=true:=(pre_splitW hpre).2;obtain⟨d,r,rfl,h1,h2⟩:=hasAllW_cons J;obtain rfl:=hasAllW_nil h2;obtain⟨xs,rfl,h3⟩:=hasW_list h1;obtain⟨ns,rfl⟩:=items_int h3;have F:ns.length<=n:=by
  unfold OpenLaw.pre at hc;have h4:(WTm.not (.lt (.lit (.int (n:Int))) (.len (.arg 0)))).holds [] { args:=[.list (ns.map .int)] }=true:=by
   have h4:=(holds_andW hc).1;rw[hn] at h4;exact h4
  have h5:=condW_of h4 (w_not (w_lt w_lit (w_len_list (w_arg rfl))));rw[List.length_map] at h5;refine Bz0 λq=>?_
  have q':(n:Int)<((ns.length:Nat):Int):=by omega
  first
   | (rw[decide_eq_true q'] at h5;exact absurd h5 (by decide))
   | (simp at h5;omega)
 cases hwl with
 | cons w1 w2 =>
  cases w2;cases w1 with
  | list ho hall=>exact⟨_,_,ns,rfl,rfl,ho,rh0 ns _ hall,F⟩
theorem fw0(l:OpenLaw)(args:List WData):l.row.toRowW.claim.post args (.bool true) args=true :=
 postW_of (r:=l.row.toRowW) (X:=(true==true))
  (show WShape.has [] (.bool true) .bool=true by first|rfl|decide|simp[WShape.has,WShape.arms,WShape.armsAll])
  (show (WTm.eq .res (.lit (.bool true))).value [] { args:=args,res:=some (.bool true),after:=args }=some (.bool (true==true)) from w_eq_bool (w_res rfl) w_lit) rfl
theorem lz0{l:OpenLaw}{n:Nat}{q:Program}{loose:List Str}{XP:(Str->Option Value)->Heap->Prop}{YP:World->Heap->Prop}{d:DefRec}
  (hn:l.most=some n) (hdf:d.params.defaults=[])
  (call:∀(w:World) (s₀ s₁:Shared) (mg mb:Str->Option Value) (fa:Addr) (o:Obj) (pm cd doc:Value) (a:Addr) (vs:List Value) (ns:List Int),
   Ground q loose [] XP w s₀ mg mb s₁.heap->YP w s₁.heap ->
   s₁.heap.get? fa=some o->o.data=.func (docDef d.name d.params d.body d.scope pm cd doc)->s₁.heap.CodeRec cd d.name->mg d.name=some (.ref fa) ->
   s₁.heap.get? a=some { cls:=.type "list",data:=.seq vs.toArray }->IntsAre vs ns->ns.length<=n->s₁.gens=#[] ->
   codeAny (model l.prog w) callerA (.call (.ref fa) ⟨[.ref a],[]⟩) (λr s'=>r=.ok (.ret (.bool true))/\OldK s₁.heap s'.heap/\s'.os=s₁.os/\AllBare s'.gens) s₁) :
  WalkO q loose XP YP l.row.toRowW d [] (λf vs=>PySem.call f vs):=by
 intro w s₀ s₁ mg mb G Y fa o pm cd doc dV kV ho hd a1 hD Z hg a2 vals as O a3 a5 a0 a4;obtain rfl:dV=.none:=Dflts.none hD hdf;obtain rfl:kV=.none:=Dflts.noKw hD;obtain⟨a,vs,ns,rfl,rfl,J,F,L⟩:=fs0 hn O a0;refine enter_call (Y2 (call w s₀ s₁ mg mb fa o pm cd doc a vs ns G Y ho (fd_plain hd) a1 Z J F L hg) λr s' hq=>?_);obtain⟨rfl,h2,h3,h4⟩:=hq;exact⟨.inl ⟨.bool true,.bool true,[],rfl,λ_=>rfl,.bool true,fw0 l _,λ_=>⟨List.Pairwise.nil,λ_ hm=>(nomatch hm)⟩⟩,h2,h3,h4⟩
end Att
namespace L2
open Spec PyProof.Rows
theorem pr0:∀{vs:List Value} {ns:List Int},IntsAre vs ns->Vals (ns.map V.int) vs
 | _,_,.nil=>.nil
 | _,_,.cons n t h=>.cons ⟨t,rfl⟩ (pr0 h)
def Only(H:Hp):Prop:=∀b,H b=none∨∃o xs,H b=some (.frz o (.lst xs))
theorem es0{P:Program}{w:World}{K:W.Frag}{mg mb:Str->Option Value}{CX:CXT}{k:Nat}{fa a:Addr}{fd:FuncData}{x:Str}{sp:Sp}{s₁:Shared}{vs:List Value}{ns:List Int}
  (KX:K.In s₁.heap) (hns:s₁.heap.Ns mainGlobals mg) (hb:s₁.heap.Ns builtinsNs mb) (hbb:∀x:Str,x ≠"__name__"->mb x=bootBuiltins x) (hlim:s₁.heap.NoLimit) (hg:s₁.gens=#[])
  (ha:s₁.heap.get? a=some { cls:=.type "list",data:=.seq vs.toArray }) (hi:IntsAre vs ns) (hl:ns.length<=sizeLine) (hr:Room k callerA)
  (F:∀base:Heap,K.In base->base.Ns mainGlobals mg->FnOk P w K mg base CX k fa fd [x] sp) (hbind:∀(s:Shared) (u:Value),BindsTo s fd ⟨[u],[]⟩ [(x,u)])
  (hsp:∀H:Hp,Only H->SqL K H a (ns.map V.int)->sp [.ref a] H (λv _=>v=.bl true) λ_ _ _=>False)
  (hCX:∀H e s',CX [] H s₁ (λ_ _ _=>False) e s'->False) :
  codeAny (model P w) callerA (.call (.ref fa) ⟨[.ref a],[]⟩) (λr s'=>r=.ok (.ret (.bool true))/\OldK s₁.heap s'.heap/\s'.os=s₁.os/\AllBare s'.gens) s₁:=by
 have rv:=pr0 hi;have Z:=hi.length;have O:∀H:Hp,Only H->SqL K H a (ns.map V.int)->HOk P w H s₁.heap->(∀b,H b≠none->b=a)->(H a≠none->K.lookup a=none) ->
   codeAny (model P w) callerA (.call (.ref fa) ⟨[.ref a],[]⟩) (λr s'=>r=.ok (.ret (.bool true))/\OldK s₁.heap s'.heap/\s'.os=s₁.os/\AllBare s'.gens) s₁:=by
  intro H hO hS hok hA hK;have J:∀{b:Addr} {o:Obj},s₁.heap.get? b=some o->H b=none->(vn0 s₁.heap H).get? b=some o:=λe n=>dk0 e n
  have a1:∀{b:Addr} {o:Obj} {es:Array DictEntry} {ep:Nat},s₁.heap.get? b=some o->o.data=.dict es ep->H b=none:=λ{b o es ep} e d=>by
   cases q:H b with
   | none=>rfl
   | some u =>
    have e':b=a:=hA b (by rw[q];simp);subst e';rw[ha] at e;cases e;have d':Data.seq vs.toArray _=Data.dict es ep:=d;cases d'
  have L:∀{b:Addr} {m:Str->Option Value},s₁.heap.Ns b m->(vn0 s₁.heap H).Ns b m:=λ{b m} ⟨o,es,ep,e,d,r⟩=>⟨o,es,ep,J e (a1 e d),d,r⟩
  have Y:K.In (vn0 s₁.heap H):=λb o e=>J (KX b o e) (by
   cases q:H b with
   | none=>rfl
   | some u =>
    have e':b=a:=hA b (by rw[q];simp);subst e';rw[hK (by rw[q];simp)] at e;cases e)
  have hM:Mod K mg (vn0 s₁.heap H):=⟨Y,L hns,⟨mb,L hb,hbb⟩,let ⟨mc,h1,h2⟩:=hlim;⟨mc,L h1,h2⟩⟩;have e0:Env0 P w K mg (vn0 s₁.heap H) callerA [] s₁ H:=⟨rfl,hM,λb o e=>Z50 e,d6 (gc0 _ _),trivial,λb hb=>absurd (show b∈([]:List Addr) from hb) (by simp),hok,.of_eq hg⟩;refine Y2 ((F _ Y (L hns)).run callerA [] s₁ H ⟨[.ref a],[]⟩ [.ref a] [.ref a] _ _ hr e0 (hbind s₁ (.ref a)) (.cons rfl .nil) (hsp H hO hS)) λr s' h=>?_
  cases r with
  | error e=>exact(hCX H e s' h).elim
  | ok fl =>
   cases fl with
   | next=>exact False.elim h
   | brk=>exact False.elim h
   | cont=>exact False.elim h
   | ret u =>
    obtain⟨v,H',os,bare,un,a0,r',q⟩:=h;have q':v=.bl true:=q;subst q';obtain rfl:u=Value.bool true:=r';refine⟨rfl,OldK.of_keep λb o e=>?_,os,bare⟩;cases q:H b with
    | none=>exact un.keep b o e q (by intro z;exact absurd (show b∈([]:List Addr) from z) (by simp)) (by simp)
    | some u =>
     rcases hO b with z|⟨ob,xs,z⟩
     ·rw[q] at z;cases z
     ·have z2:=un.frzs b ob _ z
      obtain⟨e1,_⟩:=hok b _ z;obtain⟨e2,_⟩:=a0 b _ z2;rw[e] at e1;cases e1;exact e2
 cases hk:K.lookup a with
 | some o =>
  have e:=KX a o hk;rw[ha] at e;cases e;refine O (λ_=>none) (λ_=>.inl rfl) (.inr ⟨_,vs.toArray,_,hk,rfl,rfl,rfl,by rw[List.size_toArray,Z];exact hl,by simpa using rv⟩) (λb u z=>by have z':(none:Option HO)=some u:=z;cases z') (λb z=>absurd rfl z) λz=>absurd rfl z
 | none =>
  refine O (λb=>if b=a then some (.frz { cls:=.type "list",data:=.seq vs.toArray } (.lst (ns.map V.int))) else none) (λb=>?_) (.inl (.inr ⟨{ cls:=.type "list",data:=.seq vs.toArray },if_pos rfl⟩)) (λb u z=>?_) (λb z=>?_) λ_=>hk
  ·by_cases hb:b=a
   ·exact .inr ⟨_,_,if_pos hb⟩
   ·exact .inl (if_neg hb)
  ·by_cases hb:b=a
   ·have z':=(if_pos hb).symm.trans z
    cases z';subst hb;exact⟨ha,by rw[List.length_map];exact hl,vs,_,rv,ha⟩
   ·have z':=(if_neg hb).symm.trans z
    cases z'
  ·by_cases hb:b=a
   ·exact hb
   ·exact absurd (if_neg hb) z
theorem Z00{l:W.OpenLaw}{n k:Nat}{q:Program}{loose:List Str}{XP:(Str->Option Value)->Heap->Prop}{YP:World->Heap->Prop}{d:DefRec}{K:Params->W.Frag}{CX:World->CXT}{sp:World->Sp}{x:Str}
  (hn:l.most=some n) (hn2:n<=sizeLine) (hdf:d.params.defaults=[]) (hr:Room k callerA)
  (hY:∀(w:World) (h:Heap),YP w h->(K w.params).In h)
  (F:∀(w:World) (mg:Str->Option Value) (fa:Addr) (h:Heap),(K w.params).In h->h.Ns mainGlobals mg->mg d.name=some (.ref fa) ->
   ∃fd:FuncData,(∀(s:Shared) (u:Value),BindsTo s fd ⟨[u],[]⟩ [(x,u)]) /\
    ∀base:Heap,(K w.params).In base->base.Ns mainGlobals mg->FnOk l.prog w (K w.params) mg base (CX w) k fa fd [x] (sp w))
  (hsp:∀(w:World) (H:Hp) (a:Addr) (ns:List Int),ns.length<=n->Only H->SqL (K w.params) H a (ns.map V.int)->sp w [.ref a] H (λv _=>v=.bl true) λ_ _ _=>False)
  (hCX:∀(w:World) (H:Hp) (s:Shared) (e:Value) (s':Shared),CX w [] H s (λ_ _ _=>False) e s'->False) :
  W.WalkO q loose XP YP l.row.toRowW d [] (λf vs=>PySem.call f vs):=by
 refine Att.lz0 hn hdf λw s₀ s₁ mg mb fa o pm cd doc a vs ns G Y ho hd a0 Z O L J hg=>?_
 have KX:=hY w _ Y;obtain⟨fd,hb,hF⟩:=F w mg fa _ KX G.T.g Z;exact es0 KX G.T.g G.T.b G.T.builtins G.T.nolimit hg O L (C2 J hn2) hr hF hb (λH hO hS=>hsp w H a ns J hO hS) λH e s'=>hCX w H s₁ e s'
theorem eb0{l:W.OpenLaw}{n k:Nat}{q:Program}{loose:List Str}{XP:(Str->Option Value)->Heap->Prop}{YP:World->Heap->Prop}{d:DefRec}{K:Params->W.Frag}{CX:CXT}{sp:W.Frag->Sp}{x:Str}
  (hn:l.most=some n) (hn2:n<=sizeLine) (hdf:d.params.defaults=[]) (hr:Room k callerA)
  (hY:∀(w:World) (h:Heap),YP w h->(K w.params).In h)
  (F:∀(w:World) (mg:Str->Option Value) (fa:Addr) (h:Heap),(K w.params).In h->h.Ns mainGlobals mg->mg d.name=some (.ref fa) ->
   ∃fd:FuncData,(∀(s:Shared) (u:Value),BindsTo s fd ⟨[u],[]⟩ [(x,u)]) /\
    ∀base:Heap,(K w.params).In base->base.Ns mainGlobals mg->FnOk l.prog w (K w.params) mg base CX k fa fd [x] (sp (K w.params)))
  (hsp:∀(K:W.Frag) (H:Hp) (a:Addr) (ns:List Int),ns.length<=n->Only H->SqL K H a (ns.map V.int)->sp K [.ref a] H (λv _=>v=.bl true) λ_ _ _=>False)
  (hCX:∀(H:Hp) (s:Shared) (e:Value) (s':Shared),CX [] H s (λ_ _ _=>False) e s'->False) :
  W.WalkO q loose XP YP l.row.toRowW d [] (λf vs=>PySem.call f vs) :=
 Z00 (K:=K) (CX:=λ_=>CX) (sp:=λw=>sp (K w.params)) hn hn2 hdf hr hY F (λw H a ns h1 h2 h3=>hsp (K w.params) H a ns h1 h2 h3) λ_ H s e s'=>hCX H s e s'
def n8(s:Stmt):Arguments:=match s with
 | .FunctionDef _ a _ _ _ _ _ _ _ _=>a
 | _=>{ posonlyargs:=[],args:=[],vararg:=none,kwonlyargs:=[],kw_defaults:=[],kwarg:=none,defaults:=[] }
def n6(s:Stmt):List Stmt:=match s with
 | .FunctionDef _ _ b _ _ _ _ _ _ _=>b
 | _=>[]
def u9(s:Stmt):Scope:=match s with
 | .FunctionDef _ _ _ _ _ _ sc _ _ _=>sc
 | _=>{ kind:=.function,names:=[],isGenerator:=false,isCoroutine:=false }
abbrev CX0:CXT:=λ_ _ _ _ _ _=>False
abbrev E0:XK:=λ_ _ _=>False
theorem du0:mf0 CX0 X E0:=λ_ _ _ _ _ _ _ h=>h.elim
structure Fun(K:W.Frag)(x qual:Str)(st:Stmt)(f:Addr)(fd:FuncData):Prop where
 ex:∃(oc:Value) (od:Option Addr) (kV doc pm:Value) (an:Option Addr) (cdv ct:Value) (osl:Array (Option Value)),
  fd=W.fnOf x qual (n8 st) (n6 st) (u9 st) .none kV doc pm an cdv ct/\K.lookup f=some ⟨oc,od,.func fd,osl⟩/\W.codeIn K cdv qual=true
 kp:W.keepIn K (.ref f)=true
section
variable{P:Program}{w:World}
theorem Fun.ok{f:Addr}{ps:List Str}{k:Nat}(F:Fun K x qual st f fd)(S:FnScope N ps (u9 st))(len:∀vs H Q E,sp vs H Q E->vs.length=ps.length)
  (hbody:∀(cdv:Value) (A:Around) (outer:List Env) (s:Shared) (H:Hp) (vs:List V) (Q:VK) (E:XK),Room k (A.deeper (envOfC qual (u9 st) s.heap.objs.size f cdv))->sp vs H Q E ->
   ∃t,PSs (xy0 CX0 P w K mg base N qual (u9 st) f cdv A outer s H E).nox (n6 st) t/\t { nx:=λ_ H'=>Q .non H',rt:=Q } (start N vs) H):FnOk P w K mg base CX0 (k+1) f fd ps sp:=by
 obtain⟨oc,od,kV,doc,pm,an,cdv,ct,O,rfl,lk,L⟩:=F.ex;refine dv0 lk L S len λA outer s H vs Q E hr J=>?_
 obtain⟨t,h,q⟩:=hbody cdv A outer s H vs Q E hr J;exact⟨t,h.nox,q⟩
theorem Fun.binds{f:Addr}{ps:List Str}(F:Fun K x qual st f fd)
  (h:∀(kV doc pm:Value) (an:Option Addr) (cdv ct:Value) (us:List Value),us.length=ps.length->bindArgs (W.fnOf x qual (n8 st) (n6 st) (u9 st) .none kV doc pm an cdv ct) ⟨us,[]⟩=pure (ps.zip us)):Binds K fd ps []:=by
 obtain⟨oc,od,kV,doc,pm,an,cdv,ct,J,rfl,lk,L⟩:=F.ex;exact .all (h kV doc pm an cdv ct)
theorem Y8{f:Addr}{osl:Array (Option Value)}{kV:Value}(l:K.lookup f=some ⟨oc,od,.func (W.fnOf x qual (n8 st) (n6 st) (u9 st) .none kV doc pm an cdv ct),osl⟩)
  (c:W.codeIn K cdv qual=true) (k:W.keepIn K (.ref f)=true):Fun K x qual st f (W.fnOf x qual (n8 st) (n6 st) (u9 st) .none kV doc pm an cdv ct):=⟨⟨oc,od,kV,doc,pm,an,cdv,ct,osl,rfl,l,c⟩,k⟩
end
theorem yu0{k:Nat}(hr:Room k A):A.units+1<cLine:=q0 (C00 (by decide:1<=64) _) hr.units
def Same(H H':Hp):Prop:=∀b o,H b=some o->H' b=some o
theorem Same.refl(H:Hp):Same H H:=λ_ _ h=>h
theorem Same.trans{H1:Hp}(a:Same H H1)(b:Same H1 H2):Same H H2:=λc o h=>b c o (a c o h)
theorem Same.free(e:Same H H'){l:Addr}(h:H' l=Option.none):H l=Option.none:=by
 cases q:H l with
 | none=>rfl
 | some o =>
  rw[e l o q] at h;cases h
def Y5(X:Cx)(scope:Scope)(cl:List (Str×Addr))(N':List Str)(s:Shared)(H:Hp)(ex:List Addr):Cx :=
 { X with N:=N',s₀:=s,H₀:=H,env:=compEnvC scope cl s.heap.objs.size X.env,outer:=X.stack,ex:=ex,fn:=λ_=>false,pn:=[],xe:=λ_ _=>False }
structure CompOk(sc scope:Scope)(N N':List Str)(n:Nat)(caps:List Nat):Prop where
 kind:scope.kind=.function
 nocell:∀y∈scope.names,y.2≠.cell
 loc:∀y∈scope.names,y.2=.local->scope.names.lookup y.1=some .local
 free:∀y∈scope.names,y.2=.free->sc.names.lookup y.1=some .cell∨sc.names.lookup y.1=some .free
 nd:N'.Nodup
 len:N'.length=n+caps.length
 cap:∀k∈List.range caps.length,N'[n+k]?=(caps[k]?).bind (N[·]?)/\(N'[n+k]?).all (λy=>scope.names.lookup y==some .free)=true
def Q4(n:Nat)(caps:List Nat)(σ:St):St:=List.replicate n none++caps.map λj=>(σ[j]?).join
theorem f60(n:Nat)(caps:List Nat)(σ:St):(Q4 n caps σ).length=n+caps.length:=by simp[Q4]
theorem xx0{env:Env}:∀(names:List (Str×NameKind)),(∀x∈names,x.2=.free->∃c,env.cells.lookup x.1=some c)->∀acc:List (Str×Addr),
  ∃cl:List (Str×Addr),(forIn names acc (λ(x:Str×NameKind) (cs:List (Str×Addr))=>if (x.2==.free)=true then do let a ← cellOf env x.1;pure (ForInStep.yield ((x.1,a)::cs)) else pure (ForInStep.yield cs)):Sem (List (Str×Addr)))=pure cl /\
   (∀y c,cl.lookup y=some c->env.cells.lookup y=some c∨acc.lookup y=some c)/\(∀x∈names,x.2=.free->∃c,cl.lookup x.1=some c)/\(∀y c,acc.lookup y=some c->∃c',cl.lookup y=some c')
 | [],_,acc=>⟨acc,rfl,λ_ _ h=>.inr h,(λ_ h=>nomatch h),λ_ c h=>⟨c,h⟩⟩
 | (n,k)::r,h,acc=>by
  cases hk:(k==NameKind.free) with
  | true =>
   have hk':k=.free:=by simpa using hk
   obtain⟨c,hc⟩:=h (n,k) A5 hk';obtain⟨cl,e,h1,h2,h3⟩:=xx0 r (λx hx=>h x (A7 _ hx)) ((n,c)::acc);refine⟨cl,?_,λy d hy=>?_,λx hx hf=>?_,λy d hy=>?_⟩
   ·rw[List.forIn_cons]
    simp only[hk,if_true,cellOf,hc,pure_bind];exact e
   ·rcases h1 y d hy with z|z
    ·exact .inl z
    ·rw[List.lookup_cons] at z
     cases q:(y==n) with
     | true =>
      rw[q] at z;cases z;have:y=n:=by simpa using q
      subst this;exact .inl hc
     | false =>
      rw[q] at z;exact .inr z
   ·rcases B2.mp hx with rfl|hx
    ·exact h3 n c (by simp[List.lookup_cons])
    ·exact h2 x hx hf
   ·by_cases q:y=n
    ·subst q
     exact h3 y c (by simp[List.lookup_cons])
    ·refine h3 y d ?_
     have:(y==n)=false:=by simpa using q
     rw[List.lookup_cons,this];exact hy
  | false =>
   obtain⟨cl,e,h1,h2,h3⟩:=xx0 r (λx hx=>h x (A7 _ hx)) acc;refine⟨cl,?_,h1,λx hx hf=>?_,h3⟩
   ·rw[List.forIn_cons]
    simp only[hk,Bool.false_eq_true,if_false,pure_bind];exact e
   ·rcases B2.mp hx with rfl|hx
    ·have:k=.free:=hf
     rw[this] at hk;exact absurd hk (by decide)
    ·exact h2 x hx hf
theorem wi0{env:Env}(h:∀x∈scope.names,x.2=.free->∃c,env.cells.lookup x.1=some c) :
  ∃cl:List (Str×Addr),closureFor scope env=pure cl/\(∀y c,cl.lookup y=some c->env.cells.lookup y=some c)/\∀x∈scope.names,x.2=.free->∃c,cl.lookup x.1=some c:=by
 obtain⟨cl,e,h1,h2,_⟩:=xx0 scope.names h [];refine⟨cl,?_,λy c hy=>(h1 y c hy).elim id (λz=>nomatch z),h2⟩;simp only[closureFor];rw[← bind_pure (forIn _ _ _)] at e
 first
  | exact e
  | (refine Eq.trans ?_ e;rfl)
theorem yp0{env:Env}:∀(names:List (Str×NameKind)) (x:Str),
  (names.map λ(n,k)=>if (k==NameKind.free&&env.scope.kind==.function&&env.kindOf n==some .cell) then (n,NameKind.cell) else (n,k)).lookup x =
   (names.lookup x).map λk=>if (k==NameKind.free&&env.scope.kind==.function&&env.kindOf x==some .cell)=true then NameKind.cell else k
 | [],_=>rfl
 | (n,k)::r,x=>by
  have ih:=@yp0 env r x;have l1:List.lookup x (((n,k)::r).map λ(n,k)=>if (k==NameKind.free&&env.scope.kind==.function&&env.kindOf n==some .cell) then (n,NameKind.cell) else (n,k)) =
    List.lookup x ((if (k==NameKind.free&&env.scope.kind==.function&&env.kindOf n==some .cell)=true then (n,NameKind.cell) else (n,k))::r.map λ(n,k)=>if (k==NameKind.free&&env.scope.kind==.function&&env.kindOf n==some .cell) then (n,NameKind.cell) else (n,k)):=rfl
  rw[l1,List.lookup_cons (as:=r)]
  by_cases hc:(k==NameKind.free&&env.scope.kind==.function&&env.kindOf n==some .cell)=true
  ·rw[if_pos hc,List.lookup_cons]
   cases hx:x==n with
   | true =>
    have e:x=n:=by simpa using hx
    subst e;show some NameKind.cell=some (if (k==NameKind.free&&env.scope.kind==.function&&env.kindOf x==some .cell)=true then NameKind.cell else k);rw[if_pos hc]
   | false=>exact ih
  ·rw[if_neg hc,List.lookup_cons]
   cases hx:x==n with
   | true =>
    have e:x=n:=by simpa using hx
    subst e;show some k=some (if (k==NameKind.free&&env.scope.kind==.function&&env.kindOf x==some .cell)=true then NameKind.cell else k);rw[if_neg hc]
   | false=>exact ih
section
variable{w:World}{s:Shared}
theorem on0{elt target iter:Expr}{ifs:List Expr}{scope:Scope}{pos:Pos}{it acc:Value}{env:Env}(I:Nat->Shared->Prop)
  (turn:∀n s,I n s->wpAny (model prog w) A (pyNext it) (λr s₁=>match r with
   | none=>R (.ok .next) s₁
   | some v=>wpAny (model prog w) A (letOwnedTupleGo target it v) (λ_ s₁'=>wpAny (model prog w) A (assign target env v) (λ_ s₂ =>
     wpAny (model prog w) A (forIn ifs true λc r=>if r=true then do let ok ← isTrue c env (eval c env);pure (ForInStep.yield ok) else pure (ForInStep.yield r)) (λok s₃ =>
      if ok=true then wpAny (model prog w) A (eval elt env) (λx s₄ =>
       wpAny (model prog w) A (call (.builtin "list.append") [acc,x]) (λ_ s₅=>∃m,m<n/\I m s₅) (λ_ _=>False) s₄) (λ_ _=>False) s₃
      else ∃m,m<n/\I m s₃) (λ_ _=>False) s₂) (λ_ _=>False) s₁') (λ_ _=>False) s₁) (λ_ _=>False) s)
  (n:Nat) (h:I n s) :
  codeAny (model prog w) A (.compLoop (.ListComp elt [⟨target,iter,ifs,0⟩] scope pos) 0 it acc env) R s:=by
 refine codeAny_loop rfl I (λn s hI=>?_) n h;show wpAny _ A ((compTurn (.ListComp elt [⟨target,iter,ifs,0⟩] scope pos) 0 it acc env).onRaise (λx=>do noteFrame x env;theTreesLotGoes x)) _ _ s;refine wpAny_noted ?_;rw[compTurn_list];refine A0 (X1 (A0 (D0 (turn n s hI) (λr s₁ h₁=>?_) λ_ _ h'=>h'.elim)));cases r with
 | none=>exact A1 h₁
 | some v =>
  refine A0 (D0 h₁ (λ_ s₁' F=>?_) λ_ _ h'=>h'.elim);refine A0 (D0 F (λ_ s₂ h₂=>A0 (D0 h₂ (λok s₃ h₃=>?_) λ_ _ h'=>h'.elim)) λ_ _ h'=>h'.elim);cases ok with
  | false=>exact A1 ⟨rfl,h₃⟩
  | true =>
   exact A0 (A0 (D0 h₃ (λx s₄ h₄=>A0 (D0 h₄ (λ_ s₅ h₅=>A1 (A1 ⟨rfl,h₅⟩)) λ_ _ h'=>h'.elim)) λ_ _ h'=>h'.elim))
end
def PF(X:Cx)(ifs:List Expr)(t:TT):Prop :=
 ∀(pins:List (Addr×Obj)) (s:Shared) (σ:St) (H:Hp) (Q:Bool->Hp->Prop),Inv X pins σ H s->t σ H Q ->
  wpAny (model X.prog X.w) X.A (forIn ifs true λc r=>if r=true then do let ok ← isTrue c X.env (eval c X.env);pure (ForInStep.yield ok) else pure (ForInStep.yield r)) (TP X pins σ Q) X.xe s
theorem Yk0:PF X [] λ_ H Q=>Q true H:=λ_ _ _ H _ I h=>wpAny_tests_nil ⟨H,I,h⟩
theorem W00{t:TT}(h:PT X c t):PF X [c] t:=λpins s σ H Q I q=>wpAny_tests_one (h pins s σ H Q I q)
def Wk(σ σ':St):Prop:=σ'.length=σ.length/\∀(j:Nat) (v:V),σ[j]?=some (some v)->σ'[j]?=some (some v)
def i20(n:Nat)(caps:List Nat)(wi:TI)(g:TG)(tt:TT)(te:TE):TE:=fun σ H Q=>wi σ H λJ H1=>∀D,H1 D=none ->
 ∃W:Nat->Nat->List V->Hp->Prop,(∃m,W 0 m [] (upd H1 D (.lst [])))/\∀i m ys H2,W i m ys H2 ->
  (J.stop i H2/\Q (.ref D) H2)∨(J.go i H2/\∀x H3,J.yld i H2 x H3->g x (Q4 n caps σ) H3 fun σ4 H4=>Wk (Q4 n caps σ) σ4/\tt σ4 H4 λb H5 =>
   if b=true then te σ4 H5 λy H6=>H6 D=some (.lst ys)/\ys.length<sizeLine/\∃m',m'<m/\W (i+1) m' (ys++[y]) (upd H6 D (.lst (ys++[y]))) else ∃m',m'<m/\W (i+1) m' ys H5)
section
variable{tg:Expr}{wi:TI}{g:TG}{tt:TT}
def V10(X:Cx)(pins:List (Addr×Obj))(H:Hp)(C:Addr):Prop :=
 H C=none/\C≠X.env.locals/\X.s₀.heap.objs.size<=C/\(∀x c,X.env.cells.lookup x=some c->c≠C)/\∀p∈X.pn++pins,p.1≠C
theorem qx0{pins:List (Addr×Obj)}{σ:St}{H2:Hp}{s2:Shared}{it:Addr}{fp:List Addr}{tn:Nat->Heap->Prop}{J:It}{cl:List (Str×Addr)}{Q:VK}{RR:Value->Addr->Result->Shared->Prop}{E:Value->Shared->Prop}
  (hc:X.calm=true) (hsc:X.env.scope=sc) (ok:CompOk sc scope X.N N' n caps)
  (hcl1:∀y c,cl.lookup y=some c->X.env.cells.lookup y=some c) (hcl2:∀x∈scope.names,x.2=.free->∃c,cl.lookup x.1=some c)
  (hg:∀s H ex,PG (Y5 X scope cl N' s H ex) tg g) (ht:∀s H ex,PF (Y5 X scope cl N' s H ex) ifs tt) (he:∀s H ex,PE (Y5 X scope cl N' s H ex) elt te)
  (I2:Inv X pins σ H2 s2) (T:Turn X.prog X.w X.K tg J fp it tn) (st2:tn 0 s2.heap) (f2:∀b∈fp,xk0 X pins H2 b)
  (q:∀D,H2 D=none->∃W:Nat->Nat->List V->Hp->Prop,(∃m,W 0 m [] (upd H2 D (.lst [])))/\∀i m ys H2,W i m ys H2 ->
   (J.stop i H2/\Q (.ref D) H2)∨(J.go i H2/\∀x H3,J.yld i H2 x H3->g x (Q4 n caps σ) H3 fun σ4 H4=>Wk (Q4 n caps σ) σ4/\tt σ4 H4 λb H5 =>
    if b=true then te σ4 H5 λy H6=>H6 D=some (.lst ys)/\ys.length<sizeLine/\∃m',m'<m/\W (i+1) m' (ys++[y]) (upd H6 D (.lst (ys++[y]))) else ∃m',m'<m/\W (i+1) m' ys H5))
  (hend:∀(D C:Addr) (H':Hp) (s':Shared) (m:Str->Option Value),Inv X pins σ H' s'->V10 X pins H' C->s'.heap.Ns C m->Q (.ref D) H'->RR (.ref D) C (.ok .next) s') :
  wpAny (model X.prog X.w) X.A (newList []) (λacc s₃=>wpAny (model X.prog X.w) X.A (newFunctionEnv scope X.env.globals cl [] X.env.qual none .none (some X.env)) (λcenv s₄ =>
   codeAny (model X.prog X.w) X.A (.compStart (.ListComp elt [⟨tg,iter,ifs,0⟩] scope pos) 0 (.ref it) acc { cenv with scope:=relabel scope X.env }) (RR acc cenv.locals) s₄) E s₃) E s2:=by
 refine H0 (wpAny_newFunctionEnv ok.nocell (by intro y hy;simp at hy) (λh₁ Y Z=>?_) ok.kind);dsimp only at Y Z ⊢;obtain⟨D,hD⟩:∃D,D=s2.heap.objs.size:=⟨_,rfl⟩;have I3:Inv X pins σ (upd H2 s2.heap.objs.size (.lst [])) { s2 with heap:=s2.heap.push { cls:=.type "list",data:=.seq ([]:List Value).toArray } }:=I2.lnew (its:=[]) (t':=s2.toks) .nil (D3 _);have c4:H2 s2.heap.objs.size=none:=I2.fresh;obtain⟨W,⟨m0,w0⟩,b3⟩:=q s2.heap.objs.size c4;generalize hs3:({ s2 with heap:=s2.heap.push { cls:=.type "list",data:=.seq ([]:List Value).toArray } }:Shared)=s3 at *;have b2:s2.heap.push { cls:=.type "list",data:=.seq ([]:List Value).toArray }=s3.heap:=by rw[← hs3]
 have g3:s2.toks=s3.toks:=by rw[← hs3]
 rw[b2] at Y Z ⊢;generalize hH3:upd H2 s2.heap.objs.size (HO.lst [])=H3 at *;rw[← hD] at b3 hH3 c4 ⊢;have O:∀b o,s3.heap.get? b=some o->h₁.get? b=some o:=λb o e=>Z.extBut b o (A9 (A6 e)) (A8 _ e)
 have a6:∀b o,s2.heap.get? b=some o->s3.heap.get? b=some o:=λb o e=>by rw[← b2];exact A8 _ e
 have b9:∀b∈fp,b<s3.heap.objs.size:=λb hb=>by
  obtain⟨o,e,_⟩:=T.obj _ _ st2 b hb;exact A6 (a6 b o e)
 have f9:∀b∈fp,b≠D:=λb hb z=>by
  obtain⟨o,e,_⟩:=T.obj _ _ st2 b hb;rw[z,hD] at e;exact absurd (A6 e) (D9 _)
 obtain⟨X',F⟩:∃X',X'=Y5 X scope cl N' s3 H3 fp:=⟨_,rfl⟩;have f6:X'.Ok:=by
  subst F;refine⟨I3.ok.mod,ok.kind,I3.ok.glob,I3.ok.blt,A4 _,λx y c h1 h2=>I3.ok.inj x y c (hcl1 x c h1) (hcl1 y c h2),λx hx=>?_,λx c h _=>absurd h (by simp[Y5]),I3.ok.hd,I3.ok.frames,.inl rfl,
   λb hb=>⟨A9 (b9 b hb),λx c e=>(f2 b hb).2.2.2.2.1 x c (hcl1 x c e)⟩,λb o e=>I3.bs b o e,C2 I3.ok.bsz I3.sz,λb o e hb=>?_,λb hb hf=>?_,I3.stack,I3.stkFree⟩
  ·have a4:((relabel scope X.env).names.lookup x=some .cell)∨((relabel scope X.env).names.lookup x=some .free):=hx
   have q2:=yp0 (env:=X.env) scope.names x;have q3:(relabel scope X.env).names.lookup x=(scope.names.lookup x).map λk=>if (k==NameKind.free&&X.env.scope.kind==.function&&X.env.kindOf x==some .cell)=true then NameKind.cell else k:=q2
   cases e:scope.names.lookup x with
   | none =>
    rw[q3,e] at a4;rcases a4 with z|z<;>cases z
   | some k =>
    have hk:k=.free:=by
     rw[q3,e] at a4;have nc:=ok.nocell (x,k) (L5 e);cases k<;>first
      | rfl
      | exact absurd rfl nc
      | (rcases a4 with z|z<;>simp at z)
    subst hk;exact hcl2 (x,.free) (L5 e) rfl
  ·rcases (f2 b hb).2.2.2.1 with z|z
   ·exact I3.ok.noex b o e z
   ·exact absurd (B6 (A6 (I3.ok.bs b o e).1) z) (D9 _)
  ·rcases B2.mp (I3.stkSub b hf) with z|z
   ·exact(f2 b hb).2.1 z
   ·exact(f2 b hb).2.2.1 z
 have I4:Inv X' [] (Q4 n caps σ) H3 { s3 with heap:=h₁,toks:=s2.toks+([]:List (Str×Value)).length }:=by
  refine⟨f6,?_,?_,?_,?_,λx c e=>?_,?_,λx c e=>?_,λp hp=>?_,(by subst F;exact I3.hok.kept O),?_⟩
  ·subst F;rfl
  ·exact I3.bare
  ·subst F;exact Un.kept O
  ·subst F
   refine⟨_,Y,λi x v e1 e2 e3=>?_⟩;have hi:n<=i:=by
    by_cases hi:i<n
    ·unfold Q4 at e2
     rw[List.getElem?_append_left (by simpa using hi),List.getElem?_replicate,if_pos hi] at e2;cases e2
    ·omega
   obtain⟨k,rfl⟩:∃k,i=n+k:=⟨i - n,by omega⟩;have hk:k<caps.length:=by
    have:=(E1.mp e1).1;have e5:(Y5 X scope cl N' s3 H3 fp).N.length=n+caps.length:=ok.len;omega
   obtain⟨c1,c2⟩:=ok.cap k (C9.mpr hk);have b6:N'[n+k]?=some x:=e1;unfold Q4 at e2;rw[List.getElem?_append_right (by simp),List.length_replicate,Nat.add_sub_cancel_left,List.getElem?_map] at e2;obtain⟨j,hj⟩:∃j,caps[k]?=some j:=⟨caps[k],by simp[hk]⟩;rw[hj] at e2 c1;have e7:X.N[j]?=some x:=by rw[← b6,c1];rfl
   have a3:(σ[j]?).join=some v:=B3 e2;have c7:σ[j]?=some (some v):=by
    cases q:σ[j]? with
    | none=>rw[q] at a3;cases a3
    | some o=>rw[q] at a3;rw[show o=some v from a3]
   rw[b6] at c2;have L:scope.names.lookup x=some .free:=by simpa using c2
   have a7:=ok.free (x,.free) (L5 L) rfl;obtain⟨m,hn,hl⟩:=I3.loc;obtain⟨u,ru,l⟩:=hl j x v e7 c7 (by
    rcases a7 with z|z
    ·exact .inr (.inl (by rw[hsc];exact z))
    ·exact .inr (.inr (by rw[hsc];exact z)))
   refine⟨u,ru,.inr ⟨?_,?_⟩⟩
   ·have q3:(relabel scope X.env).names.lookup x=(scope.names.lookup x).map λk=>if (k==NameKind.free&&X.env.scope.kind==.function&&X.env.kindOf x==some .cell)=true then NameKind.cell else k:=yp0 scope.names x
    rw[L] at q3;show (relabel scope X.env).names.lookup x=_∨(relabel scope X.env).names.lookup x=_;rw[q3]
    by_cases hcc:(NameKind.free==NameKind.free&&X.env.scope.kind==.function&&X.env.kindOf x==some .cell)=true
    ·left;simp only[Option.map_some,if_pos hcc]
    ·right;simp only[Option.map_some,if_neg hcc]
   ·obtain⟨c',c0⟩:=hcl2 (x,.free) (L5 L) rfl
    rcases l with⟨e9,_⟩|⟨_,c,g2,b4⟩
    ·have a9:X.env.scope.names.lookup x=some .local:=e9
     rw[hsc] at a9;rcases a7 with z|z<;>(rw[a9] at z;cases z)
    ·have:=hcl1 x c' c0
     rw[g2] at this;cases this;obtain⟨o,ho,hd⟩:=b4;exact⟨_,c0,o,O _ o ho,hd⟩
  ·have e':cl.lookup x=some c:=by subst F;exact e
   obtain⟨v,o,ho,hd⟩:=I3.cell x c (hcl1 x c e');exact⟨v,o,O _ o ho,hd⟩
  ·subst F;exact I3.hok.fresh (A4 _)
  ·have e':cl.lookup x=some c:=by subst F;exact e
   exact I3.freeC x c (hcl1 x c e')
  ·subst F;exact absurd hp (by simp[Y5])
  ·subst F
   show _=N'.length;rw[f60,ok.len]
 have a8:X'.calm=true:=by subst F;exact hc
 have a0:∀{H':Hp},(∀b∈fp,H' b=none)->∀b∈fp,xk0 X' [] H' b:=λ{H'} hn b hb=>by
  subst F;refine⟨hn b hb,A9 (b9 b hb),λhf=>?_,.inl hb,λx c e=>(f2 b hb).2.2.2.2.1 x c (hcl1 x c e),λp hp=>absurd hp (by simp[Y5])⟩;rcases B2.mp (I3.stkSub b hf) with z|z
  ·exact(f2 b hb).2.1 z
  ·exact(f2 b hb).2.2.1 z
 have f8:∀b∈fp,H3 b=none:=λb hb=>by rw[← hH3,j7 (f9 b hb)];exact(f2 b hb).1
 have b8:tn 0 h₁:=T.keep _ _ _ st2 λb hb o e=>O b o (a6 b o e)
 have loop:∀s4:Shared,s4={ s3 with heap:=h₁,toks:=s2.toks+([]:List (Str×Value)).length } ->
   codeAny (model X.prog X.w) X.A (.compLoop (.ListComp elt [⟨tg,iter,ifs,0⟩] scope pos) 0 (.ref it) (.ref D) X'.env) (RR (.ref D) s3.heap.objs.size) s4:=by
  rintro s4 rfl;refine on0 (λk s'=>∃i ys H',Inv X' [] (Q4 n caps σ) H' s'/\tn i s'.heap/\(∀b∈fp,H' b=none)/\W i k ys H') ?_ m0 ⟨0,[],H3,I4,b8,f8,w0⟩;rintro k s5 ⟨i,ys,H5,I5,b7,b5,w5⟩;have eP:X'.prog=X.prog:=by subst F;rfl
  have ew:X'.w=X.w:=by subst F;rfl
  have eK:X'.K=X.K:=by subst F;rfl
  have eA:X'.A=X.A:=by subst F;rfl
  rcases b3 i k ys H5 w5 with⟨stop,qe⟩|⟨go,step⟩
  ·have T':=T.done X' eP ew eK a8 i [] s5 (Q4 n caps σ) H5 (λ_ _=>False) I5 (a0 b5) b7 stop
   rw[eA] at T';refine thn T' λr s6 ⟨hr,I6⟩=>?_
   subst hr;have f3:Un (frs X.stack) fp H3 H5 s3.heap s6.heap:=by have:=I6.base;subst F;exact this
   have e8:s6.os=s3.os:=by have:=I6.os;subst F;exact this
   have d0:HOk X.prog X.w H5 s6.heap:=by have:=I6.hok;subst F;exact this
   have IX:Inv X pins σ H5 s6:=I3.call' e8 f3 d0 I6.bare λb hb=>⟨(f2 b hb).2.2.2.1,(f2 b hb).2.1,(f2 b hb).2.2.2.2.1,(f2 b hb).2.2.2.2.2⟩
   obtain⟨m6,e4,_⟩:=I6.loc;have c8:s6.heap.Ns s3.heap.objs.size m6:=by subst F;exact e4
   refine hend D s3.heap.objs.size H5 s6 m6 IX ⟨by have:=I6.free;subst F;exact this,B8 I3.lt,I3.sz,λx c e z=>?_,λp hp z=>?_⟩ c8 qe
   ·obtain⟨v,qc⟩:=I3.cell x c e
    exact absurd (B6 qc.lt (d6 z.symm)) (D9 _)
   ·exact absurd (B6 (A6 (I3.pin p hp).1) (d6 z.symm)) (D9 _)
  ·have T':=T.item X' eP ew eK a8 i [] s5 (Q4 n caps σ) H5 (λ_ _=>False) I5 (a0 b5) b7 go
   rw[eA] at T';refine thn T' λr s6 ⟨u,hr,h6⟩=>?_
   subst hr;refine thn h6 λ_ s7 ⟨x,H7,I7,r7,y7,b0,f5⟩=>?_
   have f4:=I7.pinned (a0 f5) (T.obj _ _ b0);have c5:=hg s3 H3 fp;have c3:=ht s3 H3 fp;have c6:=he s3 H3 fp;rw[← F] at c5 c3 c6;have g1:=c5 _ s7 (Q4 n caps σ) H7 x u _ f4 r7 (step x H7 y7);rw[eP,ew,eA] at g1;have a5:X'.xe=λ_ _=>False:=by subst F;rfl
   rw[a5] at g1;refine thn g1 λ_ s8 ⟨σ8,H8,I8,a2,q8⟩=>?_
   have t1:=c3 _ s8 σ8 H8 _ I8 q8;rw[eP,ew,eA,a5] at t1;refine thn t1 λb s9 ⟨H9,I9,q9⟩=>?_
   have back:∀{σa:St} {Ha:Hp} {sa:Shared} {b1:List V} {ma:Nat},Inv X' ([]++uv0 fp s7.heap) σa Ha sa->σa.length=(Q4 n caps σ).length->(∀(j:Nat) v,(Q4 n caps σ)[j]?=some (some v)->σa[j]?=some (some v))->W (i+1) ma b1 Ha ->
     ∃i ys H',Inv X' [] (Q4 n caps σ) H' sa/\tn i sa.heap/\(∀b∈fp,H' b=none)/\W i ma ys H':=λ{σa Ha sa b1 ma} Ia hl hw wa=>by
    refine⟨i+1,b1,Ha,(Ia.weak hl.symm hw).unpinned,T.keep _ _ _ b0 λb hb o e=>(Ia.pin (b,o) (C6 _ (C6 _ (xq0 hb e)))).1,λb hb=>?_,wa⟩;obtain⟨o,e,d⟩:=T.obj _ _ b0 b hb;exact(Ia.pin (b,o) (C6 _ (C6 _ (xq0 hb e)))).2.1
   cases b with
   | false =>
    rw[if_neg C1];rw[if_neg C1] at q9;obtain⟨m',hm,w9⟩:=q9;exact⟨m',hm,back I9 a2.1 a2.2 w9⟩
   | true =>
    rw[if_pos rfl];rw[if_pos rfl] at q9;have e1:=c6 _ s9 σ8 H9 _ I9 q9;rw[eP,ew,eA,a5] at e1;refine thn e1 λv e0 ⟨y,f1,d2,d3,c9,d1,m',hm,e6⟩=>?_
    have a1:=pj0 (X:=X') _ e0 σ8 f1 (.ref D) [y] (.ref D) [v] (λ_ H'=>W (i+1) m' (ys++[y]) H') d2 rfl (.cons d3 .nil) ⟨D,ys,y,rfl,rfl,c9,d1,e6⟩;rw[eP,ew,eA,a5] at a1;refine thn a1 λ_ g4 ⟨_,g5,f0,_,f7⟩=>?_
    exact⟨m',hm,back f0 a2.1 a2.2 f7⟩
 subst F;exact codeAny_compStart_list (loop _ (by rw[← hs3])) (T.self X.A 0 _ _ _ b8 (loop _ (by rw[← hs3])))
theorem bf0(hc:X.calm=true)(hsc:X.env.scope=sc)(ok:CompOk sc scope X.N N' n caps)(hi:PI X tg iter wi)
  (hg:∀cl s H ex,PG (Y5 X scope cl N' s H ex) tg g) (ht:∀cl s H ex,PF (Y5 X scope cl N' s H ex) ifs tt) (he:∀cl s H ex,PE (Y5 X scope cl N' s H ex) elt te)
  (hs:∀x,foldedSetIterable iter X.env x=pure x:=by intro _;rfl) :
  PE X (.ListComp elt [⟨tg,iter,ifs,0⟩] scope pos) (i20 n caps wi g tt te):=by
 intro pins s σ H Q I h;obtain⟨cl,F,L,O⟩:=wi0 (env:=X.env) (scope:=scope) λx hx hf=>I.ok.has x.1 (by
  rcases ok.free x hx hf with z|z
  ·exact .inl (by show X.env.scope.names.lookup x.1=_;rw[hsc];exact z)
  ·exact .inr (by show X.env.scope.names.lookup x.1=_;rw[hsc];exact z))
 rw[eval_ListComp];refine C10 (use:=none) rfl hs F ok.kind ok.loc (thn (hi pins s σ H _ I h) λv s1 h1=>thn h1 λa0 s2 h2=>?_);obtain⟨it,fp,tn,J,H2,rfl,I2,T,Z,f2,q2⟩:=h2;refine qx0 (Q:=Q) (RR:=λY C=>compPost (model X.prog X.w) X.A X.xe none (EP X pins σ Q) Y C) hc hsc ok L O (hg cl) (ht cl) (he cl) I2 T Z f2 q2 ?_;intro D C H' s' m IX as hn qe;refine⟨m,hn,λh' sb=>⟨.ref D,H',IX.turned (t':=s'.toks) (λb o hb e=>(sb.2 b hb).trans e) as.1 as.2.1 (.inr as.2.2.1) as.2.2.2.1 as.2.2.2.2,rfl,qe⟩⟩
theorem jh0{y:Str}{py spos:Pos}(hN:X.N.Nodup)(hiN:X.N[i]?=some y)(hy:Loc X.env.scope y)(hc:X.calm=true)(hsc:X.env.scope=sc)(ok:CompOk sc scope X.N N' n caps)(hi:PI X tg iter wi)
  (hg:∀cl s H ex,PG (Y5 X scope cl N' s H ex) tg g) (ht:∀cl s H ex,PF (Y5 X scope cl N' s H ex) ifs tt) (he:∀cl s H ex,PE (Y5 X scope cl N' s H ex) elt te)
  (hsw:swapsWith (.ListComp elt [⟨tg,iter,ifs,0⟩] scope pos) (some (.Name y py)) spos.line X.env=pure true:=by rfl)
  (hs:∀x,foldedSetIterable iter X.env x=pure x:=by intro _;rfl)
  (hf:X.fn y=true∨X.env.scope.names.lookup y=some .local:=by first|exact .inl rfl|exact .inr rfl|assumption) :
  PS X (.Assign [.Name y py] (.ListComp elt [⟨tg,iter,ifs,0⟩] scope pos) spos) (λD σ H=>i20 n caps wi g tt te σ H λv H'=>D.nx (σ.set i (some v)) H'):=by
 intro pins s σ H D I h;obtain⟨cl,F,L,O⟩:=wi0 (env:=X.env) (scope:=scope) λx hx hf=>I.ok.has x.1 (by
  rcases ok.free x hx hf with z|z
  ·exact .inl (by show X.env.scope.names.lookup x.1=_;rw[hsc];exact z)
  ·exact .inr (by show X.env.scope.names.lookup x.1=_;rw[hsc];exact z))
 rw[exec_Assign_Name_used _ _ _ _ hsw];refine A0 (X1 (A0 ?_));show wpAny _ X.A (do let _ ← comprehension (.ListComp elt [⟨tg,iter,ifs,0⟩] scope pos) scope X.env _ (newList []) false (eval iter X.env) (some (assign (.Name y py) X.env))) _ _ s;refine A0 (D0 (C10 (use:=some (assign (.Name y py) X.env)) (Q:=λ_ s'=>SP X pins D .next s') rfl hs F ok.kind ok.loc
  (thn (hi pins s σ H _ I h) λv s1 h1=>thn h1 λa4 s2 h2=>?_)) (λ_ s' hq=>A1 (A1 hq)) λ_ _ e=>e)
 obtain⟨it,fp,tn,J,H2,rfl,I2,T,a1,f2,q2⟩:=h2;refine qx0 (Q:=λv H'=>D.nx (σ.set i (some v)) H') (RR:=λZ C=>compPost (model X.prog X.w) X.A X.xe (some (assign (.Name y py) X.env)) (λ_ s'=>SP X pins D .next s') Z C) hc hsc ok L O (hg cl) (ht cl) (he cl) I2 T a1 f2 q2 ?_;intro Da C H' s' m IX as hn qe;show wpAny _ X.A (assign (.Name y py) X.env (.ref Da)) _ _ _;refine wpAny_assign_Name (pb0 IX hN hiN hy (v:=.ref Da) rfl (λa2 a0 ⟨a,sb,ha⟩=>?_) hf);have Y:C≠a:=by
  rcases ha with z|z
  ·rw[z];exact as.2.1
  ·exact B7 (as.2.2.2.1 y a z)
 refine⟨m,hn.sameBut sb Y,λh' a3=>⟨_,H',a0.turned (t':=a2.toks) (λb o hb e=>(a3.2 b hb).trans e) as.1 as.2.1 (.inr as.2.2.1) as.2.2.2.1 as.2.2.2.2,qe⟩⟩
end
end L2
namespace DL
open Spec PyProof.Rows
inductive D where
 | non|bl (b:Bool)|int (i:Int)|str (x:Str)|tup (ds:List D)|lst (ds:List D)|dct (ks:Sum (List (Sum Int Str)) (List (List (Sum Int Str)))) (ds:List D)|fn (ks:List (Sum Int Str)) (ds:List D)
 deriving Inhabited
variable{l ds:List DL.D}
@[simp] def unl:D->D
 | .tup [_,d]=>d
 | d=>d
@[simp] def isL:D->Bool
 | .tup _=>true
 | _=>false
inductive Sl where
 | un|sh (d:D)|ow (d:D)
 | ex (c:Str) (n:Option Int)
abbrev Ds:=List Sl
inductive Res where
 | nx (δ:Ds)|rt (d:D)|bk (δ:Ds)|ct (δ:Ds)|rf (d:D)
variable{g ge gb:DL.Ds->Option DL.D}{gt:DL.Ds->Option Bool}{δ δ':DL.Ds}{G:DL.Ds->Option DL.Res}{gi gA:DL.Ds->Option (List DL.D)}
abbrev GE:=Ds->Option D
abbrev GB:=Ds->Option Bool
variable{g0:DL.GE}
abbrev GA:=Ds->Option (List D)
abbrev GS:=Ds->Option Res
@[simp] def asB:D->Option Bool
 | .bl b=>some b
 | _=>none
@[simp] def asI:D->Option Int
 | .int i=>some i
 | _=>none
@[simp] def gv(i:Nat):GE:=fun δ=>match δ[i]? with
 | some (.sh d)=>some d
 | _=>none
@[simp] def gc(d:D):GE:=λ_=>some d
@[simp] def o2(ga gb:GE)(f:D->D->Option D):GE:=fun δ=>(ga δ).bind λx=>(gb δ).bind λy=>f x y
@[simp] def ob(g:GE):GB:=fun δ=>(g δ).bind asB
@[simp] def wg0(g:GB):GB:=fun δ=>(g δ).map (!·)
@[simp] def K5(gt gu:GB):GB:=fun δ=>(gt δ).bind λt=>if t=true then gu δ else some false
@[simp] def xn0(gt gu:GB):GB:=fun δ=>(gt δ).bind λt=>if t=true then some true else gu δ
@[simp] def yl0(ga gb:GE):GE:=fun δ=>(ob ga δ).bind λt=>if t=true then gb δ else some (.bl false)
@[simp] def orG(ga gb:GE):GE:=fun δ=>(ob ga δ).bind λt=>if t=true then some (.bl true) else gb δ
@[simp] def ew0(ga:GE):GE:=fun δ=>(ob ga δ).map λt=>.bl (!t)
@[simp] def ifG(gt:GB)(ga gb:GE):GE:=fun δ=>(gt δ).bind λt=>if t=true then ga δ else gb δ
@[simp] def v6:GA:=λ_=>some []
@[simp] def z9(g:GE)(gA:GA):GA:=fun δ=>(g δ).bind λd=>(gA δ).map λds=>d::ds
@[simp] def Y7(gA:GA):GE:=fun δ=>(gA δ).bind λds=>if ds.length<=sizeLine then some (.tup ds) else none
@[simp] def Y0(gA:GA):GE:=fun δ=>(gA δ).bind λds=>if ds.length<=sizeLine then some (.lst ds) else none
@[simp] def oA(gA:GA)(f:List D->Option D):GE:=fun δ=>(gA δ).bind f
@[simp] def zf0(f:D->Bool)(g:GE):GE:=fun δ=>(g δ).map λd=>.bl (f d)
@[simp] def m50(d:D):Option D:=match d with
 | .int i=>some (.int (-i))
 | _=>none
@[simp] def unG(f:D->Option D)(g:GE):GE:=fun δ=>(g δ).bind f
@[simp] def v8(G1 G2:GS):GS:=fun δ=>match G1 δ with
 | some (.nx δ')=>G2 δ'
 | r=>r
@[simp] def p6:GS:=fun δ=>some (.nx δ)
@[simp] def d8(g:GE):GS:=fun δ=>(g δ).map .rt
@[simp] def gN(i:Nat):D->Ds->Option Ds:=λd δ=>some (δ.set i (.sh d))
@[simp] def j4(f:D->Ds->Option Ds)(g:GE):GS:=fun δ=>(g δ).bind λd=>(f d δ).map .nx
@[simp] def ifD(gt:GB)(Ga Gb:GS):GS:=fun δ=>(gt δ).bind λt=>if t=true then Ga δ else Gb δ
def M4(f:D->Ds->Option Ds)(G:GS):List D->Ds->Option Res
 | [],δ=>some (.nx δ)
 | d::ds,δ=>match (f d δ).bind G with
  | some (.nx δ')=>M4 f G ds δ'
  | some (.ct δ')=>M4 f G ds δ'
  | some (.bk δ')=>some (.nx δ')
  | r=>r
@[simp] def z60(gi:GA)(f:D->Ds->Option Ds)(G:GS):GS:=fun δ=>(gi δ).bind λitems=>M4 f G items δ
@[simp] def sv0:D->Option (List D)
 | .lst ds=>some ds
 | _=>none
@[simp] def oe0:D->Option (List D)
 | .tup ds=>some ds
 | _=>none
@[simp] def zp0(g:GE):GA:=fun δ=>(g δ).bind sv0
@[simp] def tupI(g:GE):GA:=fun δ=>(g δ).bind oe0
def S5(lo hi:Int):List D:=(List.range (hi - lo).toNat).map λk=>.int (lo+(k:Nat))
@[simp] def jz0(ds:List D):Option (List D):=match ds with
 | [.int j]=>if -(2 ^ 62)<=j/\j<2 ^ 62 then some (S5 0 j) else none
 | _=>none
@[simp] def cc0(ds:List D):Option (List D):=match ds with
 | [.int i,.int j]=>if (-(2 ^ 62)<=i/\i<2 ^ 62)/\-(2 ^ 62)<=j/\j<2 ^ 62 then some (S5 i j) else none
 | _=>none
@[simp] def G6(gA:GA):GA:=fun δ=>(gA δ).bind jz0
@[simp] def j90(gA:GA):GA:=fun δ=>(gA δ).bind cc0
@[simp] def noT:GB:=λ_=>some true
@[simp] def om0:Option Sl->Sl
 | some (.sh d)=>.sh d
 | _=>.un
@[simp] def zv0(n:Nat)(caps:List Nat)(δ:Ds):Ds:=List.replicate n .un++caps.map λj=>om0 δ[j]?
def V2(f:D->Ds->Option Ds)(gt:GB)(ge:GE)(δ:Ds):List D->Option (List D)
 | []=>some []
 | d::ds=>match f d δ with
  | none=>none
  | some δ'=>match gt δ' with
   | none=>none
   | some false=>V2 f gt ge δ ds
   | some true=>match ge δ' with
    | none=>none
    | some y=>(V2 f gt ge δ ds).map λr=>y::r
@[simp] def W3(n:Nat)(caps:List Nat)(gi:GA)(f:D->Ds->Option Ds)(gt:GB)(ge:GE):GE :=
 fun δ=>(gi δ).bind λitems=>if items.length<=sizeLine then (V2 f gt ge (zv0 n caps δ) items).map .lst else none
@[simp] def Z4(N:List Str)(ds:List D):Ds:=ds.map .sh++List.replicate (N.length - ds.length) .un
@[simp] def isInt:D->Bool
 | .int _=>true|.bl _=>true|_=>false
@[simp] def isStr:D->Bool
 | .str _=>true|_=>false
@[simp] def isBool:D->Bool
 | .bl _=>true|_=>false
@[simp] def isTup:D->Bool
 | .tup _=>true|_=>false
@[simp] def ii(f:Int->Int->Option D):D->D->Option D
 | .int i,.int j=>f i j
 | _,_=>none
@[simp] def d10:D->D->Option D:=ii λi j=>some (.int (i - j))
@[simp] def X4:D->D->Option D:=ii λi j=>if 0<j/\j<1073741824 then some (.int (i/j)) else none
@[simp] def d9:D->D->Option D:=ii λi j=>if 0<j then some (.int (i%j)) else none
@[simp] def mw0:D->D->Option D:=ii λi j=>if 0<=j/\j<=1000000/\i.natAbs<2 ^ 64 then some (.int (i ^ j.toNat)) else none
@[simp] def ltD:D->D->Option D:=ii λi j=>some (.bl (decide (i<j)))
@[simp] def gtD:D->D->Option D:=ii λi j=>some (.bl (decide (j<i)))
@[simp] def geD:D->D->Option D:=ii λi j=>some (.bl (decide (j<=i)))
@[simp] def eqS:D->D->Option Bool
 | .non,.non=>some true
 | .non,.int _=>some false|.int _,.non=>some false|.non,.bl _=>some false|.bl _,.non=>some false|.non,.str _=>some false|.str _,.non=>some false
 | .int i,.int j=>some (decide (i=j))
 | .bl i,.bl j=>some (decide (i=j))
 | .str i,.str j=>some (decide (i=j))
 | .int _,.str _=>some false|.str _,.int _=>some false|.bl _,.str _=>some false|.str _,.bl _=>some false
 | _,_=>none
@[simp] def eqD(x y:D):Option D:=(eqS x y).map .bl
@[simp] def Wl0:D->Bool
 | .non=>true|_=>false
@[simp] def sb0(x y:D):Option D:=match y with
 | .non=>some (.bl (Wl0 x))
 | _=>none
def ixN(n:Nat)(i:Int):Option Nat:=if 0<=i then (if i<n then some i.toNat else none) else if -(n:Int)<=i then some (i+n).toNat else none
def atI{α:Type}(xs:List α)(i:Int):Option α:=(ixN xs.length i).bind λj=>xs[j]?
@[simp] def ixD:D->D->Option D
 | .lst xs,.int i=>atI xs i
 | .tup xs,.int i=>atI xs i
 | .str z,.int i=>if z.length<=sizeLine then (atI z.cps.toList i).map λc=>.str ⟨#[c]⟩ else none
 | _,_=>none
def sIx(n d:Nat):Option Int->Nat
 | none=>d
 | some v=>if v<0 then (v+(n:Int)).toNat else min v.toNat n
def cutD(xs:List D)(lo hi:Option Int):List D:=(xs.drop (sIx xs.length 0 lo)).take (sIx xs.length xs.length hi - sIx xs.length 0 lo)
abbrev GO:=Ds->Option (Option Int)
@[simp] def O3:GO:=λ_=>some none
@[simp] def someO(g:GE):GO:=fun δ=>(g δ).bind λd=>(asI d).map some
@[simp] def Z5:List D->Option D
 | [.str z]=>if z.length<=sizeLine then some (.int z.length) else none
 | [.lst xs]=>some (.int xs.length)
 | [.tup xs]=>some (.int xs.length)
 | _=>none
def ue0:List D->Option (List Str)
 | []=>some []
 | .str b::ds=>(ue0 ds).map λr=>b::r
 | _=>none
@[simp] def o90(d:D)(ds:List D):Option D:=match d,ds with
 | .str sep,[.lst xs]=>(ue0 xs).bind λys=>if (ys.map (·.length)).sum+ys.length*sep.length<=16777216 then some (.str (Txt.join sep ys)) else none
 | _,_=>none
@[simp] def ta0(g:GE)(gA:GA):GE:=fun δ=>(g δ).bind λd=>(gA δ).bind λds=>o90 d ds
@[simp] def J6:List D->Option D
 | [.lst ds]=>some (.tup ds)
 | [.tup ds]=>some (.tup ds)
 | _=>none
theorem uu0{f:D->Ds->Option Ds}{gt:GB}{ge:GE}(p:D->Bool)(h:D->D):∀{items:List D},(∀d∈items,∃δ',f d δ=some δ'/\gt δ'=some (p d)/\(p d=true->ge δ'=some (h d))) ->
  V2 f gt ge δ items=some ((items.filter p).map h)
 | [],_=>rfl
 | d::ds,H=>by
  obtain⟨δ',e1,e2,e3⟩:=H d A5;have ih:=uu0 p h λd hd=>H d (A7 _ hd)
  unfold V2;rw[e1];dsimp only;rw[e2];cases hp:p d with
  | false =>
   dsimp only;rw[List.filter_cons_of_neg (by simp[hp])];exact ih
  | true =>
   dsimp only;rw[e3 hp,ih,List.filter_cons_of_pos hp];rfl
theorem O5{f:D->Ds->Option Ds}{gt:GB}{ge:GE}(h:D->D){items:List D}(H:∀d∈items,∃δ',f d δ=some δ'/\gt δ'=some true/\ge δ'=some (h d)):V2 f gt ge δ items=some (items.map h):=by
 have:=uu0 (f:=f) (gt:=gt) (ge:=ge) (δ:=δ) (λ_=>true) h (items:=items) λd hd=>by
  obtain⟨δ',a,b,c⟩:=H d hd;exact⟨δ',a,b,λ_=>c⟩
 rw[List.filter_eq_self.mpr (by simp)] at this;exact this
theorem strs_map(h:α->Str):∀l:List α,ue0 (l.map λa=>.str (h a))=some (l.map h)
 | []=>rfl
 | a::l=>by
  show (ue0 (l.map λa=>.str (h a))).map (λr=>h a::r)=_;rw[strs_map h l];rfl
theorem zc0{f:D->Ds->Option Ds}{G:GS}(P:Nat->Ds->Prop):∀(items:List D) (i:Nat) (δ:Ds),(∀j d δ,items[j]?=some d->P (i+j) δ->∃δ1 δ2,f d δ=some δ1/\G δ1=some (.nx δ2)/\P (i+j+1) δ2)->P i δ ->
  ∃δ',M4 f G items δ=some (.nx δ')/\P (i+items.length) δ'
 | [],i,δ,_,h=>⟨δ,rfl,h⟩
 | d::ds,i,δ,H,h=>by
  obtain⟨δ1,δ2,e1,e2,h2⟩:=H 0 d δ rfl h;obtain⟨δ',e3,h3⟩:=zc0 P ds (i+1) δ2 (λj d δ hj hp=>by
   have q:i+(j+1)=i+1+j:=by omega
   obtain⟨a,b,c,d',e⟩:=H (j+1) d δ (by simpa using hj) (by rw[q];exact hp);exact⟨a,b,c,d',by rw[q] at e;exact e⟩) h2
  have q:i+(d::ds).length=i+1+ds.length:=by rw[List.length_cons];omega
  refine⟨δ',?_,by rw[q];exact h3⟩;unfold M4;rw[e1];simp only[Option.bind_some,e2];exact e3
theorem Y90{G1 G2:GS}(h:G1 δ=some (.nx δ')):v8 G1 G2 δ=G2 δ':=by unfold v8;rw[h]
theorem m9{G1 G2:GS}{d:D}(h:G1 δ=some (.rt d)):v8 G1 G2 δ=some (.rt d):=by unfold v8;rw[h]
theorem X8{g:GE}{d:D}(h:g δ=some d):d8 g δ=some (.rt d):=by unfold d8;rw[h];rfl
theorem j8{g:GE}{d:D}(h:g δ=some d):j4 (gN i) g δ=some (.nx (δ.set i (.sh d))):=by unfold j4;rw[h];rfl
theorem N6{g:GB}{Ga Gb:GS}(h:g δ=some true):ifD g Ga Gb δ=Ga δ:=by unfold ifD;rw[h];rfl
theorem Z6{g:GB}{Ga Gb:GS}(h:g δ=some false):ifD g Ga Gb δ=Gb δ:=by unfold ifD;rw[h];rfl
theorem U0{gi:GA}{f:D->Ds->Option Ds}{gt:GB}{ge:GE}{items out:List D}(h1:gi δ=some items)(h2:items.length<=sizeLine)(h3:V2 f gt ge (zv0 n caps δ) items=some out):W3 n caps gi f gt ge δ=some (.lst out):=by
 unfold W3;rw[h1];show (if items.length<=sizeLine then (V2 f gt ge (zv0 n caps δ) items).map D.lst else none)=_;rw[if_pos h2,h3];rfl
theorem zd0{gi:GA}{f:D->Ds->Option Ds}{G:GS}{items:List D}{r:Option Res}(h1:gi δ=some items)(h2:M4 f G items δ=r):z60 gi f G δ=r:=by
 unfold z60;rw[h1];exact h2
theorem cons_of{g:GE}{gA:GA}{d:D}(h1:g δ=some d)(h2:gA δ=some ds):z9 g gA δ=some (d::ds):=by unfold z9;rw[h1,h2];rfl
theorem o6{gA:GA}{f:List D->Option D}(h:gA δ=some ds):oA gA f δ=f ds:=by unfold oA;rw[h];rfl
theorem p7{ga gb:GE}{x y:D}{f:D->D->Option D}(h1:ga δ=some x)(h2:gb δ=some y):o2 ga gb f δ=f x y:=by unfold o2;rw[h1,h2];rfl
theorem ap0{g:GE}{gA:GA}{x:D}(h1:g δ=some x)(h2:gA δ=some ds):ta0 g gA δ=o90 x ds:=by unfold ta0;rw[h1,h2];rfl
theorem w60{f:D->Ds->Option Ds}{G:GS}{d:D}{δ1 δ2:Ds}(h1:f d δ=some δ1)(h2:G δ1=some (.nx δ2)):M4 f G (d::ds) δ=M4 f G ds δ2:=by
 conv=>lhs;unfold M4
 rw[h1];simp only[Option.bind_some,h2]
theorem yi0{xs:List α}{i:Int}(h0:0<=i)(h1:i<xs.length)(d:α):atI xs i=some (xs.getD i.toNat d):=by
 unfold atI ixN;rw[if_pos h0,if_pos h1];show xs[i.toNat]?=_;have:i.toNat<xs.length:=by omega
 simp[List.getD_eq_getElem?_getD,this]
end DL
variable{g ge gb:DL.Ds->Option DL.D}{l ds:List DL.D}{gt:DL.Ds->Option Bool}{δ δ':DL.Ds}{G:DL.Ds->Option DL.Res}{gi gA:DL.Ds->Option (List DL.D)}{g0:DL.GE}
namespace DL
open Spec PyProof.Rows L2
abbrev BS:=Addr->Prop
abbrev St:=L2.St
variable{B B' B₀:DL.BS}
abbrev noH:Hp:=λ_=>none
structure NB(o:Option HO):Prop where
 ne:o≠none
 nf:∀ob u,o≠some (.frz ob u)
 nt:∀xs,o≠some (.tup xs)
instance{o:Option HO}:CoeFun (NB o) (λ_=>o=none->False):=⟨λh e=>h.ne e⟩
theorem NB.of{o:Option HO}{u:HO}(h:o=some u)(n:∀ob u',u≠.frz ob u')(t:∀xs,u≠.tup xs):NB o:=by
 subst h;exact⟨λz=>(by cases z),λob u' z=>n ob u' (B3 z),λxs z=>t xs (B3 z)⟩
theorem NB.same(q:Same H H')(h:NB (H a)):NB (H' a):=by
 cases e:H a with
 | none=>exact absurd e h.ne
 | some o=>exact .of (q a o e) (λob u z=>h.nf ob u (by rw[e,z])) λxs z=>h.nt xs (by rw[e,z])
def SqT'(K:W.Frag)(H:Hp)(B:BS)(a:Addr)(xs:List V):Prop:=¬B a/\H a=some (.tup xs)
def SqL'(K:W.Frag)(H:Hp)(B:BS)(a:Addr)(xs:List V):Prop:=(¬B a/\Rd H a (.lst xs))∨SqL K noH a xs
section
variable{xs:List V}
theorem V90{u:HO}(h:Rd noH a u):False:=by
 rcases h with h|⟨o,h⟩<;>cases h
theorem SqT'.to(h:SqT' K H B a xs):SqT K H a xs:=.inl (.inl h.2)
theorem SqL'.to(h:SqL' K H B a xs):SqL K H a xs:=by
 rcases h with h|h|h
 ·exact .inl h.2
 ·exact(V90 h).elim
 ·exact .inr h
def Gr(H H':Hp)(B B':BS):Prop:=∀b o,¬B b->H b=some o->¬B' b/\H' b=some o
theorem SqT'.mono(g:Gr H H' B B')(h:SqT' K H B a xs):SqT' K H' B' a xs:=g _ _ h.1 h.2
theorem SqL'.mono(g:Gr H H' B B')(h:SqL' K H B a xs):SqL' K H' B' a xs:=by
 rcases h with⟨n,h|⟨o,h⟩⟩|h
 ·exact .inl ⟨(g _ _ n h).1,.inl (g _ _ n h).2⟩
 ·exact .inl ⟨(g _ _ n h).1,.inr ⟨o,(g _ _ n h).2⟩⟩
 ·exact .inr h
theorem Gr.same(s:Same H H'):Gr H H' B B:=λb o n h=>⟨n,s b o h⟩
theorem Gr.less(h:∀a,B' a->B a):Gr H H B B':=λb o n e=>⟨λz=>n (h b z),e⟩
end
abbrev KS:=Sum (List Key) (List (List Key))
def dOb:KS->List V->HO
 | .inl ks,xs=>.dK (ks.zip xs)
 | .inr ks,xs=>.dT (ks.zip xs)
def dLn:KS->Nat
 | .inl ks=>ks.length
 | .inr ks=>ks.length
def Wp0(fd:FuncData)(x y:Str)(c cd:Addr):Prop :=
 ∃p1 p2 p3,fd.body=.expr (.Subscript (.Name x p1) (.Name y p2) p3)/\fd.scope.isCoroutine=false/\fd.scope.isGenerator=false/\fd.scope.kind=.function/\fd.scope.names.lookup y=some .local/\fd.scope.names.lookup x=some .free /\
  (∀z∈fd.scope.names,z.2≠.cell)/\fd.closure=[(x,c)]/\fd.code=.ref cd/\fd.globals=mainGlobals/\(x==("__debug__" : Str))=false/\(x==("__classdict__" : Str))=false/\(y==("__debug__" : Str))=false /\
  ∀u:Value,bindArgs fd ⟨[u],[]⟩=pure [(y,u)]
def rk(n:Nat):List Key:=(List.range n).map λ(i:Nat)=>Sum.inl (i:Int)
def TelO(K:W.Frag)(H:Hp)(B:BS)(p:Addr)(kvs:List (Key×V)):Prop:=(¬B p/\H p=some (.dK kvs))∨∃xs,SqL' K H B p xs/\kvs=(rk xs.length).zip xs
theorem TelO.mono{p:Addr}{kvs:List (Key×V)}(g:Gr H H' B B')(h:TelO K H B p kvs):TelO K H' B' p kvs:=by
 rcases h with h|⟨xs,h,e⟩
 ·exact .inl (g _ _ h.1 h.2)
 ·exact .inr ⟨xs,h.mono g,e⟩
def FnAtH(K:W.Frag)(H:Hp)(B:BS)(f:Addr)(kvs:List (Key×V)):Prop :=
 ∃(oF oC oK:Obj) (fd:FuncData) (c cd p:Addr) (x y:Str),(¬B f/\H f=some (.frz oF (.own f)))/\(oF.cls=.type "function"/\oF.data=.func fd/\Wp0 fd x y c cd)/\(¬B c/\H c=some (.frz oC (.own c)))/\oC.data=.cell (some (.ref p)) /\
  (¬B cd/\H cd=some (.frz oK (.own cd)))/\(∃vs t,oK.data=.fields vs/\vs[1]?=some (.str fd.qualname t))/\TelO K H B p kvs
theorem FnAtH.mono{f:Addr}{kvs:List (Key×V)}(g:Gr H H' B B')(h:FnAtH K H B f kvs):FnAtH K H' B' f kvs:=by
 obtain⟨oF,oC,oK,fd,c,cd,p,x,y,⟨b1,h1⟩,a,⟨b2,h2⟩,e,⟨b3,h3⟩,q,h4⟩:=h;exact⟨oF,oC,oK,fd,c,cd,p,x,y,g _ _ b1 h1,a,g _ _ b2 h2,e,g _ _ b3 h3,q,h4.mono g⟩
mutual
def Rp(K:W.Frag)(H:Hp)(B:BS):D->V->Prop
 | .non,v=>v=.non
 | .bl b,v=>v=.bl b
 | .int i,v=>v=.int i
 | .str x,v=>v=.str x
 | .tup ds,v=>∃a xs,v=.ref a/\SqT' K H B a xs/\Rps K H B ds xs
 | .lst ds,v=>∃a xs,v=.ref a/\SqL' K H B a xs/\Rps K H B ds xs
 | .dct ks ds,v=>∃a xs,v=.ref a/\¬B a/\H a=some (dOb ks xs)/\dLn ks=xs.length/\Rps K H B ds xs
 | .fn ks ds,v=>∃a xs,v=.ref a/\FnAtH K H B a (ks.zip xs)/\ks.length=xs.length/\Rps K H B ds xs
def Rps(K:W.Frag)(H:Hp)(B:BS):List D->List V->Prop
 | [],xs=>xs=[]
 | d::ds,xs=>∃x r,xs=x::r/\Rp K H B d x/\Rps K H B ds r
end
mutual
theorem Rp.mono(g:Gr H H' B B'):∀{d:D} {v:V},Rp K H B d v->Rp K H' B' d v
 | .non,_,h=>by unfold Rp at h ⊢;exact h
 | .bl _,_,h=>by unfold Rp at h ⊢;exact h
 | .int _,_,h=>by unfold Rp at h ⊢;exact h
 | .str _,_,h=>by unfold Rp at h ⊢;exact h
 | .tup ds,_,h=>by
  unfold Rp at h ⊢;obtain⟨a,xs,e,q,r⟩:=h;exact⟨a,xs,e,q.mono g,Rps.mono g r⟩
 | .lst ds,_,h=>by
  unfold Rp at h ⊢;obtain⟨a,xs,e,q,r⟩:=h;exact⟨a,xs,e,q.mono g,Rps.mono g r⟩
 | .dct ks ds,_,h=>by
  unfold Rp at h ⊢;obtain⟨a,xs,e,n,q,l,r⟩:=h;exact⟨a,xs,e,(g _ _ n q).1,(g _ _ n q).2,l,Rps.mono g r⟩
 | .fn ks ds,_,h=>by
  unfold Rp at h ⊢;obtain⟨a,xs,e,q,l,r⟩:=h;exact⟨a,xs,e,q.mono g,l,Rps.mono g r⟩
theorem Rps.mono(g:Gr H H' B B'):∀{ds:List D} {xs:List V},Rps K H B ds xs->Rps K H' B' ds xs
 | [],_,h=>by unfold Rps at h ⊢;exact h
 | d::ds,_,h=>by
  unfold Rps at h ⊢;obtain⟨x,r,e,h1,h2⟩:=h;exact⟨x,r,e,Rp.mono g h1,Rps.mono g h2⟩
end
section
variable{v:V}
theorem W0:Rp K H B .non v=(v=.non):=by unfold Rp;rfl
theorem Z8{b:Bool}:Rp K H B (.bl b) v=(v=.bl b):=by unfold Rp;rfl
theorem o8{i:Int}:Rp K H B (.int i) v=(v=.int i):=by unfold Rp;rfl
theorem Z9:Rp K H B (.str x) v=(v=.str x):=by unfold Rp;rfl
theorem Y9:Rp K H B (.tup ds) v=∃a xs,v=.ref a/\SqT' K H B a xs/\Rps K H B ds xs:=by conv=>lhs;unfold Rp
theorem Y6:Rp K H B (.lst ds) v=∃a xs,v=.ref a/\SqL' K H B a xs/\Rps K H B ds xs:=by conv=>lhs;unfold Rp
theorem xu0{ks:KS}:Rp K H B (.dct ks ds) v=∃a xs,v=.ref a/\¬B a/\H a=some (dOb ks xs)/\dLn ks=xs.length/\Rps K H B ds xs:=by conv=>lhs;unfold Rp
theorem jp0:Rp K H B (.fn ks ds) v=∃a xs,v=.ref a/\FnAtH K H B a (ks.zip xs)/\ks.length=xs.length/\Rps K H B ds xs:=by conv=>lhs;unfold Rp
theorem su0:Rp K H B (.dct (.inl ks) ds) v=∃a xs,v=.ref a/\¬B a/\H a=some (.dK (ks.zip xs))/\ks.length=xs.length/\Rps K H B ds xs:=xu0
theorem q60{ks:List (List Key)}:Rp K H B (.dct (.inr ks) ds) v=∃a xs,v=.ref a/\¬B a/\H a=some (.dT (ks.zip xs))/\ks.length=xs.length/\Rps K H B ds xs:=xu0
theorem o7{xs:List V}:Rps K H B [] xs=(xs=[]):=by unfold Rps;rfl
theorem o4{d:D}{xs:List V}:Rps K H B (d::ds) xs=∃x r,xs=x::r/\Rp K H B d x/\Rps K H B ds r:=by conv=>lhs;unfold Rps
theorem Rps.length:∀{ds:List D} {xs:List V},Rps K H B ds xs->xs.length=ds.length
 | [],_,h=>by rw[o7] at h;subst h;rfl
 | d::ds,_,h=>by
  rw[o4] at h;obtain⟨x,r,rfl,_,h2⟩:=h;simp[Rps.length h2]
theorem Rps.get:∀{ds:List D} {xs:List V} {i:Nat} {d:D},Rps K H B ds xs->ds[i]?=some d->∃x,xs[i]?=some x/\Rp K H B d x
 | [],_,_,_,_,e=>by simp at e
 | d::ds,_,0,d',h,e=>by
  rw[o4] at h;obtain⟨x,r,rfl,h1,_⟩:=h;simp at e;subst e;exact⟨x,rfl,h1⟩
 | d::ds,_,i+1,d',h,e=>by
  rw[o4] at h;obtain⟨x,r,rfl,_,h2⟩:=h;obtain⟨y,e1,e2⟩:=Rps.get (i:=i) h2 (by simpa using e);exact⟨y,by simpa using e1,e2⟩
theorem Rps.snoc:∀{ds:List D} {xs:List V} {d:D} {x:V},Rps K H B ds xs->Rp K H B d x->Rps K H B (ds++[d]) (xs++[x])
 | [],_,_,_,h,r=>by
  rw[o7] at h;subst h;rw[List.nil_append,List.nil_append,o4];exact⟨_,[],rfl,r,by rw[o7]⟩
 | d::ds,_,_,_,h,r=>by
  rw[o4] at h;obtain⟨y,t,rfl,h1,h2⟩:=h;rw[List.cons_append,List.cons_append,o4];exact⟨y,_,rfl,h1,Rps.snoc h2 r⟩
theorem Rps.append:∀{ds es:List D} {xs ys:List V},Rps K H B ds xs->Rps K H B es ys->Rps K H B (ds++es) (xs++ys)
 | [],_,_,_,h,r=>by rw[o7] at h;subst h;exact r
 | d::ds,_,_,_,h,r=>by
  rw[o4] at h;obtain⟨y,t,rfl,h1,h2⟩:=h;rw[List.cons_append,List.cons_append,o4];exact⟨y,_,rfl,h1,Rps.append h2 r⟩
theorem Rps.drop:∀{ds:List D} {xs:List V} (n:Nat),Rps K H B ds xs->Rps K H B (ds.drop n) (xs.drop n)
 | _,_,0,h=>h
 | [],_,n+1,h=>by rw[o7] at h;subst h;simpa [o7]
 | d::ds,_,n+1,h=>by
  rw[o4] at h;obtain⟨y,t,rfl,h1,h2⟩:=h
  simpa using Rps.drop n h2
theorem Rps.take:∀{ds:List D} {xs:List V} (n:Nat),Rps K H B ds xs->Rps K H B (ds.take n) (xs.take n)
 | _,_,0,h=>by simp[o7]
 | [],_,n+1,h=>by rw[o7] at h;subst h;simp[o7]
 | d::ds,_,n+1,h=>by
  rw[o4] at h;obtain⟨y,t,rfl,h1,h2⟩:=h;rw[List.take_succ_cons,List.take_succ_cons,o4];exact⟨y,_,rfl,h1,Rps.take n h2⟩
theorem Rps.same{xs:List V}(s:Same H H')(h:Rps K H B ds xs):Rps K H' B ds xs:=Rps.mono (Gr.same s) h
theorem Rp.same{d:D}{v:V}(s:Same H H')(h:Rp K H B d v):Rp K H' B d v:=Rp.mono (Gr.same s) h
end
def RpO(K:W.Frag)(H:Hp)(B:BS)(d:D)(a:Addr):Prop:=match d with
 | .lst ds=>∃xs,H a=some (.lst xs)/\Rps K H B ds xs
 | .dct ks ds=>∃xs,H a=some (dOb ks xs)/\dLn ks=xs.length/\Rps K H B ds xs
 | _=>False
theorem RpO.same{d:D}(s:Same H H')(h:RpO K H B d a):RpO K H' B d a:=by
 cases d<;>try exact h.elim
 ·obtain⟨xs,e,r⟩:=h;exact⟨xs,s _ _ e,r.same s⟩
 ·obtain⟨xs,e,l,r⟩:=h;exact⟨xs,s _ _ e,l,r.same s⟩
theorem RpO.rp{d:D}(l:∀a,B' a->B a)(n:¬B' a)(h:RpO K H B d a):Rp K H B' d (.ref a):=by
 cases d<;>try exact h.elim
 ·obtain⟨xs,e,r⟩:=h
  rw[Y6];exact⟨a,xs,rfl,.inl ⟨n,.inl e⟩,r.mono (Gr.less l)⟩
 ·obtain⟨xs,e,q,r⟩:=h
  rw[xu0];exact⟨a,xs,rfl,n,e,q,r.mono (Gr.less l)⟩
theorem RpO.live{d:D}(h:RpO K H B d a):NB (H a):=by
 cases d<;>try exact h.elim
 ·obtain⟨xs,e,r⟩:=h;exact .of e (λ_ _=>λz=>nomatch z) λ_=>λz=>nomatch z
 ·obtain⟨xs,e,q,r⟩:=h;refine .of e (λ_ _ z=>?_) λ_ z=>?_<;>(unfold dOb at z;split at z<;>cases z)
def RpL(K:W.Frag)(H:Hp)(B:BS)(d:D)(a:Addr):Prop:=match d with
 | .tup es=>∃ds,es=[.int (a:Int),.lst ds]/\∃xs,H a=some (.lst xs)/\Rps K H B ds xs
 | d=>RpO K H B d a
theorem RpO.toL{d:D}(h:RpO K H B d a):RpL K H B d a:=by
 cases d with
 | tup es=>exact(show False from h).elim
 | _=>exact h
theorem RpL.toO{d:D}(n:isL d=false)(h:RpL K H B d a):RpO K H B d a:=by
 cases d with
 | tup es=>cases n
 | _=>exact h
theorem RpL.same{d:D}(s:Same H H')(h:RpL K H B d a):RpL K H' B d a:=by
 cases d with
 | tup es=>obtain⟨ds,q,xs,e,r⟩:=h;exact⟨ds,q,xs,s _ _ e,r.same s⟩
 | _=>exact(RpO.same s (RpL.toO rfl h)).toL
theorem RpL.rp{d:D}(l:∀a,B' a->B a)(n:¬B' a)(h:RpL K H B d a):Rp K H B' (unl d) (.ref a):=by
 cases d with
 | tup es=>obtain⟨ds,rfl,xs,e,r⟩:=h;exact RpO.rp (d:=.lst ds) l n ⟨xs,e,r⟩
 | _=>exact RpO.rp l n (RpL.toO rfl h)
theorem RpL.live{d:D}(h:RpL K H B d a):NB (H a):=by
 cases d with
 | tup es=>obtain⟨ds,q,xs,e,r⟩:=h;exact .of e (λ_ _=>λz=>nomatch z) λ_=>λz=>nomatch z
 | _=>exact RpO.live (RpL.toO rfl h)
def Vp0(a C:Addr)(od:Option Addr):Heap->Prop:=λh=>∃oe,h.get? a=some oe/\oe.cls=.ref C/\(∀dx,od=some dx->oe.dict=some dx)/\∃vs,oe.data=.fields vs
def U40(H:Hp)(B:BS)(od:Option Addr):Option Int->Prop
 | none=>True
 | some n=>∃dx,od=some dx/\¬B dx/\H dx=some (.xd [("at",.int n)])
def XcR(K:W.Frag)(H:Hp)(B:BS)(c:Str)(n:Option Int)(a:Addr):Prop:=∃C od,¬B a/\H a=some (.ext (Vp0 a C od))/\W.nsIn K mainGlobals c=some (some (.ref C))/\U40 H B od n
theorem XcR.mono{c:Str}{n:Option Int}(g:Gr H H' B B')(h:XcR K H B c n a):XcR K H' B' c n a:=by
 obtain⟨C,od,h1,h2,h3,h4⟩:=h;refine⟨C,od,(g _ _ h1 h2).1,(g _ _ h1 h2).2,h3,?_⟩;cases n with
 | none=>trivial
 | some n=>obtain⟨dx,e,q1,q2⟩:=h4;exact⟨dx,e,(g _ _ q1 q2).1,(g _ _ q1 q2).2⟩
def SlR(K:W.Frag)(H:Hp)(B:BS)(o:Option V):Sl->Prop
 | .un=>True
 | .sh d=>∃v,o=some v/\Rp K H B d v
 | .ow d=>∃a,o=some (.ref a)/\B a/\RpL K H B d a
 | .ex c n=>∃a,o=some (.ref a)/\XcR K H B c n a
theorem Pd.get{F:α->β->Prop}:∀{l:List α} {m:List β} {i:Nat} {b:β},Paired F l m->m[i]?=some b->∃a,l[i]?=some a/\F a b
 | _,_,_,_,.nil,e=>by simp at e
 | _,_,0,_,.cons r _,e=>by simp at e;subst e;exact⟨_,rfl,r⟩
 | _,_,i+1,b,.cons _ t,e=>by
  obtain⟨u,h1,h2⟩:=Pd.get (i:=i) (b:=b) t (by simpa using e);exact⟨u,by simpa using h1,h2⟩
theorem Pd.imp{F G:α->β->Prop}(h:∀a b,F a b->G a b):∀{l:List α} {m:List β},Paired F l m->Paired G l m
 | _,_,.nil=>.nil
 | _,_,.cons r t=>.cons (h _ _ r) (Pd.imp h t)
theorem Pd.set{F:α->β->Prop}{a:α}{b:β}(r:F a b):∀{l:List α} {m:List β} (i:Nat),Paired F l m->Paired F (l.set i a) (m.set i b)
 | _,_,_,.nil=>.nil
 | _,_,0,.cons _ t=>.cons r t
 | _,_,i+1,.cons q t=>.cons q (Pd.set r i t)
theorem Pd.app{F:α->β->Prop}:∀{l l':List α} {m m':List β},Paired F l m->Paired F l' m'->Paired F (l++l') (m++m')
 | _,_,_,_,.nil,s=>s
 | _,_,_,_,.cons r t,s=>.cons r (Pd.app t s)
structure Env(K:W.Frag)(H:Hp)(B:BS)(σ:St)(δ:Ds):Prop where
 all:Paired (SlR K H B) σ δ
 bad:∀a,B a->NB (H a)
 own:∀(i j:Nat) (a:Addr) (ds es:D),δ[i]?=some (.ow ds)->δ[j]?=some (.ow es)->σ[i]?=some (some (.ref a))->σ[j]?=some (some (.ref a))->i=j
section
variable{σ σ':St}
theorem SlR.same{o:Option V}{s:Sl}(q:Same H H')(h:SlR K H B o s):SlR K H' B o s:=by
 cases s with
 | un=>trivial
 | sh d=>obtain⟨v,e,r⟩:=h;exact⟨v,e,r.same q⟩
 | ow d=>obtain⟨a,e,b,r⟩:=h;exact⟨a,e,b,r.same q⟩
 | ex c n=>obtain⟨a,e,r⟩:=h;exact⟨a,e,r.mono (Gr.same q)⟩
theorem Env.same(q:Same H H')(e:Env K H B σ δ):Env K H' B σ δ :=
 ⟨Pd.imp (λ_ _ h=>h.same q) e.all,(λa b=>(e.bad a b).same q),e.own⟩
theorem Env.free(e:Env K H B σ δ){p:Addr}(h:H p=none):¬B p:=λz=>e.bad p z h
theorem Env.get(e:Env K H B σ δ){d:D}(h:δ[i]?=some (.sh d)):∃v,σ[i]?=some (some v)/\Rp K H B d v:=by
 obtain⟨o,h1,v,rfl,r⟩:=Pd.get e.all h;exact⟨v,h1,r⟩
theorem Env.set(e:Env K H B σ δ)(i:Nat){d:D}{v:V}(r:Rp K H B d v):Env K H B (σ.set i (some v)) (δ.set i (.sh d)):=by
 refine⟨Pd.set ⟨v,rfl,r⟩ i e.all,e.bad,λj k a ds es h1 h2 h3 h4=>?_⟩;have hj:j≠i:=by
  rintro rfl
  by_cases hl:j<δ.length
  ·rw[List.getElem?_set_self hl] at h1;cases h1
  ·rw[List.getElem?_eq_none (by simpa using hl)] at h1;cases h1
 have hk:k≠i:=by
  rintro rfl
  by_cases hl:k<δ.length
  ·rw[List.getElem?_set_self hl] at h2;cases h2
  ·rw[List.getElem?_eq_none (by simpa using hl)] at h2;cases h2
 rw[List.getElem?_set_ne (B7 hj)] at h1 h3;rw[List.getElem?_set_ne (B7 hk)] at h2 h4;exact e.own j k a ds es h1 h2 h3 h4
end
theorem Z1{p:Addr}{o:HO}(h:H p=none):Same H (upd H p o):=λb u e=>by rw[j7 (U6 e h)];exact e
def tD(K:W.Frag)(B:BS)(δ:Ds)(g:Ds->Option D):TE:=fun σ H Q=>∃d,Env K H B σ δ/\g δ=some d/\∀v H',Same H H'->Rp K H' B d v->Q v H'
structure PD(X:Cx)(e:Expr)(g:Ds->Option D):Prop where
 mk::go:∀B δ,PE X e (tD X.K B δ g)
instance{X:Cx}{e:Expr}{g:Ds->Option D}:CoeFun (PD X e g) (λ_=>∀B δ,PE X e (tD X.K B δ g)):=⟨PD.go⟩
def tDT(K:W.Frag)(B:BS)(δ:Ds)(g:Ds->Option Bool):TT:=fun σ H Q=>∃b,Env K H B σ δ/\g δ=some b/\∀H',Same H H'->Q b H'
structure PTD(X:Cx)(e:Expr)(g:Ds->Option Bool):Prop where
 mk::go:∀B δ,PT X e (tDT X.K B δ g)
instance{X:Cx}{e:Expr}{g:Ds->Option Bool}:CoeFun (PTD X e g) (λ_=>∀B δ,PT X e (tDT X.K B δ g)):=⟨PTD.go⟩
structure PWD(X:Cx)(e:Expr)(g:Ds->Option Bool):Prop where
 mk::go:∀B δ,PW X e (tDT X.K B δ g)
instance{X:Cx}{e:Expr}{g:Ds->Option Bool}:CoeFun (PWD X e g) (λ_=>∀B δ,PW X e (tDT X.K B δ g)):=⟨PWD.go⟩
def tDA(K:W.Frag)(B:BS)(δ:Ds)(g:Ds->Option (List D)):TA:=fun σ H Q=>∃ds,Env K H B σ δ/\g δ=some ds/\∀vs H',Same H H'->Rps K H' B ds vs->Q vs H'
structure PDA(X:Cx)(es:List Expr)(g:Ds->Option (List D)):Prop where
 mk::go:∀B δ,PA X es (tDA X.K B δ g)
instance{X:Cx}{es:List Expr}{g:Ds->Option (List D)}:CoeFun (PDA X es g) (λ_=>∀B δ,PA X es (tDA X.K B δ g)):=⟨PDA.go⟩
theorem he0{d:D}{b:Bool}(h:asB d=some b):d=.bl b:=by
 cases d<;>simp[asB] at h
 subst h;rfl
def Op2(K:W.Frag)(r:R2)(f:D->D->Option D):Prop:=∀(H:Hp) (B:BS) (x y:V) (dx dy d:D) (Q:VK),(∀a,B a->NB (H a))->Rp K H B dx x->Rp K H B dy y->f dx dy=some d->(∀v H',Same H H'->Rp K H' B d v->Q v H')->r x y H Q
def FnR(K:W.Frag)(r:List V->Hp->VK->Prop)(f:List D->Option D):Prop:=∀(H:Hp) (B:BS) (xs:List V) (ds:List D) (d:D) (Q:VK),(∀a,B a->NB (H a))->Rps K H B ds xs->f ds=some d->(∀v H',Same H H'->Rp K H' B d v->Q v H')->r xs H Q
section
variable{a:Expr}{ga:Ds->Option D}{gu:Ds->Option Bool}{rest:List Expr}
theorem _root_.L2.PE.imp{t t':TE}(h:PE X e t)(q:∀σ H Q,t' σ H Q->t σ H Q):PE X e t':=λpins s σ H Q I z=>h pins s σ H Q I (q σ H Q z)
theorem _root_.L2.PT.imp{t t':TT}(h:PT X e t)(q:∀σ H Q,t' σ H Q->t σ H Q):PT X e t':=λpins s σ H Q I z=>h pins s σ H Q I (q σ H Q z)
theorem _root_.L2.PW.imp{t t':TT}(h:PW X e t)(q:∀σ H Q,t' σ H Q->t σ H Q):PW X e t':=λw pins s σ H Q I z=>h w pins s σ H Q I (q σ H Q z)
theorem _root_.L2.PA.imp{t t':TA}(h:PA X es t)(q:∀σ H Q,t' σ H Q->t σ H Q):PA X es t':=λp pins s σ H Q I z=>h p pins s σ H Q I (q σ H Q z)
theorem Wj0{d:D}(h:gv i δ=some d):δ[i]?=some (.sh d):=by
 unfold gv at h;split at h
 ·cases h;assumption
 ·cases h
theorem w6(i:Nat)(hN:X.N[i]?=some x:=by rfl)(hv:Vis X.env.scope x:=by first|exact Or.inl rfl|exact Or.inr (Or.inl rfl)|exact Or.inr (Or.inr rfl))(hd:(x==("__debug__" : Str))=false:=by decide)
  (hcd:(x==("__classdict__" : Str))=false:=by decide):PD X (.Name x pos) (gv i):=.mk λB δ=>(yx0 (i:=i) hN hv hd hcd).imp fun σ H Q ⟨d,en,h,k⟩=>by
 obtain⟨v,e,r⟩:=en.get (Wj0 h);exact⟨v,e,k v H (Same.refl H) r⟩
theorem u6{i:Int}:PD X (.Constant (.int i) j pos) (gc (.int i)):=.mk λB δ=>Y70.imp fun σ H Q ⟨d,en,h,k⟩=>by cases h;exact k _ H (Same.refl H) (by rw[o8])
theorem t90{i:Bool}:PD X (.Constant (.bool i) j pos) (gc (.bl i)):=.mk λB δ=>V00.imp fun σ H Q ⟨d,en,h,k⟩=>by cases h;exact k _ H (Same.refl H) (by rw[Z8])
theorem J3:PD X (.Constant .none j pos) (gc .non):=.mk λB δ=>Xd0.imp fun σ H Q ⟨d,en,h,k⟩=>by cases h;exact k _ H (Same.refl H) (by rw[W0])
theorem Y4:PD X (.Constant (.str x) j pos) (gc (.str x)):=.mk λB δ=>Yl0.imp fun σ H Q ⟨d,en,h,k⟩=>by cases h;exact k _ H (Same.refl H) (by rw[Z9])
theorem bh0{i:Int}(hm:∃t,X.mg x=some (.int i t))(hg:Gl X x:=by rfl)(hd:(x==("__debug__" : Str))=false:=by decide):PD X (.Name x pos) (gc (.int i)):=.mk λB δ=>by
 obtain⟨t,hm⟩:=hm;exact(by0 (v:=.int i) hg hm ⟨t,rfl⟩ hd).imp fun σ H Q ⟨d,en,h,k⟩=>by cases h;exact k _ H (Same.refl H) (by rw[o8])
theorem si0{r:R2}{f:D->D->Option D}(hf:Op2 K r f){σ:St}{Q:VK}(h:tD K B δ (o2 ga gb f) σ H Q):tOp r (tD K B δ ga) (tD K B δ gb) σ H Q:=by
 obtain⟨d,en,h,k⟩:=h;unfold o2 at h;cases e1:ga δ with
 | none=>rw[e1] at h;cases h
 | some x =>
  cases e2:gb δ with
  | none=>rw[e1,e2] at h;cases h
  | some y =>
   rw[e1,e2] at h;refine⟨x,en,e1,λv1 H1 s1 r1=>⟨y,en.same s1,e2,λv2 H2 s2 r2=>?_⟩⟩;exact hf H2 B v1 v2 x y d Q ((en.same s1).same s2).bad (r1.same s2) r2 h λv H' s r=>k v H' ((s1.trans s2).trans s) r
theorem vu0{op:Operator}{r:R2}{f:D->D->Option D}(ho:OpR X (binaryOp op) r)(hf:Op2 X.K r f)(ha:PD X a ga)(hb:PD X b gb):PD X (.BinOp a op b pos) (o2 ga gb f):=.mk λB δ=>(Wq0 ho (ha B δ) (hb B δ)).imp fun σ H Q h=>si0 hf h
theorem yd0{op:CmpOp}{r:R2}{f:D->D->Option D}(ho:OpR X (compareOp op) r)(hf:Op2 X.K r f)(ha:PD X a ga)(hb:PD X b gb)(hm:behindInMarks op b=false:=by first|exact is0 _|with_unfolding_all rfl):PD X (.Compare a [op] [b] pos) (o2 ga gb f) :=
 .mk λB δ=>(bz0 ho (ha B δ) (hb B δ) hm).imp fun σ H Q h=>si0 hf h
theorem Wg0{r:R2}{f:D->D->Option D}(ho:IxR X r)(hf:Op2 X.K r f)(ha:PD X a ga)(hb:PD X b gb)(hs:qs0 b:=by exact λ_ _=>rfl):PD X (.Subscript a b pos) (o2 ga gb f) :=
 .mk λB δ=>(Wx0 ho (ha B δ) (hb B δ) hs).imp fun σ H Q h=>si0 hf h
theorem o9{op:CmpOp}{r:R2}{f:D->D->Option D}(ho:OpR X (compareOp op) r)(hf:Op2 X.K r f)(ha:PD X a ga)(hb:PD X b gb)(hm:behindInMarks op b=false:=by first|exact is0 _|with_unfolding_all rfl):PTD X (.Compare a [op] [b] pos) (ob (o2 ga gb f)) :=
 .mk λB δ=>(al0 ho (ha B δ) (hb B δ) hm).imp fun σ H Q ⟨t,en,h,k⟩=>by
  unfold ob at h;cases e:o2 ga gb f δ with
  | none=>rw[e] at h;cases h
  | some d =>
   rw[e] at h;cases he0 h;exact si0 hf ⟨_,en,e,λv H' s r=>⟨t,by rw[Z8] at r;exact r,k H' s⟩⟩
theorem zg0(h:PD X e g)(he:∀whole,isTrue e X.env whole=(do let v ← whole;standAt e.pos;holding [v] (truthy v)):=by intro _;rfl):PTD X e (ob g) :=
 .mk λB δ=>(Xp0 (h B δ) he).imp fun σ H Q ⟨t,en,h,k⟩=>by
  unfold ob at h;cases e:g δ with
  | none=>rw[e] at h;cases h
  | some d =>
   rw[e] at h;cases he0 h;exact⟨_,en,e,λv H' s r=>⟨t,by rw[Z8] at r;exact r,k H' s⟩⟩
theorem kk0(h:PTD X a gt):PTD X (.UnaryOp .Not a pos) (wg0 gt) :=
 .mk λB δ=>(Y30 (h B δ)).imp fun σ H Q ⟨t,en,h,k⟩=>by
  unfold wg0 at h;cases e:gt δ with
  | none=>rw[e] at h;cases h
  | some b =>
   rw[e] at h;cases h;exact⟨b,en,e,λH' s=>k H' s⟩
theorem vs0(h:PTD X a gt):PWD X (.BoolOp .And [a] pos) gt:=.mk λB δ=>ak0 (h B δ)
theorem ve0(h:PTD X a gt):PWD X (.BoolOp .Or [a] pos) gt:=.mk λB δ=>Yb0 (h B δ)
theorem t30(ha:PTD X a gt)(hb:PWD X (.BoolOp .And (b::rest) pos) gu):PWD X (.BoolOp .And (a::b::rest) pos) (K5 gt gu) :=
 .mk λB δ=>(Zh0 (ha B δ) (hb B δ)).imp fun σ H Q ⟨t,en,h,k⟩=>by
  unfold K5 at h;cases e:gt δ with
  | none=>rw[e] at h;cases h
  | some b =>
   rw[e] at h;refine⟨b,en,e,λH' s=>?_⟩;cases b with
   | true=>exact⟨t,en.same s,h,λF s'=>k F (s.trans s')⟩
   | false =>
    simp at h;subst h;rw[if_neg C1];exact k H' s
theorem va0(ha:PTD X a gt)(hb:PWD X (.BoolOp .Or (b::rest) pos) gu):PWD X (.BoolOp .Or (a::b::rest) pos) (xn0 gt gu) :=
 .mk λB δ=>(W80 (ha B δ) (hb B δ)).imp fun σ H Q ⟨t,en,h,k⟩=>by
  unfold xn0 at h;cases e:gt δ with
  | none=>rw[e] at h;cases h
  | some b =>
   rw[e] at h;refine⟨b,en,e,λH' s=>?_⟩;cases b with
   | false=>exact⟨t,en.same s,h,λF s'=>k F (s.trans s')⟩
   | true =>
    simp at h;subst h;rw[if_pos rfl];exact k H' s
theorem PWD.pt(h:PWD X e gt):PTD X e gt:=.mk λB δ=>(h B δ).pt
theorem v80{op}(h:PD X a g):PD X (.BoolOp op [a] pos) g:=.mk λB δ=>Zi0 (h B δ)
theorem xh0(ha:PD X a ga)(hb:PD X (.BoolOp .And (b::rest) pos) gb):PD X (.BoolOp .And (a::b::rest) pos) (yl0 ga gb) :=
 .mk λB δ=>(Yh0 (ha B δ) (hb B δ)).imp fun σ H Q ⟨d,en,h,k⟩=>by
  unfold yl0 ob at h;cases e:ga δ with
  | none=>rw[e] at h;cases h
  | some x =>
   rw[e] at h;refine⟨x,en,e,λv H' s r=>?_⟩;cases x with
   | bl c =>
    rw[Z8] at r;refine⟨c,r,?_⟩;cases c with
    | true=>exact⟨d,en.same s,h,λv F s'=>k v F (s.trans s')⟩
    | false =>
     simp[asB] at h;rw[if_neg C1];exact k _ H' s (by rw[← h,Z8])
   | _=>simp[asB] at h
theorem cj0(ha:PD X a ga)(hb:PD X (.BoolOp .Or (b::rest) pos) gb):PD X (.BoolOp .Or (a::b::rest) pos) (orG ga gb) :=
 .mk λB δ=>(Wa0 (ha B δ) (hb B δ)).imp fun σ H Q ⟨d,en,h,k⟩=>by
  unfold orG ob at h;cases e:ga δ with
  | none=>rw[e] at h;cases h
  | some x =>
   rw[e] at h;refine⟨x,en,e,λv H' s r=>?_⟩;cases x with
   | bl c =>
    rw[Z8] at r;refine⟨c,r,?_⟩;cases c with
    | false=>exact⟨d,en.same s,h,λv F s'=>k v F (s.trans s')⟩
    | true =>
     simp[asB] at h;rw[if_pos rfl];exact k _ H' s (by rw[← h,Z8])
   | _=>simp[asB] at h
theorem Yd0(ha:PD X a ga):PD X (.UnaryOp .Not a pos) (ew0 ga) :=
 .mk λB δ=>(Ys0 (ha B δ)).imp fun σ H Q ⟨d,en,h,k⟩=>by
  unfold ew0 ob at h;cases e:ga δ with
  | none=>rw[e] at h;cases h
  | some x =>
   rw[e] at h;refine⟨x,en,e,λv H' s r=>?_⟩;cases x with
   | bl c =>
    rw[Z8] at r;simp[asB] at h;exact⟨c,r,k _ H' s (by rw[← h,Z8])⟩
   | _=>simp[asB] at h
theorem dz0(hc:PTD X c gt)(ha:PD X a ga)(hb:PD X b gb):PD X (.IfExp c a b pos) (ifG gt ga gb) :=
 .mk λB δ=>(er0 (hc B δ) (ha B δ) (hb B δ)).imp fun σ H Q ⟨d,en,h,k⟩=>by
  unfold ifG at h;cases e:gt δ with
  | none=>rw[e] at h;cases h
  | some t =>
   rw[e] at h;refine⟨t,en,e,λH' s=>?_⟩;cases t with
   | true=>exact⟨d,en.same s,h,λv F s'=>k v F (s.trans s')⟩
   | false=>exact⟨d,en.same s,h,λv F s'=>k v F (s.trans s')⟩
theorem v7:PDA X [] v6:=.mk λB δ=>xg0.imp fun σ H Q ⟨ds,en,h,k⟩=>by cases h;exact k [] H (Same.refl H) (by rw[o7])
theorem v4(ha:PD X e g)(hr:PDA X es gA)(hs:starEach (e::es) X.env=(false,eval e X.env)::starEach es X.env:=by rfl):PDA X (e::es) (z9 g gA) :=
 .mk λB δ=>(zo0 (ha B δ) (hr B δ) hs).imp fun σ H Q ⟨ds,en,h,k⟩=>by
  unfold z9 at h;cases e1:g δ with
  | none=>rw[e1] at h;cases h
  | some d =>
   cases e2:gA δ with
   | none=>rw[e1,e2] at h;cases h
   | some es' =>
    rw[e1,e2] at h;cases h;refine⟨d,en,e1,λv H1 s1 r1=>⟨es',en.same s1,e2,λvs H2 s2 r2=>k _ H2 (s1.trans s2) ?_⟩⟩;rw[o4];exact⟨v,vs,rfl,r1.same s2,r2⟩
theorem W2{x1}(h:PDA X es gA):PD X (.Tuple es x1 pos) (Y7 gA) :=
 .mk λB δ=>(Zd0 (h B δ)).imp fun σ H Q ⟨d,en,h,k⟩=>by
  unfold Y7 at h;cases e1:gA δ with
  | none=>rw[e1] at h;cases h
  | some ds =>
   rw[e1] at h
   by_cases hl:ds.length<=sizeLine
   ·simp only[Option.bind_some,if_pos hl] at h
    cases h;refine⟨ds,en,e1,λvs H1 s1 r1=>⟨by rw[r1.length];exact hl,λp hp=>k _ _ (s1.trans (Z1 hp)) ?_⟩⟩;rw[Y9];exact⟨p,vs,rfl,⟨(en.same s1).free hp,m8⟩,r1.same (Z1 hp)⟩
   ·simp only[Option.bind_some,if_neg hl] at h
    cases h
theorem J5(h:PDA X es gA):PD X (.List es pos) (Y0 gA) :=
 .mk λB δ=>(f80 (h B δ)).imp fun σ H Q ⟨d,en,h,k⟩=>by
  unfold Y0 at h;cases e1:gA δ with
  | none=>rw[e1] at h;cases h
  | some ds =>
   rw[e1] at h
   by_cases hl:ds.length<=sizeLine
   ·simp only[Option.bind_some,if_pos hl] at h
    cases h;refine⟨ds,en,e1,λvs H1 s1 r1=>⟨by rw[r1.length];exact hl,λp hp=>k _ _ (s1.trans (Z1 hp)) ?_⟩⟩;rw[Y6];exact⟨p,vs,rfl,.inl ⟨(en.same s1).free hp,.inl m8⟩,r1.same (Z1 hp)⟩
   ·simp only[Option.bind_some,if_neg hl] at h
    cases h
theorem m80{r:List V->Hp->VK->Prop}{f:List D->Option D}(hf:FnR K r f){σ:St}{Q:VK}(h:tD K B δ (oA gA f) σ H Q):tCB r (tDA K B δ gA) σ H Q:=by
 obtain⟨d,en,h,k⟩:=h;unfold oA at h;cases e1:gA δ with
 | none=>rw[e1] at h;cases h
 | some ds =>
  rw[e1] at h;exact⟨ds,en,e1,λvs H1 s1 r1=>hf H1 B vs ds d Q (en.same s1).bad r1 h λv H' s r=>k v H' (s1.trans s) r⟩
theorem fy0{id:String}{p:Pos}{r:List V->Hp->VK->Prop}{f:List D->Option D}(hc:CallR X (.builtin id) r)(hf:FnR X.K r f)(hm:X.mg x=none)(hv:bootBuiltins x=some (.builtin id))(ha:PDA X (e::es) gA)(hg:Gl X x:=by rfl)
  (hn:x ≠"__name__" := by decide) (hdb:(x==("__debug__" : Str))=false:=by decide) (he:starEach (e::es) X.env=(false,eval e X.env)::starEach es X.env:=by rfl) (hpl:(backTo pos (starEach es X.env)).any (·.1)=false:=by rfl) :
  PD X (.Call (.Name x p) (e::es) [] pos) (oA gA f):=.mk λB δ=>(se0 hc hg hm hv (ha B δ) hn hdb he hpl).imp fun σ H Q h=>m80 hf h
theorem O4{T:String}{p:Pos}{r:List V->Hp->VK->Prop}{f:List D->Option D}(hc:CallR X (.type T) r)(hf:FnR X.K r f)(hm:X.mg x=none)(hv:bootBuiltins x=some (.type T))(ha:PDA X (e::es) gA)(hg:Gl X x:=by rfl)
  (hn:x ≠"__name__" := by decide) (hdb:(x==("__debug__" : Str))=false:=by decide) (he:starEach (e::es) X.env=(false,eval e X.env)::starEach es X.env:=by rfl) (hpl:(backTo pos (starEach es X.env)).any (·.1)=false:=by rfl) :
  PD X (.Call (.Name x p) (e::es) [] pos) (oA gA f):=.mk λB δ=>(wk0 hc hg hm hv (ha B δ) hn hdb he hpl).imp fun σ H Q h=>m80 hf h
def spD(K:W.Frag)(f:List D->Option D):Sp:=λvs H Q _=>∃(B:BS) (ds:List D) (d:D),(∀a,B a->NB (H a))/\Rps K H B ds vs/\f ds=some d/\∀v H',Same H H'->Rp K H' B d v->Q v H'
theorem b70{k:Nat}{ps:List Str}{p:Pos}{f:List D->Option D}(F:FnOk X.prog X.w X.K X.mg X.base CX0 k fa fd ps (spD X.K f))(hr:Room k X.A)(hm:X.mg x=some (.ref fa))(hk:W.keepIn X.K (.ref fa)=true)(hb:Binds X.K fd ps [])
  (ha:PDA X (e::es) gA) (hg:Gl X x:=by rfl) (hdb:(x==("__debug__" : Str))=false:=by decide) (he:starEach (e::es) X.env=(false,eval e X.env)::starEach es X.env:=by rfl) (hpl:(backTo pos (starEach es X.env)).any (·.1)=false:=by rfl) :
  PD X (.Call (.Name x p) (e::es) [] pos) (oA gA f):=.mk λB δ=>(k70 (E:=E0) F hr hg hm hk hb .nil du0 (ha B δ) hdb he hpl).imp fun σ H Q h=>by
 obtain⟨d,en,h,k⟩:=h;unfold oA at h;cases e1:gA δ with
 | none=>rw[e1] at h;cases h
 | some ds =>
  rw[e1] at h;refine⟨ds,en,e1,λvs H1 s1 r1=>?_⟩;show spD X.K f (vs++[]) H1 Q E0;rw[List.append_nil];exact⟨B,ds,d,(en.same s1).bad,r1,h,λv H' s r=>k v H' (s1.trans s) r⟩
end
end DL
variable{B B' B₀:DL.BS}
namespace DL
open Spec PyProof.Rows L2
structure EnvS(K:W.Frag)(H₀:Hp)(B₀:BS)(H:Hp)(σ:St)(δ:Ds):Prop where
 same:Same H₀ H
 ex:∃B:BS,(∀a,B₀ a->B a)/\(∀a,B a->B₀ a∨H₀ a=none)/\Env K H B σ δ
 fr:∀(i:Nat) (ds:D) (a:Addr),δ[i]?=some (.ow ds)->σ[i]?=some (some (.ref a))->H₀ a=none
 b0:∀a,B₀ a->NB (H₀ a)
def Ue0(K:W.Frag)(H₀:Hp)(B₀:BS)(D:Ends):Res->Prop
 | .nx δ=>∀σ H,EnvS K H₀ B₀ H σ δ->D.nx σ H
 | .rt d=>∀v H,Same H₀ H->Rp K H B₀ d v->D.rt v H
 | .bk δ=>∀σ H,EnvS K H₀ B₀ H σ δ->D.bk σ H
 | .ct δ=>∀σ H,EnvS K H₀ B₀ H σ δ->D.ct σ H
 | .rf d=>∀p H,H₀ p=none->Same H₀ H->RpL K H (λa=>B₀ a∨a=p) d p->D.rt (.ref p) H
def tDS(K:W.Frag)(H₀:Hp)(B₀:BS)(δ:Ds)(G:Ds->Option Res):TS:=λD σ H=>∃r,EnvS K H₀ B₀ H σ δ/\G δ=some r/\Ue0 K H₀ B₀ D r
structure PSD(X:Cx)(st:Stmt)(G:Ds->Option Res):Prop where
 mk::go:∀H₀ B₀ δ,PS X st (tDS X.K H₀ B₀ δ G)
instance{X:Cx}{st:Stmt}{G:Ds->Option Res}:CoeFun (PSD X st G) (λ_=>∀H₀ B₀ δ,PS X st (tDS X.K H₀ B₀ δ G)):=⟨PSD.go⟩
structure PSsD(X:Cx)(st:List Stmt)(G:Ds->Option Res):Prop where
 mk::go:∀H₀ B₀ δ,PSs X st (tDS X.K H₀ B₀ δ G)
instance{X:Cx}{st:List Stmt}{G:Ds->Option Res}:CoeFun (PSsD X st G) (λ_=>∀H₀ B₀ δ,PSs X st (tDS X.K H₀ B₀ δ G)):=⟨PSsD.go⟩
section
variable{σ:St}
theorem EnvS.grow(e:EnvS K H₀ B₀ H σ δ)(s:Same H H'):EnvS K H₀ B₀ H' σ δ:=⟨e.same.trans s,let ⟨B,b1,b2,en⟩:=e.ex;⟨B,b1,b2,en.same s⟩,e.fr,e.b0⟩
end
structure Wr(idx:List Nat)(σ σ':St)(δ δ':Ds):Prop where
 len:σ'.length=σ.length
 oth:∀j,j∉idx->σ'[j]?=σ[j]?/\δ'[j]?=δ[j]?
 own:∀j∈idx,∀ds,δ'[j]?≠some (.ow ds)
def tDG(K:W.Frag)(idx:List Nat)(f:D->Ds->Option Ds)(B:BS)(d:D)(δ:Ds):TG:=λv σ H Q=>∃δ',Rp K H B d v/\Env K H B σ δ/\f d δ=some δ'/\∀σ',Wr idx σ σ' δ δ'->Env K H B σ' δ'->Q σ' H
structure PGD(X:Cx)(tg:Expr)(idx:List Nat)(f:D->Ds->Option Ds):Prop where
 mk::go:∀B d δ,PG X tg (tDG X.K idx f B d δ)
instance{X:Cx}{tg:Expr}{idx:List Nat}{f:D->Ds->Option Ds}:CoeFun (PGD X tg idx f) (λ_=>∀B d δ,PG X tg (tDG X.K idx f B d δ)):=⟨PGD.go⟩
theorem _root_.L2.PG.imp{tg:Expr}{t t':TG}(h:PG X tg t)(q:∀v σ H Q,t' v σ H Q->t v σ H Q):PG X tg t':=λpins s σ H v u Q I r z=>h pins s σ H v u Q I r (q v σ H Q z)
theorem mv0{σ:St}{v:V}{d:D}:Wr [i] σ (σ.set i (some v)) δ (δ.set i (.sh d)):=by
 refine⟨by simp,λj hj=>?_,λj hj ds h=>?_⟩
 ·have:j≠i:=by simpa using hj
  rw[List.getElem?_set_ne (B7 this),List.getElem?_set_ne (B7 this)];exact⟨rfl,rfl⟩
 ·have:j=i:=by simpa using hj
  subst this
  by_cases hl:j<δ.length
  ·rw[List.getElem?_set_self hl] at h;cases h
  ·rw[List.getElem?_eq_none (by simpa using hl)] at h;cases h
theorem p8(i:Nat){pos:Pos}(hN:X.N.Nodup)(hi:X.N[i]?=some x:=by rfl)(hx:Loc X.env.scope x:=by first|exact Or.inl rfl|exact Or.inr rfl)
  (hf:X.fn x=true∨X.env.scope.names.lookup x=some .local:=by first|exact .inl rfl|exact .inr rfl|assumption):PGD X (.Name x pos) [i] (gN i):=.mk λB d δ=>(td0 (i:=i) hN hi hx hf).imp λv σ H Q ⟨δ',r,en,e,k⟩=>by
 cases e;exact k _ mv0 (en.set i r)
section
variable{tg:Expr}{G1 G2 Ga Gb:Ds->Option Res}{as bs:List Stmt}
theorem v9:PSsD X [] p6:=.mk λH₀ B₀ δ pins s σ H D I ⟨r,en,e,k⟩=>by
 cases e;exact cl0 pins s σ H D I (k σ H en)
theorem v5(h1:PSD X st G1)(h2:PSsD X rest G2):PSsD X (st::rest) (v8 G1 G2):=.mk λH₀ B₀ δ pins s σ H D I ⟨r,en,e,k⟩=>by
 unfold v8 at e;cases e1:G1 δ with
 | none=>rw[e1] at e;cases e
 | some r1 =>
  rw[e1] at e;cases r1 with
  | nx δ'=>exact wa0 (h1 H₀ B₀ δ) (h2 H₀ B₀ δ') pins s σ H D I ⟨_,en,e1,fun σ' H' en'=>⟨r,en',e,k⟩⟩
  | rt d=>cases e;exact wa0 (h1 H₀ B₀ δ) wj0 pins s σ H D I ⟨_,en,e1,k⟩
  | bk δ'=>cases e;exact wa0 (h1 H₀ B₀ δ) wj0 pins s σ H D I ⟨_,en,e1,k⟩
  | ct δ'=>cases e;exact wa0 (h1 H₀ B₀ δ) wj0 pins s σ H D I ⟨_,en,e1,k⟩
  | rf d=>cases e;exact wa0 (h1 H₀ B₀ δ) wj0 pins s σ H D I ⟨_,en,e1,k⟩
theorem m7(h:PD X e g):PSD X (.Return (some e) pos) (d8 g):=.mk λH₀ B₀ δ pins s σ H D I ⟨r,en,e1,k⟩=>by
 unfold d8 at e1;obtain⟨B,b1,b2,env⟩:=en.ex;cases e2:g δ with
 | none=>rw[e2] at e1;cases e1
 | some d =>
  rw[e2] at e1;cases e1;exact md0 (h B δ) pins s σ H D I ⟨d,env,e2,λv H' s' r=>k v H' (en.same.trans s') (r.mono (Gr.less b1))⟩
theorem EnvS.wr{σ σ':St}(e:EnvS K H₀ B₀ H σ δ)(b1:∀a,B₀ a->B a)(b2:∀a,B a->B₀ a∨H₀ a=none)(s:Same H H')(w:Wr idx σ σ' δ δ')(en:Env K H' B σ' δ'):EnvS K H₀ B₀ H' σ' δ':=by
 refine⟨e.same.trans s,⟨B,b1,b2,en⟩,λi ds a h1 h2=>?_,e.b0⟩
 by_cases hi:i∈idx
 ·exact absurd h1 (w.own i hi ds)
 ·rw[(w.oth i hi).2] at h1
  rw[(w.oth i hi).1] at h2;exact e.fr i ds a h1 h2
theorem j5{f:D->Ds->Option Ds}(h:PD X e g)(hg:PGD X tg idx f)(hs:swapsWithSole [tg] e pos.line X.env=pure false:=by rfl)(hw:swappedStores [tg] e X.env=pure none:=by rfl)
  (h1:(assignEach [tg] X.env).map (·.2)=[assign tg X.env]:=by rfl):PSD X (.Assign [tg] e pos) (j4 f g):=.mk λH₀ B₀ δ pins s σ H D I ⟨r,en,e1,k⟩=>by
 unfold j4 at e1;obtain⟨B,b1,b2,env⟩:=en.ex;cases e2:g δ with
 | none=>rw[e2] at e1;cases e1
 | some d =>
  rw[e2] at e1;simp only[Option.bind_some] at e1;cases e3:f d δ with
  | none=>rw[e3] at e1;cases e1
  | some δ' =>
   rw[e3] at e1;cases e1;exact mg0 (h B δ) (hg B d δ) hs hw h1 pins s σ H D I ⟨d,env,e2,λv H' s' r=>⟨δ',r,env.same s',e3,fun σ' w en'=>k σ' H' (en.wr b1 b2 s' w en')⟩⟩
theorem j9(hc:PTD X c gt)(ha:PSsD X as Ga)(hb:PSsD X bs Gb):PSD X (.If c as bs pos) (ifD gt Ga Gb):=.mk λH₀ B₀ δ pins s σ H D I ⟨r,en,e1,k⟩=>by
 unfold ifD at e1;obtain⟨B,b1,b2,env⟩:=en.ex;cases e2:gt δ with
 | none=>rw[e2] at e1;cases e1
 | some t =>
  rw[e2] at e1;refine Vf0 (hc B δ) (ha H₀ B₀ δ) (hb H₀ B₀ δ) pins s σ H D I ⟨t,env,e2,λH' s'=>?_⟩;cases t with
  | true=>exact⟨r,en.grow s',e1,k⟩
  | false=>exact⟨r,en.grow s',e1,k⟩
structure ItD(K:W.Frag)(B:BS)(J:It)(items:List D)(H₁:Hp):Prop where
 go:∀i H,Gr H₁ H B B->i<items.length->J.go i H
 yld:∀i H x H',Gr H₁ H B B->J.yld i H x H'->i<items.length->Same H H'/\∃d,items[i]?=some d/\∀B':BS,Gr H₁ H' B B'->(∀a,B' a->NB (H a))->Rp K H' B' d x
 stop:∀i H,Gr H₁ H B B->items.length<=i->J.stop i H
def tDI(K:W.Frag)(B:BS)(δ:Ds)(g:Ds->Option (List D)):TI:=fun σ H R=>∃items,Env K H B σ δ/\g δ=some items/\∀J H',Same H H'->ItD K B J items H'->R J H'
structure PID(X:Cx)(tg e:Expr)(g:Ds->Option (List D)):Prop where
 mk::go:∀B δ,PI X tg e (tDI X.K B δ g)
instance{X:Cx}{tg e:Expr}{g:Ds->Option (List D)}:CoeFun (PID X tg e g) (λ_=>∀B δ,PI X tg e (tDI X.K B δ g)):=⟨PID.go⟩
theorem _root_.L2.PI.imp{t t':TI}(h:PI X tg e t)(q:∀σ H R,t' σ H R->t σ H R):PI X tg e t':=λpins s σ H R I z=>h pins s σ H R I (q σ H R z)
theorem K1(h:PD X e g):PID X tg e (zp0 g):=.mk λB δ=>L2.PI.imp (a90 (h B δ)) fun σ H R ⟨items,en,e1,k⟩=>by
 unfold zp0 at e1;cases e2:g δ with
 | none=>rw[e2] at e1;cases e1
 | some d =>
  rw[e2] at e1;cases d<;>simp[sv0] at e1
  subst e1;refine⟨_,en,e2,λv H' s' r=>?_⟩;rw[Y6] at r;obtain⟨a,xs,rfl,q,rs⟩:=r;refine⟨a,rfl,⟨xs,q.to⟩,k _ H' s' ⟨λi H2 g2 hi=>?_,λi H2 x H3 g2 y hi=>?_,λi H2 g2 hi=>?_⟩⟩
  ·have:i<xs.length:=by rw[rs.length];exact hi
   exact⟨xs,xs[i],(q.mono g2).to,by simp[this]⟩
  ·obtain⟨e3,y⟩:=y
   obtain⟨x',e4,r'⟩:=rs.get (i:=i) (d:=_) (C7 hi);have:=y xs (q.mono g2).to;rw[e4] at this;cases this;subst e3;exact⟨Same.refl _,_,C7 hi,λB' gB _=>r'.mono gB⟩
  ·exact⟨xs,(q.mono g2).to,by rw[rs.length];exact hi⟩
theorem wt0(h:PD X e g):PID X tg e (tupI g):=.mk λB δ=>L2.PI.imp (Za0 (h B δ)) fun σ H R ⟨items,en,e1,k⟩=>by
 unfold tupI at e1;cases e2:g δ with
 | none=>rw[e2] at e1;cases e1
 | some d =>
  rw[e2] at e1;cases d<;>simp[oe0] at e1
  subst e1;refine⟨_,en,e2,λv H' s' r=>?_⟩;rw[Y9] at r;obtain⟨a,xs,rfl,q,rs⟩:=r;refine⟨a,rfl,⟨xs,q.to⟩,k _ H' s' ⟨λi H2 g2 hi=>?_,λi H2 x H3 g2 y hi=>?_,λi H2 g2 hi=>?_⟩⟩
  ·have:i<xs.length:=by rw[rs.length];exact hi
   exact⟨xs,xs[i],(q.mono g2).to,by simp[this]⟩
  ·obtain⟨e3,y⟩:=y
   obtain⟨x',e4,r'⟩:=rs.get (i:=i) (d:=_) (C7 hi);have:=y xs (q.mono g2).to;rw[e4] at this;cases this;subst e3;exact⟨Same.refl _,_,C7 hi,λB' gB _=>r'.mono gB⟩
  ·exact⟨xs,(q.mono g2).to,by rw[rs.length];exact hi⟩
theorem s80(lo hi:Int):(S5 lo hi).length=(hi - lo).toNat:=by simp[S5]
theorem j10(lo hi:Int):ItD K B (Itr lo (hi - lo).toNat) (S5 lo hi) H:=by
 refine⟨λi H2 g2 hi=>?_,λi H2 x H3 g2 y hi=>?_,λi H2 g2 hi=>?_⟩
 ·rw[s80] at hi;exact hi
 ·obtain⟨e3,rfl⟩:=y
  rw[s80] at hi;subst e3;exact⟨Same.refl _,.int (lo+i),by simp[S5,hi],λB' gB _=>by rw[o8]⟩
 ·rw[s80] at hi;exact hi
theorem G4{a:Expr}(hm:X.mg "range"=none)(ha:PDA X [a] gA)(hg:Gl X "range" := by rfl)(hs:starEach [a] X.env=[(false,eval a X.env)]:=by rfl):PID X tg (.Call (.Name "range" p) [a] [] pos) (G6 gA) :=
 .mk λB δ=>L2.PI.imp (g40 hg hm (ha B δ) hs) fun σ H R ⟨items,en,e1,k⟩=>by
 unfold G6 at e1;cases e2:gA δ with
 | none=>rw[e2] at e1;cases e1
 | some ds =>
  rw[e2] at e1;simp only[Option.bind_some] at e1;unfold jz0 at e1;split at e1
  ·split at e1
   ·rename_i j hj
    cases e1;refine⟨_,en,e2,λvs H' s' r=>?_⟩;rw[o4] at r;obtain⟨x,t,rfl,r1,r2⟩:=r;rw[o7] at r2;subst r2;rw[o8] at r1;subst r1;refine⟨j,rfl,hj.1,hj.2,k _ H' s' ?_⟩;have:=j10 (K:=X.K) (B:=B) (H:=H') 0 j;rw[Int.sub_zero] at this;exact this
   ·cases e1
  ·cases e1
theorem i80{a:Expr}{p:Pos}(hm:X.mg "range"=none)(ha:PDA X [a,b] gA)(hg:Gl X "range" := by rfl)(hs:starEach [a,b] X.env=[(false,eval a X.env),(false,eval b X.env)]:=by rfl)(hs2:starEach [b] X.env=[(false,eval b X.env)]:=by rfl) :
  PID X tg (.Call (.Name "range" p) [a,b] [] pos) (j90 gA):=.mk λB δ=>L2.PI.imp (ff0 hg hm (ha B δ) hs hs2) fun σ H R ⟨items,en,e1,k⟩=>by
 unfold j90 at e1;cases e2:gA δ with
 | none=>rw[e2] at e1;cases e1
 | some ds =>
  rw[e2] at e1;simp only[Option.bind_some] at e1;unfold cc0 at e1;split at e1
  ·split at e1
   ·rename_i i j hj
    cases e1;refine⟨_,en,e2,λvs H' s' r=>?_⟩;rw[o4] at r;obtain⟨x,t,rfl,r1,r2⟩:=r;rw[o4] at r2;obtain⟨y,t',rfl,r2,r3⟩:=r2;rw[o7] at r3;subst r3;rw[o8] at r1 r2;subst r1 r2;exact⟨i,j,rfl,⟨hj.1.1,hj.1.2,hj.2.1,hj.2.2⟩,k _ H' s' (j10 i j)⟩
   ·cases e1
  ·cases e1
theorem EnvS.lower{H₁:Hp}{σ:St}(e:EnvS K H₁ B₀ H σ δ)(s:Same H₀ H₁)(b0:∀a,B₀ a->NB (H₀ a)):EnvS K H₀ B₀ H σ δ:=by
 obtain⟨B,b1,b2,en⟩:=e.ex;exact⟨s.trans e.same,⟨B,b1,λa z=>(b2 a z).imp id λq=>s.free q,en⟩,λi ds a h1 h2=>s.free (e.fr i ds a h1 h2),b0⟩
open Classical in
theorem K9{f:D->Ds->Option Ds}(hp:PassesOwn (model X.prog X.w) X.A X.env X.xe)(hc:X.calm=true)(hi:PID X tg iter gi)(hg:PGD X tg idx f)(hb:PSsD X body G)
  (hs:∀x,foldedSetIterable iter X.env x=pure x:=by intro _;rfl):PSD X (.For tg iter body [] pos) (z60 gi f G):=.mk λH₀ B₀ δ pins s σ H D I ⟨r,en,e1,k⟩=>by
 unfold z60 at e1;obtain⟨B,b1,b2,env⟩:=en.ex;cases e2:gi δ with
 | none=>rw[e2] at e1;cases e1
 | some items =>
  rw[e2] at e1;simp only[Option.bind_some] at e1;have a7:PG X tg (λv σ H Q=>∃B d δ,tDG X.K idx f B d δ v σ H Q):=λpins s σ H v u Q I r ⟨B,d,δ,h⟩=>hg B d δ pins s σ H v u Q I r h
  have a5:PSs X body (λD σ H=>∃H₀ B₀ δ,tDS X.K H₀ B₀ δ G D σ H):=λpins s σ H D I ⟨H₀,B₀,δ,h⟩=>hb H₀ B₀ δ pins s σ H D I h
  refine Zt0 hp hc (hi B δ) a7 a5 hs pins s σ H D I ⟨items,env,e2,λJ H1 s1 it=>?_⟩;obtain⟨Hh,Z⟩:∃Hh:Hp,Hh=λb=>if B b/\¬B₀ b then none else H1 b:=⟨_,rfl⟩
  have L:∀b,¬B b->Hh b=H1 b:=λb n=>by rw[Z];exact if_neg λz=>n z.1
  have O:∀b,B b->¬B₀ b->Hh b=none:=λb n n'=>by rw[Z];exact if_pos ⟨n,n'⟩
  have a1:∀b,B₀ b->Hh b=H1 b:=λb n=>by rw[Z];exact if_neg λz=>z.2 n
  have a3:Same Hh H1:=λb o h=>by
   by_cases z:B b/\¬B₀ b
   ·rw[O b z.1 z.2] at h;cases h
   ·rw[Z] at h
    have h':(if B b/\¬B₀ b then none else H1 b)=some o:=h;rw[if_neg z] at h';exact h'
  have hS:Same H₀ Hh:=λb o h=>by
   have h1:=s1 b o (en.same b o h)
   by_cases z:B b
   ·rcases b2 b z with q|q
    ·rw[a1 b q];exact h1
    ·rw[h] at q;cases q
   ·rw[L b z];exact h1
  have Y:=env.same s1;have start:EnvS X.K Hh B₀ H1 σ δ:=by
   refine⟨a3,⟨B,b1,λa z=>?_,Y⟩,λi ds a h1 h2=>?_,λa z=>?_⟩
   ·by_cases q:B₀ a
    ·exact .inl q
    ·exact .inr (O a z q)
   ·have hn:=en.fr i ds a h1 h2
    have nb:¬B₀ a:=λz=>en.b0 a z hn
    obtain⟨o,e3,a',e4,hB,_⟩:=Pd.get Y.all h1;rw[h2] at e3;cases e3;cases e4;exact O a hB nb
   ·rw[a1 a z]
    exact Y.bad a (b1 a z)
  refine⟨λi m σ H=>m=items.length - i/\i<=items.length/\∃δi,EnvS X.K Hh B₀ H σ δi/\M4 f G (items.drop i) δi=some r,⟨_,rfl,D3 _,δ,start,e1⟩,?_⟩;rintro i m σi Hi ⟨rfl,a8,δi,F,ei⟩;have gr:Gr H1 Hi B B:=λb o n h=>⟨n,F.same b o (by rw[L b n];exact h)⟩
  by_cases hlt:i<items.length
  ·refine .inr ⟨it.go i Hi gr hlt,fun σ' H'=>∃δn,EnvS X.K Hh B₀ H' σ' δn/\M4 f G (items.drop (i+1)) δn=some r,fun σ' H' ⟨δn,en',e'⟩=>⟨items.length - (i+1),by omega,rfl,hlt,δn,en',e'⟩,λx H' y=>?_⟩
   obtain⟨sm,d,hd,rd⟩:=it.yld i Hi x H' gr y hlt;obtain⟨B',c1,c2,env0⟩:=F.ex;have a6:Rp X.K H' B' d x:=rd B' (λb o n h=>by
    have h':Hh b=some o:=by rw[L b n];exact h
    refine⟨λz=>?_,sm b o (F.same b o h')⟩;rcases c2 b z with q|q
    ·exact n (b1 b q)
    ·rw[h'] at q;cases q) env0.bad
   have a2:=env0.same sm
   replace F:=F.grow sm
   have a0:items.drop i=d::items.drop (i+1):=by
    rw[List.drop_eq_getElem_cons hlt];congr 1;rw[List.getElem?_eq_getElem hlt] at hd;exact B3 hd
   rw[a0] at ei;unfold M4 at ei;cases e3:f d δi with
   | none=>rw[e3] at ei;cases ei
   | some δ2 =>
    rw[e3] at ei;simp only[Option.bind_some] at ei;refine⟨B',d,δi,δ2,a6,a2,e3,fun σ' w en'=>?_⟩;have a4:EnvS X.K Hh B₀ H' σ' δ2:=F.wr c1 c2 (Same.refl _) w en';cases e4:G δ2 with
    | none=>rw[e4] at ei;cases ei
    | some rb =>
     rw[e4] at ei;refine⟨Hh,B₀,δ2,rb,a4,e4,?_⟩;cases rb with
     | nx δn=>exact fun σ' H' en'=>⟨δn,en',ei⟩
     | ct δn=>exact fun σ' H' en'=>⟨δn,en',ei⟩
     | bk δn =>
      cases ei;exact fun σ' H' en'=>k σ' H' (en'.lower hS en.b0)
     | rt d' =>
      cases ei;exact λv H' s' r'=>k v H' (hS.trans s') r'
     | rf d' =>
      cases ei;exact λp H' hp s' r'=>k p H' (hS.free hp) (hS.trans s') r'
  ·have e:i=items.length:=by omega
   subst e;refine .inl ⟨it.stop _ Hi gr (A4 _),?_⟩;rw[List.drop_length] at ei;cases ei;exact k σi Hi (F.lower hS en.b0)
structure PFD(X:Cx)(ifs:List Expr)(g:Ds->Option Bool):Prop where
 mk::go:∀B δ,PF X ifs (tDT X.K B δ g)
instance{X:Cx}{ifs:List Expr}{g:Ds->Option Bool}:CoeFun (PFD X ifs g) (λ_=>∀B δ,PF X ifs (tDT X.K B δ g)):=⟨PFD.go⟩
theorem z10:PFD X [] noT:=.mk λB δ pins s σ H Q I ⟨b,en,e,k⟩=>by
 cases e;exact Yk0 pins s σ H Q I (k H (Same.refl H))
theorem v30(h:PTD X c gt):PFD X [c] gt:=.mk λB δ=>W00 (h B δ)
theorem ee0{σ:St}(h:j<n):(Q4 n caps σ)[j]?=some none:=by
 unfold Q4;rw[List.getElem?_append_left (by simpa using h),List.getElem?_replicate,if_pos h]
theorem v40:∀n:Nat,Paired (SlR K H B) (List.replicate n (none:Option V)) (List.replicate n Sl.un)
 | 0=>.nil
 | n+1=>.cons trivial (v40 n)
theorem mt0{σ:St}(en:Env K H B σ δ):∀caps:List Nat,Paired (SlR K H B) (caps.map λj=>(σ[j]?).join) (caps.map λj=>om0 δ[j]?)
 | []=>.nil
 | j::caps=>by
  refine .cons ?_ (mt0 en caps);show SlR K H B (σ[j]?).join (om0 δ[j]?);cases h:δ[j]? with
  | none=>trivial
  | some sl =>
   cases sl with
   | un=>trivial
   | ow ds=>trivial
   | ex c n=>trivial
   | sh d =>
    obtain⟨v,e,r⟩:=en.get h;rw[e];exact⟨v,rfl,r⟩
theorem e50{o:Option Sl}{ds:D}(h:om0 o=.ow ds):False:=by
 cases o with
 | none=>cases h
 | some s=>cases s<;>cases h
theorem sf0{ds:D}(h:(zv0 n caps δ)[i]?=some (.ow ds)):False:=by
 unfold zv0 at h
 by_cases hi:i<n
 ·rw[List.getElem?_append_left (by simpa using hi),List.getElem?_replicate,if_pos hi] at h
  cases h
 ·rw[List.getElem?_append_right (by simpa using hi),List.getElem?_map] at h
  cases q:caps[i - (List.replicate n Sl.un).length]? with
  | none=>rw[q] at h;cases h
  | some j =>
   rw[q] at h;exact e50 (B3 h)
theorem Env.comp{σ:St}(en:Env K H B σ δ)(n:Nat)(caps:List Nat):Env K H B (Q4 n caps σ) (zv0 n caps δ) :=
 ⟨Pd.app (v40 n) (mt0 en caps),en.bad,λi j a ds es h1 _ _ _=>(sf0 h1).elim⟩
theorem SlR.gr{o:Option V}{s:Sl}(g:Gr H H' B B')(no:∀ds,s≠.ow ds)(h:SlR K H B o s):SlR K H' B' o s:=by
 cases s with
 | un=>trivial
 | sh d=>obtain⟨v,e,r⟩:=h;exact⟨v,e,r.mono g⟩
 | ow ds=>exact absurd rfl (no ds)
 | ex c n=>obtain⟨a,e,r⟩:=h;exact⟨a,e,r.mono g⟩
theorem Pd.impG(g:Gr H H' B B'):∀{σ:St} {δ:Ds},(∀(i:Nat) (ds:D),δ[i]?≠some (.ow ds))->Paired (SlR K H B) σ δ->Paired (SlR K H' B') σ δ
 | _,_,_,.nil=>.nil
 | _,_,no,.cons r t=>.cons (r.gr g λds z=>no 0 ds (by rw[← z];rfl)) (Pd.impG g (λi ds z=>no (i+1) ds (by simpa using z)) t)
def tDF(K:W.Frag)(B:BS)(δ:Ds)(g:Ds->Option D):TE:=fun σ H Q=>∃d,Env K H B σ δ/\g δ=some d/\∀p H',H p=none->Same H H'->RpO K H' (λa=>B a∨a=p) d p->Q (.ref p) H'
structure PDF(X:Cx)(e:Expr)(g:Ds->Option D):Prop where
 mk::go:∀B δ,PE X e (tDF X.K B δ g)
instance{X:Cx}{e:Expr}{g:Ds->Option D}:CoeFun (PDF X e g) (λ_=>∀B δ,PE X e (tDF X.K B δ g)):=⟨PDF.go⟩
theorem tD.toF{σ:St}{Q:VK}(h:tD K B δ g σ H Q):tDF K B δ g σ H Q:=by
 obtain⟨d,en,e,k⟩:=h;exact⟨d,en,e,λp H' hp s r=>k _ H' s (r.rp (λa z=>.inl z) (en.free hp))⟩
theorem PDF.pd(h:PDF X e g):PD X e g:=.mk λB δ=>(h B δ).imp fun σ H Q z=>z.toF
theorem p20{K:W.Frag}{B:BS}{δ:Ds}{σ:St}{H:Hp}{Q:VK}{caps:List Nat}{gi:Ds->Option (List D)}{f:D->Ds->Option Ds}{gt:Ds->Option Bool}{ge:Ds->Option D}(hidx:∀j∈idx,j<n)
  (h:tDF K B δ (W3 n caps gi f gt ge) σ H Q) :
  i20 n caps (tDI K B δ gi) (λv σ H Q=>∃B d δ,tDG K idx f B d δ v σ H Q) (fun σ H Q=>∃B δ,tDT K B δ gt σ H Q) (fun σ H Q=>∃B δ,tD K B δ ge σ H Q) σ H Q:=by
 obtain⟨d,en,h,k⟩:=h;unfold W3 at h;cases e1:gi δ with
 | none=>rw[e1] at h;cases h
 | some items =>
  rw[e1] at h;simp only[Option.bind_some] at h
  by_cases hsz:items.length<=sizeLine
  ·rw[if_pos hsz] at h
   cases e2:V2 f gt ge (zv0 n caps δ) items with
   | none=>rw[e2] at h;cases h
   | some out =>
    rw[e2] at h;cases h;refine⟨items,en,e1,λJ H1 s1 it=>λL hL=>?_⟩;have Y:=en.same s1;have b0:¬B L:=Y.free hL;obtain⟨Bp,F⟩:∃Bp:BS,Bp=λa=>B a∨a=L:=⟨_,rfl⟩
    have a5:Bp L:=by rw[F];exact .inr rfl
    have a9:∀a,B a->Bp a:=λa z=>by rw[F];exact .inl z
    have a0:∀a,Bp a->B a∨a=L:=λa z=>by rw[F] at z;exact z
    have gr:∀{H2:Hp},Same H1 H2->Gr H1 H2 B Bp:=λ{H2} s2 b o nb hb=>⟨(λz=>by
     rcases a0 b z with q|q
     ·exact nb q
     ·subst q;rw[hL] at hb;cases hb),s2 b o hb⟩
    refine⟨λi m ys H2=>m=items.length - i/\i<=items.length/\H2 L=some (.lst ys)/\Same H1 H2/\ys.length<=i/\∃pre rest,out=pre++rest/\Rps K H2 Bp pre ys/\V2 f gt ge (zv0 n caps δ) (items.drop i)=some rest,
     ⟨_,rfl,D3 _,m8,Z1 hL,A4 _,[],out,rfl,by rw[o7],e2⟩,?_⟩
    rintro i m ys H2 ⟨rfl,a7,hD,s2,a8,pre,rest,ho,rp,ec⟩;have O:Env K H2 Bp (Q4 n caps σ) (zv0 n caps δ):=by
     refine⟨Pd.impG (gr s2) (λi ds z=>sf0 z) (Y.comp n caps).all,λa z=>?_,λi j a ds es h1 _ _ _=>(sf0 h1).elim⟩;rcases a0 a z with q|q
     ·exact(Y.same s2).bad a q
     ·subst q;rw[hD];exact .of rfl (λ_ _ z=>nomatch z) λ_ z=>nomatch z
    by_cases hlt:i<items.length
    ·refine .inr ⟨it.go i H2 (Gr.same s2) hlt,λx H3 y=>?_⟩
     obtain⟨sm,dx,a1,rx⟩:=it.yld i H2 x H3 (Gr.same s2) y hlt;have a6:Rp K H3 Bp dx x:=rx Bp (gr (s2.trans sm)) O.bad
     replace O:=O.same sm
     replace s2:=s2.trans sm
     replace hD:=sm _ _ hD
     replace rp:=rp.same sm
     have Z:items.drop i=dx::items.drop (i+1):=by
      rw[List.drop_eq_getElem_cons hlt];congr 1;rw[List.getElem?_eq_getElem hlt] at a1;exact B3 a1
     rw[Z] at ec;unfold V2 at ec;cases e3:f dx (zv0 n caps δ) with
     | none=>rw[e3] at ec;cases ec
     | some δ' =>
      rw[e3] at ec;dsimp only at ec;refine⟨Bp,dx,zv0 n caps δ,δ',a6,O,e3,fun σ4 w en4=>⟨⟨w.len,λj v z=>?_⟩,?_⟩⟩
      ·by_cases hj:j∈idx
       ·rw[ee0 (hidx j hj)] at z;cases z
       ·rw[(w.oth j hj).1];exact z
      ·cases e4:gt δ' with
       | none=>rw[e4] at ec;cases ec
       | some t =>
        rw[e4] at ec;refine⟨Bp,δ',t,en4,e4,λH5 s5=>?_⟩;cases t with
        | false =>
         rw[if_neg C1];exact⟨items.length - (i+1),by omega,rfl,hlt,s5 _ _ hD,s2.trans s5,by omega,pre,rest,ho,rp.same s5,ec⟩
        | true =>
         rw[if_pos rfl];dsimp only at ec;cases e5:ge δ' with
         | none=>rw[e5] at ec;cases ec
         | some yd =>
          rw[e5] at ec;dsimp only at ec;cases e6:V2 f gt ge (zv0 n caps δ) (items.drop (i+1)) with
          | none=>rw[e6] at ec;cases ec
          | some rest' =>
           rw[e6] at ec;cases ec;refine⟨Bp,δ',yd,en4.same s5,e5,λv H6 s6 r6=>?_⟩;have a2:H6 L=some (.lst ys):=s6 _ _ (s5 _ _ hD);have g6:Gr H6 (upd H6 L (.lst (ys++[v]))) Bp Bp:=λb o nb hb=>⟨nb,by
            rw[j7 (λz=>nb (by rw[z];exact a5))];exact hb⟩
           refine⟨a2,by omega,items.length - (i+1),by omega,rfl,hlt,m8,λb o hb=>?_,by simp;omega,pre++[yd],rest',by rw[ho];simp,?_,e6⟩
           ·have a4:b≠L:=λz=>by rw[z,hL] at hb;cases hb
            rw[j7 a4];exact s6 _ _ (s5 _ _ (s2 _ _ hb))
           ·exact(Rps.snoc ((rp.same s5).same s6) r6).mono g6
    ·have e:i=items.length:=by omega
     subst e;refine .inl ⟨it.stop _ H2 (Gr.same s2) (A4 _),?_⟩;rw[List.drop_length] at ec;have a3:([]:List D)=rest:=B3 ec;subst a3;rw[List.append_nil] at ho;subst ho;refine k L H2 (s1.free hL) (s1.trans s2) ⟨ys,hD,?_⟩;rw[F] at rp;exact rp
  ·rw[if_neg hsz] at h;cases h
theorem no0{sc scope:Scope}{elt iter:Expr}{ifs:List Expr}{N':List Str}{n:Nat}{caps:List Nat}{gi:Ds->Option (List D)}{idx:List Nat}{f:D->Ds->Option Ds}{ge:Ds->Option D}
  (hc:X.calm=true) (hsc:X.env.scope=sc) (ok:CompOk sc scope X.N N' n caps) (hidx:∀j∈idx,j<n) (hi:PID X tg iter gi)
  (hg:∀cl s H ex,PGD (Y5 X scope cl N' s H ex) tg idx f) (ht:∀cl s H ex,PFD (Y5 X scope cl N' s H ex) ifs gt) (he:∀cl s H ex,PD (Y5 X scope cl N' s H ex) elt ge)
  (hs:∀x,foldedSetIterable iter X.env x=pure x:=by intro _;rfl) :
  PDF X (.ListComp elt [⟨tg,iter,ifs,0⟩] scope pos) (W3 n caps gi f gt ge):=.mk λB δ =>
 (bf0 hc hsc ok (hi B δ) (g:=λv σ H Q=>∃B d δ,tDG X.K idx f B d δ v σ H Q) (tt:=fun σ H Q=>∃B δ,tDT X.K B δ gt σ H Q) (te:=fun σ H Q=>∃B δ,tD X.K B δ ge σ H Q)
  (λcl s H ex pins s' σ H v u Q I r ⟨B,d,δ,h⟩=>hg cl s _ ex B d δ pins s' σ H v u Q I r h)
  (λcl s H ex pins s' σ H Q I ⟨B,δ,h⟩=>ht cl s _ ex B δ pins s' σ H Q I h)
  (λcl s H ex pins s' σ H Q I ⟨B,δ,h⟩=>he cl s _ ex B δ pins s' σ H Q I h) hs).imp fun σ H Q h=>p20 hidx h
theorem cz0{sc scope:Scope}{elt iter:Expr}{ifs:List Expr}{N':List Str}{n:Nat}{caps:List Nat}{gi:Ds->Option (List D)}{idx:List Nat}{f:D->Ds->Option Ds}{ge:Ds->Option D}
  (hc:X.calm=true) (hsc:X.env.scope=sc) (ok:CompOk sc scope X.N N' n caps) (hidx:∀j∈idx,j<n) (hi:PID X tg iter gi)
  (hg:∀cl s H ex,PGD (Y5 X scope cl N' s H ex) tg idx f) (ht:∀cl s H ex,PFD (Y5 X scope cl N' s H ex) ifs gt) (he:∀cl s H ex,PD (Y5 X scope cl N' s H ex) elt ge)
  (hs:∀x,foldedSetIterable iter X.env x=pure x:=by intro _;rfl) :
  PD X (.ListComp elt [⟨tg,iter,ifs,0⟩] scope pos) (W3 n caps gi f gt ge):=(no0 hc hsc ok hidx hi hg ht he hs).pd
theorem lw0(i:Nat){y:Str}{py spos:Pos}{sc scope:Scope}{elt iter:Expr}{ifs:List Expr}{N':List Str}{n:Nat}{caps:List Nat}{gi:Ds->Option (List D)}{idx:List Nat}{f:D->Ds->Option Ds}{ge:Ds->Option D}
  (hN:X.N.Nodup) (hc:X.calm=true) (hsc:X.env.scope=sc) (ok:CompOk sc scope X.N N' n caps) (hidx:∀j∈idx,j<n) (hi:PID X tg iter gi)
  (hg:∀cl s H ex,PGD (Y5 X scope cl N' s H ex) tg idx f) (ht:∀cl s H ex,PFD (Y5 X scope cl N' s H ex) ifs gt) (he:∀cl s H ex,PD (Y5 X scope cl N' s H ex) elt ge)
  (hiN:X.N[i]?=some y:=by rfl) (hy:Loc X.env.scope y:=by first|exact Or.inl rfl|exact Or.inr rfl)
  (hsw:swapsWith (.ListComp elt [⟨tg,iter,ifs,0⟩] scope pos) (some (.Name y py)) spos.line X.env=pure true:=by rfl)
  (hs:∀x,foldedSetIterable iter X.env x=pure x:=by intro _;rfl)
  (hf:X.fn y=true∨X.env.scope.names.lookup y=some .local:=by first|exact .inl rfl|exact .inr rfl|assumption) :
  PSD X (.Assign [.Name y py] (.ListComp elt [⟨tg,iter,ifs,0⟩] scope pos) spos) (j4 (gN i) (W3 n caps gi f gt ge)):=.mk λH₀ B₀ δ pins s σ H D I ⟨r,en,e1,k⟩=>by
 unfold j4 at e1;obtain⟨B,b1,b2,env⟩:=en.ex;cases e2:W3 n caps gi f gt ge δ with
 | none=>rw[e2] at e1;cases e1
 | some d =>
  rw[e2] at e1;cases e1;refine jh0 (i:=i) hN hiN hy hc hsc ok (hi B δ) (g:=λv σ H Q=>∃B d δ,tDG X.K idx f B d δ v σ H Q) (tt:=fun σ H Q=>∃B δ,tDT X.K B δ gt σ H Q) (te:=fun σ H Q=>∃B δ,tD X.K B δ ge σ H Q)
   (λcl s H ex pins s' σ H v u Q I r ⟨B,d,δ,h⟩=>hg cl s _ ex B d δ pins s' σ H v u Q I r h)
   (λcl s H ex pins s' σ H Q I ⟨B,δ,h⟩=>ht cl s _ ex B δ pins s' σ H Q I h)
   (λcl s H ex pins s' σ H Q I ⟨B,δ,h⟩=>he cl s _ ex B δ pins s' σ H Q I h) hsw hs hf pins s σ H D I (p20 hidx (tD.toF ⟨d,env,e2,λv H' s' r'=>k _ H' (en.wr b1 b2 s' mv0 ((env.same s').set i r'))⟩))
end
theorem yy0{N:List Str}:∀{ds:List D} {vs:List V},Rps K H B ds vs->Paired (SlR K H B) (vs.map some) (ds.map Sl.sh)
 | [],_,h=>by rw[o7] at h;subst h;exact .nil
 | d::ds,_,h=>by
  rw[o4] at h;obtain⟨x,r,rfl,h1,h2⟩:=h;exact .cons ⟨x,rfl,h1⟩ (yy0 (N:=N) h2)
theorem J8{es:D}(h:(Z4 N ds)[i]?=some (.ow es)):False:=by
 unfold Z4 at h
 by_cases hi:i<ds.length
 ·rw[List.getElem?_append_left (by simpa using hi),List.getElem?_map] at h
  cases q:ds[i]? with
  | none=>rw[q] at h;cases h
  | some d=>rw[q] at h;cases h
 ·rw[List.getElem?_append_right (by simpa using hi),List.getElem?_replicate] at h
  split at h<;>cases h
section
variable{P:Program}{w:World}
theorem okD{ps:List Str}{k:Nat}{f:List D->Option D}{G:Ds->Option Res}(F:Fun K x qual st fa fd)(S:FnScope N ps (u9 st))
  (body:∀(cdv:Value) (A:Around) (outer:List PySem.Env) (s:Shared) (H:Hp) (E:XK),Room k (A.deeper (envOfC qual (u9 st) s.heap.objs.size fa cdv))->PSsD (xy0 CX0 P w K mg base N qual (u9 st) fa cdv A outer s H E).nox (n6 st) G)
  (hf:∀ds d,f ds=some d->ds.length=ps.length/\(G (Z4 N ds)=some (.rt d)∨(d=.non/\∃δ,G (Z4 N ds)=some (.nx δ))∨G (Z4 N ds)=some (.rf d)/\isL d=false)) :
  FnOk P w K mg base CX0 (k+1) fa fd ps (spD K f):=by
 refine F.ok S (λvs H Q E ⟨B,ds,d,_,r,h,_⟩=>?_) (λcdv A outer s H vs Q E hr ⟨B,ds,d,hb,r,h,q⟩=>?_)
 ·rw[r.length];exact(hf ds d h).1
 ·refine⟨_,body cdv A outer s H E hr H B (Z4 N ds),?_⟩
  have en:EnvS K H B H (L2.start N vs) (Z4 N ds):=by
   refine⟨Same.refl H,⟨B,λ_ z=>z,λ_ z=>.inl z,⟨?_,hb,λi j a J es h1 _ _ _=>(J8 h1).elim⟩⟩,λi J a h1 _=>(J8 h1).elim,hb⟩;unfold L2.start Z4;rw[r.length];exact Pd.app (yy0 (N:=N) r) (v40 _)
  rcases (hf ds d h).2 with e|⟨rfl,δ,e⟩|⟨e,hn⟩
  ·exact⟨_,en,e,λv H' s' r'=>q v H' s' r'⟩
  ·exact⟨_,en,e,fun σ' H' en'=>q .non H' en'.same (by rw[W0])⟩
  ·exact⟨_,en,e,λp H' hp s' r'=>q _ H' s' ((r'.toO hn).rp (λa z=>.inl z) (λz=>hb p z hp))⟩
def spN(K:W.Frag)(f:List D->Option D):Sp:=λvs H Q _=>∃(B:BS) (ds:List D) (d:D),(∀a,B a->NB (H a))/\Rps K H B ds vs/\f ds=some d/\∀p H',H p=none->Same H H'->RpO K H' (λa=>B a∨a=p) d p->Q (.ref p) H'
theorem okN{ps:List Str}{k:Nat}{f:List D->Option D}{G:Ds->Option Res}(F:Fun K x qual st fa fd)(S:FnScope N ps (u9 st))
  (body:∀(cdv:Value) (A:Around) (outer:List PySem.Env) (s:Shared) (H:Hp) (E:XK),Room k (A.deeper (envOfC qual (u9 st) s.heap.objs.size fa cdv))->PSsD (xy0 CX0 P w K mg base N qual (u9 st) fa cdv A outer s H E).nox (n6 st) G)
  (hf:∀ds d,f ds=some d->ds.length=ps.length/\G (Z4 N ds)=some (.rf d)/\isL d=false) :
  FnOk P w K mg base CX0 (k+1) fa fd ps (spN K f):=by
 refine F.ok S (λvs H Q E ⟨B,ds,d,_,r,h,_⟩=>?_) (λcdv A outer s H vs Q E hr ⟨B,ds,d,hb,r,h,q⟩=>?_)
 ·rw[r.length];exact(hf ds d h).1
 ·refine⟨_,body cdv A outer s H E hr H B (Z4 N ds),?_⟩
  have en:EnvS K H B H (L2.start N vs) (Z4 N ds):=by
   refine⟨Same.refl H,⟨B,λ_ z=>z,λ_ z=>.inl z,⟨?_,hb,λi j a J es h1 _ _ _=>(J8 h1).elim⟩⟩,λi J a h1 _=>(J8 h1).elim,hb⟩;unfold L2.start Z4;rw[r.length];exact Pd.app (yy0 (N:=N) r) (v40 _)
  exact⟨_,en,(hf ds d h).2.1,λp H' hp s' r'=>q p H' hp s' (r'.toO (hf ds d h).2.2)⟩
end
end DL
namespace L2
open Spec PyProof.Rows
theorem nl0:∀{ys:List Str} {us:List Value},Vals (ys.map V.str) us->StrsAre us ys
 | [],_,r=>by rw[List.map_nil] at r;cases r;exact .nil
 | y::ys,_,r=>by
  rw[List.map_cons] at r;cases r with
  | cons r1 r2 =>
   obtain⟨t,e⟩:=r1;subst e;exact .cons y t (nl0 r2)
theorem b80:MtR X "str.join" (λx xs H Q=>∃(sep:Str) (p:Addr) (ys:List Str),x=.str sep/\xs=[.ref p]/\SqL X.K H p (ys.map V.str)/\(ys.map (·.length)).sum+ys.length*sep.length<=16777216/\Q (.str (Txt.join sep ys)) H):=by
 intro pins s σ H x xs v us Q I rx rs h;obtain⟨sep,p,ys,rfl,rfl,hq,hz,q⟩:=h;obtain⟨t,rfl⟩:=rx;obtain⟨u,rfl,ru⟩:=rs.one;cases ru;obtain⟨its,rv,pl,_⟩:=I.list hq;exact join_list pl.isList (by simpa using nl0 rv) hz λt' k=>⟨.str _,H,I.tok k,⟨t',rfl⟩,q⟩
theorem part_of{o:Option Int}(p:IsPart u o):∃l:Option (Int×Tok),u=partValue l/\l.map (·.1)=o:=by
 cases p with
 | none=>exact⟨none,rfl,rfl⟩
 | int i t=>exact⟨some (i,t),rfl,rfl⟩
theorem Zz0:SlR X (λx lo hi H Q=>∃z,x=.str z/\z.length<=sizeLine/\Q (.str (Txt.slice z lo hi)) H):=by
 intro pins s σ H x v vl vu lo hi sl Q I rx hs pl pu h;obtain⟨z,rfl,hz,q⟩:=h;obtain⟨t,rfl⟩:=rx;obtain⟨l,rfl,rfl⟩:=part_of pl;obtain⟨u,rfl,rfl⟩:=part_of pu;refine⟨"str",_,F.slot_str_getitem.lookup,Q1 _ _ _,wpAny_getItem_str_slice (l:=l) (u:=u) (st:=none) ?_ rfl (post_val_or_str ⟨C2 (Txt.slice_le z _ _) hz,λt' k=>⟨.str _,H,I.tok k,⟨t',rfl⟩,q⟩⟩)⟩;obtain⟨o,h1,h2,h3⟩:=hs;exact⟨o,h1,h2,h3⟩
end L2
namespace DL
open Spec PyProof.Rows L2
def tyD:D->String
 | .non => "NoneType"|.bl _ => "bool"|.int _ => "int"|.str _ => "str"|.tup _ => "tuple"|.lst _ => "list"|.dct _ _ => "dict"|.fn _ _ => "function"
def okT(T:String)(f:D->Bool):Prop:=∀(K:W.Frag) (d:D),W.kitOne K (.type (tyD d)) (.type T)=some (f d)
theorem au0:okT "int" isInt:=λK d=>by cases d<;>kernel_rfl
theorem bp0:okT "str" isStr:=λK d=>by cases d<;>kernel_rfl
theorem el0:okT "bool" isBool:=λK d=>by cases d<;>kernel_rfl
theorem y30:okT "tuple" isTup:=λK d=>by cases d<;>kernel_rfl
section
theorem do0{T:String}{f:D->Bool}(hT:okT T f):CallR X (.builtin "isinstance") (λxs H Q=>∃B d x,xs=[x,.ty T]/\Rp X.K H B d x/\Q (.bl (f d)) H):=by
 intro pins s σ H xs us Q I rs h;obtain⟨B,d,x,rfl,r,q⟩:=h;obtain⟨u,c,rfl,ru,rc⟩:=rs.two;obtain rfl:c=Value.type T:=rc;have fin:∀tk,EP X pins σ Q (.bool (f d)) { s with toks:=tk }:=λtk=>⟨.bl _,H,I.tok tk,rfl,q⟩
 have e:=hT X.K d;cases d with
 | non=>rw[W0] at r;subst r;cases (show u=Value.none from ru);exact L7 W.kitx_none I.kIn True.intro e (λz=>nomatch z) fin
 | bl y=>rw[Z8] at r;subst r;cases (show u=Value.bool y from ru);exact L7 W.kitx_bool I.kIn True.intro e (λz=>nomatch z) fin
 | int i=>rw[o8] at r;subst r;obtain⟨t,rfl⟩:=(show ∃t,u=Value.int i t from ru);exact L7 W.kitx_int I.kIn True.intro e (λz=>nomatch z) fin
 | str y=>rw[Z9] at r;subst r;obtain⟨t,rfl⟩:=(show ∃t,u=Value.str y t from ru);exact L7 W.kitx_str I.kIn True.intro e (λz=>nomatch z) fin
 | tup ds =>
  rw[Y9] at r;obtain⟨a,xs,rfl,hq,_⟩:=r;cases (show u=Value.ref a from ru);obtain⟨its,_,p,_⟩:=I.tuple hq.to;obtain⟨o,h1,h2,_⟩:=p;exact L7 W.kitx_tuple I.kIn ⟨o,h1,h2⟩ e (λz=>nomatch z) fin
 | lst ds =>
  rw[Y6] at r;obtain⟨a,xs,rfl,hq,_⟩:=r;cases (show u=Value.ref a from ru);obtain⟨its,_,p,_⟩:=I.list hq.to;obtain⟨o,n,h1,h2,_⟩:=p;exact L7 W.kitx_list I.kIn ⟨o,h1,h2⟩ e (λz=>nomatch z) fin
 | dct ks ds =>
  rw[xu0] at r;obtain⟨a,xs,rfl,_,hq,_⟩:=r;cases (show u=Value.ref a from ru);cases ks with
  | inl ks =>
   obtain⟨_,_,vs,_,p⟩:=(show ObjOk X.prog X.w H s.heap a (.dK (ks.zip xs)) from I.hok a _ hq);obtain⟨o,es,ep,h1,h2,_⟩:=p;exact L7 W.kitx_dict I.kIn ⟨o,h1,h2.1⟩ e (λz=>nomatch z) fin
  | inr ks =>
   obtain⟨_,_,vs,_,o,es,ep,h1,h2,_⟩:=(show ObjOk X.prog X.w H s.heap a (.dT (ks.zip xs)) from I.hok a _ hq);exact L7 W.kitx_dict I.kIn ⟨o,h1,h2.1⟩ e (λz=>nomatch z) fin
 | fn ks ds =>
  rw[jp0] at r;obtain⟨a,xs,rfl,hq,_⟩:=r;cases (show u=Value.ref a from ru);obtain⟨oF,_,_,_,_,_,_,_,_,⟨_,h1⟩,⟨h2,_⟩,_⟩:=hq;exact L7 KfT.kit I.kIn ⟨oF,(I.hok a _ h1).1,h2⟩ e (λz=>nomatch z) fin
theorem yb0{T:String}{f:D->Bool}{Tn:Str}{p p2 pos:Pos}(hT:okT T f)(hb:bootBuiltins Tn=some (.type T))(hm:X.mg "isinstance"=none)(hmT:X.mg Tn=none)(h:PD X e g)(hg:Gl X "isinstance" := by rfl)(hgT:Gl X Tn:=by rfl)
  (hn:Tn ≠"__name__" := by decide) (hd:(Tn==("__debug__" : Str))=false:=by decide)
  (he:starEach [e,.Name Tn p2] X.env=(false,eval e X.env)::starEach [.Name Tn p2] X.env:=by rfl) (he2:starEach [.Name Tn p2] X.env=(false,eval (.Name Tn p2) X.env)::starEach [] X.env:=by rfl)
  (hpl:(backTo pos (starEach [.Name Tn p2] X.env)).any (·.1)=false:=by rfl) :
  PD X (.Call (.Name "isinstance" p) [e,.Name Tn p2] [] pos) (zf0 f g) :=
 .mk λB δ=>(se0 (do0 hT) hg hm PyProof.Rows.boot_isinstance (zo0 (h B δ) (zo0 (bl0 (v:=.ty T) hgT hmT hb rfl hn hd) xg0 he2) he) (by decide) (by decide) he hpl).imp fun σ H Q ⟨d,en,h,k⟩=>by
  unfold zf0 at h;cases e1:g δ with
  | none=>rw[e1] at h;cases h
  | some x =>
   rw[e1] at h;cases h;exact⟨x,en,e1,λv H1 s1 r1=>⟨B,x,v,rfl,r1,k _ H1 s1 (by rw[Z8])⟩⟩
theorem sn0{C:Int->Int->Prop}[∀i j,Decidable (C i j)]{g:Int->Int->V}{g':Int->Int->D}(hg:∀i j H B,Rp K H B (g' i j) (g i j)):Op2 K (rI C g) (ii λi j=>if C i j then some (g' i j) else none):=by
 intro H B x y dx dy d Q hb rx ry h k;cases dx<;>cases dy<;>simp only[ii] at h<;>try cases h
 rename_i i j;split at h
 ·cases h
  rw[o8] at rx ry;subst rx ry;exact⟨i,j,rfl,rfl,by assumption,k _ H (Same.refl H) (hg i j H B)⟩
 ·cases h
theorem ss0{g:Int->Int->V}{g':Int->Int->D}(hg:∀i j H B,Rp K H B (g' i j) (g i j)):Op2 K (rI0 g) (ii λi j=>some (g' i j)):=by
 intro H B x y dx dy d Q hb rx ry h k;cases dx<;>cases dy<;>simp only[ii] at h<;>try cases h
 rename_i i j;rw[o8] at rx ry;subst rx ry;exact⟨i,j,rfl,rfl,k _ H (Same.refl H) (hg i j H B)⟩
instance decDiv(i j:Int):Decidable (dh0 i j):=inferInstanceAs (Decidable (0<j/\j<1073741824))
instance decPow(i j:Int):Decidable (e90 i j):=inferInstanceAs (Decidable (0<=j/\j<=1000000/\i.natAbs<2 ^ 64))
variable{a:Expr}{ga:Ds->Option D}
theorem ih0(ha:PD X a ga)(hb:PD X b gb):PD X (.BinOp a .Sub b pos) (o2 ga gb d10):=vu0 Yp0 (ss0 (g':=λi j=>.int (i - j)) λ_ _ _ _=>by rw[o8]) ha hb
theorem V9(ha:PD X a ga)(hb:PD X b gb):PD X (.BinOp a .FloorDiv b pos) (o2 ga gb X4):=vu0 ar0 (sn0 (C:=dh0) (g':=λi j=>.int (i/j)) λ_ _ _ _=>by rw[o8]) ha hb
theorem X3(ha:PD X a ga)(hb:PD X b gb):PD X (.BinOp a .Mod b pos) (o2 ga gb d9):=vu0 Xw0 (sn0 (C:=λ_ j=>0<j) (g':=λi j=>.int (i%j)) λ_ _ _ _=>by rw[o8]) ha hb
theorem iq0(ha:PD X a ga)(hb:PD X b gb):PD X (.BinOp a .Pow b pos) (o2 ga gb mw0):=vu0 Xi0 (sn0 (C:=e90) (g':=λi j=>.int (i ^ j.toNat)) λ_ _ _ _=>by rw[o8]) ha hb
end
end DL
namespace L2
open Spec PyProof.Rows
def c90(K:W.Frag):R2:=λx y H Q=>∃l b xs zs,x=.ref l/\y=.ref b/\SqL K H l xs/\SqL K H b zs/\xs.length+zs.length<=sizeLine/\∀p,H p=none->Q (.ref p) (upd H p (.lst (xs++zs)))
theorem ag0:OpR X (binaryOp .Add) (c90 X.K):=by
 intro pins s σ H x y v u Q I rx ry h;obtain⟨l,b,xs,zs,rfl,rfl,hH,hB,hz,q⟩:=h;cases rx;cases ry;obtain⟨its,r,p1,z1⟩:=I.list hH;obtain⟨J,r2,p2,z2⟩:=I.list hB;obtain⟨⟨cls,dd,data,sl⟩,ho,hc,n,hd⟩:=p1.isList;obtain⟨⟨a2,a0,data2,a1⟩,L,Y,n2,O⟩:=p2.isList;simp only at hc hd Y O;subst hc hd Y O;have e:its.toArray++J.toArray=(its++J).toArray:=by simp
 have Z:its.toArray.size+J.toArray.size<=sizeLine:=by
  rw[List.size_toArray,List.size_toArray,← r.length,← r2.length];exact hz
 refine p4 ⟨_,ho,rfl⟩ ⟨_,L,rfl⟩ noFill_list_add seq_list_add PySem.F.slot_list_add PySem.F.entry_list_add (PySem.F.args_list_add_2 _ _) (list_addW l b its.toArray J.toArray n n2 dd a0 sl a1 Z) ⟨ho,L,?_⟩;rw[e];exact⟨.ref _,_,I.lnew (t':=s.toks) (r.append r2) (by rw[List.length_append];exact hz),rfl,q _ I.fresh⟩
end L2
namespace DL
open Spec PyProof.Rows L2
section
variable{a:Expr}{ga:Ds->Option D}
theorem pf0(hb:∀a,B a->NB (H a)){p:Addr}(h:H p=none):¬B p:=λz=>hb p z h
theorem tg0{p:Addr}{xs:List V}(hb:∀a,B a->NB (H a))(h:H p=none)(r:Rps K H B ds xs):Rp K (upd H p (.lst xs)) B (.lst ds) (.ref p):=by
 rw[Y6];exact⟨p,xs,rfl,.inl ⟨pf0 hb h,.inl m8⟩,r.same (Z1 h)⟩
theorem qm0{p:Addr}{xs:List V}(hb:∀a,B a->NB (H a))(h:H p=none)(r:Rps K H B ds xs):Rp K (upd H p (.tup xs)) B (.tup ds) (.ref p):=by
 rw[Y9];exact⟨p,xs,rfl,⟨pf0 hb h,m8⟩,r.same (Z1 h)⟩
theorem zu0:Op2 K (rI0 λi j=>.bl (decide (i<j))) ltD:=ss0 (g':=λi j=>.bl (decide (i<j))) λ_ _ _ _=>by rw[Z8]
theorem r00:Op2 K (rI0 λi j=>.bl (decide (j<i))) gtD:=ss0 (g':=λi j=>.bl (decide (j<i))) λ_ _ _ _=>by rw[Z8]
theorem rs0:Op2 K (rI0 λi j=>.bl (decide (j<=i))) geD:=ss0 (g':=λi j=>.bl (decide (j<=i))) λ_ _ _ _=>by rw[Z8]
theorem Zx0{x y:V}{dx dy:D}{b:Bool}(rx:Rp K H B dx x)(ry:Rp K H B dy y)(h:eqS dx dy=some b):Y10 x y=true/\decide (x=y)=b:=by
 cases dx<;>cases dy<;>simp only[eqS] at h<;>try cases h
 all_goals
  simp only[W0,Z8,o8,Z9] at rx ry;subst rx ry;refine⟨rfl,?_⟩;simp
theorem S8:Op2 K rEq eqD:=by
 intro H B x y dx dy d Q hb rx ry h k;unfold eqD at h;cases e:eqS dx dy with
 | none=>rw[e] at h;cases h
 | some b =>
  rw[e] at h;cases h;obtain⟨h1,h2⟩:=Zx0 rx ry e;exact⟨h1,by rw[h2];exact k _ H (Same.refl H) (by rw[Z8])⟩
theorem t80:Op2 K (λx y H Q=>y=.non/\Q (.bl (decide (x=.non))) H) sb0:=by
 intro H B x y dx dy d Q hb rx ry h k;have hy:dy=.non:=by cases dy<;>first|rfl|cases h
 subst hy;cases h;rw[W0] at ry;refine⟨ry,k _ H (Same.refl H) ?_⟩;rw[Z8];cases dx<;>simp only[W0,Z8,o8,Z9,Y9,Y6,xu0,jp0] at rx
 all_goals first
  | (subst rx;rfl)
  | (obtain⟨a,xs,rfl,_⟩:=rx;rfl)
theorem Zv0(xs:List α)(i:Int):L2.atI xs i=DL.atI xs i:=rfl
theorem vi0(n d:Nat)(o:Option Int):HT.sIx n d o=sIx n d o:=by cases o<;>rfl
theorem ko0{xs:List V}{i:Int}{d:D}(r:Rps K H B ds xs)(h:DL.atI ds i=some d):∃v,L2.atI xs i=some v/\Rp K H B d v:=by
 rw[Zv0];unfold DL.atI at h ⊢;rw[r.length];cases e:DL.ixN ds.length i with
 | none=>rw[e] at h;cases h
 | some j =>
  rw[e] at h;exact r.get h
theorem Zf0:Op2 K (rIx K) ixD:=by
 intro H B x y dx dy d Q hb rx ry h k;cases dx<;>cases dy<;>simp only[ixD] at h<;>try cases h
 ·split at h
  ·rename_i hz
   rw[Z9] at rx;rw[o8] at ry;subst rx ry;obtain⟨c,hc,rfl⟩:=Al0.mp h;exact .inr (.inr ⟨_,_,c,rfl,rfl,hz,hc,k _ H (Same.refl H) (by rw[Z9])⟩)
  ·cases h
 ·rw[Y9] at rx
  rw[o8] at ry;subst ry;obtain⟨a,xs,rfl,q,r⟩:=rx;obtain⟨v,hv,rv⟩:=ko0 r h;exact .inr (.inl ⟨a,xs,_,v,rfl,rfl,q.to,hv,k _ H (Same.refl H) rv⟩)
 ·rw[Y6] at rx
  rw[o8] at ry;subst ry;obtain⟨a,xs,rfl,q,r⟩:=rx;obtain⟨v,hv,rv⟩:=ko0 r h;exact .inl ⟨a,xs,_,v,rfl,rfl,q.to,hv,k _ H (Same.refl H) rv⟩
theorem o5(ha:PD X a ga)(hb:PD X b gb)(hs:qs0 b:=by exact λ_ _=>rfl):PD X (.Subscript a b pos) (o2 ga gb ixD):=Wg0 Yz0 Zf0 ha hb hs
structure PDO(X:Cx)(e:Option Expr)(g:Ds->Option (Option Int)):Prop where
 mk::go:∀B δ,PO X e (fun σ H Q=>∃o,Env X.K H B σ δ/\g δ=some o/\∀H',Same H H'->Q o H')
instance{X:Cx}{e:Option Expr}{g:Ds->Option (Option Int)}:CoeFun (PDO X e g) (λ_=>∀B δ,PO X e (fun σ H Q=>∃o,Env X.K H B σ δ/\g δ=some o/\∀H',Same H H'->Q o H')):=⟨PDO.go⟩
theorem K3:PDO X none O3:=.mk λB δ pins s σ H Q I ⟨o,en,h,k⟩=>by
 cases h;exact cv0 pins s σ H Q I (k H (Same.refl H))
theorem Q6(h:PD X e g):PDO X (some e) (someO g):=.mk λB δ pins s σ H Q I ⟨o,en,hq,k⟩=>by
 unfold someO at hq;cases e1:g δ with
 | none=>rw[e1] at hq;cases hq
 | some d =>
  rw[e1] at hq;cases d<;>simp[asI] at hq
  subst hq;exact bk0 (h B δ) pins s σ H Q I ⟨_,en,e1,λv H' s' r=>⟨_,by rw[o8] at r;exact r,k H' s'⟩⟩
theorem kl0{xs:List V}(r:Rps K H B ds xs)(lo hi:Option Int):Rps K H B (cutD ds lo hi) (up0 xs lo hi):=by
 unfold cutD up0;rw[r.length,vi0,vi0];exact(r.drop _).take _
theorem z40{d:D}{xs:List V}(h:Rps K H B [d] xs):∃v,xs=[v]/\Rp K H B d v:=by
 rw[o4] at h;obtain⟨x,r,rfl,h1,h2⟩:=h;rw[o7] at h2;subst h2;exact⟨x,rfl,h1⟩
theorem W10:FnR K (λxs H Q=>(∃z,xs=[.str z]/\z.length<=sizeLine/\Q (.int z.length) H)∨∃p ys,xs=[.ref p]/\(SqL K H p ys∨SqT K H p ys)/\Q (.int ys.length) H) Z5:=by
 intro H B xs ds d Q hb r h k;unfold Z5 at h;split at h
 ·split at h
  ·cases h
   obtain⟨v,rfl,r1⟩:=z40 r;rw[Z9] at r1;subst r1;exact .inl ⟨_,rfl,by assumption,k _ H (Same.refl H) (by rw[o8])⟩
  ·cases h
 ·cases h
  obtain⟨v,rfl,r1⟩:=z40 r;rw[Y6] at r1;obtain⟨a,ys,rfl,q,rr⟩:=r1;exact .inr ⟨a,ys,rfl,.inl q.to,k _ H (Same.refl H) (by rw[o8,rr.length])⟩
 ·cases h
  obtain⟨v,rfl,r1⟩:=z40 r;rw[Y9] at r1;obtain⟨a,ys,rfl,q,rr⟩:=r1;exact .inr ⟨a,ys,rfl,.inr q.to,k _ H (Same.refl H) (by rw[o8,rr.length])⟩
 ·cases h
theorem W8(hm:X.mg "len"=none)(ha:PDA X [e] gA)(hg:Gl X "len" := by rfl)(he:starEach [e] X.env=(false,eval e X.env)::starEach [] X.env:=by rfl)(hpl:(backTo pos (starEach [] X.env)).any (·.1)=false:=by rfl) :
  PD X (.Call (.Name "len" p) [e] [] pos) (oA gA Z5):=fy0 (n60.or mp0) W10 hm PySem.boot_len ha hg (by decide) (by decide) he hpl
theorem ml0:∀{ds:List D} {xs:List V} {bs:List Str},Rps K H B ds xs->ue0 ds=some bs->xs=bs.map V.str
 | [],_,_,r,h=>by
  cases h;rw[o7] at r;exact r
 | d::ds,_,bs,r,h=>by
  rw[o4] at r;obtain⟨x,t,rfl,r1,r2⟩:=r;cases d<;>simp only[ue0] at h<;>try cases h
  obtain⟨t',e,rfl⟩:=Al0.mp h;rw[Z9] at r1;rw[r1,ml0 r2 e];rfl
theorem aq0{apos cpos:Pos}(ho:PD X o g)(ha:PDA X [e] gA)(hbase:attributeBase o "join" X.env (eval o X.env)=eval o X.env:=by rfl)
  (hfew:((backTo cpos (starEach [e] X.env)).all (λx=>!x.1)&&(backToKw cpos (keywordEach [] X.env)).all (λx=>x.1.isSome)
  &&decide ([e].length+([]:List Keyword).length+(if ([]:List Keyword).isEmpty then 0 else 1)<30))=true:=by rfl)
  (hline:(apos.endLine==cpos.line)=true:=by rfl) (hs:starEach [e] X.env=(false,eval e X.env)::starEach [] X.env:=by rfl) (hplain:(backTo cpos (starEach [] X.env)).any (·.1)=false:=by rfl) :
  PD X (.Call (.Attribute o "join" apos) [e] [] cpos) (ta0 g gA):=.mk λB δ =>
 (ja0 F.plainAttrs_str F.slot_str_join F.type_str_join b80 (ho B δ) (ha B δ) hbase hfew hline hs hplain).imp fun σ H Q ⟨d,en,h,k⟩=>by
  unfold ta0 at h;cases e1:g δ with
  | none=>rw[e1] at h;cases h
  | some x =>
   cases e2:gA δ with
   | none=>rw[e1,e2] at h;cases h
   | some ds =>
    rw[e1,e2] at h;simp only[Option.bind_some] at h;unfold o90 at h;split at h
    ·cases e3:ue0 _ with
     | none=>rw[e3] at h;cases h
     | some ys =>
      rw[e3] at h;simp only[Option.bind_some] at h;split at h
      ·cases h
       refine⟨_,en,e1,λv H1 s1 r1=>?_⟩;rw[Z9] at r1;subst r1;refine⟨rfl,_,en.same s1,e2,λvs H2 s2 r2=>?_⟩;obtain⟨w,rfl,r3⟩:=z40 r2;rw[Y6] at r3;obtain⟨a,zs,rfl,q,rr⟩:=r3;have:=ml0 rr e3;subst this;exact⟨_,a,ys,rfl,rfl,q.to,by assumption,k _ H2 (s1.trans s2) (by rw[Z9])⟩
      ·cases h
    ·cases h
theorem xb0:FnR K (λxs H Q=>∃p ys,xs=[.ref p]/\((SqL K H p ys/\∀l,H l=none->Q (.ref l) (upd H l (.tup ys)))∨(SqT K H p ys/\Q (.ref p) H))) J6:=by
 intro H B xs ds d Q hb r h k;unfold J6 at h;split at h
 ·cases h
  obtain⟨v,rfl,r1⟩:=z40 r;rw[Y6] at r1;obtain⟨a,ys,rfl,q,rr⟩:=r1;exact⟨a,ys,rfl,.inl ⟨q.to,λl hl=>k _ _ (Z1 hl) (qm0 hb hl rr)⟩⟩
 ·cases h
  obtain⟨v,rfl,r1⟩:=z40 r;have F:=r1;rw[Y9] at r1;obtain⟨a,ys,rfl,q,rr⟩:=r1;exact⟨a,ys,rfl,.inr ⟨q.to,k _ H (Same.refl H) F⟩⟩
 ·cases h
end
section
variable{a:Expr}{ga:Ds->Option D}
theorem nq0(h:PD X a ga):PD X (.UnaryOp .USub a pos) (unG m50 ga):=.mk λB δ=>(Wf0 Zy0 (h B δ)).imp fun σ H Q ⟨d,en,h,k⟩=>by
 unfold unG at h;cases e1:ga δ with
 | none=>rw[e1] at h;cases h
 | some x =>
  rw[e1] at h;cases x<;>simp[m50] at h
  subst h;exact⟨_,en,e1,λv H' s r=>⟨_,by rw[o8] at r;exact r,k _ H' s (by rw[o8])⟩⟩
theorem d90:PD X (.Dict [] [] pos) (gc (.dct (.inl []) [])):=.mk λB δ pins s σ H Q I ⟨d,en,h,k⟩=>by
 cases h;have hb:sysModules<s.heap.objs.size:=I0 (by decide) ((I.mod.glob.keeps I.bk).lt:mainGlobals<s.heap.objs.size);have hf:H s.heap.objs.size=none:=I.hok.fresh (A4 _);refine wpAny_Dict_empty ⟨.ref s.heap.objs.size,_,I.laid (a:=s.heap.objs.size) (o:=.dK []) (t':=s.toks) (λ_ _ q=>A8 _ q) (A4 _)
  ⟨D3 _,X0.mpr (B7 (A9 hb)),[],.nil,Heap.DictOf.new s.heap⟩,rfl,k _ _ (Z1 hf) ?_⟩
 rw[su0];exact⟨_,[],rfl,en.free hf,m8,rfl,by rw[o7]⟩
def FnD(P:Program)(w:World)(K:W.Frag)(mg:Str->Option Value)(base:Heap)(x:Str)(k:Nat)(ps:List Str)(f:List D->Option D):Prop :=
 ∃(fa:Addr) (fd:FuncData),FnOk P w K mg base CX0 k fa fd ps (spD K f)/\mg x=some (.ref fa)/\W.keepIn K (.ref fa)=true/\Binds K fd ps []
theorem d7{k:Nat}{ps:List Str}{f:List D->Option D}(C:FnD X.prog X.w X.K X.mg X.base x k ps f)(hr:Room m X.A)(hk:k<=m)(ha:PDA X (e::es) gA)(hg:Gl X x:=by rfl)(hdb:(x==("__debug__" : Str))=false:=by decide)
  (he:starEach (e::es) X.env=(false,eval e X.env)::starEach es X.env:=by rfl) (hpl:(backTo pos (starEach es X.env)).any (·.1)=false:=by rfl):PD X (.Call (.Name x p) (e::es) [] pos) (oA gA f):=by
 obtain⟨fa,fd,F,hm,kp,hb⟩:=C;exact b70 F (hr.mono hk) hm kp hb ha hg hdb he hpl
theorem yq0{sc scope:Scope}{elt iter tg:Expr}{ifs:List Expr}{N N':List Str}{n:Nat}{caps:List Nat}{gi:Ds->Option (List D)}{idx:List Nat}{f:D->Ds->Option Ds}{gt:Ds->Option Bool}{ge:Ds->Option D}
  (ok:CompOk sc scope N N' n caps) (hidx:∀j∈idx,j<n) (hi:PID X tg iter gi)
  (hg:∀cl s H ex,PGD (Y5 X scope cl N' s H ex) tg idx f) (ht:∀cl s H ex,PFD (Y5 X scope cl N' s H ex) ifs gt) (he:∀cl s H ex,PD (Y5 X scope cl N' s H ex) elt ge)
  (hc:X.calm=true:=by rfl) (hsc:X.env.scope=sc:=by rfl) (hN:X.N=N:=by rfl) (hs:∀x,foldedSetIterable iter X.env x=pure x:=by intro _;rfl) :
  PD X (.ListComp elt [⟨tg,iter,ifs,0⟩] scope pos) (W3 n caps gi f gt ge):=cz0 hc hsc (hN▸ok) hidx hi hg ht he hs
theorem s30(i:Nat){y:Str}{py spos:Pos}{sc scope:Scope}{elt iter tg:Expr}{ifs:List Expr}{N N':List Str}{n:Nat}{caps:List Nat}{gi:Ds->Option (List D)}{idx:List Nat}{f:D->Ds->Option Ds}{gt:Ds->Option Bool}{ge:Ds->Option D}
  (hnd:N.Nodup) (ok:CompOk sc scope N N' n caps) (hidx:∀j∈idx,j<n) (hi:PID X tg iter gi)
  (hg:∀cl s H ex,PGD (Y5 X scope cl N' s H ex) tg idx f) (ht:∀cl s H ex,PFD (Y5 X scope cl N' s H ex) ifs gt) (he:∀cl s H ex,PD (Y5 X scope cl N' s H ex) elt ge)
  (hc:X.calm=true:=by rfl) (hsc:X.env.scope=sc:=by rfl) (hN:X.N=N:=by rfl)
  (hiN:X.N[i]?=some y:=by rfl) (hy:Loc X.env.scope y:=by first|exact Or.inl rfl|exact Or.inr rfl)
  (hsw:swapsWith (.ListComp elt [⟨tg,iter,ifs,0⟩] scope pos) (some (.Name y py)) spos.line X.env=pure true:=by rfl)
  (hs:∀x,foldedSetIterable iter X.env x=pure x:=by intro _;rfl)
  (hf:X.fn y=true∨X.env.scope.names.lookup y=some .local:=by first|exact .inl rfl|exact .inr rfl|assumption) :
  PSD X (.Assign [.Name y py] (.ListComp elt [⟨tg,iter,ifs,0⟩] scope pos) spos) (j4 (gN i) (W3 n caps gi f gt ge)):=lw0 i (hN▸hnd) hc hsc (hN▸ok) hidx hi hg ht he hiN hy hsw hs hf
end
end DL
namespace DL
open Spec PyProof.Rows
@[simp] def G3:Sl->Sl
 | .ow d=>.sh (unl d)
 | s=>s
@[simp] def frz(δ:Ds):Ds:=δ.map G3
@[simp] def flat:D->Bool
 | .non=>true|.bl _=>true|.int _=>true|.str _=>true|_=>false
@[simp] def zz0(g:GE):GE:=fun δ=>(g (frz δ)).bind λd=>if flat d=true then some d else none
@[simp] def xz0(g:GB):GB:=fun δ=>g (frz δ)
@[simp] def xi0(g:GE):GE:=fun δ=>g (frz δ)
@[simp] def frzAt(i:Nat)(δ:Ds):Ds:=match δ[i]? with
 | some s=>δ.set i (G3 s)
 | none=>δ
@[simp] def Zs0(i:Nat)(G:GS):GS:=fun δ=>G (frzAt i δ)
@[simp] def O1(i:Nat)(g:GE):GS:=fun δ=>(g δ).map λd=>.nx (δ.set i (.ow d))
abbrev GX:=Ds->Option (D×Ds)
@[simp] def S6(g:GE):GX:=fun δ=>(g δ).map λd=>(d,δ)
variable{gx:DL.GX}
@[simp] def T3(gx:GX)(ft:D->Ds->Option Ds):GS:=fun δ=>(gx δ).bind λr=>(ft r.1 r.2).map .nx
@[simp] def X7(gx:GX):GS:=fun δ=>(gx δ).map λr=>.nx r.2
@[simp] def owL(i:Nat)(δ:Ds):Option (List D):=match δ[i]? with
 | some (.ow (.lst ds))=>some ds
 | _=>none
@[simp] def O2(i:Nat)(g:GE):GX:=fun δ=>(owL i δ).bind λds=>(g δ).bind λd=>if ds.length<sizeLine then some (.non,δ.set i (.ow (.lst (ds++[d])))) else none
@[simp] def xl0(i:Nat)(g:GE):GX:=fun δ=>(owL i δ).bind λds=>(g δ).bind λd=>match d with
 | .lst es=>if ds.length+es.length<=sizeLine then some (.non,δ.set i (.ow (.lst (ds++es)))) else none
 | _=>none
@[simp] def ws0(i:Nat):GX:=fun δ=>(owL i δ).bind λds=>(ds.getLast?).map λd=>(d,δ.set i (.ow (.lst ds.dropLast)))
@[simp] def setAt(i:Nat)(g:GE):D->Ds->Option Ds:=λv δ=>(owL i δ).bind λds=>(g δ).bind λd=>match d with
 | .int k=>(ixN ds.length k).map λj=>δ.set i (.ow (.lst (ds.set j v)))
 | _=>none
abbrev V5:=Sum Int Str
@[simp] def z80:D->Option V5
 | .int i=>some (.inl i)
 | .str x=>some (.inr x)
 | _=>none
def ua0:List D->Option (List V5)
 | []=>some []
 | d::ds=>(z80 d).bind λk=>(ua0 ds).map (k::·)
@[simp] def za0:D->Option (List V5)
 | .tup ds=>ua0 ds
 | _=>none
def N7{κ:Type}[DecidableEq κ]:List κ->List D->κ->Option D
 | k::ks,d::ds,q=>if k=q then some d else N7 ks ds q
 | _,_,_=>none
def T5{κ:Type}[DecidableEq κ](ks:List κ)(k:κ):Bool:=ks.any λq=>decide (q=k)
def V6{κ:Type}[DecidableEq κ](ks:List κ)(k:κ):List κ:=if T5 ks k=true then ks else ks++[k]
def W7{κ:Type}[DecidableEq κ](ks:List κ)(ds:List D)(q:κ)(v:D):List D:=if T5 ks q=true then (ks.zip ds).map (λp=>if p.1=q then v else p.2) else ds++[v]
@[simp] def qt0(i:Nat)(δ:Ds):Option (List V5×List D):=match δ[i]? with
 | some (.ow (.dct (.inl ks) ds))=>some (ks,ds)
 | _=>none
@[simp] def putAt(i:Nat)(g:GE):D->Ds->Option Ds:=λv δ=>(qt0 i δ).bind λr=>(g δ).bind λd=>(z80 d).bind λk =>
 if r.1.length<sizeLine then some (δ.set i (.ow (.dct (.inl (V6 r.1 k)) (W7 r.1 r.2 k v)))) else none
@[simp] def q80(i:Nat)(δ:Ds):Option (List (List V5)×List D):=match δ[i]? with
 | some (.ow (.dct (.inr ks) ds))=>some (ks,ds)
 | _=>none
@[simp] def um0(i:Nat)(g:GE):D->Ds->Option Ds:=λv δ=>(q80 i δ).bind λr=>(g δ).bind λd=>(za0 d).bind λk =>
 if r.1.length<sizeLine then some (δ.set i (.ow (.dct (.inr (V6 r.1 k)) (W7 r.1 r.2 k v)))) else none
@[simp] def yk0:D->D->Option D
 | .dct ks ds,d=>match ks with
  | .inl ks=>(z80 d).bind λk=>N7 ks ds k
  | .inr ks=>(za0 d).bind λk=>N7 ks ds k
 | _,_=>none
@[simp] def ze0(neg:Bool):D->D->Option D
 | d,.dct ks ds=>match ks with
  | .inl ks=>(z80 d).map λk=>.bl (xor neg (T5 ks k))
  | .inr ks=>(za0 d).map λk=>.bl (xor neg (T5 ks k))
 | _,_=>none
def W9(gt:GB)(G:GS):Nat->Ds->Option Res
 | 0,_=>none
 | n+1,δ=>match gt δ with
  | some false=>some (.nx δ)
  | some true=>match G δ with
   | some (.nx δ')=>W9 gt G n δ'
   | some (.ct δ')=>W9 gt G n δ'
   | some (.bk δ')=>some (.nx δ')
   | r=>r
  | none=>none
@[simp] def J0(i j:Nat):D->Ds->Option Ds
 | .tup [a,b],δ=>some ((δ.set i (.sh a)).set j (.sh b))
 | _,_=>none
mutual
def deq:D->D->Bool
 | .non,.non=>true
 | .bl a,.bl b=>a==b
 | .bl a,.int b=>(if a then 1 else 0)==b
 | .int a,.bl b=>a==(if b then 1 else 0)
 | .int a,.int b=>a==b
 | .str a,.str b=>a==b
 | .tup xs,.tup ys=>z70 xs ys
 | .lst xs,.lst ys=>z70 xs ys
 | _,_=>false
def z70:List D->List D->Bool
 | [],[]=>true
 | x::xs,y::ys=>deq x y&&z70 xs ys
 | _,_=>false
end
mutual
def lean:D->Nat->Bool
 | .dct _ _,_=>false
 | .fn _ _,_=>false
 | .tup xs,n+1=>leans xs n
 | .lst xs,n+1=>leans xs n
 | .tup _,0=>false
 | .lst _,0=>false
 | _,_=>true
def leans:List D->Nat->Bool
 | [],_=>true
 | x::xs,n=>lean x n&&leans xs n
end
@[simp] def ym0(x y:D):Option D:=if lean x 50=true/\lean y 50=true then some (.bl (deq x y)) else none
@[simp] def M5(x y:D):Option D:=if lean x 50=true/\lean y 50=true then some (.bl (!deq x y)) else none
@[simp] def eqF:D->D->Bool
 | .non,.non=>true
 | .bl a,.bl b=>a==b
 | .bl a,.int b=>(if a then 1 else 0)==b
 | .int a,.bl b=>a==(if b then 1 else 0)
 | .int a,.int b=>a==b
 | .str a,.str b=>a==b
 | _,_=>false
@[simp] def G8(neg:Bool):D->D->Option D
 | x,.lst ys=>if flat x=true/\ys.all flat=true then some (.bl (xor neg (ys.any λy=>eqF y x))) else none
 | x,.tup ys=>if flat x=true/\ys.all flat=true then some (.bl (xor neg (ys.any λy=>eqF y x))) else none
 | _,_=>none
@[simp] def intOfD:List D->Option D
 | [.int i]=>some (.int i)
 | [.bl k]=>some (.int (if k then 1 else 0))
 | _=>none
@[simp] def yz0:List D->Option D
 | [.lst ds]=>some (.lst ds)
 | [.tup ds]=>some (.lst ds)
 | _=>none
def mkF(n:Nat)(N:List Str)(G:GS)(ds:List D):Option D:=if ds.length=n then (match G (Z4 N ds) with
 | some (.rt d)=>some d
 | some (.rf d)=>if isL d=true then none else some d
 | some (.nx _)=>some .non
 | _=>none) else none
theorem W6{G:GS}{d:D}(h:mkF n N G ds=some d):ds.length=n/\(G (Z4 N ds)=some (.rt d)∨(d=.non/\∃δ,G (Z4 N ds)=some (.nx δ))∨G (Z4 N ds)=some (.rf d)/\isL d=false):=by
 unfold mkF at h;split at h
 ·rename_i hl
  refine⟨hl,?_⟩;split at h
  ·rename_i e;cases h;exact .inl e
  ·rename_i e
   split at h
   ·cases h
   ·rename_i hn
    cases h;exact .inr (.inr ⟨e,C50.mpr hn⟩)
  ·rename_i e;cases h;exact .inr (.inl ⟨rfl,_,e⟩)
  ·cases h
 ·cases h
def mkN(n:Nat)(N:List Str)(G:GS)(ds:List D):Option D:=if ds.length=n then (match G (Z4 N ds) with
 | some (.rf d)=>if isL d=true then none else some d
 | _=>none) else none
theorem zt0{G:GS}{d:D}(h:mkN n N G ds=some d):ds.length=n/\G (Z4 N ds)=some (.rf d)/\isL d=false:=by
 unfold mkN at h;split at h
 ·rename_i hl
  refine⟨hl,?_⟩;split at h
  ·rename_i e
   split at h
   ·cases h
   ·rename_i hn
    cases h;exact⟨e,C50.mpr hn⟩
  ·cases h
 ·cases h
theorem R8{G:GS}{d:D}(hl:ds.length=n)(h:G (Z4 N ds)=some (.rf d))(hn:isL d=false:=by rfl):mkN n N G ds=some d:=by
 unfold mkN;rw[if_pos hl,h];simp only[];rw[hn];rfl
@[simp] def z50(g:GE):GS:=fun δ=>(g δ).map .rf
@[simp] def qe0(i:Nat):GS:=fun δ=>match δ[i]? with
 | some (.ow d)=>some (.rf d)
 | _=>none
theorem S7{G1 G2:GS}{d:D}(h:G1 δ=some (.rf d)):v8 G1 G2 δ=some (.rf d):=by unfold v8;rw[h]
theorem G9{g:GE}{d:D}(h:g δ=some d):z50 g δ=some (.rf d):=by unfold z50;rw[h];rfl
theorem Z2{G:GS}{d:D}(hl:ds.length=n)(h:G (Z4 N ds)=some (.rt d)):mkF n N G ds=some d:=by
 unfold mkF;rw[if_pos hl,h]
theorem u5{G1 G2:GS}{r:Option Res}(h:G1 δ=some (.nx δ'))(k:G2 δ'=r):v8 G1 G2 δ=r:=(Y90 h).trans k
@[simp] def Z3:D->D->Option D
 | .int i,.int j=>some (.int (i+j))
 | .str x,.str y=>if x.length+y.length<=sizeLine then some (.str (x++y)) else none
 | .lst xs,.lst ys=>if xs.length+ys.length<=sizeLine then some (.lst (xs++ys)) else none
 | .tup xs,.tup ys=>if xs.length+ys.length<=sizeLine then some (.tup (xs++ys)) else none
 | _,_=>none
def e00(x:Str)(n:Int):Str:=⟨(List.replicate n.toNat x.cps).foldl (·++·) #[]⟩
@[simp] def J2:D->D->Option D
 | .int i,.int j=>if (-(2 ^ 64)<i/\i<2 ^ 64)∨(-(2 ^ 64)<j/\j<2 ^ 64) then some (.int (i*j)) else none
 | _,_=>none
@[simp] def slA(d:D)(lo hi:Option Int):Option D:=match d with
 | .str z=>if z.length<=sizeLine then some (.str (Txt.slice z lo hi)) else none
 | .lst xs=>some (.lst (cutD xs lo hi))
 | .tup xs=>some (.tup (cutD xs lo hi))
 | _=>none
@[simp] def N5(g:GE)(gl gh:GO):GE:=fun δ=>(g δ).bind λd=>(gl δ).bind λl=>(gh δ).bind λh=>slA d l h
end DL
variable{gx:DL.GX}
namespace L2
open Spec PyProof.Rows
section
variable[DecidableEq κ]
def y60(kvs:List (κ×V))(k:κ):Option V:=(kvs.find? λkv=>decide (kv.1=k)).map (·.2)
def putK(kvs:List (κ×V))(k:κ)(v:V):List (κ×V) :=
 if (kvs.any λkv=>decide (kv.1=k))=true then kvs.map (λkv=>if kv.1=k then (kv.1,v) else kv) else kvs++[(k,v)]
theorem wc0{p:κ×V}{r:List (κ×V)}{k:κ}(e:p.1=k):y60 (p::r) k=some p.2:=by simp[y60,List.find?_cons,e]
theorem wb0{p:κ×V}{r:List (κ×V)}{k:κ}(e:¬p.1=k):y60 (p::r) k=y60 r k:=by simp[y60,List.find?_cons,e]
theorem nk0(k:κ):∀kvs:List (κ×V),(kvs.any λkv=>decide (kv.1=k))=(y60 kvs k).isSome
 | []=>rfl
 | p::r=>by
  rw[List.any_cons]
  by_cases e:p.1=k
  ·simp only[wc0 e,decide_eq_true e,Bool.true_or,Option.isSome_some]
  ·rw[wb0 e,decide_eq_false e,Bool.false_or];exact nk0 k r
theorem zs0(kvs:List (κ×V))(k:κ)(v:V):(putK kvs k v).length<=kvs.length+1:=by
 unfold putK;split
 ·rw[List.length_map];omega
 ·rw[List.length_append,List.length_cons,List.length_nil];omega
theorem RelO.isSome_eq{o:Option V}{u:Option Value}(r:RelO o u):o.isSome=u.isSome:=by
 cases o with
 | none=>cases u with
  | none=>rfl
  | some _=>exact(show False from r).elim
 | some _=>cases u with
  | none=>exact(show False from r).elim
  | some _=>rfl
theorem KV.val{kvs:List (κ×V)}{vs:List (κ×Value)}(r:KV kvs vs)(k:κ):RelO (y60 kvs k) (valueAt vs k):=by
 unfold KV at r
 induction r with
 | nil=>exact True.intro
 | @cons p q ps qs h t ih =>
  obtain⟨h1,h2⟩:=h
  by_cases e:p.1=k
  ·have e':q.1=k:=h1.symm.trans e
   have b:valueAt (q::qs) k=some q.2:=by simp[valueAt,List.find?_cons,e']
   rw[wc0 e,b];exact h2
  ·have e':¬q.1=k:=λz=>e (h1.trans z)
   have b:valueAt (q::qs) k=valueAt qs k:=by simp[valueAt,List.find?_cons,e']
   rw[wb0 e,b];exact ih
theorem KV.any{kvs:List (κ×V)}{vs:List (κ×Value)}(r:KV kvs vs)(k:κ):(kvs.any λkv=>decide (kv.1=k))=vs.any λkv=>decide (kv.1=k):=by
 unfold KV at r
 induction r with
 | nil=>rfl
 | cons h t ih=>rw[List.any_cons,List.any_cons,ih,h.1]
theorem KV.repl{kvs:List (κ×V)}{vs:List (κ×Value)}(r:KV kvs vs)(k:κ){y:V}(ry:RelV y u) :
  KV (kvs.map λkv=>if kv.1=k then (kv.1,y) else kv) (vs.map λkv=>if kv.1=k then (kv.1,u) else kv):=by
 unfold KV at r ⊢
 induction r with
 | nil=>exact .nil
 | @cons p q ps qs h t ih =>
  rw[List.map_cons,List.map_cons];refine .cons ?_ ih;obtain⟨h1,h2⟩:=h
  by_cases e:p.1=k
  ·rw[if_pos e,if_pos (h1.symm.trans e)];exact⟨h1,ry⟩
  ·rw[if_neg e,if_neg (λz=>e (h1.trans z))];exact⟨h1,h2⟩
theorem KV.put{kvs:List (κ×V)}{vs:List (κ×Value)}(r:KV kvs vs)(k:κ){y:V}(ry:RelV y u):KV (putK kvs k y) (stored vs k u):=by
 unfold putK stored;rw[r.any k]
 by_cases e:(vs.any λkv=>decide (kv.1=k))=true
 ·rw[if_pos e,if_pos e];exact r.repl k ry
 ·rw[if_neg e,if_neg e];exact Paired.snoc r ⟨rfl,ry⟩
theorem KV.length{kvs:List (κ×V)}{vs:List (κ×Value)}(r:KV kvs vs):kvs.length=vs.length:=y8 r
end
theorem rb0{P:Program}{w:World}{k:Key}(r:RelV (kV k) u):(R3 P w).is k u=true:=by
 cases k with
 | inl i=>obtain⟨t,e⟩:=(show ∃t,u=Value.int i t from r);subst e;exact lu0 P w i t
 | inr x=>obtain⟨t,e⟩:=(show ∃t,u=Value.str x t from r);subst e;exact lj0 P w x t
theorem pp0{P:Program}{w:World}:∀{ks:List Key} {us:List Value},Vals (ks.map kV) us->ItemsAre (R3 P w) ks us
 | [],_,r=>by rw[List.map_nil] at r;cases r;exact .nil
 | k::ks,_,r=>by
  rw[List.map_cons] at r;cases r with
  | cons h t=>exact .cons (rb0 h) (pp0 t)
abbrev KT(H:Hp):List (List Key×V)->List (List Key×Addr×Value)->Prop:=Paired λp q=>p.1=q.1/\H q.2.1=some (.tup (p.1.map kV))/\RelV p.2 q.2.2
theorem KT.val{xs:List (List Key×Addr×Value)}(r:KT H kvs xs)(k:List Key):RelO (y60 kvs k) ((atKey xs k).map (·.2)):=by
 induction r with
 | nil=>exact True.intro
 | @cons p q ps qs h t ih =>
  obtain⟨h1,_,h2⟩:=h
  by_cases e:p.1=k
  ·have e':q.1=k:=h1.symm.trans e
   have b:atKey (q::qs) k=some q.2:=by simp[atKey,List.find?_cons,e']
   rw[wc0 e,b];exact h2
  ·have e':¬q.1=k:=λz=>e (h1.trans z)
   have b:atKey (q::qs) k=atKey qs k:=by simp[atKey,List.find?_cons,e']
   rw[wb0 e,b];exact ih
theorem KT.repl{xs:List (List Key×Addr×Value)}(r:KT H kvs xs)(k:List Key){y:V}(ry:RelV y u) :
  KT H (kvs.map λkv=>if kv.1=k then (kv.1,y) else kv) (xs.map (putAt k u)):=by
 induction r with
 | nil=>exact .nil
 | @cons p q ps qs h t ih =>
  rw[List.map_cons,List.map_cons];refine .cons ?_ ih;obtain⟨h1,h2,h3⟩:=h;unfold putAt
  by_cases e:p.1=k
  ·rw[if_pos e,if_pos (h1.symm.trans e)];exact⟨h1,h2,ry⟩
  ·rw[if_neg e,if_neg (λz=>e (h1.trans z))];exact⟨h1,h2,h3⟩
theorem KT.put{xs:List (List Key×Addr×Value)}(r:KT H kvs xs)(k:List Key){b:Addr}{y:V}(hb:H b=some (.tup (k.map kV)))(ry:RelV y u) :
  KT H (putK kvs k y) (storedH xs k b u):=by
 have e:(kvs.any λkv=>decide (kv.1=k))=(atKey xs k).isSome:=by
  rw[nk0,(r.val k).isSome_eq,Option.isSome_map]
 unfold putK storedH;rw[e]
 by_cases q:(atKey xs k).isSome=true
 ·rw[if_pos q,if_pos q];exact r.repl k ry
 ·rw[if_neg q,if_neg q];exact Paired.snoc r ⟨rfl,hb,ry⟩
theorem KT.keeps{xs:List (List Key×Addr×Value)}(r:KT H kvs xs)(ht:∀b ys,H b=some (.tup ys)->H' b=some (.tup ys)):KT H' kvs xs :=
 Paired.mapP r λ_ _ z=>⟨z.1,ht _ _ z.2.1,z.2.2⟩
section
variable{P:Program}{w:World}{h:Heap}
theorem dw0{u:HO}(ok:HOk P w H h)(e:Rd H a u):ObjOk P w H h a u:=e.ok ok
theorem ol0{kvs:List (Key×V)}(ok:HOk P w H h)(e:Rd H a (.dK kvs)):kvs.length<=sizeLine/\(a==sysModules)=false/\∃vs,KV kvs vs/\h.DictOf (R3 P w) a vs :=
 show ObjOk P w H h a (.dK kvs) from dw0 ok e
theorem dy0{kvs:List (Key×V)}(ok:HOk P w H h)(e:H a=some (.dK kvs)):kvs.length<=sizeLine/\(a==sysModules)=false/\∃vs,KV kvs vs/\h.DictOf (R3 P w) a vs:=ol0 ok (.inl e)
theorem ub0(ok:HOk P w H h)(e:H a=some (.tup (ks.map kV))):(tupleKind (R3 P w)).is h ks a:=by
 obtain⟨_,its,r,o,h1,h2,n,h3,_⟩:=(show ObjOk P w H h a (.tup (ks.map kV)) from ok a _ e);exact⟨o,its.toArray,n,h1,h2,h3,by simpa using pp0 r⟩
theorem o70(ok:HOk P w H h)(e:Rd H a (.dT kvs)):kvs.length<=sizeLine/\(a==sysModules)=false /\
  ∃xs,KT H kvs xs/\h.DictOfH (tupleKind (R3 P w)) a xs:=by
 obtain⟨z,y,xs,r,o,es,ep,h1,h2,h3,h4,h5⟩:=(show ObjOk P w H h a (.dT kvs) from dw0 ok e);refine⟨z,y,xs,r,o,es,ep,h1,h2,h3,h4,λx hx=>?_,h5⟩;have all:∀{l:List (List Key×V)} {m:List (List Key×Addr×Value)},KT H l m->∀x∈m,(tupleKind (R3 P w)).is h x.1 x.2.1:=by
  intro l m q
  induction q with
  | nil=>intro x hx;exact nomatch hx
  | @cons p q ps qs hq t ih =>
   intro x hx;rcases B2.mp hx with e|hx
   ·subst e
    exact ub0 ok (by rw[← hq.1];exact hq.2.1)
   ·exact ih x hx
 exact all r x hx
theorem ck0(ok:HOk P w H h)(e:H a=some (.dT kvs)):kvs.length<=sizeLine/\(a==sysModules)=false /\
  ∃xs,KT H kvs xs/\h.DictOfH (tupleKind (R3 P w)) a xs:=o70 ok (.inl e)
end
def DGet(H:Hp)(a:Addr)(y:V)(r:Option V):Prop :=
 (∃kvs k,Rd H a (.dK kvs)/\y=kV k/\r=y60 kvs k)∨∃kvs k b,Rd H a (.dT kvs)/\y=.ref b/\H b=some (.tup (k.map kV))/\r=y60 kvs k
def DPut(H:Hp)(a:Addr)(y v:V)(H':Hp):Prop :=
 (∃kvs k,H a=some (.dK kvs)/\y=kV k/\kvs.length<sizeLine/\H'=upd H a (.dK (putK kvs k v))) ∨
 ∃kvs k b,H a=some (.dT kvs)/\y=.ref b/\H b=some (.tup (k.map kV))/\kvs.length<sizeLine/\H'=upd H a (.dT (putK kvs k v))
theorem DGet.k{kvs:List (Key×V)}{k:Key}(e:H a=some (.dK kvs)):DGet H a (kV k) (y60 kvs k):=.inl ⟨kvs,k,.inl e,rfl,rfl⟩
theorem DGet.t{b:Addr}{k:List Key}(e:H a=some (.dT kvs))(eb:H b=some (.tup (k.map kV))):DGet H a (.ref b) (y60 kvs k):=.inr ⟨kvs,k,b,.inl e,rfl,eb,rfl⟩
theorem DPut.k{kvs:List (Key×V)}{k:Key}{v:V}(e:H a=some (.dK kvs))(hl:kvs.length<sizeLine):DPut H a (kV k) v (upd H a (.dK (putK kvs k v))):=.inl ⟨kvs,k,e,rfl,hl,rfl⟩
theorem DPut.t{b:Addr}{k:List Key}{v:V}(e:H a=some (.dT kvs))(eb:H b=some (.tup (k.map kV)))(hl:kvs.length<sizeLine) :
  DPut H a (.ref b) v (upd H a (.dT (putK kvs k v))):=.inr ⟨kvs,k,b,e,rfl,eb,hl,rfl⟩
section
variable{σ:St}{s:Shared}{y v:V}{r:Value}{o:Option V}
theorem Inv.big(I:Inv X pins σ H s):sysModules<s.heap.objs.size:=by
 have h:mainGlobals<s.heap.objs.size:=(I.mod.glob.keeps I.bk).lt;exact I0 (by decide) h
theorem go0(hu:A.units+1<cLine)(I:Inv X pins σ H s)(g:DGet H a y (some v))(ry:RelV y u)(h:∀w' s',Inv X pins σ H s'->RelV v w'->Q w' s') :
  wpAny (model X.prog X.w) A (getItem (.ref a) u) Q E s:=by
 rcases g with⟨kvs,k,e,ey,l⟩|⟨kvs,k,b,e,ey,eb,l⟩
 ·subst ey
  obtain⟨z,hd,vs,rel,dd⟩:=ol0 I.hok e;obtain⟨w',hw,F⟩:=RelO.some_of (v:=v) (o:=valueAt vs k) (by rw[l];exact rel.val k);exact wpAny_getItem_of (rb0 ry) dd.mapOf hw (h w' _ (I.tok _) F)
 ·subst ey
  cases (show u=Value.ref b from ry);obtain⟨z,hd,xs,rel,dd⟩:=o70 I.hok e;obtain⟨w',hw,F⟩:=RelO.some_of (v:=v) (o:=(atKey xs k).map (·.2)) (by rw[l];exact rel.val k);obtain⟨p,hp,J⟩:=Al0.mp hw;refine wpAny_getItem_heap (Am0 hu) (ub0 I.hok eb) dd hp ?_;rw[J];exact h w' _ (I.tok _) F
theorem b60(hu:A.units+1<cLine)(I:Inv X pins σ H s)(g:DGet H a y o)(ry:RelV y u)(h:∀s',Inv X pins σ H s'->Q (.bool (!o.isSome)) s') :
  wpAny (model X.prog X.w) A (compareOp .NotIn u (.ref a)) Q E s:=by
 rcases g with⟨kvs,k,e,ey,l⟩|⟨kvs,k,b,e,ey,eb,l⟩
 ·subst ey
  obtain⟨z,hd,vs,rel,dd⟩:=ol0 I.hok e;refine wpAny_notIn_of (rb0 ry) hd dd.mapOf ?_;rw[← (rel.val k).isSome_eq,← l];exact h _ (I.tok _)
 ·subst ey
  cases (show u=Value.ref b from ry);obtain⟨z,hd,xs,rel,dd⟩:=o70 I.hok e;refine wpAny_notIn_heap (Am0 hu) (ub0 I.hok eb) hd dd ?_;have q:=(rel.val k).isSome_eq;rw[Option.isSome_map] at q;rw[← q,← l];exact h _ (I.tok _)
theorem t50{t':Nat}{ob:HO}(I:Inv X pins σ H s)(mu:Mut (H a))(hs:Heap.SameBut a s.heap h')(he:∃q,h'.get? a=some q)(new:ObjOk X.prog X.w (upd H a ob) h' a ob) :
  Inv X pins σ (upd H a ob) { s with heap:=h',toks:=t' } :=
 I.write (x:=a) (e:=a) mu (.inl rfl) (λb q hb z=>(hs.2 b hb).trans z) he new
theorem gr0{P:Program}{w:World}{H':Hp}{kvs:List (Key×V)}{vs:List (Key×Value)}(z:kvs.length<=sizeLine)(hd:(a==sysModules)=false)(rel:KV kvs vs)(dd:h'.DictOf (R3 P w) a vs) :
  ObjOk P w H' h' a (.dK kvs):=⟨z,hd,vs,rel,dd⟩
theorem gk0{Q:Unit->Shared->Prop}(hu:A.units+1<cLine)(I:Inv X pins σ H s)(g:DPut H a y v H')(ry:RelV y u)(rv:RelV v r)(h:∀s',Inv X pins σ H' s'->Q () s') :
  wpAny (model X.prog X.w) A (setItem (.ref a) u r) Q E s:=by
 rcases g with⟨kvs,k,e,ey,l,eH⟩|⟨kvs,k,b,e,ey,eb,l,eH⟩
 ·subst ey eH
  obtain⟨z,hd,vs,rel,dd⟩:=dy0 I.hok e;have hz:vs.length<=sizeLine:=by rw[← rel.length];exact z
  have hl:(putK kvs k v).length<=sizeLine:=by have:=zs0 kvs k v;omega
  refine wpAny_setItem_pairs (hsz:=hz) (rb0 ry) dd λh' F hs=>h _ ?_
  have he:∃q,h'.get? a=some q:=let ⟨q,_,_,hq,_⟩:=F;⟨q,hq⟩
  exact t50 I (by rw[e];exact True.intro) hs he (gr0 hl hd (rel.put k rv) F)
 ·subst ey eH
  cases (show u=Value.ref b from ry);obtain⟨z,hd,xs,rel,dd⟩:=ck0 I.hok e;have hz:xs.length<=sizeLine:=by rw[← Paired.length rel];exact z
  have hl:(putK kvs k v).length<=sizeLine:=by have:=zs0 kvs k v;omega
  refine wpAny_setItem_heap (hsz:=hz) (Am0 hu) (ub0 I.hok eb) dd λh' F hs=>h _ ?_
  obtain⟨q,es,ep,hq,h2,h3,h4,_,h5⟩:=F;refine t50 I (by rw[e];exact True.intro) hs ⟨q,hq⟩ ⟨hl,hd,_,(rel.put k eb rv).keeps λc ys ec=>?_,q,es,ep,hq,h2,h3,h4,h5⟩;rw[j7 (sr0 ec e (λz=>nomatch z))];exact ec
end
def ep0(i:Expr):Prop:=∀ov iv,subscripted i false ov iv=operate [ov,iv] (getItem ov iv)
theorem a00{prog:Program}{w:World}{A:Around}{E:Value->Shared->Prop}{s:Shared}{env:Env}{value slice:Expr}{pos:Pos}{T id:String}{Q:Value->Shared->Prop}
  (hl:typeLookup (.type T) "__getitem__"=pure (some (.builtin id))) (hs:ep0 slice)
  (h:wpAny (model prog w) A (eval value env) (λo s₁=>wpAny (model prog w) A (eval slice env) (λi s₂=>s₂.TypeIs o T/\wpAny (model prog w) A (getItem o i) Q E s₂) E s₁) E s) :
  wpAny (model prog w) A (eval (.Subscript value slice pos) env) Q E s:=by
 refine Subscript_ (D0 h (λo s₁ h₁=>D0 h₁ (λi s₂ h₂=>?_) λ_ _ x=>x) λ_ _ x=>x);obtain⟨hT,h₂⟩:=h₂;unfold subscriptTail;refine A0 ?_;rw[getitemInPython_of_ne hT.not_modules];refine A0 (g9 hT hl ?_);have fin:wpAny (model prog w) A (subscripted slice false o i) (λr s₃=>wpAny (model prog w) A (letTemporaryGo value o r>>=λ_=>pure r) Q E s₃) E s₂:=by
  rw[hs o i];exact wpAny_operating (D0 h₂ (λr s₃ h₃=>A0 (wpAny_letTemporaryGo (A1 h₃))) λ_ _ x=>x)
 first
  | exact A1 (A0 fin)
  | exact A0 (A1 (A0 fin))
  | exact A0 fin
theorem lv0{σ:St}{s:Shared}{y:V}{o:Option V}(I:Inv X pins σ H s)(g:DGet H a y o):s.TypeIs (.ref a) "dict" := by
 rcases g with⟨kvs,k,e,_,_⟩|⟨kvs,k,b,e,_,_,_⟩
 ·obtain⟨_,_,vs,_,dd⟩:=ol0 I.hok e
  exact dd.typeIs
 ·obtain⟨_,_,xs,_,dd⟩:=o70 I.hok e
  exact dd.typeIs
def Vh0(td ty:TE):TE:=fun σ H Q=>td σ H λx H1=>ty σ H1 λy H2=>∃a v,x=.ref a/\DGet H2 a y (some v)/\Q v H2
def cr0(ty td:TE):TE:=fun σ H Q=>ty σ H λy H1=>td σ H1 λx H2=>∃a o,x=.ref a/\DGet H2 a y o/\Q (.bl (!o.isSome)) H2
section
variable{i:Expr}{td ty:TE}
theorem aa0(hu:X.A.units+1<cLine)(ho:PE X o td)(hi:PE X i ty)(hs:ep0 i):PE X (.Subscript o i pos) (Vh0 td ty):=by
 intro pins s σ H Q I h;refine a00 PySem.F.slot_dict_getitem.lookup hs (thn (ho pins s σ H _ I h) λu s1 ⟨x,H1,I1,rx,q1⟩=>thn (hi pins s1 σ H1 _ I1 q1) λiv s2 ⟨y,H2,I2,ry,a,v,ex,g,q2⟩=>?_);subst ex;obtain rfl:u=Value.ref a:=rx;exact⟨lv0 I2 g,go0 hu I2 g ry λw' s3 I3 J=>⟨v,H2,I3,J,q2⟩⟩
theorem fl0(hu:X.A.units+1<cLine)(hi:PE X i ty)(ho:PE X o td):PC X .NotIn i o (cr0 ty td):=by
 intro pins s σ H Q I h;refine thn (hi pins s σ H _ I h) λiv s1 ⟨y,H1,I1,ry,q1⟩=>thn (ho pins s1 σ H1 _ I1 q1) λu s2 ⟨x,H2,I2,rx,a,ov,ex,g,q2⟩=>?_
 subst ex;obtain rfl:u=Value.ref a:=rx;exact b60 hu I2 g ry λs3 I3=>⟨.bl (!ov.isSome),H2,I3,rfl,q2⟩
end
theorem mj0{P:Program}{w:World}(h:Heap)(hb:sysModules<h.objs.size):ObjOk P w H (h.push { cls:=.type "dict",data:=.dict #[] }) h.objs.size (.dK []) :=
 ⟨D3 _,X0.mpr (B7 (A9 hb)),[],.nil,Heap.DictOf.new h⟩
theorem d00{P:Program}{w:World}(h:Heap)(hb:sysModules<h.objs.size):ObjOk P w H (h.push { cls:=.type "dict",data:=.dict #[] }) h.objs.size (.dT []) :=
 ⟨D3 _,X0.mpr (B7 (A9 hb)),[],.nil,_,#[],0,B5 _ rfl,⟨rfl,rfl,rfl⟩,rfl,rfl,R1⟩
def Y50:TE:=λ_ H Q=>∀p,H p=none->Q (.ref p) (upd H p (.dK []))
theorem ey0:PE X (.Dict [] [] pos) Y50:=λpins s σ H Q I h =>
 wpAny_Dict_empty ⟨.ref s.heap.objs.size,_,I.laid (a:=s.heap.objs.size) (o:=.dK []) (t':=s.toks) (λ_ _ q=>A8 _ q) (A4 _) (mj0 s.heap I.big),rfl,h _ (I.hok.fresh (A4 _))⟩
def fu0:List (TE×TE)->St->Hp->(List (V×V)->Hp->Prop)->Prop
 | [],_,H,Q=>Q [] H
 | (tk,tv)::r,σ,H,Q=>tk σ H λx H1=>tv σ H1 λy H2=>fu0 r σ H2 λps H3=>Q ((x,y)::ps) H3
abbrev VV:List (V×V)->List (Value×Value)->Prop:=Paired λp q=>RelV p.1 q.1/\RelV p.2 q.2
def PPs(X:Cx)(pos:Pos)(keys:List (Option Expr))(values:List Expr)(trs:List (TE×TE)):Prop :=
 ∀(pins:List (Addr×Obj)) (s:Shared) (σ:St) (H:Hp) (Q:List (V×V)->Hp->Prop),Inv X pins σ H s->fu0 trs σ H Q ->
  wpAny (model X.prog X.w) X.A (evalPairs (pairTrees keys values X.env pos)) (λvs s'=>∃ps H',Inv X pins σ H' s'/\VV ps vs/\Q ps H') X.xe s
theorem cp0:PPs X pos [] [] []:=λpins s σ H Q I h=>pairTrees_nil_walk ⟨[],H,I,.nil,h⟩
theorem dn0{k v:Expr}{ks:List (Option Expr)}{vs:List Expr}{tk:TE}{trs:List (TE×TE)}(hk:PE X k tk)(hv:PE X v tv)(hr:PPs X pos ks vs trs) :
  PPs X pos (some k::ks) (v::vs) ((tk,tv)::trs):=λpins s σ H Q I h =>
 pairTrees_cons_walk (thn (hk pins s σ H _ I h) λu s1 ⟨x,H1,I1,rx,q1⟩=>thn (hv pins s1 σ H1 _ I1 q1) λw2 s2 ⟨y,H2,I2,ry,q2⟩ =>
  thn (hr pins s2 σ H2 _ I2 q2) λws s3 ⟨ps,H3,I3,rel,q3⟩=>⟨(x,y)::ps,H3,I3,.cons ⟨rx,ry⟩ rel,q3⟩)
end L2
namespace DL
open Spec PyProof.Rows L2
section
variable{σ σ':St}
theorem Gr.fresh{p:Addr}{o:HO}(h:H p=none):Gr H (upd H p o) B (λa=>B a∨a=p):=λb u n e=>by
 have hb:b≠p:=U6 e h;exact⟨λz=>z.elim n hb,by rw[j7 hb];exact e⟩
theorem Gr.own{o:HO}(h:B a):Gr H (upd H a o) B B:=λb u n e=>⟨n,by rw[j7 (λz=>n (by rw[z];exact h))];exact e⟩
theorem RpO.mono{d:D}(s:∀o,H a=some o->H' a=some o)(g:Gr H H' B B')(h:RpO K H B d a):RpO K H' B' d a:=by
 cases d<;>try exact h.elim
 ·obtain⟨xs,e,r⟩:=h;exact⟨xs,s _ e,r.mono g⟩
 ·obtain⟨xs,e,l,r⟩:=h;exact⟨xs,s _ e,l,r.mono g⟩
theorem RpL.mono{d:D}(s:∀o,H a=some o->H' a=some o)(g:Gr H H' B B')(h:RpL K H B d a):RpL K H' B' d a:=by
 cases d with
 | tup es=>obtain⟨ds,q,xs,e,r⟩:=h;exact⟨ds,q,xs,s _ e,r.mono g⟩
 | _=>exact(RpO.mono s g (RpL.toO rfl h)).toL
theorem Pd.impI{F G:α->β->Prop}:∀{l:List α} {m:List β},(∀(i:Nat) a b,l[i]?=some a->m[i]?=some b->F a b->G a b)->Paired F l m->Paired G l m
 | _,_,_,.nil=>.nil
 | _,_,h,.cons r t=>.cons (h 0 _ _ rfl rfl r) (Pd.impI (λi a b e1 e2=>h (i+1) a b (by simpa using e1) (by simpa using e2)) t)
theorem w00:∀{l:List α} {i:Nat} {a:α},l[i]?=some a->l.set i a=l
 | [],_,_,h=>by simp at h
 | x::l,0,a,h=>by simp at h;subst h;rfl
 | x::l,i+1,a,h=>by rw[List.set_cons_succ,w00 (by simpa using h)]
theorem Pd.setR{F:α->β->Prop}{a:α}{b:β}(r:F a b){l:List α}{m:List β}(e:l[i]?=some a)(h:Paired F l m):Paired F l (m.set i b):=by
 have:=Pd.set r i h
 rwa [w00 e] at this
theorem get_set{l:List α}{a b:α}(h:(l.set i a)[j]?=some b):(i=j/\a=b/\j<l.length)∨(i≠j/\l[j]?=some b):=by
 by_cases e:i=j
 ·subst e
  by_cases hl:i<l.length
  ·rw[List.getElem?_set_self hl] at h
   exact .inl ⟨rfl,B3 h,hl⟩
  ·rw[List.getElem?_eq_none (by simpa using hl)] at h;cases h
 ·rw[List.getElem?_set_ne e] at h
  exact .inr ⟨e,h⟩
theorem Env.at(e:Env K H B σ δ){d:D}(h:δ[i]?=some (.ow d)):∃a,σ[i]?=some (some (.ref a))/\B a/\RpL K H B d a:=by
 obtain⟨o,h1,a,rfl,hb,r⟩:=Pd.get e.all h;exact⟨a,h1,hb,r⟩
theorem Env.mut(e:Env K H B σ δ){d0 d:D}{o:HO}(hi:δ[i]?=some (.ow d0))(hs:σ[i]?=some (some (.ref a)))(r:RpL K (upd H a o) B d a):Env K (upd H a o) B σ (δ.set i (.ow d)):=by
 obtain⟨a',h1,hb,_⟩:=e.at hi;rw[hs] at h1;cases h1;refine⟨?_,λb z=>?_,λj k b ds es h1 h2 h3 h4=>?_⟩
 ·
  have h0:Paired (λ(o':Option V) (s:Sl)=>SlR K (upd H a o) B o' s∨(∃d,s=.ow d/\o'=some (.ref a))) σ δ:=Pd.imp (λo' s h=>by
   cases s with
   | un=>exact .inl trivial
   | ex c n=>obtain⟨v,e,r⟩:=h;exact .inl ⟨v,e,r.mono (Gr.own hb)⟩
   | sh d=>obtain⟨v,e,r⟩:=h;exact .inl ⟨v,e,r.mono (Gr.own hb)⟩
   | ow d =>
    obtain⟨b,e,J,r⟩:=h
    by_cases z:b=a
    ·subst z;exact .inr ⟨d,rfl,e⟩
    ·exact .inl ⟨b,e,J,r.mono (λo h=>by rw[j7 z];exact h) (Gr.own hb)⟩) e.all
  have h1:=Pd.setR (i:=i) (b:=Sl.ow d) (.inl ⟨a,rfl,hb,r⟩) hs h0;refine Pd.impI (λj o' s e1 e2 h=>?_) h1;rcases h with h|⟨d',rfl,rfl⟩
  ·exact h
  ·rcases get_set e2 with⟨rfl,e3,_⟩|⟨F,e3⟩
   ·cases e3;exact⟨a,rfl,hb,r⟩
   ·exact absurd (e.own i j a d0 d' hi e3 hs e1) F
 ·by_cases z':b=a
  ·subst z';exact r.live
  ·rw[j7 z'];exact e.bad b z
 ·have q1:∃d,δ[j]?=some (.ow d):=by
   rcases get_set h1 with⟨rfl,_,_⟩|⟨_,h⟩
   ·exact⟨_,hi⟩
   ·exact⟨_,h⟩
  have q2:∃d,δ[k]?=some (.ow d):=by
   rcases get_set h2 with⟨rfl,_,_⟩|⟨_,h⟩
   ·exact⟨_,hi⟩
   ·exact⟨_,h⟩
  obtain⟨d1,q1⟩:=q1;obtain⟨d2,q2⟩:=q2;exact e.own j k b d1 d2 q1 q2 h3 h4
theorem EnvS.mut(en:EnvS K H₀ B₀ H σ δ)(s:Same H H')(b1:∀a,B₀ a->B a)(b2:∀a,B a->B₀ a∨H₀ a=none){d0 d:D}{o:HO}(hi:δ[i]?=some (.ow d0))(hs:σ[i]?=some (some (.ref a)))
  (env:Env K (upd H' a o) B σ (δ.set i (.ow d))):EnvS K H₀ B₀ (upd H' a o) σ (δ.set i (.ow d)):=by
 have h0:=en.fr i d0 a hi hs;refine⟨λb u h=>?_,⟨B,b1,b2,env⟩,λj ds b h1 h2=>?_,en.b0⟩
 ·have:b≠a:=λz=>by rw[z,h0] at h;cases h
  rw[j7 this];exact s _ _ (en.same b u h)
 ·rcases get_set h1 with⟨rfl,_,_⟩|⟨_,h⟩
  ·rw[hs] at h2;cases h2;exact h0
  ·exact en.fr j ds b h h2
theorem EnvS.take(en:EnvS K H₀ B₀ H σ δ)(b1:∀a,B₀ a->B a)(b2:∀a,B a->B₀ a∨H₀ a=none)(e:Env K H B σ δ)(i:Nat){d:D}{p:Addr}(hp:H p=none)(s:Same H H')
  (r:RpO K H' (λa=>B a∨a=p) d p):EnvS K H₀ B₀ H' (σ.set i (some (.ref p))) (δ.set i (.ow d)):=by
 have g:Gr H H' B (λa=>B a∨a=p):=λb u n h=>⟨λz=>z.elim n (U6 h hp),s _ _ h⟩
 have F:H₀ p=none:=en.same.free hp;have live:∀{j:Nat} {d':D} {b:Addr},δ[j]?=some (.ow d')->σ[j]?=some (some (.ref b))->b≠p:=λ{j d' b} h1 h2=>by
  obtain⟨a,q1,q2,q3⟩:=e.at h1;rw[h2] at q1;cases q1;exact λz=>e.bad _ q2 (by rw[z];exact hp)
 refine⟨en.same.trans s,⟨λa=>B a∨a=p,λa z=>.inl (b1 a z),λa z=>?_,?_,λa z=>?_,λj k a ds es h1 h2 h3 h4=>?_⟩,λj ds a h1 h2=>?_,en.b0⟩
 ·rcases z with z|rfl
  ·exact b2 a z
  ·exact .inr F
 ·refine Pd.set ⟨p,rfl,.inr rfl,r.toL⟩ i (Pd.imp (λo sl h=>?_) e.all)
  cases sl with
  | un=>trivial
  | ex c n=>obtain⟨v,e,r⟩:=h;exact⟨v,e,r.mono g⟩
  | sh d=>obtain⟨v,e,r⟩:=h;exact⟨v,e,r.mono g⟩
  | ow d=>obtain⟨b,e,J,r⟩:=h;exact⟨b,e,.inl J,r.mono (λo h=>s _ _ h) g⟩
 ·rcases z with z|rfl
  ·exact(e.bad a z).same s
  ·exact r.live
 ·rcases get_set h1 with⟨rfl,_,_⟩|⟨n1,h1⟩
  ·rcases get_set h2 with⟨rfl,_,_⟩|⟨n2,h2⟩
   ·rfl
   ·rcases get_set h3 with⟨_,e3,_⟩|⟨n3,_⟩
    ·cases e3
     rw[List.getElem?_set_ne n2] at h4;exact absurd rfl (live h2 h4)
    ·exact absurd rfl n3
  ·rcases get_set h2 with⟨rfl,_,_⟩|⟨n2,h2⟩
   ·rcases get_set h4 with⟨_,e4,_⟩|⟨n4,_⟩
    ·cases e4
     rw[List.getElem?_set_ne n1] at h3;exact absurd rfl (live h1 h3)
    ·exact absurd rfl n4
   ·rw[List.getElem?_set_ne n1] at h3
    rw[List.getElem?_set_ne n2] at h4;exact e.own j k a ds es h1 h2 h3 h4
 ·rcases get_set h1 with⟨rfl,_,_⟩|⟨n1,h1⟩
  ·rcases get_set h2 with⟨_,e3,_⟩|⟨n3,_⟩
   ·cases e3;exact F
   ·exact absurd rfl n3
  ·rw[List.getElem?_set_ne n1] at h2
   exact en.fr j ds a h1 h2
theorem Env.frz(e:Env K H B σ δ):∃B':BS,(∀a,B' a->B a)/\(∀a,B a->B' a∨∃(i:Nat) (d:D),δ[i]?=some (.ow d)/\σ[i]?=some (some (.ref a)))/\Env K H B' σ (DL.frz δ):=by
 refine⟨λa=>B a/\¬∃(i:Nat) (d:D),δ[i]?=some (.ow d)/\σ[i]?=some (some (.ref a)),λa z=>z.1,λa z=>?_,?_,λa z=>e.bad a z.1,λi j a ds es h1 _ _ _=>?_⟩
 ·by_cases q:∃(i:Nat) (d:D),δ[i]?=some (.ow d)/\σ[i]?=some (some (.ref a))
  ·exact .inr q
  ·exact .inl ⟨z,q⟩
 ·have:Paired (λo s=>SlR K H (λa=>B a/\¬∃(i:Nat) (d:D),δ[i]?=some (.ow d)/\σ[i]?=some (some (.ref a))) o (G3 s)) σ δ:=Pd.impI (λi o s e1 e2 h=>by
   cases s with
   | un=>trivial
   | ex c n=>obtain⟨v,e,r⟩:=h;exact⟨v,e,r.mono (Gr.less λa z=>z.1)⟩
   | sh d=>obtain⟨v,e,r⟩:=h;exact⟨v,e,r.mono (Gr.less λa z=>z.1)⟩
   | ow d =>
    obtain⟨a,rfl,hb,r⟩:=h;exact⟨_,rfl,r.rp (λa z=>z.1) λz=>z.2 ⟨i,d,e2,e1⟩⟩) e.all
  have mp:∀{l:St} {m:Ds} {F:Option V->Sl->Prop},Paired (λo s=>F o (G3 s)) l m->Paired F l (m.map G3):=by
   intro l m F h
   induction h with
   | nil=>exact .nil
   | cons r t ih=>exact .cons r ih
  exact mp this
 ·unfold DL.frz at h1
  rw[List.getElem?_map] at h1;cases q:δ[i]? with
  | none=>rw[q] at h1;cases h1
  | some s=>rw[q] at h1;cases s<;>cases h1
theorem EnvS.frz(en:EnvS K H₀ B₀ H σ δ):EnvS K H₀ B₀ H σ (DL.frz δ):=by
 obtain⟨B,b1,b2,env⟩:=en.ex;obtain⟨B',c1,c2,F⟩:=env.frz;refine⟨en.same,⟨B',λa z=>?_,λa z=>b2 a (c1 a z),F⟩,λi ds a h1 _=>?_,en.b0⟩
 ·rcases c2 a (b1 a z) with q|⟨i,d,q1,q2⟩
  ·exact q
  ·exact absurd (en.fr i d a q1 q2) (en.b0 a z)
 ·unfold DL.frz at h1
  rw[List.getElem?_map] at h1;cases q:δ[i]? with
  | none=>rw[q] at h1;cases h1
  | some s=>rw[q] at h1;cases s<;>cases h1
theorem Env.frzAt(e:Env K H B σ δ)(i:Nat):∃B':BS,(∀a,B' a->B a)/\(∀a,B a->B' a∨∃(d:D),δ[i]?=some (.ow d)/\σ[i]?=some (some (.ref a)))/\Env K H B' σ (DL.frzAt i δ):=by
 unfold DL.frzAt;cases h:δ[i]? with
 | none=>exact⟨B,λ_ z=>z,λ_ z=>.inl z,e⟩
 | some s =>
  cases s with
  | un=>dsimp only [G3];rw[w00 h];exact⟨B,λ_ z=>z,λ_ z=>.inl z,e⟩
  | ex c n=>dsimp only [G3];rw[w00 h];exact⟨B,λ_ z=>z,λ_ z=>.inl z,e⟩
  | sh d=>dsimp only [G3];rw[w00 h];exact⟨B,λ_ z=>z,λ_ z=>.inl z,e⟩
  | ow d =>
   obtain⟨a,h1,hb,r⟩:=e.at h;refine⟨λb=>B b/\b≠a,λb z=>z.1,λb z=>?_,?_,λb z=>e.bad b z.1,λj k b ds es F L h3 h4=>?_⟩
   ·by_cases q:b=a
    ·subst q;exact .inr ⟨d,rfl,h1⟩
    ·exact .inl ⟨z,q⟩
   ·have h0:Paired (λ(o':Option V) (s:Sl)=>SlR K H (λb=>B b/\b≠a) o' s∨(∃d,s=.ow d/\o'=some (.ref a))) σ δ:=Pd.imp (λo' s h=>by
     cases s with
     | un=>exact .inl trivial
     | ex c n=>obtain⟨v,e,r⟩:=h;exact .inl ⟨v,e,r.mono (Gr.less λa z=>z.1)⟩
     | sh d=>obtain⟨v,e,r⟩:=h;exact .inl ⟨v,e,r.mono (Gr.less λa z=>z.1)⟩
     | ow d =>
      obtain⟨b,e,O,r⟩:=h
      by_cases z:b=a
      ·subst z;exact .inr ⟨d,rfl,e⟩
      ·exact .inl ⟨b,e,⟨O,z⟩,r.mono (λo h=>h) (Gr.less λa z=>z.1)⟩) e.all
    have h2:=Pd.setR (i:=i) (b:=Sl.sh (unl d)) (.inl ⟨.ref a,rfl,r.rp (λb z=>z.1) λz=>z.2 rfl⟩) h1 h0;refine Pd.impI (λj o' s e1 e2 hh=>?_) h2;rcases hh with hh|⟨d',rfl,rfl⟩
    ·exact hh
    ·rcases get_set e2 with⟨rfl,e3,_⟩|⟨J,e3⟩
     ·cases e3
     ·exact absurd (e.own i j a d d' h e3 h1 e1) J
   ·rcases get_set F with⟨_,q,_⟩|⟨_,q1⟩
    ·cases q
    ·rcases get_set L with⟨_,q,_⟩|⟨_,q2⟩
     ·cases q
     ·exact e.own j k b ds es q1 q2 h3 h4
theorem EnvS.frzAt(en:EnvS K H₀ B₀ H σ δ)(i:Nat):EnvS K H₀ B₀ H σ (DL.frzAt i δ):=by
 obtain⟨B,b1,b2,env⟩:=en.ex;obtain⟨B',c1,c2,F⟩:=env.frzAt i;refine⟨en.same,⟨B',λa z=>?_,λa z=>b2 a (c1 a z),F⟩,λj ds a h1 h2=>?_,en.b0⟩
 ·rcases c2 a (b1 a z) with q|⟨d,q1,q2⟩
  ·exact q
  ·exact absurd (en.fr i d a q1 q2) (en.b0 a z)
 ·unfold DL.frzAt at h1
  cases q:δ[i]? with
  | none=>rw[q] at h1;exact en.fr j ds a h1 h2
  | some s =>
   rw[q] at h1;rcases get_set h1 with⟨rfl,q',_⟩|⟨_,q1⟩
   ·cases s<;>cases q'
   ·exact en.fr j ds a q1 h2
theorem j00{d:D}{v:V}(h:flat d=true)(r:Rp K H B d v):Rp K H' B' d v:=by
 cases d<;>simp[flat] at h
 ·rw[W0] at r ⊢;exact r
 ·rw[Z8] at r ⊢;exact r
 ·rw[o8] at r ⊢;exact r
 ·rw[Z9] at r ⊢;exact r
end
section
variable{tg:Expr}{g:GE}{gt:GB}{G:GS}
theorem vh0(h:PD X e g):PD X e (zz0 g):=.mk λB δ pins s σ H Q I ⟨d,en,hq,k⟩=>by
 obtain⟨B',c1,c2,F⟩:=en.frz;unfold zz0 at hq;cases e1:g (frz δ) with
 | none=>rw[e1] at hq;cases hq
 | some x =>
  rw[e1] at hq
  by_cases hf:flat x=true
  ·simp only[Option.bind_some,if_pos hf] at hq
   cases hq;exact h B' (frz δ) pins s σ H Q I ⟨_,F,e1,λv H' s' r=>k v H' s' (j00 hf r)⟩
  ·simp only[Option.bind_some,if_neg hf] at hq
   cases hq
theorem q50(h:PTD X e gt):PTD X e (xz0 gt):=.mk λB δ pins s σ H Q I ⟨d,en,hq,k⟩=>by
 obtain⟨B',c1,c2,F⟩:=en.frz;exact h B' (frz δ) pins s σ H Q I ⟨d,F,hq,k⟩
theorem d20(i:Nat)(h:PSD X st G):PSD X st (Zs0 i G):=.mk λH₀ B₀ δ pins s σ H D I ⟨r,en,hq,k⟩=>h H₀ B₀ _ pins s σ H D I ⟨r,en.frzAt i,hq,k⟩
theorem y00(h:PD X e g):PSD X (.Return (some e) pos) (d8 (xi0 g)):=.mk λH₀ B₀ δ pins s σ H D I ⟨r,en,hq,k⟩ =>
 m7 h H₀ B₀ (frz δ) pins s σ H D I ⟨r,en.frz,hq,k⟩
theorem Q5{gA:GA}(h:PDA X es gA):PDF X (.List es pos) (Y0 gA) :=
 .mk λB δ=>(f80 (h B δ)).imp fun σ H Q ⟨d,en,h,k⟩=>by
  unfold Y0 at h;cases e1:gA δ with
  | none=>rw[e1] at h;cases h
  | some ds =>
   rw[e1] at h
   by_cases hl:ds.length<=sizeLine
   ·simp only[Option.bind_some,if_pos hl] at h
    cases h;refine⟨ds,en,e1,λvs H1 s1 r1=>⟨by rw[r1.length];exact hl,λp hp=>k _ _ (s1.free hp) (s1.trans (Z1 hp)) ⟨vs,m8,r1.mono (Gr.fresh hp)⟩⟩⟩
   ·simp only[Option.bind_some,if_neg hl] at h
    cases h
theorem h00:PDF X (.Dict [] [] pos) (gc (.dct (.inl []) [])):=.mk λB δ=>ey0.imp fun σ H Q ⟨d,en,h,k⟩=>by
 cases h;exact λp hp=>k p _ hp (Z1 hp) ⟨[],m8,rfl,by rw[o7]⟩
theorem T7(i:Nat){px:Pos}(h:PDF X e g)(hN:X.N.Nodup)(hi:X.N[i]?=some x:=by rfl)(hx:Loc X.env.scope x:=by first|exact Or.inl rfl|exact Or.inr rfl)
  (hs:swapsWithSole [.Name x px] e pos.line X.env=pure false:=by rfl) (hw:swappedStores [.Name x px] e X.env=pure none:=by rfl)
  (h1:(assignEach [.Name x px] X.env).map (·.2)=[assign (.Name x px) X.env]:=by rfl)
  (hf:X.fn x=true∨X.env.scope.names.lookup x=some .local:=by first|exact .inl rfl|exact .inr rfl|assumption):PSD X (.Assign [.Name x px] e pos) (O1 i g):=.mk λH₀ B₀ δ pins s σ H D I ⟨r,en,e1,k⟩=>by
 unfold O1 at e1;obtain⟨B,b1,b2,env⟩:=en.ex;cases e2:g δ with
 | none=>rw[e2] at e1;cases e1
 | some d =>
  rw[e2] at e1;cases e1;exact mg0 (h B δ) (td0 (i:=i) hN hi hx hf) hs hw h1 pins s σ H D I ⟨d,env,e2,λp H' hp s' r=>k _ H' (en.take b1 b2 env i hp s' r)⟩
end
end DL
namespace L2
open Spec PyProof.Rows
open PySem.AutoSeq1 (wpAny_loadPart')
theorem i00(p:Addr)(xs:Array Value)(k:Nat)(q:Addr)(ys:Array Value)(m:Nat)(dq:Option Addr)(sq:Array (Option Value))(h0:¬(!xs.isEmpty&&Builtin.List.listTooLong (xs.size+ys.size))=true)(h1:xs.size<=sizeLine)(h2:xs.size+ys.size<=sizeLine+1) :
  Meets (Builtin.«list.extend» ⟨[.ref p,.ref q],[]⟩) (λ_ R s=>s.heap.get? p=some { cls:=.type "list",dict:=none,data:=.seq xs k,slots:=#[] }/\s.heap.get? q=some { cls:=.type "list",dict:=dq,data:=.seq ys m,slots:=sq }/\R (.ok (.ret Value.none)) { s with heap:=s.heap.update p (Obj.mapSeq λz=>z++ys) }) :=
 .of_wp λprog w A R s h=>by
  obtain⟨hp,g,d,tk,os⟩:=s;obtain⟨hl,hb,h⟩:=h;have f1:=AutoSeq1.idx_int;have f2:=AutoSeq1.sub_tuple_tuple;have f3:=AutoSeq1.sub_list_list;have f4:=AutoSeq1.sub_tuple_list;have f5:=AutoSeq1.sub_list_tuple;have F:(xs++ys).size<=sizeLine+1:=by rw[Array.size_append];exact h2
  wp_walk using (h8 hl rfl (hz:=h1) (_hz':=F)),K0 hl,K0 hb
  exact⟨_,rfl,h⟩
def de0(K:W.Frag):V->List V->Hp->VK->Prop:=λx vs H Q=>∃l b xs zs,x=.ref l/\vs=[.ref b]/\H l=some (.lst xs)/\SqL K H b zs/\xs.length+zs.length<=sizeLine/\Q .non (upd H l (.lst (xs++zs)))
theorem j50:MtM X "list.extend" (de0 X.K):=by
 intro pins s σ H x vs v us Q I rx rv h;obtain⟨l,b,xs,zs,rfl,rfl,hH,hB,hz,q⟩:=h;cases rx;obtain⟨u,rfl,ru⟩:=rv.one;cases ru;obtain⟨z,its,n,r,hl,e⟩:=I.lstM hH;obtain⟨J,r2,p2,z2⟩:=I.list hB;obtain⟨⟨a3,a1,data2,a2⟩,Z,Y,n2,O⟩:=p2.isList;simp only at Y O;subst Y O;have hl2:=r2.length;have a0:its.toArray.size+J.toArray.size<=sizeLine:=by rw[List.size_toArray,List.size_toArray];omega
 have L:¬(!its.toArray.isEmpty&&Builtin.List.listTooLong (its.toArray.size+J.toArray.size))=true:=by
  rw[d30 a0,Bool.and_false];exact C1
 refine p9 F.slot_list_extend ⟨_,e,rfl⟩ F.entry_list_extend (F.args_list_extend_2 _ _)
  (i00 l its.toArray n b J.toArray n2 a1 a2 L (by rw[List.size_toArray];omega) (by omega)) ⟨e,Z,?_⟩
 refine⟨.non,_,I.lset (its':=its++J) hH e (by simp) (r.append r2) ?_,rfl,q⟩;rw[List.length_append];omega
def Xm0:V->V->V->Hp->(Hp->Prop)->Prop:=λo i v H Q=>∃a H',o=.ref a/\DPut H a i v H'/\Q H'
theorem set_dict(hu:X.A.units+1<cLine):e30 X Xm0:=by
 intro pins s σ H o i v ov iv u Q I ro ri rv h;obtain⟨a,H',rfl,g,q⟩:=h;cases ro;exact gk0 hu I g ri rv λs3 I3=>⟨H',I3,q⟩
end L2
namespace DL
open Spec PyProof.Rows L2
section
variable{σ σ':St}
theorem Rps.set:∀{ds:List D} {xs:List V} {d:D} {v:V} (j:Nat),Rps K H B ds xs->Rp K H B d v->Rps K H B (ds.set j d) (xs.set j v)
 | [],_,_,_,_,h,_=>by rw[o7] at h;subst h;simp[o7]
 | d::ds,_,_,_,0,h,r=>by
  rw[o4] at h;obtain⟨y,t,rfl,h1,h2⟩:=h;rw[List.set_cons_zero,List.set_cons_zero,o4];exact⟨_,_,rfl,r,h2⟩
 | d::ds,_,_,_,j+1,h,r=>by
  rw[o4] at h;obtain⟨y,t,rfl,h1,h2⟩:=h;rw[List.set_cons_succ,List.set_cons_succ,o4];exact⟨_,_,rfl,h1,Rps.set j h2 r⟩
theorem Rps.dropLast{xs:List V}(h:Rps K H B ds xs):Rps K H B ds.dropLast xs.dropLast:=by
 rw[List.dropLast_eq_take,List.dropLast_eq_take,h.length];exact h.take _
structure EnvV(K:W.Frag)(H₀:Hp)(B₀:BS)(H:Hp)(σ:St)(δ:Ds)(d:D)(v:V):Prop where
 same:Same H₀ H
 ex:∃B:BS,(∀a,B₀ a->B a)/\(∀a,B a->B₀ a∨H₀ a=none)/\Env K H B σ δ/\Rp K H B d v
 fr:∀(i:Nat) (ds:D) (a:Addr),δ[i]?=some (.ow ds)->σ[i]?=some (some (.ref a))->H₀ a=none
 b0:∀a,B₀ a->NB (H₀ a)
theorem EnvV.s{d:D}{v:V}(h:EnvV K H₀ B₀ H σ δ d v):EnvS K H₀ B₀ H σ δ:=⟨h.same,let ⟨B,b1,b2,e,_⟩:=h.ex;⟨B,b1,b2,e⟩,h.fr,h.b0⟩
theorem EnvV.mk'{d:D}{v:V}(h:EnvS K H₀ B₀ H σ δ)(b1:∀a,B₀ a->B a)(b2:∀a,B a->B₀ a∨H₀ a=none)(e:Env K H B σ δ)(r:Rp K H B d v):EnvV K H₀ B₀ H σ δ d v:=⟨h.same,⟨B,b1,b2,e,r⟩,h.fr,h.b0⟩
end
def tX(K:W.Frag)(H₀:Hp)(B₀:BS)(δ:Ds)(gx:GX):TE:=fun σ H Q=>∃r,EnvS K H₀ B₀ H σ δ/\gx δ=some r/\∀v H',EnvV K H₀ B₀ H' σ r.2 r.1 v->Q v H'
structure PX(X:Cx)(e:Expr)(gx:GX):Prop where
 mk::go:∀H₀ B₀ δ,PE X e (tX X.K H₀ B₀ δ gx)
instance{X:Cx}{e:Expr}{gx:GX}:CoeFun (PX X e gx) (λ_=>∀H₀ B₀ δ,PE X e (tX X.K H₀ B₀ δ gx)):=⟨PX.go⟩
def tTG(K:W.Frag)(H₀:Hp)(B₀:BS)(ft:D->Ds->Option Ds)(d:D)(δ:Ds):TG:=λv σ H Q=>∃δ',EnvV K H₀ B₀ H σ δ d v/\ft d δ=some δ'/\∀σ' H',EnvS K H₀ B₀ H' σ' δ'->Q σ' H'
structure PTG(X:Cx)(tg:Expr)(ft:D->Ds->Option Ds):Prop where
 mk::go:∀H₀ B₀ d δ,PG X tg (tTG X.K H₀ B₀ ft d δ)
instance{X:Cx}{tg:Expr}{ft:D->Ds->Option Ds}:CoeFun (PTG X tg ft) (λ_=>∀H₀ B₀ d δ,PG X tg (tTG X.K H₀ B₀ ft d δ)):=⟨PTG.go⟩
section
variable{tg:Expr}{g:GE}{gt:GB}{G:GS}
theorem yo0(h:PD X e g):PX X e (S6 g):=.mk λH₀ B₀ δ pins s σ H Q I ⟨r,en,e1,k⟩=>by
 unfold S6 at e1;obtain⟨B,b1,b2,env⟩:=en.ex;cases e2:g δ with
 | none=>rw[e2] at e1;cases e1
 | some d =>
  rw[e2] at e1;cases e1;exact h B δ pins s σ H Q I ⟨d,env,e2,λv H' s' r=>k v H' (EnvV.mk' (en.grow s') b1 b2 (env.same s') r)⟩
theorem rg0(h:owL i δ=some ds):δ[i]?=some (.ow (.lst ds)):=by
 unfold owL at h;split at h
 ·cases h;assumption
 ·cases h
theorem cu0{r:List V5×List D}(h:qt0 i δ=some r):δ[i]?=some (.ow (.dct (.inl r.1) r.2)):=by
 unfold qt0 at h;split at h
 ·cases h;assumption
 ·cases h
theorem yw0(i:Nat)(h:PD X e g)(hN:X.N[i]?=some x:=by rfl)(hv:Vis X.env.scope x:=by first|exact Or.inl rfl|exact Or.inr (Or.inl rfl)|exact Or.inr (Or.inr rfl))(hd:(x==("__debug__" : Str))=false:=by decide)(hcd:(x==("__classdict__" : Str))=false:=by decide)
  (hbase:attributeBase (.Name x px) "append" X.env (eval (.Name x px) X.env)=eval (.Name x px) X.env:=by rfl)
  (hfew:((backTo cpos (starEach [e] X.env)).all (λx=>!x.1)&&(backToKw cpos (keywordEach [] X.env)).all (λx=>x.1.isSome)
  &&decide (([e]:List Expr).length+([]:List Keyword).length+(if ([]:List Keyword).isEmpty then 0 else 1)<30))=true:=by rfl)
  (hline:(apos.endLine==cpos.line)=true:=by rfl) (hs:starEach [e] X.env=(false,eval e X.env)::starEach [] X.env:=by rfl) (hplain:(backTo cpos (starEach [] X.env)).any (·.1)=false:=by rfl) :
  PX X (.Call (.Attribute (.Name x px) "append" apos) [e] [] cpos) (O2 i g):=.mk λH₀ B₀ δ pins s σ H Q I ⟨r,en,e1,k⟩=>by
 unfold O2 at e1;obtain⟨B,b1,b2,env⟩:=en.ex;cases e2:owL i δ with
 | none=>rw[e2] at e1;cases e1
 | some ds =>
  cases e3:g δ with
  | none=>rw[e2,e3] at e1;cases e1
  | some d =>
   rw[e2,e3] at e1;simp only[Option.bind_some] at e1;split at e1
   ·rename_i hz
    cases e1;have hi:=rg0 e2;obtain⟨a,L,hb,xs,hx,rx⟩:=env.at hi;refine ja0 An0 PySem.F.slot_list_append PySem.F.type_list_append pj0 (yx0 (i:=i) hN hv hd hcd) (zo0 (h B δ) xg0 hs) hbase hfew hline hs hplain pins s σ H Q I
     ⟨_,L,.inl ⟨rfl,xs,.inl (.inl hx)⟩,d,env,e3,λv H1 s1 r1=>⟨a,xs,v,rfl,rfl,s1 _ _ hx,by rw[rx.length];exact hz,?_⟩⟩
    have J:Env X.K (upd H1 a (.lst (xs++[v]))) B σ (δ.set i (.ow (.lst (ds++[d])))):=(env.same s1).mut hi L ⟨_,m8,(Rps.snoc (rx.same s1) r1).mono (Gr.own hb)⟩;exact k _ _ (EnvV.mk' (en.mut s1 b1 b2 hi L J) b1 b2 J (by rw[W0]))
   ·cases e1
theorem mo0(i:Nat)(h:PD X e g)(hN:X.N[i]?=some x:=by rfl)(hv:Vis X.env.scope x:=by first|exact Or.inl rfl|exact Or.inr (Or.inl rfl)|exact Or.inr (Or.inr rfl))(hd:(x==("__debug__" : Str))=false:=by decide)(hcd:(x==("__classdict__" : Str))=false:=by decide)
  (hbase:attributeBase (.Name x px) "extend" X.env (eval (.Name x px) X.env)=eval (.Name x px) X.env:=by rfl)
  (hfew:((backTo cpos (starEach [e] X.env)).all (λx=>!x.1)&&(backToKw cpos (keywordEach [] X.env)).all (λx=>x.1.isSome)
  &&decide (([e]:List Expr).length+([]:List Keyword).length+(if ([]:List Keyword).isEmpty then 0 else 1)<30))=true:=by rfl)
  (hline:(apos.endLine==cpos.line)=true:=by rfl) (hs:starEach [e] X.env=(false,eval e X.env)::starEach [] X.env:=by rfl) (hplain:(backTo cpos (starEach [] X.env)).any (·.1)=false:=by rfl) :
  PX X (.Call (.Attribute (.Name x px) "extend" apos) [e] [] cpos) (xl0 i g):=.mk λH₀ B₀ δ pins s σ H Q I ⟨r,en,e1,k⟩=>by
 unfold xl0 at e1;obtain⟨B,b1,b2,env⟩:=en.ex;cases e2:owL i δ with
 | none=>rw[e2] at e1;cases e1
 | some ds =>
  cases e3:g δ with
  | none=>rw[e2,e3] at e1;cases e1
  | some d =>
   rw[e2,e3] at e1;simp only[Option.bind_some] at e1;cases d<;>try cases e1
   rename_i es;dsimp only at e1;split at e1
   ·rename_i hz
    cases e1;have hi:=rg0 e2;obtain⟨a,L,hb,xs,hx,rx⟩:=env.at hi;refine ja0 An0 PySem.F.slot_list_extend PySem.F.type_list_extend j50 (yx0 (i:=i) hN hv hd hcd) (zo0 (h B δ) xg0 hs) hbase hfew hline hs hplain pins s σ H Q I
     ⟨_,L,.inl ⟨rfl,xs,.inl (.inl hx)⟩,_,env,e3,λv H1 s1 r1=>?_⟩
    rw[Y6] at r1;obtain⟨b,zs,rfl,hq,rz⟩:=r1;refine⟨a,b,xs,zs,rfl,rfl,s1 _ _ hx,hq.to,by rw[rx.length,rz.length];exact hz,?_⟩;have J:Env X.K (upd H1 a (.lst (xs++zs))) B σ (δ.set i (.ow (.lst (ds++es)))):=(env.same s1).mut hi L ⟨_,m8,(Rps.append (rx.same s1) rz).mono (Gr.own hb)⟩;exact k _ _ (EnvV.mk' (en.mut s1 b1 b2 hi L J) b1 b2 J (by rw[W0]))
   ·cases e1
theorem iv0(i:Nat)(hN:X.N[i]?=some x:=by rfl)(hv:Vis X.env.scope x:=by first|exact Or.inl rfl|exact Or.inr (Or.inl rfl)|exact Or.inr (Or.inr rfl))(hd:(x==("__debug__" : Str))=false:=by decide)(hcd:(x==("__classdict__" : Str))=false:=by decide)
  (hbase:attributeBase (.Name x px) "pop" X.env (eval (.Name x px) X.env)=eval (.Name x px) X.env:=by rfl) (hline:(apos.endLine==cpos.line)=true:=by rfl) :
  PX X (.Call (.Attribute (.Name x px) "pop" apos) [] [] cpos) (ws0 i):=.mk λH₀ B₀ δ pins s σ H Q I ⟨r,en,e1,k⟩=>by
 unfold ws0 at e1;obtain⟨B,b1,b2,env⟩:=en.ex;cases e2:owL i δ with
 | none=>rw[e2] at e1;cases e1
 | some ds =>
  rw[e2] at e1;simp only[Option.bind_some] at e1;cases e3:ds.getLast? with
  | none=>rw[e3] at e1;cases e1
  | some d =>
   rw[e3] at e1;cases e1;have hi:=rg0 e2;obtain⟨a,L,hb,xs,hx,rx⟩:=env.at hi;rw[List.getLast?_eq_getElem?] at e3;obtain⟨y,hy,ry⟩:=rx.get e3;refine Xj0 An0 PySem.F.slot_list_pop PySem.F.type_list_pop Xe0 (yx0 (i:=i) hN hv hd hcd) hbase hline pins s σ H Q I
    ⟨_,L,.inl ⟨rfl,xs,.inl (.inl hx)⟩,a,xs,y,rfl,rfl,hx,by rw[rx.length];exact hy,?_⟩
   have J:Env X.K (upd H a (.lst xs.dropLast)) B σ (δ.set i (.ow (.lst ds.dropLast))):=env.mut hi L ⟨_,m8,rx.dropLast.mono (Gr.own hb)⟩;exact k _ _ (EnvV.mk' (en.mut (Same.refl _) b1 b2 hi L J) b1 b2 J (ry.mono (Gr.own hb)))
theorem rc0{f:D->Ds->Option Ds}(h:PGD X tg idx f):PTG X tg f:=.mk λH₀ B₀ d δ pins s σ H v u Q I r ⟨δ',en,e1,k⟩=>by
 obtain⟨B,b1,b2,env,rv⟩:=en.ex;exact h B d δ pins s σ H v u Q I r ⟨δ',rv,env,e1,fun σ' w en'=>k σ' H (en.s.wr b1 b2 (Same.refl _) w en')⟩
theorem b00(i:Nat)(h:PD X e g)(hN:X.N[i]?=some x:=by rfl)(hv:Vis X.env.scope x:=by first|exact Or.inl rfl|exact Or.inr (Or.inl rfl)|exact Or.inr (Or.inr rfl))(hd:(x==("__debug__" : Str))=false:=by decide)(hcd:(x==("__classdict__" : Str))=false:=by decide)
  (ha:∀v,assign (.Subscript (.Name x px) e pos) X.env v=(do
   let ov ← holding [v] (eval (.Name x px) X.env)
   let iv ← holding [v,ov] (eval e X.env)
   standAt pos
   holding [v,ov,iv] (setItem ov iv v)
   release [v,ov,iv] []):=by intro _;rfl):PTG X (.Subscript (.Name x px) e pos) (setAt i g):=.mk λH₀ B₀ d δ pins s σ H v u Q I r ⟨δ',en,e1,k⟩=>by
 unfold setAt at e1;obtain⟨B,b1,b2,env,rv⟩:=en.ex;cases e2:owL i δ with
 | none=>rw[e2] at e1;cases e1
 | some ds =>
  cases e3:g δ with
  | none=>rw[e2,e3] at e1;cases e1
  | some dk =>
   rw[e2,e3] at e1;simp only[Option.bind_some] at e1;cases dk<;>try cases e1
   rename_i kk;dsimp only at e1;cases e4:ixN ds.length kk with
   | none=>rw[e4] at e1;cases e1
   | some j =>
    rw[e4] at e1;cases e1;have hi:=rg0 e2;obtain⟨a,F,hb,xs,hx,rx⟩:=env.at hi;refine nh0 (yx0 (i:=i) hN hv hd hcd) (h B δ) set_list ha pins s σ H v u Q I r ⟨_,F,_,env,e3,λiv H1 s1 r1=>?_⟩;rw[o8] at r1;subst r1;refine⟨a,xs,kk,j,rfl,rfl,s1 _ _ hx,by rw[rx.length];exact e4,?_⟩;have J:Env X.K (upd H1 a (.lst (xs.set j v))) B σ (δ.set i (.ow (.lst (ds.set j d)))):=(env.same s1).mut hi F ⟨_,m8,(Rps.set j (rx.same s1) (rv.same s1)).mono (Gr.own hb)⟩;exact k _ _ (en.s.mut s1 b1 b2 hi F J)
theorem J9{ft:D->Ds->Option Ds}(h:PX X e gx)(hg:PTG X tg ft)(hs:swapsWithSole [tg] e pos.line X.env=pure false:=by rfl)(hw:swappedStores [tg] e X.env=pure none:=by rfl)
  (h1:(assignEach [tg] X.env).map (·.2)=[assign tg X.env]:=by rfl):PSD X (.Assign [tg] e pos) (T3 gx ft):=.mk λH₀ B₀ δ pins s σ H D I ⟨r,en,e1,k⟩=>by
 unfold T3 at e1;cases e2:gx δ with
 | none=>rw[e2] at e1;cases e1
 | some q =>
  rw[e2] at e1;simp only[Option.bind_some] at e1;cases e3:ft q.1 q.2 with
  | none=>rw[e3] at e1;cases e1
  | some δ' =>
   rw[e3] at e1;cases e1;exact mg0 (h H₀ B₀ δ) (hg H₀ B₀ q.1 q.2) hs hw h1 pins s σ H D I ⟨q,en,e2,λv H' F=>⟨δ',F,e3,fun σ' H'' en''=>k σ' H'' en''⟩⟩
theorem Q3(h:PX X e gx)(hs:swapsWith e none pos.line X.env=pure false:=by rfl):PSD X (.Expr e pos) (X7 gx):=.mk λH₀ B₀ δ pins s σ H D I ⟨r,en,e1,k⟩=>by
 unfold X7 at e1;cases e2:gx δ with
 | none=>rw[e2] at e1;cases e1
 | some q =>
  rw[e2] at e1;cases e1;exact bj0 (h H₀ B₀ δ) hs pins s σ H D I ⟨q,en,e2,λv H' F=>k σ H' F.s⟩
theorem wf0(n:Nat)(hp:PassesOwn (model X.prog X.w) X.A X.env X.xe)(hc:PTD X c gt)(hb:PSsD X body G):PSD X (.While c body [] pos) (W9 gt G n):=.mk λH₀ B₀ δ pins s σ H D I ⟨r,en,e1,k⟩=>by
 have J:PT X c (fun σ H Q=>∃B δ,tDT X.K B δ gt σ H Q):=λpins s σ H Q I ⟨B,δ,h⟩=>hc B δ pins s σ H Q I h
 have L:PSs X body (λD σ H=>∃δ,tDS X.K H₀ B₀ δ G D σ H):=λpins s σ H D I ⟨δ,h⟩=>hb H₀ B₀ δ pins s σ H D I h
 refine eo0 hp J L pins s σ H D I ⟨λm σ H=>∃δ',EnvS X.K H₀ B₀ H σ δ'/\W9 gt G m δ'=some r,⟨n,δ,en,e1⟩,?_⟩;rintro m σ1 H1 ⟨δ1,F,e2⟩;cases m with
 | zero=>cases e2
 | succ m =>
  unfold W9 at e2;obtain⟨B,b1,b2,env⟩:=F.ex;cases e3:gt δ1 with
  | none=>rw[e3] at e2;cases e2
  | some t =>
   rw[e3] at e2;refine⟨B,δ1,t,env,e3,λH2 s2=>?_⟩;cases t with
   | false =>
    rw[if_neg C1];cases e2;exact k σ1 H2 (F.grow s2)
   | true =>
    rw[if_pos rfl];dsimp only at e2;refine⟨fun σ' H'=>∃δ',EnvS X.K H₀ B₀ H' σ' δ'/\W9 gt G m δ'=some r,fun σ' H' z=>⟨m,r0 m,z⟩,δ1,?_⟩;cases e4:G δ1 with
    | none=>rw[e4] at e2;cases e2
    | some rb =>
     rw[e4] at e2;refine⟨rb,F.grow s2,e4,?_⟩;cases rb with
     | nx δn=>exact fun σ' H' en'=>⟨δn,en',e2⟩
     | ct δn=>exact fun σ' H' en'=>⟨δn,en',e2⟩
     | bk δn=>cases e2;exact fun σ' H' en'=>k σ' H' en'
     | rt d'=>cases e2;exact λv H' s' r'=>k v H' s' r'
     | rf d'=>cases e2;exact λp H' hp s' r'=>k p H' hp s' r'
theorem yn0(i j:Nat){y:Str}{p2 p3:Pos}{kk}(hN:X.N.Nodup)(hij:i≠j)(hc:X.calm=true:=by rfl)(hi:X.N[i]?=some x:=by rfl)(hj:X.N[j]?=some y:=by rfl)
  (hx:Loc X.env.scope x:=by first|exact Or.inl rfl|exact Or.inr rfl) (hy:Loc X.env.scope y:=by first|exact Or.inl rfl|exact Or.inr rfl)
  (hf:X.fn x=true∨X.env.scope.names.lookup x=some .local:=by first|exact .inl rfl|exact .inr rfl|assumption) (hf2:X.fn y=true∨X.env.scope.names.lookup y=some .local:=by first|exact .inl rfl|exact .inr rfl|assumption)
  (hs1:(assignEach [.Name x p2,.Name y p3] X.env).map (·.2)=assign (.Name x p2) X.env::(assignEach [.Name y p3] X.env).map (·.2):=by rfl) (hs2:(assignEach [.Name y p3] X.env).map (·.2)=assign (.Name y p3) X.env::(assignEach [] X.env).map (·.2):=by rfl)
  (hn:(assignEach [.Name x p2,.Name y p3] X.env).length=2:=by rfl) (hst:(assignEach [.Name x p2,.Name y p3] X.env).findIdx? (·.1)=none:=by rfl) :
  PGD X (.Tuple [.Name x p2,.Name y p3] kk pos) [i,j] (J0 i j):=.mk λB d δ=>(Yv0 hc (mi0 (td0 (i:=i) hN hi hx hf) (mi0 (td0 (i:=j) hN hj hy hf2) ac0 hs2) hs1) hn hst).imp λv σ H Q ⟨δ',r,en,e1,k⟩=>by
 unfold J0 at e1;split at e1
 ·rename_i da db
  cases e1;rw[Y9] at r;obtain⟨p,xs,rfl,hq,rs⟩:=r;rw[o4] at rs;obtain⟨va,t1,rfl,ra,rs⟩:=rs;rw[o4] at rs;obtain⟨vb,t2,rfl,rb,rs⟩:=rs;rw[o7] at rs;subst rs;refine⟨p,_,rfl,hq.to,rfl,va,[vb],rfl,vb,[],rfl,rfl,k _ ?_ ((en.set i ra).set j rb)⟩;refine⟨by simp,λq hq=>?_,λq hq ds h=>?_⟩
  ·have h1:q≠i:=λz=>hq (by rw[z];exact A5)
   have h2:q≠j:=λz=>hq (by rw[z];exact A7 _ A5)
   rw[List.getElem?_set_ne (B7 h2),List.getElem?_set_ne (B7 h1),List.getElem?_set_ne (B7 h2),List.getElem?_set_ne (B7 h1)];exact⟨rfl,rfl⟩
  ·rcases get_set h with⟨rfl,e3,_⟩|⟨n1,e3⟩
   ·cases e3
   ·rcases get_set e3 with⟨rfl,e4,_⟩|⟨n2,e4⟩
    ·cases e4
    ·simp at hq
     rcases hq with z|z
     ·exact n2 z.symm
     ·exact n1 z.symm
 ·cases e1
end
end DL
namespace HT
open PyProof.Rows
section
variable{w:World}{s:Shared}
theorem u50{t sl:Addr}{Q:Value->Shared->Prop}(ht:IsTup s.heap t items)(hs:s.heap.IsSliceOf sl vl vu .none)(pl:IsPart vl lo)(pu:IsPart vu hi)
  (hw:sIx items.size 0 lo=0/\sIx items.size items.size hi=items.size) (h:Q (.ref t) s):wpAny (model prog w) A (getItem (.ref t) (.ref sl)) Q E s:=by
 obtain⟨os,O,J,hds⟩:=id hs;have L:s.TypeIs (.ref sl) "slice" := ⟨os,O,J⟩;unfold getItem
 try with_reducible refine C3 ?_
 first|refine A0 (A1 ?_)|skip
 refine A0 (wpAny_sequenceKey ht.typeIs (by decide) ?_);refine A0 (E3 (name:=Str.ofString "__getitem__") ht.typeIs P9
  (D1 P9 ht.typeIs entry_tuple_getitem ?_ (args_tuple_getitem _ _)))
 show wpAny _ _ (Builtin.Tuple.tupleItemsOf (.ref t)>>=_) _ _ s;refine A0 (tupleItemsOf_ ht ?_);refine A0 (L6 L ?_);rw[if_pos (by decide)];refine A0 (w50 hs pl pu ?_);have F:(((sIx items.size 0 lo:Nat):Int)==0&&(1:Int)==1&&(sIx items.size items.size hi - sIx items.size 0 lo)==items.size)=true:=by
  rw[hw.1,hw.2];simp
 show wpAny _ _ (if (((sIx items.size 0 lo:Nat):Int)==0&&(1:Int)==1&&(sIx items.size items.size hi - sIx items.size 0 lo)==items.size)=true then _ else _) _ _ s;rw[if_pos F];unfold Builtin.Tuple.tupleIsExact;refine A0 (A0 (L6 ht.typeIs (A1 ?_)));rw[if_pos (by decide)];exact A0 (D5 (A1 ⟨_,rfl,A1 h⟩))
end
end HT
namespace L2
open Spec PyProof.Rows
def W90(K:W.Frag):V->Option Int->Option Int->Hp->VK->Prop:=λx lo hi H Q=>∃a xs,x=.ref a/\SqT K H a xs/\(HT.sIx xs.length 0 lo=0/\HT.sIx xs.length xs.length hi=xs.length)/\Q (.ref a) H
theorem av0:SlR X (W90 X.K):=by
 intro pins s σ H x v vl vu lo hi sl Q I rx hs pl pu h;obtain⟨a,xs,rfl,hx,hw,q⟩:=h;cases rx;obtain⟨its,r,ht,hz⟩:=I.tuple hx;have F:its.toArray.size=xs.length:=by rw[List.size_toArray];exact r.length.symm
 exact⟨"tuple",_,P9.lookup,ht.typeIs,HT.u50 ht hs pl pu (by rw[F];exact hw) ⟨.ref a,H,I,rfl,q⟩⟩
def gq0(K:W.Frag):R2:=λx y H Q=>∃a b ys,x=.ref a/\y=.ref b/\SqT K H a []/\SqT K H b ys/\Q (.ref b) H
theorem eu0:OpR X (binaryOp .Add) (gq0 X.K):=by
 intro pins s σ H x y v u Q I rx ry h;obtain⟨a,b,ys,rfl,rfl,ha,hb,q⟩:=h;cases rx;cases ry;obtain⟨its,r1,p1,_⟩:=I.tuple ha;obtain⟨O,r2,p2,_⟩:=I.tuple hb;have e:its=[]:=r1.zero;subst e;obtain⟨⟨cls,dd,data,sl⟩,ho,hc,n,hd⟩:=id p1;obtain⟨⟨a0,Y,data2,Z⟩,F,L,n2,J⟩:=id p2;simp only at hc hd L J;subst hc hd L J;exact p4 ⟨_,ho,rfl⟩ ⟨_,F,rfl⟩ A20 A30 A40 A50 (A60 _ _)
  (tuple_addW0 a b _ O.toArray n n2 dd Y sl Z rfl) ⟨ho,F,⟨.ref b,H,I,rfl,q⟩⟩
def s90(x:Str)(n:Int):Str:=⟨(List.replicate n.toNat x.cps).foldl (·++·) #[]⟩
end L2
namespace DL
open Spec PyProof.Rows L2
mutual
theorem s40:∀(d:D) (n:Nat),lean d n=true->deq d d=true
 | .non,_,_=>by unfold deq;rfl
 | .bl b,_,_=>by unfold deq;simp
 | .int b,_,_=>by unfold deq;simp
 | .str b,_,_=>by unfold deq;simp
 | .tup ds,0,h=>by unfold lean at h;cases h
 | .tup ds,n+1,h=>by unfold lean at h;unfold deq;exact uf0 ds n h
 | .lst ds,0,h=>by unfold lean at h;cases h
 | .lst ds,n+1,h=>by unfold lean at h;unfold deq;exact uf0 ds n h
 | .dct _ _,n,h=>by unfold lean at h;cases h
 | .fn _ _,n,h=>by unfold lean at h;cases h
theorem uf0:∀(ds:List D) (n:Nat),leans ds n=true->z70 ds ds=true
 | [],_,_=>by unfold z70;rfl
 | d::ds,n,h=>by
  unfold leans at h;rw[Bool.and_eq_true] at h;unfold z70;rw[s40 d n h.1,uf0 ds n h.2];rfl
end
theorem yh0:∀ds es:List D,z70 ds es=((List.range (min ds.length es.length)).all (λj=>deq (ds.getD j .non) (es.getD j .non))&&ds.length==es.length)
 | [],[]=>by unfold z70;simp
 | [],_::_=>by unfold z70;simp
 | _::_,[]=>by unfold z70;simp
 | d::ds,e::es=>by
  unfold z70;rw[yh0 ds es];have h1:min (d::ds).length (e::es).length=min ds.length es.length+1:=by simp only[List.length_cons];omega
  rw[h1,List.range_succ_eq_map,List.all_cons,List.all_map];have h2:((d::ds).length==(e::es).length)=(ds.length==es.length):=by
   rw[Bool.eq_iff_iff];simp
  rw[h2,Bool.and_assoc];rfl
theorem ul0:∀{ds:List D} {n j:Nat} {d:D},leans ds n=true->ds[j]?=some d->lean d n=true
 | [],_,_,_,_,h=>by simp at h
 | d::ds,n,0,_,h,e=>by
  unfold leans at h;rw[Bool.and_eq_true] at h;simp at e;subst e;exact h.1
 | d::ds,n,j+1,_,h,e=>by
  unfold leans at h;rw[Bool.and_eq_true] at h;exact ul0 (j:=j) h.2 (by simpa using e)
section
variable{σ:St}{s:Shared}
mutual
theorem Rp.inj(I:Inv X pins σ H s):∀{d e:D} {n m:Nat} {v:V},lean d n=true->lean e m=true->Rp X.K H B d v->Rp X.K H B' e v->d=e
 | .non,e,_,m,v,_,le,h,h'=>by
  rw[W0] at h;subst h;cases e with
  | non=>rfl
  | bl b=>rw[Z8] at h';cases h'
  | int b=>rw[o8] at h';cases h'
  | str b=>rw[Z9] at h';cases h'
  | tup b=>rw[Y9] at h';obtain⟨_,_,z,_⟩:=h';cases z
  | lst b=>rw[Y6] at h';obtain⟨_,_,z,_⟩:=h';cases z
  | dct a b=>unfold lean at le;cases le
  | fn a b=>unfold lean at le;cases le
 | .bl c,e,_,m,v,_,le,h,h'=>by
  rw[Z8] at h;subst h;cases e with
  | non=>rw[W0] at h';cases h'
  | bl b=>rw[Z8] at h';cases h';rfl
  | int b=>rw[o8] at h';cases h'
  | str b=>rw[Z9] at h';cases h'
  | tup b=>rw[Y9] at h';obtain⟨_,_,z,_⟩:=h';cases z
  | lst b=>rw[Y6] at h';obtain⟨_,_,z,_⟩:=h';cases z
  | dct a b=>unfold lean at le;cases le
  | fn a b=>unfold lean at le;cases le
 | .int c,e,_,m,v,_,le,h,h'=>by
  rw[o8] at h;subst h;cases e with
  | non=>rw[W0] at h';cases h'
  | bl b=>rw[Z8] at h';cases h'
  | int b=>rw[o8] at h';cases h';rfl
  | str b=>rw[Z9] at h';cases h'
  | tup b=>rw[Y9] at h';obtain⟨_,_,z,_⟩:=h';cases z
  | lst b=>rw[Y6] at h';obtain⟨_,_,z,_⟩:=h';cases z
  | dct a b=>unfold lean at le;cases le
  | fn a b=>unfold lean at le;cases le
 | .str c,e,_,m,v,_,le,h,h'=>by
  rw[Z9] at h;subst h;cases e with
  | non=>rw[W0] at h';cases h'
  | bl b=>rw[Z8] at h';cases h'
  | int b=>rw[o8] at h';cases h'
  | str b=>rw[Z9] at h';cases h';rfl
  | tup b=>rw[Y9] at h';obtain⟨_,_,z,_⟩:=h';cases z
  | lst b=>rw[Y6] at h';obtain⟨_,_,z,_⟩:=h';cases z
  | dct a b=>unfold lean at le;cases le
  | fn a b=>unfold lean at le;cases le
 | .tup ds,e,0,m,v,ld,_,_,_=>by unfold lean at ld;cases ld
 | .tup ds,e,n+1,m,v,ld,le,h,h'=>by
  rw[Y9] at h;obtain⟨a,xs,rfl,q,r⟩:=h;unfold lean at ld;cases e with
  | non=>rw[W0] at h';cases h'
  | bl b=>rw[Z8] at h';cases h'
  | int b=>rw[o8] at h';cases h'
  | str b=>rw[Z9] at h';cases h'
  | tup es =>
   cases m with
   | zero=>unfold lean at le;cases le
   | succ m =>
    unfold lean at le;rw[Y9] at h';obtain⟨a',ys,z,q',r'⟩:=h';cases z;have:=I.tuple_inj q.to q'.to;subst this;rw[Rps.inj I ld le r r']
  | lst es =>
   rw[Y6] at h';obtain⟨a',ys,z,q',r'⟩:=h';cases z;obtain⟨_,_,⟨o,e1,c1,_⟩,_⟩:=I.tuple q.to;obtain⟨_,_,p,_⟩:=I.list q'.to;obtain⟨o',e2,c2,_⟩:=p.isList;rw[e1] at e2;cases e2;rw[c1] at c2;injection c2 with z
   exact absurd z (by decide)
  | dct a b=>unfold lean at le;cases le
  | fn a b=>unfold lean at le;cases le
 | .lst ds,e,0,m,v,ld,_,_,_=>by unfold lean at ld;cases ld
 | .lst ds,e,n+1,m,v,ld,le,h,h'=>by
  rw[Y6] at h;obtain⟨a,xs,rfl,q,r⟩:=h;unfold lean at ld;cases e with
  | non=>rw[W0] at h';cases h'
  | bl b=>rw[Z8] at h';cases h'
  | int b=>rw[o8] at h';cases h'
  | str b=>rw[Z9] at h';cases h'
  | lst es =>
   cases m with
   | zero=>unfold lean at le;cases le
   | succ m =>
    unfold lean at le;rw[Y6] at h';obtain⟨a',ys,z,q',r'⟩:=h';cases z;have:=I.list_inj q.to q'.to;subst this;rw[Rps.inj I ld le r r']
  | tup es =>
   rw[Y9] at h';obtain⟨a',ys,z,q',r'⟩:=h';cases z;obtain⟨_,_,⟨o,e1,c1,_⟩,_⟩:=I.tuple q'.to;obtain⟨_,_,p,_⟩:=I.list q.to;obtain⟨o',e2,c2,_⟩:=p.isList;rw[e1] at e2;cases e2;rw[c1] at c2;injection c2 with z
   exact absurd z (by decide)
  | dct a b=>unfold lean at le;cases le
  | fn a b=>unfold lean at le;cases le
 | .dct a b,e,n,m,v,ld,_,_,_=>by unfold lean at ld;cases ld
 | .fn a b,e,n,m,v,ld,_,_,_=>by unfold lean at ld;cases ld
theorem Rps.inj(I:Inv X pins σ H s):∀{ds es:List D} {n m:Nat} {xs:List V},leans ds n=true->leans es m=true->Rps X.K H B ds xs->Rps X.K H B' es xs->ds=es
 | [],es,_,_,_,_,_,h,h'=>by
  rw[o7] at h;subst h;have:=h'.length;cases es with
  | nil=>rfl
  | cons a b=>simp at this
 | d::ds,es,n,m,_,ld,le,h,h'=>by
  rw[o4] at h;obtain⟨x,r,rfl,h1,h2⟩:=h;cases es with
  | nil=>rw[o7] at h';cases h'
  | cons e es =>
   rw[o4] at h';obtain⟨x',r',z,F,J⟩:=h';cases z;unfold leans at ld le;rw[Bool.and_eq_true] at ld le;rw[Rp.inj I ld.1 le.1 h1 F,Rps.inj I ld.2 le.2 h2 J]
end
theorem view(I:Inv X pins σ H s){d:D}{x:V}(l:lean d n=true)(h:Rp X.K H B d x)(r:RelV x u) :
  (d=.non/\u=.none)∨(∃b,d=.bl b/\u=.bool b)∨(∃i t,d=.int i/\u=.int i t)∨(∃z t,d=.str z/\u=.str z t) ∨
  (∃m ds a xs its,n=m+1/\leans ds m=true/\d=.tup ds/\x=.ref a/\u=.ref a/\Rps X.K H B ds xs/\Vals xs its/\s.heap.IsTuple a its.toArray) ∨
  (∃m ds a xs its,n=m+1/\leans ds m=true/\d=.lst ds/\x=.ref a/\u=.ref a/\Rps X.K H B ds xs/\Vals xs its/\s.heap.IsList a its.toArray):=by
 cases d with
 | non=>rw[W0] at h;subst h;exact .inl ⟨rfl,r⟩
 | bl b=>rw[Z8] at h;subst h;exact .inr (.inl ⟨b,rfl,r⟩)
 | int i=>rw[o8] at h;subst h;obtain⟨t,e⟩:=r;exact .inr (.inr (.inl ⟨i,t,rfl,e⟩))
 | str z=>rw[Z9] at h;subst h;obtain⟨t,e⟩:=r;exact .inr (.inr (.inr (.inl ⟨z,t,rfl,e⟩)))
 | tup ds =>
  cases n with
  | zero=>unfold lean at l;cases l
  | succ m =>
   unfold lean at l;rw[Y9] at h;obtain⟨a,xs,rfl,q,rr⟩:=h;obtain⟨its,rv,p,_⟩:=I.tuple q.to;exact .inr (.inr (.inr (.inr (.inl ⟨m,ds,a,xs,its,rfl,l,rfl,rfl,r,rr,rv,p⟩))))
 | lst ds =>
  cases n with
  | zero=>unfold lean at l;cases l
  | succ m =>
   unfold lean at l;rw[Y6] at h;obtain⟨a,xs,rfl,q,rr⟩:=h;obtain⟨its,rv,p,_⟩:=I.list q.to;exact .inr (.inr (.inr (.inr (.inr ⟨m,ds,a,xs,its,rfl,l,rfl,rfl,r,rr,rv,p.isList⟩))))
 | dct a b=>unfold lean at l;cases l
 | fn a b=>unfold lean at l;cases l
theorem in1_units:A.in1.units=A.units+1:=rfl
theorem vp0{es:List D}{xs ys:List V}{ws:List Value}{A:Around}(ld:leans ds n=true)(le:leans es m=true)(r1:Rps X.K H B ds xs)(r2:Rps X.K H B' es ys)(v1:Vals xs us)(v2:Vals ys ws)
  (ih:∀d e x y u w,lean d n=true->lean e m=true->Rp X.K H B d x->Rp X.K H B' e y->RelV x u->RelV y w->SeqAt.EqAt A s u w (deq d e)) :
  ∀j (h1:j<us.toArray.size) (h2:j<ws.toArray.size),SeqAt.EqAt A s us.toArray[j] ws.toArray[j] (deq (ds.getD j .non) (es.getD j .non)):=by
 intro j h1 h2;have l1:j<ds.length:=by rw[← r1.length,v1.length];simpa using h1
 have l2:j<es.length:=by rw[← r2.length,v2.length];simpa using h2
 obtain⟨x,ex,rx⟩:=r1.get (C7 l1);obtain⟨y,ey,ry⟩:=r2.get (C7 l2);obtain⟨u,eu,ru⟩:=v1.get ex;obtain⟨w,ew,F⟩:=v2.get ey;have hu:us.toArray[j]=u:=by
  have:us[j]?=some u:=eu;simp at h1;rw[List.getElem?_eq_getElem h1] at this
  simpa using B3 this
 have hw:ws.toArray[j]=w:=by
  have:ws[j]?=some w:=ew;simp at h2;rw[List.getElem?_eq_getElem h2] at this
  simpa using B3 this
 rw[hu,hw];have e1:ds.getD j .non=ds[j]:=by simp[List.getD_eq_getElem?_getD,l1]
 have e2:es.getD j .non=es[j]:=by simp[List.getD_eq_getElem?_getD,l2]
 rw[e1,e2];exact ih _ _ _ _ _ _ (ul0 ld (C7 l1)) (ul0 le (C7 l2)) rx ry ru F
theorem fr0(I:Inv X pins σ H s):∀(n m:Nat) (d e:D) (x y:V) (u w:Value) (A:Around),A.units+n<cLine->lean d n=true->lean e m=true->Rp X.K H B d x->Rp X.K H B' e y->RelV x u->RelV y w->SeqAt.EqAt A s u w (deq d e):=by
 intro n
 induction n with
 | zero =>
  intro m d e x y u w A hu ld le hx hy rx ry;have F:A.units<cLine:=by omega
  rcases view I ld hx rx with⟨rfl,rfl⟩|⟨b,rfl,rfl⟩|⟨i,t,rfl,rfl⟩|⟨z,t,rfl,rfl⟩|⟨n',_,_,_,_,hn,_⟩|⟨n',_,_,_,_,hn,_⟩<;>(try (exact absurd hn (by omega))) <;>
  rcases view I le hy ry with⟨rfl,rfl⟩|⟨b',rfl,rfl⟩|⟨i',t',rfl,rfl⟩|⟨z',t',rfl,rfl⟩|⟨m',es,a',ys,O,rfl,Y,rfl,rfl,rfl,L,J,p'⟩|⟨m',es,a',ys,O,rfl,Y,rfl,rfl,rfl,L,J,p'⟩ <;>
  unfold deq <;>
  first
  | with_reducible exact d4 _|with_reducible exact Ac0 _ _|with_reducible exact Ah0 _ _ _ _|with_reducible exact Ak0 _ _ _ _|with_reducible exact Ad0 _ _ _|with_reducible exact Ag0 _ _ _
  | with_reducible exact A80 _|with_reducible exact A90 _ _|with_reducible exact Aa0 _ _|with_reducible exact Ab0 _|with_reducible exact Ae0 _ _ _|with_reducible exact Af0 _ _|with_reducible exact n9 _ _ _ _
  | with_reducible exact Ai0 _ _|with_reducible exact Aj0 _ _ _|with_reducible exact o0 _ _ _ _
  | with_reducible exact SeqAt.EqAt.none_list p' F|with_reducible exact SeqAt.EqAt.bool_list _ p' F|with_reducible exact SeqAt.EqAt.int_list _ _ p' F|with_reducible exact SeqAt.EqAt.str_list _ _ p' F
  | with_reducible exact SeqAt.EqAt.none_tuple p' F|with_reducible exact SeqAt.EqAt.bool_tuple _ p' F|with_reducible exact SeqAt.EqAt.int_tuple _ _ p' F|with_reducible exact SeqAt.EqAt.str_tuple _ _ p' F
 | succ n ih =>
  intro m d e x y u w A hu ld le hx hy rx ry;have F:A.units<cLine:=by omega
  have a0:A.in1.units+n<cLine:=by rw[in1_units];omega
  rcases view I ld hx rx with⟨rfl,rfl⟩|⟨b,rfl,rfl⟩|⟨i,t,rfl,rfl⟩|⟨z,t,rfl,rfl⟩|⟨n',ds,a,xs,its,hn,Z,rfl,rfl,rfl,rr,rv,p⟩|⟨n',ds,a,xs,its,hn,Z,rfl,rfl,rfl,rr,rv,p⟩ <;>
  rcases view I le hy ry with⟨rfl,rfl⟩|⟨b',rfl,rfl⟩|⟨i',t',rfl,rfl⟩|⟨z',t',rfl,rfl⟩|⟨m',es,a',ys,O,rfl,Y,rfl,rfl,rfl,L,J,p'⟩|⟨m',es,a',ys,O,rfl,Y,rfl,rfl,rfl,L,J,p'⟩
  case inr.inr.inr.inr.inl.inr.inr.inr.inr.inl =>
   cases hn
   by_cases hab:a=a'
   ·subst hab
    have e:D.tup ds=D.tup es:=Rp.inj I ld le hx hy;rw[← e,s40 _ _ ld];exact d4 _
   ·refine SeqAt.EqAt.of_refs hab ?_
    have:=SeqAt.RcAt.tuples (e:=λj=>deq (ds.getD j .non) (es.getD j .non)) p p' F (vp0 Z Y rr L rv J λd e x y u w h1 h2 h3 h4 h5 h6=>ih m' d e x y u w A.in1 a0 h1 h2 h3 h4 h5 h6);unfold deq;rw[yh0]
    simpa [← rv.length,← J.length,rr.length,L.length] using this
  case inr.inr.inr.inr.inr.inr.inr.inr.inr.inr =>
   cases hn
   by_cases hab:a=a'
   ·subst hab
    have e:D.lst ds=D.lst es:=Rp.inj I ld le hx hy;rw[← e,s40 _ _ ld];exact d4 _
   ·refine SeqAt.EqAt.of_refs hab ?_
    have s1:its.toArray.size=ds.length:=by rw[List.size_toArray,← rv.length,rr.length]
    have s2:O.toArray.size=es.length:=by rw[List.size_toArray,← J.length,L.length]
    unfold deq;rw[yh0]
    by_cases hl:ds.length=es.length
    ·have:=SeqAt.RcAt.lists (e:=λj=>deq (ds.getD j .non) (es.getD j .non)) p p' (by rw[s1,s2,hl]) F (vp0 Z Y rr L rv J λd e x y u w h1 h2 h3 h4 h5 h6=>ih m' d e x y u w A.in1 a0 h1 h2 h3 h4 h5 h6)
     rw[s1] at this;rw[hl] at this ⊢
     simpa using this
    ·have:=Cj0 (A:=A) p p' (by rw[s1,s2];simpa using hl) F
     rw[beq_eq_false_iff_ne.mpr hl,Bool.and_false];exact this
  all_goals
   unfold deq
   first
   | with_reducible exact d4 _|with_reducible exact Ac0 _ _|with_reducible exact Ah0 _ _ _ _|with_reducible exact Ak0 _ _ _ _|with_reducible exact Ad0 _ _ _|with_reducible exact Ag0 _ _ _
   | with_reducible exact A80 _|with_reducible exact A90 _ _|with_reducible exact Aa0 _ _|with_reducible exact Ab0 _|with_reducible exact Ae0 _ _ _|with_reducible exact Af0 _ _|with_reducible exact n9 _ _ _ _
   | with_reducible exact Ai0 _ _|with_reducible exact Aj0 _ _ _|with_reducible exact o0 _ _ _ _
   | with_reducible exact SeqAt.EqAt.none_list p' F|with_reducible exact SeqAt.EqAt.bool_list _ p' F|with_reducible exact SeqAt.EqAt.int_list _ _ p' F|with_reducible exact SeqAt.EqAt.str_list _ _ p' F
   | with_reducible exact SeqAt.EqAt.none_tuple p' F|with_reducible exact SeqAt.EqAt.bool_tuple _ p' F|with_reducible exact SeqAt.EqAt.int_tuple _ _ p' F|with_reducible exact SeqAt.EqAt.str_tuple _ _ p' F
   | with_reducible exact SeqAt.EqAt.list_none p F|with_reducible exact SeqAt.EqAt.list_bool _ p F|with_reducible exact SeqAt.EqAt.list_int _ _ p F|with_reducible exact SeqAt.EqAt.list_str _ _ p F
   | with_reducible exact SeqAt.EqAt.tuple_none p F|with_reducible exact SeqAt.EqAt.tuple_bool _ p F|with_reducible exact SeqAt.EqAt.tuple_int _ _ p F|with_reducible exact SeqAt.EqAt.tuple_str _ _ p F
   | with_reducible exact SeqAt.EqAt.list_tuple p p' F|with_reducible exact SeqAt.EqAt.tuple_list p p' F
end
end DL
namespace DL
open Spec PyProof.Rows L2
section
variable{σ:St}{s:Shared}
theorem h70(I:Inv X pins σ H s)(n m:Nat)(d e:D)(x y:V)(u w:Value)(A:Around)(hu:A.units+n<cLine)(ld:lean d n=true)(le:lean e m=true)(hx:Rp X.K H B d x)(hy:Rp X.K H B' e y)(rx:RelV x u)(ry:RelV y w) :
  SeqAt.RcAt A s u w (deq d e)/\SeqAt.RcNeAt A s u w (!deq d e):=by
 have F:A.units<cLine:=by omega
 rcases view I ld hx rx with⟨rfl,rfl⟩|⟨b,rfl,rfl⟩|⟨i,t,rfl,rfl⟩|⟨z,t,rfl,rfl⟩|⟨n',ds,a,xs,its,hn,a0,rfl,rfl,rfl,rr,rv,p⟩|⟨n',ds,a,xs,its,hn,a0,rfl,rfl,rfl,rr,rv,p⟩ <;>
 rcases view I le hy ry with⟨rfl,rfl⟩|⟨b',rfl,rfl⟩|⟨i',t',rfl,rfl⟩|⟨z',t',rfl,rfl⟩|⟨m',es,a',ys,Y,rfl,Z,rfl,rfl,rfl,O,L,p'⟩|⟨m',es,a',ys,Y,rfl,Z,rfl,rfl,rfl,O,L,p'⟩
 case inr.inr.inr.inr.inl.inr.inr.inr.inr.inl =>
  subst hn;have a1:A.in1.units+n'<cLine:=by rw[in1_units];omega
  have J:=vp0 (A:=A.in1) a0 Z rr O rv L λd e x y u w h1 h2 h3 h4 h5 h6=>fr0 I n' m' d e x y u w A.in1 a1 h1 h2 h3 h4 h5 h6
  have q1:=SeqAt.RcAt.tuples (e:=λj=>deq (ds.getD j .non) (es.getD j .non)) p p' F J;have q2:=SeqAt.RcNeAt.tuples (e:=λj=>deq (ds.getD j .non) (es.getD j .non)) p p' F J;unfold deq;rw[yh0];have s1:its.toArray.size=ds.length:=by rw[List.size_toArray,← rv.length,rr.length]
  have s2:Y.toArray.size=es.length:=by rw[List.size_toArray,← L.length,O.length]
  rw[s1,s2] at q1 q2;exact⟨q1,q2⟩
 case inr.inr.inr.inr.inr.inr.inr.inr.inr.inr =>
  subst hn;have a1:A.in1.units+n'<cLine:=by rw[in1_units];omega
  have J:=vp0 (A:=A.in1) a0 Z rr O rv L λd e x y u w h1 h2 h3 h4 h5 h6=>fr0 I n' m' d e x y u w A.in1 a1 h1 h2 h3 h4 h5 h6
  have s1:its.toArray.size=ds.length:=by rw[List.size_toArray,← rv.length,rr.length]
  have s2:Y.toArray.size=es.length:=by rw[List.size_toArray,← L.length,O.length]
  unfold deq;rw[yh0]
  by_cases hl:ds.length=es.length
  ·have q1:=SeqAt.RcAt.lists (e:=λj=>deq (ds.getD j .non) (es.getD j .non)) p p' (by rw[s1,s2,hl]) F J
   have q2:=SeqAt.RcNeAt.lists (e:=λj=>deq (ds.getD j .non) (es.getD j .non)) p p' (by rw[s1,s2,hl]) F J;rw[s1] at q1 q2;rw[hl] at q1 q2 ⊢;simp only[Nat.min_self,beq_self_eq_true,Bool.and_true];exact⟨q1,q2⟩
  ·have q1:=Cj0 (A:=A) p p' (by rw[s1,s2];simpa using hl) F
   have q2:=SeqAt.RcNeAt.lists_lengths (A:=A) p p' (by rw[s1,s2];simpa using hl) F;rw[beq_eq_false_iff_ne.mpr hl,Bool.and_false];exact⟨q1,q2⟩
 all_goals
  unfold deq;constructor
  ·first
   | with_reducible exact SeqAt.RcAt.none_none|with_reducible exact SeqAt.RcAt.bool_bool _ _|with_reducible exact SeqAt.RcAt.int_int _ _ _ _|with_reducible exact SeqAt.RcAt.str_str _ _ _ _|with_reducible exact SeqAt.RcAt.bool_int _ _ _|with_reducible exact SeqAt.RcAt.int_bool _ _ _
   | with_reducible exact SeqAt.RcAt.none_bool _|with_reducible exact SeqAt.RcAt.none_int _ _|with_reducible exact SeqAt.RcAt.none_str _ _|with_reducible exact SeqAt.RcAt.bool_none _|with_reducible exact SeqAt.RcAt.bool_str _ _ _|with_reducible exact SeqAt.RcAt.int_none _ _|with_reducible exact SeqAt.RcAt.int_str _ _ _ _
   | with_reducible exact SeqAt.RcAt.str_none _ _|with_reducible exact SeqAt.RcAt.str_bool _ _ _|with_reducible exact SeqAt.RcAt.str_int _ _ _ _
   | with_reducible exact SeqAt.RcAt.none_list p' F|with_reducible exact SeqAt.RcAt.bool_list _ p' F|with_reducible exact SeqAt.RcAt.int_list _ _ p' F|with_reducible exact SeqAt.RcAt.str_list _ _ p' F
   | with_reducible exact SeqAt.RcAt.none_tuple p' F|with_reducible exact SeqAt.RcAt.bool_tuple _ p' F|with_reducible exact SeqAt.RcAt.int_tuple _ _ p' F|with_reducible exact SeqAt.RcAt.str_tuple _ _ p' F
   | with_reducible exact SeqAt.RcAt.list_none p F|with_reducible exact SeqAt.RcAt.list_bool _ p F|with_reducible exact SeqAt.RcAt.list_int _ _ p F|with_reducible exact SeqAt.RcAt.list_str _ _ p F
   | with_reducible exact SeqAt.RcAt.tuple_none p F|with_reducible exact SeqAt.RcAt.tuple_bool _ p F|with_reducible exact SeqAt.RcAt.tuple_int _ _ p F|with_reducible exact SeqAt.RcAt.tuple_str _ _ p F
   | with_reducible exact SeqAt.RcAt.list_tuple p p' F|with_reducible exact SeqAt.RcAt.tuple_list p p' F
  ·try rw[Bool.not_false]
   try rw[Bool.not_true]
   first
   | with_reducible exact SeqAt.RcNeAt.none_none|with_reducible exact SeqAt.RcNeAt.bool_bool _ _|with_reducible exact SeqAt.RcNeAt.int_int _ _ _ _|with_reducible exact SeqAt.RcNeAt.str_str _ _ _ _|with_reducible exact SeqAt.RcNeAt.bool_int _ _ _|with_reducible exact SeqAt.RcNeAt.int_bool _ _ _
   | with_reducible exact SeqAt.RcNeAt.none_bool _|with_reducible exact SeqAt.RcNeAt.none_int _ _|with_reducible exact SeqAt.RcNeAt.none_str _ _|with_reducible exact SeqAt.RcNeAt.bool_none _|with_reducible exact SeqAt.RcNeAt.bool_str _ _ _|with_reducible exact SeqAt.RcNeAt.int_none _ _|with_reducible exact SeqAt.RcNeAt.int_str _ _ _ _
   | with_reducible exact SeqAt.RcNeAt.str_none _ _|with_reducible exact SeqAt.RcNeAt.str_bool _ _ _|with_reducible exact SeqAt.RcNeAt.str_int _ _ _ _
   | with_reducible exact SeqAt.RcNeAt.none_list p' F|with_reducible exact SeqAt.RcNeAt.bool_list _ p' F|with_reducible exact SeqAt.RcNeAt.int_list _ _ p' F|with_reducible exact SeqAt.RcNeAt.str_list _ _ p' F
   | with_reducible exact SeqAt.RcNeAt.none_tuple p' F|with_reducible exact SeqAt.RcNeAt.bool_tuple _ p' F|with_reducible exact SeqAt.RcNeAt.int_tuple _ _ p' F|with_reducible exact SeqAt.RcNeAt.str_tuple _ _ p' F
   | with_reducible exact SeqAt.RcNeAt.list_none p F|with_reducible exact SeqAt.RcNeAt.list_bool _ p F|with_reducible exact SeqAt.RcNeAt.list_int _ _ p F|with_reducible exact SeqAt.RcNeAt.list_str _ _ p F
   | with_reducible exact SeqAt.RcNeAt.tuple_none p F|with_reducible exact SeqAt.RcNeAt.tuple_bool _ p F|with_reducible exact SeqAt.RcNeAt.tuple_int _ _ p F|with_reducible exact SeqAt.RcNeAt.tuple_str _ _ p F
   | with_reducible exact SeqAt.RcNeAt.list_tuple p p' F|with_reducible exact SeqAt.RcNeAt.tuple_list p p' F
end
section
variable{a:Expr}{ga:Ds->Option D}
def i10(K:W.Frag)(neg:Bool):R2:=λx y H Q=>∃B B' dx dy,Rp K H B dx x/\Rp K H B' dy y/\lean dx 50=true/\lean dy 50=true/\Q (.bl (xor neg (deq dx dy))) H
theorem u60(hu:X.A.units+64<cLine):OpR X (compareOp .Eq) (i10 X.K false):=by
 intro pins s σ H x y v u Q I rx ry h;obtain⟨B,B',dx,dy,hx,hy,lx,ly,q⟩:=h;exact(h70 I 50 50 dx dy x y v u X.A (by omega) lx ly hx hy rx ry).1 _ _ _ _ ⟨.bl _,H,I,rfl,by rw[Bool.false_xor] at q;exact q⟩
theorem y80(hu:X.A.units+64<cLine):OpR X (compareOp .NotEq) (i10 X.K true):=by
 intro pins s σ H x y v u Q I rx ry h;obtain⟨B,B',dx,dy,hx,hy,lx,ly,q⟩:=h;exact(h70 I 50 50 dx dy x y v u X.A (by omega) lx ly hx hy rx ry).2 _ _ _ _ ⟨.bl _,H,I,rfl,by rw[Bool.true_xor] at q;exact q⟩
theorem wu0:Op2 K (i10 K false) ym0:=by
 intro H B x y dx dy d Q hb rx ry h k;unfold ym0 at h;split at h
 ·rename_i hl
  cases h;exact⟨B,B,dx,dy,rx,ry,hl.1,hl.2,k _ H (Same.refl H) (by rw[Z8,Bool.false_xor])⟩
 ·cases h
theorem zh0:Op2 K (i10 K true) M5:=by
 intro H B x y dx dy d Q hb rx ry h k;unfold M5 at h;split at h
 ·rename_i hl
  cases h;exact⟨B,B,dx,dy,rx,ry,hl.1,hl.2,k _ H (Same.refl H) (by rw[Z8,Bool.true_xor])⟩
 ·cases h
theorem fz0:Op2 K (λx y H Q=>rI0 (λi j=>.int (i+j)) x y H Q∨(∃i j,x=.str i/\y=.str j/\i.length+j.length<=sizeLine/\Q (.str (i++j)) H)∨c90 K x y H Q∨dx0 K x y H Q∨gq0 K x y H Q) Z3:=by
 intro H B x y dx dy d Q hb rx ry h k;cases dx<;>cases dy<;>simp only[Z3] at h<;>try cases h
 ·rw[o8] at rx ry
  subst rx ry;exact .inl ⟨_,_,rfl,rfl,k _ H (Same.refl H) (by rw[o8])⟩
 ·split at h
  ·cases h
   rw[Z9] at rx ry;subst rx ry;exact .inr (.inl ⟨_,_,rfl,rfl,by assumption,k _ H (Same.refl H) (by rw[Z9])⟩)
  ·cases h
 ·split at h
  ·rename_i hz
   cases h;have L:=ry;have J:=rx;rw[Y9] at rx ry;obtain⟨a,xs,rfl,q1,r1⟩:=rx;obtain⟨b,ys,rfl,q2,r2⟩:=ry
   by_cases he:xs=[]
   ·subst he
    have e:‹List D›=‹List D›:=rfl;have hn:=r1.length;simp at hn;have F:=Ao0.mp hn.symm;subst F;exact .inr (.inr (.inr (.inr ⟨a,b,ys,rfl,rfl,q1.to,q2.to,k _ H (Same.refl H) (by rw[List.nil_append];exact L)⟩)))
   ·refine .inr (.inr (.inr (.inl ⟨a,b,xs,ys,rfl,rfl,q1.to,q2.to,he,by rw[r1.length,r2.length];exact hz,λz=>?_,λz p hp=>k _ _ (Z1 hp) (qm0 hb hp (r1.append r2))⟩)))
    subst z;have hn:=r2.length;simp at hn;have F:=Ao0.mp hn.symm;subst F;exact k _ H (Same.refl H) (by rw[List.append_nil];exact J)
  ·cases h
 ·split at h
  ·rename_i hz
   cases h;rw[Y6] at rx ry;obtain⟨a,xs,rfl,q1,r1⟩:=rx;obtain⟨b,ys,rfl,q2,r2⟩:=ry;exact .inr (.inr (.inl ⟨a,b,xs,ys,rfl,rfl,q1.to,q2.to,by rw[r1.length,r2.length];exact hz,λp hp=>k _ _ (Z1 hp) (tg0 hb hp (r1.append r2))⟩))
  ·cases h
theorem X6(ha:PD X a ga)(hb:PD X b gb):PD X (.BinOp a .Add b pos) (o2 ga gb Z3):=vu0 (Xg0.or (jg0.or (ag0.or (bm0.or eu0)))) fz0 ha hb
instance decMul(i j:Int):Decidable (CMul i j):=inferInstanceAs (Decidable ((-(2 ^ 64)<i/\i<2 ^ 64)∨(-(2 ^ 64)<j/\j<2 ^ 64)))
theorem zm0(ha:PD X a ga)(hb:PD X b gb):PD X (.BinOp a .Mult b pos) (o2 ga gb J2):=vu0 Zq0 ((show (ii λi j=>if (-(2 ^ 64)<i/\i<2 ^ 64)∨(-(2 ^ 64)<j/\j<2 ^ 64) then some (.int (i*j)) else none)=J2 from by funext x y;cases x<;>cases y<;>rfl)▸sn0 (C:=CMul) (g':=λi j=>.int (i*j)) λ_ _ _ _=>by rw[o8]) ha hb
theorem fb0{xs:List D}(h:sIx xs.length 0 lo=0/\sIx xs.length xs.length hi=xs.length):cutD xs lo hi=xs:=by
 unfold cutD;rw[h.1,h.2];simp
theorem Q0{lo hi:Option Expr}{gl gh:Ds->Option (Option Int)}{p2:Pos}(he:PD X e g)(hl:PDO X lo gl)(hh:PDO X hi gh) :
  PD X (.Subscript e (.Slice lo hi none p2) pos) (N5 g gl gh):=.mk λB δ =>
 (d60 (Zz0.or (bi0.or (Yc0.or av0))) (he B δ) (hl B δ) (hh B δ)).imp fun σ H Q ⟨d,en,h,k⟩=>by
  unfold N5 at h;cases e1:g δ with
  | none=>rw[e1] at h;cases h
  | some x =>
   cases e2:gl δ with
   | none=>rw[e1,e2] at h;cases h
   | some l =>
    cases e3:gh δ with
    | none=>rw[e1,e2,e3] at h;cases h
    | some u =>
     rw[e1,e2,e3] at h;simp only[Option.bind_some] at h;refine⟨x,en,e1,λv H1 s1 r1=>⟨l,en.same s1,(by first|exact e2|rfl),λH2 s2=>⟨u,(en.same s1).same s2,(by first|exact e3|rfl),λH3 s3=>?_⟩⟩⟩;have S:=(s1.trans s2).trans s3;have r3:=(r1.same s2).same s3;have hb:=(((en.same s1).same s2).same s3).bad;cases x<;>simp only[slA] at h<;>try cases h
     ·split at h
      ·cases h
       rw[Z9] at r3;exact .inl ⟨_,r3,by assumption,k _ H3 S (by rw[Z9])⟩
      ·cases h
     ·have r4:=r3
      rw[Y9] at r3;obtain⟨a,xs,rfl,q,r⟩:=r3;rename_i dxs
      by_cases hw:sIx dxs.length 0 l=0/\sIx dxs.length dxs.length u=dxs.length
      ·refine .inr (.inr (.inr ⟨a,xs,rfl,q.to,by rw[r.length,vi0,vi0];exact hw,k _ _ S ?_⟩))
       rw[fb0 hw];exact r4
      ·exact .inr (.inr (.inl ⟨a,xs,rfl,q.to,by rw[r.length,vi0,vi0];exact hw,λp hp=>k _ _ (S.trans (Z1 hp)) (qm0 hb hp (kl0 r l u))⟩))
     ·rw[Y6] at r3
      obtain⟨a,xs,rfl,q,r⟩:=r3;exact .inr (.inl ⟨a,xs,rfl,q.to,λp hp=>k _ _ (S.trans (Z1 hp)) (tg0 hb hp (kl0 r l u))⟩)
theorem Xo0:FnR K (λxs H Q=>(∃i,xs=[.int i]/\Q (.int i) H)∨∃k,xs=[.bl k]/\Q (.int (if k then 1 else 0)) H) intOfD:=by
 intro H B xs ds d Q hb r h k;unfold intOfD at h;split at h
 ·cases h
  obtain⟨v,rfl,r1⟩:=z40 r;rw[o8] at r1;subst r1;exact .inl ⟨_,rfl,k _ H (Same.refl H) (by rw[o8])⟩
 ·cases h
  obtain⟨v,rfl,r1⟩:=z40 r;rw[Z8] at r1;subst r1;exact .inr ⟨_,rfl,k _ H (Same.refl H) (by rw[o8])⟩
 ·cases h
theorem bx0:FnR K (λxs H Q=>∃p ys,xs=[.ref p]/\(SqL K H p ys∨SqT K H p ys)/\∀l,H l=none->Q (.ref l) (upd H l (.lst ys))) yz0:=by
 intro H B xs ds d Q hb r h k;unfold yz0 at h;split at h
 ·cases h
  obtain⟨v,rfl,r1⟩:=z40 r;rw[Y6] at r1;obtain⟨a,ys,rfl,q,rr⟩:=r1;exact⟨a,ys,rfl,.inl q.to,λl hl=>k _ _ (Z1 hl) (tg0 hb hl rr)⟩
 ·cases h
  obtain⟨v,rfl,r1⟩:=z40 r;rw[Y9] at r1;obtain⟨a,ys,rfl,q,rr⟩:=r1;exact⟨a,ys,rfl,.inr q.to,λl hl=>k _ _ (Z1 hl) (tg0 hb hl rr)⟩
 ·cases h
end
end DL
namespace DL
open Spec PyProof.Rows
theorem U7{gA:GA}(h:gA δ=some ds)(hl:ds.length<=sizeLine):Y7 gA δ=some (.tup ds):=by
 unfold Y7;rw[h,Option.bind_some,if_pos hl]
theorem y50{gA:GA}(h:gA δ=some ds)(hl:ds.length<=sizeLine):Y0 gA δ=some (.lst ds):=by
 unfold Y0;rw[h,Option.bind_some,if_pos hl]
theorem ae0{n:Int}{d:D}(h:d∈S5 0 n):∃k:Nat,(k:Int)<n/\d=.int (k:Int):=by
 obtain⟨k,hk,rfl⟩:=B0.mp h;have:=C9.mp hk;exact⟨k,by omega,by rw[Int.zero_add]⟩
theorem b40(f:D->α)(n:Int):(S5 0 n).map f=(List.range n.toNat).map λ(k:Nat)=>f (.int (k:Int)):=by
 unfold S5;rw[List.map_map];have:n - 0=n:=by omega
 rw[this];refine P4 λk _=>?_
 show f (.int (0+(k:Int)))=_;rw[Int.zero_add]
theorem vd0(n:Int):(S5 0 n).length=n.toNat:=by unfold S5;simp
theorem wx0{n:Int}{d:D}(h:(S5 0 n)[j]?=some d):j<n.toNat/\d=.int (j:Int):=by
 have hj:j<n.toNat:=by
  have:=(E1.mp h).1
  rwa [vd0] at this
 refine⟨hj,?_⟩;unfold S5 at h;rw[List.getElem?_map,List.getElem?_range (by simpa using hj)] at h;have:=B3 h;rw[← this];show D.int (0+(j:Int))=_;rw[Int.zero_add]
theorem e70{gt:GB}{ge:GE}{n:Int}(h:Nat->D)(H:∀k:Nat,(k:Int)<n->∃δ',gN 0 (.int (k:Int)) δ=some δ'/\gt δ'=some true/\ge δ'=some (h k)) :
  V2 (gN 0) gt ge δ (S5 0 n)=some ((List.range n.toNat).map h):=by
 rw[O5 (λd=>match d with|.int j=>h j.toNat|_=>.non) (λd hd=>by
  obtain⟨k,hk,rfl⟩:=ae0 hd;exact H k hk),b40]
 rfl
end DL
namespace DL
open Spec PyProof.Rows L2
section
variable{a:Expr}{ga:Ds->Option D}
theorem ot0(hm:X.mg x=none)(hv:bootBuiltins x=some (.type "list"))(ha:PD X e g)(hg:Gl X x:=by rfl)
  (hn:x ≠"__name__" := by decide) (hdb:(x==("__debug__" : Str))=false:=by decide) (he:starEach [e] X.env=(false,eval e X.env)::starEach [] X.env:=by rfl) (hpl:(backTo pos (starEach [] X.env)).any (·.1)=false:=by rfl) :
  PDF X (.Call (.Name x p) [e] [] pos) (oA (z9 g v6) yz0):=.mk λB δ=>(wk0 u80 hg hm hv (zo0 (ha B δ) xg0 he) hn hdb he hpl).imp fun σ H Q ⟨d,en,h,k⟩=>by
 unfold oA z9 v6 at h;cases e1:g δ with
 | none=>rw[e1] at h;cases h
 | some x =>
  rw[e1] at h;simp only[Option.bind_some,Option.map_some] at h;refine⟨x,en,e1,λv H1 s1 r1=>?_⟩;cases x<;>simp only[yz0] at h<;>try cases h
  ·rw[Y9] at r1
   obtain⟨q,xs,rfl,hq,rr⟩:=r1;exact⟨q,xs,rfl,.inr hq.to,λl hl=>k l _ (s1.free hl) (s1.trans (Z1 hl)) ⟨_,m8,rr.mono (Gr.fresh hl)⟩⟩
  ·rw[Y6] at r1
   obtain⟨q,xs,rfl,hq,rr⟩:=r1;exact⟨q,xs,rfl,.inl hq.to,λl hl=>k l _ (s1.free hl) (s1.trans (Z1 hl)) ⟨_,m8,rr.mono (Gr.fresh hl)⟩⟩
end
def FnN(P:Program)(w:World)(K:W.Frag)(mg:Str->Option Value)(base:Heap)(x:Str)(k:Nat)(ps:List Str)(f:List D->Option D):Prop :=
 ∃(fa:Addr) (fd:FuncData),FnOk P w K mg base CX0 k fa fd ps (spN K f)/\mg x=some (.ref fa)/\W.keepIn K (.ref fa)=true/\Binds K fd ps []
theorem u90{k:Nat}{ps:List Str}{f:List D->Option D}(C:FnN X.prog X.w X.K X.mg X.base x k ps f)(hr:Room m X.A)(hk:k<=m)(ha:PDA X (e::es) gA)(hg:Gl X x:=by rfl)(hdb:(x==("__debug__" : Str))=false:=by decide)
  (he:starEach (e::es) X.env=(false,eval e X.env)::starEach es X.env:=by rfl) (hpl:(backTo pos (starEach es X.env)).any (·.1)=false:=by rfl):PDF X (.Call (.Name x p) (e::es) [] pos) (oA gA f):=by
 obtain⟨fa,fd,F,hm,kp,hb⟩:=C;exact .mk λB δ=>(k70 (E:=E0) F (hr.mono hk) hg hm kp hb .nil du0 (ha B δ) hdb he hpl).imp fun σ H Q h=>by
  obtain⟨d,en,h,k⟩:=h;unfold oA at h;cases e1:gA δ with
  | none=>rw[e1] at h;cases h
  | some ds =>
   rw[e1] at h;refine⟨ds,en,e1,λvs H1 s1 r1=>?_⟩;show spN X.K f (vs++[]) H1 Q E0;rw[List.append_nil];exact⟨B,ds,d,(en.same s1).bad,r1,h,λp H' hp s r=>k p H' (s1.free hp) (s1.trans s) r⟩
theorem Q8{k:Nat}{ps:List Str}{f:List D->Option D}(C:FnN X.prog X.w X.K X.mg X.base x k ps f)(hr:Room m X.A)(hk:k<=m)(ha:PDA X (e::es) gA)(hg:Gl X x:=by rfl)(hdb:(x==("__debug__" : Str))=false:=by decide)
  (he:starEach (e::es) X.env=(false,eval e X.env)::starEach es X.env:=by rfl) (hpl:(backTo pos (starEach es X.env)).any (·.1)=false:=by rfl):PD X (.Call (.Name x p) (e::es) [] pos) (oA gA f):=(u90 C hr hk ha hg hdb he hpl).pd
theorem Q7(h:PDF X e g):PSD X (.Return (some e) pos) (z50 g):=.mk λH₀ B₀ δ pins s σ H D I ⟨r,en,e1,k⟩=>by
 unfold z50 at e1;obtain⟨B,b1,b2,env⟩:=en.ex;cases e2:g δ with
 | none=>rw[e2] at e1;cases e1
 | some d =>
  rw[e2] at e1;cases e1;exact md0 (h B δ) pins s σ H D I ⟨d,env,e2,λp H' hp s' r=>k p H' (en.same.free hp) (en.same.trans s') (r.mono (λo h=>h) (Gr.less λa z=>z.imp (b1 a) id)).toL⟩
theorem vq0(i:Nat){px:Pos}(hN:X.N[i]?=some x:=by rfl)(hv:Vis X.env.scope x:=by first|exact Or.inl rfl|exact Or.inr (Or.inl rfl)|exact Or.inr (Or.inr rfl))(hd:(x==("__debug__" : Str))=false:=by decide)(hcd:(x==("__classdict__" : Str))=false:=by decide) :
  PSD X (.Return (some (.Name x px)) pos) (qe0 i):=.mk λH₀ B₀ δ pins s σ H D I ⟨r,en,e1,k⟩=>by
 unfold qe0 at e1;obtain⟨B,b1,b2,env⟩:=en.ex;split at e1
 ·rename_i d hi
  obtain⟨a,hs,hb,ro⟩:=env.at hi;cases e1;exact md0 (yx0 (i:=i) hN hv hd hcd) pins s σ H D I ⟨_,hs,k a H (en.fr i d a hi hs) en.same (ro.mono (λo h=>h) (Gr.less λb z=>z.elim (b1 b) λq=>by rw[q];exact hb))⟩
 ·cases e1
end DL
namespace DL
@[simp] def rf0:List D->Option D
 | [.lst ds,.lst es]=>some (.tup ((ds.zip es).map λp=>.tup [p.1,p.2]))
 | _=>none
@[simp] def s20:List D->Option D
 | [.lst ds]=>some (.lst ds.reverse)
 | _=>none
def G7(ds:List D):List D:=(List.range ds.length).map λ(k:Nat)=>.tup [.int (k:Int),ds.getD k .non]
def fg0:List D->Option (List D)
 | [.lst ds]=>some (G7 ds)
 | _=>none
def rl0(gA:GA):GA:=fun δ=>(gA δ).bind fg0
@[simp] def v10:List D->Option D
 | [.dct (.inl ks) ds]=>some (.dct (.inl ks) ds)
 | _=>none
mutual
def tree:D->Bool
 | .lst _=>false
 | .dct _ _=>false
 | .fn _ _=>false
 | .tup ds=>trees ds
 | _=>true
def trees:List D->Bool
 | []=>true
 | d::ds=>tree d&&trees ds
end
def q10(g:GE):GE:=fun δ=>(g (frz δ)).bind λd=>if tree d=true then some d else none
theorem bb0{g:GE}{d:D}(h:g (frz δ)=some d)(ht:tree d=true):q10 g δ=some d:=by
 unfold q10;rw[h,Option.bind_some,if_pos ht]
def w80:GS:=λ_=>none
theorem xr0{gA:GA}{n:Int}(h:gA δ=some [.int n])(h1:-(2 ^ 62)<=n)(h2:n<2 ^ 62):G6 gA δ=some (S5 0 n):=by
 unfold G6;rw[h,Option.bind_some];simp only[jz0];rw[if_pos ⟨h1,h2⟩]
theorem fe0{g:GE}(h:g δ=some (.lst ds)):oA (z9 g v6) Z5 δ=some (.int (ds.length:Int)):=by
 rw[o6 (cons_of h rfl)];rfl
end DL
namespace RevL
open Spec PyProof.Rows
theorem i50:typeLookup (.type "list_reverseiterator") "__len__"=pure none:=by rw[typeLookup_type,builtinLookup_eq_fast];kernel_rfl
theorem d40:typeLookup (.type "list_reverseiterator") "__length_hint__"=pure (some (.builtin "list_reverseiterator.__length_hint__")):=by rw[typeLookup_type,builtinLookup_eq_fast];kernel_rfl
theorem bo0:isSubtype (.type "list_reverseiterator") (.type "list_reverseiterator")=pure true:=by rw[isSubtype_type];kernel_rfl
section
variable{w:World}{s:Shared}
variable{wr:List Addr}{G:Array GenState->Array GenState->Prop}{P:Nat->Value->Prop}{St:Nat->Shared->Prop}
theorem am0(W:WalksS prog w A.in1 I fp wr G n P St)(hT:∀i s,St i s->s.TypeIs (.ref I) "list_reverseiterator")(C:Addr)(res:Value)(c0:Nat)(st:St 0 s)(hC:C∉fp)(hI:I∈fp)
  (gC:s.heap.get? C=some { cls:=.type "list",data:=.seq #[] c0 })
  (hR:∀s' acc' c',Moved (C::wr) G s s'->s'.heap.get? C=some { cls:=.type "list",dict:=none,data:=.seq acc' c',slots:=#[] }->ItemsOf P acc' n->R (.ok (.ret res)) s') (hn:n<=sizeLine) :
  wpAny (model prog w) A.in1 (Builtin.List.listExtendWith (.ref C) (.ref I) res)
   (λfin s'=>match fin with|.done f=>R (.ok f) s'|.again c'=>c'.quiet=true/\codeAny (model prog w) A c' R s') (λe s'=>R (.error e) s') s:=by
 have ne:C≠I:=λe=>hC (e▸hI)
 unfold Builtin.List.listExtendWith;refine A0 (L6 (hT 0 _ st) (by
  have q1:Builtin.List.listSameRef (.ref C) (.ref I)=false:=by simp[Builtin.List.listSameRef,ne]
  have q2:(Value.type "list_reverseiterator"==Value.type "list")=false:=by decide
  have q3:(Value.type "list_reverseiterator"==Value.type "tuple")=false:=by decide
  simp only[q1,q2,q3,Bool.or_false,Bool.false_eq_true,if_false];refine A0 (W.self 0 _ _ _ st (A0 (C3 (by
   unfold Builtin.List.listLengthHint;refine A0 (g9 (hT 0 _ st) i50 (by
    show wpAny _ A.in1 (specialOf (Value.ref I) (Str.ofString "__length_hint__")>>=_) _ _ _;refine A0 (g9 (hT 0 _ st) d40 ?_);refine A0 (r8 (hT 0 _ st) bo0 ?_);rw[if_neg (by decide)];dsimp only;rw[if_pos (by decide +kernel),if_neg (by decide)];refine A1 ?_;rw[if_neg (by decide +kernel)];refine A1 ⟨P5 PySem.F.plain_extend_loop _,?_⟩;exact codeAny_extend_loopS W hn _ hC _ n 0 _ _ _ rfl (D3 _) st gC (ItemsOf.nil P) λs' acc' c' m e J=>hR s' acc' c' m e J))))))))
theorem d70(W:WalksS prog w A.in1 I fp wr G n P St)(hT:∀i s,St i s->s.TypeIs (.ref I) "list_reverseiterator")(C:Addr)(st:St 0 s)(hC:C∉fp)(hI:I∈fp)
  (gC:s.heap.get? C=some { cls:=.type "list",data:=.seq #[] })
  (hR:∀s' acc' c',Moved (C::wr) G s s'->s'.heap.get? C=some { cls:=.type "list",dict:=none,data:=.seq acc' c',slots:=#[] }->ItemsOf P acc' n->R (.ok (.ret .none)) s') (hn:n<=sizeLine) :
  wpAny (model prog w) A.in1 (Builtin.«list.__init__» ⟨[.ref C,.ref I],[]⟩)
   (λfin s'=>match fin with|.done f=>R (.ok f) s'|.again c'=>c'.quiet=true/\codeAny (model prog w) A c' R s') (λe s'=>R (.error e) s') s:=by
 show wpAny _ A.in1 (do let old ← Builtin.List.listItems (.ref C);Builtin.List.listUpdate (.ref C) (λ_=>#[]);letGo old.toList.reverse;Builtin.List.listExtendWith (.ref C) (.ref I) .none) _ _ s;refine A0 (by
  unfold Builtin.List.listItems;refine A0 (K2 gC rfl (A1 (by
   show wpAny _ A.in1 (updateSeq C (λ_=>#[])>>=λ_=>letGo (#[]:Array Value).toList.reverse>>=λ_=>Builtin.List.listExtendWith (.ref C) (.ref I) .none) _ _ s;have g2:=i0 (Obj.mapSeq (λ_=>(#[]:Array Value))) gC rfl;have oth:∀b o,b≠C->s.heap.get? b=some o->(s.heap.update C (Obj.mapSeq (λ_=>(#[]:Array Value)))).get? b=some o:=λb o hb e=>(Q2 _ _ (B7 hb)).trans e
   refine A0 (h8 gC rfl (A0 (i4 (am0 W hT C .none _ (W.frame 0 s _ s.toks st (A4 _) λb hb o e=>oth b o (λh=>hC (h▸hb)) e) hC hI g2 (λs' acc' c' m e F=>?_) hn))));exact hR s' acc' c' (Moved.trans W.gtrans ((Moved.refl W.grefl).then_heap (A4 _) λb o hb e=>oth b o (λh=>hb (h▸A5)) e) m) e F))))
end
section
variable{w:World}{s:Shared}
variable{wr:List Addr}{G:Array GenState->Array GenState->Prop}{P:Nat->Value->Prop}{St:Nat->Shared->Prop}
theorem o50{Q:Value->Shared->Prop}(W:WalksS prog w A.in1.in1 I fp wr G n P St)(hT:∀i s,St i s->s.TypeIs (.ref I) "list_reverseiterator")(st:St 0 s)(hfp:∀b∈fp,b<s.heap.objs.size)(hI:I∈fp)
  (hQ:∀s' acc' c',Moved (s.heap.objs.size::wr) G { s with heap:=s.heap.push { cls:=.type "list",data:=.seq #[] } } s' ->
   s'.heap.get? s.heap.objs.size=some { cls:=.type "list",dict:=none,data:=.seq acc' c',slots:=#[] }->ItemsOf P acc' n->Q (.ref s.heap.objs.size) s') (hn:n<=sizeLine) :
  wpAny (model prog w) A (call (.type "list") [.ref I]) Q E s:=by
 have hC:s.heap.objs.size∉fp:=λz=>D9 _ (hfp _ z)
 refine Ap0 (Q₁:=λob s1=>ob=.ref s.heap.objs.size/\s1={ s with heap:=s.heap.push { cls:=.type "list",data:=.seq #[] } }) PySem.F.called_list (PySem.F.typeCall_list_1 _) PySem.F.entry_list_init (code_list_new _ ⟨rfl,rfl⟩) λob s1 h1=>?_
 obtain⟨rfl,rfl⟩:=h1;have gC:(s.heap.push { cls:=.type "list",data:=.seq #[] }).get? s.heap.objs.size=some { cls:=.type "list",data:=.seq #[] }:=B5 _ rfl;exact⟨⟨_,gC,rfl⟩,PySem.F.args_list_init_2 _ _,d70 W hT _ (W.frame 0 s _ s.toks st (A4 _) λb _ o e=>A8 _ e) hC hI gC (λs' acc' c' m e J=>⟨rfl,hQ s' acc' c' m e J⟩) hn⟩
theorem pu0{l:Addr}{its:Array Value}{Q:Value->Shared->Prop}(hh:A.handled=none)(hl:s.heap.IsList l its)(hz:its.size<=sizeLine)
  (h:∀(h':Heap) (tk c:Nat) (a:Addr),s.heap.objs.size<=a->h'.get? a=some { cls:=.type "list",dict:=none,data:=.seq its.reverse c,slots:=#[] }->(∀b o,s.heap.get? b=some o->h'.get? b=some o)->Q (.ref a) { s with heap:=h',toks:=tk }) :
  wpAny (model prog w) A (call (.type "reversed") [.ref l]) (λv s1=>wpAny (model prog w) A (call (.type "list") [v]) Q E s1) E s:=by
 refine call_reversed_list hl ?_;obtain⟨ol,gl,_,_⟩:=id hl;have L:l<s.heap.objs.size:=A6 gl;have Z:A.in1.in1.handled=none:=by simp[hh]
 have Wk:=(Walks.listRev (prog:=prog) (w:=w) Z s.heap.objs.size l (A9 L) its).toS;refine o50 Wk (λi s x=>x.2.1.typeIs) ⟨D3 _,⟨_,B5 _ rfl,rfl,by
  show Data.fields #[.ref l,rawInt ((its.size:Int) - 1)]=_;have z:(its.size:Int) - 1 - ((0:Nat):Int)=(its.size:Int) - 1:=by omega
  rw[z]⟩,hl.push _⟩ (λb hb=>?_) (by simp) (λs' J c' m e F=>?_) hz
 ·show b<(s.heap.push _).objs.size
  rw[Heap.size_push];simp only[List.mem_cons,List.not_mem_nil,or_false] at hb;rcases hb with rfl|rfl
  ·exact r0 _
  ·exact P6 L
 ·obtain⟨h',g',d',Y,O⟩:=s'
  obtain rfl:g'=s.gens:=m.gens;obtain rfl:d'=s.drawn:=m.drawn;obtain rfl:O=s.os:=m.os;have ea:J=its.reverse:=by
   apply Array.ext
   ·rw[F.1,Array.size_reverse]
   ·intro i h1 h2
    have q:its[its.size - 1 - i]?=some J[i]:=F.2 i J[i] (i5 h1);have hi:i<its.size:=by rw[← F.1];exact h1
    rw[Array.getElem?_eq_getElem (by omega)] at q;rw[Array.getElem_reverse];exact(B3 q).symm
  subst ea;have a0:(s.heap.push (revObj l ((its.size:Int) - 1))).objs.size=s.heap.objs.size+1:=Heap.size_push ..;refine h h' Y c' _ ?_ e λb o eb=>?_
  ·show s.heap.objs.size<=(s.heap.push _).objs.size
   rw[Heap.size_push];exact Nat.le_succ _
  ·have lb:=A6 eb
   refine m.heap b o ?_ (A8 _ (A8 _ eb));simp only[List.mem_cons,List.not_mem_nil,or_false,not_or];refine⟨?_,A9 lb⟩;show b≠(s.heap.push _).objs.size;rw[Heap.size_push];exact A9 (P6 lb)
end
end RevL
namespace DL
open Spec PyProof.Rows L2
theorem Rps.reverse:∀{ds:List D} {xs:List V},Rps K H B ds xs->Rps K H B ds.reverse xs.reverse
 | [],_,h=>by rw[o7] at h;subst h;simp[o7]
 | d::ds,_,h=>by
  rw[o4] at h;obtain⟨x,r,rfl,h1,h2⟩:=h;rw[List.reverse_cons,List.reverse_cons];exact Rps.snoc (Rps.reverse h2) h1
theorem lp0:bootBuiltins "reversed"=some (.type "reversed"):=by decide +kernel
theorem bc0:bootBuiltins "list"=some (.type "list"):=by decide +kernel
theorem bs0(hc:X.calm=true)(hl:X.mg "list"=none)(hs:X.mg "reversed"=none)(he:PE X e te)(hgl:Gl X "list" := by rfl)(hgs:Gl X "reversed" := by rfl)
  (e1:starEach [.Call (.Name "reversed" p2) [e] [] pos2] X.env=(false,eval (.Call (.Name "reversed" p2) [e] [] pos2) X.env)::starEach [] X.env:=by rfl) (e2:starEach [e] X.env=(false,eval e X.env)::starEach [] X.env:=by rfl)
  (h1:(backTo pos (starEach [] X.env)).any (·.1)=false:=by rfl) (h2:(backTo pos2 (starEach [] X.env)).any (·.1)=false:=by rfl) :
  PE X (.Call (.Name "list" p) [.Call (.Name "reversed" p2) [e] [] pos2] [] pos) (fun σ H Q=>te σ H λv H'=>∃q xs,v=.ref q/\SqL X.K H' q xs/\∀l,H' l=none->Q (.ref l) (upd H' l (.lst xs.reverse))):=by
 intro pins s σ H Q I h;refine M1 (K7 I hgl hl bc0 ?_ (by decide) (by decide));refine E9 ?_ e1 h1;rw[e1];show wpAny _ _ (spliced ((false,eval (.Call (.Name "reversed" p2) [e] [] pos2) X.env)::backTo pos (starEach [] X.env))) _ _ s;refine Y1 ?_;refine M1 (K7 I hgs hs lp0 ?_ (by decide) (by decide));refine E9 ?_ e2 h2;rw[e2];show wpAny _ _ (spliced ((false,eval e X.env)::backTo pos2 (starEach [] X.env))) _ _ s;refine Y1 (thn (he pins s σ H _ I h) λu s1 ⟨v,H1,I1,r1,q,xs,ev,hq,k⟩=>X9 ?_);subst ev;obtain rfl:u=Value.ref q:=r1;obtain⟨its,rv,pl,hz⟩:=I1.list hq;have F:=rv.length;refine thn (RevL.pu0 (I1.ok.hd hc) pl.isList (by rw[List.size_toArray,← F];exact hz) (Q:=EP X pins σ Q) (E:=X.xe) λh' tk c a ha ga hk=>?_) λv s2 hv=>X9 hv
 have hf:H1 a=none:=I1.hok.fresh ha;refine⟨.ref a,_,I1.laid (a:=a) (o:=.lst xs.reverse) (t':=tk) hk ha ?_,rfl,k a hf⟩;exact⟨by rw[List.length_reverse];exact hz,its.reverse,c,rv.reverse,by rw[ga];simp⟩
theorem oz0(hl:X.mg "list"=none)(hs:X.mg "reversed"=none)(he:PD X e g)(hc:X.calm=true:=by rfl)(hgl:Gl X "list" := by rfl)(hgs:Gl X "reversed" := by rfl)
  (e1:starEach [.Call (.Name "reversed" p2) [e] [] pos2] X.env=(false,eval (.Call (.Name "reversed" p2) [e] [] pos2) X.env)::starEach [] X.env:=by rfl) (e2:starEach [e] X.env=(false,eval e X.env)::starEach [] X.env:=by rfl)
  (h1:(backTo pos (starEach [] X.env)).any (·.1)=false:=by rfl) (h2:(backTo pos2 (starEach [] X.env)).any (·.1)=false:=by rfl) :
  PDF X (.Call (.Name "list" p) [.Call (.Name "reversed" p2) [e] [] pos2] [] pos) (oA (z9 g v6) s20):=.mk λB δ =>
 (bs0 hc hl hs (he B δ) hgl hgs e1 e2 h1 h2).imp fun σ H Q ⟨d,en,h,k⟩=>by
  unfold oA z9 v6 at h;cases e3:g δ with
  | none=>rw[e3] at h;cases h
  | some x =>
   rw[e3] at h;simp only[Option.bind_some,Option.map_some] at h;cases x<;>simp only[s20] at h<;>try cases h
   refine⟨_,en,e3,λv H1 s1 r=>?_⟩;rw[Y6] at r;obtain⟨q,xs,rfl,hq,rr⟩:=r;exact⟨q,xs,rfl,hq.to,λl hl=>k l _ (s1.free hl) (s1.trans (Z1 hl)) ⟨_,m8,rr.reverse.mono (Gr.fresh hl)⟩⟩
theorem wv0[DecidableEq κ]:∀{ks:List κ} {ds:List D} {xs:List V} {q:κ},Rps K H B ds xs->(∀d,N7 ks ds q=some d->∃x,y60 (ks.zip xs) q=some x/\Rp K H B d x)/\(ks.length=xs.length->(y60 (ks.zip xs) q).isSome=T5 ks q)
 | [],ds,xs,q,h=>by
  refine⟨λd e=>?_,λ_=>?_⟩
  ·unfold N7 at e;cases e
  ·rfl
 | k::ks,[],xs,q,h=>by
  rw[o7] at h;subst h;refine⟨λd e=>?_,λz=>?_⟩
  ·unfold N7 at e;cases e
  ·simp at z
 | k::ks,d::ds,xs,q,h=>by
  rw[o4] at h;obtain⟨x,r,rfl,h1,h2⟩:=h;obtain⟨i1,i2⟩:=wv0 (ks:=ks) (q:=q) h2
  by_cases e:k=q
  ·subst e
   refine⟨λd' e'=>?_,λ_=>?_⟩
   ·unfold N7 at e'
    rw[if_pos rfl] at e';cases e';exact⟨x,wc0 rfl,h1⟩
   ·rw[List.zip_cons_cons,wc0 rfl]
    unfold T5;simp
  ·refine⟨λd' e'=>?_,λz=>?_⟩
   ·unfold N7 at e'
    rw[if_neg e] at e';rw[List.zip_cons_cons,wb0 e];exact i1 d' e'
   ·rw[List.zip_cons_cons,wb0 e,i2 (by simpa using z)]
    unfold T5;simp[e]
theorem k40[DecidableEq κ]:∀{ks:List κ} {xs:List V} {q:κ},ks.length=xs.length->((ks.zip xs).any λkv=>decide (kv.1=q))=T5 ks q
 | [],_,_,_=>rfl
 | k::ks,[],_,h=>by simp at h
 | k::ks,x::xs,q,h=>by
  rw[List.zip_cons_cons,List.any_cons,k40 (by simpa using h)];rfl
theorem qa0[DecidableEq κ]{ks:List κ}{xs:List V}{q:κ}{v:V}(h:ks.length=xs.length):∃ys,putK (ks.zip xs) q v=(V6 ks q).zip ys/\(V6 ks q).length=ys.length/\(T5 ks q=true->ys=(ks.zip xs).map λp=>if p.1=q then v else p.2)/\(T5 ks q=false->ys=xs++[v]):=by
 unfold putK V6;rw[k40 h];cases hk:T5 ks q with
 | true =>
  rw[if_pos rfl,if_pos rfl];refine⟨(ks.zip xs).map λp=>if p.1=q then v else p.2,?_,by simp[h],λ_=>rfl,λz=>by cases z⟩;clear hk
  induction ks generalizing xs with
  | nil=>rfl
  | cons k ks ih =>
   cases xs with
   | nil=>simp at h
   | cons x xs =>
    rw[List.zip_cons_cons,List.map_cons,List.map_cons,List.zip_cons_cons,ih (by simpa using h)]
    by_cases e:k=q<;>simp[e]
 | false =>
  rw[if_neg (by simp),if_neg (by simp)];refine⟨xs++[v],?_,by simp[h],λz=>(by cases z),λ_=>rfl⟩;rw[List.zip_append h];rfl
theorem xp0[DecidableEq κ]{q:κ}{d:D}{v:V}(hv:Rp K H B d v):∀{ks:List κ} {ds:List D} {xs:List V},Rps K H B ds xs->Rps K H B ((ks.zip ds).map λp=>if p.1=q then d else p.2) ((ks.zip xs).map λp=>if p.1=q then v else p.2)
 | [],_,_,_=>by simp[o7]
 | k::ks,[],xs,h=>by rw[o7] at h;subst h;simp[o7]
 | k::ks,d'::ds,xs,h=>by
  rw[o4] at h;obtain⟨x,r,rfl,h1,h2⟩:=h;rw[List.zip_cons_cons,List.zip_cons_cons,List.map_cons,List.map_cons,o4];refine⟨_,_,rfl,?_,xp0 hv h2⟩
  by_cases e:k=q
  ·simp only[e,if_true];exact hv
  ·simp only[e,if_false];exact h1
section
variable{a:Expr}{ga:Ds->Option D}
theorem rr0{d:D}{k:V5}{v:V}(h:z80 d=some k)(r:Rp K H B d v):v=kV k:=by
 cases d<;>simp[z80] at h
 ·subst h;rw[o8] at r;subst r;rfl
 ·subst h;rw[Z9] at r;subst r;rfl
theorem gi0:∀{ds:List D} {ks:List V5} {xs:List V},ua0 ds=some ks->Rps K H B ds xs->xs=ks.map kV
 | [],ks,xs,h,r=>by cases h;rw[o7] at r;exact r
 | d::ds,ks,xs,h,r=>by
  unfold ua0 at h;rw[o4] at r;obtain⟨x,r',rfl,h1,h2⟩:=r;cases e1:z80 d with
  | none=>rw[e1] at h;cases h
  | some k =>
   cases e2:ua0 ds with
   | none=>rw[e1,e2] at h;cases h
   | some l =>
    rw[e1,e2] at h;cases h;rw[rr0 e1 h1,gi0 e2 h2];rfl
theorem so0{d:D}{k:List V5}{v:V}(h:za0 d=some k)(r:Rp K H B d v):∃b,v=.ref b/\H b=some (.tup (k.map kV)):=by
 cases d<;>simp only[za0] at h<;>try cases h
 rw[Y9] at r;obtain⟨a,xs,rfl,q,rr⟩:=r;exact⟨a,rfl,by rw[← gi0 h rr];exact q.2⟩
theorem th0(hu:X.A.units+1<cLine)(ha:PD X a ga)(hb:PD X b gb)(hs:ep0 b:=by exact λ_ _=>rfl):PD X (.Subscript a b pos) (o2 ga gb yk0):=.mk λB δ=>(aa0 hu (ha B δ) (hb B δ) hs).imp fun σ H Q ⟨d,en,h,k⟩=>by
 unfold o2 at h;cases e1:ga δ with
 | none=>rw[e1] at h;cases h
 | some x =>
  cases e2:gb δ with
  | none=>rw[e1,e2] at h;cases h
  | some y =>
   rw[e1,e2] at h;simp only[Option.bind_some] at h;refine⟨x,en,e1,λv1 H1 s1 r1=>⟨y,en.same s1,e2,λv2 H2 s2 r2=>?_⟩⟩;cases x<;>simp only[yk0] at h<;>try cases h
   rename_i ks ds;have r1:=r1.same s2;cases ks with
   | inl ks =>
    simp only at h;cases e3:z80 y with
    | none=>rw[e3] at h;cases h
    | some q =>
     rw[e3] at h;simp only[Option.bind_some] at h;rw[su0] at r1;obtain⟨p,xs,rfl,_,hp,hl,rr⟩:=r1;obtain⟨v,hv,rv⟩:=(wv0 rr).1 d h;have:=rr0 e3 r2;subst this;exact⟨p,v,rfl,by rw[← hv];exact DGet.k hp,k v H2 (s1.trans s2) rv⟩
   | inr ks =>
    simp only at h;cases e3:za0 y with
    | none=>rw[e3] at h;cases h
    | some q =>
     rw[e3] at h;simp only[Option.bind_some] at h;rw[q60] at r1;obtain⟨p,xs,rfl,_,hp,hl,rr⟩:=r1;obtain⟨v,hv,rv⟩:=(wv0 rr).1 d h;obtain⟨b,rfl,hb⟩:=so0 e3 r2;exact⟨p,v,rfl,by rw[← hv];exact DGet.t hp hb,k v H2 (s1.trans s2) rv⟩
theorem ns0(hu:X.A.units+1<cLine)(ha:PD X a ga)(hb:PD X b gb)(hm:behindInMarks .NotIn b=false:=by first|rfl|with_unfolding_all rfl):PTD X (.Compare a [.NotIn] [b] pos) (ob (o2 ga gb (ze0 true))):=.mk λB δ=>(X90 (fl0 hu (ha B δ) (hb B δ)) hm).imp fun σ H Q ⟨t,en,h,k⟩=>by
 unfold ob o2 at h;cases e1:ga δ with
 | none=>rw[e1] at h;cases h
 | some x =>
  cases e2:gb δ with
  | none=>rw[e1,e2] at h;cases h
  | some y =>
   rw[e1,e2] at h;simp only[Option.bind_some] at h;refine⟨x,en,e1,λv1 H1 s1 r1=>⟨y,en.same s1,e2,λv2 H2 s2 r2=>?_⟩⟩;cases y<;>simp only[ze0] at h<;>try cases h
   rename_i ks ds;cases ks with
   | inl ks =>
    simp only at h;cases e3:z80 x with
    | none=>rw[e3] at h;cases h
    | some q =>
     rw[e3] at h;simp only[Option.map_some,Option.bind_some,asB,Bool.true_xor] at h;cases h;rw[su0] at r2;obtain⟨p,xs,rfl,_,hp,hl,rr⟩:=r2;have:=rr0 e3 r1;subst this;refine⟨p,_,rfl,DGet.k hp,_,rfl,?_⟩;rw[(wv0 rr).2 hl];exact k H2 (s1.trans s2)
   | inr ks =>
    simp only at h;cases e3:za0 x with
    | none=>rw[e3] at h;cases h
    | some q =>
     rw[e3] at h;simp only[Option.map_some,Option.bind_some,asB,Bool.true_xor] at h;cases h;rw[q60] at r2;obtain⟨p,xs,rfl,_,hp,hl,rr⟩:=r2;obtain⟨b,rfl,hb⟩:=so0 e3 (r1.same s2);refine⟨p,_,rfl,DGet.t hp hb,_,rfl,?_⟩;rw[(wv0 rr).2 hl];exact k H2 (s1.trans s2)
theorem qo0(i:Nat)(hu:X.A.units+1<cLine)(h:PD X e g)(hN:X.N[i]?=some x:=by rfl)(hv:Vis X.env.scope x:=by first|exact Or.inl rfl|exact Or.inr (Or.inl rfl)|exact Or.inr (Or.inr rfl))(hd:(x==("__debug__" : Str))=false:=by decide)(hcd:(x==("__classdict__" : Str))=false:=by decide)
  (ha:∀v,assign (.Subscript (.Name x px) e pos) X.env v=(do
   let ov ← holding [v] (eval (.Name x px) X.env)
   let iv ← holding [v,ov] (eval e X.env)
   standAt pos
   holding [v,ov,iv] (setItem ov iv v)
   release [v,ov,iv] []):=by intro _;rfl):PTG X (.Subscript (.Name x px) e pos) (putAt i g):=.mk λH₀ B₀ d δ pins s σ H v u Q I r ⟨δ',en,e1,k⟩=>by
 unfold putAt at e1;obtain⟨B,b1,b2,env,rv⟩:=en.ex;cases e2:qt0 i δ with
 | none=>rw[e2] at e1;cases e1
 | some pr =>
  cases e3:g δ with
  | none=>rw[e2,e3] at e1;cases e1
  | some dk =>
   rw[e2,e3] at e1;simp only[Option.bind_some] at e1;cases e4:z80 dk with
   | none=>rw[e4] at e1;cases e1
   | some q =>
    rw[e4] at e1;simp only[Option.bind_some] at e1;split at e1
    ·rename_i hz
     cases e1;have hi:=cu0 e2;obtain⟨a,F,hb,xs,hx,hl,rx⟩:=env.at hi;have hl:pr.1.length=xs.length:=hl;refine nh0 (yx0 (i:=i) hN hv hd hcd) (h B δ) (set_dict hu) ha pins s σ H v u Q I r ⟨_,F,_,env,e3,λiv H1 s1 r1=>?_⟩;have:=rr0 e4 r1;subst this;obtain⟨ys,hy,L,O,Y⟩:=qa0 (q:=q) (v:=v) hl;refine⟨a,_,rfl,DPut.k (s1 _ _ hx) (by rw[List.length_zip,← hl,Nat.min_self];exact hz),?_⟩;have rr:Rps X.K H1 B (W7 pr.1 pr.2 q d) ys:=by
      unfold W7;cases hk:T5 pr.1 q with
      | true=>rw[if_pos rfl,O hk];exact xp0 (rv.same s1) (rx.same s1)
      | false=>rw[if_neg (by simp),Y hk];exact Rps.snoc (rx.same s1) (rv.same s1)
     rw[hy];have J:Env X.K (upd H1 a (.dK ((V6 pr.1 q).zip ys))) B σ (δ.set i (.ow (.dct (.inl (V6 pr.1 q)) (W7 pr.1 pr.2 q d)))):=(env.same s1).mut hi F ⟨ys,m8,L,rr.mono (Gr.own hb)⟩;exact k _ _ (en.s.mut s1 b1 b2 hi F J)
    ·cases e1
theorem bu0{r:List (List V5)×List D}(h:q80 i δ=some r):δ[i]?=some (.ow (.dct (.inr r.1) r.2)):=by
 unfold q80 at h;split at h
 ·cases h;assumption
 ·cases h
theorem dg0(i:Nat)(hu:X.A.units+1<cLine)(h:PD X e g)(hN:X.N[i]?=some x:=by rfl)(hv:Vis X.env.scope x:=by first|exact Or.inl rfl|exact Or.inr (Or.inl rfl)|exact Or.inr (Or.inr rfl))(hd:(x==("__debug__" : Str))=false:=by decide)(hcd:(x==("__classdict__" : Str))=false:=by decide)
  (ha:∀v,assign (.Subscript (.Name x px) e pos) X.env v=(do
   let ov ← holding [v] (eval (.Name x px) X.env)
   let iv ← holding [v,ov] (eval e X.env)
   standAt pos
   holding [v,ov,iv] (setItem ov iv v)
   release [v,ov,iv] []):=by intro _;rfl):PTG X (.Subscript (.Name x px) e pos) (um0 i g):=.mk λH₀ B₀ d δ pins s σ H v u Q I r ⟨δ',en,e1,k⟩=>by
 unfold um0 at e1;obtain⟨B,b1,b2,env,rv⟩:=en.ex;cases e2:q80 i δ with
 | none=>rw[e2] at e1;cases e1
 | some pr =>
  cases e3:g δ with
  | none=>rw[e2,e3] at e1;cases e1
  | some dk =>
   rw[e2,e3] at e1;simp only[Option.bind_some] at e1;cases e4:za0 dk with
   | none=>rw[e4] at e1;cases e1
   | some q =>
    rw[e4] at e1;simp only[Option.bind_some] at e1;split at e1
    ·rename_i hz
     cases e1;have hi:=bu0 e2;obtain⟨a,F,hb,xs,hx,hl,rx⟩:=env.at hi;have hl:pr.1.length=xs.length:=hl;refine nh0 (yx0 (i:=i) hN hv hd hcd) (h B δ) (set_dict hu) ha pins s σ H v u Q I r ⟨_,F,_,env,e3,λiv H1 s1 r1=>?_⟩;obtain⟨kb,rfl,Z⟩:=so0 e4 r1;obtain⟨ys,hy,L,O,Y⟩:=qa0 (q:=q) (v:=v) hl;refine⟨a,_,rfl,DPut.t (s1 _ _ hx) Z (by rw[List.length_zip,← hl,Nat.min_self];exact hz),?_⟩;have rr:Rps X.K H1 B (W7 pr.1 pr.2 q d) ys:=by
      unfold W7;cases hk:T5 pr.1 q with
      | true=>rw[if_pos rfl,O hk];exact xp0 (rv.same s1) (rx.same s1)
      | false=>rw[if_neg (by simp),Y hk];exact Rps.snoc (rx.same s1) (rv.same s1)
     rw[hy];have J:Env X.K (upd H1 a (.dT ((V6 pr.1 q).zip ys))) B σ (δ.set i (.ow (.dct (.inr (V6 pr.1 q)) (W7 pr.1 pr.2 q d)))):=(env.same s1).mut hi F ⟨ys,m8,L,rr.mono (Gr.own hb)⟩;exact k _ _ (en.s.mut s1 b1 b2 hi F J)
    ·cases e1
end
end DL
namespace L2
open Spec PyProof.Rows
structure FunV(K:W.Frag)(x qual:Str)(st:Stmt)(f:Addr)(fd:FuncData)(dV:Value):Prop where
 ex:∃(oc:Value) (od:Option Addr) (kV doc pm:Value) (an:Option Addr) (cdv ct:Value) (osl:Array (Option Value)),
  fd=W.fnOf x qual (n8 st) (n6 st) (u9 st) dV kV doc pm an cdv ct/\K.lookup f=some ⟨oc,od,.func fd,osl⟩/\W.codeIn K cdv qual=true
 kp:W.keepIn K (.ref f)=true
section
variable{P:Program}{w:World}
theorem FunV.ok{f:Addr}{ps:List Str}{k:Nat}(F:FunV K x qual st f fd dV)(S:FnScope N ps (u9 st))(len:∀vs H Q E,sp vs H Q E->vs.length=ps.length)
  (hbody:∀(cdv:Value) (A:Around) (outer:List Env) (s:Shared) (H:Hp) (vs:List V) (Q:VK) (E:XK),Room k (A.deeper (envOfC qual (u9 st) s.heap.objs.size f cdv))->sp vs H Q E ->
   ∃t,PSs (xy0 CX0 P w K mg base N qual (u9 st) f cdv A outer s H E).nox (n6 st) t/\t { nx:=λ_ H'=>Q .non H',rt:=Q } (start N vs) H):FnOk P w K mg base CX0 (k+1) f fd ps sp:=by
 obtain⟨oc,od,kV,doc,pm,an,cdv,ct,O,rfl,lk,L⟩:=F.ex;refine dv0 lk L S len λA outer s H vs Q E hr J=>?_
 obtain⟨t,h,q⟩:=hbody cdv A outer s H vs Q E hr J;exact⟨t,h.nox,q⟩
theorem qn0{f:Addr}{osl:Array (Option Value)}{kV:Value}(l:K.lookup f=some ⟨oc,od,.func (W.fnOf x qual (n8 st) (n6 st) (u9 st) dV kV doc pm an cdv ct),osl⟩)
  (c:W.codeIn K cdv qual=true) (k:W.keepIn K (.ref f)=true):FunV K x qual st f (W.fnOf x qual (n8 st) (n6 st) (u9 st) dV kV doc pm an cdv ct) dV:=⟨⟨oc,od,kV,doc,pm,an,cdv,ct,osl,rfl,l,c⟩,k⟩
end
end L2
namespace DL
open Spec PyProof.Rows L2
section
variable{P:Program}{w:World}
theorem Zn0{ps:List Str}{k:Nat}{f:List D->Option D}{G:Ds->Option Res}(F:FunV K x qual st fa fd dV)(S:FnScope N ps (u9 st))
  (body:∀(cdv:Value) (A:Around) (outer:List PySem.Env) (s:Shared) (H:Hp) (E:XK),Room k (A.deeper (envOfC qual (u9 st) s.heap.objs.size fa cdv))->PSsD (xy0 CX0 P w K mg base N qual (u9 st) fa cdv A outer s H E).nox (n6 st) G)
  (hf:∀ds d,f ds=some d->ds.length=ps.length/\(G (Z4 N ds)=some (.rt d)∨(d=.non/\∃δ,G (Z4 N ds)=some (.nx δ))∨G (Z4 N ds)=some (.rf d)/\isL d=false)) :
  FnOk P w K mg base CX0 (k+1) fa fd ps (spD K f):=by
 refine F.ok S (λvs H Q E ⟨B,ds,d,_,r,h,_⟩=>?_) (λcdv A outer s H vs Q E hr ⟨B,ds,d,hb,r,h,q⟩=>?_)
 ·rw[r.length];exact(hf ds d h).1
 ·refine⟨_,body cdv A outer s H E hr H B (Z4 N ds),?_⟩
  have en:EnvS K H B H (L2.start N vs) (Z4 N ds):=by
   refine⟨Same.refl H,⟨B,λ_ z=>z,λ_ z=>.inl z,⟨?_,hb,λi j a J es h1 _ _ _=>(J8 h1).elim⟩⟩,λi J a h1 _=>(J8 h1).elim,hb⟩;unfold L2.start Z4;rw[r.length];exact Pd.app (yy0 (N:=N) r) (v40 _)
  rcases (hf ds d h).2 with e|⟨rfl,δ,e⟩|⟨e,hn⟩
  ·exact⟨_,en,e,λv H' s' r'=>q v H' s' r'⟩
  ·exact⟨_,en,e,fun σ' H' en'=>q .non H' en'.same (by rw[W0])⟩
  ·exact⟨_,en,e,λp H' hp s' r'=>q _ H' s' ((r'.toO hn).rp (λa z=>.inl z) (λz=>hb p z hp))⟩
theorem U50{ps:List Str}{k:Nat}{f:List D->Option D}{G:Ds->Option Res}(F:FunV K x qual st fa fd dV)(S:FnScope N ps (u9 st))
  (body:∀(cdv:Value) (A:Around) (outer:List PySem.Env) (s:Shared) (H:Hp) (E:XK),Room k (A.deeper (envOfC qual (u9 st) s.heap.objs.size fa cdv))->PSsD (xy0 CX0 P w K mg base N qual (u9 st) fa cdv A outer s H E).nox (n6 st) G)
  (hf:∀ds d,f ds=some d->ds.length=ps.length/\G (Z4 N ds)=some (.rf d)/\isL d=false) :
  FnOk P w K mg base CX0 (k+1) fa fd ps (spN K f):=by
 refine F.ok S (λvs H Q E ⟨B,ds,d,_,r,h,_⟩=>?_) (λcdv A outer s H vs Q E hr ⟨B,ds,d,hb,r,h,q⟩=>?_)
 ·rw[r.length];exact(hf ds d h).1
 ·refine⟨_,body cdv A outer s H E hr H B (Z4 N ds),?_⟩
  have en:EnvS K H B H (L2.start N vs) (Z4 N ds):=by
   refine⟨Same.refl H,⟨B,λ_ z=>z,λ_ z=>.inl z,⟨?_,hb,λi j a J es h1 _ _ _=>(J8 h1).elim⟩⟩,λi J a h1 _=>(J8 h1).elim,hb⟩;unfold L2.start Z4;rw[r.length];exact Pd.app (yy0 (N:=N) r) (v40 _)
  exact⟨_,en,(hf ds d h).2.1,λp H' hp s' r'=>q p H' hp s' (r'.toO (hf ds d h).2.2)⟩
end
section
variable{a:Expr}{ga:Ds->Option D}
def U20(P:Program)(w:World)(K:W.Frag)(mg:Str->Option Value)(base:Heap)(x:Str)(k:Nat)(ps:List Str)(f:List D->Option D)(dd:List D):Prop :=
 ∃(fa:Addr) (fd:FuncData) (us:List Value) (vs:List V),FnOk P w K mg base CX0 k fa fd ps (spN K f)/\mg x=some (.ref fa)/\W.keepIn K (.ref fa)=true/\Binds K fd ps us/\Vals vs us/\∀H B,Rps K H B dd vs
def X70(P:Program)(w:World)(K:W.Frag)(mg:Str->Option Value)(base:Heap)(x:Str)(k:Nat)(ps:List Str)(f:List D->Option D)(dd:List D):Prop :=
 ∃(fa:Addr) (fd:FuncData) (us:List Value) (vs:List V),FnOk P w K mg base CX0 k fa fd ps (spD K f)/\mg x=some (.ref fa)/\W.keepIn K (.ref fa)=true/\Binds K fd ps us/\Vals vs us/\∀H B,Rps K H B dd vs
theorem w70{sc scope:Scope}{elt iter tg:Expr}{ifs:List Expr}{N N':List Str}{n:Nat}{caps:List Nat}{gi:Ds->Option (List D)}{idx:List Nat}{f:D->Ds->Option Ds}{gt:Ds->Option Bool}{ge:Ds->Option D}
  (ok:CompOk sc scope N N' n caps) (hidx:∀j∈idx,j<n) (hi:PID X tg iter gi)
  (hg:∀cl s H ex,PGD (Y5 X scope cl N' s H ex) tg idx f) (ht:∀cl s H ex,PFD (Y5 X scope cl N' s H ex) ifs gt) (he:∀cl s H ex,PD (Y5 X scope cl N' s H ex) elt ge)
  (hc:X.calm=true:=by rfl) (hsc:X.env.scope=sc:=by rfl) (hN:X.N=N:=by rfl) (hs:∀x,foldedSetIterable iter X.env x=pure x:=by intro _;rfl) :
  PDF X (.ListComp elt [⟨tg,iter,ifs,0⟩] scope pos) (W3 n caps gi f gt ge):=no0 hc hsc (hN▸ok) hidx hi hg ht he hs
theorem gb0{d:D}{v:V}(h:flat d=true)(r:Rp K H B d v):ys0 v=true/\∀e u,flat e=true->Rp K H B e u->eqV v u=eqF d e:=by
 cases d<;>simp[flat] at h
 ·rw[W0] at r;subst r
  refine⟨rfl,λe u he ru=>?_⟩;cases e<;>simp[flat] at he<;>simp only[W0,Z8,o8,Z9] at ru<;>subst ru<;>rfl
 ·rw[Z8] at r;subst r
  refine⟨rfl,λe u he ru=>?_⟩;cases e<;>simp[flat] at he<;>simp only[W0,Z8,o8,Z9] at ru<;>subst ru<;>rfl
 ·rw[o8] at r;subst r
  refine⟨rfl,λe u he ru=>?_⟩;cases e<;>simp[flat] at he<;>simp only[W0,Z8,o8,Z9] at ru<;>subst ru<;>rfl
 ·rw[Z9] at r;subst r
  refine⟨rfl,λe u he ru=>?_⟩;cases e<;>simp[flat] at he<;>simp only[W0,Z8,o8,Z9] at ru<;>subst ru<;>rfl
theorem fc0{d:D}{v:V}(h:flat d=true)(r:Rp K H B d v):∀{ds:List D} {xs:List V},ds.all flat=true->Rps K H B ds xs->xs.all ys0=true/\inV v xs=ds.any λy=>eqF y d
 | [],_,_,rs=>by rw[o7] at rs;subst rs;exact⟨rfl,rfl⟩
 | e::ds,_,ha,rs=>by
  rw[o4] at rs;obtain⟨x,t,rfl,r1,r2⟩:=rs;rw[List.all_cons,Bool.and_eq_true] at ha;obtain⟨i1,i2⟩:=fc0 h r ha.2 r2;obtain⟨f1,f2⟩:=gb0 ha.1 r1;refine⟨by rw[List.all_cons,f1,i1];rfl,?_⟩;unfold inV at i2 ⊢;rw[List.any_cons,List.any_cons,f2 d v h r,i2]
theorem u70(neg:Bool):Op2 K (rIn K neg) (G8 neg):=by
 intro H B x y dx dy d Q hb rx ry h k;have key:∀(ds:List D) (xs:List V),Rps K H B ds xs->flat dx=true/\ds.all flat=true->d=.bl (xor neg (ds.any λy=>eqF y dx))->∀p,y=.ref p->(SqL K H p xs∨SqT K H p xs)->rIn K neg x y H Q:=by
  intro ds xs rs hf hd p hp hq;obtain⟨f1,f2⟩:=fc0 hf.1 rx hf.2 rs;refine⟨p,xs,hp,hq,(gb0 hf.1 rx).1,f1,k _ H (Same.refl H) ?_⟩;rw[hd,Z8,f2];cases neg<;>simp
 cases dy<;>simp only[G8] at h<;>try cases h
 ·split at h
  ·rename_i hf
   have hd:=(B3 h).symm;rw[Y9] at ry;obtain⟨p,xs,e,q,rs⟩:=ry;exact key _ xs rs hf hd p e (.inr q.to)
  ·cases h
 ·split at h
  ·rename_i hf
   have hd:=(B3 h).symm;rw[Y6] at ry;obtain⟨p,xs,e,q,rs⟩:=ry;exact key _ xs rs hf hd p e (.inl q.to)
  ·cases h
end
end DL
namespace ZipL
open Spec PyProof.Rows
abbrev IsZ(h:Heap)(z TI TO a:Addr)(f:Bool):Prop :=
 h.get? z=some { cls:=.type "zip",dict:=none,data:=.fields #[rawInt a,.bool f,.bool false,.ref TI,.ref TO],slots:=#[] }
section
variable{w:World}{s:Shared}
theorem alive{o:Obj}{Q:Option Obj->Shared->Prop}(ho:s.heap.get? a=some o)(h:Q (some o) s):wpAny (model prog w) A (loadIfAlive a) Q E s:=by
 have h':Q (s.heap.get? a) s:=by rw[ho];exact h
 exact λ_ _ _=>h'
theorem m30{TI TO:Addr}{f:Bool}{Q:Bool->Shared->Prop}(hz:IsZ s.heap z TI TO a f)(ha:s.heap.get? a=some oa)
  (hQ:∀h',IsZ h' z TI TO a true->Heap.SameBut z s.heap h'->Q false { s with heap:=h' }):wpAny (model prog w) A (Builtin.SmallTypes.ownedTupleIsFree (.ref z)) Q E s:=by
 unfold Builtin.SmallTypes.ownedTupleIsFree;refine A0 (B9 hz rfl (x:=rawInt a) rfl ?_);show wpAny _ _ (loadIfAlive ((a:Int).toNat)>>=_) _ _ _;rw[Int.toNat_natCast];refine A0 (alive ha ?_);simp only[Option.isNone_some,Bool.false_eq_true,if_false];refine A0 (B9 hz rfl (x:=.bool f) rfl ?_);cases f with
 | true =>
  rw[if_neg (show ¬((Value.bool true != Value.bool true)=true) from C1)];exact A1 (hQ _ hz (Heap.SameBut.refl _ _))
 | false =>
  rw[if_pos (show (Value.bool false != Value.bool true)=true from rfl)];exact A0 (E4 hz (by simp) λh3 J F=>A1 (hQ h3 J F))
theorem n70{TI TO a:Addr}{f:Bool}{oa:Obj}{k1 k2:Nat}{xs ys:Array Value}{x y:Value}{Q:Value->Shared->Prop}(D:ZipApart z TI TO i1 i2 l1 l2)
  (hz:IsZ s.heap z TI TO a f) (ha:s.heap.get? a=some oa) (hTI:IsPair s.heap TI (.ref i1) (.ref i2))
  (h1:s.heap.IsListIter i1 l1 k1) (h2:s.heap.IsListIter i2 l2 k2) (hl1:s.heap.IsList l1 xs) (hl2:s.heap.IsList l2 ys) (hx:xs[k1]?=some x) (hy:ys[k2]?=some y)
  (hQ:∀h',IsZ h' z TI TO a true->h'.IsListIter i1 l1 (k1+1)->h'.IsListIter i2 l2 (k2+1)->IsPair h' s.heap.objs.size x y->h'.objs.size=s.heap.objs.size+1 ->
   (∀c o,c≠z->c≠i1->c≠i2->s.heap.get? c=some o->h'.get? c=some o)->Q (.ref s.heap.objs.size) { s with heap:=h' }) :
  wpAny (model prog w) A (Builtin.«zip.__next__» ⟨[.ref z],[]⟩) (λfin s'=>∃v,fin=.done (.ret v)/\Q v s') E s:=by
 show wpAny _ _ (field (.ref z) 2>>=_) _ _ _;refine A0 (B9 hz rfl (x:=.bool false) rfl ?_);show wpAny _ _ (field (.ref z) 3>>=_) _ _ _;refine A0 (B9 hz rfl (x:=.ref TI) rfl ?_);refine A0 (K2 hTI rfl ?_);show wpAny _ _ (Builtin.SmallTypes.ownedTupleIsFree (.ref z)>>=_) _ _ _;refine A0 (m30 hz ha λh₁ Z F=>?_);simp only[Bool.false_eq_true,if_false];refine A0 ?_;simp only[List.forIn_toArray,List.forIn_cons,List.forIn_nil];refine A0 (A0 (C3 ?_));show wpAny _ _ (Builtin.SmallTypes.nextOf (.ref i1)>>=_) _ _ _;refine A0 (S1 (h1.extBut F.extBut D.i1z) (hl1.extBut F.extBut D.l1z) hx λh₂ a2 J=>A1 ?_);refine A1 ?_;refine A0 (A0 (C3 ?_));show wpAny _ _ (Builtin.SmallTypes.nextOf (.ref i2)>>=_) _ _ _;refine A0 (S1 ((h2.extBut F.extBut D.i2z).extBut J.extBut D.i12.symm) ((hl2.extBut F.extBut D.l2z).extBut J.extBut D.l2i1) hy λh₄ a0 O=>A1 ?_);refine A1 (A1 ?_);refine A0 (r9 (hsz:=by show 2<=sizeLine;decide) ?_);have L:h₄.objs.size=s.heap.objs.size:=by rw[O.1,J.1,F.1]
 have Y:IsZ h₄ z TI TO a true:=O.extBut _ _ D.i2z.symm (J.extBut _ _ D.i1z.symm Z);have a1:∀c o,c≠z->c≠i1->c≠i2->s.heap.get? c=some o->h₄.get? c=some o:=λc o c1 c3 c4 e=>O.extBut _ _ c4 (J.extBut _ _ c3 (F.extBut _ _ c1 e))
 refine A1 ⟨_,rfl,?_⟩;show Q (.ref h₄.objs.size) _;have hq:=hQ (h₄.push { cls:=.type "tuple",data:=.seq #[x,y] }) (A8 _ Y) ((a2.extBut O.extBut D.i12).at λo e=>A8 _ e) (a0.at λo e=>A8 _ e)
  (by rw[← L];exact B5 _ rfl) (by rw[Heap.size_push,L]) λc o c1 c3 c4 e=>A8 _ (a1 c o c1 c3 c4 e)
 rw[L];exact hq
theorem k50{TI TO a:Addr}{f:Bool}{oa:Obj}{k1 k2:Nat}{xs ys:Array Value}{Q:Fin->Shared->Prop}(hh:A.handled=none)(D:ZipApart z TI TO i1 i2 l1 l2)
  (hz:IsZ s.heap z TI TO a f) (ha:s.heap.get? a=some oa) (hTI:IsPair s.heap TI (.ref i1) (.ref i2))
  (h1:s.heap.IsListIter i1 l1 k1) (h2:s.heap.IsListIter i2 l2 k2) (hl1:s.heap.IsList l1 xs) (hl2:s.heap.IsList l2 ys) (hend:xs[k1]?=none∨ys[k2]?=none)
  (hE:∀h' e,(∀c o,c≠z->c≠i1->c≠i2->s.heap.get? c=some o->h'.get? c=some o)->(∃o,h'.get? e=some o/\o.cls=.type "StopIteration")->E (.ref e) { s with heap:=h' }) :
  wpAny (model prog w) A (Builtin.«zip.__next__» ⟨[.ref z],[]⟩) Q E s:=by
 show wpAny _ _ (field (.ref z) 2>>=_) _ _ _;refine A0 (B9 hz rfl (x:=.bool false) rfl ?_);show wpAny _ _ (field (.ref z) 3>>=_) _ _ _;refine A0 (B9 hz rfl (x:=.ref TI) rfl ?_);refine A0 (K2 hTI rfl ?_);show wpAny _ _ (Builtin.SmallTypes.ownedTupleIsFree (.ref z)>>=_) _ _ _;refine A0 (m30 hz ha λh₁ O F=>?_);simp only[Bool.false_eq_true,if_false];refine A0 ?_;simp only[List.forIn_toArray,List.forIn_cons,List.forIn_nil];refine A0 (A0 (C3 ?_));show wpAny _ _ (Builtin.SmallTypes.nextOf (.ref i1)>>=_) _ _ _;cases hx:xs[k1]? with
 | none =>
  refine A0 (i6 hh (h1.extBut F.extBut D.i1z) (hl1.extBut F.extBut D.l1z) hx λh₂ e J he=>?_);exact hE h₂ e (λc o c1 c3 _ x=>J _ _ c3 (F.extBut _ _ c1 x)) he
 | some x =>
  have hy:ys[k2]?=none:=by rcases hend with h|h;rw[hx] at h;cases h;exact h
  refine A0 (S1 (h1.extBut F.extBut D.i1z) (hl1.extBut F.extBut D.l1z) hx λh₂ Y J=>A1 ?_);refine A1 ?_;refine A0 (A0 (C3 ?_));show wpAny _ _ (Builtin.SmallTypes.nextOf (.ref i2)>>=_) _ _ _;refine A0 (i6 hh ((h2.extBut F.extBut D.i2z).extBut J.extBut D.i12.symm) ((hl2.extBut F.extBut D.l2z).extBut J.extBut D.l2i1) hy λh₄ e L he=>?_);exact hE h₄ e (λc o c1 c3 c4 x=>L _ _ c4 (J.extBut _ _ c3 (F.extBut _ _ c1 x))) he
theorem ji0{TI TO a:Addr}{f:Bool}{oa:Obj}{k1 k2:Nat}{xs ys:Array Value}{x y:Value}{Q:Option Value->Shared->Prop}(D:ZipApart z TI TO i1 i2 l1 l2)
  (hz:IsZ s.heap z TI TO a f) (ha:s.heap.get? a=some oa) (hTI:IsPair s.heap TI (.ref i1) (.ref i2))
  (h1:s.heap.IsListIter i1 l1 k1) (h2:s.heap.IsListIter i2 l2 k2) (hl1:s.heap.IsList l1 xs) (hl2:s.heap.IsList l2 ys) (hx:xs[k1]?=some x) (hy:ys[k2]?=some y)
  (hQ:∀h',IsZ h' z TI TO a true->h'.IsListIter i1 l1 (k1+1)->h'.IsListIter i2 l2 (k2+1)->IsPair h' s.heap.objs.size x y->h'.objs.size=s.heap.objs.size+1 ->
   (∀c o,c≠z->c≠i1->c≠i2->s.heap.get? c=some o->h'.get? c=some o)->Q (some (.ref s.heap.objs.size)) { s with heap:=h' }) :
  wpAny (model prog w) A (pyNext (.ref z)) Q E s:=by
 have hT:s.TypeIs (.ref z) "zip" := ⟨_,hz,rfl⟩;unfold pyNext;exact A0 (N1 (E3 (name:=Str.ofString "__next__") hT D6
  (D1 D6 hT S2
   (n70 D hz ha hTI h1 h2 hl1 hl2 hx hy λh' a1 a3 a4 a5 a6 a7=>A1 (hQ h' a1 a3 a4 a5 a6 a7)) (T0 _))))
theorem qr0{TI TO a:Addr}{f:Bool}{oa:Obj}{k1 k2:Nat}{xs ys:Array Value}{Q:Option Value->Shared->Prop}(hh:A.handled=none)(D:ZipApart z TI TO i1 i2 l1 l2)
  (hz:IsZ s.heap z TI TO a f) (ha:s.heap.get? a=some oa) (hTI:IsPair s.heap TI (.ref i1) (.ref i2))
  (h1:s.heap.IsListIter i1 l1 k1) (h2:s.heap.IsListIter i2 l2 k2) (hl1:s.heap.IsList l1 xs) (hl2:s.heap.IsList l2 ys) (hend:xs[k1]?=none∨ys[k2]?=none)
  (hQ:∀h',(∀c o,c≠z->c≠i1->c≠i2->s.heap.get? c=some o->h'.get? c=some o)->Q none { s with heap:=h' }):wpAny (model prog w) A (pyNext (.ref z)) Q E s:=by
 have hT:s.TypeIs (.ref z) "zip" := ⟨_,hz,rfl⟩;unfold pyNext;refine A0 (N1 (E3 (name:=Str.ofString "__next__") hT D6
  (D1 D6 hT S2 (k50 hh D hz ha hTI h1 h2 hl1 hl2 hend λh' e hk he=>?_) (T0 _))))
 obtain⟨o,ho,hc⟩:=he;refine A0 (r8 (T := "StopIteration") (b:=true) ⟨o,ho,hc⟩ Aq0 ?_);exact A1 (hQ _ hk)
end
structure ZSt(h:Heap)(z TI TO i1 i2 l1 l2 S:Addr)(xs ys:Array Value)(i:Nat):Prop where
 own:(i=0/\IsZip h z TI TO .none/\∃p q,IsPair h TO p q)∨∃a f oa,IsZ h z TI TO a f/\h.get? a=some oa/\a≠z/\a≠i1/\a≠i2/\a≠S
 hTI:IsPair h TI (.ref i1) (.ref i2)
 h1:h.IsListIter i1 l1 i
 h2:h.IsListIter i2 l2 i
 hl1:h.IsList l1 xs
 hl2:h.IsList l2 ys
structure ZLow(z TI TO i1 i2 l1 l2 S:Addr):Prop where
 z:z<S
 TI:TI<S
 TO:TO<S
 i1:i1<S
 i2:i2<S
 l1:l1<S
 l2:l2<S
structure ZG(xs ys:Array Value)(S:Addr)(h:Heap)(as:List Addr):Prop where
 rise:as.Pairwise (·<·)
 above:∀a∈as,S<a
 pairs:∀(j:Nat) (a:Addr),as[j]?=some a->∃x y,xs[j]?=some x/\ys[j]?=some y/\IsPair h a x y
section
variable{w:World}{s:Shared}{TI TO S:Addr}{h:Heap}
theorem ZG.there{as:List Addr}(g:ZG xs ys S h as)(ha:a∈as):a<h.objs.size:=by
 obtain⟨j,hj⟩:=List.mem_iff_getElem?.mp ha;obtain⟨_,_,_,_,e⟩:=g.pairs j a hj;exact A6 e
theorem ZSt.keep(x:ZSt h z TI TO i1 i2 l1 l2 S xs ys i)(L:ZLow z TI TO i1 i2 l1 l2 S)(hk:∀b o,b≠S->h.get? b=some o->h'.get? b=some o):ZSt h' z TI TO i1 i2 l1 l2 S xs ys i:=by
 refine⟨?_,hk _ _ (A9 L.TI) x.hTI,x.h1.at λo e=>hk _ o (A9 L.i1) e,x.h2.at λo e=>hk _ o (A9 L.i2) e,x.hl1.at λo e=>hk _ o (A9 L.l1) e,x.hl2.at λo e=>hk _ o (A9 L.l2) e⟩;rcases x.own with⟨e,hz,p,q,hp⟩|⟨a,f,oa,hz,ha,n1,n2,n3,n4⟩
 ·exact .inl ⟨e,hk _ _ (A9 L.z) hz,p,q,hk _ _ (A9 L.TO) hp⟩
 ·exact .inr ⟨a,f,oa,hk _ _ (A9 L.z) hz,hk _ _ n4 ha,n1,n2,n3,n4⟩
theorem Ws0{x:Value}{Q:Option Value->Shared->Prop}(D:ZipApart z TI TO i1 i2 l1 l2)(st:ZSt s.heap z TI TO i1 i2 l1 l2 S xs ys i)(hS:S<s.heap.objs.size)(hx:xs[i]?=some x)(hy:ys[i]?=some y)
  (hQ:∀h',ZSt h' z TI TO i1 i2 l1 l2 S xs ys (i+1)->IsPair h' s.heap.objs.size x y->(∀c o,c≠z->c≠TO->c≠i1->c≠i2->s.heap.get? c=some o->h'.get? c=some o)->Q (some (.ref s.heap.objs.size)) { s with heap:=h' }) :
  wpAny (model prog w) A (pyNext (.ref z)) Q E s:=by
 obtain⟨o1,e1,_⟩:=id st.h1;obtain⟨o2,e2,_⟩:=id st.h2;rcases st.own with⟨rfl,hz,p,q,hp⟩|⟨a,f,oa,hz,ha,n1,n2,n3,n4⟩
 ·refine wpAny_pyNext_zip_item D hz st.hTI hp st.h1 st.h2 st.hl1 st.hl2 hx hy λh' a1 a2 a3 a4 a5 a6 hk=>hQ h' ⟨.inr ⟨_,false,_,a1,a5,B8 (A6 hz),B8 (A6 e1),B8 (A6 e2),B8 hS⟩,hk _ _ D.TIz D.TITO D.TIi1 D.TIi2 st.hTI,a3,a4,
   st.hl1.at λo e=>hk _ o D.l1z D.l1TO D.l1i1 D.l1i2 e,st.hl2.at λo e=>hk _ o D.l2z D.l2TO D.l2i1 D.l2i2 e⟩ a5 hk
 ·refine ji0 D hz ha st.hTI st.h1 st.h2 st.hl1 st.hl2 hx hy λh' a1 a3 a4 a5 a6 hk=>hQ h' ⟨.inr ⟨a,true,oa,a1,hk _ _ n1 n2 n3 ha,n1,n2,n3,n4⟩,hk _ _ D.TIz D.TIi1 D.TIi2 st.hTI,a3,a4,
   st.hl1.at λo e=>hk _ o D.l1z D.l1i1 D.l1i2 e,st.hl2.at λo e=>hk _ o D.l2z D.l2i1 D.l2i2 e⟩ a5 λc o c1 _ c3 c4 e=>hk c o c1 c3 c4 e
theorem V40{Q:Option Value->Shared->Prop}(hh:A.handled=none)(D:ZipApart z TI TO i1 i2 l1 l2)(st:ZSt s.heap z TI TO i1 i2 l1 l2 S xs ys i)(hend:xs[i]?=none∨ys[i]?=none)
  (hQ:∀h',(∀c o,c≠z->c≠TO->c≠i1->c≠i2->s.heap.get? c=some o->h'.get? c=some o)->Q none { s with heap:=h' }):wpAny (model prog w) A (pyNext (.ref z)) Q E s:=by
 rcases st.own with⟨rfl,hz,p,q,hp⟩|⟨a,f,oa,hz,ha,n1,n2,n3,n4⟩
 ·exact wpAny_pyNext_zip_end hh D hz st.hTI hp st.h1 st.h2 st.hl1 st.hl2 hend hQ
 ·exact qr0 hh D hz ha st.hTI st.h1 st.h2 st.hl1 st.hl2 hend λh' hk=>hQ h' λc o c1 _ c3 c4 e=>hk c o c1 c3 c4 e
end
section
variable{w:World}{s:Shared}{TI TO S lo:Addr}{h₁:Heap}
theorem W30(hh:A.handled=none)(D:ZipApart z TI TO i1 i2 l1 l2)(L:ZLow z TI TO i1 i2 l1 l2 S)(hlo:lo<=z/\lo<=TO/\lo<=i1/\lo<=i2)(hn:min xs.size ys.size<=sizeLine)(res:Value)
  (hR:∀h' tk acc c as,(∀b o,b<lo->h₁.get? b=some o->h'.get? b=some o)->h'.get? S=some { cls:=.type "list",dict:=none,data:=.seq acc c,slots:=#[] }->as.length=min xs.size ys.size->ZG xs ys S h' as ->
   acc.toList=as.map Value.ref->R (.ok (.ret res)) { s with heap:=h',toks:=tk }) :
  ∀(k i:Nat) (h:Heap) (tk c:Nat) (acc:Array Value) (as:List Addr),min xs.size ys.size - i=k->i<=min xs.size ys.size->ZSt h z TI TO i1 i2 l1 l2 S xs ys i->(∀b o,b<lo->h₁.get? b=some o->h.get? b=some o) ->
   h.get? S=some { cls:=.type "list",dict:=none,data:=.seq acc c,slots:=#[] }->acc.toList=as.map Value.ref->as.length=i->ZG xs ys S h as ->
   codeAny (model prog w) A (.builtin "list.extend.loop" ⟨[.ref S,.ref z,res],[]⟩) R { s with heap:=h,toks:=tk }:=by
 have b2:=hlo.1;have b1:lo<S:=q0 hlo.1 L.z;have lk:∀(h h':Heap),(∀c o,c≠z->c≠TO->c≠i1->c≠i2->h.get? c=some o->h'.get? c=some o)->∀b o,b<lo->h.get? b=some o->h'.get? b=some o:=λh h' hk b o hb e =>
  hk b o (A9 (B6 hb hlo.1)) (A9 (B6 hb hlo.2.1)) (A9 (B6 hb hlo.2.2.1)) (A9 (B6 hb hlo.2.2.2)) e
 have Z:∀(h h':Heap),(∀c o,c≠z->c≠TO->c≠i1->c≠i2->h.get? c=some o->h'.get? c=some o)->∀b o,S<=b->h.get? b=some o->h'.get? b=some o:=λh h' hk b o hb e =>
  hk b o (B8 (B6 L.z hb)) (B8 (B6 L.TO hb)) (B8 (B6 L.i1 hb)) (B8 (B6 L.i2 hb)) e
 intro k
 induction k with
 | zero =>
  intro i h tk c acc as hk hi a3 O hS J Y hG;have b0:xs[i]?=none∨ys[i]?=none:=by
   rcases Nat.le_total xs.size ys.size with q|q
   ·exact .inl (Cl0 (by omega))
   ·exact .inr (Cl0 (by omega))
  refine L3 F.entry_extend_loop ?_;rw[Around.under_plainId t0 _];show wpAny _ A.in1 (pyNext (.ref z)>>=_) _ _ _;refine A0 (V40 (s:={ s with heap:=h,toks:=tk }) (A:=A.in1) hh D a3 b0 λh' he=>?_);refine A1 (hR h' tk acc c as (λb o h1 e=>lk h h' he b o h1 (O b o h1 e)) (Z h h' he S _ (A4 _) hS) (by omega) ⟨hG.rise,hG.above,λj a hj=>?_⟩ J);obtain⟨x,y,e1,e2,e3⟩:=hG.pairs j a hj;exact⟨x,y,e1,e2,Z h h' he a _ (E6 (hG.above a (G0 hj))) e3⟩
 | succ k ih =>
  intro i h tk c acc as hk hi a3 O hS J Y hG;have a2:i<min xs.size ys.size:=by omega
  have a5:i<xs.size:=B6 a2 (Nat.min_le_left ..);have a8:i<ys.size:=B6 a2 (Bo0 ..);have a6:acc.size=i:=by rw[← Array.length_toList,J,List.length_map,Y]
  have a1:S<h.objs.size:=A6 hS;refine L3 F.entry_extend_loop ?_;rw[Around.under_plainId t0 _];show wpAny _ A.in1 (pyNext (.ref z)>>=_) _ _ _;refine A0 (Ws0 (s:={ s with heap:=h,toks:=tk }) D a3 a1 (i5 a5) (i5 a8) λh' a9 ht a0=>?_);dsimp only at ht a0 ⊢;have a7:=Z h h' a0 S _ (A4 _) hS;have up:∀b o,b≠S->h'.get? b=some o->(h'.update S (Obj.mapSeq (·.push (Value.ref h.objs.size)))).get? b=some o:=λb o hb e=>(Q2 _ _ (B7 hb)).trans e
  show wpAny _ A.in1 (updateSeq S (·.push (Value.ref h.objs.size))>>=_) _ _ _;refine A0 ?_;refine h8 a7 rfl (A1 ⟨P5 t0 _,ih (i+1) _ tk _ (acc.push (Value.ref h.objs.size)) (as++[h.objs.size]) (by omega) a2 (a9.keep L up)
   (λb o h1 e=>up b o (A9 (I0 h1 b1)) (lk h h' a0 b o h1 (O b o h1 e))) (i0 _ a7 rfl) (by rw[Array.toList_push,J,List.map_append];rfl) (by rw[List.length_append,Y];rfl) ⟨?_,?_,?_⟩⟩) (by rw[a6];omega) (by show (acc.push (Value.ref h.objs.size)).size<=sizeLine+1;rw[Array.size_push,a6];omega)
  ·refine N2.mpr ⟨hG.rise,Cn0 _ _,λa ha b hb=>?_⟩
   rw[List.mem_singleton.mp hb];exact hG.there ha
  ·intro a ha
   rcases B4.mp ha with ha|ha
   ·exact hG.above a ha
   ·rw[List.mem_singleton.mp ha];exact a1
  ·intro j b hj
   rcases Co0 j as.length with h1|h1|h1
   ·rw[List.getElem?_append_left h1] at hj
    obtain⟨x',y',e1,e2,e3⟩:=hG.pairs j b hj;have hb:=hG.above b (G0 hj);exact⟨x',y',e1,e2,up b _ (B8 hb) (Z h h' a0 b _ (E6 hb) e3)⟩
   ·subst h1
    have hb:h.objs.size=b:=by simpa using hj
    subst hb;exact⟨_,_,by rw[Y];exact i5 a5,by rw[Y];exact i5 a8,up _ _ (B8 a1) ht⟩
   ·have a4:(as++[h.objs.size])[j]?=none:=List.getElem?_eq_none (by rw[List.length_append,List.length_singleton];omega)
    rw[a4] at hj;cases hj
end
theorem i70:typeLookup (.type "zip") "__len__"=pure none:=by rw[typeLookup_type,builtinLookup_eq_fast];kernel_rfl
theorem lk0:typeLookup (.type "zip") "__length_hint__"=pure none:=by rw[typeLookup_type,builtinLookup_eq_fast];kernel_rfl
section
variable{w:World}{s:Shared}{TI TO lo:Addr}
def X60(xs ys:Array Value)(lo:Addr)(s:Shared)(h':Heap)(as:List Addr):Prop :=
 (∀b o,b<lo->s.heap.get? b=some o->h'.get? b=some o)/\as.length=min xs.size ys.size/\ZG xs ys s.heap.objs.size h' as
theorem la0{Q:List Value->Shared->Prop}(hh:A.handled=none)(D:ZipApart z TI TO i1 i2 l1 l2)(hlo:lo<=z/\lo<=TO/\lo<=i1/\lo<=i2)
  (st:∀S,S≠z->S≠i1->S≠i2->ZSt s.heap z TI TO i1 i2 l1 l2 S xs ys 0) (hn:min xs.size ys.size<=sizeLine) (L:ZLow z TI TO i1 i2 l1 l2 s.heap.objs.size)
  (hT:s.TypeIs (.ref z) "zip") (hI:∃f0,IsZip s.heap z TI TO f0)
  (hQ:∀h' tk as,X60 xs ys lo s h' as->s.heap.objs.size<h'.objs.size->Q (as.map Value.ref) { s with heap:=h',toks:=tk }):wpAny (model prog w) A (collect (.ref z)) Q E s:=by
 have Z:s.heap.objs.size≠z:=B8 L.z;obtain⟨f0,hI⟩:=hI;unfold collect;refine A0 (wpAny_runValue (L3 F.entry_proto_collect ?_));rw[Around.under_plainId F.plain_proto_collect _];show wpAny _ A.in1 (newList []>>=λl=>again (.builtin "list.__iadd__" ⟨[l,.ref z],[]⟩)) _ _ s;refine A0 (H0 ?_);refine A1 ⟨P5 F.plain_list_iadd _,L3 F.entry_list_iadd ?_⟩;rw[Around.under_plainId F.plain_list_iadd _];have a0:(s.heap.push { cls:=.type "list",data:=.seq ([]:List Value).toArray }).get? s.heap.objs.size=some { cls:=.type "list",data:=.seq ([]:List Value).toArray }:=B5 _ rfl;have Y:=A8 { cls:=.type "list",data:=.seq ([]:List Value).toArray } hI;have J:Shared.TypeIs { s with heap:=s.heap.push { cls:=.type "list",data:=.seq ([]:List Value).toArray } } (.ref z) "zip" := ⟨_,Y,rfl⟩;show wpAny _ A.in1 (Builtin.List.listExtendWith (.ref s.heap.objs.size) (.ref z) (.ref s.heap.objs.size)) _ _ _;unfold Builtin.List.listExtendWith;refine A0 (L6 J ?_);have h1:Builtin.List.listSameRef (.ref s.heap.objs.size) (.ref z)=false:=by simp[Builtin.List.listSameRef,Z]
 have h2:(Value.type "zip"==Value.type "list")=false:=by decide
 have h3:(Value.type "zip"==Value.type "tuple")=false:=by decide
 simp only[h1,h2,h3,Bool.or_false,Bool.false_eq_true,if_false];refine A0 (wpAny_pyIter_zip (s:={ s with heap:=s.heap.push { cls:=.type "list",data:=.seq ([]:List Value).toArray } }) Y ?_);refine A0 (C3 ?_);unfold Builtin.List.listLengthHint;refine A0 (g9 J i70 ?_);show wpAny _ A.in1 (specialOf (Value.ref z) (Str.ofString "__length_hint__")>>=_) _ _ _;refine A0 (g9 J lk0 ?_);refine A1 ?_;show wpAny _ A.in1 (rule "list.extend.makes-room">>=λ_=>Builtin.List.listTouch (.ref s.heap.objs.size)>>=λ_ =>
  again (.builtin "list.extend.loop" ⟨[.ref s.heap.objs.size,.ref z,.ref s.heap.objs.size],[]⟩)) _ _ _
 refine A0 (D5 ?_);refine A0 ?_;show wpAny _ A.in1 (updateSeq s.heap.objs.size (·.push .none)>>=λ_=>updateSeq s.heap.objs.size (·.pop)) _ _ _;refine A0 (h8 a0 rfl ?_);have a1:=i0 (Obj.mapSeq (·.push Value.none)) a0 rfl;refine h8 a1 rfl ?_;have a3:=i0 (Obj.mapSeq (·.pop)) a1 rfl;have oth:∀b o,b≠s.heap.objs.size->s.heap.get? b=some o ->
   (((s.heap.push { cls:=.type "list",data:=.seq ([]:List Value).toArray }).update s.heap.objs.size (Obj.mapSeq (·.push Value.none))).update s.heap.objs.size (Obj.mapSeq (·.pop))).get? b=some o :=
  λb o hb e=>(Q2 _ _ (B7 hb)).trans ((Q2 _ _ (B7 hb)).trans (A8 _ e))
 refine A1 ⟨P5 t0 _,W30 (s:=s) (lo:=lo) (h₁:=s.heap) hh D L hlo hn _ (λh' tk a4 c as hk O hl hG a2=>?_) _ 0 _ s.toks _ #[] [] rfl (D3 _)
  ((st _ Z (B8 L.i1) (B8 L.i2)).keep L oth) (λb o hb e=>oth b o (A9 (A6 e)) e) a3 rfl rfl ⟨List.Pairwise.nil,(λ_ ha=>nomatch ha),(λj a hj=>by simp at hj)⟩⟩
 show wpAny _ A (load s.heap.objs.size>>=_) _ _ _;refine A0 (wpAny_load O ?_);refine A1 ?_;have:=hQ h' tk as ⟨hk,hl,hG⟩ (A6 O);rw[← a2] at this;exact this
end
section
variable{w:World}{s:Shared}{TI TO lo:Addr}
theorem ur0{Q₁:Value->Shared->Prop}(hh:A.handled=none)(D:ZipApart z TI TO i1 i2 l1 l2)(hlo:lo<=z/\lo<=TO/\lo<=i1/\lo<=i2)
  (st:∀S,S≠z->S≠i1->S≠i2->ZSt s.heap z TI TO i1 i2 l1 l2 S xs ys 0) (hn:min xs.size ys.size<=sizeLine) (L:ZLow z TI TO i1 i2 l1 l2 s.heap.objs.size)
  (hT:s.TypeIs (.ref z) "zip") (hI:∃f0,IsZip s.heap z TI TO f0)
  (h:∀h' tk as,X60 xs ys lo s h' as->s.heap.objs.size<h'.objs.size->Q₁ (.ref h'.objs.size) { s with heap:=h'.push { cls:=.type "tuple",data:=.seq (as.map Value.ref).toArray },toks:=tk }) :
  codeAny (model prog w) A (.call (.builtin "tuple.__new__") ⟨[.type "tuple",.ref z],[]⟩) (wants Q₁ E) s:=by
 refine codeAny_of_tree ?_;show wpAny _ A.in1 (do checkBuiltinCall "tuple.__new__" ⟨[.type "tuple",.ref z],[]⟩;again (.builtin "tuple.__new__" ⟨[.type "tuple",.ref z],[]⟩)) _ _ s;refine A0 (wpAny_of_eq (F.newCall_tuple_1 _) (A1 ⟨P5 F.plain_tuple_new _,L3 F.entry_tuple_new ?_⟩));rw[Around.under_plainId F.plain_tuple_new _];have Z:=sub_tuple_self;have Y:=init_tuple_lookup;have a0:=madeHere_tuple;have O:A.in1.handled=none:=by simp[hh]
 wp_walk using L6 hT,la0 (lo:=lo) O D hlo st hn L hT hI
 intro h' tk as hz J;show wpAny _ _ (Builtin.Tuple.tupleExact (as.map Value.ref).toArray>>=λv=>ret v) _ _ _;unfold Builtin.Tuple.tupleExact;refine A0 (H0 ?_ (by show (as.map Value.ref).toArray.size<=sizeLine;rw[List.size_toArray,List.length_map,hz.2.1];exact hn));exact A1 (h h' tk as hz J)
theorem fa0{Q:Value->Shared->Prop}(hh:A.handled=none)(hl1:s.heap.IsList l1 xs)(hl2:s.heap.IsList l2 ys)(hn:min xs.size ys.size<=sizeLine)
  (h:∀(h':Heap) (tk:Nat) (as:List Addr) (t:Addr),(∀b o,s.heap.get? b=some o->h'.get? b=some o)->as.length=min xs.size ys.size->(∀a∈as,s.heap.objs.size<=a/\a<t)->as.Nodup->s.heap.objs.size<=t ->
   (∀(j:Nat) (a:Addr),as[j]?=some a->∃x y,xs[j]?=some x/\ys[j]?=some y/\IsPair h' a x y)->h'.get? t=some { cls:=.type "tuple",data:=.seq (as.map Value.ref).toArray }->Q (.ref t) { s with heap:=h',toks:=tk }) :
  wpAny (model prog w) A (call (.type "zip") [.ref l1,.ref l2]) (λv s1=>wpAny (model prog w) A (call (.type "tuple") [v]) Q E s1) E s:=by
 have a1:l1<s.heap.objs.size:=by obtain⟨_,e,_⟩:=hl1;exact A6 e
 have a2:l2<s.heap.objs.size:=by obtain⟨_,e,_⟩:=hl2;exact A6 e
 refine call_zip_2 hl1 hl2 λh1 hz hTI Y hi1 hi2 O hk=>?_
 have L:h1.IsList l1 xs:=hl1.at λo e=>hk _ o e
 have J:h1.IsList l2 ys:=hl2.at λo e=>hk _ o e
 have H:∀k,k<5->s.heap.objs.size+k<h1.objs.size:=λk hk=>by rw[O];exact Nat.add_lt_add_left hk _
 refine Ap0 (Q₁:=λobj s₁=>s₁.TypeIs obj "tuple"/\Q obj s₁) F.called_tuple (F.typeCall_tuple_1 _) F.entry_object_init
  (ur0 (lo:=s.heap.objs.size) (xs:=xs) (ys:=ys) (by simp[hh]) (zipApart_new a1 a2) ⟨C4 _ 4,C4 _ 3,A4 _,C4 _ 1⟩ (λS n1 n2 n3=>⟨.inl ⟨rfl,hz,_,_,Y⟩,hTI,hi1,hi2,L,J⟩) hn
   ⟨H 4 (by decide),H 2 (by decide),H 3 (by decide),H 0 (by decide),H 1 (by decide),I0 a1 (H 0 (by decide)),I0 a2 (H 0 (by decide))⟩
   ⟨_,hz,rfl⟩ ⟨_,hz⟩ λh' tk as ze Z=>⟨⟨_,B5 _ rfl,rfl⟩,?_⟩) λobj s₁ h₁=>?_
 ·obtain⟨k1,k2,g⟩:=ze
  refine h (h'.push _) tk as h'.objs.size (λb o e=>A8 _ (k1 b o (A6 e) (hk b o e))) k2 (λa ha=>⟨?_,g.there ha⟩) (g.rise.imp λh=>A9 h) ?_ (λj a hj=>?_) (B5 _ rfl)
  ·exact E6 (I0 (H 0 (by decide)) (g.above a ha))
  ·exact E6 (I0 (H 0 (by decide)) Z)
  ·obtain⟨x,y,e1,e2,e3⟩:=g.pairs j a hj
   exact⟨x,y,e1,e2,A8 _ e3⟩
 ·exact⟨h₁.1,F.args_object_init_2 obj _,object_init_meets F.called_tuple.init.lookup F.called_tuple.made (by decide) prog w A.in1 _ s₁ ⟨h₁.1,rfl,h₁.2⟩⟩
end
end ZipL
namespace L2
open Spec PyProof.Rows
def xm0(H:Hp):List (Addr×HO)->Hp
 | []=>H
 | p::l=>upd (xm0 H l) p.1 p.2
theorem sd0{b:Addr}:∀{l:List (Addr×HO)},(∀p∈l,p.1≠b)->xm0 H l b=H b
 | [],_=>rfl
 | p::l,h=>by
  show upd (xm0 H l) p.1 p.2 b=_;rw[j7 (B7 (h p A5)),sd0 λq hq=>h q (A7 _ hq)]
theorem qy0{b:Addr}{u:HO}:∀{l:List (Addr×HO)},xm0 H l b=some u->(∃p∈l,p.1=b/\p.2=u)∨H b=some u
 | [],e=>.inr e
 | p::l,e=>by
  by_cases h:b=p.1
  ·subst h
   have e':upd (xm0 H l) p.1 p.2 p.1=some u:=e;rw[m8] at e';exact .inl ⟨p,A5,rfl,B3 e'⟩
  ·have e':upd (xm0 H l) p.1 p.2 b=some u:=e
   rw[j7 h] at e';rcases qy0 e' with⟨q,hq,x⟩|x
   ·exact .inl ⟨q,A7 _ hq,x⟩
   ·exact .inr x
theorem s50:∀{l:List (Addr×HO)},(l.map Prod.fst).Nodup->∀p∈l,xm0 H l p.1=some p.2
 | [],_,p,h=>nomatch h
 | q::l,n,p,h=>by
  rw[List.map_cons,List.nodup_cons] at n;show upd (xm0 H l) q.1 q.2 p.1=_;rcases B2.mp h with rfl|h
  ·rw[m8]
  ·rw[j7 (λz=>n.1 (by rw[← z];exact u4 h)),s50 n.2 p h]
section
variable{s:Shared}
theorem Inv.laidL{l:List (Addr×HO)}{t':Nat}(I:Inv X pins σ H s)(k:∀b u,s.heap.get? b=some u->h'.get? b=some u)
  (hl:∀p∈l,s.heap.objs.size<=p.1/\∃xs,p.2=.tup xs/\ObjOk X.prog X.w H h' p.1 (.tup xs)):Inv X pins σ (xm0 H l) { s with heap:=h',toks:=t' }:=by
 have F:∀b,b<s.heap.objs.size->xm0 H l b=H b:=λb hb=>sd0 λp hp z=>by
  have:=(hl p hp).1;rw[z] at this;exact D9 _ (B6 hb this)
 refine I.un ⟨λb u q _ _ _=>k b u q,λb u q _ _ _=>⟨u.slots,k b u q⟩,λb u q n _=>by rw[F b (A6 q)];exact n,λb u q _=>⟨u,k b u q⟩,λb xs q=>by rw[F b (I.hok.lt q)];exact q,
  λb u xs q=>by rw[F b (I.hok.lt q)];exact q,λb ps q=>⟨#[],by rw[F b (I.hok.lt q),q];simp⟩⟩ λb u e=>?_
 rcases qy0 e with⟨p,hp,rfl,rfl⟩|e'
 ·obtain⟨_,xs,ex,ok⟩:=hl p hp
  rw[ex];exact ok
 ·exact(I.hok b u e').stay (λc v _ q=>k c v q) (λc q=>by rw[F c (I.hok.lt q)];exact q) (λc xs q=>by rw[F c (I.hok.lt q)];exact q) λc ob u' q=>by rw[F c (I.hok.lt q)];exact q
end
def n90(X:Cx)(f1 f2:Value)(r:List V->Hp->VK->Prop):Prop :=
 ∀(pins:List (Addr×Obj)) (s:Shared) (σ:St) (H:Hp) (xs:List V) (us:List Value) (Q:VK),Inv X pins σ H s->Vals xs us->r xs H Q ->
  wpAny (model X.prog X.w) X.A (call f2 us) (λv s1=>wpAny (model X.prog X.w) X.A (call f1 [v]) (EP X pins σ Q) X.xe s1) X.xe s
section
variable{x1:Str}{T1 T2:String}{r:List V->Hp->VK->Prop}{t:TA}
theorem g70(hc:n90 X (.type T1) (.type T2) r)(hg1:Gl X x1)(hg2:Gl X x2)(hm1:X.mg x1=none)(hm2:X.mg x2=none)(hv1:bootBuiltins x1=some (.type T1))(hv2:bootBuiltins x2=some (.type T2))(ha:PA X (e::es) t)
  (hn1:x1 ≠"__name__" := by decide) (hd1:(x1==("__debug__" : Str))=false:=by decide) (hn2:x2 ≠"__name__" := by decide) (hd2:(x2==("__debug__" : Str))=false:=by decide)
  (e1:starEach [.Call (.Name x2 p2) (e::es) [] pos2] X.env=(false,eval (.Call (.Name x2 p2) (e::es) [] pos2) X.env)::starEach [] X.env:=by rfl) (h1:(backTo pos (starEach [] X.env)).any (·.1)=false:=by rfl)
  (he:starEach (e::es) X.env=(false,eval e X.env)::starEach es X.env:=by rfl) (hpl:(backTo pos2 (starEach es X.env)).any (·.1)=false:=by rfl) :
  PE X (.Call (.Name x1 p) [.Call (.Name x2 p2) (e::es) [] pos2] [] pos) (tCB r t):=by
 intro pins s σ H Q I h;refine M1 (K7 I hg1 hm1 hv1 ?_ hn1 hd1);refine E9 ?_ e1 h1;rw[e1];show wpAny _ _ (spliced ((false,eval (.Call (.Name x2 p2) (e::es) [] pos2) X.env)::backTo pos (starEach [] X.env))) _ _ s;refine Y1 ?_;refine M1 (K7 I hg2 hm2 hv2 ?_ hn2 hd2);refine E9 (thn (ha pos2 pins s σ H _ I h) λus s1 ⟨vs,H1,I1,r1,q1⟩=>?_) he hpl;exact thn (hc pins s1 σ H1 vs us Q I1 r1 q1) λv s2 hv=>X9 hv
end
end L2
namespace DL
open Spec PyProof.Rows L2
section
variable{x1:Str}{T1 T2:String}{r:List V->Hp->VK->Prop}{f:List D->Option D}
theorem h80(hc:n90 X (.type T1) (.type T2) r)(hf:FnR X.K r f)(hm1:X.mg x1=none)(hm2:X.mg x2=none)(hv1:bootBuiltins x1=some (.type T1))(hv2:bootBuiltins x2=some (.type T2))(ha:PDA X (e::es) gA)(hg1:Gl X x1:=by rfl)(hg2:Gl X x2:=by rfl)
  (hn1:x1 ≠"__name__" := by decide) (hd1:(x1==("__debug__" : Str))=false:=by decide) (hn2:x2 ≠"__name__" := by decide) (hd2:(x2==("__debug__" : Str))=false:=by decide)
  (e1:starEach [.Call (.Name x2 p2) (e::es) [] pos2] X.env=(false,eval (.Call (.Name x2 p2) (e::es) [] pos2) X.env)::starEach [] X.env:=by rfl) (h1:(backTo pos (starEach [] X.env)).any (·.1)=false:=by rfl)
  (he:starEach (e::es) X.env=(false,eval e X.env)::starEach es X.env:=by rfl) (hpl:(backTo pos2 (starEach es X.env)).any (·.1)=false:=by rfl) :
  PD X (.Call (.Name x1 p) [.Call (.Name x2 p2) (e::es) [] pos2] [] pos) (oA gA f) :=
 .mk λB δ=>(g70 hc hg1 hg2 hm1 hm2 hv1 hv2 (ha B δ) hn1 hd1 hn2 hd2 e1 h1 he hpl).imp fun σ H Q h=>m80 hf h
end
def zi0:List Addr->List (V×V)->List (Addr×HO)
 | a::as,p::ps=>(a,.tup [p.1,p.2])::zi0 as ps
 | _,_=>[]
theorem pq0:∀{as:List Addr} {ps:List (V×V)},as.length=ps.length->(zi0 as ps).map Prod.fst=as
 | [],[],_=>rfl
 | [],_::_,h=>by simp at h
 | _::_,[],h=>by simp at h
 | a::as,p::ps,h=>by
  show a::(zi0 as ps).map Prod.fst=_;rw[pq0 (by simpa using h)]
theorem pk0:∀{as:List Addr} {ps:List (V×V)} {q:Addr×HO},q∈zi0 as ps->∃(j:Nat) (p:V×V),as[j]?=some q.1/\ps[j]?=some p/\q.2=.tup [p.1,p.2]
 | [],_,q,h=>by simp[zi0] at h
 | _::_,[],q,h=>by simp[zi0] at h
 | a::as,p::ps,q,h=>by
  rcases B2.mp h with rfl|h
  ·exact⟨0,p,rfl,rfl,rfl⟩
  ·obtain⟨j,p',h1,h2,h3⟩:=pk0 h
   exact⟨j+1,p',by simpa using h1,by simpa using h2,h3⟩
def c70(K:W.Frag):List V->Hp->VK->Prop:=λvs H Q=>∃q1 q2 xs ys,vs=[.ref q1,.ref q2]/\SqL K H q1 xs/\SqL K H q2 ys /\
 ∀(t:Addr) (as:List Addr),as.length=(xs.zip ys).length->as.Nodup->t∉as->H t=none->(∀a∈as,H a=none)->Q (.ref t) (xm0 H ((t,.tup (as.map V.ref))::zi0 as (xs.zip ys)))
theorem pe0:∀as:List Addr,Vals (as.map V.ref) (as.map Value.ref)
 | []=>.nil
 | a::as=>.cons rfl (pe0 as)
theorem q00(hc:X.calm=true:=by rfl):n90 X (.type "tuple") (.type "zip") (c70 X.K):=by
 intro pins s σ H vs us Q I r h;obtain⟨q1,q2,xs,ys,rfl,h1,h2,k⟩:=h;cases r with
 | cons r1 r =>
  cases r with
  | cons r2 r =>
   cases r;obtain rfl:=r1;obtain rfl:=r2;obtain⟨us1,v1,p1,z1⟩:=I.list h1;obtain⟨us2,v2,p2,z2⟩:=I.list h2;have l1:=v1.length;have l2:=v2.length;refine ZipL.fa0 (I.ok.hd hc) p1.isList p2.isList (by rw[List.size_toArray,List.size_toArray];omega) λh' tk as t hk hl ha L ht hp gt=>?_
   rw[List.size_toArray,List.size_toArray] at hl;have J:as.length=(xs.zip ys).length:=by rw[List.length_zip,hl];omega
   refine⟨.ref t,_,I.laidL (t':=tk) hk λp F=>?_,rfl,k t as J L (λz=>D9 _ (ha t z).2) (I.hok.fresh ht) λa h=>I.hok.fresh (ha a h).1⟩;rcases B2.mp F with rfl|F
   ·refine⟨ht,_,rfl,?_,as.map Value.ref,pe0 as,⟨_,gt,rfl,_,rfl,rfl⟩⟩
    rw[List.length_map,hl];omega
   ·obtain⟨j,⟨x,y⟩,e1,e2,e3⟩:=pk0 F
    obtain⟨u,w,f1,f2,f3⟩:=hp j p.1 e1;have hz:=As0.mp e2;obtain⟨u',g1,g2⟩:=v1.get hz.1;obtain⟨w',g3,g4⟩:=v2.get hz.2;have eu:u'=u:=by
     have:us1.toArray[j]?=some u':=by simpa using g1
     rw[f1] at this;exact(B3 this).symm
    have ew:w'=w:=by
     have:us2.toArray[j]?=some w':=by simpa using g3
     rw[f2] at this;exact(B3 this).symm
    subst eu;subst ew;exact⟨(ha p.1 (G0 e1)).1,_,e3,(by show 2<=sizeLine;decide),[u',w'],.cons g2 (.cons g4 .nil),⟨_,f3,rfl,_,rfl,rfl⟩⟩
theorem ph0:∀{ds es:List D} {xs ys:List V} {as:List Addr},Rps K H B ds xs->Rps K H B es ys->as.length=(xs.zip ys).length->(∀p∈zi0 as (xs.zip ys),H p.1=some p.2/\¬B p.1) ->
  Rps K H B ((ds.zip es).map λp=>D.tup [p.1,p.2]) (as.map V.ref)
 | [],es,xs,ys,as,r1,r2,hl,h=>by
  rw[o7] at r1;subst r1;simp at hl;subst hl;simp[o7]
 | d::ds,[],xs,ys,as,r1,r2,hl,h=>by
  rw[o7] at r2;subst r2;simp at hl;subst hl;simp[o7]
 | d::ds,e::es,xs,ys,as,r1,r2,hl,h=>by
  rw[o4] at r1 r2;obtain⟨x,xs',rfl,a1,a2⟩:=r1;obtain⟨y,F,rfl,b1,b2⟩:=r2;cases as with
  | nil=>simp at hl
  | cons a as =>
   have h0:=h (a,.tup [x,y]) A5;rw[List.zip_cons_cons,List.map_cons,List.map_cons,o4];refine⟨_,_,rfl,?_,ph0 a2 b2 (by simpa using hl) λp hp=>h p (A7 _ hp)⟩;rw[Y9];refine⟨a,[x,y],rfl,⟨h0.2,h0.1⟩,?_⟩;rw[o4];refine⟨_,_,rfl,a1,?_⟩;rw[o4];exact⟨_,_,rfl,b1,by rw[o7]⟩
theorem il0:FnR K (c70 K) rf0:=by
 intro H B xs ds d Q bad r h k;unfold rf0 at h;split at h<;>try cases h
 rename_i ds es;rw[o4] at r;obtain⟨x,r',rfl,r1,r⟩:=r;rw[o4] at r;obtain⟨y,r',rfl,r2,r⟩:=r;rw[o7] at r;subst r;rw[Y6] at r1 r2;obtain⟨q1,us,rfl,s1,t1⟩:=r1;obtain⟨q2,ws,rfl,s2,t2⟩:=r2;refine⟨q1,q2,us,ws,rfl,s1.to,s2.to,λt as hl J ht ft fa=>?_⟩;have F:(((t,HO.tup (as.map V.ref))::zi0 as (us.zip ws)).map Prod.fst)=t::as:=by rw[List.map_cons,pq0 hl]
 have hN:(((t,HO.tup (as.map V.ref))::zi0 as (us.zip ws)).map Prod.fst).Nodup:=by rw[F];exact N0.mpr ⟨ht,J⟩
 have fr:∀p∈((t,HO.tup (as.map V.ref))::zi0 as (us.zip ws)),H p.1=none:=λp hp=>by
  have:p.1∈t::as:=by rw[← F];exact u4 hp
  rcases B2.mp this with e|e
  ·rw[e];exact ft
  ·exact fa _ e
 have sm:Same H (xm0 H ((t,HO.tup (as.map V.ref))::zi0 as (us.zip ws))):=λb u e=>by
  rw[sd0 λp hp z=>by rw[← z,fr p hp] at e;cases e];exact e
 have nb:∀p∈((t,HO.tup (as.map V.ref))::zi0 as (us.zip ws)),¬B p.1:=λp hp z=>bad _ z (fr p hp)
 refine k _ _ sm ?_;rw[Y9];refine⟨t,as.map V.ref,rfl,⟨nb _ A5,s50 hN _ A5⟩,ph0 (t1.same sm) (t2.same sm) hl λp hp=>⟨s50 hN p (A7 _ hp),nb p (A7 _ hp)⟩⟩
end DL
namespace L2
open Spec PyProof.Rows
section
variable{s:Shared}
theorem Inv.turnedL(I:Inv X pins σ H s)(hf:∀b∈fp,xk0 X pins H b)(k:∀b o,b∉fp->s.heap.get? b=some o->h'.get? b=some o):Inv X pins σ H { s with heap:=h',toks:=t' }:=by
 have F:∀b u,H b=some u->b∉fp:=λb u e z=>by rw[(hf b z).1] at e;cases e
 refine I.step (g':=s.gens) (d':=s.drawn) (ch:=fp) (λb hb=>⟨(hf b hb).2.2.2.1,(hf b hb).2.1,(hf b hb).2.2.2.2.1,(hf b hb).2.2.2.2.2⟩) (λb o _ _ hc e _=>k b o hc e) (λb o _ _ hc e _=>⟨o.slots,k b o hc e⟩) (λ_ _ _ _ n=>n)
  (λb o hc e=>⟨o,k b o hc e⟩) (λ_ _ e=>e) (λ_ _ _ e=>e) (λb ps e=>⟨#[],by rw[e];simp⟩) (λm hm=>?_) (λb u e=>?_) I.bare
 ·obtain⟨o,es,ep,ho,r⟩:=hm
  exact⟨o,es,ep,k _ o (λz=>(hf _ z).2.1 rfl) ho,r⟩
 ·refine(I.hok b u e).stay (λc v hc q=>k c v ?_ q) (λ_ q=>q) (λ_ _ q=>q) λ_ _ _ q=>q
  rcases hc with z|z
  ·rw[z];exact F b u e
  ·exact F c _ z
theorem Inv.turnedNew{t':Nat}{x y:V}{w:Value}(I:Inv X pins σ H s)(hf:∀b∈fp,xk0 X pins H b)(rx:RelV x u)(ry:RelV y w)(hlt:∀b∈fp,b<s.heap.objs.size)
  (hob:h'.get? s.heap.objs.size=some { cls:=.type "tuple",data:=.seq #[u,w] }) (k:∀b o,b∉fp->s.heap.get? b=some o->h'.get? b=some o) :
  Inv X pins σ (upd H s.heap.objs.size (.tup [x,y])) { s with heap:=h',toks:=t' }/\∀b∈fp,upd H s.heap.objs.size (.tup [x,y]) b=none:=by
 have ne:∀b∈fp,b≠s.heap.objs.size:=λb hb=>A9 (hlt b hb)
 have fr:∀b∈fp,upd H s.heap.objs.size (.tup [x,y]) b=none:=λb hb=>by rw[j7 (ne b hb)];exact(hf b hb).1
 have I1:Inv X pins σ (upd H s.heap.objs.size (.tup [x,y])) { s with heap:=s.heap.push { cls:=.type "tuple",data:=.seq #[u,w] },toks:=t' } :=
  I.laid (λb o e=>A8 _ e) (A4 _) ⟨(by show 2<=sizeLine;decide),[u,w],.cons rx (.cons ry .nil),⟨_,B5 _ rfl,rfl,_,rfl,rfl⟩⟩
 refine⟨Inv.turnedL (s:={ s with heap:=s.heap.push { cls:=.type "tuple",data:=.seq #[u,w] },toks:=t' }) (t':=t') (fp:=fp) I1 (λb hb=>⟨fr b hb,(hf b hb).2⟩) λb o hb e=>?_,fr⟩;rcases Heap.get?_push_cases e with⟨rfl,rfl⟩|e
 ·exact hob
 ·exact k b o hb e
end
def Ite(K:W.Frag)(a:Addr):It :=
 ⟨λi H=>∃xs x,SqL K H a xs/\xs[i]?=some x,
   λi H v H'=>∃t x,v=.ref t/\H t=none/\H'=upd H t (.tup [.int (i:Int),x])/\∀xs,SqL K H a xs->xs[i]?=some x,
   λi H=>∃xs,SqL K H a xs/\xs.length<=i⟩
theorem ie0{P:Program}{w:World}{x1}{e:Addr}(hei:e≠it):Turn P w K (.Tuple elts x1 pos) (Ite K a) [e,it] e
  (λi h=>(∃old,IsEnum h e it i old)/\h.IsListIter it a i) where
 mem:=by simp
 obj:=λi h st c hc=>by
  obtain⟨⟨old,he⟩,⟨o1,e1,c1,d1⟩⟩:=st;simp only[List.mem_cons,List.not_mem_nil,or_false] at hc;rcases hc with rfl|rfl
  ·exact⟨_,he,λv z=>nomatch z⟩
  ·exact⟨_,e1,λv z=>by rw[d1] at z;cases z⟩
 keep:=λi h h' st k=>by
  obtain⟨⟨old,he⟩,h1⟩:=st;exact⟨⟨old,k e (by simp) _ he⟩,h1.at λo x=>k it (by simp) o x⟩
 item:=by
  intro X hP hw hK hc i pins s σ H E I hf st hg;subst hP hw hK;obtain⟨⟨old,he⟩,h1⟩:=st;obtain⟨xs,x,hq,hx⟩:=hg;obtain⟨us,rv,p1,z1⟩:=I.list hq;obtain⟨u,hu,ru⟩:=rv.get hx;refine wpAny_pyNext_enum_item he h1 p1.isList (x:=u) (by simpa using hu) hei λh' a1 a2 a3 a4 hk=>?_
  refine⟨_,rfl,At0 (s:={ s with heap:=h',toks:=s.toks+1 }) a1 λF b1 hs=>?_⟩;have le:=A6 he;obtain⟨o1,e1,_⟩:=id h1;have l1:=A6 e1;obtain⟨I1,fr⟩:=I.turnedNew (h':=F) (t':=s.toks+1) (fp:=[e,it]) (x:=.int (i:Int)) (u:=.int i s.toks) hf ⟨_,rfl⟩ ru (λc hc=>by
   simp only[List.mem_cons,List.not_mem_nil,or_false] at hc;rcases hc with rfl|rfl<;>assumption) ((hs.2 _ (B8 le)).trans a3) (λc o hc x=>by
   simp only[List.mem_cons,List.not_mem_nil,or_false,not_or] at hc;exact(hs.2 _ hc.1).trans (hk c o hc.1 hc.2 x))
  exact⟨.ref s.heap.objs.size,_,I1,rfl,⟨_,x,rfl,I.hok.fresh (A4 _),rfl,λys hy=>by rw[I.list_inj hy hq];exact hx⟩,⟨⟨_,by simpa using b1⟩,a2.at λo y=>(hs.2 it hei.symm).trans y⟩,fr⟩
 done:=by
  intro X hP hw hK hc i pins s σ H E I hf st hg;subst hP hw hK;obtain⟨⟨old,he⟩,h1⟩:=st;obtain⟨xs,hq,J⟩:=hg;obtain⟨us,rv,p1,z1⟩:=I.list hq;have l1:=rv.length;refine wpAny_pyNext_enum_end (I.ok.hd hc) he h1 p1.isList (by simp;omega) λh' hk=>⟨rfl,I.turnedL (t':=s.toks) (fp:=[e,it]) hf λc o hc x=>?_⟩
  simp only[List.mem_cons,List.not_mem_nil,or_false,not_or] at hc;exact hk c o hc.2 x
 self:=λ_ _ _ _ _ st h=>by
  obtain⟨⟨old,he⟩,_⟩:=st;exact U1 he h
theorem boot_zip:bootBuiltins "zip"=some (.type "zip"):=by decide +kernel
theorem ud0:bootBuiltins "enumerate"=some (.type "enumerate"):=by decide +kernel
def Vj0(K:W.Frag)(ta:TA):TI:=fun σ H R=>ta σ H λvs H1=>∃a,vs=[.ref a]/\(∃xs,SqL K H1 a xs)/\R (Ite K a) H1
theorem bn0{a:Expr}{ta:TA}{p pos:Pos}(hg:Gl X "enumerate")(hm:X.mg "enumerate"=none)(ha:PA X [a] ta)(hs:starEach [a] X.env=[(false,eval a X.env)]:=by rfl) :
  PI X (.Tuple elts x1 tpos) (.Call (.Name "enumerate" p) [a] [] pos) (Vj0 X.K ta):=by
 intro pins s σ H R I h;refine Call_ (K7 I hg hm ud0 (E9 (thn (ha pos pins s σ H _ I h) λus s1 ⟨vs,H1,I1,r1,q1⟩=>?_) hs rfl));obtain⟨qa,e,⟨xs,h1⟩,q⟩:=q1;subst e;cases r1 with
 | cons r rr =>
  cases rr;obtain rfl:=r;obtain⟨us1,v1,p1,z1⟩:=I1.list h1;refine call_enumerate_list p1.isList λh' hz hi1 F hk=>?_
  refine U1 (s:={ s1 with heap:=h' }) hz ?_;refine⟨_,_,_,_,H1,rfl,I1.kept (t':=s1.toks) hk,ie0 (B8 (r0 _)),⟨⟨_,hz⟩,hi1⟩,λb hb=>?_,q⟩;simp only[List.mem_cons,List.not_mem_nil,or_false] at hb;rcases hb with rfl|rfl
  ·exact I1.fpOk (C4 _ 1) (I1.hok.fresh (C4 _ 1))
  ·exact I1.fpOk (A4 _) (I1.hok.fresh (A4 _))
end L2
namespace DL
open Spec PyProof.Rows L2
section
variable{a:Expr}
theorem tj0{t:Addr}{x y:V}{d e:D}(hn:¬B t)(ht:H t=some (.tup [x,y]))(r1:Rp K H B d x)(r2:Rp K H B e y):Rp K H B (.tup [d,e]) (.ref t):=by
 rw[Y9];refine⟨t,[x,y],rfl,⟨hn,ht⟩,?_⟩;rw[o4];refine⟨_,_,rfl,r1,?_⟩;rw[o4];exact⟨_,_,rfl,r2,by rw[o7]⟩
theorem en0(hm:X.mg "enumerate"=none)(ha:PDA X [a] gA)(hg:Gl X "enumerate" := by rfl)(hs:starEach [a] X.env=[(false,eval a X.env)]:=by rfl) :
  PID X (.Tuple elts x1 tpos) (.Call (.Name "enumerate" p) [a] [] pos) (rl0 gA):=.mk λB δ=>L2.PI.imp (bn0 hg hm (ha B δ) hs) fun σ H R ⟨items,en,e1,k⟩=>by
 unfold rl0 at e1;cases e2:gA δ with
 | none=>rw[e2] at e1;cases e1
 | some ds =>
  rw[e2] at e1;simp only[Option.bind_some] at e1;unfold fg0 at e1;split at e1<;>try cases e1
  rename_i ds;refine⟨_,en,e2,λvs H' s' r=>?_⟩;rw[o4] at r;obtain⟨x,t,rfl,r1,r⟩:=r;rw[o7] at r;subst r;rw[Y6] at r1;obtain⟨q1,us,rfl,s1,t1⟩:=r1;have F:(G7 ds).length=us.length:=by unfold G7;simp[t1.length]
  refine⟨q1,rfl,⟨us,s1.to⟩,k _ H' s' ⟨λi H2 g2 hi=>?_,λi H2 v H3 g2 y hi=>?_,λi H2 g2 hi=>?_⟩⟩
  ·rw[F] at hi
   exact⟨us,us[i],(s1.mono g2).to,by simp[hi]⟩
  ·obtain⟨t,x,rfl,ht,rfl,hx⟩:=y
   rw[F,t1.length] at hi;obtain⟨x',e4,rx⟩:=t1.get (i:=i) (C7 hi);have ex:=hx us (s1.mono g2).to;rw[e4] at ex;cases ex;refine⟨Z1 ht,.tup [.int (i:Int),ds[i]],by unfold G7;simp[hi],λB' gB hb=>?_⟩;exact tj0 (λz=>hb t z ht) m8 (by rw[o8]) (rx.mono gB)
  ·rw[F] at hi
   exact⟨us,(s1.mono g2).to,hi⟩
end
mutual
theorem k80(hB:∀a,B a->B' a∨(∃xs,H a=some (.lst xs))∨∃ks xs,H a=some (dOb ks xs)):∀(d:D) (v:V),tree d=true->Rp K H B' d v->Rp K H B d v
 | .non,v,_,r=>by rw[W0] at r ⊢;exact r
 | .bl _,v,_,r=>by rw[Z8] at r ⊢;exact r
 | .int _,v,_,r=>by rw[o8] at r ⊢;exact r
 | .str _,v,_,r=>by rw[Z9] at r ⊢;exact r
 | .lst _,v,h,_=>by unfold tree at h;cases h
 | .dct _ _,v,h,_=>by unfold tree at h;cases h
 | .fn _ _,v,h,_=>by unfold tree at h;cases h
 | .tup ds,v,h,r=>by
  unfold tree at h;rw[Y9] at r ⊢;obtain⟨a,xs,rfl,q,rs⟩:=r;refine⟨a,xs,rfl,?_,oq0 hB ds xs h rs⟩;obtain⟨n,q⟩:=q;refine⟨λz=>?_,q⟩;rcases hB a z with z|⟨ys,z⟩|⟨ks,ys,z⟩
  ·exact n z
  ·rw[z] at q;cases q
  ·rw[z] at q;cases ks<;>cases q
theorem oq0(hB:∀a,B a->B' a∨(∃xs,H a=some (.lst xs))∨∃ks xs,H a=some (dOb ks xs)):∀(ds:List D) (vs:List V),trees ds=true->Rps K H B' ds vs->Rps K H B ds vs
 | [],vs,_,r=>by rw[o7] at r ⊢;exact r
 | d::ds,vs,h,r=>by
  unfold trees at h;rw[Bool.and_eq_true] at h;rw[o4] at r ⊢;obtain⟨x,t,rfl,r1,r2⟩:=r;exact⟨x,t,rfl,k80 hB d x h.1 r1,oq0 hB ds t h.2 r2⟩
end
theorem Z30{g:GE}(h:PD X e g):PD X e (q10 g):=.mk λB δ pins s σ H Q I ⟨d,en,hq,k⟩=>by
 obtain⟨B',c1,c2,F⟩:=en.frz;unfold q10 at hq;cases e1:g (frz δ) with
 | none=>rw[e1] at hq;cases hq
 | some x =>
  rw[e1] at hq
  by_cases hf:tree x=true
  ·simp only[Option.bind_some,if_pos hf] at hq
   cases hq;refine h B' (frz δ) pins s σ H Q I ⟨_,F,e1,λv H' s' r=>k v H' s' (k80 (λa z=>?_) _ _ hf r)⟩;rcases c2 a z with q|⟨i,d',h1,h2⟩
   ·exact .inl q
   ·obtain⟨o,h3,a',e4,_,ro⟩:=Pd.get en.all h1
    rw[h2] at h3;cases h3;cases e4;cases d'<;>try exact ro.elim
    ·obtain⟨_,_,xs,e5,_⟩:=ro;exact .inr (.inl ⟨xs,s' _ _ e5⟩)
    ·obtain⟨xs,e5,_⟩:=ro;exact .inr (.inl ⟨xs,s' _ _ e5⟩)
    ·obtain⟨xs,e5,_⟩:=ro;exact .inr (.inr ⟨_,_,s' _ _ e5⟩)
  ·simp only[Option.bind_some,if_neg hf] at hq
   cases hq
def b20:List V->Hp->VK->Prop:=λvs H Q=>∃a kvs,vs=[.ref a]/\H a=some (.dK kvs)/\∀l,H l=none->Q (.ref l) (upd H l (.dK kvs))
theorem m40:CallR X (.type "dict") b20:=by
 intro pins s σ H vs us Q I r h;obtain⟨a,kvs,rfl,ha,k⟩:=h;cases r with
 | cons r rr =>
  cases rr;obtain rfl:=r;obtain⟨hz,hS,ws,rv,m⟩:kvs.length<=sizeLine/\(a==sysModules)=false/\∃vs,KV kvs vs/\s.heap.DictOf (R3 X.prog X.w) a vs:=I.hok a _ ha;have hl:kvs.length=ws.length:=y8 rv;have hb:sysModules<s.heap.objs.size:=I0 (by decide) ((I.mod.glob.keeps I.bk).lt:mainGlobals<s.heap.objs.size);refine kt_call_dict hS m (by rw[← hl];exact hz) λh' hd hs=>?_
  have hf:H s.heap.objs.size=none:=I.hok.fresh (A4 _);refine⟨.ref s.heap.objs.size,_,I.laid (a:=s.heap.objs.size) (o:=.dK kvs) (t':=s.toks) (λb o q=>(hs.2 b (A9 (A6 q))).trans (A8 _ q)) (A4 _)
   ⟨hz,X0.mpr (B7 (A9 hb)),ws,rv,hd⟩,rfl,k _ hf⟩
theorem jo0(hm:X.mg "dict"=none)(hv:bootBuiltins "dict"=some (.type "dict"))(ha:PD X e g)(hg:Gl X "dict" := by rfl)
  (he:starEach [e] X.env=(false,eval e X.env)::starEach [] X.env:=by rfl) (hpl:(backTo pos (starEach [] X.env)).any (·.1)=false:=by rfl) :
  PDF X (.Call (.Name "dict" p) [e] [] pos) (oA (z9 g v6) v10):=.mk λB δ=>(wk0 m40 hg hm hv (zo0 (ha B δ) xg0 he) (by decide) (by decide) he hpl).imp fun σ H Q ⟨d,en,h,k⟩=>by
 unfold oA z9 v6 at h;cases e1:g δ with
 | none=>rw[e1] at h;cases h
 | some x =>
  rw[e1] at h;simp only[Option.bind_some,Option.map_some] at h;refine⟨x,en,e1,λv H1 s1 r1=>?_⟩;cases x<;>try (simp only[v10] at h;cases h;done)
  rename_i ks ds;cases ks with
  | inr ks=>simp only[v10] at h;cases h
  | inl ks =>
  simp only[v10] at h;cases h;rw[su0] at r1;obtain⟨q,xs,rfl,nq,hq,hl,rr⟩:=r1;exact⟨q,_,rfl,hq,λl F=>k l _ (s1.free F) (s1.trans (Z1 F)) ⟨xs,m8,hl,rr.mono (Gr.fresh F)⟩⟩
end DL
namespace DL
open Spec PyProof.Rows L2
section
variable{name:PySem.Str}{id:String}{r:V->List V->Hp->VK->Prop}{f:D->List D->Option D}
theorem xd0:PSD X st w80:=.mk λH₀ B₀ δ pins s σ H D I ⟨r,en,hq,k⟩=>by unfold w80 at hq;cases hq
end
@[simp] def qh0:D->D->Option D
 | .int n,.str x=>if -(2 ^ 62)<=n/\n<2 ^ 62/\x.length*n.toNat<=sizeLine then some (.str (e00 x n)) else none
 | _,_=>none
section
variable{a:Expr}{ga gc:Ds->Option D}
open Builtin Builtin.Str Builtin.Int in
theorem jf0{prog:Program}{w:World}{A:Around}{E:Value->Shared->Prop}{s:Shared}{x:Str}{n:Int}{t u:Tok}{Q:Value->Shared->Prop}(hr:(decide (n < -(2 ^ 63:Int))||decide (n ≥ 2 ^ 63))=false)
  (hb:¬n<1->(n==1||x.length==0)=false->¬((x.length:Int) > (2 ^ 63 - 1)/n)) (hl:¬n<1->(n==1||x.length==0)=false->tooLong (x.length*n.toNat)=false)
  (h:(if n<1 then Made.str Str.empty else if (n==1||x.length==0)=true then Made.val (.str x t) else Made.str ⟨(List.replicate n.toNat x.cps).foldl (·++·) #[]⟩).post Q s) :
  wpAny (model prog w) A (binaryOp .Mult (.int n u) (.str x t)) Q E s :=
 PySem.lm_binaryOp_repeat_right (T := "str") (U := "int") (by decide) (λs'=>d5 s' n u) (Q1 s x t) PySem.F.fills_int_mul PySem.noFill_str_mul Cw0 PySem.lm_noRepeat_int PySem.repeat_str PySem.F.slot_int_index.lookup
  (call_gives Cw0 (d5 s n u) PySem.F.entry_int_mul (PySem.F.args_int_mul_2 _ _) (PySem.AutoIntG3.int___mul___int_str_0 n u x t)
   ⟨rfl,Q1 _ x t,call_gives PySem.F.slot_str_mul (Q1 s x t) PySem.F.entry_str_mul (PySem.F.args_str_mul_2 _ _) (gives_str_mul x n t u hr hb hl) h⟩)
def c60:R2:=λx y H Q=>∃z n,y=.str z/\x=.int n/\-(2 ^ 62)<=n/\n<2 ^ 62/\z.length*n.toNat<=sizeLine/\Q (.str (s90 z n)) H
theorem bq0:OpR X (binaryOp .Mult) c60:=by
 intro pins s σ H x y v u Q I rx ry h;obtain⟨z,n,rfl,rfl,h1,h2,hz,q⟩:=h;obtain⟨t,rfl⟩:=ry;obtain⟨t',rfl⟩:=rx;have fin:∀L k,EP X pins σ Q (.str (s90 z n) L) { s with toks:=k }:=λL k=>⟨.str _,H,I.tok k,⟨L,rfl⟩,q⟩
 have Z:(sizeLine:Nat)<2 ^ 40:=by decide
 have O:¬n<1->¬((z.length:Int) > (2 ^ 63 - 1)/n):=by
  intro hn;have Y:0<n:=by omega
  have:(z.length:Int)*n<=2 ^ 63 - 1:=by
   have e:n=(n.toNat:Int):=by omega
   rw[e];have:((z.length*n.toNat:Nat):Int)<=2 ^ 40:=by exact_mod_cast (by omega:z.length*n.toNat<=2 ^ 40)
   rw[Int.natCast_mul] at this;omega
  exact Int.not_lt.mpr ((Int.le_ediv_iff_mul_le Y).mpr this)
 refine jf0 (by rw[decide_eq_false (by omega),decide_eq_false (by omega)];rfl) (λhn _=>O hn) (λ_ _=>?_) ?_
 ·show decide (z.length*n.toNat > sizeLine)=false
  exact P8 (by omega)
 ·by_cases hn:n<1
  ·rw[if_pos hn]
   have e:s90 z n=Str.empty:=by
    unfold s90;rw[show n.toNat=0 by omega];rfl
   refine⟨by decide,?_⟩;rw[← e];exact fin _ _
  ·rw[if_neg hn]
   by_cases h3:(n==1||z.length==0)=true
   ·rw[if_pos h3]
    have e:s90 z n=z:=by
     rw[Bool.or_eq_true] at h3;rcases h3 with h3|h3
     ·have:n=1:=eq_of_beq h3
      subst this;unfold s90;show (⟨#[]++z.cps⟩:Str)=z;rw[Array.empty_append]
     ·have h3:z.length=0:=eq_of_beq h3
      have J:z.cps=#[]:=Array.eq_empty_of_size_eq_zero h3;have:∀k:Nat,(List.replicate k (#[]:Array Nat)).foldl (·++·) #[]=#[]:=by
       intro k
       induction k with
       | zero=>rfl
       | succ k ih=>rw[List.replicate_succ,List.foldl_cons];exact ih
      unfold s90;rw[J,this];cases z;simp at J;rw[J]
    have:=fin t s.toks;rw[e] at this;exact this
   ·rw[if_neg h3]
    have hl2:∀(k:Nat) (F:Array Nat),((List.replicate k z.cps).foldl (·++·) F).size=F.size+k*z.cps.size:=by
     intro k
     induction k with
     | zero=>intro F;simp
     | succ k ih=>intro F;rw[List.replicate_succ,List.foldl_cons,ih,Array.size_append,Nat.succ_mul];omega
    refine⟨?_,fin _ _⟩;show ((List.replicate n.toNat z.cps).foldl (·++·) #[]).size<=_;rw[hl2];have:z.length=z.cps.size:=rfl;rw[this,Nat.mul_comm] at hz
    simpa using hz
theorem ea0:Op2 K c60 qh0:=by
 intro H B x y dx dy d Q hb rx ry h k;cases dx<;>cases dy<;>simp only[qh0] at h<;>try cases h
 split at h
 ·rename_i hz
  cases h;rw[Z9] at ry;rw[o8] at rx;subst rx ry;exact⟨_,_,rfl,rfl,hz.1,hz.2.1,hz.2.2,k _ H (Same.refl H) (by rw[Z9];rfl)⟩
 ·cases h
theorem ah0(ha:PD X a ga)(hb:PD X b gb):PD X (.BinOp a .Mult b pos) (o2 ga gb qh0):=vu0 bq0 ea0 ha hb
end
end DL
namespace ZipL
open Spec PyProof.Rows
abbrev yg0(h:Heap)(z TI TO:Addr)(v:Value)(f:Bool):Prop :=
 h.get? z=some { cls:=.type "zip",dict:=none,data:=.fields #[v,.bool f,.bool false,.ref TI,.ref TO],slots:=#[] }
section
variable{w:World}{s:Shared}
theorem dead{Q:Option Obj->Shared->Prop}(ho:s.heap.get? a=none)(h:Q none s):wpAny (model prog w) A (loadIfAlive a) Q E s:=by
 have h':Q (s.heap.get? a) s:=by rw[ho];exact h
 exact λ_ _ _=>h'
theorem pd0{TI TO:Addr}{f:Bool}{Q:Bool->Shared->Prop}(hz:IsZ s.heap z TI TO a f)(ha:s.heap.get? a=none)(hQ:Q true s):wpAny (model prog w) A (Builtin.SmallTypes.ownedTupleIsFree (.ref z)) Q E s:=by
 unfold Builtin.SmallTypes.ownedTupleIsFree;refine A0 (B9 hz rfl (x:=rawInt a) rfl ?_);show wpAny _ _ (loadIfAlive ((a:Int).toNat)>>=_) _ _ _;rw[Int.toNat_natCast];refine A0 (dead ha ?_);simp only[Option.isNone_none,if_true];exact A1 hQ
theorem j70{TI TO:Addr}{v0:Value}{f:Bool}{k1 k2:Nat}{xs ys:Array Value}{x y a b:Value}{Q:Value->Shared->Prop}(D:ZipApart z TI TO i1 i2 l1 l2)
  (hz:yg0 s.heap z TI TO v0 f) (hfree:∀Q':Bool->Shared->Prop,Q' true s->wpAny (model prog w) A (Builtin.SmallTypes.ownedTupleIsFree (.ref z)) Q' E s) (hTI:IsPair s.heap TI (.ref i1) (.ref i2)) (hTO:IsPair s.heap TO a b)
  (h1:s.heap.IsListIter i1 l1 k1) (h2:s.heap.IsListIter i2 l2 k2) (hl1:s.heap.IsList l1 xs) (hl2:s.heap.IsList l2 ys) (hx:xs[k1]?=some x) (hy:ys[k2]?=some y)
  (hQ:∀h',IsZ h' z TI TO s.heap.objs.size false->IsPair h' TO x y->h'.IsListIter i1 l1 (k1+1)->h'.IsListIter i2 l2 (k2+1)->IsPair h' s.heap.objs.size x y->h'.objs.size=s.heap.objs.size+1 ->
   (∀c o,c≠z->c≠TO->c≠i1->c≠i2->s.heap.get? c=some o->h'.get? c=some o)->Q (.ref s.heap.objs.size) { s with heap:=h' }) :
  wpAny (model prog w) A (Builtin.«zip.__next__» ⟨[.ref z],[]⟩) (λfin s'=>∃v,fin=.done (.ret v)/\Q v s') E s:=by
 show wpAny _ _ (field (.ref z) 2>>=_) _ _ _;refine A0 (B9 hz rfl (x:=.bool false) rfl ?_);show wpAny _ _ (field (.ref z) 3>>=_) _ _ _;refine A0 (B9 hz rfl (x:=.ref TI) rfl ?_);refine A0 (K2 hTI rfl ?_);show wpAny _ _ (Builtin.SmallTypes.ownedTupleIsFree (.ref z)>>=_) _ _ _;refine A0 (hfree _ ?_);simp only[if_true];refine A0 (D5 ?_);refine A0 (B9 hz rfl (x:=.ref TO) rfl ?_);refine A0 (E4 hz (by simp) λg1 J e1=>?_)
 replace J:yg0 g1 z TI TO .ellipsis f:=J
 refine A0 ?_;simp only[List.zipIdx_cons,List.zipIdx_nil,List.forIn_cons,List.forIn_nil];refine A0 (A0 (u7 ?_));show wpAny _ _ (Builtin.SmallTypes.nextOf (.ref i1)>>=_) _ _ _;refine A0 (S1 (h1.extBut e1.extBut D.i1z) (hl1.extBut e1.extBut D.l1z) hx λg2 a0 e2=>A1 ?_);have O:IsPair g2 TO a b:=e2.extBut _ _ D.TOi1 (e1.extBut _ _ D.TOz hTO);refine A0 (K2 O rfl ?_);refine A0 (Au0 O λg3 L e3=>?_)
 replace L:IsPair g3 TO x b:=L
 refine A0 (i4 (A1 ?_));refine A0 (A0 (u7 ?_));show wpAny _ _ (Builtin.SmallTypes.nextOf (.ref i2)>>=_) _ _ _;refine A0 (S1 (((h2.extBut e1.extBut D.i2z).extBut e2.extBut D.i12.symm).extBut e3.extBut D.TOi2.symm) (((hl2.extBut e1.extBut D.l2z).extBut e2.extBut D.l2i1).extBut e3.extBut D.l2TO) hy λg4 Z e4=>A1 ?_);have Y:IsPair g4 TO x b:=e4.extBut _ _ D.TOi2 L;refine A0 (K2 Y rfl ?_);refine A0 (Au0 Y λg5 F e5=>?_)
 replace F:IsPair g5 TO x y:=F
 refine A0 (i4 (A1 (A1 ?_)));refine A0 (K2 F rfl ?_);refine A0 (r9 (hsz:=by show 2<=sizeLine;decide) ?_);have sz:g5.objs.size=s.heap.objs.size:=by rw[e5.1,e4.1,e3.1,e2.1,e1.1]
 have z5:yg0 g5 z TI TO .ellipsis f:=e5.extBut _ _ D.TOz.symm (e4.extBut _ _ D.i2z.symm (e3.extBut _ _ D.TOz.symm (e2.extBut _ _ D.i1z.symm J)));have keep:∀c o,c≠z->c≠TO->c≠i1->c≠i2->s.heap.get? c=some o->g5.get? c=some o:=λc o c1 c2 c3 c4 e=>e5.extBut _ _ c2 (e4.extBut _ _ c4 (e3.extBut _ _ c2 (e2.extBut _ _ c3 (e1.extBut _ _ c1 e))))
 have j1:g5.IsListIter i1 l1 (k1+1):=((a0.extBut e3.extBut D.TOi1.symm).extBut e4.extBut D.i12).extBut e5.extBut D.TOi1.symm;have j2:g5.IsListIter i2 l2 (k2+1):=Z.extBut e5.extBut D.TOi2.symm;have lz:z<g5.objs.size:=A6 z5;show wpAny _ _ (Builtin.SmallTypes.ownedTupleHandOut (.ref z) (.ref g5.objs.size)>>=_) _ _ _;refine A0 ?_;unfold Builtin.SmallTypes.ownedTupleHandOut;have z6:yg0 (g5.push { cls:=.type "tuple",data:=.seq #[x,y] }) z TI TO .ellipsis f:=A8 _ z5;refine A0 (E4 z6 (by simp) λg7 z7 e7=>?_)
 replace z7:yg0 g7 z TI TO (rawInt g5.objs.size) f:=z7
 refine E4 z7 (by simp) λg8 z8 e8=>?_
 replace z8:IsZ g8 z TI TO g5.objs.size false:=z8
 have up:∀c o,c≠z->g5.get? c=some o->g8.get? c=some o:=λc o c1 e=>e8.extBut _ _ c1 (e7.extBut _ _ c1 (A8 _ e))
 have t8:IsPair g8 g5.objs.size x y:=e8.extBut _ _ (B8 lz) (e7.extBut _ _ (B8 lz) (B5 _ rfl));have s8:g8.objs.size=g5.objs.size+1:=by rw[e8.1,e7.1,Heap.size_push]
 rw[sz] at z8 t8 s8;refine A1 ⟨_,rfl,?_⟩;show Q (.ref g5.objs.size) _;rw[sz];exact hQ g8 z8 (up _ _ D.TOz F) (j1.at λo e=>up _ o D.i1z e) (j2.at λo e=>up _ o D.i2z e) t8 s8 λc o c1 c2 c3 c4 e=>up c o c1 (keep c o c1 c2 c3 c4 e)
theorem iu0{TI TO:Addr}{v0:Value}{f:Bool}{k1 k2:Nat}{xs ys:Array Value}{a b:Value}{Q:Fin->Shared->Prop}(hh:A.handled=none)(D:ZipApart z TI TO i1 i2 l1 l2)
  (hz:yg0 s.heap z TI TO v0 f) (hfree:∀Q':Bool->Shared->Prop,Q' true s->wpAny (model prog w) A (Builtin.SmallTypes.ownedTupleIsFree (.ref z)) Q' E s) (hTI:IsPair s.heap TI (.ref i1) (.ref i2)) (hTO:IsPair s.heap TO a b)
  (h1:s.heap.IsListIter i1 l1 k1) (h2:s.heap.IsListIter i2 l2 k2) (hl1:s.heap.IsList l1 xs) (hl2:s.heap.IsList l2 ys) (hend:xs[k1]?=none∨ys[k2]?=none)
  (hE:∀h' e,(∀c o,c≠z->c≠TO->c≠i1->c≠i2->s.heap.get? c=some o->h'.get? c=some o)->(∃o,h'.get? e=some o/\o.cls=.type "StopIteration")->E (.ref e) { s with heap:=h' }) :
  wpAny (model prog w) A (Builtin.«zip.__next__» ⟨[.ref z],[]⟩) Q E s:=by
 show wpAny _ _ (field (.ref z) 2>>=_) _ _ _;refine A0 (B9 hz rfl (x:=.bool false) rfl ?_);show wpAny _ _ (field (.ref z) 3>>=_) _ _ _;refine A0 (B9 hz rfl (x:=.ref TI) rfl ?_);refine A0 (K2 hTI rfl ?_);show wpAny _ _ (Builtin.SmallTypes.ownedTupleIsFree (.ref z)>>=_) _ _ _;refine A0 (hfree _ ?_);simp only[if_true];refine A0 (D5 ?_);refine A0 (B9 hz rfl (x:=.ref TO) rfl ?_);refine A0 (E4 hz (by simp) λg1 L e1=>?_)
 replace L:yg0 g1 z TI TO .ellipsis f:=L
 refine A0 ?_;simp only[List.zipIdx_cons,List.zipIdx_nil,List.forIn_cons,List.forIn_nil];refine A0 (A0 (u7 ?_));show wpAny _ _ (Builtin.SmallTypes.nextOf (.ref i1)>>=_) _ _ _;cases hx:xs[k1]? with
 | none =>
  refine A0 (i6 hh (h1.extBut e1.extBut D.i1z) (hl1.extBut e1.extBut D.l1z) hx λg2 e e2 he=>?_);obtain⟨oe,F,J⟩:=he;have z2:yg0 g2 z TI TO .ellipsis f:=e2 _ _ D.i1z.symm L;have O:e≠z:=λx=>by subst x;rw[z2] at F;cases F;simp at J
  exact E4 z2 (by simp) λg3 _ e3=>hE g3 e (λc o c1 _ c3 _ x=>e3.extBut _ _ c1 (e2 _ _ c3 (e1.extBut _ _ c1 x))) ⟨oe,e3.extBut _ _ O F,J⟩
 | some x =>
  have hy:ys[k2]?=none:=by rcases hend with h|h;rw[hx] at h;cases h;exact h
  refine A0 (S1 (h1.extBut e1.extBut D.i1z) (hl1.extBut e1.extBut D.l1z) hx λg2 a0 e2=>A1 ?_);have Y:IsPair g2 TO a b:=e2.extBut _ _ D.TOi1 (e1.extBut _ _ D.TOz hTO);refine A0 (K2 Y rfl ?_);refine A0 (Au0 Y λg3 Z e3=>?_);refine A0 (i4 (A1 ?_));refine A0 (A0 (u7 ?_));show wpAny _ _ (Builtin.SmallTypes.nextOf (.ref i2)>>=_) _ _ _;refine A0 (i6 hh (((h2.extBut e1.extBut D.i2z).extBut e2.extBut D.i12.symm).extBut e3.extBut D.TOi2.symm) (((hl2.extBut e1.extBut D.l2z).extBut e2.extBut D.l2i1).extBut e3.extBut D.l2TO) hy λg4 e e4 he=>?_);obtain⟨oe,F,J⟩:=he;have z4:yg0 g4 z TI TO .ellipsis f:=e4 _ _ D.i2z.symm (e3.extBut _ _ D.TOz.symm (e2.extBut _ _ D.i1z.symm L));have O:e≠z:=λx=>by subst x;rw[z4] at F;cases F;simp at J
  exact E4 z4 (by simp) λg5 _ e5=>hE g5 e (λc o c1 c2 c3 c4 x=>e5.extBut _ _ c1 (e4 _ _ c4 (e3.extBut _ _ c2 (e2.extBut _ _ c3 (e1.extBut _ _ c1 x))))) ⟨oe,e5.extBut _ _ O F,J⟩
theorem p90{TI TO:Addr}{f:Bool}{Q:Bool->Shared->Prop}(hz:yg0 s.heap z TI TO .none f)(hQ:Q true s):wpAny (model prog w) A (Builtin.SmallTypes.ownedTupleIsFree (.ref z)) Q E s:=by
 unfold Builtin.SmallTypes.ownedTupleIsFree;exact A0 (B9 hz rfl (x:=.none) rfl (A1 hQ))
theorem op0{TI TO:Addr}{f:Bool}(hz:yg0 s.heap z TI TO v f)(h:Q (.ref z) s):wpAny (model prog w) A (pyIter (.ref z)) Q E s:=by
 have hT:s.TypeIs (.ref z) "zip" := ⟨_,hz,rfl⟩;refine wpAny_pyIter_slot hT F.slot_zip_iter (D1 F.slot_zip_iter hT F.entry_zip_iter ?_ (F.args_zip_iter_1 _));exact A1 ⟨_,rfl, "zip",_,hT,D6.lookup,h⟩
def mh0(h:Heap)(z TI TO:Addr):Prop:=∃v f,yg0 h z TI TO v f/\(v=.none∨∃a:Addr,v=rawInt a)
end
end ZipL
namespace L2
open Spec PyProof.Rows
theorem vr0:plainId "dict.update.loop"=true:=by decide +kernel
theorem l50:entryFor table "dict.update.loop"=some Builtin.«dict.update.loop»:=entryFor_of_fast (by kernel_rfl)
theorem io0:typeLookup (.type "list") "keys"=pure none:=by rw[typeLookup_type,builtinLookup_eq_fast];kernel_rfl
theorem hf0{prog:Program}{w:World}{A:Around}{E:Value->Shared->Prop}{s:Shared}{a:Addr}{o:Obj}{xs:Array Value}{k:Nat}{Q:Option Value->Shared->Prop}
  (hx:s.heap.get? a=some o) (hc:o.cls=.type "list") (hdat:o.data=.seq xs k) (hd:o.dict=none) (hA:A.handled=none)
  (h:∀h' tk,(∀b ob,s.heap.get? b=some ob->h'.get? b=some ob)->Q none { s with heap:=h',toks:=tk }) :
  wpAny (model prog w) A (getAttr? (.ref a) "keys") Q E s:=by
 obtain⟨c,dct,O,sl⟩:=o;simp only at hc hdat hd;subst hc hdat hd;obtain⟨hp,g,d,tk,os⟩:=s;have hT:∀J,(⟨hp,g,d,J,os⟩:Shared).TypeIs (.ref a) "list" := λ_=>⟨_,hx,rfl⟩
 have f1:=sub_AttributeError;have f3:=PySem.F.slot_list_getattribute.lookup;have f4:=PySem.F.slot_list_getattribute.bind (.ref a);have f5:=am_list_getattr_none;unfold getAttr? getAttrBy? getAttrBy
 repeat (any_goals (first|assumption|exact hT _|((with_reducible show wpAny _ _ (call (Value.builtin "list.__getattribute__") _ _) _ _ _);refine p9 PySem.F.slot_list_getattribute (hT _) am_entry_list_getattribute (PySem.F.args_list_getattribute_2 _ _) (meets_getattribute_miss_list a xs k sl "keys" _ io0 (by decide +kernel)) ⟨hx,hA,λh' J e L=>?_⟩)|wp_step))
 obtain⟨t',u',he⟩:=L.there;show wpAny _ _ (getattributeRaised _ _ _ _ _ _ _) _ _ _;unfold getattributeRaised
 repeat (any_goals (first|assumption|wp_step))
 exact h _ _ L.keeps
end L2
namespace L2
open Spec PyProof.Rows
theorem fx0{s:Shared}{d b:Addr}{k:List Key}{v:V}{r:Value}{Q:Unit->Shared->Prop}(hu:A.units<cLine)(I:Inv X pins σ H s)(e:H d=some (.dT kvs))(eb:H b=some (.tup (k.map kV)))(l:kvs.length<sizeLine)(rv:RelV v r)
  (h:∀h' tk,Inv X pins σ (upd H d (.dT (putK kvs k v))) { s with heap:=h',toks:=tk }->Q () { s with heap:=h',toks:=tk }) :
  wpAny (model X.prog X.w) A (dictSet d (.ref b) r) Q E s:=by
 obtain⟨z,hd,xs,rel,dd⟩:=ck0 I.hok e;have hz:xs.length<=sizeLine:=by rw[← Paired.length rel];exact z
 have hl:(putK kvs k v).length<=sizeLine:=by have:=zs0 kvs k v;omega
 refine wpAny_dictSet_heap (hsz:=hz) (knd:=tupleKind (R3 X.prog X.w)) (show A.units<cLine from hu) (ub0 I.hok eb) dd λh' F hs=>h _ _ ?_
 obtain⟨q,es,ep,hq,h2,h3,h4,_,h5⟩:=F;refine t50 I (by rw[e];exact True.intro) hs ⟨q,hq⟩ ⟨hl,hd,_,(rel.put k eb rv).keeps λc ys ec=>?_,q,es,ep,hq,h2,h3,h4,h5⟩;rw[j7 (sr0 ec e (λz=>nomatch z))];exact ec
end L2
namespace DL
open Spec PyProof.Rows L2
def ux0(gk gv:GE):GE:=fun δ=>(gk δ).bind λa=>(za0 a).bind λk=>(gv δ).map λb=>.dct (.inr [k]) [b]
section
variable{σ:St}
theorem Env.fresh{p:Addr}{o:HO}(e:Env K H B σ δ)(hp:H p=none)(no:∀ob u,o≠.frz ob u:=by exact λ_ _ z=>nomatch z)(nt:∀xs,o≠.tup xs:=by exact λ_ z=>nomatch z):Env K (upd H p o) (λa=>B a∨a=p) σ δ:=by
 refine⟨Pd.imp (λv s h=>?_) e.all,λa z=>?_,e.own⟩
 ·cases s with
  | un=>trivial
  | ex c n=>obtain⟨u,q,r⟩:=h;exact⟨u,q,r.mono (Gr.fresh hp)⟩
  | sh d=>obtain⟨u,q,r⟩:=h;exact⟨u,q,r.mono (Gr.fresh hp)⟩
  | ow d =>
   obtain⟨a,q,hb,r⟩:=h;exact⟨a,q,.inl hb,r.mono (λo ho=>by rw[j7 (U6 ho hp)];exact ho) (Gr.fresh hp)⟩
 ·rcases z with z|z
  ·have:=e.bad a z
   by_cases q:a=p
   ·rw[q,m8];exact .of rfl no nt
   ·rw[j7 q];exact this
  ·rw[z,m8];exact .of rfl no nt
end
section
variable{ke ve:Expr}{gk gv:Ds->Option D}
theorem h90(hu:X.A.units<cLine)(hk:PD X ke gk)(hv:PD X ve gv):PDF X (.Dict [some ke] [ve] pos) (ux0 gk gv):=.mk λB δ pins s σ H Q I ⟨d,en,h,k⟩=>by
 unfold ux0 at h;cases e1:gk δ with
 | none=>rw[e1] at h;cases h
 | some a =>
  rw[e1] at h;simp only[Option.bind_some] at h;cases e2:za0 a with
  | none=>rw[e2] at h;cases h
  | some key =>
   rw[e2] at h;simp only[Option.bind_some] at h;cases e3:gv δ with
   | none=>rw[e3] at h;cases h
   | some b =>
    rw[e3] at h;cases h;have hb:sysModules<s.heap.objs.size:=I0 (by decide) ((I.mod.glob.keeps I.bk).lt:mainGlobals<s.heap.objs.size);have hp:H s.heap.objs.size=none:=I.hok.fresh (A4 _);have I1:Inv X pins σ (upd H s.heap.objs.size (.dT [])) { s with heap:=s.heap.push { cls:=.type "dict",data:=.dict #[] } }:=I.laid (a:=s.heap.objs.size) (o:=.dT []) (t':=s.toks) (λ_ _ q=>A8 _ q) (A4 _) (d00 s.heap hb);have F:Env X.K (upd H s.heap.objs.size (.dT [])) (λa=>B a∨a=s.heap.objs.size) σ δ:=en.fresh hp;have pp:=dn0 (pos:=pos) (hk (λa=>B a∨a=s.heap.objs.size) δ) (hv (λa=>B a∨a=s.heap.objs.size) δ) (cp0 (X:=X) (pos:=pos));rw[arm_eval_Dict,zip_pairTrees [some ke] [ve] X.env pos rfl rfl,dictDisplay_pairs (pairTrees [some ke] [ve] X.env pos) (λz=>by have hn:=pairTrees_length [some ke] [ve] X.env pos rfl rfl;rw[z] at hn;cases hn) (by rw[pairTrees_length [some ke] [ve] X.env pos rfl rfl];simp)];refine A0 (X1 (A0 ?_));unfold subDict;refine A0 (wpAny_alloc ?_);refine A0 (C3 ?_);rw[if_pos (by rw[pairTrees_length [some ke] [ve] X.env pos rfl rfl];simp)];refine A0 (thn (pp pins _ σ _ (λps H2=>∃v1 v2,ps=[(v1,v2)]/\Rp X.K H2 (λa=>B a∨a=s.heap.objs.size) a v1/\Rp X.K H2 (λa=>B a∨a=s.heap.objs.size) b v2/\Same (upd H s.heap.objs.size (.dT [])) H2) I1
     ⟨a,F,e1,λv1 H1 s1 r1=>⟨b,F.same s1,e3,λv2 H2 s2 r2=>⟨v1,v2,rfl,r1.same s2,r2,s1.trans s2⟩⟩⟩) λvs s2 ⟨ps,H2,I2,rel,v1,v2,L,r1,r2,sm⟩=>?_)
    subst L;cases rel with
    | @cons _ q _ _ rh rt =>
     cases rt;obtain⟨q1,q2⟩:=q;obtain⟨kb,rfl,Y⟩:=so0 e2 r1;obtain⟨O,J⟩:=rh;cases (show q1=Value.ref kb from O);refine C3 ?_;refine A0 ?_;simp only[List.forIn_cons,List.forIn_nil];refine A0 (A0 (fx0 hu I2 (sm _ _ m8) Y (by decide) J λh' tk I3=>A1 ?_));refine A1 (A1 (A1 (A1 ⟨.ref s.heap.objs.size,_,I3,rfl,?_⟩)));refine k s.heap.objs.size _ hp (λc o e=>?_) ⟨[v2],m8,rfl,?_⟩
     ·have hc:c≠s.heap.objs.size:=U6 e hp
      rw[j7 hc];exact sm c o (by rw[j7 hc];exact e)
     ·have:=r2.mono (Gr.own (H:=H2) (B:=λa=>B a∨a=s.heap.objs.size) (a:=s.heap.objs.size) (o:=.dT (putK [] key v2)) (.inr rfl))
      rw[o4];exact⟨v2,[],rfl,this,by rw[o7]⟩
end
def i60(i:Nat)(g:GE):GS:=fun δ=>match δ[i]? with
 | some (.sh (.int a))=>(g δ).bind λd=>match d with
  | .int b=>some (.nx (δ.set i (.sh (.int (a+b)))))
  | _=>none
 | _=>none
theorem aj0(i:Nat)(hN:X.N.Nodup)(h:PD X e g)(hi:X.N[i]?=some x:=by rfl)(hx:Loc X.env.scope x:=by first|exact Or.inl rfl|exact Or.inr rfl)
  (hf:X.fn x=true∨X.env.scope.names.lookup x=some .local:=by first|exact .inl rfl|exact .inr rfl|assumption):PSD X (.AugAssign (.Name x pos') .Add e pos) (i60 i g):=.mk λH₀ B₀ δ pins s σ H D I ⟨r,en,e1,k⟩=>by
 unfold i60 at e1;obtain⟨B,b1,b2,env⟩:=en.ex;split at e1
 ·rename_i a ha
  cases e2:g δ with
  | none=>rw[e2] at e1;cases e1
  | some d =>
   rw[e2] at e1;simp only[Option.bind_some] at e1;cases d<;>simp only at e1<;>try cases e1
   rename_i b;obtain⟨v,hv,rv⟩:=env.get ha;rw[o8] at rv;subst rv;refine Xv0 hN hi hx (h B δ) Zc0 hf pins s σ H D I ⟨_,hv,.int b,env,e2,λv2 H1 s1 r1=>?_⟩;rw[o8] at r1;subst r1;refine⟨a,b,rfl,rfl,?_⟩;exact k _ H1 (en.wr b1 b2 s1 mv0 ((env.same s1).set i (by rw[o8])))
 ·cases e1
def flats(ds:List D):Bool:=ds.all flat
def sa0(g:GE):GE:=fun δ=>(g (frz δ)).bind λd=>match d with
 | .lst ds=>if flats ds=true then some (.lst ds) else none
 | _=>none
theorem ke0{g:GE}(h:g (frz δ)=some (.lst ds))(hf:flats ds=true):sa0 g δ=some (.lst ds):=by
 unfold sa0;rw[h,Option.bind_some];simp only[];rw[if_pos hf]
section
variable{g:GE}
theorem pa0:∀{ds:List D} {xs:List V},flats ds=true->Rps K H B ds xs->Rps K H' B' ds xs
 | [],xs,_,r=>by rw[o7] at r ⊢;exact r
 | d::ds,xs,h,r=>by
  rw[o4] at r ⊢;obtain⟨x,r',e1,r1,r2⟩:=r;unfold flats at h;rw[List.all_cons,Bool.and_eq_true] at h;exact⟨x,r',e1,j00 h.1 r1,pa0 (ds:=ds) h.2 r2⟩
theorem fh0(h:PDF X e g):PSD X (.Return (some e) pos) (z50 (xi0 g)):=.mk λH₀ B₀ δ pins s σ H D I ⟨r,en,hq,k⟩ =>
 Q7 h H₀ B₀ (frz δ) pins s σ H D I ⟨r,en.frz,hq,k⟩
theorem oo0(h:PDF X e g):PDF X e (sa0 g):=.mk λB δ pins s σ H Q I ⟨d,en,hq,k⟩=>by
 obtain⟨B',c1,c2,F⟩:=en.frz;unfold sa0 at hq;cases e1:g (frz δ) with
 | none=>rw[e1] at hq;cases hq
 | some x =>
  rw[e1,Option.bind_some] at hq;cases x with
  | lst ds =>
   simp only[] at hq
   by_cases hf:flats ds=true
   ·rw[if_pos hf] at hq
    cases hq;exact h B' (frz δ) pins s σ H Q I ⟨_,F,e1,λp H' hp s' r=>k p H' hp s' (by
     obtain⟨xs,e5,r5⟩:=r;exact⟨xs,e5,pa0 hf r5⟩)⟩
   ·rw[if_neg hf] at hq;cases hq
  | non=>cases hq
  | bl _=>cases hq
  | int _=>cases hq
  | str _=>cases hq
  | tup _=>cases hq
  | dct _ _=>cases hq
  | fn _ _=>cases hq
end
end DL
namespace L2
open Spec PyProof.Rows
theorem fp0{s:Shared}{d:Addr}{kvs:List (Key×V)}{k:Key}{v:V}{r:Value}{Q:Unit->Shared->Prop}(I:Inv X pins σ H s)(e:H d=some (.dK kvs))(l:kvs.length<sizeLine)(rk:RelV (kV k) u)(rv:RelV v r)
  (h:∀h' tk,Inv X pins σ (upd H d (.dK (putK kvs k v))) { s with heap:=h',toks:=tk }->Heap.SameBut d s.heap h'->Q () { s with heap:=h',toks:=tk }) :
  wpAny (model X.prog X.w) A (dictSet d u r) Q E s:=by
 obtain⟨z,hd,vs,rel,dd⟩:=dy0 I.hok e;have hz:vs.length<=sizeLine:=by rw[← rel.length];exact z
 have hl:(putK kvs k v).length<=sizeLine:=by have:=zs0 kvs k v;omega
 refine wpAny_dictSet_pairs (hsz:=hz) (rb0 rk) dd λh' F hs=>h _ _ ?_ hs
 have he:∃q,h'.get? d=some q:=let ⟨q,_,_,hq,_⟩:=F;⟨q,hq⟩
 exact t50 I (by rw[e];exact True.intro) hs he (gr0 hl hd (rel.put k rv) F)
structure PKW where
 p:Addr
 k:Key
 v:V
def PKW.ok(H:Hp)(x:PKW):Prop:=H x.p=some (.tup [kV x.k,x.v])
def O7(kvs:List (Key×V))(ps:List PKW):List (Key×V):=ps.foldl (λacc x=>putK acc x.k x.v) kvs
theorem lh0{l d:Addr}(hh:A.handled=none){R:Result->Shared->Prop}{ps:List PKW}(n:Nat):∀(i:Nat) (s:Shared) (H:Hp) (kvs:List (Key×V)),ps.length - i=n->i<=ps.length->Inv X pins σ H s->xk0 X pins H it->it≠d->it≠l->s.heap.IsListIter it l i ->
  SqL X.K H l (ps.map λx=>V.ref x.p)->(∀x∈ps,x.ok H)->H d=some (.dK kvs)->kvs.length+(ps.length - i)<=sizeLine ->
  (∀s',Inv X pins σ (upd H d (.dK (O7 kvs (ps.drop i)))) s'->R (.ok (.ret .none)) s') ->
  wpAny (model X.prog X.w) A.in1 (Builtin.«dict.update.loop» ⟨[.ref d,.ref it,rawInt i,.none],[]⟩) (λfin s'=>match fin with|.done f=>R (.ok f) s'|.again c'=>c'.quiet=true/\codeAny (model X.prog X.w) A c' R s') (λe s'=>R (.error e) s') s:=by
 induction n with
 | zero =>
  intro i s H kvs hn hi I hf F O J hl hp hd hz hR;obtain⟨its,rv,pl,_⟩:=I.list hl;have Z:=rv.length;rw[List.length_map] at Z;unfold Builtin.«dict.update.loop»;refine A0 (wpAny_pyNext_list_end hh J pl.isList (by simp;omega) λh' hk=>?_);have I1:Inv X pins σ H { s with heap:=h' }:=I.turnedL (t':=s.toks) (fp:=[it]) (λb hb=>by rw[List.mem_singleton.mp hb];exact hf) λb o hb e=>hk _ _ (λz=>hb (by simp[z])) e
  have e:ps.drop i=[]:=by rw[List.drop_eq_nil_iff];omega
  rw[e] at hR;have:=hR _ (show Inv X pins σ (upd H d (.dK (O7 kvs []))) { s with heap:=h' } from by
   rw[show upd H d (.dK (O7 kvs []))=H from by funext c;by_cases q:c=d<;>simp[upd,q,O7,hd]];exact I1)
  exact A0 (A1 (A1 this))
 | succ n ih =>
  intro i s H kvs hn hi I hf F O J hl hp hd hz hR;obtain⟨its,rv,pl,_⟩:=I.list hl;have L:i<ps.length:=by omega
  obtain⟨x,hx⟩:∃x,ps[i]?=some x:=⟨ps[i],by simp[L]⟩;have a7:x∈ps:=G0 hx;have a3:H x.p=some (.tup [kV x.k,x.v]):=hp x a7;obtain⟨u,a5,ru⟩:=rv.get (show (ps.map λx=>V.ref x.p)[i]?=some (.ref x.p) by rw[List.getElem?_map,hx];rfl);cases (show u=Value.ref x.p from ru);unfold Builtin.«dict.update.loop»;refine A0 (Bi0 J pl.isList (by simpa using a5) λh' a0 hs=>?_);have I1:Inv X pins σ H { s with heap:=h' }:=I.turnedL (t':=s.toks) (fp:=[it]) (λb hb=>by rw[List.mem_singleton.mp hb];exact hf) λb o hb e=>hs.extBut _ _ (λz=>hb (by simp[z])) e
  obtain⟨a8,a6,ip,_⟩:=I1.tuple (SqT.of a3);cases a6 with
  | cons r1 rr =>
   cases rr with
   | cons r2 rr =>
    cases rr;obtain⟨o,ho,hc,nn,Y⟩:=id ip;rename_i rk0 rv0;refine A0 (C3 ?_);refine A0 (wpAny_tryCatch ?_);unfold Builtin.Dict.pairItems;refine A0 (L6 (show Shared.TypeIs _ (.ref x.p) "tuple" from ⟨o,ho,hc⟩) ?_);rw[if_pos (by decide)];refine A0 (K2 ho Y (A1 ?_));show wpAny _ _ (holding [rk0,rv0] (dictSet d rk0 rv0)) _ _ _;refine C3 (fp0 (A:=A.in1) I1 hd (by omega) r1 r2 λh2 tk I2 a2=>?_);have a4:∀(c:Addr) (us:List V),H c=some (.tup us)->upd H d (.dK (putK kvs x.k x.v)) c=some (.tup us):=λc us ec=>by
     rw[j7 (sr0 ec hd (λz=>nomatch z))];exact ec
    have a1:((i:Int)+1)=((i+1:Nat):Int):=by push_cast;rfl
    refine A1 ⟨P5 vr0 _,?_⟩;rw[a1];refine L3 l50 ?_;rw[Around.under_plainId vr0 _];refine ih (i+1) _ (upd H d (.dK (putK kvs x.k x.v))) (putK kvs x.k x.v) (by omega) (by omega) I2 ⟨by rw[j7 F];exact hf.1,hf.2⟩ F O (a0.extBut a2.extBut F) ?_ (λy hy=>a4 _ _ (hp y hy)) m8 (by have:=zs0 kvs x.k x.v;omega) λs' I'=>hR s' ?_
    ·rcases hl with (hl|⟨o',hl⟩)|hl
     ·exact .inl (.inl (by rw[j7 (sr0 hl hd (λz=>nomatch z))];exact hl))
     ·exact .inl (.inr ⟨o',by rw[j7 (sr0 hl hd (λz=>nomatch z))];exact hl⟩)
     ·exact .inr hl
    ·have e1:upd (upd H d (.dK (putK kvs x.k x.v))) d (.dK (O7 (putK kvs x.k x.v) (ps.drop (i+1))))=upd H d (.dK (O7 kvs (ps.drop i))):=by
      have e2:ps.drop i=x::ps.drop (i+1):=by
       rw[List.drop_eq_getElem_cons L];have:ps[i]=x:=by
        have:=hx;rw[List.getElem?_eq_getElem L] at this;exact B3 this
       rw[this]
      rw[e2]
      funext c
      by_cases q:c=d<;>simp[upd,q,O7]
     rw[← e1];exact I'
def ba0(K:W.Frag):List V->Hp->VK->Prop:=λvs H Q=>∃l ps,vs=[.ref l]/\SqL K H l (ps.map λx:PKW=>V.ref x.p)/\(∀x∈ps,x.ok H)/\ps.length<=sizeLine/\∀d,H d=none->Q (.ref d) (upd H d (.dK (O7 [] ps)))
theorem lf0(hu:X.A.units+2<cLine)(hcalm:X.calm=true:=by rfl):CallR X (.type "dict") (ba0 X.K):=by
 intro pins s σ H vs us Q I r h;obtain⟨l,ps,rfl,hl,hp,hz,k⟩:=h;cases r with
 | cons r rr =>
  cases rr;obtain rfl:=r;have hb:sysModules<s.heap.objs.size:=I0 (by decide) ((I.mod.glob.keeps I.bk).lt:mainGlobals<s.heap.objs.size);have hf:H s.heap.objs.size=none:=I.hok.fresh (A4 _);refine Ap0 (Q₁:=λobj s₁=>obj=.ref s.heap.objs.size/\s₁={ s with heap:=s.heap.push { cls:=.type "dict",data:=.dict #[] } }) PySem.F.kt_called_dict (PySem.F.kt_typeCall_dict_1 _) PySem.F.entry_dict_init (kt_code_dict_new _ ⟨rfl,rfl⟩) ?_;rintro obj s₁ ⟨rfl,rfl⟩;have I1:Inv X pins σ (upd H s.heap.objs.size (.dK [])) { s with heap:=s.heap.push { cls:=.type "dict",data:=.dict #[] } }:=I.laid (a:=s.heap.objs.size) (o:=.dK []) (t':=s.toks) (λ_ _ q=>A8 _ q) (A4 _) (mj0 s.heap hb);have hT:Shared.TypeIs { s with heap:=s.heap.push { cls:=.type "dict",data:=.dict #[] } } (.ref s.heap.objs.size) "dict" := ⟨_,B5 _ rfl,rfl⟩;have L:∀(c:Addr) (o:HO),H c=some o->upd H s.heap.objs.size (.dK []) c=some o:=λc o e=>by rw[j7 (U6 e hf)];exact e
  have hl1:SqL X.K (upd H s.heap.objs.size (.dK [])) l (ps.map λx:PKW=>V.ref x.p):=by
   rcases hl with (hl|⟨o',hl⟩)|hl
   ·exact .inl (.inl (L _ _ hl))
   ·exact .inl (.inr ⟨o',L _ _ hl⟩)
   ·exact .inr hl
  obtain⟨its,rv,⟨ol,nl,Z,O,a4,a0⟩,_⟩:=I1.list hl1;refine⟨hT,PySem.F.args_dict_init_2 _ _,?_⟩;unfold Builtin.«dict.__init__»;refine A0 ?_;unfold Builtin.Dict.selfAndRest;refine A0 (wpAny_notOrdered_dict hT ?_);show wpAny _ _ (pure (s.heap.objs.size,[Value.ref l])) _ _ _;refine A1 ?_;show wpAny _ _ (Builtin.Dict.updateFrom "dict.__init__" s.heap.objs.size (.ref l) [] .none) _ _ _;unfold Builtin.Dict.updateFrom;refine A0 (L6 (show Shared.TypeIs _ (.ref l) "list" from ⟨ol,Z,O⟩) ?_);rw[if_pos (by decide)];refine A0 (hf0 Z O a0 a4 (I.ok.hd hcalm) λh1 J k1=>?_);simp only[Option.isNone_none,if_true];have I2:Inv X pins σ (upd H s.heap.objs.size (.dK [])) { s with heap:=h1,toks:=J }:=I1.kept (t':=J) k1;obtain⟨a6,a7,Y,_⟩:=I2.list hl1;refine A0 (D5 (A0 (X2 (s:={ s with heap:=h1,toks:=J }) Y.isList ?_)));refine A1 ⟨P5 vr0 _,L3 l50 ?_⟩;rw[Around.under_plainId vr0 _];have I3:Inv X pins σ (upd H s.heap.objs.size (.dK [])) { s with heap:=h1.push { cls:=.type "list_iterator",data:=.fields #[.ref l,.int 0 0] },toks:=J }:=I2.kept (t':=J) λb o e=>A8 _ e
  have a2:s.heap.objs.size<h1.objs.size:=A6 (k1 _ _ (B5 _ rfl));have a3:h1.objs.size≠l:=by
   obtain⟨a9,a8,a1,_⟩:=Y;exact B8 (A6 a1)
  have a5:upd H s.heap.objs.size (.dK []) h1.objs.size=none:=I2.hok.fresh (A4 _);refine lh0 (X:=X) (pins:=pins) (σ:=σ) (A:=X.A.in1) (it:=h1.objs.size) (l:=l) (d:=s.heap.objs.size) (ps:=ps) (I.ok.hd hcalm) ps.length 0 _ _ [] (by omega) (D3 _) I3 (I2.fpOk (A4 _) a5) (B8 a2) a3 ?_ hl1 (λx hx=>L _ _ (hp x hx)) m8 (by simp only[List.length_nil];omega) λs' I'=>⟨rfl,?_⟩
  ·exact⟨_,B5 _ rfl,rfl,rfl⟩
  ·refine⟨.ref s.heap.objs.size,_,I',rfl,?_⟩
   have e:upd (upd H s.heap.objs.size (.dK [])) s.heap.objs.size (.dK (O7 [] (ps.drop 0)))=upd H s.heap.objs.size (.dK (O7 [] ps)):=by
    funext c
    by_cases q:c=s.heap.objs.size<;>simp[upd,q]
   rw[e];exact k _ hf
end L2
namespace DL
open Spec PyProof.Rows L2
def U3:List V5->List D->List D->Option (List V5×List D)
 | ks,vs,[]=>some (ks,vs)
 | ks,vs,.tup [a,b]::r=>(z80 a).bind λk=>U3 (V6 ks k) (W7 ks vs k b) r
 | _,_,_=>none
def vb0:List D->Option D
 | [.lst ds]=>if ds.length<=sizeLine then (U3 [] [] ds).map λr=>.dct (.inl r.1) r.2 else none
 | _=>none
theorem lr0{ks:List V5}{vs:List D}{d:D}{r:List V5×List D}(e:U3 ks vs (d::ds)=some r):∃a b k,d=.tup [a,b]/\z80 a=some k/\U3 (V6 ks k) (W7 ks vs k b) ds=some r:=by
 cases d with
 | tup l =>
  match l,e with
  | [],e=>simp[U3] at e
  | [_],e=>simp[U3] at e
  | [a,b],e =>
   unfold U3 at e;cases h:z80 a with
   | none=>rw[h] at e;cases e
   | some k=>rw[h] at e;exact⟨a,b,k,rfl,h,e⟩
  | _::_::_::_,e=>simp[U3] at e
 | non=>simp[U3] at e
 | bl _=>simp[U3] at e
 | int _=>simp[U3] at e
 | str _=>simp[U3] at e
 | lst _=>simp[U3] at e
 | dct _ _=>simp[U3] at e
 | fn _ _=>simp[U3] at e
theorem sq0:∀{ds:List D} {xs:List V} {ks:List V5} {vs:List D} {ws:List V} {r:List V5×List D},Rps K H B ds xs->Rps K H B vs ws->ks.length=ws.length->U3 ks vs ds=some r ->
  ∃ps:List PKW,xs=ps.map (λx=>V.ref x.p)/\(∀x∈ps,x.ok H)/\∃ws',O7 (ks.zip ws) ps=r.1.zip ws'/\r.1.length=ws'.length/\Rps K H B r.2 ws'
 | [],xs,ks,vs,ws,r,h1,h2,hl,e=>by
  unfold U3 at e;cases e;rw[o7] at h1;exact⟨[],h1,(λx hx=>by cases hx),ws,rfl,hl,h2⟩
 | d::ds,xs,ks,vs,ws,r,h1,h2,hl,e=>by
  rw[o4] at h1;obtain⟨x,t,rfl,hx,ht⟩:=h1;obtain⟨a,b,k,rfl,e1,e⟩:=lr0 e;rw[Y9] at hx;obtain⟨p,ys,rfl,hq,F⟩:=hx;rw[o4] at F;obtain⟨y1,t1,rfl,O,F⟩:=F;rw[o4] at F;obtain⟨y2,t2,rfl,J,F⟩:=F;rw[o7] at F;subst F;have a0:=rr0 e1 O;subst a0;obtain⟨zs,L,a1,Y,Z⟩:=qa0 (q:=k) (v:=y2) hl;have rr:Rps K H B (W7 ks vs k b) zs:=by
   unfold W7;cases hk:T5 ks k with
   | true=>rw[if_pos rfl,Y hk];exact xp0 J h2
   | false=>rw[if_neg (by simp),Z hk];exact Rps.snoc h2 J
  obtain⟨ps,q1,q2,ws',q3,q4,q5⟩:=sq0 ht rr a1 e;refine⟨⟨p,k,y2⟩::ps,by rw[q1];rfl,λx hx=>?_,ws',?_,q4,q5⟩
  ·rcases B2.mp hx with rfl|hx
   ·exact hq.2
   ·exact q2 x hx
  ·show O7 (putK (ks.zip ws) k y2) ps=_
   rw[L];exact q3
theorem h20(hu:X.A.units+2<cLine)(hcalm:X.calm=true)(hm:X.mg "dict"=none)(hv:bootBuiltins "dict"=some (.type "dict"))(ha:PD X e g)(hg:Gl X "dict" := by rfl)
  (he:starEach [e] X.env=(false,eval e X.env)::starEach [] X.env:=by rfl) (hpl:(backTo pos (starEach [] X.env)).any (·.1)=false:=by rfl) :
  PDF X (.Call (.Name "dict" p) [e] [] pos) (oA (z9 g v6) vb0):=.mk λB δ=>(wk0 (lf0 hu hcalm) hg hm hv (zo0 (ha B δ) xg0 he) (by decide) (by decide) he hpl).imp fun σ H Q ⟨d,en,h,k⟩=>by
 unfold oA z9 v6 at h;cases e1:g δ with
 | none=>rw[e1] at h;cases h
 | some x =>
  rw[e1] at h;simp only[Option.bind_some,Option.map_some] at h;refine⟨x,en,e1,λv H1 s1 r1=>?_⟩;unfold vb0 at h;split at h
  ·rename_i ds he1
   injection he1 with he1
   subst he1;split at h
   ·rename_i hz
    cases e2:U3 [] [] ds with
    | none=>rw[e2] at h;cases h
    | some r =>
     rw[e2] at h;cases h;rw[Y6] at r1;obtain⟨q,xs,rfl,hq,rr⟩:=r1;obtain⟨ps,q1,q2,ws,q3,q4,q5⟩:=sq0 rr (ks:=[]) (vs:=[]) (ws:=[]) (by rw[o7]) rfl e2;refine⟨q,ps,rfl,by rw[← q1];exact hq.to,q2,by have:=rr.length;rw[q1,List.length_map] at this;omega,λl F=>?_⟩;have q3:O7 [] ps=r.1.zip ws:=q3;rw[q3];exact k l _ (s1.free F) (s1.trans (Z1 F)) ⟨ws,m8,q4,q5.mono (Gr.fresh F)⟩
   ·cases h
  ·cases h
end DL
namespace DL
open Spec PyProof.Rows L2
def t20(x y:D):Option D:=match y with
 | .non=>some (.bl (match x with|.non=>false|_=>true))
 | _=>none
theorem mz0:Op2 K (λx y H Q=>y=.non/\Q (.bl (!decide (x=.non))) H) t20:=by
 intro H B x y dx dy d Q hb rx ry h k;have hy:dy=.non:=by cases dy<;>first|rfl|cases h
 subst hy;cases h;rw[W0] at ry;refine⟨ry,k _ H (Same.refl H) ?_⟩;rw[Z8];cases dx<;>simp only[W0,Z8,o8,Z9,Y9,Y6,xu0,jp0] at rx
 all_goals first
  | (subst rx;rfl)
  | (obtain⟨a,xs,rfl,_⟩:=rx;rfl)
end DL
namespace EnS
open Spec PyProof.Rows
section
variable{M:Model}{s:Shared}{env:Env}
theorem Z20{pos:Pos}{T:String}{x:Sem Value}{more:List (Bool×Sem Value)}{kws:List (Option Str×Sem Value)}{Q:Value->Shared->Prop}(p1:((false,x)::more).any (·.1)=false)(p2:kws.any (·.1.isNone)=false)(p3:kws.all (·.1.isSome)=true)
  (h:wpAny M A (spliced ((false,x)::more)) (λvs s1=>wpAny M A (evalAll (kws.map (·.2))) (λks s2=>wpAny M A (call (.type T) vs ((kws.filterMap (·.1)).zip ks)) Q E s2) E s1) E s) :
  wpAny M A (callWith pos (.type T) [] ((false,x)::more) kws) Q E s:=by
 unfold callWith;have h0:=evalArgs_kwB (f:=.type T) (Q:=λa s1=>wpAny M A (call (.type T) a.pos a.kw) Q E s1) p3 h;refine A0 (C3 (D0 h0 (λa s1 g=>A0 (X1 ?_)) λ_ _ z=>z));simp only[p1,p2,Bool.or_false];refine A0 (A1 ?_);refine A0 (D0 g (λr s2 hr=>?_) λ_ _ z=>z);exact A0 (C3 (wpAny_point (A1 hr)))
end
theorem typeCall(a b:Value):checkTypeCall "enumerate" ⟨[a],[("start",b)]⟩=pure ():=by kernel_rfl
theorem cx0(a b:Value):checkBuiltinCall "enumerate.__new__" ⟨[.type "enumerate",a],[("start",b)]⟩=pure ():=by kernel_rfl
theorem initArgs(o a b:Value):argsOk "object.__init__" ⟨[o,a],[("start",b)]⟩:=by first|kernel_rfl|(unfold argsOk;rfl)|trivial
set_option maxHeartbeats 1000000 in
theorem newS(l:Addr)(items:Array Value)(n:Nat)(dc:Option Addr)(sl:Array (Option Value))(k:Int)(t:Tok)(hk:Builtin.SmallTypes.fitsIndex k=true) :
  Meets (Builtin.«enumerate.__new__» ⟨[.type "enumerate",.ref l],[("start",.int k t)]⟩) (λ_ R s=>s.heap.get? l=some { cls:=.type "list",dict:=dc,data:=.seq items n,slots:=sl } /\
   R (.ok (.ret (.ref (s.heap.push { cls:=.type "list_iterator",data:=.fields #[.ref l,.int 0 0] }).objs.size)))
    { s with heap:=(s.heap.push { cls:=.type "list_iterator",data:=.fields #[.ref l,.int 0 0] }).push { cls:=.type "enumerate",data:=.fields #[.none,.bool false,.ref s.heap.objs.size,rawInt k,.none,.none] } }) :=
 .of_wp λprog w A R s h=>by
  obtain⟨hp,g,d,tk,os⟩:=s;obtain⟨hl,h⟩:=h;have q1:=sub_enumerate;have q2:Heap.IsList (Shared.heap ⟨hp,g,d,tk,os⟩) l items:=⟨_,hl,rfl,n,rfl⟩;have q3:=AutoSeq1.idx_int;have q4:¬((!Builtin.SmallTypes.fitsIndex k)=true):=by rw[hk];decide
  wp_walk using K0 hl
  refine wpAny_stack_any λst=>A1 ?_
  split
  ·rename_i c _ _ _ _ _
   cases (c==Value.type "enumerate")
   ·wp_walk using K0 hl,X2 q2
    exact⟨_,rfl,h⟩
   ·wp_walk using K0 hl,X2 q2
    exact⟨_,rfl,h⟩
  ·wp_walk using K0 hl,X2 q2
   exact⟨_,rfl,h⟩
section
variable{w:World}{s:Shared}
theorem ai0(self a b:Value):Meets (Builtin.«object.__init__» ⟨[self,a],[("start",b)]⟩) (λ_ R s=>s.TypeIs self "enumerate"/\R (.ok (.ret .none)) s):=by
 refine Meets.of_wp λprog w A R s hs=>?_
 obtain⟨q1,q2⟩:=hs;have q3:=F.called_enumerate.init.lookup;have q4:=Av0.made;have q5:(some "enumerate.__new__" != some "object.__new__")=true:=by decide
 repeat (any_goals (first|assumption|wp_step))
 exact⟨_,rfl,q2⟩
theorem cq0{l b:Value}{S:PySem.Spec}{Q:Value->Shared->Prop}(g:Meets (Builtin.«enumerate.__new__» ⟨[.type "enumerate",l],[("start",b)]⟩) S)
  (h:S A.in1 (wants (λo s1=>s1.TypeIs o "enumerate"/\Q o s1) E) s):wpAny (model prog w) A (call (.type "enumerate") [l] [("start",b)]) Q E s:=by
 have ft:=Av0;obtain⟨c,tl,m1⟩:=ft.mro;have m2:=ft.made;have m3:=ft.sub;have m4:=ft.notType;have m5:=ft.canCreate;have m6:=typeCall l b;refine wpAny_call (codeAny_of_tree ?_);show wpAny _ _ (callAny (.type "enumerate") _) _ _ _;refine A1 ⟨Code.quiet_builtin _ (by decide +kernel),L3 F.entry_type_call ?_⟩;rw[Around.under_plain (weight_type_call_type "enumerate" [l] [("start",b)]) (units_type_call_type "enumerate" [l] [("start",b)])]
 repeat (any_goals (first|assumption|wp_step))
 refine Y2 (n5 ft.plain F.entry_enumerate_new (wpAny_of_eq (cx0 l b) (g prog w A.in1 _ s h))) λr s1 hr=>?_
 cases r with
 | error e=>exact hr
 | ok fl =>
  cases fl with
  | ret o =>
   obtain⟨hT,hq⟩:=hr;have n1:=ft.init.lookup;have n2:=ft.init.bind o
   repeat (any_goals (first|assumption|wp_step))
   have hi:=ai0 o l b prog w A.in1 (wants (λr s2=>r=.none/\Q o s2) E) s1 ⟨hT,rfl,hq⟩;refine Y2 (n5 ft.init.plain F.entry_object_init (ft.init.check _ _ _ _ _ _ _ _ hT (initArgs o l b) hi)) λr2 s2 J=>?_
   cases r2 with
   | error e=>exact J
   | ok f2 =>
    cases f2 with
    | ret r =>
     obtain⟨z,hz⟩:=J;subst z
     repeat (any_goals (first|assumption|wp_step))
    | _=>exact J.elim
  | _=>exact hr.elim
end
section
variable{w:World}{s:Shared}
theorem ic0{l:Addr}{k:Int}{t:Tok}{Q:Value->Shared->Prop}(hk:Builtin.SmallTypes.fitsIndex k=true)(hL:s.heap.IsList l items)
  (h:∀h',IsEnum h' (s.heap.objs.size+1) s.heap.objs.size k .none->h'.IsListIter s.heap.objs.size l 0->(∀b o,s.heap.get? b=some o->h'.get? b=some o)->Q (.ref (s.heap.objs.size+1)) { s with heap:=h' }) :
  wpAny (model prog w) A (call (.type "enumerate") [.ref l] [("start",.int k t)]) Q E s:=by
 obtain⟨⟨c,dc,dt,sl⟩,hl,hc,n,hd⟩:=hL
 replace hc:c=.type "list" := hc
 replace hd:dt=.seq items n:=hd
 subst hc hd;refine cq0 (newS l items n dc sl k t hk) ⟨hl,?_⟩;have hz:(s.heap.push { cls:=.type "list_iterator",data:=.fields #[.ref l,.int 0 0] }).objs.size=s.heap.objs.size+1:=Heap.size_push ..;show _/\_;rw[hz];have he:IsEnum ((s.heap.push { cls:=.type "list_iterator",data:=.fields #[.ref l,.int 0 0] }).push { cls:=.type "enumerate",data:=.fields #[.none,.bool false,.ref s.heap.objs.size,rawInt k,.none,.none] }) (s.heap.objs.size+1) s.heap.objs.size k .none:=by
  have z:=B5 (s.heap.push { cls:=.type "list_iterator",data:=.fields #[.ref l,.int 0 0] }) (o:={ cls:=.type "enumerate",data:=.fields #[.none,.bool false,.ref s.heap.objs.size,rawInt k,.none,.none] }) rfl;rw[hz] at z;exact z
 exact⟨⟨_,he,rfl⟩,h _ he ⟨_,A8 _ (B5 _ rfl),rfl,rfl⟩ λb o x=>A8 _ (A8 _ x)⟩
theorem shift{P:Nat->Value->Prop}{St:Nat->Heap->Prop}(D:Draws prog w A it fp n P St)(k:Nat):Draws prog w A it fp (k+n) (λi v=>∃j,i=k+j/\P j v) (λi h=>∃j,i=k+j/\St j h) where
 live:=λ_ h ⟨j,_,st⟩=>D.live j h st
 frame:=λ_ h h' ⟨j,e,st⟩ z=>⟨j,e,D.frame j h h' st z⟩
 item:=λi s Q E hi ⟨j,e,st⟩ hQ=>D.item j s Q E (by omega) st λx h' tk p q r=>hQ x h' tk ⟨j,e,p⟩ ⟨j+1,by omega,q⟩ r
 done:=λs Q E ⟨j,e,st⟩ hE=>D.done s Q E (by rw[show n=j from by omega];exact st) hE
theorem ended{l:Addr}(hh:A.handled=none)(hz:items.size<=i):Draws prog w A it [it,l] i (λ_ _=>True) (λj h=>j=i/\h.IsListIter it l i/\h.IsList l items) where
 live:=λ_ _ st=>let ⟨o,ho,_⟩:=st.2.1;⟨o,ho⟩
 frame:=λ_ _ _ st z=>⟨st.1,st.2.1.at λo e=>z it (by simp) o e,st.2.2.at λo e=>z l (by simp) o e⟩
 item:=λj s Q E hi st hQ=>absurd st.1 (by omega)
 done:=λs Q E st hE=>i6 hh st.2.1 st.2.2 (by simp;omega) hE
end
end EnS
namespace L2
open Spec PyProof.Rows
def Ya0(K:W.Frag)(a:Addr)(k:Nat):It :=
 ⟨λi H=>∃xs x,SqL K H a xs/\xs[i]?=some x,
   λi H v H'=>∃t x,v=.ref t/\H t=none/\H'=upd H t (.tup [.int ((k+i:Nat):Int),x])/\∀xs,SqL K H a xs->xs[i]?=some x,
   λi H=>∃xs,SqL K H a xs/\xs.length<=i⟩
theorem jw0{P:Program}{w:World}{x1}{e:Addr}{k:Nat}(hei:e≠it)(hea:e≠a)(hai:a≠it):Turn P w K (.Tuple elts x1 pos) (Ya0 K a k) [e,it] e
  (λi h=>(∃old,IsEnum h e it ((k+i:Nat):Int) old)/\h.IsListIter it a i) where
 mem:=by simp
 obj:=λi h st c hc=>by
  obtain⟨⟨old,he⟩,⟨o1,e1,c1,d1⟩⟩:=st;simp only[List.mem_cons,List.not_mem_nil,or_false] at hc;rcases hc with rfl|rfl
  ·exact⟨_,he,λv z=>nomatch z⟩
  ·exact⟨_,e1,λv z=>by rw[d1] at z;cases z⟩
 keep:=λi h h' st z=>by
  obtain⟨⟨old,he⟩,h1⟩:=st;exact⟨⟨old,z e (by simp) _ he⟩,h1.at λo x=>z it (by simp) o x⟩
 item:=by
  intro X hP hw hK hc i pins s σ H E I hf st hg;subst hP hw hK;obtain⟨⟨old,he⟩,h1⟩:=st;obtain⟨xs,x,hq,hx⟩:=hg;obtain⟨us,rv,p1,z1⟩:=I.list hq;obtain⟨u,hu,ru⟩:=rv.get hx;have Y:=(E1.mp hu).1;refine wpAny_pyNext_enum_itemD (EnS.shift (Draws.list (prog:=X.prog) (w:=X.w) (A:=X.A.in1) (I.ok.hd hc) it a hai us.toArray) k) he ⟨i,rfl,h1,p1.isList⟩ (by simp;omega) hei (by simp[hei,hea]) λx' h' tk hp a1 a2 a3 a4 hk=>?_
  obtain⟨j,ej,F⟩:=hp;have ej:j=i:=by omega
  subst ej;have J:x'=u:=by
   have:us.toArray[j]?=some u:=by simpa using hu
   rw[this] at F;exact(B3 F).symm
  subst J;obtain⟨j',e',a2,_⟩:=a2;have e':j'=j+1:=by omega
  subst e';refine⟨_,rfl,At0 (s:={ s with heap:=h',toks:=tk+1 }) a1 λL b1 hs=>?_⟩;have le:=A6 he;obtain⟨o1,e1,_⟩:=id h1;have l1:=A6 e1;obtain⟨I1,fr⟩:=I.turnedNew (h':=L) (t':=tk+1) (fp:=[e,it]) (x:=.int ((k+j:Nat):Int)) (u:=.int ((k+j:Nat):Int) tk) hf ⟨_,rfl⟩ ru (λc hc=>by
   simp only[List.mem_cons,List.not_mem_nil,or_false] at hc;rcases hc with rfl|rfl<;>assumption) ((hs.2 _ (B8 le)).trans a3) (λc o hc x=>by
   simp only[List.mem_cons,List.not_mem_nil,or_false,not_or] at hc;exact(hs.2 _ hc.1).trans (hk c o hc.1 hc.2 x))
  exact⟨.ref s.heap.objs.size,_,I1,rfl,⟨_,x,rfl,I.hok.fresh (A4 _),rfl,λys hy=>by rw[I.list_inj hy hq];exact hx⟩,⟨⟨_,by simpa [Int.add_assoc] using b1⟩,a2.at λo y=>(hs.2 it hei.symm).trans y⟩,fr⟩
 done:=by
  intro X hP hw hK hc i pins s σ H E I hf st hg;subst hP hw hK;obtain⟨⟨old,he⟩,h1⟩:=st;obtain⟨xs,hq,O⟩:=hg;obtain⟨us,rv,p1,z1⟩:=I.list hq;have l1:=rv.length;refine wpAny_pyNext_enum_endD (EnS.ended (prog:=X.prog) (w:=X.w) (A:=X.A.in1) (items:=us.toArray) (i:=i) (I.ok.hd hc) (by simp;omega)) he ⟨rfl,h1,p1.isList⟩ λh' hk=>⟨rfl,I.turnedL (t':=s.toks) (fp:=[e,it]) hf λc o hc x=>?_⟩
  simp only[List.mem_cons,List.not_mem_nil,or_false,not_or] at hc;exact hk c o hc.2 x
 self:=λ_ _ _ _ _ st h=>by
  obtain⟨⟨old,he⟩,_⟩:=st;exact U1 he h
def Y20(K:W.Frag)(ta:TA)(tb:TE):TI:=fun σ H R=>ta σ H λvs H1=>tb σ H1 λv H2=>∃a,∃k:Nat,vs=[.ref a]/\v=.int (k:Int)/\k<2 ^ 62/\(∃xs,SqL K H2 a xs)/\R (Ya0 K a k) H2
theorem ef0{a:Expr}{ta:TA}{p pos kp:Pos}(hg:Gl X "enumerate")(hm:X.mg "enumerate"=none)(ha:PA X [a] ta)(hb:PE X b tb)
  (he:backTo pos (starEach [a] X.env)=(false,eval a X.env)::backTo pos (starEach [] X.env):=by rfl) (hpl:((false,eval a X.env)::backTo pos (starEach [] X.env)).any (·.1)=false:=by rfl)
  (hk1:(backToKw pos (keywordEach [(⟨some (Str.ofString "start"),b,kp⟩:Keyword)] X.env)).any (·.1.isNone)=false:=by rfl) (hk2:(backToKw pos (keywordEach [(⟨some (Str.ofString "start"),b,kp⟩:Keyword)] X.env)).all (·.1.isSome)=true:=by rfl) (hk3:(backToKw pos (keywordEach [(⟨some (Str.ofString "start"),b,kp⟩:Keyword)] X.env)).filterMap (·.1)=[Str.ofString "start"]:=by rfl)
  (hc:eval (.Call (.Name "enumerate" p) [a] [(⟨some (Str.ofString "start"),b,kp⟩:Keyword)] pos) X.env=(do callWith pos (← eval (.Name "enumerate" p) X.env) [] (backTo pos (starEach [a] X.env)) (backToKw pos (keywordEach [(⟨some (Str.ofString "start"),b,kp⟩:Keyword)] X.env))):=by rfl) :
  PI X (.Tuple elts x1 tpos) (.Call (.Name "enumerate" p) [a] [(⟨some (Str.ofString "start"),b,kp⟩:Keyword)] pos) (Y20 X.K ta tb):=by
 intro pins s σ H R I h;rw[hc];refine A0 (K7 I hg hm ud0 ?_);rw[he];refine EnS.Z20 hpl hk1 hk2 ?_;rw[← he];refine thn (ha pos pins s σ H _ I h) λus s1 ⟨vs,H1,I1,r1,q1⟩=>?_
 refine kws_cons (thn (hb pins s1 σ H1 _ I1 q1) λub s2 ⟨vb,H2,I2,r2,q2⟩=>kws_nil ?_);rw[hk3];obtain⟨qa,k,e1,e2,hk,⟨xs,h1⟩,q⟩:=q2;subst e1 e2;cases r1 with
 | cons r rr =>
  cases rr;obtain rfl:=r;obtain⟨t,rfl⟩:=r2;obtain⟨us1,v1,p1,z1⟩:=I2.list h1;have a1:qa<s2.heap.objs.size:=by obtain⟨_,e,_⟩:=p1.isList;exact A6 e
  refine EnS.ic0 (by unfold Builtin.SmallTypes.fitsIndex;simp;omega) p1.isList λh' hz hi1 F=>?_
  refine U1 (s:={ s2 with heap:=h' }) hz ?_;refine⟨_,_,_,_,H2,rfl,I2.kept (t':=s2.toks) F,jw0 (a:=qa) (k:=k) (B8 (r0 _)) (B8 (P6 a1)) (A9 a1),⟨⟨_,hz⟩,hi1⟩,λb hb=>?_,q⟩;simp only[List.mem_cons,List.not_mem_nil,or_false] at hb;rcases hb with rfl|rfl
  ·exact I2.fpOk (C4 _ 1) (I2.hok.fresh (C4 _ 1))
  ·exact I2.fpOk (A4 _) (I2.hok.fresh (A4 _))
end L2
namespace DL
open Spec PyProof.Rows L2
def yf0(k:Nat)(ds:List D):List D:=(List.range ds.length).map λ(j:Nat)=>.tup [.int ((k+j:Nat):Int),ds.getD j .non]
def sp0(gA:GA)(g:GE):GA:=fun δ=>(gA δ).bind λds=>(g δ).bind λn=>match ds,n with
 | [.lst l],.int k=>if 0<=k/\k<2 ^ 62 then some (yf0 k.toNat l) else none
 | _,_=>none
section
variable{a:Expr}{kp:Pos}{gA:GA}{gb:GE}
theorem fv0(hm:X.mg "enumerate"=none)(ha:PDA X [a] gA)(hb:PD X b gb)(hg:Gl X "enumerate" := by rfl)
  (he:backTo pos (starEach [a] X.env)=(false,eval a X.env)::backTo pos (starEach [] X.env):=by rfl) (hpl:((false,eval a X.env)::backTo pos (starEach [] X.env)).any (·.1)=false:=by rfl)
  (hk1:(backToKw pos (keywordEach [(⟨some (Str.ofString "start"),b,kp⟩:Keyword)] X.env)).any (·.1.isNone)=false:=by rfl) (hk2:(backToKw pos (keywordEach [(⟨some (Str.ofString "start"),b,kp⟩:Keyword)] X.env)).all (·.1.isSome)=true:=by rfl) (hk3:(backToKw pos (keywordEach [(⟨some (Str.ofString "start"),b,kp⟩:Keyword)] X.env)).filterMap (·.1)=[Str.ofString "start"]:=by rfl)
  (hc:eval (.Call (.Name "enumerate" p) [a] [(⟨some (Str.ofString "start"),b,kp⟩:Keyword)] pos) X.env=(do callWith pos (← eval (.Name "enumerate" p) X.env) [] (backTo pos (starEach [a] X.env)) (backToKw pos (keywordEach [(⟨some (Str.ofString "start"),b,kp⟩:Keyword)] X.env))):=by rfl) :
  PID X (.Tuple elts x1 tpos) (.Call (.Name "enumerate" p) [a] [(⟨some (Str.ofString "start"),b,kp⟩:Keyword)] pos) (sp0 gA gb):=.mk λB δ=>L2.PI.imp (ef0 hg hm (ha B δ) (hb B δ) he hpl hk1 hk2 hk3 hc) fun σ H R ⟨items,en,e1,k⟩=>by
 unfold sp0 at e1;cases e2:gA δ with
 | none=>rw[e2] at e1;cases e1
 | some ds =>
  cases e3:gb δ with
  | none=>rw[e2,e3] at e1;cases e1
  | some n =>
   rw[e2,e3,Option.bind_some,Option.bind_some] at e1;split at e1
   ·rename_i l kk
    split at e1
    ·rename_i hkk
     cases e1;refine⟨_,en,e2,λvs H1 s1 r=>⟨_,en.same s1,e3,λv H2 s2 r2=>?_⟩⟩;rw[o4] at r;obtain⟨x,t,rfl,r1,r⟩:=r;rw[o7] at r;subst r;rw[o8] at r2;subst r2
     replace r1:=r1.same s2
     rw[Y6] at r1;obtain⟨q1,us,rfl,sq,t1⟩:=r1;have F:(yf0 kk.toNat l).length=us.length:=by unfold yf0;simp[t1.length]
     refine⟨q1,kk.toNat,rfl,by rw[Int.toNat_of_nonneg hkk.1],by omega,⟨us,sq.to⟩,k _ H2 (s1.trans s2) ⟨λi H3 g2 hi=>?_,λi H3 v H4 g2 y hi=>?_,λi H3 g2 hi=>?_⟩⟩
     ·rw[F] at hi
      exact⟨us,us[i],(sq.mono g2).to,by simp[hi]⟩
     ·obtain⟨t,x,rfl,ht,rfl,hx⟩:=y
      rw[F,t1.length] at hi;obtain⟨x',e4,rx⟩:=t1.get (i:=i) (C7 hi);have ex:=hx us (sq.mono g2).to;rw[e4] at ex;cases ex;refine⟨Z1 ht,.tup [.int ((kk.toNat+i:Nat):Int),l[i]],by unfold yf0;simp[hi],λB' gB hb=>?_⟩;exact tj0 (λz=>hb t z ht) m8 (by rw[o8]) (rx.mono gB)
     ·rw[F] at hi
      exact⟨us,(sq.mono g2).to,hi⟩
    ·cases e1
   ·cases e1
end
end DL
namespace SoT
open PyProof.Rows
section
variable{P:Program}{w:World}{s:Shared}{b:Array Keyed}{κ:SortKind}{cmp:Keyed->Keyed->Bool}
structure Go(b:Array Keyed)(κ:SortKind)(st:SortSt):Prop where
 kd:kindOf st=κ
 pm:(arrOf st).Perm b
 pe:pendingOf st=#[]
 fa:failedOf st=none
structure Cp(P:Program)(w:World)(A:Around)(E:Value->Shared->Prop)(s:Shared)(b:Array Keyed)(κ:SortKind)(cmp:Keyed->Keyed->Bool):Prop where
 ask:∀(st:SortSt) (i j:Nat) (x y:Keyed) (Q:Option Bool->SortSt->Prop),Go b κ st->(arrOf st)[i]?=some x->(arrOf st)[j]?=some y->Q (some (cmp x y)) st->wpS (model P w) A E s (ltAt' i j) Q st
 nd:b.toList.Nodup
 tr:∀x∈b.toList,∀y∈b.toList,∀z∈b.toList,cmp x y=true->cmp y z=true->cmp x z=true
 to:∀x∈b.toList,∀y∈b.toList,x≠y->cmp y x=false->cmp x y=true
theorem Go.sz{st:SortSt}(h:Go b κ st):(arrOf st).size=b.size:=h.pm.size_eq
theorem Go.mem{st:SortSt}(h:Go b κ st){x:Keyed}(e:(arrOf st)[i]?=some x):x∈b.toList/\i<b.size:=by
 obtain⟨hi,rfl⟩:=u8.mp e;exact⟨(P7.mp h.pm).mem_iff.mp (by simp),by rw[← h.sz];exact hi⟩
def Up(cmp:Keyed->Keyed->Bool)(xs:Array Keyed)(n:Nat):Prop:=∀i j x y,i<j->j<n->xs[i]?=some x->xs[j]?=some y->cmp x y=true
variable(C:Cp P w A E s b κ cmp)
include C
end
def PairAt(h:Heap)(v:Value)(q:Int×Int):Prop:=∃a o n t u,v=.ref a/\h.get? a=some o/\o.cls=.type "tuple"/\o.data=.seq #[.int q.1 t,.int q.2 u] n
theorem PairAt.one{h:Heap}{q r:Int×Int}(x:PairAt h v q)(y:PairAt h v r):q=r:=by
 obtain⟨a,o,n,t,u,e,e1,_,e2⟩:=x;obtain⟨a',o',n',t',u',f,f1,_,f2⟩:=y;rw[e] at f;cases f;rw[e1] at f1;cases f1;rw[e2] at f2;injection f2 with f2 _
 have f3:=E2 Array.toList f2;simp only at f3;injection f3 with g1 g2
 injection g1 with g1 _
 injection g2 with g2 _
 injection g2 with g2 _
 exact P3 g1 g2
def lt2(a b:Int×Int):Bool:=decide (a.1<b.1∨(a.1=b.1/\a.2<b.2))
theorem v70{a b:Int×Int}:lt2 a b=true↔(a.1<b.1∨(a.1=b.1/\a.2<b.2)):=by unfold lt2;exact decide_eq_true_iff
open Classical in
def pk(h:Heap)(v:Value):Int×Int:=if e:∃q,PairAt h v q then e.choose else (0,0)
theorem vo0{h:Heap}{q:Int×Int}(x:PairAt h v q):pk h v=q:=by
 unfold pk;have e:∃q,PairAt h v q:=⟨q,x⟩;rw[dif_pos e];exact e.choose_spec.one x
section
variable{P:Program}{w:World}{s:Shared}
theorem gh0(f:Bool)(x y:Value):keyLt' (tuples' f) x y=(do
  let xs ← Builtin.List.listItems x;let ys ← Builtin.List.listItems y
  for ((p,q),i) in (xs.toList.zip ys.toList).zipIdx do
   if !(← eqBool p q) then return ← oneLt' (f&&i==0) p q
  return decide (xs.size<ys.size)):=rfl
theorem rq0{f:Bool}{a c:Int}{t u:Tok}{Q:Bool->Shared->Prop}(h:Q (decide (a<c)) s):wpAny (model P w) A (oneLt' f (.int a t) (.int c u)) Q E s:=by
 cases f with
 | true=>exact oneLt_int h
 | false =>
  rw[oneLt'_eq];rw[if_neg (by simp)];refine A0 (wpAny_richCompare_same (d5 s a t) (d5 s c u) slot_int_lt (call_int_lt ⟨(λz=>nomatch z),?_⟩));exact P1 h
theorem sz0{f:Bool}{x:Value}{q r:Int×Int}{Q:Bool->Shared->Prop}(hx:PairAt s.heap x q)(hy:PairAt s.heap y r)(h:Q (lt2 q r) s):wpAny (model P w) A (keyLt' (tuples' f) x y) Q E s:=by
 obtain⟨a,o,n,t,u,rfl,e1,_,e2⟩:=hx;obtain⟨a',o',n',t',u',rfl,f1,_,f2⟩:=hy;rw[gh0];refine A0 (v3 e1 e2 (A0 (v3 f1 f2 ?_)));simp only[List.zip_cons_cons,List.zip_nil_right,List.zipIdx_cons,List.zipIdx_nil,List.forIn_cons,List.forIn_nil];refine A0 (A0 (A0 (y6 ?_)))
 by_cases e:q.1=r.1
 ·rw[show (q.1==r.1)=true by simpa using e]
  rw[if_neg (by simp)];refine A1 (A0 (A0 (y6 ?_)))
  by_cases e':q.2=r.2
  ·rw[show (q.2==r.2)=true by simpa using e']
   rw[if_neg (by simp)];refine A1 (A1 (A1 ?_));have:lt2 q r=false:=by unfold lt2;rw[e,e'];simp
   rw[this] at h;exact h
  ·rw[show (q.2==r.2)=false by simpa using e']
   rw[if_pos (by rfl)];refine A0 (rq0 (A1 (A1 (A1 ?_))));have:lt2 q r=decide (q.2<r.2):=by unfold lt2;rw[e];simp
   rw[this] at h;exact h
 ·rw[show (q.1==r.1)=false by simpa using e]
  rw[if_pos (by rfl)];refine A0 (rq0 (A1 (A1 (A1 ?_))));have:lt2 q r=decide (q.1<r.1):=by unfold lt2;simp[e]
  rw[this] at h;exact h
end
structure Prs(h:Heap)(vs:List Value):Prop where
 all:∀v∈vs,∃q,PairAt h v q
 nd:(vs.map (pk h)).Nodup
def wq0(h:Heap)(x y:Keyed):Bool:=lt2 (pk h x.1) (pk h y.1)
section
variable{P:Program}{w:World}{s:Shared}
theorem Ug0{b:Array Keyed}{f:Bool}(hb:∀x∈b.toList,∃q,PairAt s.heap x.1 q)(st:SortSt)(i j:Nat)(x y:Keyed)(Q:Option Bool->SortSt->Prop)(hg:Go b (tuples' f) st)(ei:(arrOf st)[i]?=some x)(ej:(arrOf st)[j]?=some y)(k:Q (some (wq0 s.heap x y)) st):wpS (model P w) A E s (ltAt' i j) Q st:=by
 obtain⟨q,hq⟩:=hb x (hg.mem ei).1;obtain⟨r,hr⟩:=hb y (hg.mem ej).1;unfold wq0 at k;rw[vo0 hq,vo0 hr] at k;rw[ltAt'_eq];refine A3 (D4 ?_);show wpS _ _ _ _ (elem' (arrOf st) i>>=λx=>elem' (arrOf st) j>>=λy=>lt' x y) Q st;rw[elem'_eq,elem'_eq,ei,ej];refine A3 (A2 (A3 (A2 ?_)));rw[lt'_eq];refine A3 (D4 ?_);rw[hg.kd];exact A3 (N3 (N1 (sz0 hq hr ⟨rfl,A2 k⟩)))
theorem cpP(hv:Prs s.heap vs)(f:Bool):Cp P w A E s (pairsOf vs) (tuples' f) (wq0 s.heap):=by
 have el:∀x∈(pairsOf vs).toList,x.1∈vs/\x=(x.1,x.1):=λx hx=>by
  rw[pairsOf_toList] at hx;obtain⟨i,hi,e⟩:=N4.mp hx;rw[List.getElem_zip] at e;have e1:x.1=vs[i]'(by rw[List.length_zip] at hi;omega):=by rw[← e]
  rw[e1];exact⟨E8 _,e.symm⟩
 have hb:∀x∈(pairsOf vs).toList,∃q,PairAt s.heap x.1 q:=λx hx=>hv.all _ (el x hx).1
 have L:vs.Nodup:=by
  refine E5.mpr λi j hi hj F e=>?_
  have:=E5.mp hv.nd i j (by simpa using hi) (by simpa using hj) F;rw[List.getElem_map,List.getElem_map,e] at this;exact this rfl
 refine⟨Ug0 hb,?_,λx _ y _ z _ h1 h2=>?_,λx hx y hy J h=>?_⟩
 ·rw[pairsOf_toList]
  refine E5.mpr λi j hi hj F e=>?_
  rw[List.getElem_zip,List.getElem_zip] at e;have e1:=E2 Prod.fst e;simp only[List.length_zip] at hi hj;exact E5.mp L i j (by omega) (by omega) F e1
 ·unfold wq0 at *
  rw[v70] at *;omega
 ·unfold wq0 at *
  have O:pk s.heap x.1≠pk s.heap y.1:=λe=>by
   apply J;obtain⟨mx,ex⟩:=el x hx;obtain⟨my,ey⟩:=el y hy;obtain⟨i,hi,e1⟩:=N4.mp mx;obtain⟨j,hj,e2⟩:=N4.mp my;have F:i=j:=by
    rcases Co0 i j with q|q|q
    ·have:=E5.mp hv.nd i j (by simpa using hi) (by simpa using hj) q
     rw[List.getElem_map,List.getElem_map,e1,e2] at this;exact absurd e this
    ·exact q
    ·have:=E5.mp hv.nd j i (by simpa using hj) (by simpa using hi) q
     rw[List.getElem_map,List.getElem_map,e1,e2] at this;exact absurd e.symm this
   subst F;rw[ex,ey,← e1,← e2]
  rw[v70];have h':¬((pk s.heap y.1).1<(pk s.heap x.1).1∨((pk s.heap y.1).1=(pk s.heap x.1).1/\(pk s.heap y.1).2<(pk s.heap x.1).2)):=λz=>by
   rw[v70.mpr z] at h;cases h
  have:(pk s.heap x.1).1≠(pk s.heap y.1).1∨(pk s.heap x.1).2≠(pk s.heap y.1).2:=by
   by_cases q1:(pk s.heap x.1).1=(pk s.heap y.1).1
   ·exact .inr λq2=>O (P3 q1 q2)
   ·exact .inl q1
  omega
theorem Xn0{q:Int×Int}{Q:Option Value->Shared->Prop}(hv:PairAt s.heap v q)(h:∀t,Q (some (.int q.1 t)) s):wpAny (model P w) A (firstOfTuple' v) Q E s:=by
 obtain⟨a,o,n,t,u,rfl,e1,e2,e3⟩:=hv;show wpAny _ _ (typeOf (.ref a)>>=λT=>if (T != .type "tuple")=true then pure none else do return (← Builtin.List.listItems (.ref a))[0]?) _ _ _;refine A0 (L6 (T := "tuple") ⟨o,e1,e2⟩ ?_);rw[if_neg (by simp)];exact A0 (v3 e1 e3 (A1 (h t)))
theorem firstsP:∀{vs:List Value} {Q:List (Option Value)->Shared->Prop},(∀v∈vs,∃q,PairAt s.heap v q)->(∀(fs:List Value) (ns:List Int),IntsAre fs ns->fs.length=vs.length->Q (fs.map some) s)->wpAny (model P w) A (vs.mapM firstOfTuple') Q E s
 | [],Q,_,h=>by
  rw[List.mapM_nil];exact A1 (h [] [] .nil rfl)
 | v::vs,Q,hv,h=>by
  rw[List.mapM_cons];obtain⟨q,hq⟩:=hv v A5;refine A0 (Xn0 hq λt=>A0 (firstsP (λu hu=>hv u (A7 _ hu)) λfs ns a c=>A1 ?_));exact h (.int q.1 t::fs) (q.1::ns) (.cons q.1 t a) (by rw[List.length_cons,List.length_cons,c])
theorem Wc0{v₁ v₂:Value}{r:List Value}{Q:SortKind->Shared->Prop}(hv:∀v∈v₁::v₂::r,∃q,PairAt s.heap v q)(h:Q (tuples' true) s):wpAny (model P w) A (keyKind' (v₁::v₂::r).toArray) Q E s:=by
 rw[keyKind'_eq,List.mapM_toArray];refine A0 ?_;rw[map_eq_pure_bind];refine A0 (firstsP hv λfs ns a c=>A1 ?_);have h1:((fs.map some).toArray.all λx=>x.isSome)=true:=by simp
 rw[if_pos h1];have h2:(fs.map some).toArray.filterMap id=fs.toArray:=by
  simp
 refine A0 (D5 ?_);rw[h2,oneTypeOnly'_eq,List.mapM_toArray,mapM_typeOf_ints a];simp only[map_pure,pure_bind];obtain⟨f0,fr,rfl⟩:∃f0 fr,fs=f0::fr:=by
  cases fs with
  | nil=>simp at c
  | cons f0 fr=>exact⟨f0,fr,rfl⟩
 have h3:((f0::fr).map λ_=>Value.type "int").toArray[0]?=some (.type "int"):=by simp
 rw[h3];have h4:(((f0::fr).map λ_=>Value.type "int").toArray.all λx=>x==Value.type "int")=true:=by
  simp only[List.all_toArray,List.all_map,List.all_eq_true];exact λ_ _=>rfl
 simp only[h4,if_true,pure_bind];exact A1 h
end
section
variable{P:Program}{w:World}{s:Shared}
theorem PairAt.to{h:Heap}{q:Int×Int}(x:PairAt h v q)(k:∀a o,h.get? a=some o->o.cls=.type "tuple"->h'.get? a=some o):PairAt h' v q:=by
 obtain⟨a,o,n,t,u,e,e1,e2,e3⟩:=x;exact⟨a,o,n,t,u,e,k a o e1 e2,e2,e3⟩
theorem Prs.to{h:Heap}(x:Prs h vs)(k:∀a o,h.get? a=some o->o.cls=.type "tuple"->h'.get? a=some o):Prs h' vs/\∀v∈vs,pk h' v=pk h v:=by
 have e:∀v∈vs,pk h' v=pk h v:=λv hv=>by
  obtain⟨q,hq⟩:=x.all v hv;rw[vo0 hq,vo0 (hq.to k)]
 refine⟨⟨λv hv=>?_,?_⟩,e⟩
 ·obtain⟨q,hq⟩:=x.all v hv
  exact⟨q,hq.to k⟩
 ·rw[List.map_congr_left e]
  exact x.nd
end
end SoT
namespace SoT
def le2(a b:Int×Int):Bool:=!lt2 b a
def srt(ps:List (Int×Int)):List (Int×Int):=ps.mergeSort le2
theorem xv0{a b:Int×Int}:le2 a b=true↔¬(b.1<a.1∨(b.1=a.1/\b.2<a.2)):=by
 unfold le2 lt2;rw[Bool.not_eq_true',decide_eq_false_iff_not]
theorem Xu0(a b c:Int×Int)(h1:le2 a b=true)(h2:le2 b c=true):le2 a c=true:=by rw[xv0] at *;omega
theorem Xs0(a b:Int×Int):(le2 a b||le2 b a)=true:=by rw[Bool.or_eq_true,xv0,xv0];omega
theorem Yg0{a b:Int×Int}(h1:le2 a b=true)(h2:le2 b a=true):a=b:=by
 rw[xv0] at *;exact P3 (by omega) (by omega)
theorem kx0:∀{l m:List (Int×Int)},l.Perm m->l.Pairwise (λa b=>le2 a b=true)->m.Pairwise (λa b=>le2 a b=true)->l=m
 | [],m,h,_,_=>by rw[List.nil_perm.mp h]
 | a::l,[],h,_,_=>by exact absurd (List.perm_nil.mp h) (by simp)
 | a::l,b::m,h,h1,h2=>by
  have self:∀x:Int×Int,le2 x x=true:=λx=>by rw[xv0];omega
  have F:le2 a b=true:=by
   rcases B2.mp (h.mem_iff.mpr (A5 (a:=b) (l:=m))) with e|e
   ·rw[e];exact self a
   ·exact i7 h1 e
  have J:le2 b a=true:=by
   rcases B2.mp (h.mem_iff.mp (A5 (a:=a) (l:=l))) with e|e
   ·rw[e];exact self b
   ·exact i7 h2 e
  have e:=Yg0 F J;subst e;rw[kx0 (List.Perm.cons_inv h) (w4.mp h1).2 (w4.mp h2).2]
theorem ez0(ps:List (Int×Int)):(srt ps).Perm ps:=List.mergeSort_perm ps le2
theorem Yx0(ps:List (Int×Int)):(srt ps).Pairwise (λa b=>le2 a b=true):=List.pairwise_mergeSort Xu0 Xs0 ps
theorem Zl0{l ps:List (Int×Int)}(hp:l.Perm ps)(h:l.Pairwise (λa b=>lt2 a b=true)):l=srt ps :=
 kx0 (hp.trans (ez0 ps).symm) (h.imp λ{a b} z=>by rw[v70] at z;rw[xv0];omega) (Yx0 ps)
end SoT
namespace L2
open Spec PyProof.Rows SoT
def PrV(H:Hp):List V->List (Int×Int)->Prop
 | [],[]=>True
 | v::vs,q::qs=>(∃a,v=.ref a/\H a=some (.tup [.int q.1,.int q.2]))/\PrV H vs qs
 | _,_=>False
section
variable{s:Shared}
theorem ki0(I:Inv X pins σ H s){q:Int×Int}(h:H a=some (.tup [.int q.1,.int q.2])):PairAt s.heap (.ref a) q:=by
 obtain⟨its,rv,⟨o,e1,e2,n,e3⟩,_⟩:=I.tuple (X:=X) (xs:=[.int q.1,.int q.2]) (.inl (.inl h));cases rv with
 | cons r1 rv =>
  cases rv with
  | cons r2 rv =>
   cases rv;obtain⟨t,rfl⟩:=r1;obtain⟨u,rfl⟩:=r2;exact⟨a,o,n,t,u,rfl,e1,e2,e3⟩
theorem ix0(I:Inv X pins σ H s):∀{ys:List V} {its:List Value} {ps:List (Int×Int)},Vals ys its->PrV H ys ps->its.map (pk s.heap)=ps/\(∀v∈its,∃q,PairAt s.heap v q)/\∀v∈its,∃a,v=.ref a/\V.ref a∈ys/\H a=some (.tup [.int (pk s.heap v).1,.int (pk s.heap v).2])
 | [],_,[],.nil,_=>⟨rfl,(λv h=>by cases h),(λv h=>by cases h)⟩
 | [],_,_::_,.nil,h=>h.elim
 | y::ys,_,[],.cons _ _,h=>h.elim
 | y::ys,_,q::ps,.cons r rv,h=>by
  obtain⟨⟨a,rfl,ha⟩,h2⟩:=h;cases (show _=Value.ref a from r);obtain⟨i1,i2,i3⟩:=ix0 I rv h2;have e:=vo0 (ki0 I ha);refine⟨by rw[List.map_cons,i1,e],λv hv=>?_,λv hv=>?_⟩
  ·rcases B2.mp hv with rfl|hv
   ·exact⟨q,ki0 I ha⟩
   ·exact i2 v hv
  ·rcases B2.mp hv with rfl|hv
   ·exact⟨a,rfl,A5,by rw[e];exact ha⟩
   ·obtain⟨b,e1,e2,e3⟩:=i3 v hv
    exact⟨b,e1,A7 _ e2,e3⟩
theorem mc0{h:Heap}{ys:List V}:∀{vs:List Value},(∀v∈vs,∃a,v=.ref a/\V.ref a∈ys/\H a=some (.tup [.int (pk h v).1,.int (pk h v).2]))->∃zs,Vals zs vs/\PrV H zs (vs.map (pk h))/\∀z∈zs,z∈ys
 | [],_=>⟨[],.nil,trivial,λz hz=>by cases hz⟩
 | v::vs,hv=>by
  obtain⟨a,rfl,m,e⟩:=hv v A5;obtain⟨zs,z1,z2,z3⟩:=mc0 (vs:=vs) λu hu=>hv u (A7 _ hu)
  exact⟨.ref a::zs,.cons rfl z1,⟨⟨a,rfl,e⟩,z2⟩,λz hz=>by
   rcases B2.mp hz with rfl|hz
   ·exact m
   ·exact z3 z hz⟩
end
end L2
namespace DL
open Spec PyProof.Rows L2 SoT
def pD(q:Int×Int):D:=.tup [.int q.1,.int q.2]
theorem fk0:∀{zs:List V} {qs:List (Int×Int)},PrV H zs qs->(∀z∈zs,∃a,z=.ref a/\¬B a)->Rps K H B (qs.map pD) zs
 | [],[],_,_=>by rw[List.map_nil,o7]
 | [],_::_,h,_=>h.elim
 | _::_,[],h,_=>h.elim
 | z::zs,q::qs,h,hb=>by
  obtain⟨⟨a,rfl,ha⟩,h2⟩:=h;rw[List.map_cons,o4];refine⟨_,_,rfl,?_,fk0 h2 λy hy=>hb y (A7 _ hy)⟩;obtain⟨b,e,nb⟩:=hb _ A5;cases e;unfold pD;rw[Y9];refine⟨a,_,rfl,⟨nb,ha⟩,?_⟩;rw[o4];refine⟨_,_,rfl,by rw[o8],?_⟩;rw[o4];exact⟨_,_,rfl,by rw[o8],by rw[o7]⟩
end DL
namespace SoT
open PyProof.Rows
def O8:Bool->Keyed->Array Keyed->Nat->Nat->Nat->StateT SortSt Sem (Option Nat):=sortPriv% PySem.Builtin.gallop
def s60:Array Keyed->Array Keyed->StateT SortSt Sem (Array Keyed):=sortPriv% PySem.Builtin.mergeLo
def s70:Array Keyed->Array Keyed->StateT SortSt Sem (Array Keyed):=sortPriv% PySem.Builtin.mergeHi
theorem i40(left:Bool)(key:Keyed)(arr:Array Keyed)(base n hint:Nat):O8 left key arr base n hint=(do
 let beyond (i:Nat):StateT SortSt Sem (Option Bool):=do
  let x ← elem' arr (base+i)
  if left then lt' x key else return (← lt' key x).map (!·)
 let mut lastofs:=0
 let mut ofs:=1
 let mut lo:=0
 let mut hi:=0
 let some right ← beyond hint|return none
 if right then
  let maxofs:=n - hint
  for _ in [0:n] do
   if ofs ≥ maxofs then break
   let some more ← beyond (hint+ofs)|return none
   if !more then break
   lastofs:=ofs
   ofs:=2*ofs+1
  lo:=hint+lastofs+1
  hi:=hint+min ofs maxofs
 else
  let maxofs:=hint+1
  for _ in [0:n] do
   if ofs ≥ maxofs then break
   let some found ← beyond (hint - ofs)|return none
   if found then break
   lastofs:=ofs
   ofs:=2*ofs+1
  lo:=hint+1 - min ofs maxofs
  hi:=hint - lastofs
 for _ in [0:n] do
  if lo ≥ hi then break
  let m:=lo+(hi - lo)/2
  let some more ← beyond m|return none
  if more then lo:=m+1 else hi:=m
 return some hi):=rfl
section
variable{P:Program}{w:World}{s:Shared}{b:Array Keyed}{κ:SortKind}{cmp:Keyed->Keyed->Bool}
structure Gn(b:Array Keyed)(κ:SortKind)(st:SortSt):Prop where
 kd:kindOf st=κ
 pm:(arrOf st).Perm b
 fa:failedOf st=none
structure Cn(P:Program)(w:World)(A:Around)(E:Value->Shared->Prop)(s:Shared)(b:Array Keyed)(κ:SortKind)(cmp:Keyed->Keyed->Bool):Prop where
 ask:∀(st:SortSt) (x y:Keyed) (Q:Option Bool->SortSt->Prop),kindOf st=κ->x∈b.toList->y∈b.toList->Q (some (cmp x y)) st->wpS (model P w) A E s (lt' x y) Q st
 nd:b.toList.Nodup
 tr:∀x∈b.toList,∀y∈b.toList,∀z∈b.toList,cmp x y=true->cmp y z=true->cmp x z=true
 to:∀x∈b.toList,∀y∈b.toList,x≠y->cmp y x=false->cmp x y=true
 as:∀x∈b.toList,∀y∈b.toList,cmp x y=true->cmp y x=false
def bey(left:Bool)(key:Keyed)(arr:Array Keyed)(base i:Nat):StateT SortSt Sem (Option Bool):=do
 let x ← elem' arr (base+i)
 if left then lt' x key else return (← lt' key x).map (!·)
theorem Xb0(C:Cn P w A E s b κ cmp){st:SortSt}(hk:kindOf st=κ)(left:Bool){key x:Keyed}{arr:Array Keyed}{base:Nat}(h:arr[base+i]?=some x)(mx:x∈b.toList)(mk:key∈b.toList)(hn:x≠key){Q:Option Bool->SortSt->Prop}(k:Q (some (cmp x key)) st):wpS (model P w) A E s (bey left key arr base i) Q st:=by
 unfold bey;rw[elem'_eq,h];refine A3 (A2 ?_);cases left with
 | true=>exact C.ask _ _ _ _ hk mx mk k
 | false =>
  refine A3 (C.ask _ _ _ _ hk mk mx (A2 ?_));show Q (some (!cmp key x)) st;have:(!cmp key x)=cmp x key:=by
   cases e:cmp key x with
   | true=>rw[C.as _ mk _ mx e];rfl
   | false=>rw[C.to _ mx _ mk hn e];rfl
  rw[this];exact k
structure Sr(P:Program)(w:World)(A:Around)(E:Value->Shared->Prop)(s:Shared)(B:Nat->StateT SortSt Sem (Option Bool))(pos:Nat->Bool)(n:Nat)(st:SortSt):Prop where
 ask:∀i,i<n->∀Q:Option Bool->SortSt->Prop,Q (some (pos i)) st->wpS (model P w) A E s (B i) Q st
 mono:∀i j,i<=j->j<n->pos j=true->pos i=true
theorem bin{B:Nat->StateT SortSt Sem (Option Bool)}{pos:Nat->Bool}{st:SortSt}(S:Sr P w A E s B pos n st){lo hi:Nat}(h1:lo<=hi)(h2:hi<=n)(h3:∀i,i<lo->pos i=true)(h4:∀i,hi<=i->i<n->pos i=false) :
  wpS (model P w) A E s (forIn [:n] ((none,lo,hi):Option (Option Nat)×Nat×Nat) λx __s =>
    if __s.snd.fst ≥ __s.snd.snd then pure (ForInStep.done (none,__s.snd.fst,__s.snd.snd))
    else do
     let __x ← B (__s.snd.fst+(__s.snd.snd - __s.snd.fst)/2)
     match __x with
     | some more=>if more=true then pure (ForInStep.yield (none,__s.snd.fst+(__s.snd.snd - __s.snd.fst)/2+1,__s.snd.snd)) else pure (ForInStep.yield (none,__s.snd.fst,__s.snd.fst+(__s.snd.snd - __s.snd.fst)/2))
     | x=>pure (ForInStep.done (some none,__s.snd.fst,__s.snd.snd))) (λc t=>t=st/\∃r,c=(none,r,r)/\r<=n/\(∀i,i<r->pos i=true)/\∀i,r<=i->i<n->pos i=false) st:=by
 refine(C5 (I:=λx c t=>t=st/\∃lo hi,c=(none,lo,hi)/\lo<=hi/\hi<=n/\hi - lo<=n - x/\(∀i,i<lo->pos i=true)/\∀i,hi<=i->i<n->pos i=false)
  (Q:=λc t=>t=st/\∃r,c=(none,r,r)/\r<=n/\(∀i,i<r->pos i=true)/\∀i,r<=i->i<n->pos i=false) (λx c t _ hx hI=>?_) (λc t hI=>?_) ⟨rfl,lo,hi,rfl,h1,h2,by omega,h3,h4⟩)
 ·obtain⟨e1,lo,hi,e2,a1,a2,a3,a4,a5⟩:=hI
  subst e1;subst e2;dsimp only
  by_cases hge:lo ≥ hi
  ·rw[if_pos hge]
   have:lo=hi:=by omega
   subst this;exact A2 ⟨rfl,lo,rfl,a2,a4,a5⟩
  ·rw[if_neg hge]
   refine A3 (S.ask _ (by omega) _ ?_);dsimp only;cases hp:pos (lo+(hi - lo)/2) with
   | true =>
    rw[if_pos rfl];exact A2 ⟨rfl,_,_,rfl,by omega,a2,by omega,λi F=>S.mono i _ (by omega) (by omega) hp,a5⟩
   | false =>
    rw[if_neg (by simp)];refine A2 ⟨rfl,_,_,rfl,by omega,by omega,by omega,a4,λi F hn=>?_⟩;cases hq:pos i with
    | false=>rfl
    | true=>rw[S.mono _ i F hn hq] at hp;cases hp
 ·obtain⟨e1,lo,hi,e2,a1,a2,a3,a4,a5⟩:=hI
  subst e1;subst e2;have:lo=hi:=by omega
  subst this;exact⟨rfl,lo,rfl,a2,a4,a5⟩
theorem gal{left:Bool}{key:Keyed}{arr:Array Keyed}{base hint:Nat}{pos:Nat->Bool}{st:SortSt}(S:Sr P w A E s (bey left key arr base) pos n st)(hh:hint<n){Q:Option Nat->SortSt->Prop}
  (k:∀r,r<=n->(∀i,i<r->pos i=true)->(∀i,r<=i->i<n->pos i=false)->Q (some r) st):wpS (model P w) A E s (O8 left key arr base n hint) Q st:=by
 rw[i40];have J:∀i j,i<=j->j<n->pos i=false->pos j=false:=λi j h1 h2 h3=>by
  cases hq:pos j with
  | false=>rfl
  | true=>rw[S.mono i j h1 h2 hq] at h3;cases h3
 refine A3 (S.ask hint hh _ ?_);dsimp only;cases hp:pos hint with
 | true =>
  rw[if_pos rfl];refine A3 (C0 (C5 (I:=λx c t=>t=st/\∃lo F,c=(none,lo,F)/\lo<F/\hint+lo<n/\pos (hint+lo)=true/\x+1<=F)
   (Q:=λc t=>t=st/\∃lo F,c=(none,lo,F)/\lo<F/\hint+lo<n/\pos (hint+lo)=true/\(n - hint<=F∨(hint+F<n/\pos (hint+F)=false))) (λx c t _ hx hI=>?_) (λc t hI=>?_) ⟨rfl,0,1,rfl,by omega,by omega,hp,by omega⟩) λc t hI=>?_)
  ·obtain⟨e1,lo,F,e2,a1,a2,a3,a4⟩:=hI
   subst e1;subst e2;dsimp only
   by_cases hge:F ≥ n - hint
   ·rw[if_pos hge]
    exact A2 ⟨rfl,lo,F,rfl,a1,a2,a3,.inl hge⟩
   ·rw[if_neg hge]
    refine A3 (S.ask (hint+F) (by omega) _ ?_);dsimp only;cases hq:pos (hint+F) with
    | false=>exact A2 ⟨rfl,lo,F,rfl,a1,a2,a3,.inr ⟨by omega,hq⟩⟩
    | true=>exact A2 ⟨rfl,F,2*F+1,rfl,by omega,by omega,hq,by omega⟩
  ·obtain⟨e1,lo,F,e2,a1,a2,a3,a4⟩:=hI
   exact⟨e1,lo,F,e2,a1,a2,a3,.inl (by omega)⟩
  ·obtain⟨e1,lo,F,e2,a1,a2,a3,a4⟩:=hI
   subst e1;subst e2;dsimp only;refine A3 (C0 (bin S (lo:=hint+lo+1) (hi:=hint+min F (n - hint)) (by omega) (by omega) (λi hi=>S.mono i _ (by omega) a2 a3) (λi h1 h2=>by
    rcases a4 with a4|⟨a4,a5⟩
    ·omega
    ·exact J _ i (by omega) h2 a5)) λc t hI=>?_)
   obtain⟨e1,r,e2,b2,b4,b5⟩:=hI;subst e1;subst e2;exact A2 (k r b2 b4 b5)
 | false =>
  rw[if_neg (by simp)];refine A3 (C0 (C5 (I:=λx c t=>t=st/\∃lo F,c=(none,lo,F)/\lo<F/\lo<=hint/\pos (hint - lo)=false/\x+1<=F)
   (Q:=λc t=>t=st/\∃lo F,c=(none,lo,F)/\lo<F/\lo<=hint/\pos (hint - lo)=false/\(hint+1<=F∨(F<=hint/\pos (hint - F)=true))) (λx c t _ hx hI=>?_) (λc t hI=>?_) ⟨rfl,0,1,rfl,by omega,by omega,hp,by omega⟩) λc t hI=>?_)
  ·obtain⟨e1,lo,F,e2,a1,a2,a3,a4⟩:=hI
   subst e1;subst e2;dsimp only
   by_cases hge:F ≥ hint+1
   ·rw[if_pos hge]
    exact A2 ⟨rfl,lo,F,rfl,a1,a2,a3,.inl hge⟩
   ·rw[if_neg hge]
    refine A3 (S.ask (hint - F) (by omega) _ ?_);dsimp only;cases hq:pos (hint - F) with
    | true=>exact A2 ⟨rfl,lo,F,rfl,a1,a2,a3,.inr ⟨by omega,hq⟩⟩
    | false=>exact A2 ⟨rfl,F,2*F+1,rfl,by omega,by omega,hq,by omega⟩
  ·obtain⟨e1,lo,F,e2,a1,a2,a3,a4⟩:=hI
   exact⟨e1,lo,F,e2,a1,a2,a3,.inl (by omega)⟩
  ·obtain⟨e1,lo,F,e2,a1,a2,a3,a4⟩:=hI
   subst e1;subst e2;dsimp only;refine A3 (C0 (bin S (lo:=hint+1 - min F (hint+1)) (hi:=hint - lo) (by omega) (by omega) (λi hi=>by
    rcases a4 with a4|⟨a4,a5⟩
    ·omega
    ·exact S.mono i _ (by omega) (by omega) a5) (λi h1 h2=>J _ i h1 h2 a3)) λc t hI=>?_)
   obtain⟨e1,r,e2,b2,b4,b5⟩:=hI;subst e1;subst e2;exact A2 (k r b2 b4 b5)
end
def z90(st:SortSt)(g:Nat):SortSt:=SortSt.mk' (kindOf st) (arrOf st) (pendingOf st) g (failedOf st)
theorem ls0(a b:Array Keyed):s60 a b=(do
 rule "list.sort.merge-lo"
 let total:=a.size+b.size
 let done (out:Array Keyed) (ia ib:Nat):=out++a.extract ia a.size++b.extract ib b.size
 let lastOfA (out:Array Keyed) (ia ib:Nat):=out++b.extract ib b.size++a.extract ia a.size
 let mut out:Array Keyed:=#[← elem' b 0]
 let mut ia:=0
 let mut ib:=1
 if ib==b.size then return done out ia ib
 if ia+1==a.size then return lastOfA out ia ib
 let mut minGallop:=gallopOf (← get)
 for _ in [0:total] do
  let mut acount:=0
  let mut bcount:=0
  for _ in [0:total] do
   let some bWins ← lt' (← elem' b ib) (← elem' a ia)|return done out ia ib
   if bWins then
    out:=out.push (← elem' b ib);ib:=ib+1;bcount:=bcount+1;acount:=0
    if ib==b.size then return done out ia ib
    if bcount ≥ minGallop then break
   else
    out:=out.push (← elem' a ia);ia:=ia+1;acount:=acount+1;bcount:=0
    if ia+1==a.size then return lastOfA out ia ib
    if acount ≥ minGallop then break
  rule "list.sort.gallop"
  minGallop:=minGallop+1
  for _ in [0:total] do
   if minGallop > 1 then minGallop:=minGallop - 1
   modify λs=>z90 s minGallop
   let some k ← O8 false (← elem' b ib) a ia (a.size - ia) 0|return done out ia ib
   acount:=k
   if k > 0 then
    out:=out++a.extract ia (ia+k);ia:=ia+k
    if ia+1==a.size then return lastOfA out ia ib
    if ia==a.size then return done out ia ib
   out:=out.push (← elem' b ib);ib:=ib+1
   if ib==b.size then return done out ia ib
   let some k ← O8 true (← elem' a ia) b ib (b.size - ib) 0|return done out ia ib
   bcount:=k
   if k > 0 then
    out:=out++b.extract ib (ib+k);ib:=ib+k
    if ib==b.size then return done out ia ib
   out:=out.push (← elem' a ia);ia:=ia+1
   if ia+1==a.size then return lastOfA out ia ib
   if acount<7&&bcount<7 then break
  minGallop:=minGallop+1
  modify λs=>z90 s minGallop
 unsupported "internal:list.sort.merge-bound"):=rfl
section
variable{P:Program}{w:World}{s:Shared}{b:Array Keyed}{κ:SortKind}{cmp:Keyed->Keyed->Bool}
structure Mg(b:Array Keyed)(cmp:Keyed->Keyed->Bool)(T out la lb:List Keyed):Prop where
 pm:(out++(la++lb)).Perm T
 sa:(out++la).Pairwise λx y=>cmp x y=true
 sb:(out++lb).Pairwise λx y=>cmp x y=true
 me:∀x∈T,x∈b.toList
 nd:T.Nodup
theorem Mg.flip{T out la lb:List Keyed}(h:Mg b cmp T out la lb):Mg b cmp T out lb la:=⟨(List.perm_append_comm.append_left _).trans h.pm,h.sb,h.sa,h.me,h.nd⟩
theorem Mg.ma{T out la lb:List Keyed}(h:Mg b cmp T out la lb){x:Keyed}(hx:x∈la):x∈b.toList:=h.me x (h.pm.mem_iff.mp (C6 _ (E7 _ hx)))
theorem Mg.mb{T out la lb:List Keyed}(h:Mg b cmp T out la lb){x:Keyed}(hx:x∈lb):x∈b.toList:=h.me x (h.pm.mem_iff.mp (C6 _ (C6 _ hx)))
theorem Mg.move(tr:∀x∈b.toList,∀y∈b.toList,∀z∈b.toList,cmp x y=true->cmp y z=true->cmp x z=true){T out l1 l2 lb:List Keyed}{y:Keyed}(h:Mg b cmp T out (l1++l2) (y::lb))(hl:∀x∈l1,cmp x y=true):Mg b cmp T (out++l1) l2 (y::lb):=by
 refine⟨?_,?_,?_,h.me,h.nd⟩
 ·have:=h.pm
  rw[List.append_assoc] at this ⊢;exact this
 ·have:=h.sa
  rw[List.append_assoc];exact this
 ·have h1:=h.sa
  have h2:=h.sb;rw[List.pairwise_append] at h1 h2;rw[List.pairwise_append];obtain⟨o1,o2,o3⟩:=h1;obtain⟨p1,p2,p3⟩:=h2;rw[List.pairwise_append] at o2;refine⟨N2.mpr ⟨o1,o2.1,λx hx z hz=>o3 x hx z (E7 _ hz)⟩,p2,λx hx z hz=>?_⟩;rcases B4.mp hx with hx|hx
  ·exact p3 x hx z hz
  ·rcases B2.mp hz with rfl|F
   ·exact hl x hx
   ·exact tr x (h.ma (E7 _ hx)) y (h.mb A5) z (h.mb hz) (hl x hx) (i7 p2 F)
structure Md(cmp:Keyed->Keyed->Bool)(T out:List Keyed):Prop where
 pm:out.Perm T
 so:out.Pairwise λx y=>cmp x y=true
theorem Mg.endA{T out la:List Keyed}(h:Mg b cmp T out la []):Md cmp T (out++la):=⟨by have:=h.pm;rwa [w8] at this,h.sa⟩
theorem Mg.endB{T out lb:List Keyed}(h:Mg b cmp T out [] lb):Md cmp T (out++lb):=⟨h.pm,h.sb⟩
theorem Mg.last{T out lb:List Keyed}{x:Keyed}(h:Mg b cmp T out [x] lb)(hx:∀z∈lb,cmp z x=true):Md cmp T (out++lb++[x]):=by
 refine⟨?_,?_⟩
 ·have:=h.flip.pm
  rw[List.append_assoc];exact this
 ·rw[List.pairwise_append]
  refine⟨h.sb,Cn0 _ _,λy hy z hz=>?_⟩;rw[List.mem_singleton] at hz;subst hz;rcases B4.mp hy with hy|hy
  ·have:=h.sa
   rw[List.pairwise_append] at this;exact this.2.2 y hy z (N9.mpr rfl)
  ·exact hx y hy
theorem Mg.ne{T out la lb:List Keyed}(h:Mg b cmp T out la lb){x y:Keyed}(hx:x∈la)(hy:y∈lb):x≠y:=by
 have:=h.pm.nodup_iff.mpr h.nd;rw[List.nodup_append] at this;have:=this.2.1;rw[List.nodup_append] at this;exact this.2.2 x hx y hy
theorem qb0(C:Cn P w A E s b κ cmp){st:SortSt}(hk:kindOf st=κ){left:Bool}{key:Keyed}{arr:Array Keyed}{base hint:Nat}(mk:key∈b.toList)(l:List Keyed)(hl:∀i,i<n->arr[base+i]?=l[i]?)(hn:l.length=n)(ml:∀x∈l,x∈b.toList/\x≠key)(sl:l.Pairwise λx y=>cmp x y=true)(hh:hint<n){Q:Option Nat->SortSt->Prop}
  (k:∀l1 l2,l=l1++l2->(∀x∈l1,cmp x key=true)->(∀x∈l2,cmp key x=true)->Q (some l1.length) st):wpS (model P w) A E s (O8 left key arr base n hint) Q st:=by
 subst hn;refine gal (pos:=λi=>match l[i]? with|some x=>cmp x key|none=>false) ⟨λi hi Q' hQ=>?_,λi j F hj hp=>?_⟩ hh λr hr h1 h2=>?_
 ·have e:l[i]?=some l[i]:=C8 l i hi
  have m:=ml l[i] (E8 hi);refine Xb0 C hk left (x:=l[i]) ((hl i hi).trans e) m.1 mk m.2 ?_;simp only[e] at hQ;exact hQ
 ·have e1:l[i]?=some l[i]:=C8 l i (by omega)
  have e2:l[j]?=some l[j]:=C8 l j hj;simp only[e1,e2] at hp ⊢
  by_cases hij':i=j
  ·subst hij';exact hp
  ·exact C.tr _ (ml _ (E8 (by omega))).1 _ (ml _ (E8 hj)).1 _ mk (E5.mp sl i j (by omega) hj (by omega)) hp
 ·have:=k (l.take r) (l.drop r) (List.take_append_drop r l).symm (λx hx=>?_) (λx hx=>?_)
  ·rw[List.length_take,Nat.min_eq_left hr] at this
   exact this
  ·obtain⟨i,hi,e⟩:=N4.mp hx
   rw[List.getElem_take] at e;rw[List.length_take] at hi;have:=h1 i (by omega);simp only[getElem?_pos l i (show i<l.length by omega),e] at this;exact this
  ·obtain⟨i,hi,e⟩:=N4.mp hx
   rw[List.getElem_drop] at e;rw[List.length_drop] at hi;have:=h2 (r+i) (by omega) (by omega);simp only[getElem?_pos l (r+i) (show r+i<l.length by omega),e] at this;have m:=ml x (e▸E8 _);exact C.to _ mk _ m.1 (λz=>m.2 z.symm) this
structure Sm(st t:SortSt):Prop where
 kd:kindOf t=kindOf st
 ar:arrOf t=arrOf st
 pe:pendingOf t=pendingOf st
 fa:failedOf t=failedOf st
theorem Sm.refl(st:SortSt):Sm st st:=⟨rfl,rfl,rfl,rfl⟩
theorem Sm.gal{st t:SortSt}(h:Sm st t)(g:Nat):Sm st (z90 t g):=⟨h.kd,h.ar,h.pe,h.fa⟩
theorem V4{a:Array Keyed}(h:i<a.size):a.toList.drop i=a[i]::a.toList.drop (i+1):=by
 rw[List.drop_eq_getElem_cons (by simpa using h)];simp
abbrev St7:=Option (Array Keyed)×Array Keyed×Nat×Nat×Nat×Nat×Nat
def loD(a y out:Array Keyed)(ia ib:Nat):Array Keyed:=out++a.extract ia a.size++y.extract ib y.size
def loL(a y out:Array Keyed)(ia ib:Nat):Array Keyed:=out++y.extract ib y.size++a.extract ia a.size
def lo3(a y:Array Keyed)(mg ac bc:Nat)(out:Array Keyed)(ia ib:Nat):StateT SortSt Sem (ForInStep St7):=do
 let x ← elem' a ia
 if (ia+1+1==a.size)=true then pure (.done (some (loL a y (out.push x) (ia+1) ib),out.push x,ia+1,ib,mg,ac,bc))
 else if (decide (ac<7)&&decide (bc<7))=true then pure (.done (none,out.push x,ia+1,ib,mg,ac,bc))
 else pure (.yield (none,out.push x,ia+1,ib,mg,ac,bc))
def lo2(a y:Array Keyed)(mg ac bc:Nat)(out:Array Keyed)(ia ib:Nat):StateT SortSt Sem (ForInStep St7):=do
 let x ← elem' y ib
 if (ib+1==y.size)=true then pure (.done (some (loD a y (out.push x) ia (ib+1)),out.push x,ia,ib+1,mg,ac,bc))
 else do
  let z ← elem' a ia
  let __x ← O8 true z y (ib+1) (y.size - (ib+1)) 0
  match __x with
  | some k =>
   if k > 0 then
    if (ib+1+k==y.size)=true then pure (.done (some (loD a y (out.push x++y.extract (ib+1) (ib+1+k)) ia (ib+1+k)),out.push x++y.extract (ib+1) (ib+1+k),ia,ib+1+k,mg,ac,k))
    else lo3 a y mg ac k (out.push x++y.extract (ib+1) (ib+1+k)) ia (ib+1+k)
   else lo3 a y mg ac k (out.push x) ia (ib+1)
  | x'=>pure (.done (some (loD a y (out.push x) ia (ib+1)),out.push x,ia,ib+1,mg,ac,bc))
def lo1(a y:Array Keyed)(mg ac bc:Nat)(out:Array Keyed)(ia ib:Nat):StateT SortSt Sem (ForInStep St7):=do
 modify λs=>z90 s mg
 let x ← elem' y ib
 let __x ← O8 false x a ia (a.size - ia) 0
 match __x with
 | some k =>
  if k > 0 then
   if (ia+k+1==a.size)=true then pure (.done (some (loL a y (out++a.extract ia (ia+k)) (ia+k) ib),out++a.extract ia (ia+k),ia+k,ib,mg,k,bc))
   else if (ia+k==a.size)=true then pure (.done (some (loD a y (out++a.extract ia (ia+k)) (ia+k) ib),out++a.extract ia (ia+k),ia+k,ib,mg,k,bc))
   else lo2 a y mg k bc (out++a.extract ia (ia+k)) (ia+k) ib
  else lo2 a y mg k bc out ia ib
 | x'=>pure (.done (some (loD a y out ia ib),out,ia,ib,mg,ac,bc))
structure Lo(b:Array Keyed)(cmp:Keyed->Keyed->Bool)(a y:Array Keyed)(n:Nat)(out:Array Keyed)(ia ib:Nat):Prop where
 mg:Mg b cmp (a.toList++y.toList) out.toList (a.toList.drop ia) (y.toList.drop ib)
 ia:ia+1<a.size
 ib:ib<y.size
 n:n<=out.size
def Oc(b:Array Keyed)(cmp:Keyed->Keyed->Bool)(a y:Array Keyed)(n:Nat)(o:Option (Array Keyed))(out:Array Keyed)(ia ib:Nat):Prop :=
 match o with
 | some r=>Md cmp (a.toList++y.toList) r.toList
 | none=>Lo b cmp a y n out ia ib
def Oc7(b:Array Keyed)(cmp:Keyed->Keyed->Bool)(a y:Array Keyed)(n:Nat)(st:SortSt)(r:ForInStep St7)(t:SortSt):Prop :=
 Sm st t/\match r with
 | .done c=>Oc b cmp a y n c.1 c.2.1 c.2.2.1 c.2.2.2.1
 | .yield c=>c.1=none/\Lo b cmp a y n c.2.1 c.2.2.1 c.2.2.2.1
section
variable{a y:Array Keyed}(C:Cn P w A E s b κ cmp){st t:SortSt}(hk:kindOf st=κ)(hl:∀z∈y.toList,∀x,a[a.size - 1]?=some x->cmp z x=true)
theorem U9(h:¬(m==n)=true):m≠n:=λz=>h (by rw[z];exact beq_self_eq_true n)
theorem c00(c:Array Keyed)(i k:Nat):(c.extract i (i+k)).toList=(c.toList.drop i).take k:=by
 rw[Array.toList_extract];simp
theorem gm0(c:Array Keyed)(i:Nat):(c.extract i c.size).toList=c.toList.drop i:=by
 rw[Array.toList_extract];simp;rw[List.take_of_length_le (by simp)]
theorem cf0{c out:Array Keyed}{l1 l2:List Keyed}(h:c.toList.drop i=l1++l2):(out++c.extract i (i+l1.length)).toList=out.toList++l1/\c.toList.drop (i+l1.length)=l2:=by
 refine⟨?_,?_⟩
 ·rw[Array.toList_append,c00,h,List.take_left]
 ·rw[← List.drop_drop,h,List.drop_left]
theorem Zo0{out:Array Keyed}:(loD a y out ia ib).toList=out.toList++a.toList.drop ia++y.toList.drop ib:=by
 unfold loD;simp only[Array.toList_append,gm0]
theorem Zr0{out:Array Keyed}:(loL a y out ia ib).toList=out.toList++y.toList.drop ib++a.toList.drop ia:=by
 unfold loL;simp only[Array.toList_append,gm0]
include hl in
theorem oi0{out:Array Keyed}(M:Mg b cmp (a.toList++y.toList) out.toList (a.toList.drop ia) (y.toList.drop ib))(h:ia+1=a.size):Md cmp (a.toList++y.toList) (loL a y out ia ib).toList:=by
 rw[Zr0];have e:=V4 (a:=a) (i:=ia) (by omega);rw[List.drop_eq_nil_of_le (i:=ia+1) (by simp;omega)] at e;rw[e] at M ⊢;refine M.last λz hz=>hl z (Aw0 hz) _ ?_
 rw[show a.size - 1=ia by omega];exact C8 a ia (by omega)
theorem mx0{out:Array Keyed}(M:Mg b cmp (a.toList++y.toList) out.toList (a.toList.drop ia) (y.toList.drop ib))(h:ia=a.size∨ib=y.size):Md cmp (a.toList++y.toList) (loD a y out ia ib).toList:=by
 rw[Zo0];rcases h with h|h
 ·rw[List.drop_eq_nil_of_le (as:=a.toList) (i:=ia) (by simp;omega)] at M ⊢
  rw[List.append_nil];exact M.endB
 ·rw[List.drop_eq_nil_of_le (as:=y.toList) (i:=ib) (by simp;omega)] at M ⊢
  rw[List.append_nil];exact M.endA
include hl C in
theorem g60{mg:Nat}{out:Array Keyed}(hs:Sm st t)(L:Lo b cmp a y n out ia ib)(hc:∀z,y[ib]?=some z->cmp (a[ia]'(by have:=L.ia;omega)) z=true):wpS (model P w) A E s (lo3 a y mg ac bc out ia ib) (Oc7 b cmp a y (n+1) st) t:=by
 have h1:=L.ia;have h2:=L.ib;have M:=L.mg;rw[V4 (a:=a) (i:=ia) (by omega),V4 (a:=y) (i:=ib) (by omega)] at M;have M2:=Mg.move C.tr (l1:=[a[ia]]) (l2:=a.toList.drop (ia+1)) M λx hx=>by
  rw[List.mem_singleton] at hx;subst hx;exact hc _ (C8 y ib h2)
 rw[← V4 (a:=y) (i:=ib) h2,← Array.toList_push] at M2;unfold lo3;rw[elem'_eq,getElem?_pos a ia (by omega)];refine A3 (A2 ?_);split
 ·rename_i e
  exact A2 ⟨hs,oi0 hl M2 (by simpa using e)⟩
 ·rename_i e
  have L2:Lo b cmp a y (n+1) (out.push a[ia]) (ia+1) ib:=⟨M2,by have:=U9 e;omega,h2,by rw[Array.size_push];have:=L.n;omega⟩;split
  ·exact A2 ⟨hs,L2⟩
  ·exact A2 ⟨hs,rfl,L2⟩
include hl C hk in
theorem gu0{mg:Nat}{out:Array Keyed}(hs:Sm st t)(L:Lo b cmp a y n out ia ib)(hc:∀z,a[ia]?=some z->cmp (y[ib]'L.ib) z=true):wpS (model P w) A E s (lo2 a y mg ac bc out ia ib) (Oc7 b cmp a y (n+1) st) t:=by
 have h1:=L.ia;have h2:=L.ib;have M:=L.mg;have J:ia<a.size:=by omega
 rw[V4 (a:=a) (i:=ia) (by omega),V4 (a:=y) (i:=ib) (by omega)] at M;have M2:=(Mg.move C.tr (l1:=[y[ib]]) (l2:=y.toList.drop (ib+1)) M.flip λx hx=>by
  rw[List.mem_singleton] at hx;subst hx;exact hc _ (C8 a ia (by omega))).flip
 have mk:a[ia]∈b.toList:=M.ma A5;rw[← Array.toList_push] at M2;unfold lo2;rw[elem'_eq,getElem?_pos y ib h2];refine A3 (A2 ?_);split
 ·rename_i e
  rw[← V4 (a:=a) (i:=ia) J] at M2;exact A2 ⟨hs,mx0 M2 (.inr (by simpa using e))⟩
 ·rename_i e
  have e':ib+1<y.size:=by have:=U9 e;omega
  rw[elem'_eq,getElem?_pos a ia J];refine A3 (A2 (A3 (qb0 C (hs.kd.trans hk) mk (y.toList.drop (ib+1)) (λi hi=>?_) (by simp) (λx hx=>⟨M2.mb hx,λz=>M2.ne A5 hx z.symm⟩) (by have:=M2.sb;rw[List.pairwise_append] at this;exact this.2.1) (by omega) λl1 l2 h hb ha=>?_)))
  ·rw[List.getElem?_drop]
   simp
  ·dsimp only
   obtain⟨x1,x2⟩:=cf0 (out:=out.push y[ib]) h;rw[h] at M2;have M3:=(Mg.move C.tr M2.flip hb).flip;rw[← x1,← x2,← V4 (a:=a) (i:=ia) J] at M3;split
   ·rename_i hz
    split
    ·rename_i e2
     exact A2 ⟨hs,mx0 M3 (.inr (by simpa using e2))⟩
    ·rename_i e2
     have O:(y.toList.drop (ib+1)).length=(l1++l2).length:=by rw[h]
     rw[List.length_drop,List.length_append,Array.length_toList] at O;have e3:ib+1+l1.length<y.size:=by have:=U9 e2;omega
     refine g60 C hl hs ⟨M3,h1,e3,by rw[← Array.length_toList,x1,List.length_append,Array.length_toList,Array.size_push];have:=L.n;omega⟩ λz F=>ha z ?_
     rw[← x2,V4 (a:=y) e3];rw[getElem?_pos y _ e3] at F;cases F;exact A5
   ·rename_i hz
    have:l1=[]:=O0 (by omega);subst this;rw[List.nil_append] at h;rw[List.nil_append,← h,← V4 (a:=a) (i:=ia) J] at M2;refine g60 C hl hs ⟨M2,h1,e',by rw[Array.size_push];have:=L.n;omega⟩ λz F=>ha z ?_
    rw[← h,V4 (a:=y) e'];rw[getElem?_pos y _ e'] at F;cases F;exact A5
include hl C hk in
theorem gy0{mg:Nat}{out:Array Keyed}(hs:Sm st t)(L:Lo b cmp a y n out ia ib):wpS (model P w) A E s (lo1 a y mg ac bc out ia ib) (Oc7 b cmp a y (n+1) st) t:=by
 have h1:=L.ia;have h2:=L.ib;have M:=L.mg;rw[V4 (a:=y) (i:=ib) (by omega)] at M;have mk:y[ib]∈b.toList:=M.mb A5;unfold lo1;refine A3 (D7 ?_);have hs:=hs.gal mg;rw[elem'_eq,getElem?_pos y ib h2];refine A3 (A2 (A3 (qb0 C (hs.kd.trans hk) mk (a.toList.drop ia) (λi hi=>?_) (by simp) (λx hx=>⟨M.ma hx,M.ne hx A5⟩) (by have:=M.sa;rw[List.pairwise_append] at this;exact this.2.1) (by omega) λl1 l2 h hb ha=>?_)))
 ·rw[List.getElem?_drop]
  simp
 ·dsimp only
  obtain⟨x1,x2⟩:=cf0 (out:=out) h;have M0:=M;rw[h] at M;have M3:=Mg.move C.tr M hb;rw[← x1,← x2,← V4 (a:=y) h2] at M3;have J:(a.toList.drop ia).length=(l1++l2).length:=by rw[h]
  rw[List.length_drop,List.length_append,Array.length_toList] at J;split
  ·rename_i hz
   split
   ·rename_i e2
    exact A2 ⟨hs,oi0 hl M3 (by simpa using e2)⟩
   ·split
    ·rename_i e2
     exact A2 ⟨hs,mx0 M3 (.inl (by simpa using e2))⟩
    ·rename_i e1 e2
     have e3:ia+l1.length+1<a.size:=by
      have:=U9 e2;have:=U9 e1;omega
     refine gu0 C hk hl hs ⟨M3,e3,h2,by rw[← Array.length_toList,x1,List.length_append,Array.length_toList];have:=L.n;omega⟩ λz F=>ha z ?_
     rw[← x2,V4 (a:=a) (i:=ia+l1.length) (by omega)];rw[getElem?_pos a _ (by omega)] at F;cases F;exact A5
  ·rename_i hz
   have:l1=[]:=O0 (by omega);subst this;rw[List.nil_append] at h;refine gu0 C hk hl hs L λz F=>ha z ?_
   rw[← h,V4 (a:=a) (i:=ia) (by omega)];rw[getElem?_pos a _ (by omega)] at F;cases F;exact A5
theorem Lo.le{out:Array Keyed}(h:Lo b cmp a y n out ia ib)(k:m<=n):Lo b cmp a y m out ia ib:=⟨h.mg,h.ia,h.ib,C2 k h.n⟩
theorem Lo.lt{out:Array Keyed}(h:Lo b cmp a y n out ia ib):n<a.size+y.size:=by
 have h1:=h.mg.pm.length_eq;have h2:=h.ia;have h3:=h.ib;have h4:=h.n;simp only[List.length_append,List.length_drop,Array.length_toList] at h1;omega
include hl C hk in
theorem mergeLo(h0:0<y.size)(h1:0<a.size)(M:Mg b cmp (a.toList++y.toList) [y[0]] a.toList (y.toList.drop 1)){Q:Array Keyed->SortSt->Prop}
  (k:∀r t,Sm st t->Md cmp (a.toList++y.toList) r.toList->Q r t):wpS (model P w) A E s (s60 a y) Q st:=by
 rw[ls0];refine A3 (N3 (D5 ⟨rfl,?_⟩));rw[elem'_eq,getElem?_pos y 0 h0];refine A3 (A2 ?_);dsimp only;have M':Mg b cmp (a.toList++y.toList) (#[y[0]]:Array Keyed).toList (a.toList.drop 0) (y.toList.drop 1):=M
 by_cases e1:(1==y.size)=true
 ·rw[if_pos e1]
  exact A2 (k _ _ (Sm.refl st) (mx0 (ia:=0) (ib:=1) M' (.inr (by simpa using e1))))
 rw[if_neg e1]
 by_cases e2:(0+1==a.size)=true
 ·rw[if_pos e2]
  exact A2 (k _ _ (Sm.refl st) (oi0 hl (ia:=0) (ib:=1) M' (by simpa using e2)))
 rw[if_neg e2];have L0:Lo b cmp a y (1+0) #[y[0]] 0 1:=⟨M',by have:=U9 e2;omega,by have:=U9 e1;omega,A4 1⟩;refine A3 (D4 ?_);refine A3 (C0 (C5 (I:=λx c t=>Sm st t/\c.1=none/\Lo b cmp a y (1+x) c.2.1 c.2.2.1 c.2.2.2.1)
  (Q:=λc t=>Sm st t/\∃r,c.1=some r/\Md cmp (a.toList++y.toList) r.toList) (λx c t _ hx hI=>?_) (λc t hI=>?_) ⟨Sm.refl st,rfl,L0⟩) λc t hI=>?_)
 ·obtain⟨hs,_,L⟩:=hI
  refine A3 (C0 (C5 (I:=λx' c t=>Sm st t/\c.1=none/\Lo b cmp a y (1+x+x') c.2.1 c.2.2.1 c.2.2.2.1)
   (Q:=λc t=>Sm st t/\Oc b cmp a y (1+x) c.1 c.2.1 c.2.2.1 c.2.2.2.1) (λx' c' t _ Y hI=>?_) (λc t hI=>?_) ⟨hs,rfl,L⟩) λc' t hI=>?_)
  ·obtain⟨o,F,ia,ib,ac,bc⟩:=c'
   obtain⟨hs,_,L⟩:=hI;have L:Lo b cmp a y (1+x+x') F ia ib:=L;dsimp only;have h1:=L.ia;have h2:=L.ib;have M:=L.mg;have J:ia<a.size:=by omega
   rw[V4 (a:=a) (i:=ia) J,V4 (a:=y) (i:=ib) h2] at M;have m1:a[ia]∈b.toList:=M.ma A5;have m2:y[ib]∈b.toList:=M.mb A5;rw[elem'_eq,getElem?_pos y ib h2,elem'_eq,getElem?_pos a ia J];refine A3 (A2 (A3 (A2 (A3 (C.ask _ _ _ _ (hs.kd.trans hk) m2 m1 ?_)))));dsimp only;cases hc:cmp y[ib] a[ia] with
   | true =>
    have M2:=(Mg.move C.tr (l1:=[y[ib]]) (l2:=y.toList.drop (ib+1)) M.flip λx hx=>by
     rw[List.mem_singleton] at hx;subst hx;exact hc).flip
    rw[← V4 (a:=a) (i:=ia) J,← Array.toList_push] at M2;rw[if_pos rfl];refine A3 (A2 ?_)
    by_cases e:(ib+1==y.size)=true
    ·rw[if_pos e]
     exact A2 ⟨hs,mx0 M2 (.inr (by simpa using e))⟩
    ·rw[if_neg e]
     have L2:Lo b cmp a y (1+x+(x'+1)) (F.push y[ib]) ia (ib+1):=⟨M2,h1,by have:=U9 e;omega,by rw[Array.size_push];have:=L.n;omega⟩
     by_cases g:bc+1 ≥ c.2.2.2.2
     ·rw[if_pos g]
      exact A2 ⟨hs,L2.le (by omega)⟩
     ·rw[if_neg g]
      exact A2 ⟨hs,rfl,L2⟩
   | false =>
    have M2:=Mg.move C.tr (l1:=[a[ia]]) (l2:=a.toList.drop (ia+1)) M λx hx=>by
     rw[List.mem_singleton] at hx;subst hx;exact C.to _ m1 _ m2 (M.ne A5 A5) hc
    rw[← V4 (a:=y) (i:=ib) h2,← Array.toList_push] at M2;rw[if_neg (by decide)];refine A3 (A2 ?_)
    by_cases e:(ia+1+1==a.size)=true
    ·rw[if_pos e]
     exact A2 ⟨hs,oi0 hl M2 (by simpa using e)⟩
    ·rw[if_neg e]
     have L2:Lo b cmp a y (1+x+(x'+1)) (F.push a[ia]) (ia+1) ib:=⟨M2,by have:=U9 e;omega,h2,by rw[Array.size_push];have:=L.n;omega⟩
     by_cases g:ac+1 ≥ c.2.2.2.2
     ·rw[if_pos g]
      exact A2 ⟨hs,L2.le (by omega)⟩
     ·rw[if_neg g]
      exact A2 ⟨hs,rfl,L2⟩
  ·obtain⟨o,F,ia,ib,ac,bc⟩:=c
   obtain⟨hs,e,L⟩:=hI;cases e;exact⟨hs,L.le (by omega)⟩
  ·obtain⟨o,F,ia,ib,ac,bc⟩:=c'
   obtain⟨hs,O⟩:=hI;cases o with
   | some r=>exact A2 ⟨hs,r,rfl,O⟩
   | none =>
    have L:Lo b cmp a y (1+x) F ia ib:=O;dsimp only;refine A3 (N3 (D5 ⟨rfl,?_⟩));refine A3 (C0 (C5 (I:=λx' c t=>Sm st t/\c.1=none/\Lo b cmp a y (1+x+x') c.2.1 c.2.2.1 c.2.2.2.1)
     (Q:=λc t=>Sm st t/\Oc b cmp a y (1+x+1) c.1 c.2.1 c.2.2.1 c.2.2.2.1) (λx' c' t _ Y hI=>?_) (λc t hI=>?_) ⟨hs,rfl,L⟩) λc' t hI=>?_)
    ·obtain⟨o,F,ia,ib,mg,ac,bc⟩:=c'
     obtain⟨hs,_,L⟩:=hI;have go:∀(mg:Nat) (r:ForInStep St7) (t':SortSt),Oc7 b cmp a y (1+x+x'+1) st r t'->match r with|.done c=>Sm st t'/\Oc b cmp a y (1+x+1) c.1 c.2.1 c.2.2.1 c.2.2.2.1|.yield c=>Sm st t'/\c.1=none/\Lo b cmp a y (1+x+(x'+1)) c.2.1 c.2.2.1 c.2.2.2.1:=λmg r t' h=>by
      cases r with
      | yield c=>exact⟨h.1,h.2⟩
      | done c =>
       obtain⟨o,F,ia,ib,mg,ac,bc⟩:=c;refine⟨h.1,?_⟩;cases o with
       | some r=>exact h.2
       | none=>exact Lo.le h.2 (by omega)
     dsimp only
     by_cases hg:mg > 1
     ·rw[if_pos hg]
      show wpS (model P w) A E s (lo1 a y (mg - 1) ac bc F ia ib) _ t;refine C0 (gy0 C hk hl (mg:=mg - 1) (ac:=ac) (bc:=bc) hs L) λr t' h=>?_
      have:=go mg r t' h;cases r<;>exact this
     ·rw[if_neg hg]
      show wpS (model P w) A E s (lo1 a y mg ac bc F ia ib) _ t;refine C0 (gy0 C hk hl (mg:=mg) (ac:=ac) (bc:=bc) hs L) λr t' h=>?_
      have:=go mg r t' h;cases r<;>exact this
    ·obtain⟨o,F,ia,ib,mg,ac,bc⟩:=c
     obtain⟨hs,e,L⟩:=hI;cases e;exact⟨hs,L.le (by omega)⟩
    ·obtain⟨o,F,ia,ib,mg,ac,bc⟩:=c'
     obtain⟨hs,O⟩:=hI;cases o with
     | some r=>exact A2 ⟨hs,r,rfl,O⟩
     | none=>exact A3 (D7 (A2 ⟨hs.gal _,rfl,O⟩))
 ·exact absurd hI.2.2.lt (by omega)
 ·obtain⟨o,F,ia,ib,mg⟩:=c
  obtain⟨hs,r,e,O⟩:=hI;cases e;exact A2 (k _ _ hs O)
end
end
theorem lx0(a b:Array Keyed):s70 a b=(do
 rule "list.sort.merge-hi"
 let total:=a.size+b.size
 let done (out:Array Keyed) (na nb:Nat):=a.extract 0 na++b.extract 0 nb++out.reverse
 let firstOfB (out:Array Keyed) (na nb:Nat):=b.extract 0 nb++a.extract 0 na++out.reverse
 let mut na:=a.size - 1
 let mut nb:=b.size
 let mut out:Array Keyed:=#[← elem' a na]
 if na==0 then return done out na nb
 if nb==1 then return firstOfB out na nb
 let mut minGallop:=gallopOf (← get)
 for _ in [0:total] do
  let mut acount:=0
  let mut bcount:=0
  for _ in [0:total] do
   let some aWins ← lt' (← elem' b (nb - 1)) (← elem' a (na - 1))|return done out na nb
   if aWins then
    na:=na - 1;out:=out.push (← elem' a na);acount:=acount+1;bcount:=0
    if na==0 then return done out na nb
    if acount ≥ minGallop then break
   else
    nb:=nb - 1;out:=out.push (← elem' b nb);bcount:=bcount+1;acount:=0
    if nb==1 then return firstOfB out na nb
    if bcount ≥ minGallop then break
  rule "list.sort.gallop"
  minGallop:=minGallop+1
  for _ in [0:total] do
   if minGallop > 1 then minGallop:=minGallop - 1
   modify λs=>z90 s minGallop
   let some at_ ← O8 false (← elem' b (nb - 1)) a 0 na (na - 1)|return done out na nb
   let k:=na - at_
   acount:=k
   if k > 0 then
    out:=out++(a.extract at_ na).reverse;na:=at_
    if na==0 then return done out na nb
   nb:=nb - 1;out:=out.push (← elem' b nb)
   if nb==1 then return firstOfB out na nb
   let some at_ ← O8 true (← elem' a (na - 1)) b 0 nb (nb - 1)|return done out na nb
   let k:=nb - at_
   bcount:=k
   if k > 0 then
    out:=out++(b.extract at_ nb).reverse;nb:=at_
    if nb==1 then return firstOfB out na nb
    if nb==0 then return done out na nb
   na:=na - 1;out:=out.push (← elem' a na)
   if na==0 then return done out na nb
   if acount<7&&bcount<7 then break
  minGallop:=minGallop+1
  modify λs=>z90 s minGallop
 unsupported "internal:list.sort.merge-bound"):=rfl
section
variable{P:Program}{w:World}{s:Shared}{b:Array Keyed}{κ:SortKind}{cmp:Keyed->Keyed->Bool}
def vm(cmp:Keyed->Keyed->Bool)(x y:Keyed):Bool:=cmp y x
def rt(c:Array Keyed)(n:Nat):List Keyed:=(c.toList.take n).reverse
theorem R6{c:Array Keyed}(h:0<n)(h':n<=c.size):rt c n=c[n - 1]::rt c (n - 1):=by
 obtain⟨m,rfl⟩:∃m,n=m+1:=⟨n - 1,by omega⟩;unfold rt;rw[List.take_succ,List.reverse_append];simp[show m<c.size by omega]
theorem Yo0{c:Array Keyed}{x:Keyed}(h:x∈rt c n):x∈c.toList:=i8 (L8.mp h)
theorem c40{c out:Array Keyed}{l1 l2:List Keyed}(h:c.toList.take n=l1++l2)(hn:n<=c.size):(out++(c.extract l1.length n).reverse).toList=out.toList++l2.reverse/\rt c l1.length=l1.reverse/\l1.length+l2.length=n/\rt c n=l2.reverse++l1.reverse:=by
 have e:=E2 List.length h;rw[List.length_take,List.length_append,Array.length_toList] at e;refine⟨?_,?_,by omega,?_⟩
 ·rw[Array.toList_append,Array.toList_reverse,Array.toList_extract]
  simp only[List.extract_eq_take_drop];rw[← List.drop_take,h,List.drop_left]
 ·unfold rt
  have:c.toList.take l1.length=(c.toList.take n).take l1.length:=by rw[List.take_take,Nat.min_eq_left (by omega)]
  rw[this,h,List.take_left]
 ·unfold rt
  rw[h,List.reverse_append]
theorem Md.rev{T r:List Keyed}(h:Md (vm cmp) T r.reverse):Md cmp T r:=⟨r.reverse_perm.symm.trans h.pm,i9.mp h.so⟩
def hiD(a y out:Array Keyed)(na nb:Nat):Array Keyed:=a.extract 0 na++y.extract 0 nb++out.reverse
def hiF(a y out:Array Keyed)(na nb:Nat):Array Keyed:=y.extract 0 nb++a.extract 0 na++out.reverse
abbrev Sv7:=Option (Array Keyed)×Nat×Nat×Array Keyed×Nat×Nat×Nat
def hi3(a y:Array Keyed)(mg ac bc:Nat)(out:Array Keyed)(na nb:Nat):StateT SortSt Sem (ForInStep Sv7):=do
 let x ← elem' a (na - 1)
 if (na - 1==0)=true then pure (.done (some (hiD a y (out.push x) (na - 1) nb),na - 1,nb,out.push x,mg,ac,bc))
 else if (decide (ac<7)&&decide (bc<7))=true then pure (.done (none,na - 1,nb,out.push x,mg,ac,bc))
 else pure (.yield (none,na - 1,nb,out.push x,mg,ac,bc))
def hi2(a y:Array Keyed)(mg ac bc:Nat)(out:Array Keyed)(na nb:Nat):StateT SortSt Sem (ForInStep Sv7):=do
 let x ← elem' y (nb - 1)
 if (nb - 1==1)=true then pure (.done (some (hiF a y (out.push x) na (nb - 1)),na,nb - 1,out.push x,mg,ac,bc))
 else do
  let z ← elem' a (na - 1)
  let __x ← O8 true z y 0 (nb - 1) (nb - 1 - 1)
  match __x with
  | some k =>
   if nb - 1 - k > 0 then
    if (k==1)=true then pure (.done (some (hiF a y (out.push x++(y.extract k (nb - 1)).reverse) na k),na,k,out.push x++(y.extract k (nb - 1)).reverse,mg,ac,nb - 1 - k))
    else if (k==0)=true then pure (.done (some (hiD a y (out.push x++(y.extract k (nb - 1)).reverse) na k),na,k,out.push x++(y.extract k (nb - 1)).reverse,mg,ac,nb - 1 - k))
    else hi3 a y mg ac (nb - 1 - k) (out.push x++(y.extract k (nb - 1)).reverse) na k
   else hi3 a y mg ac (nb - 1 - k) (out.push x) na (nb - 1)
  | x'=>pure (.done (some (hiD a y (out.push x) na (nb - 1)),na,nb - 1,out.push x,mg,ac,bc))
def hi1(a y:Array Keyed)(mg ac bc:Nat)(out:Array Keyed)(na nb:Nat):StateT SortSt Sem (ForInStep Sv7):=do
 modify λs=>z90 s mg
 let x ← elem' y (nb - 1)
 let __x ← O8 false x a 0 na (na - 1)
 match __x with
 | some k =>
  if na - k > 0 then
   if (k==0)=true then pure (.done (some (hiD a y (out++(a.extract k na).reverse) k nb),k,nb,out++(a.extract k na).reverse,mg,na - k,bc))
   else hi2 a y mg (na - k) bc (out++(a.extract k na).reverse) k nb
  else hi2 a y mg (na - k) bc out na nb
 | x'=>pure (.done (some (hiD a y out na nb),na,nb,out,mg,ac,bc))
structure Hi(b:Array Keyed)(cmp:Keyed->Keyed->Bool)(a y:Array Keyed)(n:Nat)(out:Array Keyed)(na nb:Nat):Prop where
 mg:Mg b (vm cmp) (a.toList++y.toList) out.toList (rt a na) (rt y nb)
 na':na<=a.size
 nb':nb<=y.size
 na:0<na
 nb:1<nb
 n:n<=out.size
def Ov(b:Array Keyed)(cmp:Keyed->Keyed->Bool)(a y:Array Keyed)(n:Nat)(o:Option (Array Keyed))(out:Array Keyed)(na nb:Nat):Prop :=
 match o with
 | some r=>Md cmp (a.toList++y.toList) r.toList
 | none=>Hi b cmp a y n out na nb
def Ov7(b:Array Keyed)(cmp:Keyed->Keyed->Bool)(a y:Array Keyed)(n:Nat)(st:SortSt)(r:ForInStep Sv7)(t:SortSt):Prop :=
 Sm st t/\match r with
 | .done c=>Ov b cmp a y n c.1 c.2.2.2.1 c.2.1 c.2.2.1
 | .yield c=>c.1=none/\Hi b cmp a y n c.2.2.2.1 c.2.1 c.2.2.1
variable{a y:Array Keyed}(C:Cn P w A E s b κ cmp){st t:SortSt}(hk:kindOf st=κ)(hl:∀z∈a.toList,∀x,y[0]?=some x->cmp x z=true)
include C in
theorem vtr:∀x∈b.toList,∀y∈b.toList,∀z∈b.toList,vm cmp x y=true->vm cmp y z=true->vm cmp x z=true:=λx hx y hy z hz h1 h2=>C.tr z hz y hy x hx h2 h1
theorem Xk0{out:Array Keyed}{nb:Nat}:(hiD a y out na nb).toList.reverse=out.toList++rt y nb++rt a na:=by
 unfold hiD rt;simp
theorem Zu0{out:Array Keyed}{nb:Nat}:(hiF a y out na nb).toList.reverse=out.toList++rt a na++rt y nb:=by
 unfold hiF rt;simp
include hl in
theorem sk0{out:Array Keyed}{nb:Nat}(M:Mg b (vm cmp) (a.toList++y.toList) out.toList (rt a na) (rt y nb))(h:nb=1)(hy:0<y.size):Md cmp (a.toList++y.toList) (hiF a y out na nb).toList:=by
 refine Md.rev ?_;rw[Zu0];subst h;have e:=R6 (c:=y) (n:=1) (by omega) (by omega);rw[show rt y (1 - 1)=[] from rfl] at e;rw[e] at M ⊢;exact M.flip.last λz hz=>hl z (Yo0 hz) _ (C8 y 0 hy)
theorem nt0{out:Array Keyed}{nb:Nat}(M:Mg b (vm cmp) (a.toList++y.toList) out.toList (rt a na) (rt y nb))(h:na=0∨nb=0):Md cmp (a.toList++y.toList) (hiD a y out na nb).toList:=by
 refine Md.rev ?_;rw[Xk0];rcases h with rfl|rfl
 ·rw[show rt a 0=[] from rfl] at M ⊢
  rw[List.append_nil];exact M.endB
 ·rw[show rt y 0=[] from rfl] at M ⊢
  rw[List.append_nil];exact M.endA
include C in
theorem f00{mg:Nat}{out:Array Keyed}{nb:Nat}(hs:Sm st t)(L:Hi b cmp a y n out na nb)(hc:∀x z,a[na - 1]?=some x->y[nb - 1]?=some z->cmp z x=true):wpS (model P w) A E s (hi3 a y mg ac bc out na nb) (Ov7 b cmp a y (n+1) st) t:=by
 have h1:=L.na;have J:=L.na';have h2:=L.nb;have F:=L.nb';have M:=L.mg;rw[R6 (c:=a) h1 J,R6 (c:=y) (n:=nb) (by omega) F] at M;have M2:=Mg.move (vtr C) (l1:=[a[na - 1]]) (l2:=rt a (na - 1)) M λx hx=>by
  rw[List.mem_singleton] at hx;subst hx;exact hc _ _ (C8 a (na - 1) (by omega)) (C8 y (nb - 1) (by omega))
 rw[← R6 (c:=y) (n:=nb) (by omega) F,← Array.toList_push] at M2;unfold hi3;rw[elem'_eq,getElem?_pos a (na - 1) (by omega)];refine A3 (A2 ?_);split
 ·rename_i e
  exact A2 ⟨hs,nt0 M2 (.inl (by simpa using e))⟩
 ·rename_i e
  have L2:Hi b cmp a y (n+1) (out.push a[na - 1]) (na - 1) nb:=⟨M2,by omega,F,by have:=U9 e;omega,h2,by rw[Array.size_push];have:=L.n;omega⟩;split
  ·exact A2 ⟨hs,L2⟩
  ·exact A2 ⟨hs,rfl,L2⟩
include hl C hk in
theorem fn0{mg:Nat}{out:Array Keyed}{nb:Nat}(hs:Sm st t)(L:Hi b cmp a y n out na nb)(hc:∀x z,a[na - 1]?=some x->y[nb - 1]?=some z->cmp x z=true):wpS (model P w) A E s (hi2 a y mg ac bc out na nb) (Ov7 b cmp a y (n+1) st) t:=by
 have h1:=L.na;have F:=L.na';have h2:=L.nb;have O:=L.nb';have M:=L.mg;rw[R6 (c:=a) h1 F,R6 (c:=y) (n:=nb) (by omega) O] at M;have M2:=(Mg.move (vtr C) (l1:=[y[nb - 1]]) (l2:=rt y (nb - 1)) M.flip λx hx=>by
  rw[List.mem_singleton] at hx;subst hx;exact hc _ _ (C8 a (na - 1) (by omega)) (C8 y (nb - 1) (by omega))).flip
 have mk:a[na - 1]∈b.toList:=M.ma A5;rw[← Array.toList_push] at M2;unfold hi2;rw[elem'_eq,getElem?_pos y (nb - 1) (by omega)];refine A3 (A2 ?_);split
 ·rename_i e
  rw[← R6 (c:=a) h1 F] at M2;exact A2 ⟨hs,sk0 hl M2 (by simpa using e) (by omega)⟩
 ·rename_i e
  have e':=U9 e;rw[elem'_eq,getElem?_pos a (na - 1) (by omega)];refine A3 (A2 (A3 (qb0 C (hs.kd.trans hk) mk (y.toList.take (nb - 1)) (λi hi=>?_) (by rw[List.length_take,Array.length_toList];omega) (λx hx=>?_) ?_ (by omega) λl1 l2 h hb ha=>?_)))
  ·rw[Nat.zero_add,List.getElem?_take_of_lt hi]
   simp
  ·have hx:x∈rt y (nb - 1):=L8.mpr hx
   exact⟨M2.mb hx,λz=>M2.ne A5 hx z.symm⟩
  ·have:=M2.sb
   rw[List.pairwise_append] at this;exact i9.mp this.2.1
  ·dsimp only
   obtain⟨x1,x2,x3,x4⟩:=c40 (out:=out.push y[nb - 1]) h (by omega);rw[x4] at M2;have M3:=(Mg.move (vtr C) M2.flip λx hx=>ha x (L8.mp hx)).flip;rw[← x1,← x2,← R6 (c:=a) h1 F] at M3;split
   ·rename_i hz
    split
    ·rename_i e2
     exact A2 ⟨hs,sk0 hl M3 (by simpa using e2) (by omega)⟩
    ·split
     ·rename_i e2
      exact A2 ⟨hs,nt0 M3 (.inr (by simpa using e2))⟩
     ·rename_i e2 e3
      have e2:=U9 e2;have e3:=U9 e3;refine f00 C hs ⟨M3,F,by omega,h1,by omega,by rw[← Array.length_toList,x1,List.length_append,Array.length_toList,Array.size_push];have:=L.n;omega⟩ λx z hx J=>?_
      rw[getElem?_pos a (na - 1) (by omega)] at hx;cases hx;refine hb z ?_;rw[getElem?_pos y _ (by omega)] at J;cases J;rw[← List.mem_reverse,← x2,R6 (by omega) (by omega)];exact A5
   ·rename_i hz
    have:l2=[]:=O0 (by omega);subst this;rw[← x4,← R6 (c:=a) h1 F] at M2;refine f00 C hs ⟨M2,F,by omega,h1,by omega,by rw[Array.size_push];have:=L.n;omega⟩ λx z hx J=>?_
    rw[getElem?_pos a (na - 1) (by omega)] at hx;cases hx;refine hb z ?_;rw[getElem?_pos y _ (by omega)] at J;cases J;rw[← List.mem_reverse,← x2,show l1.length=nb - 1 from x3,R6 (by omega) (by omega)];exact A5
include hl C hk in
theorem g90{mg:Nat}{out:Array Keyed}{nb:Nat}(hs:Sm st t)(L:Hi b cmp a y n out na nb):wpS (model P w) A E s (hi1 a y mg ac bc out na nb) (Ov7 b cmp a y (n+1) st) t:=by
 have h1:=L.na;have O:=L.na';have h2:=L.nb;have J:=L.nb';have M:=L.mg;rw[R6 (c:=y) (n:=nb) (by omega) J] at M;have mk:y[nb - 1]∈b.toList:=M.mb A5;unfold hi1;refine A3 (D7 ?_);have hs:=hs.gal mg;rw[elem'_eq,getElem?_pos y (nb - 1) (by omega)];refine A3 (A2 (A3 (qb0 C (hs.kd.trans hk) mk (a.toList.take na) (λi hi=>?_) (by rw[List.length_take,Array.length_toList];omega) (λx hx=>?_) ?_ (by omega) λl1 l2 h hb ha=>?_)))
 ·rw[Nat.zero_add,List.getElem?_take_of_lt hi]
  simp
 ·have hx:x∈rt a na:=L8.mpr hx
  exact⟨M.ma hx,M.ne hx A5⟩
 ·have:=M.sa
  rw[List.pairwise_append] at this;exact i9.mp this.2.1
 ·dsimp only
  obtain⟨x1,x2,x3,x4⟩:=c40 (out:=out) h (by omega);rw[x4] at M;have M3:=Mg.move (vtr C) M λx hx=>ha x (L8.mp hx)
  rw[← x1,← x2,← R6 (c:=y) (n:=nb) (by omega) J] at M3;split
  ·rename_i hz
   split
   ·rename_i e2
    exact A2 ⟨hs,nt0 M3 (.inl (by simpa using e2))⟩
   ·rename_i e2
    have e2:=U9 e2;refine fn0 C hk hl hs ⟨M3,by omega,J,by omega,h2,by rw[← Array.length_toList,x1,List.length_append,Array.length_toList];have:=L.n;omega⟩ λx z hx F=>?_
    rw[getElem?_pos y (nb - 1) (by omega)] at F;cases F;refine hb x ?_;rw[getElem?_pos a _ (by omega)] at hx;cases hx;rw[← List.mem_reverse,← x2,R6 (by omega) (by omega)];exact A5
  ·rename_i hz
   have:l2=[]:=O0 (by omega);subst this;refine fn0 C hk hl hs L λx z hx F=>?_
   rw[getElem?_pos y (nb - 1) (by omega)] at F;cases F;refine hb x ?_;rw[getElem?_pos a _ (by omega)] at hx;cases hx;rw[← List.mem_reverse,← x2,show l1.length=na from x3,R6 (by omega) (by omega)];exact A5
theorem Hi.le{out:Array Keyed}{nb:Nat}(h:Hi b cmp a y n out na nb)(k:m<=n):Hi b cmp a y m out na nb:=⟨h.mg,h.na',h.nb',h.na,h.nb,C2 k h.n⟩
theorem Hi.lt{out:Array Keyed}{nb:Nat}(h:Hi b cmp a y n out na nb):n<a.size+y.size:=by
 have h1:=h.mg.pm.length_eq;have h2:=h.na;have F:=h.na';have h3:=h.nb;have h4:=h.n;unfold rt at h1;simp only[List.length_append,List.length_reverse,List.length_take,Array.length_toList] at h1;omega
include hl C hk in
theorem mergeHi(h0:0<y.size)(h1:0<a.size)(M:Mg b (vm cmp) (a.toList++y.toList) [a[a.size - 1]] (rt a (a.size - 1)) (rt y y.size)){Q:Array Keyed->SortSt->Prop}
  (k:∀r t,Sm st t->Md cmp (a.toList++y.toList) r.toList->Q r t):wpS (model P w) A E s (s70 a y) Q st:=by
 rw[lx0];refine A3 (N3 (D5 ⟨rfl,?_⟩));dsimp only;rw[elem'_eq,getElem?_pos a (a.size - 1) (by omega)];refine A3 (A2 ?_);have M':Mg b (vm cmp) (a.toList++y.toList) (#[a[a.size - 1]]:Array Keyed).toList (rt a (a.size - 1)) (rt y y.size):=M
 by_cases e1:(a.size - 1==0)=true
 ·rw[if_pos e1]
  exact A2 (k _ _ (Sm.refl st) (nt0 (nb:=y.size) M' (.inl (by simpa using e1))))
 rw[if_neg e1]
 by_cases e2:(y.size==1)=true
 ·rw[if_pos e2]
  exact A2 (k _ _ (Sm.refl st) (sk0 hl (nb:=y.size) M' (by simpa using e2) h0))
 rw[if_neg e2];have L0:Hi b cmp a y (1+0) #[a[a.size - 1]] (a.size - 1) y.size:=⟨M',by omega,A4 _,by have:=U9 e1;omega,by have:=U9 e2;omega,A4 1⟩;refine A3 (D4 ?_);refine A3 (C0 (C5 (I:=λx c t=>Sm st t/\c.1=none/\Hi b cmp a y (1+x) c.2.2.2.1 c.2.1 c.2.2.1)
  (Q:=λc t=>Sm st t/\∃r,c.1=some r/\Md cmp (a.toList++y.toList) r.toList) (λx c t _ hx hI=>?_) (λc t hI=>?_) ⟨Sm.refl st,rfl,L0⟩) λc t hI=>?_)
 ·obtain⟨hs,_,L⟩:=hI
  refine A3 (C0 (C5 (I:=λx' c t=>Sm st t/\c.1=none/\Hi b cmp a y (1+x+x') c.2.2.2.1 c.2.1 c.2.2.1)
   (Q:=λc t=>Sm st t/\Ov b cmp a y (1+x) c.1 c.2.2.2.1 c.2.1 c.2.2.1) (λx' c' t _ Z hI=>?_) (λc t hI=>?_) ⟨hs,rfl,L⟩) λc' t hI=>?_)
  ·obtain⟨o,na,nb,F,ac,bc⟩:=c'
   obtain⟨hs,_,L⟩:=hI;have L:Hi b cmp a y (1+x+x') F na nb:=L;dsimp only;have h1:=L.na;have J:=L.na';have h2:=L.nb;have Y:=L.nb';have M:=L.mg;rw[R6 (c:=a) h1 J,R6 (c:=y) (n:=nb) (by omega) Y] at M;have m1:a[na - 1]∈b.toList:=M.ma A5;have m2:y[nb - 1]∈b.toList:=M.mb A5;rw[elem'_eq,getElem?_pos y (nb - 1) (by omega),elem'_eq,getElem?_pos a (na - 1) (by omega)];refine A3 (A2 (A3 (A2 (A3 (C.ask _ _ _ _ (hs.kd.trans hk) m2 m1 ?_)))));dsimp only;cases hc:cmp y[nb - 1] a[na - 1] with
   | true =>
    have M2:=Mg.move (vtr C) (l1:=[a[na - 1]]) (l2:=rt a (na - 1)) M λx hx=>by
     rw[List.mem_singleton] at hx;subst hx;exact hc
    rw[← R6 (c:=y) (n:=nb) (by omega) Y,← Array.toList_push] at M2;rw[if_pos rfl];refine A3 (A2 ?_)
    by_cases e:(na - 1==0)=true
    ·rw[if_pos e]
     exact A2 ⟨hs,nt0 M2 (.inl (by simpa using e))⟩
    ·rw[if_neg e]
     have L2:Hi b cmp a y (1+x+(x'+1)) (F.push a[na - 1]) (na - 1) nb:=⟨M2,by omega,Y,by have:=U9 e;omega,h2,by rw[Array.size_push];have:=L.n;omega⟩
     by_cases g:ac+1 ≥ c.2.2.2.2
     ·rw[if_pos g]
      exact A2 ⟨hs,L2.le (by omega)⟩
     ·rw[if_neg g]
      exact A2 ⟨hs,rfl,L2⟩
   | false =>
    have M2:=(Mg.move (vtr C) (l1:=[y[nb - 1]]) (l2:=rt y (nb - 1)) M.flip λx hx=>by
     rw[List.mem_singleton] at hx;subst hx;exact C.to _ m1 _ m2 (M.ne A5 A5) hc).flip
    rw[← R6 (c:=a) h1 J,← Array.toList_push] at M2;rw[if_neg (by decide)];refine A3 (A2 ?_)
    by_cases e:(nb - 1==1)=true
    ·rw[if_pos e]
     exact A2 ⟨hs,sk0 hl M2 (by simpa using e) (by omega)⟩
    ·rw[if_neg e]
     have L2:Hi b cmp a y (1+x+(x'+1)) (F.push y[nb - 1]) na (nb - 1):=⟨M2,J,by omega,h1,by have:=U9 e;omega,by rw[Array.size_push];have:=L.n;omega⟩
     by_cases g:bc+1 ≥ c.2.2.2.2
     ·rw[if_pos g]
      exact A2 ⟨hs,L2.le (by omega)⟩
     ·rw[if_neg g]
      exact A2 ⟨hs,rfl,L2⟩
  ·obtain⟨o,na,nb,F,ac,bc⟩:=c
   obtain⟨hs,e,L⟩:=hI;cases e;exact⟨hs,L.le (by omega)⟩
  ·obtain⟨o,na,nb,F,ac,bc⟩:=c'
   obtain⟨hs,O⟩:=hI;cases o with
   | some r=>exact A2 ⟨hs,r,rfl,O⟩
   | none =>
    have L:Hi b cmp a y (1+x) F na nb:=O;dsimp only;refine A3 (N3 (D5 ⟨rfl,?_⟩));refine A3 (C0 (C5 (I:=λx' c t=>Sm st t/\c.1=none/\Hi b cmp a y (1+x+x') c.2.2.2.1 c.2.1 c.2.2.1)
     (Q:=λc t=>Sm st t/\Ov b cmp a y (1+x+1) c.1 c.2.2.2.1 c.2.1 c.2.2.1) (λx' c' t _ Z hI=>?_) (λc t hI=>?_) ⟨hs,rfl,L⟩) λc' t hI=>?_)
    ·obtain⟨o,na,nb,F,mg,ac,bc⟩:=c'
     obtain⟨hs,_,L⟩:=hI;have go:∀(r:ForInStep Sv7) (t':SortSt),Ov7 b cmp a y (1+x+x'+1) st r t'->match r with|.done c=>Sm st t'/\Ov b cmp a y (1+x+1) c.1 c.2.2.2.1 c.2.1 c.2.2.1|.yield c=>Sm st t'/\c.1=none/\Hi b cmp a y (1+x+(x'+1)) c.2.2.2.1 c.2.1 c.2.2.1:=λr t' h=>by
      cases r with
      | yield c=>exact⟨h.1,h.2⟩
      | done c =>
       obtain⟨o,na,nb,F,mg,ac,bc⟩:=c;refine⟨h.1,?_⟩;cases o with
       | some r=>exact h.2
       | none=>exact Hi.le h.2 (by omega)
     dsimp only
     by_cases hg:mg > 1
     ·rw[if_pos hg]
      show wpS (model P w) A E s (hi1 a y (mg - 1) ac bc F na nb) _ t;refine C0 (g90 C hk hl (mg:=mg - 1) (ac:=ac) (bc:=bc) hs L) λr t' h=>?_
      have:=go r t' h;cases r<;>exact this
     ·rw[if_neg hg]
      show wpS (model P w) A E s (hi1 a y mg ac bc F na nb) _ t;refine C0 (g90 C hk hl (mg:=mg) (ac:=ac) (bc:=bc) hs L) λr t' h=>?_
      have:=go r t' h;cases r<;>exact this
    ·obtain⟨o,na,nb,F,mg,ac,bc⟩:=c
     obtain⟨hs,e,L⟩:=hI;cases e;exact⟨hs,L.le (by omega)⟩
    ·obtain⟨o,na,nb,F,mg,ac,bc⟩:=c'
     obtain⟨hs,O⟩:=hI;cases o with
     | some r=>exact A2 ⟨hs,r,rfl,O⟩
     | none=>exact A3 (D7 (A2 ⟨hs.gal _,rfl,O⟩))
 ·exact absurd hI.2.2.lt (by omega)
 ·obtain⟨o,na,nb,F,mg⟩:=c
  obtain⟨hs,r,e,O⟩:=hI;cases e;exact A2 (k _ _ hs O)
end
theorem le0(i:Nat):mergeAt' i=(do
 let s ← get
 let (some (sa,na,power),some (sb,nb,_)):=((pendingOf s)[i]?,(pendingOf s)[i+1]?)|unsupported "internal:list.sort.pending"
 set (setPending s (((pendingOf s).setIfInBounds i (sa,na+nb,power)).eraseIdxIfInBounds (i+1)))
 let some k ← O8 false (← elem' (arrOf s) sb) (arrOf s) sa na 0|return false
 let (sa,na):=(sa+k,na - k)
 if na==0 then return true
 let some nb ← O8 true (← elem' (arrOf s) (sa+na - 1)) (arrOf s) sb nb (nb - 1)|return false
 if nb==0 then return true
 let x:=(arrOf s).extract sa sb
 let y:=(arrOf s).extract sb (sb+nb)
 let merged ← if na<=nb then s60 x y else s70 x y
 modify λs=>setArr s (merged.toList.zipIdx.foldl (λa (p,j)=>a.setIfInBounds (sa+j) p) (arrOf s))
 return (failedOf (← get)).isNone):=rfl
theorem bw0{M:Model}{s:Shared}{σ:Type}{u:σ}{Q:PUnit->σ->Prop}{st:σ}(h:Q ⟨⟩ u):wpS M A E s (set u:StateT σ Sem PUnit) Q st:=by
 unfold wpS;rw[StateT.run_set];exact A1 ⟨rfl,h⟩
theorem put{sa:Nat}:∀(r:List Keyed) (n:Nat) (arr:Array Keyed) (Pr o S:List Keyed),arr.toList=Pr++o++S->o.length=r.length->Pr.length=sa+n->((r.zipIdx n).foldl (λa (p,j)=>a.setIfInBounds (sa+j) p) arr).toList=Pr++r++S
 | [],n,arr,Pr,o,S,h,ho,hp=>by
  rw[List.length_nil] at ho;rw[List.eq_nil_of_length_eq_zero ho] at h;exact h
 | p::r,n,arr,Pr,[],S,h,ho,hp=>by simp at ho
 | p::r,n,arr,Pr,q::o,S,h,ho,hp=>by
  rw[List.zipIdx_cons,List.foldl_cons];have e:(arr.setIfInBounds (sa+n) p).toList=(Pr++[p])++o++S:=by
   rw[Array.toList_setIfInBounds,h,← hp];simp
  rw[put r (n+1) _ (Pr++[p]) o S e (by simpa using ho) (by simp;omega)];simp
section
variable{P:Program}{w:World}{s:Shared}{b:Array Keyed}{κ:SortKind}{cmp:Keyed->Keyed->Bool}(C:Cn P w A E s b κ cmp){st:SortSt}
def Asc(cmp:Keyed->Keyed->Bool)(l:List Keyed):Prop:=l.Pairwise λx y=>cmp x y=true
theorem seg_at{arr:Array Keyed}{L0 l S:List Keyed}(h:arr.toList=L0++l++S)(hi:i<l.length):arr[L0.length+i]?=l[i]?:=by
 rw[← Array.getElem?_toList,h,List.append_assoc,List.getElem?_append_right (by omega),Nat.add_sub_cancel_left,List.getElem?_append_left hi]
theorem fm0{arr:Array Keyed}{L0 l S:List Keyed}(h:arr.toList=L0++l++S)(hi:i=L0.length)(hj:j=i+l.length):(arr.extract i j).toList=l:=by
 subst hj;rw[c00,h,hi,List.append_assoc,List.drop_left,List.take_left]
include C in
theorem gx0(hg:Gn b κ st){sa pw sb nb pq:Nat}{L0 la lb S:List Keyed}(e1:(pendingOf st)[i]?=some (sa,na,pw))(e2:(pendingOf st)[i+1]?=some (sb,nb,pq))(h:(arrOf st).toList=L0++la++lb++S)
  (h0:sa=L0.length) (h1:na=la.length) (h2:sb=sa+na) (h3:nb=lb.length) (p1:0<na) (p2:0<nb) (s1:Asc cmp la) (s2:Asc cmp lb) {Q:Bool->SortSt->Prop}
  (k:∀t m,Gn b κ t->pendingOf t=((pendingOf st).setIfInBounds i (sa,na+nb,pw)).eraseIdxIfInBounds (i+1)->(arrOf t).toList=L0++m++S->m.length=na+nb->Asc cmp m->Q true t):wpS (model P w) A E s (mergeAt' i) Q st:=by
 rw[le0];refine A3 (D4 ?_);rw[e1,e2];dsimp only;refine A3 (bw0 ?_);obtain⟨u,hu⟩:∃u,u=setPending st (((pendingOf st).setIfInBounds i (sa,na+nb,pw)).eraseIdxIfInBounds (i+1)):=⟨_,rfl⟩;rw[← hu];have uk:kindOf u=κ:=by rw[hu];exact hg.kd
 have ua:arrOf u=arrOf st:=by rw[hu]
 have uf:failedOf u=none:=by rw[hu];exact hg.fa
 have up:pendingOf u=((pendingOf st).setIfInBounds i (sa,na+nb,pw)).eraseIdxIfInBounds (i+1):=by rw[hu]
 have hT:∀x∈L0++la++lb++S,x∈b.toList:=λx hx=>(P7.mp hg.pm).mem_iff.mp (by rw[h];exact hx)
 have hN:(L0++la++lb++S).Nodup:=by
  rw[← h];exact(P7.mp hg.pm).nodup_iff.mpr C.nd
 have ma:∀x∈la,x∈b.toList:=λx hx=>hT x (by simp[hx])
 have mb:∀x∈lb,x∈b.toList:=λx hx=>hT x (by simp[hx])
 have a9:(la++lb).Nodup:=by
  refine D40 ?_ hN;rw[List.append_assoc L0 la lb];exact(D50 L0 (la++lb)).trans (D60 _ S)
 have ne:∀x∈la,∀y∈lb,x≠y:=λx hx y hy=>(x0.mp a9).2.2 x hx y hy
 obtain⟨b0,a6,eb⟩:∃b0 a6,lb=b0::a6:=by
  cases lb with
  | nil=>simp at h3;omega
  | cons x l=>exact⟨x,l,rfl⟩
 have b3:(arrOf st)[sb]?=some b0:=by
  have:=seg_at (arr:=arrOf st) (L0:=L0++la) (l:=lb) (S:=S) h (i:=0) (by omega);rw[List.length_append,Nat.add_zero,← h0,← h1,← h2,eb] at this;exact this
 have J:b0∈lb:=by rw[eb];exact A5
 rw[elem'_eq,b3];refine A3 (A2 (A3 (qb0 C uk (mb b0 J) la (λi hi=>?_) h1.symm (λx hx=>⟨ma x hx,ne x hx b0 J⟩) s1 p1 λl1 l2 hl hb ha=>?_)))
 ·have:=seg_at (arr:=arrOf st) (L0:=L0) (l:=la) (S:=lb++S) (by rw[h];simp) (i:=i) (by omega)
  rw[← h0] at this;exact this
 dsimp only;have b4:na=l1.length+l2.length:=by rw[h1,hl,List.length_append]
 have a3:Asc cmp (la++lb)->Q true u:=λz=>k _ (la++lb) ⟨uk,by rw[ua];exact hg.pm,uf⟩ up (by rw[ua,h];simp) (by rw[List.length_append,h1,h3]) z
 by_cases z1:(na - l1.length==0)=true
 ·rw[if_pos z1]
  have b8:na - l1.length=0:=by simpa using z1
  have:l2=[]:=O0 (by omega);subst this;rw[List.append_nil] at hl;subst hl;refine A2 (a3 ?_);refine N2.mpr ⟨s1,s2,λx hx y hy=>?_⟩;rw[eb] at hy;rcases B2.mp hy with rfl|a4
  ·exact hb x hx
  ·rw[eb] at s2
   exact C.tr x (ma x hx) b0 (mb b0 J) y (mb y (by rw[eb];exact hy)) (hb x hx) (i7 s2 a4)
 rw[if_neg z1];have b7:=U9 z1;have x2:l2≠[]:=λz=>by rw[z,List.length_nil] at b4;omega
 have ml:l2.getLast x2∈l2:=List.getLast_mem x2;have F:∀x∈l2,x∈la:=λx hx=>by rw[hl];exact C6 _ hx
 have b1:∀x∈l1,x∈la:=λx hx=>by rw[hl];exact E7 _ hx
 have a5:(arrOf st)[sa+l1.length+(na - l1.length) - 1]?=some (l2.getLast x2):=by
  have:=seg_at (arr:=arrOf st) (L0:=L0++l1) (l:=l2) (S:=lb++S) (by rw[h,hl];simp) (i:=l2.length - 1) (by omega);rw[List.length_append,← h0,List.getElem?_eq_getElem (by omega),← List.getLast_eq_getElem x2] at this;rw[← this];congr 1;omega
 have o1:Asc cmp l1/\Asc cmp l2/\∀x∈l1,∀y∈l2,cmp x y=true:=by
  have:=s1;rw[hl] at this;exact N2.mp this
 rw[elem'_eq,a5];refine A3 (A2 (A3 (qb0 C uk (ma _ (F _ ml)) lb (λi hi=>?_) h3.symm (λx hx=>⟨mb x hx,λz=>ne _ (F _ ml) x hx z.symm⟩) s2 (by omega) λm1 m2 hm a8 a2=>?_)))
 ·have:=seg_at (arr:=arrOf st) (L0:=L0++la) (l:=lb) (S:=S) h (i:=i) (by omega)
  rw[List.length_append,← h0,← h1,← h2] at this;exact this
 dsimp only;have b9:nb=m1.length+m2.length:=by rw[h3,hm,List.length_append]
 have b6:cmp b0 (l2.getLast x2)=true:=ha _ ml
 by_cases z2:(m1.length==0)=true
 ·exfalso
  have:m1=[]:=O0 (by simpa using z2);subst this;have:=a2 b0 (by rw[List.nil_append] at hm;rw[← hm];exact J);rw[C.as _ (mb b0 J) _ (ma _ (F _ ml)) b6] at this;cases this
 rw[if_neg z2];have b2:=U9 z2;have o2:Asc cmp m1/\Asc cmp m2/\∀x∈m1,∀y∈m2,cmp x y=true:=by
  have:=s2;rw[hm] at this;exact N2.mp this
 have Z:∀x∈m1,x∈lb:=λx hx=>by rw[hm];exact E7 _ hx
 have a0:∀x∈m2,x∈lb:=λx hx=>by rw[hm];exact C6 _ hx
 obtain⟨O,em⟩:∃O,m1=b0::O:=by
  cases m1 with
  | nil=>exact absurd rfl b2
  | cons x l =>
   rw[eb] at hm;injection hm with hm _
   exact⟨l,by rw[hm]⟩
 have ex:((arrOf st).extract (sa+l1.length) sb).toList=l2:=fm0 (L0:=L0++l1) (S:=lb++S) (by rw[h,hl];simp) (by rw[List.length_append,h0]) (by omega);have ey:((arrOf st).extract sb (sb+m1.length)).toList=m1:=fm0 (L0:=L0++la) (S:=m2++S) (by rw[h,hm];simp) (by rw[List.length_append,h2,h0,h1]) rfl;obtain⟨X,eX⟩:∃X,X=(arrOf st).extract (sa+l1.length) sb:=⟨_,rfl⟩;obtain⟨Y,eY⟩:∃Y,Y=(arrOf st).extract sb (sb+m1.length):=⟨_,rfl⟩;rw[← eX] at ex ⊢;rw[← eY] at ey ⊢;have sX:X.size=l2.length:=by rw[← ex,Array.length_toList]
 have sY:Y.size=m1.length:=by rw[← ey,Array.length_toList]
 have bl:∀x∈l1,∀y∈lb,cmp x y=true:=λx hx y hy=>by
  rw[eb] at hy;rcases B2.mp hy with rfl|a4
  ·exact hb x hx
  ·rw[eb] at s2
   exact C.tr x (ma x (b1 x hx)) b0 (mb b0 J) y (mb y (by rw[eb];exact hy)) (hb x hx) (i7 s2 a4)
 have b5:∀x∈l2,∀y∈m2,cmp x y=true:=λx hx y hy=>by
  rw[← List.dropLast_concat_getLast x2] at hx;rcases B4.mp hx with L|L
  ·have o:=o1.2.1
   rw[← List.dropLast_concat_getLast x2] at o;have:=(N2.mp o).2.2 x L _ (N9.mpr rfl);exact C.tr x (ma x (F x (List.dropLast_subset l2 L))) _ (ma _ (F _ ml)) y (mb y (a0 y hy)) this (a2 y hy)
  ·rw[List.mem_singleton] at L
   subst L;exact a2 y hy
 have fin:∀(r:Array Keyed) (t:SortSt),Sm u t->Md cmp (X.toList++Y.toList) r.toList->wpS (model P w) A E s (do
   modify λs=>setArr s (List.foldl (λa x=>a.setIfInBounds (sa+l1.length+x.snd) x.fst) (arrOf s) r.toList.zipIdx)
   let __do_lift ← get
   pure (failedOf __do_lift).isNone) Q t:=λr t hs hr=>by
  refine A3 (D7 (A3 (D4 (A2 ?_))));rw[ex,ey] at hr;have a7:r.toList.length=l2.length+m1.length:=by rw[hr.pm.length_eq,List.length_append]
  have a1:∀x,x∈r.toList->x∈l2∨x∈m1:=λx hx=>B4.mp (hr.pm.mem_iff.mp hx)
  have ep:=put (sa:=sa+l1.length) r.toList 0 (arrOf t) (L0++l1) (l2++m1) (m2++S) (by rw[hs.ar,ua,h,hl,hm];simp) (by rw[a7,List.length_append]) (by rw[List.length_append,h0];rfl);have ef:(failedOf (setArr t (List.foldl (λa x=>a.setIfInBounds (sa+l1.length+x.snd) x.fst) (arrOf t) r.toList.zipIdx))).isNone=true:=by
   show (failedOf t).isNone=true;rw[hs.fa,uf];rfl
  show Q (failedOf (setArr t (List.foldl (λa x=>a.setIfInBounds (sa+l1.length+x.snd) x.fst) (arrOf t) r.toList.zipIdx))).isNone _;rw[ef];refine k _ (l1++r.toList++m2) ⟨hs.kd.trans uk,?_,hs.fa.trans uf⟩ (hs.pe.trans up) ?_ ?_ ?_
  ·refine Array.Perm.trans ?_ hg.pm
   rw[Array.perm_iff_toList_perm];show (List.foldl (λa x=>a.setIfInBounds (sa+l1.length+x.snd) x.fst) (arrOf t) r.toList.zipIdx).toList.Perm _;refine(List.Perm.of_eq ep).trans ?_;rw[h,hl,hm];have:=(hr.pm.append_left (L0++l1)).append_right (m2++S);refine this.trans (List.Perm.of_eq (by simp))
  ·refine ep.trans (by simp)
  ·rw[List.length_append,List.length_append,a7];omega
  ·refine N2.mpr ⟨N2.mpr ⟨o1.1,hr.so,λx hx y hy=>?_⟩,o2.2.1,λx hx y hy=>?_⟩
   ·rcases a1 y hy with q|q
    ·exact o1.2.2 x hx y q
    ·exact bl x hx y (Z y q)
   ·rcases B4.mp hx with q|q
    ·exact bl x q y (a0 y hy)
    ·rcases a1 x q with q|q
     ·exact b5 x q y hy
     ·exact o2.2.2 x q y hy
 have mT:∀x∈X.toList++Y.toList,x∈b.toList:=λx hx=>by
  rw[ex,ey] at hx;rcases B4.mp hx with q|q
  ·exact ma x (F x q)
  ·exact mb x (Z x q)
 have nT:(X.toList++Y.toList).Nodup:=by
  rw[ex,ey];refine D40 ?_ a9;rw[hl,hm];exact(D50 l1 l2).append (D60 m1 m2)
 have y0:Y[0]'(by omega)=b0:=by
  have:Y.toList[0]?=some b0:=by rw[ey,em];rfl
  rw[Array.getElem?_toList,getElem?_pos Y 0 (by omega)] at this;injection this
 have xl:X[X.size - 1]'(by omega)=l2.getLast x2:=by
  have:X.toList[X.size - 1]?=some (l2.getLast x2):=by rw[ex,sX,List.getElem?_eq_getElem (by omega),← List.getLast_eq_getElem x2]
  rw[Array.getElem?_toList,getElem?_pos X _ (by omega)] at this;injection this
 by_cases hle:na - l1.length<=m1.length
 ·rw[if_pos hle]
  refine A3 (mergeLo C uk ?_ (by omega) (by omega) ⟨?_,?_,?_,mT,nT⟩ fin)
  ·intro z hz x hx
   rw[getElem?_pos X _ (by omega),xl] at hx;cases hx;rw[ey] at hz;exact a8 z hz
  ·rw[y0,ex,ey,em]
   show (b0::(l2++O)).Perm (l2++b0::O);exact List.perm_middle.symm
  ·rw[y0,ex]
   exact w4.mpr ⟨λx hx=>ha x hx,o1.2.1⟩
  ·rw[y0,ey,em]
   rw[em] at o2;exact o2.1
 ·rw[if_neg hle]
  refine A3 (mergeHi C uk ?_ (by omega) (by omega) ⟨?_,?_,?_,mT,nT⟩ fin)
  ·intro z hz x hx
   rw[getElem?_pos Y _ (by omega),y0] at hx;cases hx;rw[ex] at hz;exact ha z hz
  ·have:[X[X.size - 1]]++(rt X (X.size - 1)++rt Y Y.size)=rt X X.size++rt Y Y.size:=by
    rw[R6 (c:=X) (n:=X.size) (by omega) (A4 _)];rfl
   rw[this];unfold rt;rw[List.take_of_length_le (by simp),List.take_of_length_le (by simp)];exact(D80 _).append (D80 _)
  ·have:[X[X.size - 1]]++rt X (X.size - 1)=rt X X.size:=by
    rw[R6 (c:=X) (n:=X.size) (by omega) (A4 _)];rfl
   rw[this];unfold rt;rw[List.take_of_length_le (by simp),ex];exact i9.mpr o1.2.1
  ·rw[xl]
   unfold rt;rw[List.take_of_length_le (by simp),ey];refine w4.mpr ⟨λx hx=>a8 x (L8.mp hx),i9.mpr o2.1⟩
end
section
variable{P:Program}{w:World}{s:Shared}{b:Array Keyed}{κ:SortKind}{cmp:Keyed->Keyed->Bool}
structure Ro(b:Array Keyed)(κ:SortKind)(st:SortSt)(o:Nat)(t:SortSt):Prop where
 kd:kindOf t=κ
 pm:(arrOf t).Perm b
 fa:failedOf t=none
 pe:pendingOf t=pendingOf st
 ke:∀i,i<o->(arrOf t)[i]?=(arrOf st)[i]?
theorem Ro.sz{st t:SortSt}{o:Nat}(h:Ro b κ st o t):(arrOf t).size=b.size:=h.pm.size_eq
theorem Ro.el{st t:SortSt}{o:Nat}(h:Ro b κ st o t)(hi:i<b.size):∃x,(arrOf t)[i]?=some x/\x∈b.toList:=by
 have F:i<(arrOf t).size:=by rw[h.sz];exact hi
 exact⟨(arrOf t)[i],C8 _ i F,(P7.mp h.pm).mem_iff.mp (by simp)⟩
theorem Ro.mem{st t:SortSt}{o:Nat}(h:Ro b κ st o t){x:Keyed}(e:(arrOf t)[i]?=some x):x∈b.toList:=by
 obtain⟨hi,rfl⟩:=u8.mp e;exact(P7.mp h.pm).mem_iff.mp (by simp)
theorem Ro.ne{st t:SortSt}{o:Nat}(h:Ro b κ st o t)(hn:b.toList.Nodup){x y:Keyed}(e1:(arrOf t)[i]?=some x)(e2:(arrOf t)[j]?=some y)(hij:i<j):x≠y:=by
 have F:(arrOf t).toList.Nodup:=(P7.mp h.pm).nodup_iff.mpr hn;obtain⟨h1,rfl⟩:=u8.mp e1;obtain⟨h2,rfl⟩:=u8.mp e2;have:=E5.mp F i j (by simpa using h1) (by simpa using h2) hij
 simpa using this
def UpO(cmp:Keyed->Keyed->Bool)(xs:Array Keyed)(o n:Nat):Prop:=∀i j x y,i<j->j<n->xs[o+i]?=some x->xs[o+j]?=some y->cmp x y=true
def DnO(cmp:Keyed->Keyed->Bool)(xs:Array Keyed)(o n:Nat):Prop:=∀i j x y,i<j->j<n->xs[o+i]?=some x->xs[o+j]?=some y->cmp y x=true
variable(C:Cn P w A E s b κ cmp){st:SortSt}{o:Nat}
include C
theorem tb0{t:SortSt}(hr:Ro b κ st o t){x y:Keyed}(ei:(arrOf t)[i]?=some x)(ej:(arrOf t)[j]?=some y){Q:Option Bool->SortSt->Prop}(k:Q (some (cmp x y)) t):wpS (model P w) A E s (ltAt' i j) Q t:=by
 rw[ltAt'_eq];refine A3 (D4 ?_);show wpS _ _ _ _ (elem' (arrOf t) i>>=λx=>elem' (arrOf t) j>>=λy=>lt' x y) Q t;rw[elem'_eq,elem'_eq,ei,ej];exact A3 (A2 (A3 (A2 (C.ask _ _ _ _ hr.kd (hr.mem ei) (hr.mem ej) k))))
theorem mr0{t:SortSt}(hr:Ro b κ st o t)(h1:1<=n)(h:UpO cmp (arrOf t) o n){u v:Keyed}(eu:(arrOf t)[o+n - 1]?=some u)(ev:(arrOf t)[o+n]?=some v)(huv:cmp u v=true):UpO cmp (arrOf t) o (n+1):=λi j x y F hj ex ey=>by
 by_cases hjn:j<n
 ·exact h i j x y F hjn ex ey
 ·have:j=n:=by omega
  subst this;rw[ev] at ey;cases ey;rw[show o+j - 1=o+(j - 1) by omega] at eu
  by_cases hi:i=j - 1
  ·subst hi;rw[eu] at ex;cases ex;exact huv
  ·exact C.tr x (hr.mem ex) u (hr.mem eu) v (hr.mem ev) (h i (j - 1) x u (by omega) (by omega) ex eu) huv
theorem di0{t:SortSt}(hr:Ro b κ st o t)(h1:1<=n)(h:DnO cmp (arrOf t) o n){u v:Keyed}(eu:(arrOf t)[o+n - 1]?=some u)(ev:(arrOf t)[o+n]?=some v)(huv:cmp v u=true):DnO cmp (arrOf t) o (n+1):=λi j x y F hj ex ey=>by
 by_cases hjn:j<n
 ·exact h i j x y F hjn ex ey
 ·have:j=n:=by omega
  subst this;rw[ev] at ey;cases ey;rw[show o+j - 1=o+(j - 1) by omega] at eu
  by_cases hi:i=j - 1
  ·subst hi;rw[eu] at ex;cases ex;exact huv
  ·exact C.tr v (hr.mem ev) u (hr.mem eu) x (hr.mem ex) huv (h i (j - 1) x u (by omega) (by omega) ex eu)
theorem U60{t:SortSt}(hr:Ro b κ st o t)(hm:o+m<=b.size)(h1:1<=m){Q:Option Nat->SortSt->Prop}
  (k:∀r t,Ro b κ st o t->1<=r->r<=m->UpO cmp (arrOf t) o r->Q (some r) t):wpS (model P w) A E s (countRun' o m) Q t:=by
 rw[countRun'_eq];dsimp only;refine A3 (C0 (C5 (I:=λx c t'=>t'=t/\c=(none,x)/\UpO cmp (arrOf t) o x)
  (Q:=λc t'=>t'=t/\∃n,c=(none,n)/\1<=n/\n<=m/\UpO cmp (arrOf t) o n/\(n=m∨∃u v,(arrOf t)[o+n - 1]?=some u/\(arrOf t)[o+n]?=some v/\cmp v u=true)) (λx c t' J Y hI=>?_) (λc t' hI=>?_) ⟨rfl,rfl,λi j x y a c _ _=>by omega⟩) λc t' hI=>?_)
 ·obtain⟨e1,e2,F⟩:=hI
  subst e1;subst e2;obtain⟨v,ev,mv⟩:=hr.el (i:=o+x) (by omega);obtain⟨u,eu,mu⟩:=hr.el (i:=o+x - 1) (by omega);refine A3 (tb0 C hr ev eu ?_);cases hc:cmp v u with
  | true=>exact A2 ⟨rfl,x,rfl,J,by omega,F,.inr ⟨u,v,eu,ev,hc⟩⟩
  | false=>exact A2 ⟨rfl,rfl,mr0 C hr (by omega) F eu ev (C.to u mu v mv (hr.ne C.nd eu ev (by omega)) hc)⟩
 ·obtain⟨e1,e2,F⟩:=hI
  subst e1;subst e2;have e:max 1 m=m:=by omega
  rw[e] at F ⊢;exact⟨rfl,m,rfl,h1,A4 _,F,.inl rfl⟩
 obtain⟨e1,n,e2,n1,n2,hu,a1⟩:=hI;subst e1;subst e2;dsimp only
 by_cases hnm:n=m
 ·rw[if_pos (by rw[hnm];simp)]
  exact A2 (k n _ hr n1 n2 hu)
 rw[if_neg (by simpa using hnm)];obtain⟨u,v,eu,ev,hc⟩:=a1.resolve_left hnm
 by_cases hg1:n > 1
 ·rw[if_pos hg1]
  obtain⟨x,ex,mx⟩:=hr.el (i:=o) (by omega);refine A3 (tb0 C hr ex eu ?_);rw[hu 0 (n - 1) x u (by omega) (by omega) ex (by rw[← eu];congr 1;omega)];exact A2 (k n _ hr n1 n2 hu)
 rw[if_neg hg1];have:n=1:=by omega
 subst this;refine A3 (N3 (D5 ⟨rfl,?_⟩));have d2:DnO cmp (arrOf t') o (1+1):=λi j x y a0 hj ex ey=>by
  have hi:i=0:=by omega
  have Z:j=1:=by omega
  subst hi;subst Z;rw[show o+1 - 1=o+0 by omega,ex] at eu;rw[ey] at ev;cases eu;cases ev;exact hc
 refine A3 (C0 (C5 (I:=λx c t=>t=t'/\c=(none,x,0)/\DnO cmp (arrOf t') o x)
  (Q:=λc t=>t=t'/\∃n,c=(none,n,0)/\2<=n/\n<=m/\DnO cmp (arrOf t') o n) (λx c t J Y hI=>?_) (λc t hI=>?_) ⟨rfl,rfl,d2⟩) λc t hI=>?_)
 ·obtain⟨e1,e2,F⟩:=hI
  subst e1;subst e2;obtain⟨v,ev,mv⟩:=hr.el (i:=o+x) (by omega);obtain⟨u,eu,mu⟩:=hr.el (i:=o+x - 1) (by omega);refine A3 (tb0 C hr ev eu ?_);cases hc:cmp v u with
  | true =>
   dsimp only;rw[if_pos rfl,if_neg (by omega)];exact A2 ⟨rfl,rfl,di0 C hr (by omega) F eu ev hc⟩
  | false =>
   dsimp only;rw[if_neg (by simp)];refine A3 (tb0 C hr eu ev ?_);rw[C.to u mu v mv (hr.ne C.nd eu ev (by omega)) hc];exact A2 ⟨rfl,x,rfl,by omega,by omega,F⟩
 ·obtain⟨e1,e2,F⟩:=hI
  subst e1;subst e2;have e:max (1+1) m=m:=by omega
  rw[e] at F ⊢;exact⟨rfl,m,rfl,by omega,A4 _,F⟩
 obtain⟨e1,n,e2,n1,n2,hd⟩:=hI;subst e1;subst e2;dsimp only;rw[if_neg (by omega),reverseSlice'_eq];refine A3 (D7 ?_);have a2:o+n<=(arrOf t).size:=by rw[hr.sz];omega
 have L:∀i,(mirror (arrOf t) o (o+n) ((o+n - o)/2))[i]?=if o<=i/\i<o+n then (arrOf t)[o+(o+n) - 1 - i]? else (arrOf t)[i]?:=λi=>by
  rw[getElem?_mirror_all a2]
 have g2:Ro b κ st o (setArr t (mirror (arrOf t) o (o+n) ((o+n - o)/2))):=⟨hr.kd,(mirror_perm _ _ _ _).trans hr.pm,hr.fa,hr.pe,λi hi=>by
  show (mirror (arrOf t) o (o+n) ((o+n - o)/2))[i]?=_;rw[L,if_neg (by omega)];exact hr.ke i hi⟩
 obtain⟨t2,O⟩:∃t2,t2=setArr t (mirror (arrOf t) o (o+n) ((o+n - o)/2)):=⟨_,rfl⟩;show wpS _ _ _ _ _ _ (setArr t (mirror (arrOf t) o (o+n) ((o+n - o)/2)));rw[← O] at g2 ⊢;have a3:UpO cmp (arrOf t2) o n:=λi j x y a0 hj ex ey=>by
  rw[O] at ex ey;have ex:(mirror (arrOf t) o (o+n) ((o+n - o)/2))[o+i]?=some x:=ex;have ey:(mirror (arrOf t) o (o+n) ((o+n - o)/2))[o+j]?=some y:=ey;rw[L,if_pos (by omega)] at ex ey;exact hd (n - 1 - j) (n - 1 - i) y x (by omega) (by omega) (by rw[← ey];congr 1;omega) (by rw[← ex];congr 1;omega)
 refine A3 (C0 (C5 (I:=λx c t'=>t'=t2/\c=(none,x)/\UpO cmp (arrOf t2) o x)
  (Q:=λc t'=>t'=t2/\∃n,c=(none,n)/\1<=n/\n<=m/\UpO cmp (arrOf t2) o n) (λx c t' J Y hI=>?_) (λc t' hI=>?_) ⟨rfl,rfl,a3⟩) λc t' hI=>?_)
 ·obtain⟨e1,e2,F⟩:=hI
  subst e1;subst e2;obtain⟨v,ev,mv⟩:=g2.el (i:=o+x) (by omega);obtain⟨u,eu,mu⟩:=g2.el (i:=o+x - 1) (by omega);refine A3 (tb0 C g2 ev eu ?_);cases hc:cmp v u with
  | true=>exact A2 ⟨rfl,x,rfl,by omega,by omega,F⟩
  | false=>exact A2 ⟨rfl,rfl,mr0 C g2 (by omega) F eu ev (C.to u mu v mv (g2.ne C.nd eu ev (by omega)) hc)⟩
 ·obtain⟨e1,e2,F⟩:=hI
  subst e1;subst e2;have e:max n m=m:=by omega
  rw[e] at F ⊢;exact⟨rfl,m,rfl,h1,A4 _,F⟩
 obtain⟨e1,n,e2,n1,n2,hu⟩:=hI;subst e1;subst e2;exact A2 (k n _ g2 n1 n2 hu)
theorem Uc0{a:Nat}{t:SortSt}(hr:Ro b κ st o t)(hn:o+n<=b.size)(ha:a<=n)(hu:UpO cmp (arrOf t) o a){Q:Bool->SortSt->Prop}
  (k:∀t,Ro b κ st o t->UpO cmp (arrOf t) o n->Q true t):wpS (model P w) A E s (binarySort' o n a) Q t:=by
 rw[binarySort'_eq];refine A3 (C0 (C5 (I:=λx c t=>c=(none,())/\Ro b κ st o t/\UpO cmp (arrOf t) o (min x n)) (Q:=λc t=>c=(none,())/\Ro b κ st o t/\UpO cmp (arrOf t) o n) (λx c t a0 a1 hI=>?_) (λc t hI=>?_) ⟨rfl,hr,?_⟩) λc t hI=>?_)
 ·obtain⟨e1,g2,u2⟩:=hI
  subst e1;have ex:min x n=x:=by omega
  rw[ex] at u2;have hx:o+x<b.size:=by omega
  obtain⟨v,ev,mv⟩:=g2.el hx;refine A3 (C0 (C5 (I:=λy c t2=>t2=t/\∃l r,c=(none,l,r)/\l<=r/\r<=x/\r - l<=x - y/\(∀i z,i<l->(arrOf t)[o+i]?=some z->cmp z v=true)/\∀i z,r<=i->i<x->(arrOf t)[o+i]?=some z->cmp v z=true)
   (Q:=λc t2=>t2=t/\∃l r,c=(none,l,r)/\l<=x/\(∀i z,i<l->(arrOf t)[o+i]?=some z->cmp z v=true)/\∀i z,l<=i->i<x->(arrOf t)[o+i]?=some z->cmp v z=true) (λy c t2 _ a3 hJ=>?_) (λc t2 hJ=>?_)
   ⟨rfl,0,x,rfl,by omega,by omega,by omega,λi z hi=>by omega,λi z h1 h2=>by omega⟩) λc t2 hJ=>?_)
  ·obtain⟨e1,l,r,e2,Z,F,hm,lo,hi⟩:=hJ
   subst e1;subst e2;dsimp only
   by_cases hge:l ≥ r
   ·rw[if_pos hge]
    have:l=r:=by omega
    subst this;exact A2 ⟨rfl,l,l,rfl,F,lo,hi⟩
   ·rw[if_neg hge]
    obtain⟨u,eu,mu⟩:=g2.el (i:=o+(l+r)/2) (by omega);refine A3 (tb0 C g2 ev eu ?_);cases hc:cmp v u with
    | true =>
     refine A2 ⟨rfl,l,(l+r)/2,rfl,by omega,by omega,by omega,lo,λi z h1 h2 ez=>?_⟩
     by_cases q:i=(l+r)/2
     ·subst q;rw[eu] at ez;cases ez;exact hc
     ·exact C.tr v mv u mu z (g2.mem ez) hc (u2 _ i u z (by omega) (by omega) eu ez)
    | false =>
     have L:=C.to u mu v mv (g2.ne C.nd eu ev (by omega)) hc;refine A2 ⟨rfl,(l+r)/2+1,r,rfl,by omega,by omega,by omega,λi z h1 ez=>?_,hi⟩
     by_cases q:i=(l+r)/2
     ·subst q;rw[eu] at ez;cases ez;exact L
     ·exact C.tr z (g2.mem ez) u mu v mv (u2 i _ z u (by omega) (by omega) ez eu) L
  ·obtain⟨e1,l,r,e2,Z,F,hm,lo,hi⟩:=hJ
   subst e1;subst e2;have:l=r:=by omega
   subst this;exact⟨rfl,l,l,rfl,F,lo,hi⟩
  ·obtain⟨e1,l,r,e2,a2,lo,hi⟩:=hJ
   subst e1;subst e2;show wpS _ _ _ _ (do moveDown' (o+x) (o+l);pure (ForInStep.yield (none,()))) _ _;rw[moveDown'_eq];have Y:o+x<(arrOf t2).size:=by rw[g2.sz];exact hx
   have O:∀i,(bubble (arrOf t2) (o+x) (o+x - (o+l)))[i]?=if i=o+l then some v else if o+l<i/\i<=o+x then (arrOf t2)[i - 1]? else (arrOf t2)[i]?:=λi=>by
    rw[getElem?_bubble Y _ (by omega),show o+x - (o+x - (o+l))=o+l by omega,ev]
   refine A3 (D7 (A2 ⟨rfl,⟨g2.kd,(bubble_perm _ _ _).trans g2.pm,g2.fa,g2.pe,λi hi=>?_⟩,?_⟩))
   ·show (bubble (arrOf t2) (o+x) (o+x - (o+l)))[i]?=_
    rw[O,if_neg (by omega),if_neg (by omega)];exact g2.ke i hi
   have e3:min (x+1) n=x+1:=by omega
   rw[e3];intro i j y z J hj ey ez;have ey:(bubble (arrOf t2) (o+x) (o+x - (o+l)))[o+i]?=some y:=ey;have ez:(bubble (arrOf t2) (o+x) (o+x - (o+l)))[o+j]?=some z:=ez;rw[O] at ey ez
   by_cases q1:j=l
   ·rw[if_pos (by omega)] at ez
    rw[if_neg (by omega),if_neg (by omega)] at ey;cases ez;exact lo i y (by omega) ey
   ·rw[if_neg (by omega)] at ez
    by_cases q2:i=l
    ·rw[if_pos (by omega)] at ey
     rw[if_pos ⟨by omega,by omega⟩,show o+j - 1=o+(j - 1) by omega] at ez;cases ey;exact hi (j - 1) z (by omega) (by omega) ez
    ·rw[if_neg (by omega)] at ey
     by_cases q3:l<i
     ·rw[if_pos ⟨by omega,by omega⟩,show o+i - 1=o+(i - 1) by omega] at ey
      rw[if_pos ⟨by omega,by omega⟩,show o+j - 1=o+(j - 1) by omega] at ez;exact u2 (i - 1) (j - 1) y z (by omega) (by omega) ey ez
     ·rw[if_neg (by omega)] at ey
      by_cases q4:l<j
      ·rw[if_pos ⟨by omega,by omega⟩,show o+j - 1=o+(j - 1) by omega] at ez
       exact u2 i (j - 1) y z (by omega) (by omega) ey ez
      ·rw[if_neg (by omega)] at ez
       exact u2 i j y z J (by omega) ey ez
 ·obtain⟨hc,g2,u2⟩:=hI
  refine⟨hc,g2,?_⟩
  rwa [show min (max (max a 1) n) n=n by omega] at u2
 ·intro i j x y J hj ex ey
  exact hu i j x y J (by omega) ex ey
 ·obtain⟨e1,g2,u2⟩:=hI
  subst e1;exact A2 (k t g2 u2)
end
def Rn(cmp:Keyed->Keyed->Bool):Nat->List (Nat×Nat×Nat)->List (List Keyed)->Prop
 | _,[],[]=>True
 | o,p::ps,r::rs=>p.1=o/\p.2.1=r.length/\0<r.length/\Asc cmp r/\Rn cmp (o+r.length) ps rs
 | _,_,_=>False
section
variable{cmp:Keyed->Keyed->Bool}
theorem X30{p:Prop}[Decidable p]{k:Nat}(h1:m+1<k)(h2:n+1<k):(if p then m else n)+1<k:=by split<;>assumption
theorem mm0:∀{ps:List (Nat×Nat×Nat)} {rs:List (List Keyed)} {o:Nat},Rn cmp o ps rs->ps.length=rs.length/\ps.length<=rs.flatten.length
 | [],[],_,_=>⟨rfl,D3 _⟩
 | p::ps,r::rs,o,h=>by
  obtain⟨_,_,h3,_,h5⟩:=h;obtain⟨i1,i2⟩:=mm0 h5;refine⟨by rw[List.length_cons,List.length_cons,i1],?_⟩;rw[List.flatten_cons,List.length_append,List.length_cons];omega
 | [],_::_,_,h=>h.elim
 | _::_,[],_,h=>h.elim
theorem ga0:∀{i:Nat} {ps:List (Nat×Nat×Nat)} {rs:List (List Keyed)} {o:Nat},Rn cmp o ps rs->i+1<ps.length ->
  ∃ps1 sa na pw sb nb pq ps2 rs1 la lb rs2,ps=ps1++(sa,na,pw)::(sb,nb,pq)::ps2/\ps1.length=i/\rs=rs1++la::lb::rs2/\sa=o+rs1.flatten.length/\na=la.length/\sb=sa+na/\nb=lb.length/\0<na/\0<nb/\Asc cmp la/\Asc cmp lb /\
   ∀m:List Keyed,Asc cmp m->m.length=na+nb->Rn cmp o (ps1++(sa,na+nb,pw)::ps2) (rs1++m::rs2)
 | 0,(sa,na,pw)::(sb,nb,pq)::ps,la::lb::rs,o,h,_=>by
  obtain⟨h1,h2,h3,h4,g1,g2,g3,g4,g5⟩:=h;dsimp only at h1 h2 g1 g2;subst h1;subst h2;subst g1;subst g2;refine⟨[],_,_,pw,_,_,pq,ps,[],la,lb,rs,rfl,rfl,rfl,rfl,rfl,rfl,rfl,h3,g3,h4,g4,λm hm hl=>?_⟩;refine⟨rfl,hl.symm,by omega,hm,?_⟩;rw[hl,← Nat.add_assoc];exact g5
 | i+1,p::ps,r::rs,o,h,hi=>by
  obtain⟨h1,h2,h3,h4,h5⟩:=h;obtain⟨ps1,sa,na,pw,sb,nb,pq,ps2,rs1,la,lb,rs2,e1,e2,e3,e4,e5,e6,e7,e8,e9,f1,f2,k⟩:=ga0 (i:=i) h5 (by simpa using hi);subst e1;subst e3;refine⟨p::ps1,sa,na,pw,sb,nb,pq,ps2,r::rs1,la,lb,rs2,rfl,by rw[List.length_cons,e2],rfl,?_,e5,e6,e7,e8,e9,f1,f2,λm hm hl=>⟨h1,h2,h3,h4,k m hm hl⟩⟩;rw[e4,List.flatten_cons,List.length_append];omega
 | _,[],[],_,_,hi=>by simp at hi
 | _,[_],_,_,_,hi=>by simp at hi
 | _,[],_::_,_,h,_=>h.elim
 | _,_::_,[],_,h,_=>h.elim
 | 0,_::_::_,[_],_,h,_=>h.2.2.2.2.elim
theorem dt0:∀{ps:List (Nat×Nat×Nat)} {rs:List (List Keyed)} {o:Nat} (k pw:Nat),Rn cmp o ps rs->Rn cmp o (ps.modify k λq=>(q.1,q.2.1,pw)) rs
 | [],_,_,k,pw,h=>by rw[List.modify_nil];exact h
 | p::ps,r::rs,o,0,pw,h=>h
 | p::ps,r::rs,o,k+1,pw,h=>⟨h.1,h.2.1,h.2.2.1,h.2.2.2.1,dt0 k pw h.2.2.2.2⟩
 | _::_,[],_,_,_,h=>h.elim
theorem ks0:∀{ps:List (Nat×Nat×Nat)} {rs:List (List Keyed)} {o:Nat} {r:List Keyed} {pw:Nat},Rn cmp o ps rs->0<r.length->Asc cmp r->Rn cmp o (ps++[(o+rs.flatten.length,r.length,pw)]) (rs++[r])
 | [],[],o,r,pw,_,h1,h2=>⟨rfl,rfl,h1,h2,trivial⟩
 | p::ps,q::rs,o,r,pw,h,h1,h2=>by
  have:=ks0 (pw:=pw) h.2.2.2.2 h1 h2;refine⟨h.1,h.2.1,h.2.2.1,h.2.2.2.1,?_⟩;rw[List.flatten_cons,List.length_append,← Nat.add_assoc];exact this
 | [],_::_,_,_,_,h,_,_=>h.elim
 | _::_,[],_,_,_,h,_,_=>h.elim
end
section
variable{P:Program}{w:World}{s:Shared}{b:Array Keyed}{κ:SortKind}{cmp:Keyed->Keyed->Bool}
structure Sv(b:Array Keyed)(κ:SortKind)(cmp:Keyed->Keyed->Bool)(rest:List Keyed)(lo:Nat)(t:SortSt):Prop where
 gn:Gn b κ t
 rn:∃rs,(arrOf t).toList=rs.flatten++rest/\rs.flatten.length=lo/\Rn cmp 0 (pendingOf t).toList rs
variable(C:Cn P w A E s b κ cmp)
include C
theorem ui0{rest:List Keyed}{lo:Nat}{t:SortSt}(h:Sv b κ cmp rest lo t)(hi:i+1<(pendingOf t).size){Q:Bool->SortSt->Prop}
  (k:∀t',Sv b κ cmp rest lo t'->(pendingOf t').size+1=(pendingOf t).size->Q true t'):wpS (model P w) A E s (mergeAt' i) Q t:=by
 obtain⟨rs,e1,e2,e3⟩:=h.rn;obtain⟨L,sa,na,pw,sb,nb,pq,O,J,la,lb,F,f1,f2,f3,f4,f5,f6,f7,f8,f9,g1,g2,kk⟩:=ga0 e3 (by simpa using hi);rw[Nat.zero_add] at f4;subst f3;have q1:(pendingOf t)[i]?=some (sa,na,pw):=by
  rw[← Array.getElem?_toList,f1,← f2];simp
 have q2:(pendingOf t)[i+1]?=some (sb,nb,pq):=by
  rw[← Array.getElem?_toList,f1,← f2,List.getElem?_append_right (by omega),Nat.add_sub_cancel_left];rfl
 refine gx0 C h.gn q1 q2 (L0:=J.flatten) (la:=la) (lb:=lb) (S:=F.flatten++rest) (by rw[e1];simp) f4 f5 f6 f7 f8 f9 g1 g2 λt' m gn pe ar ml ma=>?_
 have pl:(pendingOf t').toList=L++(sa,na+nb,pw)::O:=by
  rw[pe,Array.toList_eraseIdxIfInBounds,Array.toList_setIfInBounds,f1,← f2];simp only[List.set_append_right _ _ (A4 _),Nat.sub_self,List.set_cons_zero];rw[List.eraseIdx_append_of_length_le (by omega),Nat.add_sub_cancel_left];rfl
 refine k t' ⟨gn,J++m::F,by rw[ar];simp,?_,by rw[pl];exact kk m ma ml⟩ ?_
 ·rw[← e2]
  simp only[List.flatten_append,List.flatten_cons,List.length_append];omega
 ·rw[← Array.length_toList,pl,← Array.length_toList,f1]
  simp only[List.length_append,List.length_cons];omega
theorem Wv0{st:SortSt}{Q:Unit->SortSt->Prop}(hk:kindOf st=κ)(hp:(arrOf st).Perm b)(hf:failedOf st=none)(he:pendingOf st=#[])(h2:2<=b.size)
  (k:∀t,(arrOf t).Perm b->failedOf t=none->Up cmp (arrOf t) b.size->Q () t):wpS (model P w) A E s sortRuns' Q st:=by
 rw[sortRuns'_eq];refine A3 (D4 ?_);dsimp only;rw[show (arrOf st).size=b.size from hp.size_eq];have S0:Sv b κ cmp (arrOf st).toList 0 st:=⟨⟨hk,hp,hf⟩,[],rfl,rfl,by rw[he];trivial⟩;refine A3 (C0 (C5 (I:=λx c t=>∃lo rest,c=(none,lo)/\x<=lo/\lo<=b.size/\Sv b κ cmp rest lo t)
  (Q:=λc t=>c=(none,b.size)/\∃rest,Sv b κ cmp rest b.size t) (λx c t _ hx hI=>?_) (λc t hI=>?_) ⟨0,_,rfl,A4 0,D3 _,S0⟩) λc t hI=>?_)
 ·obtain⟨lo,rest,e1,a7,a8,S⟩:=hI
  subst e1;dsimp only
  by_cases hge:lo ≥ b.size
  ·rw[if_pos hge]
   have:lo=b.size:=by omega
   subst this;exact A2 ⟨rfl,rest,S⟩
  rw[if_neg hge];have hr:Ro b κ t lo t:=⟨S.gn.kd,S.gn.pm,S.gn.fa,rfl,λi _=>rfl⟩;refine A3 (U60 C hr (m:=b.size - lo) (by omega) (by omega) λJ t2 a2 r1 r2 u2=>?_);dsimp only;have O:∀(n:Nat) (t3:SortSt),Ro b κ t lo t3->UpO cmp (arrOf t3) lo n->1<=n->lo+n<=b.size->∃r F,Sv b κ cmp (r++F) lo t3/\r.length=n/\Asc cmp r:=λn t3 L u3 n1 n2=>by
   obtain⟨rs,e1,e2,e3⟩:=S.rn;have a1:(arrOf t3).toList.length=b.size:=by rw[Array.length_toList];exact L.sz
   have a4:(arrOf t3).toList.take lo=rs.flatten:=by
    refine Ax0 λi=>?_
    by_cases hi:i<lo
    ·rw[List.getElem?_take_of_lt hi,Array.getElem?_toList,L.ke i hi,← Array.getElem?_toList,e1,List.getElem?_append_left (by omega)]
    ·rw[List.getElem?_eq_none (by rw[List.length_take];omega),List.getElem?_eq_none (by omega)]
   refine⟨((arrOf t3).toList.drop lo).take n,((arrOf t3).toList.drop lo).drop n,⟨⟨L.kd,L.pm,L.fa⟩,rs,?_,e2,by rw[L.pe];exact e3⟩,?_,?_⟩
   ·rw[List.take_append_drop,← a4,List.take_append_drop]
   ·rw[List.length_take,List.length_drop,a1];omega
   ·refine E5.mpr λi j hi hj Y=>?_
    rw[List.length_take,List.length_drop,a1] at hi hj;have ei:(arrOf t3)[lo+i]?=some (((arrOf t3).toList.drop lo).take n)[i]:=by
     rw[List.getElem_take,List.getElem_drop,← Array.getElem?_toList];exact C8 (arrOf t3).toList (lo+i) _
    have ej:(arrOf t3)[lo+j]?=some (((arrOf t3).toList.drop lo).take n)[j]:=by
     rw[List.getElem_take,List.getElem_drop,← Array.getElem?_toList];exact C8 (arrOf t3).toList (lo+j) _
    exact u3 i j _ _ Y (by omega) ei ej
  have push:∀(n:Nat) (t4:SortSt) (r F:List Keyed),Sv b κ cmp (r++F) lo t4->r.length=n->Asc cmp r->1<=n->Sv b κ cmp F (lo+n) (setPending t4 ((pendingOf t4).push (lo,n,0))):=λn t4 r F S4 hl ha n1=>by
   obtain⟨rs,e1,e2,e3⟩:=S4.rn;refine⟨⟨S4.gn.kd,S4.gn.pm,S4.gn.fa⟩,rs++[r],?_,?_,?_⟩
   ·show (arrOf t4).toList=_
    rw[e1];simp
   ·rw[← e2,← hl];simp
   ·show Rn cmp 0 ((pendingOf t4).push (lo,n,0)).toList _
    rw[Array.toList_push];have:=ks0 (pw:=0) e3 (r:=r) (by omega) ha;rw[Nat.zero_add,e2,hl] at this;exact this
  have a3:∀(rest:List Keyed) (t4:SortSt) (i pw:Nat),Sv b κ cmp rest lo t4->Sv b κ cmp rest lo (setPending t4 ((pendingOf t4).modify i λx=>(x.1,x.2.1,pw))):=λrest t4 i pw S4=>by
   obtain⟨rs,e1,e2,e3⟩:=S4.rn;refine⟨⟨S4.gn.kd,S4.gn.pm,S4.gn.fa⟩,rs,e1,e2,?_⟩;show Rn cmp 0 ((pendingOf t4).modify i λx=>(x.1,x.2.1,pw)).toList _;rw[Array.toList_modify];exact dt0 i pw e3
  by_cases hlt:J<minRun' b.size b.size 0
  ·rw[if_pos hlt]
   refine A3 (N3 (D5 ⟨rfl,?_⟩));refine A3 (Uc0 C a2 (by omega) (by omega) u2 λt3 L u3=>?_);simp only[Bool.not_true,Bool.false_eq_true,if_false];obtain⟨n,hn⟩:∃n,n=min (b.size - lo) (minRun' b.size b.size 0):=⟨_,rfl⟩;rw[← hn] at u3 ⊢;have n1:1<=n:=by omega
   have n2:lo+n<=b.size:=by omega
   clear hn;obtain⟨r,F,S3,hl,ha⟩:=O n t3 L u3 n1 n2;refine A3 (D4 ?_);cases hb:(pendingOf t3).back? with
   | none=>exact A3 (D7 (A2 ⟨lo+n,F,rfl,by omega,by omega,push n t3 r F S3 hl ha n1⟩))
   | some q =>
    obtain⟨s1,n3,pw⟩:=q;dsimp only;refine A3 (C0 (C5 (I:=λx c t=>c=(none,())/\Sv b κ cmp (r++F) lo t) (Q:=λc t=>c=(none,())/\Sv b κ cmp (r++F) lo t) (λx c t _ _ hJ=>?_) (λ_ _ hJ=>hJ) ⟨rfl,S3⟩) λc t hJ=>?_)
    ·obtain⟨e1,S4⟩:=hJ
     subst e1;refine A3 (D4 ?_)
     by_cases h1:(pendingOf t).size > 1
     ·rw[if_pos h1]
      cases hq:(pendingOf t)[(pendingOf t).size - 2]? with
      | none=>exact A2 ⟨rfl,S4⟩
      | some q =>
       obtain⟨q1,q2,a0⟩:=q;dsimp only;split
       ·exact A2 ⟨rfl,S4⟩
       ·exact A3 (ui0 C S4 (by omega) λt' S' _=>A2 ⟨rfl,S'⟩)
     ·rw[if_neg h1]
      exact A2 ⟨rfl,S4⟩
    ·obtain⟨e1,S4⟩:=hJ
     subst e1;exact A3 (D7 (A3 (D7 (A2 ⟨lo+n,F,rfl,by omega,by omega,push n _ r F (a3 _ _ _ _ S4) hl ha n1⟩))))
  ·rw[if_neg hlt]
   have n1:=r1;have n2:lo+J<=b.size:=by omega
   obtain⟨r,F,S3,hl,ha⟩:=O J t2 a2 u2 n1 n2;refine A3 (D4 ?_);cases hb:(pendingOf t2).back? with
   | none=>exact A3 (D7 (A2 ⟨lo+J,F,rfl,by omega,by omega,push J t2 r F S3 hl ha n1⟩))
   | some q =>
    obtain⟨s1,n3,pw⟩:=q;dsimp only;refine A3 (C0 (C5 (I:=λx c t=>c=(none,())/\Sv b κ cmp (r++F) lo t) (Q:=λc t=>c=(none,())/\Sv b κ cmp (r++F) lo t) (λx c t _ _ hJ=>?_) (λ_ _ hJ=>hJ) ⟨rfl,S3⟩) λc t hJ=>?_)
    ·obtain⟨e1,S4⟩:=hJ
     subst e1;refine A3 (D4 ?_)
     by_cases h1:(pendingOf t).size > 1
     ·rw[if_pos h1]
      cases hq:(pendingOf t)[(pendingOf t).size - 2]? with
      | none=>exact A2 ⟨rfl,S4⟩
      | some q =>
       obtain⟨q1,q2,a0⟩:=q;dsimp only;split
       ·exact A2 ⟨rfl,S4⟩
       ·exact A3 (ui0 C S4 (by omega) λt' S' _=>A2 ⟨rfl,S'⟩)
     ·rw[if_neg h1]
      exact A2 ⟨rfl,S4⟩
    ·obtain⟨e1,S4⟩:=hJ
     subst e1;exact A3 (D7 (A3 (D7 (A2 ⟨lo+J,F,rfl,by omega,by omega,push J _ r F (a3 _ _ _ _ S4) hl ha n1⟩))))
 ·obtain⟨lo,rest,e1,a7,a8,S⟩:=hI
  have:lo=b.size:=by omega
  subst this;exact⟨e1,rest,S⟩
 ·obtain⟨e1,rest,S⟩:=hI
  subst e1;dsimp only;have b0:(pendingOf t).size<=b.size:=by
   obtain⟨rs,e1,e2,e3⟩:=S.rn;have:=mm0 e3;rw[Array.length_toList,e2] at this;exact this.2
  refine A3 (C0 (C5 (I:=λx c t=>c=(none,())/\Sv b κ cmp rest b.size t/\(pendingOf t).size<=max 1 (b.size - x))
   (Q:=λc t=>c=(none,())/\Sv b κ cmp rest b.size t/\(pendingOf t).size<=1) (λx c t _ hx hI=>?_) (λc t hI=>?_) ⟨rfl,S,by omega⟩) λc t hI=>?_)
  ·obtain⟨e1,S,hz⟩:=hI
   subst e1;refine A3 (D4 ?_)
   by_cases hle:(pendingOf t).size<=1
   ·rw[if_pos hle]
    exact A2 ⟨rfl,S,hle⟩
   rw[if_neg hle];refine A3 (ui0 C S ?_ λt' S' a9=>?_)
   ·exact X30 (by omega) (by omega)
   ·exact A2 ⟨rfl,S',by omega⟩
  ·obtain⟨e1,S,hz⟩:=hI
   exact⟨e1,S,by omega⟩
  ·obtain⟨e1,S,hz⟩:=hI
   subst e1;refine A2 (k t S.gn.pm S.gn.fa ?_);obtain⟨rs,e1,e2,e3⟩:=S.rn;have hl:=(mm0 e3).1;rw[Array.length_toList] at hl;have Z:rest=[]:=by
    have:=E2 List.length e1;rw[List.length_append,e2,Array.length_toList,S.gn.pm.size_eq] at this;exact O0 (by omega)
   subst Z;rw[List.append_nil] at e1;have ha:Asc cmp (arrOf t).toList:=by
    match rs,e1,e3,hl with
    | [],e1,_,_=>rw[e1];exact List.Pairwise.nil
    | [r],e1,e3,_ =>
     rw[e1]
     match hq:(pendingOf t).toList,e3 with
     | p::ps,e3=>simpa using e3.2.2.2.1
     | [],e3=>exact e3.elim
    | _::_::_,_,_,hl=>simp at hl;omega
   intro i j x y Y hj ex ey;rw[← Array.getElem?_toList] at ex ey;obtain⟨a6,rfl⟩:=E1.mp ex;obtain⟨a5,rfl⟩:=E1.mp ey;exact E5.mp ha i j a6 a5 Y
end
section
variable{P:Program}{w:World}{s:Shared}
theorem cnP(hv:Prs s.heap vs)(f:Bool):Cn P w A E s (pairsOf vs) (tuples' f) (wq0 s.heap):=by
 have C:=cpP (P:=P) (w:=w) (A:=A) (E:=E) hv f;refine⟨λst x y Q hk hx hy k=>?_,C.nd,C.tr,C.to,λx _ y _ h=>?_⟩
 ·have el:∀x∈(pairsOf vs).toList,x.1∈vs:=λx hx=>by
   rw[pairsOf_toList] at hx;obtain⟨i,hi,e⟩:=N4.mp hx;rw[List.getElem_zip] at e;rw[← e];exact E8 _
  obtain⟨q,hq⟩:=hv.all _ (el x hx);obtain⟨r,hr⟩:=hv.all _ (el y hy);unfold wq0 at k;rw[vo0 hq,vo0 hr] at k;rw[lt'_eq];refine A3 (D4 ?_);rw[hk];exact A3 (N3 (N1 (sz0 hq hr ⟨rfl,A2 k⟩)))
 ·unfold wq0 at *
  cases e:lt2 (pk s.heap y.1) (pk s.heap x.1) with
  | false=>rfl
  | true=>rw[v70] at *;omega
theorem Yj0{F:Fin->Shared->Prop}(ho:s.heap.get? a=some (seqObj "list" vs.toArray n))(hv:Prs s.heap vs)(h64:vs.length<=sizeLine)
  (h:∀out:Array Value,out.toList.Perm vs->(out.toList.map (pk s.heap)).Pairwise (λx y=>lt2 x y=true)->F (.done (.ret .none)) { s with heap:=sortedHeap s.heap a vs out }) :
  wpAny (model P w) A (Builtin.«list.sort» ⟨[.ref a],[]⟩) F E s:=by
 rw[list_sort_plain];have la:a<s.heap.objs.size:=A6 ho;obtain⟨ep,hu⟩:∃ep,(s.heap.update a (Obj.mapSeq λ_=>#[])).get? a=some (seqObj "list" #[] ep):=⟨_,get?_update_seq ho (λ_=>#[])⟩;refine A0 (v3 ho rfl (A0 (listUpdate_at ho rfl (A0 (seqEpoch_at hu rfl (A0 (r9 (A0 (wpAny_newList (C3 ?_))))))))));obtain⟨g,J⟩:∃g,g=((s.heap.update a (Obj.mapSeq λ_=>#[])).push (seqObj "tuple" vs.toArray 0)).push (seqObj "list" #[] 0):=⟨_,rfl⟩;have a8:a≠(s.heap.update a (Obj.mapSeq λ_=>#[])).objs.size:=by rw[Heap.size_update];exact A9 la
 have h6:g.get? a=some (seqObj "list" #[] ep):=by
  rw[J,Heap.get?_push_ne _ _ _ (by rw[size_push',Heap.size_update];exact A9 (P6 la)),Heap.get?_push_ne _ _ _ a8];exact hu
 have kp:∀c o,s.heap.get? c=some o->o.cls=.type "tuple"->g.get? c=some o:=λc o e1 e2=>by
  have a5:c≠a:=λz=>by
   subst z;rw[ho] at e1;cases e1;have e3:Value.type "list"=Value.type "tuple" := e2;injection e3 with e3
   exact absurd e3 (by decide)
  rw[J];exact A8 _ (A8 _ (by rw[Heap.get?_update_ne _ _ _ _ a5];exact e1))
 obtain⟨O,a0⟩:=hv.to kp;show wpAny (model P w) A _ F E { s with heap:=((s.heap.update a (Obj.mapSeq λ_=>#[])).push (seqObj "tuple" vs.toArray 0)).push (seqObj "list" #[] 0) };rw[← J];dsimp only;have a6:vs.toArray.size=vs.length:=by simp
 have fin:∀out:Array Value,out.toList.Perm vs->(out.toList.map (pk s.heap)).Pairwise (λx y=>lt2 x y=true)->F (.done (.ret .none)) { s with heap:=g.update a (Obj.mapSeq λ_=>out) }:=λout p1 p2=>by
  rw[J];exact h out p1 p2
 by_cases h2:vs.toArray.size<2
 ·rw[if_pos h2,if_pos h2]
  refine A0 (A1 ?_);rw[StateT.run_pure];refine A0 (A1 ?_);dsimp only;refine A0 (seqEpoch_at h6 rfl (A0 (listUpdate_at h6 rfl ?_ (hsz2:=by rw[Array.size_map];show (pairsOf vs).size<=_;rw[pairsOf_size];exact Da0 h64))));simp only[bne_self_eq_false,Bool.false_eq_true,if_false];have e0:((vs.toArray.zip vs.toArray).map (·.2)).toList=vs:=by
   have:=x5 (A4 vs.length)
   simpa using this
  refine A1 (fin _ (by rw[e0]) ?_);rw[e0];refine E5.mpr λi j hi hj a4=>?_
  rw[List.length_map] at hi hj;omega
 ·rw[if_neg h2,if_neg h2]
  obtain⟨v₁,v₂,r,rfl⟩:∃v₁ v₂ r,vs=v₁::v₂::r:=by
   match vs,a6,h2 with
   | [],_,h2=>simp at h2
   | [_],_,h2=>simp at h2
   | v₁::v₂::r,_,_=>exact⟨v₁,v₂,r,rfl⟩
  refine A0 (Wc0 (s:={ s with heap:=g }) O.all ?_);have C:=cnP (P:=P) (w:=w) (A:=A) (E:=E) (s:={ s with heap:=g }) O true;refine A0 (D0 (Wv0 C (st:=SortSt.mk' (tuples' true) ((v₁::v₂::r).toArray.zip (v₁::v₂::r).toArray) #[] 7 none)
   (Q:=λ_ t=>(arrOf t).Perm (pairsOf (v₁::v₂::r))/\failedOf t=none/\Up (wq0 g) (arrOf t) (pairsOf (v₁::v₂::r)).size)
   rfl (Array.Perm.refl _) rfl rfl (by rw[pairsOf_size];simp) λt a1 a2 a3=>⟨a1,a2,a3⟩) ?_ λ_ _ e=>e)
  rintro⟨⟨⟩,t⟩ s' ⟨es,hp,hf,a9⟩;subst es;dsimp only;refine A0 (seqEpoch_at h6 rfl (A0 (listUpdate_at h6 rfl ?_ (hsz2:=by refine C2 (d6 ((Array.size_map ..).trans (hp.size_eq.trans (pairsOf_size _)))) ?_;exact Da0 h64))));rw[hf];simp only[bne_self_eq_false,Bool.false_eq_true,if_false];have Z:(arrOf t).toList.Perm ((v₁::v₂::r).zip (v₁::v₂::r)):=by
   have:=P7.mp hp
   rwa [pairsOf_toList] at this
  have L:∀x∈(arrOf t).toList,x.1=x.2/\x.2∈v₁::v₂::r:=λx hx=>by
   have hm:=Z.mem_iff.mp hx;obtain⟨i,hi,e⟩:=N4.mp hm;rw[List.getElem_zip] at e;rw[← e];exact⟨rfl,E8 _⟩
  have e2:((arrOf t).map (·.2)).toList=(arrOf t).toList.map (·.2):=by simp
  refine A1 (fin _ ?_ ?_)
  ·rw[e2]
   have:=Z.map Prod.snd
   rwa [x5 (A4 _)] at this
  ·rw[e2,List.map_map]
   refine E5.mpr λi j hi hj a4=>?_
   rw[List.length_map] at hi hj;rw[List.getElem_map,List.getElem_map];have a7:i<(arrOf t).size:=by simpa using hi
   have Y:j<(arrOf t).size:=by simpa using hj
   have:=a9 i j (arrOf t)[i] (arrOf t)[j] a4 (by rw[← hp.size_eq];exact Y) (C8 _ i a7) (C8 _ j Y);have m1:=L (arrOf t)[i] (by simp);have m2:=L (arrOf t)[j] (by simp);unfold wq0 at this;rw[m1.1,m2.1,a0 _ m1.2,a0 _ m2.2] at this
   simpa using this
end
end SoT
namespace RawD
open PyProof.Rows PySem.W
def At(d:Addr)(es:Array DictEntry)(ep:Nat)(h:Heap):Prop:=∃o,h.get? d=some o/\o.ExactDict/\o.data=.dict es ep
section
variable{P:Program}{w:World}{s:Shared}{d:Addr}{es:Array DictEntry}{ep:Nat}
theorem At.ty(x:At d es ep s.heap):s.TypeIs (.ref d) "dict" := by obtain⟨o,e,c,_⟩:=x;exact⟨o,e,c.1⟩
theorem At.lt{h:Heap}(x:At d es ep h):d<h.objs.size:=by obtain⟨o,e,_⟩:=x;exact A6 e
theorem At.to{h:Heap}(x:At d es ep h)(k:∀o,h.get? d=some o->h'.get? d=some o):At d es ep h':=by obtain⟨o,e,r⟩:=x;exact⟨o,k o e,r⟩
theorem V70{Q:Value->Shared->Prop}(lo:(d==sysModules)=false)(x:At d es ep s.heap)
  (k:Q (.ref s.heap.objs.size) { s with heap:=s.heap.push { cls:=.type "dict_keyiterator",data:=.fields #[.ref d,.int 0 0,.int es.size 0,.int ep 0] } }):wpAny (model P w) A (pyIter (.ref d)) Q E s:=by
 have ty:=x.ty;obtain⟨o,e,c,da⟩:=x;refine wpAny_pyIter_slot ty F.slot_dict_iter (D1 F.slot_dict_iter ty F.entry_dict_iter ?_ (F.args_dict_iter_1 _));unfold Builtin.«dict.__iter__»;refine A0 ?_;unfold Builtin.Dict.dictSlotNone;refine A0 (wpAny_notOrdered_dict ty ?_);show wpAny _ _ (pure (Value.ref d)) _ _ s;refine A1 ?_;show wpAny _ _ (Builtin.Dict.showsAll d>>=_) _ _ s;unfold Builtin.Dict.showsAll;rw[if_neg (by rw[lo];decide)];refine A0 (A1 (A0 (B00 e da (A0 (B10 e da (A0 (H0 (A1 ⟨_,rfl, "dict_keyiterator",_,⟨_,B5 _ rfl,rfl⟩,j0.lookup,?_⟩))))))))
 simpa [rawInt] using k
theorem W70{Q:Option Value->Shared->Prop}(hi:s.heap.IsKeyIter it d i es.size ep)(x:At d es ep s.heap)(hl:i<es.size)
  (k:∀h',h'.IsKeyIter it d (i+1) es.size ep->Heap.SameBut it s.heap h'->Q (some es[i].key) { s with heap:=h' }):wpAny (model P w) A (pyNext (.ref it)) Q E s:=by
 have ti:=hi.typeIs;obtain⟨u,eu,cu,du⟩:=hi;obtain⟨o,e,c,da⟩:=x;unfold pyNext;refine A0 (N1 (E3 (name:=Str.ofString "__next__") ti j0 (D1 j0 ti Dc0 ?_ (Dd0 _))));refine A0 (A1 (A0 (A0 ?_)));refine A0 (x6 ti (A1 (A0 (wpAny_fieldsOf eu du ?_))));simp only[show Builtin.Dict_items.ownsTuple "dict_keyiterator"=false from by decide,Bool.false_eq_true,if_false];show wpAny _ _ (if (Value.ref d==.none)=true then _ else _) _ _ s;rw[if_neg (show ¬(Value.ref d==.none)=true by simp)];refine A0 (A1 (A0 (B00 e da ?_)));rw[if_neg (by simp)];refine A0 (A1 (A0 (B10 e da ?_)));rw[if_neg (by simp)];refine A1 ?_;simp only[show ¬(i:Int)<0 by omega,if_false,Int.toNat_natCast,Array.getElem?_eq_getElem hl];refine A0 (A0 (x6 ti (A1 (A0 (wpAny_isOneOf_keyiter ti ?_)))));show wpAny _ _ (setField (.ref it) 1 (rawInt ((i:Int)+1))>>=_) _ _ s;refine A0 (wpAny_setField eu du (by simp) ?_);have F:(s.heap.update it (Obj.mapFields (·.setIfInBounds 1 (rawInt ((i:Int)+1))))).IsKeyIter it d (i+1) es.size ep :=
  ⟨_,i0 _ eu (Obj.isFreed_of_fields (Obj.data_mapFields du _)),(Obj.cls_mapFields ..).trans cu,by rw[Obj.data_mapFields du];simp[rawInt]⟩
 refine A0 (C3 (A0 (wpAny_isOneOf_keyiter (s:={ s with heap:=s.heap.update it (Obj.mapFields (·.setIfInBounds 1 (rawInt ((i:Int)+1)))) }) F.typeIs ?_)));show wpAny _ _ (pure es[i].key) _ _ _;exact A1 (A1 ⟨_,rfl,A1 (k _ F (Heap.SameBut.update ..))⟩)
theorem Vr0{Q:Option Value->Shared->Prop}(hh:A.handled=none)(hi:s.heap.IsKeyIter it d i es.size ep)(x:At d es ep s.heap)(hl:es.size<=i)
  (k:∀h',Heap.ExtBut it s.heap h'->Q none { s with heap:=h' }):wpAny (model P w) A (pyNext (.ref it)) Q E s:=by
 have ti:=hi.typeIs;obtain⟨u,eu,cu,du⟩:=hi;obtain⟨o,e,c,da⟩:=x;unfold pyNext;refine A0 (N1 (E3 (name:=Str.ofString "__next__") ti j0 (D1 j0 ti Dc0 ?_ (Dd0 _))));refine A0 (A1 (A0 (A0 ?_)));refine A0 (x6 ti (A1 (A0 (wpAny_fieldsOf eu du ?_))));simp only[show Builtin.Dict_items.ownsTuple "dict_keyiterator"=false from by decide,Bool.false_eq_true,if_false];show wpAny _ _ (if (Value.ref d==.none)=true then _ else _) _ _ s;rw[if_neg (show ¬(Value.ref d==.none)=true by simp)];refine A0 (A1 (A0 (B00 e da ?_)));rw[if_neg (by simp)];refine A0 (A1 (A0 (B10 e da ?_)));rw[if_neg (by simp)];refine A1 ?_;simp only[show ¬(i:Int)<0 by omega,if_false,Int.toNat_natCast,Array.getElem?_eq_none hl];refine A0 (A0 (x6 ti (A1 ?_)));show wpAny _ _ (setField (.ref it) 0 .none>>=_) _ _ s;refine A0 (wpAny_setField eu du (by simp) ?_);show wpAny _ _ (newExc (.type "StopIteration") []>>=_) _ _ _;refine A0 ?_;simp only[newExc,newTuple];refine A0 (H0 (A0 (m:=firstArgMember _ _) (wpAny_of_eq (a:=Value.none) (by first|rfl|(simp only[firstArgMember];rfl)) (H0 ?_ (by size_fits)))) (by size_fits));simp only[raiseNew];refine A0 (wpAny_handled ?_);rw[show A.in1.handled=none from hh];refine A0 (A1 (wpAny_throw ?_));refine A0 (r8 (b:=true) (T := "StopIteration") ⟨_,B5 _ rfl,rfl⟩ Aq0 (A1 (k _ ?_)));exact((Heap.SameBut.update ..).extBut.push _).push _
theorem Wk0(hh:A.handled=none)(ne:d≠it):Walks P w A it [it,d] [it] es.size (λi v=>∃e,es[i]?=some e/\v=e.key) (λi h=>h.IsKeyIter it d i es.size ep/\At d es ep h) where
 sub:=λb hb=>by simp at hb;simp[hb]
 frame:=λ_ _ _ st hk=>⟨st.1.at λo e=>hk it (by simp) o e,st.2.to λo e=>hk d (by simp) o e⟩
 item:=λi s Q E hi st hQ=>W70 st.1 st.2 hi λh' J sb=>hQ _ h' s.toks ⟨es[i],C8 es i hi,rfl⟩ ⟨J,st.2.to λo e=>sb.extBut d o ne e⟩ λb o hb e=>sb.extBut b o (λh=>hb (by simp[h])) e
 done:=λs Q E st hQ=>Vr0 hh st.1 st.2 (A4 _) λh' F=>hQ h' s.toks λb o hb e=>F b o (λh=>hb (by simp[h])) e
 self:=λ_ _ _ _ st hQ=>wpAny_pyIter_keyiter st.1 hQ
theorem src(lo:(d==sysModules)=false):KdlSrc P w "dict" d d es.size (λi v=>∃e,es[i]?=some e/\v=e.key) (At d es ep) where
 type:=λ_ x=>x.ty
 there:=λ_ x=>⟨x.lt,x.lt⟩
 keep:=λ_ _ x hk=>x.to λo e=>hk d (.inl rfl) o e
 notList:=by decide
 notTuple:=by decide
 hint:=λ_ _ _ _ x hq=>kdl_hint_dict x.ty hq
 iter:=λ_ _ hh x=>⟨_,_,(λ_ _ hq=>V70 lo x hq),Wk0 hh (A9 x.lt),⟨⟨_,B5 _ rfl,rfl,rfl⟩,x.to λo e=>A8 _ e⟩⟩
end
end RawD
namespace L2
open Spec PyProof.Rows
def KyV(H:Hp):List (List Key)->List V->Prop
 | [],[]=>True
 | k::ks,v::vs=>(∃b,v=.ref b/\H b=some (.tup (k.map kV)))/\KyV H ks vs
 | _,_=>False
end L2
namespace ZipL
open Spec PyProof.Rows
section
variable{w:World}{s:Shared}
theorem ia0{TI TO:Addr}{k1 k2:Nat}{xs ys:Array Value}{x y a b:Value}{Q:Value->Shared->Prop}(D:ZipApart z TI TO i1 i2 l1 l2)
  (hz:mh0 s.heap z TI TO) (hTI:IsPair s.heap TI (.ref i1) (.ref i2)) (hTO:IsPair s.heap TO a b)
  (h1:s.heap.IsListIter i1 l1 k1) (h2:s.heap.IsListIter i2 l2 k2) (hl1:s.heap.IsList l1 xs) (hl2:s.heap.IsList l2 ys) (hx:xs[k1]?=some x) (hy:ys[k2]?=some y)
  (hQ:∀h',mh0 h' z TI TO->(∃p q,IsPair h' TO p q)->h'.IsListIter i1 l1 (k1+1)->h'.IsListIter i2 l2 (k2+1)->IsPair h' s.heap.objs.size x y->h'.objs.size=s.heap.objs.size+1 ->
   (∀c o,c≠z->c≠TO->c≠i1->c≠i2->s.heap.get? c=some o->h'.get? c=some o)->Q (.ref s.heap.objs.size) { s with heap:=h' }) :
  wpAny (model prog w) A (Builtin.SmallTypes.nextOf (.ref z)) Q E s:=by
 obtain⟨v,f,hz,hv⟩:=hz;have hT:s.TypeIs (.ref z) "zip" := ⟨_,hz,rfl⟩;have again:(∀(E':Value->Shared->Prop) (A':Around) (Q':Bool->Shared->Prop),Q' true s->wpAny (model prog w) A' (Builtin.SmallTypes.ownedTupleIsFree (.ref z)) Q' E' s)->wpAny (model prog w) A (Builtin.SmallTypes.nextOf (.ref z)) Q E s:=λhf=>by
  unfold Builtin.SmallTypes.nextOf;exact A0 (E3 (name:=Str.ofString "__next__") hT D6
   (D1 D6 hT S2
    (j70 D hz (λQ' q=>hf _ _ Q' q) hTI hTO h1 h2 hl1 hl2 hx hy λh' a1 a2 a3 a4 a5 a6 a7=>A1 (hQ h' ⟨_,_,a1,.inr ⟨_,rfl⟩⟩ ⟨_,_,a2⟩ a3 a4 a5 a6 a7)) (T0 _)))
 rcases hv with rfl|⟨a0,rfl⟩
 ·exact again λE' A' Q' q=>p90 hz q
 ·cases e:s.heap.get? a0 with
  | none=>exact again λE' A' Q' q=>pd0 hz e q
  | some oa =>
   unfold Builtin.SmallTypes.nextOf;exact A0 (E3 (name:=Str.ofString "__next__") hT D6
    (D1 D6 hT S2
     (n70 D hz e hTI h1 h2 hl1 hl2 hx hy λh' b1 b2 b3 b4 b5 b6=>A1 (hQ h' ⟨_,_,b1,.inr ⟨_,rfl⟩⟩ ⟨_,_,b6 _ _ D.TOz D.TOi1 D.TOi2 hTO⟩ b2 b3 b4 b5 λc o c1 _ c3 c4 q=>b6 c o c1 c3 c4 q)) (T0 _)))
theorem qu0{TI TO:Addr}{k1 k2:Nat}{xs ys:Array Value}{a b:Value}{Q:Value->Shared->Prop}(hh:A.handled=none)(D:ZipApart z TI TO i1 i2 l1 l2)
  (hz:mh0 s.heap z TI TO) (hTI:IsPair s.heap TI (.ref i1) (.ref i2)) (hTO:IsPair s.heap TO a b)
  (h1:s.heap.IsListIter i1 l1 k1) (h2:s.heap.IsListIter i2 l2 k2) (hl1:s.heap.IsList l1 xs) (hl2:s.heap.IsList l2 ys) (hend:xs[k1]?=none∨ys[k2]?=none)
  (hE:∀h' e,(∀c o,c≠z->c≠TO->c≠i1->c≠i2->s.heap.get? c=some o->h'.get? c=some o)->(∃o,h'.get? e=some o/\o.cls=.type "StopIteration")->E (.ref e) { s with heap:=h' }) :
  wpAny (model prog w) A (Builtin.SmallTypes.nextOf (.ref z)) Q E s:=by
 obtain⟨v,f,hz,hv⟩:=hz;have hT:s.TypeIs (.ref z) "zip" := ⟨_,hz,rfl⟩;have again:(∀(E':Value->Shared->Prop) (A':Around) (Q':Bool->Shared->Prop),Q' true s->wpAny (model prog w) A' (Builtin.SmallTypes.ownedTupleIsFree (.ref z)) Q' E' s)->wpAny (model prog w) A (Builtin.SmallTypes.nextOf (.ref z)) Q E s:=λhf=>by
  unfold Builtin.SmallTypes.nextOf;exact A0 (E3 (name:=Str.ofString "__next__") hT D6
   (D1 D6 hT S2 (iu0 hh D hz (λQ' q=>hf _ _ Q' q) hTI hTO h1 h2 hl1 hl2 hend hE) (T0 _)))
 rcases hv with rfl|⟨a0,rfl⟩
 ·exact again λE' A' Q' q=>p90 hz q
 ·cases e:s.heap.get? a0 with
  | none=>exact again λE' A' Q' q=>pd0 hz e q
  | some oa =>
   unfold Builtin.SmallTypes.nextOf;exact A0 (E3 (name:=Str.ofString "__next__") hT D6
    (D1 D6 hT S2 (k50 hh D hz e hTI h1 h2 hl1 hl2 hend λh' e hk he=>hE h' e (λc o c1 _ c3 c4 q=>hk c o c1 c3 c4 q) he) (T0 _)))
theorem f70{e:Addr}{old:Value}{Q:Value->Shared->Prop}{R:Value->Heap->Prop}(he:IsEnum s.heap e it i old)
  (inner:∀(Q':Value->Shared->Prop),(∀x h₁,R x h₁->IsEnum h₁ e it i old->Q' x { s with heap:=h₁ })->wpAny (model prog w) A (Builtin.SmallTypes.nextOf (.ref it)) Q' E s)
  (hQ:∀x h₁ h',R x h₁->IsEnumOut h' e it ((i:Int)+1) x h₁.objs.size->h'.get? h₁.objs.size=some { cls:=.type "tuple",data:=.seq #[.int i s.toks,x] } ->
   (∀b o,b≠e->h₁.get? b=some o->h'.get? b=some o)->Q (.ref h₁.objs.size) { s with heap:=h',toks:=s.toks+1 }) :
  wpAny (model prog w) A (Builtin.«enumerate.__next__» ⟨[.ref e],[]⟩) (λfin s'=>∃v,fin=.done (.ret v)/\Q v s') E s:=by
 obtain⟨hp,g,d,tk,os⟩:=s;show wpAny _ _ (field (.ref e) 2>>=_) _ _ _;refine A0 (B9 he rfl (x:=.ref it) rfl ?_);refine A0 (inner _ λx h₁ hR a0=>?_);show wpAny _ _ (field (.ref e) 3>>=_) _ _ ⟨h₁,g,d,tk,os⟩;refine A0 (B9 a0 rfl (x:=rawInt i) rfl ?_);show wpAny _ _ (field (.ref e) 4>>=_) _ _ ⟨h₁,g,d,tk,os⟩;refine A0 (B9 a0 rfl (x:=.none) rfl ?_);show wpAny _ _ (mkInt i>>=_) _ _ ⟨h₁,g,d,tk,os⟩;refine A0 (wpAny_mkInt ?_);show wpAny _ _ (setField (.ref e) 3 (rawInt ((i:Int)+1))>>=_) _ _ ⟨h₁,g,d,tk+1,os⟩;refine A0 (E4 a0 (by simp) λh₂ a2 L=>?_)
 replace L:Heap.SameBut e h₁ h₂:=L
 replace a2:IsEnum h₂ e it ((i:Int)+1) old:=a2
 show wpAny _ _ (setField (.ref e) 4 .none>>=_) _ _ ⟨h₂,g,d,tk+1,os⟩;refine A0 (E4 a2 (by simp) λh₃ a5 J=>?_)
 replace J:Heap.SameBut e h₂ h₃:=J
 replace a5:IsEnum h₃ e it ((i:Int)+1) old:=a5
 show wpAny _ _ (newTuple [.int i tk,x]>>=_) _ _ ⟨h₃,g,d,tk+1,os⟩;refine A0 (r9 ?_);have O:IsEnum (h₃.push { cls:=.type "tuple",data:=.seq #[.int i tk,x] }) e it ((i:Int)+1) old:=A8 _ a5;generalize hh₄:h₃.push { cls:=.type "tuple",data:=.seq #[.int i tk,x] }=h₄ at O;have a8:h₃.objs.size=h₁.objs.size:=by rw[J.1,L.1]
 have a7:e<h₁.objs.size:=A6 a0;have a9:h₄.get? h₁.objs.size=some { cls:=.type "tuple",data:=.seq #[.int i tk,x] }:=by rw[← hh₄,← a8];exact B5 _ rfl
 have b0:∀b o,b≠e->h₁.get? b=some o->h₄.get? b=some o:=λb o F hb=>by
  rw[← hh₄];exact A8 _ (J.extBut b o F (L.extBut b o F hb))
 show wpAny _ _ (Builtin.SmallTypes.ownedTupleIsFree (.ref e)>>=_) _ _ ⟨h₄,g,d,tk+1,os⟩;rw[a8];refine A0 ?_
 ·unfold Builtin.SmallTypes.ownedTupleIsFree
  refine A0 (B9 O rfl (x:=.none) rfl (A1 ?_));simp only[if_true];refine A0 (D5 ?_);refine A0 (B9 O rfl (x:=old) rfl ?_);refine A0 (E4 O (by simp) λh₅ a3 Z=>?_)
  replace Z:Heap.SameBut e h₄ h₅:=Z
  replace a3:IsEnum h₅ e it ((i:Int)+1) x:=a3
  show wpAny _ _ (Builtin.SmallTypes.ownedTupleHandOut (.ref e) (.ref h₁.objs.size)>>=_) _ _ ⟨h₅,g,d,tk+1,os⟩;refine A0 ?_
  ·unfold Builtin.SmallTypes.ownedTupleHandOut
   refine A0 (E4 a3 (by simp) λh₆ a6 Y=>?_)
   replace Y:Heap.SameBut e h₅ h₆:=Y
   replace a6:IsEnumOut h₆ e it ((i:Int)+1) x h₁.objs.size:=a6
   refine E4 a6 (by simp) λh₇ a4 a1=>?_
   replace a1:Heap.SameBut e h₆ h₇:=a1
   replace a4:IsEnumOut h₇ e it ((i:Int)+1) x h₁.objs.size:=a4
   refine A0 (i4 (A1 ⟨_,rfl,hQ x h₁ h₇ hR a4 ?_ ?_⟩))
   ·exact a1.extBut _ _ (B8 a7) (Y.extBut _ _ (B8 a7) (Z.extBut _ _ (B8 a7) a9))
   ·exact λb o F hb=>a1.extBut b o F (Y.extBut b o F (Z.extBut b o F (b0 b o F hb)))
end
set_option maxHeartbeats 1000000 in
theorem q90(z TI TO:Addr)(v:Value)(f:Bool) :
  Meets (Builtin.«enumerate.__new__» ⟨[.type "enumerate",.ref z],[]⟩) (λ_ R s=>yg0 s.heap z TI TO v f /\
   R (.ok (.ret (.ref s.heap.objs.size))) { s with heap:=s.heap.push { cls:=.type "enumerate",data:=.fields #[.none,.bool false,.ref z,rawInt 0,.none,.none] } }) :=
 .of_wp λprog w A R s h=>by
  obtain⟨hp,g,d,tk,os⟩:=s;obtain⟨hl,h⟩:=h;have F:=sub_enumerate
  wp_walk using K0 hl
  refine wpAny_stack_any λst=>A1 ?_
  split
  ·rename_i c _ _ _ _ _
   cases (c==Value.type "enumerate")
   ·wp_walk using K0 hl,op0 (s:=⟨hp,g,d,tk,os⟩) hl
    exact⟨_,rfl,h⟩
   ·wp_walk using K0 hl,op0 (s:=⟨hp,g,d,tk,os⟩) hl
    exact⟨_,rfl,h⟩
  ·wp_walk using K0 hl,op0 (s:=⟨hp,g,d,tk,os⟩) hl
   exact⟨_,rfl,h⟩
theorem o30{prog:Program}{w:World}{A:Around}{E:Value->Shared->Prop}{s:Shared}{TI TO:Addr}{f:Bool}{Q:Value->Shared->Prop}(hz:yg0 s.heap z TI TO v f)
  (h:∀h',IsEnum h' s.heap.objs.size z 0 .none->h'.objs.size=s.heap.objs.size+1->(∀b o,s.heap.get? b=some o->h'.get? b=some o)->Q (.ref s.heap.objs.size) { s with heap:=h' }) :
  wpAny (model prog w) A (call (.type "enumerate") [.ref z]) Q E s:=by
 refine callType_new Av0 (by decide) (F.typeCall_enumerate_1 _) (F.newCall_enumerate_1 _) (λobj=>F.args_object_init_2 obj _) F.entry_enumerate_new
  (q90 z TI TO v f) ⟨hz,?_⟩
 have he:IsEnum (s.heap.push { cls:=.type "enumerate",data:=.fields #[.none,.bool false,.ref z,rawInt 0,.none,.none] }) s.heap.objs.size z 0 .none:=B5 _ rfl;exact⟨⟨_,he,rfl⟩,h _ he (by rw[Heap.size_push]) λb o x=>A8 _ x⟩
end ZipL
namespace L2
open Spec PyProof.Rows
def Y40(K:W.Frag)(a b:Addr):It :=
 ⟨λi H=>∃xs ys x y,SqL K H a xs/\SqL K H b ys/\xs[i]?=some x/\ys[i]?=some y,
   λi H v H'=>∃t u x y,v=.ref t/\H u=none/\upd H u (.tup [x,y]) t=none/\H'=upd (upd H u (.tup [x,y])) t (.tup [.int (i:Int),.ref u])/\(∀xs,SqL K H a xs->xs[i]?=some x)/\∀ys,SqL K H b ys->ys[i]?=some y,
   λi H=>∃xs ys,SqL K H a xs/\SqL K H b ys/\(xs.length<=i∨ys.length<=i)⟩
theorem j40{P:Program}{w:World}{K:W.Frag}{elts:List Expr}{x1}{pos:Pos}{e TI TO b:Addr}(D:ZipApart z TI TO i1 i2 a b)(hne:∀c∈[z,TI,TO,i1,i2],c≠e) :
  Turn P w K (.Tuple elts x1 pos) (Y40 K a b) [e,z,TI,TO,i1,i2] e
  (λi h=>(∃old,IsEnum h e z i old)/\ZipL.mh0 h z TI TO/\IsPair h TI (.ref i1) (.ref i2)/\(∃p q,IsPair h TO p q)/\h.IsListIter i1 a i/\h.IsListIter i2 b i) where
 mem:=by simp
 obj:=λi h st c hc=>by
  obtain⟨⟨old,he⟩,⟨v,f,hz,_⟩,hTI,⟨p,q,F⟩,⟨o1,e1,c1,d1⟩,⟨o2,e2,c2,d2⟩⟩:=st;simp only[List.mem_cons,List.not_mem_nil,or_false] at hc;rcases hc with rfl|rfl|rfl|rfl|rfl|rfl
  ·exact⟨_,he,λv z=>nomatch z⟩
  ·exact⟨_,hz,λv z=>nomatch z⟩
  ·exact⟨_,hTI,λv z=>nomatch z⟩
  ·exact⟨_,F,λv z=>nomatch z⟩
  ·exact⟨_,e1,λv z=>by rw[d1] at z;cases z⟩
  ·exact⟨_,e2,λv z=>by rw[d2] at z;cases z⟩
 keep:=λi h h' st k=>by
  obtain⟨⟨old,he⟩,⟨v,f,hz,hv⟩,hTI,⟨p,q,F⟩,h1,h2⟩:=st;exact⟨⟨old,k e (by simp) _ he⟩,⟨v,f,k z (by simp) _ hz,hv⟩,k TI (by simp) _ hTI,⟨p,q,k TO (by simp) _ F⟩,h1.at λo e=>k i1 (by simp) o e,h2.at λo e=>k i2 (by simp) o e⟩
 item:=by
  intro X hP hw hK hc i pins s σ H E I hf st hg;subst hP hw hK;obtain⟨⟨old,he⟩,hz,hTI,⟨p,q,F⟩,h1,h2⟩:=st;obtain⟨xs,ys,x,y,J,L,hx,hy⟩:=hg;obtain⟨us,O,p1,z1⟩:=I.list J;obtain⟨ws,Y,p2,z2⟩:=I.list L;obtain⟨u,hu,ru⟩:=O.get hx;obtain⟨w,hw,b3⟩:=Y.get hy;have hT:s.TypeIs (.ref e) "enumerate" := ⟨_,he,rfl⟩;have ez:e≠z:=(hne z (by simp)).symm;have b4:e≠TI:=(hne TI (by simp)).symm;have a8:e≠TO:=(hne TO (by simp)).symm;have a0:e≠i1:=(hne i1 (by simp)).symm;have a9:e≠i2:=(hne i2 (by simp)).symm;unfold pyNext;refine A0 (N1 (E3 (name:=Str.ofString "__next__") hT x8
   (D1 x8 hT Di0
    (ZipL.f70 he (R:=λv h'=>v=.ref s.heap.objs.size/\ZipL.mh0 h' z TI TO/\(∃p q,IsPair h' TO p q)/\h'.IsListIter i1 a (i+1)/\h'.IsListIter i2 b (i+1)/\IsPair h' s.heap.objs.size u w/\h'.objs.size=s.heap.objs.size+1 /\
      (∀c o,c≠z->c≠TO->c≠i1->c≠i2->s.heap.get? c=some o->h'.get? c=some o))
     (λQ' b5=>ZipL.ia0 D hz hTI F h1 h2 p1.isList p2.isList (x:=u) (y:=w) (by simpa using hu) (by simpa using hw) λh' a1 a2 a3 a4 a5 a6 hk=>b5 _ h' ⟨rfl,a1,a2,a3,a4,a5,a6,hk⟩ (hk _ _ ez a8 a0 a9 he))
     λv h₁ h' hR ho b7 b9=>A1 ?_) (Dj0 _))))
  obtain⟨rfl,a1,a2,a3,a4,a5,a6,hk⟩:=hR;refine⟨_,rfl,At0 (s:={ s with heap:=h',toks:=s.toks+1 }) ho λb0 b1 hs=>?_⟩;have lt:∀{c o},s.heap.get? c=some o->c<s.heap.objs.size:=λe=>A6 e
  obtain⟨v0,f0,b6,_⟩:=id hz;have le:=lt he;have lz:=lt b6;have c4:=lt F;have c6:=lt hTI;obtain⟨o1,e1,_⟩:=id h1;obtain⟨o2,e2,_⟩:=id h2;have l1:=lt e1;have l2:=lt e2;have a7:∀c∈[e,z,TI,TO,i1,i2],c<s.heap.objs.size:=λc hc=>by
   simp only[List.mem_cons,List.not_mem_nil,or_false] at hc;rcases hc with rfl|rfl|rfl|rfl|rfl|rfl<;>assumption
  obtain⟨I1,fr⟩:=I.turnedNew (h':=h₁) (t':=s.toks) (fp:=[e,z,TI,TO,i1,i2]) hf ru b3 a7 a5 (λc o hc e=>by
   simp only[List.mem_cons,List.not_mem_nil,or_false,not_or] at hc;exact hk c o hc.2.1 hc.2.2.2.1 hc.2.2.2.2.1 hc.2.2.2.2.2 e)
  have up:∀c o,c≠e->h₁.get? c=some o->b0.get? c=some o:=λc o hc q=>(hs.2 c hc).trans (b9 c o hc q)
  obtain⟨I2,c0⟩:=I1.turnedNew (h':=b0) (t':=s.toks+1) (fp:=[e,z,TI,TO,i1,i2]) (x:=.int (i:Int)) (u:=.int i s.toks) (y:=.ref s.heap.objs.size) (w:=.ref s.heap.objs.size) (λb hb=>⟨fr b hb,(hf b hb).2⟩) ⟨_,rfl⟩ rfl
   (λc hc=>by show c<h₁.objs.size;rw[a6];exact P6 (a7 c hc)) ((hs.2 _ (by show h₁.objs.size≠e;rw[a6];exact B8 (P6 le))).trans b7) (λc o hc q=>by
   simp only[List.mem_cons,List.not_mem_nil,or_false,not_or] at hc;exact up c o hc.1 q)
  refine⟨.ref h₁.objs.size,_,I2,rfl,⟨_,s.heap.objs.size,x,y,rfl,I.hok.fresh (A4 _),I1.hok.fresh (A4 _),rfl,λys Z=>by rw[I.list_inj Z J];exact hx,λc5 Z=>by rw[I.list_inj Z L];exact hy⟩,
   ⟨⟨_,by simpa using b1⟩,?_,up _ _ b4.symm (hk _ _ D.TIz D.TITO D.TIi1 D.TIi2 hTI),?_,a3.at λo q=>up _ o a0.symm q,a4.at λo q=>up _ o a9.symm q⟩,c0⟩
  ·obtain⟨v,f,q1,q2⟩:=a1
   exact⟨v,f,up _ _ ez.symm q1,q2⟩
  ·obtain⟨p',q',r⟩:=a2
   exact⟨p',q',up _ _ a8.symm r⟩
 done:=by
  intro X hP hw hK hc i pins s σ H E I hf st hg;subst hP hw hK;obtain⟨⟨old,he⟩,hz,hTI,⟨p,q,F⟩,h1,h2⟩:=st;obtain⟨xs,ys,J,L,b2⟩:=hg;obtain⟨us,O,p1,z1⟩:=I.list J;obtain⟨ws,Y,p2,z2⟩:=I.list L;have l1:=O.length;have l2:=Y.length;have hT:s.TypeIs (.ref e) "enumerate" := ⟨_,he,rfl⟩;unfold pyNext;refine A0 (N1 (E3 (name:=Str.ofString "__next__") hT x8
   (D1 x8 hT Di0 ?_ (Dj0 _))))
  show wpAny _ _ (field (.ref e) 2>>=_) _ _ _;refine A0 (B9 he rfl (x:=.ref z) rfl ?_);refine A0 (ZipL.qu0 (A:=X.A.in1) (I.ok.hd hc) D hz hTI F h1 h2 p1.isList p2.isList (b2.imp (λh=>by simp;omega) λh=>by simp;omega) λh' x hk b8=>?_);obtain⟨o,ho,c3⟩:=b8;refine A0 (r8 (T := "StopIteration") (b:=true) ⟨o,ho,c3⟩ Aq0 ?_);refine A1 ⟨rfl,I.turnedL (t':=s.toks) (fp:=[e,z,TI,TO,i1,i2]) hf λc o hc e=>?_⟩;simp only[List.mem_cons,List.not_mem_nil,or_false,not_or] at hc;exact hk c o hc.2.1 hc.2.2.2.1 hc.2.2.2.2.1 hc.2.2.2.2.2 e
 self:=λ_ _ _ _ _ st h=>by
  obtain⟨⟨old,he⟩,_⟩:=st;exact U1 he h
def Zm0(K:W.Frag)(ta:TA):TI:=fun σ H R=>ta σ H λvs H1=>∃a b,vs=[.ref a,.ref b]/\(∃xs,SqL K H1 a xs)/\(∃ys,SqL K H1 b ys)/\R (Y40 K a b) H1
theorem da0{a:Expr}{ta:TA}{p pos p2 pos2:Pos}(hg1:Gl X "enumerate")(hm1:X.mg "enumerate"=none)(hg:Gl X "zip")(hm:X.mg "zip"=none)(ha:PA X [a,b] ta)
  (e1:starEach [.Call (.Name "zip" p2) [a,b] [] pos2] X.env=(false,eval (.Call (.Name "zip" p2) [a,b] [] pos2) X.env)::starEach [] X.env:=by rfl) (h1':(backTo pos (starEach [] X.env)).any (·.1)=false:=by rfl)
  (hs:starEach [a,b] X.env=(false,eval a X.env)::starEach [b] X.env:=by rfl) (hs2:(backTo pos2 (starEach [b] X.env)).any (·.1)=false:=by rfl) :
  PI X (.Tuple elts x1 tpos) (.Call (.Name "enumerate" p) [.Call (.Name "zip" p2) [a,b] [] pos2] [] pos) (Zm0 X.K ta):=by
 intro pins s σ H R I h;refine Call_ (K7 I hg1 hm1 ud0 ?_);refine E9 ?_ e1 h1';rw[e1];show wpAny _ _ (spliced ((false,eval (.Call (.Name "zip" p2) [a,b] [] pos2) X.env)::backTo pos (starEach [] X.env))) _ _ s;refine Y1 ?_;refine M1 (K7 I hg hm boot_zip ?_);refine E9 (thn (ha pos2 pins s σ H _ I h) λus s1 ⟨vs,H1,I1,r1,q1⟩=>?_) hs hs2;obtain⟨qa,qb,e,⟨xs,h1⟩,⟨ys,h2⟩,q⟩:=q1;subst e;cases r1 with
 | cons r rr =>
  cases rr with
  | cons r' rr =>
   cases rr;obtain rfl:=r;obtain rfl:=r';obtain⟨us1,v1,p1,z1⟩:=I1.list h1;obtain⟨us2,v2,p2,z2⟩:=I1.list h2;have a1:qa<s1.heap.objs.size:=by obtain⟨_,e,_⟩:=p1.isList;exact A6 e
   have a2:qb<s1.heap.objs.size:=by obtain⟨_,e,_⟩:=p2.isList;exact A6 e
   refine call_zip_2 p1.isList p2.isList λh' hz hTI O hi1 hi2 J hk=>X9 ?_
   refine ZipL.o30 (s:={ s1 with heap:=h' }) hz λL he Y F=>?_
   refine U1 (s:={ s1 with heap:=L }) he ?_;have sz:h'.objs.size=s1.heap.objs.size+5:=J;refine⟨_,_,_,_,H1,rfl,I1.kept (t':=s1.toks) λb o q=>F b o (hk b o q),j40 (zipApart_new a1 a2) (λc hc=>?_),⟨⟨_,he⟩,⟨_,_,F _ _ hz,.inl rfl⟩,F _ _ hTI,⟨_,_,F _ _ O⟩,hi1.at λo q=>F _ o q,hi2.at λo q=>F _ o q⟩,λb hb=>?_,q⟩
   ·simp only[List.mem_cons,List.not_mem_nil,or_false] at hc
    show c≠h'.objs.size;rw[sz];rcases hc with rfl|rfl|rfl|rfl|rfl<;>exact A9 (by omega)
   ·simp only[List.mem_cons,List.not_mem_nil,or_false] at hb
    rcases hb with rfl|rfl|rfl|rfl|rfl|rfl
    ·show xk0 X pins H1 h'.objs.size
     rw[sz];exact I1.fpOk (C4 _ 5) (I1.hok.fresh (C4 _ 5))
    ·exact I1.fpOk (C4 _ 4) (I1.hok.fresh (C4 _ 4))
    ·exact I1.fpOk (C4 _ 2) (I1.hok.fresh (C4 _ 2))
    ·exact I1.fpOk (C4 _ 3) (I1.hok.fresh (C4 _ 3))
    ·exact I1.fpOk (A4 _) (I1.hok.fresh (A4 _))
    ·exact I1.fpOk (C4 _ 1) (I1.hok.fresh (C4 _ 1))
end L2
namespace DL
open Spec PyProof.Rows L2
def wm0(ds es:List D):List D:=G7 ((ds.zip es).map λp=>D.tup [p.1,p.2])
def ka0:List D->Option (List D)
 | [.lst ds,.lst es]=>some (wm0 ds es)
 | _=>none
theorem ow0{es:List D}(h1:i<ds.length)(h2:i<es.length):(wm0 ds es)[i]?=some (.tup [.int (i:Int),.tup [ds[i],es[i]]]):=by
 have hz:(ds.zip es)[i]?=some (ds[i],es[i]):=As0.mpr ⟨C7 h1,C7 h2⟩;unfold wm0 G7;rw[List.getElem?_map,List.getElem?_range (by rw[List.length_map,List.length_zip];omega),Option.map_some,List.getD_eq_getElem?_getD,List.getElem?_map,hz];rfl
def v50(gA:Ds->Option (List D)):Ds->Option (List D):=fun δ=>(gA δ).bind ka0
section
variable{a:Expr}
theorem gn0(hm1:X.mg "enumerate"=none)(hm:X.mg "zip"=none)(ha:PDA X [a,b] gA)(hg1:Gl X "enumerate" := by rfl)(hg:Gl X "zip" := by rfl)
  (e1:starEach [.Call (.Name "zip" p2) [a,b] [] pos2] X.env=(false,eval (.Call (.Name "zip" p2) [a,b] [] pos2) X.env)::starEach [] X.env:=by rfl) (h1':(backTo pos (starEach [] X.env)).any (·.1)=false:=by rfl)
  (hs:starEach [a,b] X.env=(false,eval a X.env)::starEach [b] X.env:=by rfl) (hs2:(backTo pos2 (starEach [b] X.env)).any (·.1)=false:=by rfl) :
  PID X (.Tuple elts x1 tpos) (.Call (.Name "enumerate" p) [.Call (.Name "zip" p2) [a,b] [] pos2] [] pos) (v50 gA):=.mk λB δ=>L2.PI.imp (da0 hg1 hm1 hg hm (ha B δ) e1 h1' hs hs2) fun σ H R ⟨items,en,e1,k⟩=>by
 unfold v50 at e1;cases e2:gA δ with
 | none=>rw[e2] at e1;cases e1
 | some ds =>
  rw[e2] at e1;simp only[Option.bind_some] at e1;unfold ka0 at e1;split at e1<;>try cases e1
  rename_i ds es;refine⟨_,en,e2,λvs H' s' r=>?_⟩;rw[o4] at r;obtain⟨x,t,rfl,r1,r⟩:=r;rw[o4] at r;obtain⟨y,t,rfl,r2,r⟩:=r;rw[o7] at r;subst r;rw[Y6] at r1 r2;obtain⟨q1,us,rfl,s1,t1⟩:=r1;obtain⟨q2,ws,rfl,s2,t2⟩:=r2;have F:(wm0 ds es).length=min us.length ws.length:=by unfold wm0 G7;simp[t1.length,t2.length]
  refine⟨q1,q2,rfl,⟨us,s1.to⟩,⟨ws,s2.to⟩,k _ H' s' ⟨λi H2 g2 hi=>?_,λi H2 v H3 g2 y hi=>?_,λi H2 g2 hi=>?_⟩⟩
  ·rw[F] at hi
   have h1:i<us.length:=by omega
   have h2:i<ws.length:=by omega
   exact⟨us,ws,us[i],ws[i],(s1.mono g2).to,(s2.mono g2).to,by simp[h1],by simp[h2]⟩
  ·obtain⟨t,u,x,y,rfl,hu,ht,rfl,hx,hy⟩:=y
   rw[F,t1.length,t2.length] at hi;have h1:i<ds.length:=by omega
   have h2:i<es.length:=by omega
   obtain⟨x',e4,rx⟩:=t1.get (i:=i) (C7 h1);obtain⟨y',e5,ry⟩:=t2.get (i:=i) (C7 h2);have ex:=hx us (s1.mono g2).to;have ey:=hy ws (s2.mono g2).to;rw[e4] at ex;rw[e5] at ey;cases ex;cases ey;have tu:t≠u:=λz=>by subst z;rw[m8] at ht;cases ht
   have J:H2 t=none:=by rw[j7 tu] at ht;exact ht
   refine⟨(Z1 hu).trans (Z1 ht),.tup [.int (i:Int),.tup [ds[i],es[i]]],ow0 h1 h2,λB' gB hb=>?_⟩;exact tj0 (λz=>hb t z J) m8 (by rw[o8]) (tj0 (λz=>hb u z hu) (by rw[j7 tu.symm,m8]) (rx.mono gB) (ry.mono gB))
  ·rw[F] at hi
   exact⟨us,ws,(s1.mono g2).to,(s2.mono g2).to,by omega⟩
end
end DL
namespace SoT
open PyProof.Rows
section
variable{P:Program}{w:World}{s:Shared}
theorem e80{d:Value}{Q:Value->Shared->Prop}(col:∀(R:List Value->Shared->Prop) (E:Value->Shared->Prop),(∀h' tk,(∀b o,s.heap.get? b=some o->h'.get? b=some o)->R vs { s with heap:=h',toks:=tk })->wpAny (model P w) A.in1 (collect d) R E s)
  (hv:Prs s.heap vs) (h64:vs.length<=sizeLine)
  (h:∀(h' h1:Heap) (tk e:Nat) (out:Array Value),(∀b o,s.heap.get? b=some o->h'.get? b=some o)->out.toList.Perm vs->(out.toList.map (pk s.heap)).Pairwise (λx y=>lt2 x y=true)->(∀b o,h'.get? b=some o->h1.get? b=some o) ->
   h1.get? h'.objs.size=some (seqObj "list" out e)->Q (.ref h'.objs.size) { s with heap:=h1,toks:=tk }) :
  wpAny (model P w) A (call (.builtin "sorted") [d]) Q E s:=by
 refine Calls.call_function_entry kind_sorted plain_sorted entry_sorted (args_sorted1 _) ?_;unfold Builtin.«sorted»;refine A0 (m:=checkCount "sorted" 1 1 _) (A1 (A0 (col _ _ λh' tk hk=>A0 (wpAny_newList ?_))));obtain⟨g,hg⟩:∃g,g=h'.push (seqObj "list" vs.toArray 0):=⟨_,rfl⟩;have F:g.get? h'.objs.size=some (seqObj "list" vs.toArray 0):=by rw[hg];exact B5 _ rfl
 have kg:∀c o,s.heap.get? c=some o->g.get? c=some o:=λc o e1=>by rw[hg];exact A8 _ (hk c o e1)
 obtain⟨L,O⟩:=hv.to λc o e1 _=>kg c o e1
 show wpAny _ _ _ _ _ { s with heap:=h'.push (seqObj "list" vs.toArray 0),toks:=tk };rw[← hg];refine A0 (C3 (D1 slot_list_sort ⟨_,F,rfl⟩ entry_list_sort (Yj0 (s:={ s with heap:=g,toks:=tk }) F L h64 λout p1 p2=>⟨_,rfl,?_⟩) (args_list_sort _)));refine A1 ⟨_,rfl,?_⟩;have p3:(out.toList.map (pk s.heap)).Pairwise (λx y=>lt2 x y=true):=by
  rw[← List.map_congr_left λv hv=>O v (p1.mem_iff.mp hv)];exact p2
 have J:g.objs.size=h'.objs.size+1:=by rw[hg,Heap.size_push]
 obtain⟨e,he⟩:=sortedHeap_at (out:=out) F;refine h h' _ tk e out hk p1 p3 (λc o q=>?_) he;have lc:=A6 q;rw[sortedHeap_old (A9 lc) (by rw[J];exact P6 lc),hg];exact A8 _ q
end
end SoT
namespace L2
open Spec PyProof.Rows SoT
section
variable{s:Shared}
theorem gd0:∀{ps:List (Int×Int)} {ys:List V},KyV H (ps.map λq=>[Sum.inl q.1,Sum.inl q.2]) ys->PrV H ys ps
 | [],[],_=>trivial
 | [],_::_,h=>h.elim
 | _::_,[],h=>h.elim
 | q::ps,y::ys,h=>⟨h.1,gd0 h.2⟩
theorem kd0:∀{zs:List V} {qs:List (Int×Int)} {z:V},PrV H zs qs->z∈zs->∃a,z=.ref a/\∃xs,H a=some (.tup xs)
 | [],_,_,_,hz=>by cases hz
 | _::_,[],_,h,_=>h.elim
 | y::zs,q::qs,z,h,hz=>by
  obtain⟨⟨b,e,hb⟩,h2⟩:=h;rcases B2.mp hz with rfl|hz
  ·exact⟨b,e,_,hb⟩
  ·exact kd0 h2 hz
theorem jq0(hc:X.calm=true:=by rfl):CallR X (.builtin "sorted") (λxs H Q=>∃(d:Addr) (kvs:List (List Key×V)) (ps:List (Int×Int)),xs=[.ref d]/\H d=some (.dT kvs)/\kvs.map (·.1)=(ps.map λq=>[Sum.inl q.1,Sum.inl q.2])/\ps.Nodup /\
  ∀l zs,H l=none->PrV H zs (srt ps)->Q (.ref l) (upd H l (.lst zs))):=by
 intro pins s σ H xs us Q I r h;obtain⟨d,kvs,ps,rfl,e,Z,hn,k⟩:=h;obtain⟨u,rfl,rx⟩:=vals1 r;cases rx;obtain⟨z,hd,zs,rel,o,es,ep,h1,h2,h3,h4,h5⟩:=(show ObjOk X.prog X.w H s.heap d (.dT kvs) from I.hok d _ e);have hl:=rel.length;have L:es.size=kvs.length:=by rw[← Array.length_toList,h4,List.length_map,hl]
 have ky:∀{a:List (List Key×V)} {b:List (List Key×Addr×Value)},Paired (λ(p:List Key×V) (q:List Key×Addr×Value)=>p.1=q.1/\H q.2.1=some (.tup (p.1.map kV))/\RelV p.2 q.2.2) a b->KyV H (a.map (·.1)) (b.map λq=>V.ref q.2.1):=by
  intro a b q
  induction q with
  | nil=>trivial
  | cons q t ih=>exact⟨⟨_,rfl,q.2.1⟩,ih⟩
 have hp:PrV H (zs.map λq=>V.ref q.2.1) ps:=gd0 (by rw[← Z];exact ky rel);have rv:∀l:List (List Key×Addr×Value),Vals (l.map λq=>V.ref q.2.1) (l.map λq=>Value.ref q.2.1):=λl=>by
  induction l with
  | nil=>exact .nil
  | cons q l ih=>exact .cons rfl ih
 obtain⟨i1,i2,i3⟩:=ix0 I (rv zs) hp;refine e80 (vs:=zs.map λq=>Value.ref q.2.1) (λR E hR=>?_) ⟨i2,by rw[i1];exact hn⟩ (by rw[List.length_map,← hl];exact z) λh' a0 tk ee F hk p1 p2 Y he=>?_
 ·refine W.kdu_collect (RawD.src (es:=es) (ep:=ep) hd) (I.ok.hd hc) ⟨o,h1,h2,h3⟩ (by rw[L];exact z) λh' tk O hk J=>?_
  have e1:O.toList=zs.map λq=>Value.ref q.2.1:=by
   refine Ax0 λi=>?_
   cases hq:O.toList[i]? with
   | none =>
    rw[List.getElem?_eq_none_iff,Array.length_toList,J.1,L] at hq;rw[List.getElem?_eq_none (by rw[List.length_map];omega)]
   | some v =>
    obtain⟨en,e2,e3⟩:=J.2 i v (by rw[← Array.getElem?_toList];exact hq);rw[← Array.getElem?_toList,h4,List.getElem?_map] at e2;rw[List.getElem?_map];cases hz:zs[i]? with
    | none=>rw[hz] at e2;cases e2
    | some q=>rw[hz] at e2;cases e2;rw[e3];rfl
  rw[e1];exact hR h' tk hk
 ·have hs:F.toList.map (pk s.heap)=srt ps:=by
   refine Zl0 ?_ p2;have:=p1.map (pk s.heap)
   rwa [i1] at this
  obtain⟨ys,y1,y2,y3⟩:=mc0 (H:=H) (h:=s.heap) (ys:=zs.map λq=>V.ref q.2.1) (vs:=F.toList) λv hv=>i3 v (p1.mem_iff.mp hv)
  rw[hs] at y2;have I1:Inv X pins σ H { s with heap:=h',toks:=tk }:=I.kept (t':=tk) hk;refine⟨.ref h'.objs.size,_,I1.laid (t':=tk) (a:=h'.objs.size) (o:=.lst ys) (λb o hb=>Y b o hb) (A4 _) ⟨?_,F.toList,ee,y1,he⟩,rfl,k _ ys (I1.hok.fresh (A4 _)) y2⟩;rw[y1.length,p1.length_eq,List.length_map,← hl];exact z
end
end L2
namespace DL
open Spec PyProof.Rows L2 SoT
def kyP:List (List V5)->Option (List (Int×Int))
 | []=>some []
 | [.inl i,.inl j]::ks=>(kyP ks).map λr=>(i,j)::r
 | _=>none
def v20:List D->Option D
 | [.dct (.inr ks) _]=>(kyP ks).bind λps=>if ps.Nodup then some (.lst ((srt ps).map pD)) else none
 | _=>none
theorem ft0:∀{ks:List (List V5)} {ps:List (Int×Int)},kyP ks=some ps->ks=ps.map λq=>[Sum.inl q.1,Sum.inl q.2]
 | [],ps,h=>by unfold kyP at h;cases h;rfl
 | [.inl i,.inl j]::ks,ps,h=>by
  unfold kyP at h;cases e:kyP ks with
  | none=>rw[e] at h;cases h
  | some r=>rw[e] at h;cases h;rw[List.map_cons,← ft0 e]
 | []::_,_,h=>by simp[kyP] at h
 | [_]::_,_,h=>by simp[kyP] at h
 | (.inr _::_)::_,_,h=>by simp[kyP] at h
 | (_::.inr _::_)::_,_,h=>by simp[kyP] at h
 | (_::_::_::_)::_,_,h=>by simp[kyP] at h
theorem hh0:∀ps:List (Int×Int),kyP (ps.map λq=>[Sum.inl q.1,Sum.inl q.2])=some ps
 | []=>rfl
 | q::ps=>by show (kyP (ps.map _)).map _=_;rw[hh0 ps];rfl
theorem db0{ps:List (Int×Int)}(h1:ps.Nodup):v20 [.dct (.inr (ps.map λq=>[Sum.inl q.1,Sum.inl q.2])) ds]=some (.lst ((srt ps).map pD)):=by
 show (kyP _).bind _=_;rw[hh0,Option.bind_some,if_pos h1]
theorem g50(hc:X.calm=true)(hm:X.mg "sorted"=none)(hv:bootBuiltins "sorted"=some (.builtin "sorted"))(ha:PD X e g)(hg:Gl X "sorted" := by rfl)
  (he:starEach [e] X.env=(false,eval e X.env)::starEach [] X.env:=by rfl) (hpl:(backTo pos (starEach [] X.env)).any (·.1)=false:=by rfl) :
  PDF X (.Call (.Name "sorted" p) [e] [] pos) (oA (z9 g v6) v20):=.mk λB δ=>(se0 (jq0 hc) hg hm hv (zo0 (ha B δ) xg0 he) (by decide) (by decide) he hpl).imp fun σ H Q ⟨d,en,h,k⟩=>by
 unfold oA z9 v6 at h;cases e1:g δ with
 | none=>rw[e1] at h;cases h
 | some x =>
  rw[e1] at h;simp only[Option.bind_some,Option.map_some] at h;refine⟨x,en,e1,λv H1 s1 r1=>?_⟩;unfold v20 at h;split at h
  ·rename_i ks ds he1
   injection he1 with he1
   subst he1;cases e2:kyP ks with
   | none=>rw[e2] at h;cases h
   | some ps =>
    rw[e2] at h;simp only[Option.bind_some] at h;split at h
    ·rename_i hz
     cases h;rw[q60] at r1;obtain⟨q,xs,rfl,_,hq,hl,rr⟩:=r1;refine⟨q,ks.zip xs,ps,rfl,hq,by rw[← ft0 e2];exact List.map_fst_zip (d6 hl),hz,λl zs F L=>?_⟩;refine k l _ (s1.free F) (s1.trans (Z1 F)) ⟨zs,m8,?_⟩;refine Rps.same (Z1 F) (fk0 L λz hz=>?_);obtain⟨a,rfl,O,J⟩:=kd0 L hz;exact⟨a,rfl,λw=>w.elim (λw=>((en.same s1).bad a w).nt _ J) λw=>by subst w;rw[F] at J;cases J⟩
    ·cases h
  ·cases h
end DL
namespace W
open DL
def hasAll(x s:Str):Bool:=x.cps.toList.all λc=>decide (c∈s.cps.toList)
def nameS:Str := "0123456789abcdefghijklmnopqrstuvwxyz"
def og0:Str := " 0123456789abcdefghijklmnopqrstuvwxyz"
def isName(x:Str):Bool:=(decide ((x.length:Int)<=8)&&hasAll x nameS)&&decide (0<(x.length:Int))
def isWord(x:Str):Bool:=decide ((x.length:Int)<=20)&&hasAll x og0
def marks(x:D)(m:Str):Bool:=match x with
 | .str y=>decide (y=m)
 | _=>false
def rz0:D->Bool
 | .non=>true
 | .int _=>true
 | .tup [x,.int i]=>marks x "at"&&decide (0<=i)
 | _=>false
def Vv0:D->Str
 | .tup (.str n::_)=>n
 | _ => ""
inductive Pt where
 | text (w:Str)|row (vs:List D)|table (ps:List (Str×D))|rcd (c:Str) (ps:List (Str×D))
variable{ps qs:List W.Pt}
def pr(p:Str×D):D:=.tup [.str p.1,p.2]
def Pt.d:Pt->D
 | .text w=>.tup [.str "text",.str w]
 | .row vs=>.tup [.str "row",.tup vs]
 | .table ps=>.tup [.str "table",.tup (ps.map pr)]
 | .rcd c ps=>.tup [.str "record",.str c,.tup (ps.map pr)]
def Pt.vals:Pt->List D
 | .text _=>[]
 | .row vs=>vs
 | .table ps=>ps.map (·.2)
 | .rcd _ ps=>ps.map (·.2)
def Pt.pnames:Pt->List Str
 | .text _=>[]
 | .row _=>[]
 | .table ps=>ps.map (·.1)
 | .rcd _ ps=>ps.map (·.1)
def Pt.cls:Pt->List Str
 | .rcd c _=>[c]
 | _=>[]
def Pt.all(p:Pt):List Str:=p.pnames++p.cls
def lk:D->Option Int
 | .tup [_,.int i]=>some i
 | _=>none
structure PsOk(ps:List (Str×D)):Prop where
 len:ps.length<=12
 names:∀p∈ps,isName p.1=true
 vals:∀p∈ps,rz0 p.2=true
 nd:(ps.map (·.1)).Nodup
def Pt.Ok:Pt->Prop
 | .text w=>isWord w=true
 | .row vs=>vs.length<=12/\∀v∈vs,rz0 v=true
 | .table ps=>PsOk ps
 | .rcd c ps=>isName c=true/\PsOk ps
theorem i30{n:Str}(h:isName n=true):n.length<=8:=by
 unfold isName at h;simp only[Bool.and_eq_true,decide_eq_true_eq] at h;omega
theorem m10(ps:List (Str×D)):V2 (gN 0) noT (o2 (gv 0) (gc (.int 1)) ixD) [.un] (ps.map pr)=some (ps.map (·.2)):=by
 rw[O5 (λd=>match d with|.tup [_,v]=>v|_=>.non) (λd hd=>by
  obtain⟨p,hp,rfl⟩:=B0.mp hd;exact⟨[.sh (pr p)],rfl,rfl,rfl⟩),List.map_map]
 rfl
theorem nd0(ps:List (Str×D)):V2 (gN 0) noT (o2 (gv 0) (gc (.int 0)) ixD) [.un] (ps.map pr)=some ((ps.map (·.1)).map .str):=by
 rw[O5 (λd=>.str (Vv0 d)) (λd hd=>by
  obtain⟨p,hp,rfl⟩:=B0.mp hd;exact⟨[.sh (pr p)],rfl,rfl,rfl⟩),List.map_map,List.map_map]
 rfl
def Pt.few(p:Pt):Prop:=p.vals.length<=sizeLine
theorem p40{v:D}(h:rz0 v=true):v=.non∨(∃i,v=.int i)∨∃i,v=.tup [.str "at",.int i]/\0<=i:=by
 cases v with
 | non=>exact .inl rfl
 | int i=>exact .inr (.inl ⟨i,rfl⟩)
 | tup xs =>
  match xs,h with
  | [x,.int i],h =>
   simp only[rz0,Bool.and_eq_true,decide_eq_true_eq] at h;cases x<;>simp[marks] at h
   exact .inr (.inr ⟨i,by rw[h.1],h.2⟩)
 | _=>cases h
def V8:Str := "abcdefghijklmnopqrstuvwxyz0123456789"
def cg(i:Int):Nat:=V8.cps.toList.getD i.toNat 0
theorem kv0(i:Int)(h0:0<=i)(h1:i<36):ixD (.str V8) (.int i)=some (.str ⟨#[cg i]⟩):=by
 have hl:V8.cps.toList.length=36:=by decide +kernel
 have hz:V8.length<=sizeLine:=by decide +kernel
 have:=yi0 (xs:=V8.cps.toList) (i:=i) h0 (by rw[hl];omega) 0;simp only[ixD,if_pos hz,this,Option.map_some];rfl
theorem f40(i:Int)(h0:0<=i)(h1:i<36):cg i∈nameS.cps.toList:=by
 have h:∀n:Nat,n<36->V8.cps.toList.getD n 0∈nameS.cps.toList:=by decide +kernel
 exact h i.toNat (by omega)
theorem Zj0(i j:Int)(h0:0<=i)(h1:i<36)(h2:0<=j)(h3:j<36)(e:cg i=cg j):i=j:=by
 have h:∀n:Nat,n<36->∀m:Nat,m<36->V8.cps.toList.getD n 0=V8.cps.toList.getD m 0->n=m:=by decide +kernel
 have:=h i.toNat (by omega) j.toNat (by omega) e;omega
def ones(l:List Nat):List Str:=l.map λc=>⟨#[c]⟩
def strOf(l:List Nat):Str:=⟨l.toArray⟩
theorem join_ones(l:List Nat):Txt.join "" (ones l)=strOf l:=by
 have key:∀(l:List Nat) (F:List Nat),(ones l).foldl (λa p=>a++("" : Str).cps++p.cps) F.toArray=(F++l).toArray:=by
  intro l
  induction l with
  | nil=>intro F;simp[ones]
  | cons c l ih =>
   intro F;show (ones l).foldl _ (F.toArray++("" : Str).cps++#[c])=_;have e:F.toArray++("" : Str).cps++#[c]=(F++[c]).toArray:=by
    have:("" : Str).cps=#[]:=rfl;rw[this];simp
   rw[e,ih];simp
 cases l with
 | nil=>rfl
 | cons c l =>
  show (⟨_⟩:Str)=_;unfold strOf;congr 1;exact key l [c]
theorem p80:∀l:List Nat,((ones l).map (·.length)).sum=l.length
 | []=>rfl
 | c::l=>by
  show 1+((ones l).map (·.length)).sum=l.length+1;rw[p80 l];omega
theorem p70(l:List Nat)(h1:0<l.length)(h2:l.length<=8)(h3:∀c∈l,c∈nameS.cps.toList):isName (strOf l)=true:=by
 unfold isName hasAll;have e:(strOf l).length=l.length:=by show l.toArray.size=_;simp
 have e2:(strOf l).cps.toList=l:=by simp[strOf]
 rw[e,e2];simp only[Bool.and_eq_true,decide_eq_true_eq,List.all_eq_true];exact⟨⟨by omega,λc hc=>by simpa using h3 c hc⟩,by omega⟩
theorem p50{l m:List Nat}(h:strOf l=strOf m):l=m:=by
 unfold strOf at h;injection h with h
 simpa using E2 Array.toList h
end W
variable{ps qs:List W.Pt}
namespace Ra
open DL
def uq0:GS:=(v8 (ifD (xn0 (ob (o2 (o2 (gv 0) (gc (.int 0)) ixD) (gc (.str "text")) eqD)) (ob (o2 (o2 (gv 0) (gc (.int 0)) ixD) (gc (.str "row")) eqD)))
 (v8 (z50 (Y0 v6))
 p6)
 p6)
 (v8 (z50 (W3 1 [] (tupI (o2 (gv 0) (unG m50 (gc (.int 1))) ixD)) (gN 0) noT (o2 (gv 0) (gc (.int 0)) ixD)))
 p6))
def mu0:List Str:=["part"]
def R7:List D->Option D:=mkN 1 mu0 uq0
def fd0:GS:=(v8 (ifD (ob (o2 (o2 (gv 0) (gc (.int 0)) ixD) (gc (.str "text")) eqD))
 (v8 (d8 (Y7 (z9 (gc (.str "text")) (z9 (o2 (gv 0) (gc (.int 1)) ixD) v6))))
 p6)
 p6)
 (v8 (ifD (ob (o2 (o2 (gv 0) (gc (.int 0)) ixD) (gc (.str "row")) eqD))
 (v8 (d8 (Y7 (z9 (gc (.str "row")) (z9 (oA (z9 (o2 (gv 0) (gc (.int 1)) ixD) v6) Z5) v6))))
 p6)
 p6)
 (v8 (ifD (ob (o2 (o2 (gv 0) (gc (.int 0)) ixD) (gc (.str "table")) eqD))
 (v8 (d8 (Y7 (z9 (gc (.str "table")) (z9 (oA (z9 (oA (z9 (gv 0) v6) R7) v6) J6) v6))))
 p6)
 p6)
 (v8 (d8 (Y7 (z9 (gc (.str "record")) (z9 (o2 (gv 0) (gc (.int 1)) ixD) (z9 (oA (z9 (oA (z9 (gv 0) v6) R7) v6) J6) v6)))))
 p6))))
def Xt0:List Str:=["part"]
def Q9:List D->Option D:=mkF 1 Xt0 fd0
def oy0:GS:=(v8 (ifD (ob (o2 (o2 (gv 0) (gc (.int 0)) ixD) (gc (.str "text")) eqD))
 (v8 (z50 (Y0 v6))
 p6)
 p6)
 (v8 (ifD (ob (o2 (o2 (gv 0) (gc (.int 0)) ixD) (gc (.str "row")) eqD))
 (v8 (z50 (oA (z9 (o2 (gv 0) (gc (.int 1)) ixD) v6) yz0))
 p6)
 p6)
 (v8 (z50 (W3 1 [] (tupI (o2 (gv 0) (unG m50 (gc (.int 1))) ixD)) (gN 0) noT (o2 (gv 0) (gc (.int 1)) ixD)))
 p6)))
def ei0:List Str:=["part"]
def m_values:List D->Option D:=mkN 1 ei0 oy0
def u30:GS:=(v8 (ifD (ob (o2 (o2 (gv 0) (gc (.int 0)) ixD) (gc (.str "text")) eqD))
 (v8 (d8 (gv 0))
 p6)
 p6)
 (v8 (ifD (ob (o2 (o2 (gv 0) (gc (.int 0)) ixD) (gc (.str "row")) eqD))
 (v8 (d8 (Y7 (z9 (gc (.str "row")) (z9 (oA (z9 (gv 1) v6) J6) v6))))
 p6)
 p6)
 (v8 (j4 (gN 2) (oA (z9 (oA (z9 (gv 0) v6) R7) (z9 (gv 1) v6)) rf0))
 (v8 (ifD (ob (o2 (o2 (gv 0) (gc (.int 0)) ixD) (gc (.str "table")) eqD))
 (v8 (d8 (Y7 (z9 (gc (.str "table")) (z9 (gv 2) v6))))
 p6)
 p6)
 (v8 (d8 (Y7 (z9 (gc (.str "record")) (z9 (o2 (gv 0) (gc (.int 1)) ixD) (z9 (gv 2) v6)))))
 p6)))))
def o20:List Str:=["part", "some", "pairs"]
def V1:List D->Option D:=mkF 2 o20 u30
def kz0:GS:=(v8 (z50 (W3 1 [] (zp0 (oA (z9 (gv 0) v6) m_values)) (gN 0) (ob (zf0 isTup (gv 0))) (o2 (gv 0) (gc (.int 1)) ixD)))
 p6)
def cy0:List Str:=["part"]
def zk0:List D->Option D:=mkN 1 cy0 kz0
def qz0:GS:=(v8 (O1 3 (Y0 v6))
 (v8 (O1 4 (oA (z9 (gv 2) v6) v10))
 (v8 (O1 5 (Y0 (z9 (gv 1) v6)))
 (v8 (W9 (ob (o2 (zz0 (oA (z9 (gv 5) v6) Z5)) (gc (.int 0)) gtD))
 (v8 (T3 (ws0 5) (gN 6))
 (v8 (ifD (xz0 (ob (o2 (gv 6) (gv 4) (ze0 true))))
 (v8 (T3 (S6 (gc (.bl true))) (putAt 4 (gv 6)))
 (v8 (X7 (O2 3 (gv 6)))
 (v8 (X7 (xl0 5 (oA (z9 (oA (z9 (o2 (gv 0) (gv 6) ixD) v6) zk0) v6) s20)))
 p6)))
 p6)
 p6)) 100000)
 (v8 (qe0 3)
 p6)))))
def gf0:List Str:=["web", "k", "left", "order", "seen", "waiting", "part"]
def O6:List D->Option D:=mkN 3 gf0 qz0
def rd0:GS:=(v8 (j4 (gN 2) (W3 1 [1] (zp0 (oA (z9 (gv 0) v6) m_values)) (gN 0) noT (ifG (ob (zf0 isTup (gv 0))) (Y7 (z9 (gc (.str "at")) (z9 (o2 (gv 1) (o2 (gv 0) (gc (.int 1)) ixD) yk0) v6))) (gv 0))))
 (v8 (d8 (oA (z9 (gv 0) (z9 (gv 2) v6)) V1))
 p6))
def j20:List Str:=["part", "numbers", "some"]
def R4:List D->Option D:=mkF 2 j20 rd0
def tr0:GS:=(v8 (d8 (yl0 (zf0 isTup (o2 (gv 0) (gc (.int 0)) ixD)) (zf0 isTup (o2 (gv 0) (gc (.int 1)) ixD))))
 p6)
def tt0:List Str:=["both"]
def V0:List D->Option D:=mkF 1 tt0 tr0
def vv0:GS:=(v8 (d8 (Y7 (z9 (o2 (o2 (gv 0) (gc (.int 0)) ixD) (gc (.int 1)) ixD) (z9 (o2 (o2 (gv 0) (gc (.int 1)) ixD) (gc (.int 1)) ixD) v6))))
 p6)
def o40:List Str:=["both"]
def Z0:List D->Option D:=mkF 1 o40 vv0
def u40:GS:=(v8 (ifD (ob (oA (z9 (gv 2) v6) V0))
 (v8 (j4 (gN 3) (oA (z9 (gv 2) v6) Z0))
 (v8 (d8 (o2 (oA (z9 (o2 (gv 0) (o2 (gv 3) (gc (.int 0)) ixD) ixD) v6) Q9) (oA (z9 (o2 (gv 1) (o2 (gv 3) (gc (.int 1)) ixD) ixD) v6) Q9) M5))
 p6))
 p6)
 (v8 (d8 (o2 (o2 (gv 2) (gc (.int 0)) ixD) (o2 (gv 2) (gc (.int 1)) ixD) M5))
 p6))
def py0:List Str:=["one", "other", "both", "pair"]
def U4:List D->Option D:=mkF 3 py0 u40
def ox0:GS:=(v8 (O1 2 (Y0 v6))
 (v8 (j4 (gN 3) (o2 (gv 0) (gv 1) yk0))
 (v8 (W9 (ob (o2 (gv 3) (gc .non) t20))
 (v8 (X7 (O2 2 (o2 (gv 3) (gc (.int 1)) ixD)))
 (v8 (j4 (gN 3) (o2 (gv 0) (o2 (gv 3) (gc (.int 0)) ixD) yk0))
 p6)) 100000)
 (v8 (z50 (xi0 (oA (z9 (gv 2) v6) s20)))
 p6))))
def et0:List Str:=["came", "pair", "backward", "step"]
def zx0:List D->Option D:=mkN 2 et0 ox0
def u10:GS:=(v8 (O1 3 (ux0 (gv 2) (gc .non)))
 (v8 (ifD (ob (o2 (oA (z9 (o2 (gv 0) (o2 (gv 2) (gc (.int 0)) ixD) ixD) v6) Q9) (oA (z9 (o2 (gv 1) (o2 (gv 2) (gc (.int 1)) ixD) ixD) v6) Q9) M5))
 (v8 (d8 (xi0 (Y7 (z9 (gv 3) (z9 (Y0 v6) v6)))))
 p6)
 p6)
 (v8 (O1 4 (Y0 (z9 (gv 2) v6)))
 (v8 (j4 (gN 5) (gc (.int 0)))
 (v8 (W9 (ob (o2 (gv 5) (zz0 (oA (z9 (gv 4) v6) Z5)) ltD))
 (v8 (j4 (gN 6) (q10 (o2 (gv 4) (gv 5) ixD)))
 (v8 (i60 5 (gc (.int 1)))
 (v8 (z60 (v50 (z9 (oA (z9 (o2 (gv 0) (o2 (gv 6) (gc (.int 0)) ixD) ixD) v6) m_values) (z9 (oA (z9 (o2 (gv 1) (o2 (gv 6) (gc (.int 1)) ixD) ixD) v6) m_values) v6))) (J0 7 8)
 (v8 (ifD (ob (oA (z9 (gv 0) (z9 (gv 1) (z9 (gv 8) v6))) U4))
 (v8 (d8 (xi0 (Y7 (z9 (gv 3) (z9 (o2 (oA (z9 (gv 3) (z9 (gv 6) v6)) zx0) (Y0 (z9 (gv 7) v6)) Z3) v6)))))
 p6)
 p6)
 (v8 (ifD (K5 (ob (oA (z9 (gv 8) v6) V0)) (xz0 (ob (o2 (oA (z9 (gv 8) v6) Z0) (gv 3) (ze0 true)))))
 (v8 (T3 (S6 (Y7 (z9 (gv 6) (z9 (gv 7) v6)))) (um0 3 (oA (z9 (gv 8) v6) Z0)))
 (v8 (X7 (O2 4 (oA (z9 (gv 8) v6) Z0)))
 p6))
 p6)
 p6)))
 p6))) 100000)
 (v8 (d8 (xi0 (Y7 (z9 (gv 3) (z9 (gc .non) v6)))))
 p6))))))
def xj0:List Str:=["one", "other", "start", "came", "waiting", "number", "pair", "place", "both"]
def X5:List D->Option D:=mkF 3 xj0 u10
def uo0:GS:=(v8 (j4 (gN 3) (oA (z9 (gv 0) (z9 (gv 0) (z9 (Y7 (z9 (gv 1) (z9 (gv 2) v6))) v6))) X5))
 (v8 (ifD (ob (o2 (o2 (gv 3) (gc (.int 1)) ixD) (gc .non) t20))
 (v8 (d8 (gc .non))
 p6)
 p6)
 (v8 (d8 (oA (z9 (o2 (gv 3) (gc (.int 0)) ixD) v6) v20))
 p6)))
def ou0:List Str:=["web", "p", "q", "walk"]
def O9:List D->Option D:=mkF 3 ou0 uo0
def vg0:GS:=(v8 (ifD (ob (o2 (gv 1) (oA (z9 (gv 0) v6) Z5) ltD))
 (v8 (d8 (o2 (gv 0) (gv 1) ixD))
 p6)
 p6)
 (v8 (d8 (gc (.int 0)))
 p6))
def ql0:List Str:=["_law_script", "_law_k"]
def j6:List D->Option D:=mkF 2 ql0 vg0
def tn0:GS:=(v8 (j4 (gN 2) (gc (.str "abcdefghijklmnopqrstuvwxyz0123456789")))
 (v8 (j4 (gN 3) (o2 (gc (.int 1)) (o2 (gv 0) (gc (.int 8)) d9) Z3))
 (v8 (j4 (gN 0) (o2 (gv 0) (gc (.int 8)) X4))
 (v8 (O1 4 (Y0 v6))
 (v8 (z60 (G6 (z9 (gv 3) v6)) (gN 5)
 (v8 (X7 (O2 4 (o2 (gv 0) (gc (.int 36)) d9)))
 (v8 (j4 (gN 0) (o2 (gv 0) (gc (.int 36)) X4))
 p6)))
 (v8 (j4 (gN 6) (zz0 (ta0 (gc (.str "")) (z9 (W3 1 [2] (zp0 (gv 4)) (gN 0) noT (o2 (gv 1) (gv 0) ixD)) v6))))
 (v8 (ifD (ob (o2 (o2 (o2 (gv 1) (gc (.int 8)) X4) (gc (.int 3)) d9) (gc (.int 1)) eqD))
 (v8 (z50 (W3 1 [6] (j90 (z9 (gc (.int 1)) (z9 (gc (.int 9)) v6))) (gN 0) noT (N5 (o2 (gc (.int 8)) (gv 1) qh0) O3 (someO (gv 0)))))
 p6)
 p6)
 (v8 (j4 (gN 7) (o2 (gv 1) (gv 3) d9))
 (v8 (O1 8 (Y0 v6))
 (v8 (z60 (G6 (z9 (gc (.int 8)) v6)) (gN 5)
 (v8 (j4 (gN 9) (o2 (gv 2) (o2 (o2 (zz0 (o2 (gv 4) (gv 7) ixD)) (o2 (gc (.int 4)) (gv 5) J2) Z3) (gc (.int 36)) d9) ixD))
 (v8 (X7 (O2 8 (o2 (o2 (N5 (gv 6) O3 (someO (gv 7))) (gv 9) Z3) (N5 (gv 6) (someO (o2 (gv 7) (gc (.int 1)) Z3)) O3) Z3)))
 p6)))
 (v8 (qe0 8)
 p6)))))))))))
def lg0:List Str:=["_law_cell", "_law_turn", "_law_signs", "_law_size", "_law_places", "_law_k", "_law_word", "_law_at", "_law_found", "_law_sign"]
def z20:List D->Option D:=mkN 2 lg0 tn0
def ru0:GS:=(v8 (d8 (o2 (o2 (o2 (o2 (gv 0) (gc (.int 2147483647)) d9) (gc (.int 1)) Z3) (o2 (gc (.int 48271)) (o2 (gc (.int 7)) (gv 1) J2) Z3) J2) (gc (.int 2147483647)) d9))
 p6)
def js0:List Str:=["_law_cell", "_law_k"]
def V3:List D->Option D:=mkF 2 js0 ru0
def ug0:GS:=(v8 (j4 (gN 2) (o2 (gv 0) (gc (.int 10)) d9))
 (v8 (ifD (ob (o2 (gv 2) (gc (.int 6)) ltD))
 (v8 (d8 (Y7 (z9 (gc (.str "at")) (z9 (o2 (o2 (gv 0) (gc (.int 10)) X4) (gv 1) d9) v6))))
 p6)
 p6)
 (v8 (ifD (ob (o2 (gv 2) (gc (.int 6)) eqD))
 (v8 (d8 (gc .non))
 p6)
 p6)
 (v8 (ifD (ob (o2 (gv 2) (gc (.int 9)) ltD))
 (v8 (d8 (o2 (o2 (o2 (gv 0) (gc (.int 10)) X4) (gc (.int 3)) d9) (gc (.int 1)) d10))
 p6)
 p6)
 (v8 (d8 (o2 (o2 (o2 (o2 (gv 0) (gc (.int 10)) X4) (gc (.int 7)) mw0) (o2 (gc (.int 10)) (gc (.int 60)) mw0) d9) (o2 (gc (.int 1)) (o2 (gc (.int 2)) (o2 (o2 (gv 0) (gc (.int 20)) X4) (gc (.int 2)) d9) J2) d10) J2))
 p6)))))
def or0:List Str:=["_law_number", "_law_many", "_law_kind"]
def T6:List D->Option D:=mkF 2 or0 ug0
def vx0:GS:=(v8 (O1 3 (Y0 v6))
 (v8 (z60 (G6 (z9 (gv 1) v6)) (gN 4)
 (v8 (j4 (gN 0) (o2 (o2 (gv 0) (gc (.int 48271)) J2) (gc (.int 2147483647)) d9))
 (v8 (X7 (O2 3 (oA (z9 (gv 0) (z9 (gv 2) v6)) T6)))
 p6)))
 (v8 (qe0 3)
 p6)))
def o10:List Str:=["_law_number", "_law_count", "_law_many", "_law_found", "_law_k"]
def M7:List D->Option D:=mkN 3 o10 vx0
def tu0:GS:=(v8 (j4 (gN 3) (o2 (gv 0) (gc (.int 8)) d9))
 (v8 (ifD (ob (o2 (gv 3) (gc (.int 0)) eqD))
 (v8 (d8 (Y7 (z9 (gc (.str "text")) (z9 (o2 (Y0 (z9 (gc (.str "")) (z9 (gc (.str "a")) (z9 (gc (.str " a")) (z9 (o2 (o2 (gv 2) (gc (.int 0)) ixD) (gc (.str " 0")) Z3) v6))))) (o2 (o2 (gv 0) (gc (.int 16)) X4) (gc (.int 4)) d9) ixD) v6))))
 p6)
 p6)
 (v8 (ifD (ob (o2 (gv 3) (gc (.int 4)) ltD))
 (v8 (d8 (Y7 (z9 (gc (.str "row")) (z9 (oA (z9 (gv 1) v6) J6) v6))))
 p6)
 p6)
 (v8 (j4 (gN 4) (o2 (o2 (o2 (gv 0) (gc (.int 8)) X4) (gc (.int 2)) d9) (gc (.int 3)) J2))
 (v8 (j4 (gN 5) (oA (z9 (W3 1 [1,2,4] (G6 (z9 (oA (z9 (gv 1) v6) Z5) v6)) (gN 0) noT (Y7 (z9 (o2 (gv 2) (o2 (o2 (gv 3) (gv 0) Z3) (gc (.int 8)) d9) ixD) (z9 (o2 (gv 1) (gv 0) ixD) v6)))) v6) J6))
 (v8 (ifD (ob (o2 (gv 3) (gc (.int 6)) ltD))
 (v8 (d8 (Y7 (z9 (gc (.str "table")) (z9 (gv 5) v6))))
 p6)
 p6)
 (v8 (d8 (Y7 (z9 (gc (.str "record")) (z9 (o2 (gv 2) (o2 (o2 (gv 0) (gc (.int 16)) X4) (gc (.int 2)) d9) ixD) (z9 (gv 5) v6)))))
 p6)))))))
def ll0:List Str:=["_law_number", "_law_some", "_law_pool_here", "_law_kind", "_law_start", "_law_pairs"]
def z30:List D->Option D:=mkF 3 ll0 tu0
def ro0:GS:=(v8 (O1 3 (Y0 v6))
 (v8 (z60 (G6 (z9 (gv 1) v6)) (gN 4)
 (v8 (j4 (gN 5) (oA (z9 (o2 (o2 (gv 0) (o2 (gv 4) (oA (z9 (gv 0) v6) Z5) d9) ixD) (o2 (gv 4) (o2 (gv 4) (oA (z9 (gv 0) v6) Z5) X4) J2) Z3) (z9 (gv 4) v6)) V3))
 (v8 (j4 (gN 6) (o2 (Y0 (z9 (gc (.int 0)) (z9 (gc (.int 1)) (z9 (gc (.int 2)) (z9 (gc (.int 2)) (z9 (gc (.int 3)) (z9 (gc (.int 2)) (z9 (gc (.int 3)) (z9 (gc (.int 1)) v6))))))))) (o2 (o2 (gv 5) (gc (.int 32)) X4) (gc (.int 8)) d9) ixD))
 (v8 (ifD (ob (o2 (o2 (o2 (gv 5) (gc (.int 256)) X4) (gc (.int 16)) d9) (gc (.int 3)) eqD))
 (v8 (j4 (gN 6) (o2 (Y0 (z9 (gc (.int 8)) (z9 (gc (.int 12)) v6))) (oA (z9 (o2 (o2 (gv 5) (gc (.int 8)) d9) (gc (.int 4)) ltD) v6) intOfD) ixD))
 p6)
 p6)
 (v8 (j4 (gN 7) (oA (z9 (o2 (o2 (gv 5) (gc (.int 8)) X4) (gc (.int 1)) Z3) (z9 (gv 6) (z9 (gv 1) v6))) M7))
 (v8 (X7 (O2 3 (oA (z9 (gv 5) (z9 (gv 7) (z9 (gv 2) v6))) z30)))
 p6))))))
 (v8 (d8 (xi0 (oA (z9 (gv 3) v6) J6)))
 p6)))
def jv0:List Str:=["_law_cells", "_law_many", "_law_pool_here", "_law_parts", "_law_k", "_law_number", "_law_count", "_law_some"]
def zn0:List D->Option D:=mkF 3 jv0 ro0
def to0:GS:=(v8 (ifD (ob (o2 (o2 (gv 0) (gc (.int 0)) ixD) (gc (.str "text")) eqD))
 (v8 (z50 (Y0 v6))
 p6)
 p6)
 (v8 (ifD (ob (o2 (o2 (gv 0) (gc (.int 0)) ixD) (gc (.str "row")) eqD))
 (v8 (z50 (oA (z9 (o2 (gv 0) (gc (.int 1)) ixD) v6) yz0))
 p6)
 p6)
 (v8 (z50 (W3 2 [] (tupI (o2 (gv 0) (unG m50 (gc (.int 1))) ixD)) (J0 0 1) noT (gv 1)))
 p6)))
def li0:List Str:=["_law_part_here"]
def Z7:List D->Option D:=mkN 1 li0 to0
def wd0:GS:=(v8 (j4 (gN 2) (oA (z9 (oA (z9 (gv 0) (z9 (gc (.int 0)) v6)) j6) (z9 (oA (z9 (gv 0) (z9 (gc (.int 1)) v6)) j6) v6)) z20))
 (v8 (j4 (gN 3) (oA (z9 (gv 0) (z9 (gc (.int 2)) v6)) j6))
 (v8 (j4 (gN 4) (o2 (gc (.int 1)) (o2 (gv 3) (o2 (Y0 (z9 (gc (.int 12)) (z9 (gc (.int 12)) (z9 (gv 1) (z9 (gc (.int 4)) v6))))) (o2 (o2 (gv 3) (gc (.int 60)) X4) (gc (.int 4)) d9) ixD) d9) Z3))
 (v8 (d8 (oA (z9 (o2 (N5 (gv 0) (someO (gc (.int 9))) (someO (gc (.int 60)))) (Y0 (z9 (oA (z9 (gv 0) (z9 (gc (.int 3)) v6)) j6) v6)) Z3) (z9 (gv 4) (z9 (gv 2) v6))) zn0))
 p6))))
def tz0:List Str:=["_law_script", "_law_most", "_law_pool_here", "_law_turn", "_law_many"]
def R0:List D->Option D:=mkF 2 tz0 wd0
end Ra
namespace Pn
open Ra
open DL W
theorem J7(p:Pt)(h:p.few):m_values [p.d]=some (.lst p.vals):=by
 cases p with
 | text w=>kernel_rfl
 | row vs =>
  refine R8 rfl (u5 (δ':=[.sh (Pt.row vs).d]) (by rw[Z6 (by kernel_rfl)];rfl) (S7 (by rw[N6 (by kernel_rfl)];rfl)))
 | table ps =>
  refine R8 rfl (u5 (δ':=[.sh (Pt.table ps).d]) (by rw[Z6 (by kernel_rfl)];rfl) (u5 (δ':=[.sh (Pt.table ps).d]) (by rw[Z6 (by kernel_rfl)];rfl) (S7 (G9 ?_))));exact U0 (items:=ps.map pr) rfl (by have:(ps.map (·.2)).length<=sizeLine:=h;simpa using this) (m10 ps)
 | rcd c ps =>
  refine R8 rfl (u5 (δ':=[.sh (Pt.rcd c ps).d]) (by rw[Z6 (by kernel_rfl)];rfl) (u5 (δ':=[.sh (Pt.rcd c ps).d]) (by rw[Z6 (by kernel_rfl)];rfl) (S7 (G9 ?_))));exact U0 (items:=ps.map pr) rfl (by have:(ps.map (·.2)).length<=sizeLine:=h;simpa using this) (m10 ps)
theorem vy0(p:Pt)(h:p.few):R7 [p.d]=some (.lst (p.pnames.map .str)):=by
 cases p with
 | text w=>kernel_rfl
 | row vs=>kernel_rfl
 | table ps =>
  refine R8 rfl (u5 (δ':=[.sh (Pt.table ps).d]) (by rw[Z6 (by kernel_rfl)];rfl) (S7 (G9 ?_)));exact U0 (items:=ps.map pr) rfl (by have:(ps.map (·.2)).length<=sizeLine:=h;simpa using this) (nd0 ps)
 | rcd c ps =>
  refine R8 rfl (u5 (δ':=[.sh (Pt.rcd c ps).d]) (by rw[Z6 (by kernel_rfl)];rfl) (S7 (G9 ?_)));exact U0 (items:=ps.map pr) rfl (by have:(ps.map (·.2)).length<=sizeLine:=h;simpa using this) (nd0 ps)
def hd:Pt->D
 | .text w=>.tup [.str "text",.str w]
 | .row vs=>.tup [.str "row",.int vs.length]
 | .table ps=>.tup [.str "table",.tup ((ps.map (·.1)).map .str)]
 | .rcd c ps=>.tup [.str "record",.str c,.tup ((ps.map (·.1)).map .str)]
def put:Pt->List D->Pt
 | .text w,_=>.text w
 | .row _,vs=>.row vs
 | .table ps,vs=>.table ((ps.map (·.1)).zip vs)
 | .rcd c ps,vs=>.rcd c ((ps.map (·.1)).zip vs)
theorem br0(p:Pt)(h:p.few):Q9 [p.d]=some (hd p):=by
 have e:=vy0 p h;cases p with
 | text w=>kernel_rfl
 | row vs=>kernel_rfl
 | table ps =>
  refine Z2 rfl (u5 (δ':=[.sh (Pt.table ps).d]) (by rw[Z6 (by kernel_rfl)];rfl) (u5 (δ':=[.sh (Pt.table ps).d]) (by rw[Z6 (by kernel_rfl)];rfl) (m9 ?_)));rw[N6 (by kernel_rfl)];refine m9 (X8 (U7 (cons_of rfl (cons_of (d:=.tup ((ps.map (·.1)).map .str)) ?_ rfl)) (by show 2<=sizeLine;decide)));rw[o6 (cons_of (by rw[o6 (ds:=[(Pt.table ps).d]) rfl];exact e) rfl)];rfl
 | rcd c ps =>
  refine Z2 rfl (u5 (δ':=[.sh (Pt.rcd c ps).d]) (by rw[Z6 (by kernel_rfl)];rfl) (u5 (δ':=[.sh (Pt.rcd c ps).d]) (by rw[Z6 (by kernel_rfl)];rfl) (u5 (δ':=[.sh (Pt.rcd c ps).d]) (by rw[Z6 (by kernel_rfl)];rfl) ?_)));refine m9 (X8 (U7 (cons_of rfl (cons_of (d:=.str c) rfl (cons_of (d:=.tup ((ps.map (·.1)).map .str)) ?_ rfl))) (by show 3<=sizeLine;decide)));rw[o6 (cons_of (by rw[o6 (ds:=[(Pt.rcd c ps).d]) rfl];exact e) rfl)];rfl
theorem iy0(ns:List Str)(vs:List D):rf0 [.lst (ns.map .str),.lst vs]=some (.tup ((ns.zip vs).map pr)):=by
 simp only[rf0];rw[List.zip_map_left,List.map_map];rfl
theorem kj0(p:Pt)(h:p.few)(vs:List D):V1 [p.d,.lst vs]=some (put p vs).d:=by
 have e:=vy0 p h;cases p with
 | text w=>kernel_rfl
 | row us=>kernel_rfl
 | table ps =>
  refine Z2 rfl (u5 (δ':=[.sh (Pt.table ps).d,.sh (.lst vs),.un]) (by rw[Z6 (by kernel_rfl)];rfl) (u5 (δ':=[.sh (Pt.table ps).d,.sh (.lst vs),.un]) (by rw[Z6 (by kernel_rfl)];rfl) (u5 (j8 (d:=.tup (((ps.map (·.1)).zip vs).map pr)) ?_) (m9 ?_))))
  ·rw[o6 (cons_of (by rw[o6 (ds:=[(Pt.table ps).d]) rfl];exact e) (cons_of rfl rfl))]
   exact iy0 _ _
  ·rw[N6 (by kernel_rfl)]
   rfl
 | rcd c ps =>
  refine Z2 rfl (u5 (δ':=[.sh (Pt.rcd c ps).d,.sh (.lst vs),.un]) (by rw[Z6 (by kernel_rfl)];rfl) (u5 (δ':=[.sh (Pt.rcd c ps).d,.sh (.lst vs),.un]) (by rw[Z6 (by kernel_rfl)];rfl) (u5 (j8 (d:=.tup (((ps.map (·.1)).zip vs).map pr)) ?_)
   (u5 (δ':=[.sh (Pt.rcd c ps).d,.sh (.lst vs),.sh (.tup (((ps.map (·.1)).zip vs).map pr))]) (by rw[Z6 (by kernel_rfl)];rfl) ?_))))
  ·rw[o6 (cons_of (by rw[o6 (ds:=[(Pt.rcd c ps).d]) rfl];exact e) (cons_of rfl rfl))]
   exact iy0 _ _
  ·rfl
theorem dj0(h:∀d∈l,lean d n=true):leans l n=true:=by
 induction l with
 | nil=>unfold leans;rfl
 | cons d l ih =>
  unfold leans;rw[h d A5,ih λe he=>h e (A7 _ he)];rfl
theorem w40(s:Str)(n:Nat):lean (.str s) n=true:=by unfold lean;rfl
theorem w90(h:∀d∈l,lean d n=true):lean (.tup l) (n+1)=true:=by unfold lean;exact dj0 h
mutual
theorem sg0:∀(d:D) (n:Nat),lean d n=true->deq d d=true
 | .non,_,_=>by unfold deq;rfl
 | .bl b,_,_=>by unfold deq;simp
 | .int b,_,_=>by unfold deq;simp
 | .str b,_,_=>by unfold deq;simp
 | .tup ds,0,h=>by unfold lean at h;cases h
 | .tup ds,n+1,h=>by unfold lean at h;unfold deq;exact us0 ds n h
 | .lst ds,0,h=>by unfold lean at h;cases h
 | .lst ds,n+1,h=>by unfold lean at h;unfold deq;exact us0 ds n h
 | .dct _ _,n,h=>by unfold lean at h;cases h
 | .fn _ _,n,h=>by unfold lean at h;cases h
theorem us0:∀(ds:List D) (n:Nat),leans ds n=true->z70 ds ds=true
 | [],_,_=>by unfold z70;rfl
 | d::ds,n,h=>by
  unfold leans at h;rw[Bool.and_eq_true] at h;unfold z70;rw[sg0 d n h.1,us0 ds n h.2];rfl
end
mutual
def nb:D->Bool
 | .bl _=>false
 | .dct _ _=>false
 | .fn _ _=>false
 | .tup xs=>nbs xs
 | .lst xs=>nbs xs
 | _=>true
def nbs:List D->Bool
 | []=>true
 | x::xs=>nb x&&nbs xs
end
mutual
theorem im0:∀(d e:D),nb d=true->nb e=true->deq d e=true->d=e
 | .non,e,_,h2,h=>by cases e<;>unfold deq at h<;>first|rfl|(cases h)
 | .bl b,e,h1,_,_=>by unfold nb at h1;cases h1
 | .int i,e,_,h2,h=>by
  cases e<;>unfold deq at h<;>first|(cases h;done)|(unfold nb at h2;cases h2;done)|(rw[beq_iff_eq] at h;rw[h])
 | .str x,e,_,h2,h=>by cases e<;>unfold deq at h<;>first|(cases h;done)|(rw[beq_iff_eq] at h;rw[h])
 | .tup xs,e,h1,h2,h=>by
  cases e<;>unfold deq at h<;>try (cases h;done)
  unfold nb at h1 h2;rw[qq0 _ _ h1 h2 h]
 | .lst xs,e,h1,h2,h=>by
  cases e<;>unfold deq at h<;>try (cases h;done)
  unfold nb at h1 h2;rw[qq0 _ _ h1 h2 h]
 | .dct _ _,e,h1,_,_=>by unfold nb at h1;cases h1
 | .fn _ _,e,h1,_,_=>by unfold nb at h1;cases h1
theorem qq0:∀(ds es:List D),nbs ds=true->nbs es=true->z70 ds es=true->ds=es
 | [],[],_,_,_=>rfl
 | [],_::_,_,_,h=>by unfold z70 at h;cases h
 | _::_,[],_,_,h=>by unfold z70 at h;cases h
 | d::ds,e::es,h1,h2,h=>by
  unfold nbs at h1 h2;unfold z70 at h;rw[Bool.and_eq_true] at h1 h2 h;rw[im0 d e h1.1 h2.1 h.1,qq0 ds es h1.2 h2.2 h.2]
end
theorem Xz0(h:∀d∈l,nb d=true):nbs l=true:=by
 induction l with
 | nil=>unfold nbs;rfl
 | cons d l ih =>
  unfold nbs;rw[h d A5,ih λe he=>h e (A7 _ he)];rfl
structure Pl(d:D):Prop where
 le:lean d 50=true
 nb:nb d=true
theorem Xq0{d:D}(h:lean d 50=true):ym0 d d=some (.bl true):=by
 unfold ym0;rw[if_pos ⟨h,h⟩,sg0 d 50 h]
theorem nz0{d:D}(h:lean d 50=true):M5 d d=some (.bl false):=by
 unfold M5;rw[if_pos ⟨h,h⟩,sg0 d 50 h];rfl
theorem Zk0{d e:D}(h1:Pl d)(h2:Pl e)(n:d≠e):M5 d e=some (.bl true):=by
 unfold M5;rw[if_pos ⟨h1.le,h2.le⟩];cases q:deq d e with
 | false=>rfl
 | true=>exact absurd (im0 d e h1.nb h2.nb q) n
theorem uz0(s:Str):nb (.str s)=true:=by unfold nb;rfl
theorem Yf0(i:Int):nb (.int i)=true:=by unfold nb;rfl
theorem uh0(h:∀d∈l,nb d=true):nb (.tup l)=true:=by unfold nb;exact Xz0 h
theorem jr0(p:Pt):Pl (hd p):=by
 have ls:∀(ns:List Str) (n:Nat),lean (.tup (ns.map .str)) (n+1)=true:=λns n=>w90 λd hd=>by
  obtain⟨q,_,rfl⟩:=B0.mp hd;exact w40 _ _
 have nn:∀(ns:List Str),nb (.tup (ns.map .str))=true:=λns=>uh0 λd hd=>by
  obtain⟨q,_,rfl⟩:=B0.mp hd;exact uz0 _
 have li:∀(i:Int) (n:Nat),lean (.int i) n=true:=λi n=>by unfold lean;rfl
 cases p with
 | text w=>exact⟨w90 λd hd=>by simp only[List.mem_cons,List.not_mem_nil,or_false] at hd;rcases hd with rfl|rfl<;>exact w40 _ _,uh0 λd hd=>by simp only[List.mem_cons,List.not_mem_nil,or_false] at hd;rcases hd with rfl|rfl<;>exact uz0 _⟩
 | row w=>exact⟨w90 λd hd=>by simp only[List.mem_cons,List.not_mem_nil,or_false] at hd;rcases hd with rfl|rfl<;>first|exact w40 _ _|exact li _ _,uh0 λd hd=>by simp only[List.mem_cons,List.not_mem_nil,or_false] at hd;rcases hd with rfl|rfl<;>first|exact uz0 _|exact Yf0 _⟩
 | table w=>exact⟨w90 λd hd=>by simp only[List.mem_cons,List.not_mem_nil,or_false] at hd;rcases hd with rfl|rfl<;>first|exact w40 _ _|exact ls _ _,uh0 λd hd=>by simp only[List.mem_cons,List.not_mem_nil,or_false] at hd;rcases hd with rfl|rfl<;>first|exact uz0 _|exact nn _⟩
 | rcd c w=>exact⟨w90 λd hd=>by simp only[List.mem_cons,List.not_mem_nil,or_false] at hd;rcases hd with rfl|rfl|rfl<;>first|exact w40 _ _|exact ls _ _,uh0 λd hd=>by simp only[List.mem_cons,List.not_mem_nil,or_false] at hd;rcases hd with rfl|rfl|rfl<;>first|exact uz0 _|exact nn _⟩
end Pn
namespace W
open DL StrLaws Builtin.Str
theorem yj0(l:List Nat):(strOf l).cps.toList=l:=by simp[strOf]
theorem zb0(l:List Nat):(strOf l).length=l.length:=by show l.toArray.size=_;simp
theorem eg0(x:PySem.Str):strOf x.cps.toList=x:=by cases x;simp[strOf]
end W
namespace Gw
open Ra
open DL W StrLaws
theorem mul_r(i j:Int)(h:-(2 ^ 64)<j/\j<2 ^ 64):J2 (.int i) (.int j)=some (.int (i*j)):=by simp only[J2];rw[if_pos (.inr h)]
theorem V60(i j:Int)(h:-(2 ^ 64)<i/\i<2 ^ 64):J2 (.int i) (.int j)=some (.int (i*j)):=by simp only[J2];rw[if_pos (.inl h)]
theorem y90(i j:Int)(h:0<j):d9 (.int i) (.int j)=some (.int (i%j)):=by simp only[d9,ii];rw[if_pos h]
theorem sm0(i j:Int)(h:0<j/\j<1073741824):X4 (.int i) (.int j)=some (.int (i/j)):=by simp only[X4,ii];rw[if_pos h]
theorem uw0{g:GE}{d:D}(h1:owL i δ=some l)(h2:g δ=some d)(h3:l.length<sizeLine):X7 (O2 i g) δ=some (.nx (δ.set i (.ow (.lst (l++[d]))))):=by
 unfold X7 O2;rw[h1,h2];simp only[Option.bind_some];rw[if_pos h3];rfl
theorem K8(ns:List Int)(k:Int)(h0:0<=k):∃z,j6 [.lst (ns.map .int),.int k]=some (.int z):=by
 by_cases h:k<ns.length
 ·have F:k.toNat<ns.length:=by omega
  refine⟨ns[k.toNat],Z2 rfl (m9 ?_)⟩;rw[N6 (by
   show some (decide (k<(((ns.map D.int).length:Nat):Int)))=_;rw[decide_eq_true (by rw[List.length_map];exact h)])]
  refine m9 (X8 ?_);show atI (ns.map D.int) k=_;rw[yi0 h0 (by rw[List.length_map];exact h) .non];simp[List.getD_eq_getElem?_getD,F]
 ·refine⟨0,Z2 rfl (u5 (δ':=[.sh (.lst (ns.map .int)),.sh (.int k)]) ?_ rfl)⟩
  rw[Z6 (by
   show some (decide (k<(((ns.map D.int).length:Nat):Int)))=_;rw[decide_eq_false (by rw[List.length_map];exact h)])]
  rfl
theorem e60(l:List Nat)(n:Nat):e00 (strOf l) (n:Int)=strOf (List.replicate n l).flatten:=by
 have key:∀(k:Nat) (F:Array Nat),(List.replicate k l.toArray).foldl (·++·) F=F++(List.replicate k l).flatten.toArray:=by
  intro k
  induction k with
  | zero=>intro F;simp
  | succ k ih=>intro F;rw[List.replicate_succ,List.foldl_cons,ih,List.replicate_succ,List.flatten_cons];simp
 unfold e00;show (⟨(List.replicate ((n:Int)).toNat l.toArray).foldl (·++·) #[]⟩:Str)=⟨_⟩;rw[Int.toNat_natCast,key];simp
theorem fi0(l:List Nat)(k:Int)(h0:0<=k)(h1:k<=l.length):Txt.slice (strOf l) none (some k)=strOf (l.take k.toNat):=by
 show sliceText _ _ _=_;rw[sliceText_to ⟨h0,by rw[yj0];exact h1⟩,yj0];simp[strOf]
theorem Ze0(l:List Nat)(k:Int)(h0:0<=k)(h1:k<=l.length):Txt.slice (strOf l) (some k) none=strOf (l.drop k.toNat):=by
 show sliceText _ _ _=_;rw[sliceText_from ⟨h0,by rw[yj0];exact h1⟩,yj0];unfold strOf;congr 2;rw[List.take_of_length_le];rw[List.length_drop];omega
theorem Vb0(a b:List Nat):strOf a++strOf b=strOf (a++b):=by
 show (⟨_⟩:Str)=⟨_⟩;simp[strOf]
theorem jx0(a b:List Nat)(h:a.length+b.length<=sizeLine):Z3 (.str (strOf a)) (.str (strOf b))=some (.str (strOf (a++b))):=by
 simp only[Z3];rw[if_pos (by rw[zb0,zb0];exact h),Vb0]
structure Pool(nm:List Str):Prop where
 len:nm.length=8
 names:∀s∈nm,isName s=true
 nd:nm.Nodup
def PB:GS:=(v8 (X7 (O2 4 (o2 (gv 0) (gc (.int 36)) d9)))
 (v8 (j4 (gN 0) (o2 (gv 0) (gc (.int 36)) X4))
 p6))
def PC:GS:=(v8 (j4 (gN 9) (o2 (gv 2) (o2 (o2 (zz0 (o2 (gv 4) (gv 7) ixD)) (o2 (gc (.int 4)) (gv 5) J2) Z3) (gc (.int 36)) d9) ixD))
 (v8 (X7 (O2 8 (o2 (o2 (N5 (gv 6) O3 (someO (gv 7))) (gv 9) Z3) (N5 (gv 6) (someO (o2 (gv 7) (gc (.int 1)) Z3)) O3) Z3)))
 p6))
theorem qf0(c t:Int):∃nm,z20 [.int c,.int t]=some (.lst (nm.map .str))/\Pool nm:=by
 have z:(1000:Nat)<=sizeLine:=by decide
 obtain⟨n,hn⟩:∃n:Nat,(n:Int)=1+c%8:=⟨(1+c%8).toNat,by omega⟩;obtain⟨δ',l1,l2⟩:=zc0 (f:=gN 5) (G:=PB) (λi δ=>∃(c':Int) (l:List Int) (s5:Sl),δ=[.sh (.int c'),.sh (.int t),.sh (.str V8),.sh (.int (n:Int)),.ow (.lst (l.map .int)),s5,.un,.un,.un,.un]/\l.length=i/\∀x∈l,0<=x/\x<36) (S5 0 (n:Int)) 0
  [.sh (.int (c/8)),.sh (.int t),.sh (.str V8),.sh (.int (n:Int)),.ow (.lst []),.un,.un,.un,.un,.un] (by
   rintro j d δ hj ⟨c',l,s5,rfl,hl,hx⟩;obtain⟨O,rfl⟩:=wx0 hj;rw[Int.toNat_natCast] at O;refine⟨_,[.sh (.int (c'/36)),.sh (.int t),.sh (.str V8),.sh (.int (n:Int)),.ow (.lst ((l++[c'%36]).map .int)),.sh (.int (j:Int)),.un,.un,.un,.un],rfl,?_,c'/36,l++[c'%36],_,rfl,by simp[hl],λx a3=>?_⟩
   ·refine u5 (uw0 (l:=l.map .int) (d:=.int (c'%36)) rfl rfl (by rw[List.length_map];omega)) ?_
    rw[List.map_append];rfl
   ·rcases B4.mp a3 with q|q
    ·exact hx x q
    ·rw[List.mem_singleton.mp q];omega) ⟨_,[],_,rfl,rfl,λx hx=>by cases hx⟩
 obtain⟨c',pl,s5,rfl,a0,L⟩:=l2;rw[vd0,Int.toNat_natCast,Nat.zero_add] at a0;obtain⟨w,hw⟩:∃w:List Nat,w=pl.map cg:=⟨_,rfl⟩;have wl:w.length=n:=by rw[hw,List.length_map,a0]
 have wm:∀x∈w,x∈nameS.cps.toList:=λx hx=>by
  rw[hw] at hx;obtain⟨i,hi,rfl⟩:=B0.mp hx;exact f40 i (L i hi).1 (L i hi).2
 have Z:∀(G:GS) (r:Option Res),G [.sh (.int c'),.sh (.int t),.sh (.str V8),.sh (.int (n:Int)),.ow (.lst (pl.map .int)),s5,.sh (.str (strOf w)),.un,.un,.un]=r ->
   (v8 (j4 (gN 2) (gc (.str "abcdefghijklmnopqrstuvwxyz0123456789")))
    (v8 (j4 (gN 3) (o2 (gc (.int 1)) (o2 (gv 0) (gc (.int 8)) d9) Z3))
    (v8 (j4 (gN 0) (o2 (gv 0) (gc (.int 8)) X4))
    (v8 (O1 4 (Y0 v6))
    (v8 (z60 (G6 (z9 (gv 3) v6)) (gN 5) PB)
    (v8 (j4 (gN 6) (zz0 (ta0 (gc (.str "")) (z9 (W3 1 [2] (zp0 (gv 4)) (gN 0) noT (o2 (gv 1) (gv 0) ixD)) v6)))) G)))))) [.sh (.int c),.sh (.int t),.un,.un,.un,.un,.un,.un,.un,.un]=r:=λG r hG=>by
  refine u5 (j8 (d:=.str V8) rfl) (u5 (j8 (d:=.int (n:Int)) (by rw[hn];rfl)) (u5 (j8 (d:=.int (c/8)) rfl) (u5 (δ':=[.sh (.int (c/8)),.sh (.int t),.sh (.str V8),.sh (.int (n:Int)),.ow (.lst []),.un,.un,.un,.un,.un]) rfl (u5 (zd0 (items:=S5 0 (n:Int)) (xr0 (cons_of rfl rfl) (by omega) (by omega)) l1) (u5 (j8 (d:=.str (strOf w)) ?_) hG)))));show Option.bind _ _=_;rw[ap0 (x:=.str "") (ds:=[.lst ((ones w).map .str)]) rfl (cons_of (U0 (items:=pl.map .int) rfl (by rw[List.length_map];omega) (by
   rw[O5 (λd=>match d with|.int i=>.str ⟨#[cg i]⟩|_=>.non) (λd hd=>by
    obtain⟨i,hi,rfl⟩:=B0.mp hd;refine⟨[.sh (.int i),.sh (.str V8)],rfl,rfl,?_⟩;rw[p7 (x:=.str V8) (y:=.int i) rfl rfl];exact kv0 i (L i hi).1 (L i hi).2)]
   rw[hw];unfold ones;rw[List.map_map,List.map_map,List.map_map];rfl)) rfl)]
  have e1:=strs_map id (ones w);have a2:ue0 ((ones w).map D.str)=some (ones w):=by simpa using e1
  simp only[o90];rw[a2,Option.bind_some,p80,join_ones,if_pos (by
   have:("" : PySem.Str).length=0:=by decide +kernel
   rw[this];omega)]
  rfl
 by_cases hb:t/8%3=1
 ·refine⟨(List.range 8).map λk=>strOf ((List.replicate 8 w).flatten.take (k+1)),R8 rfl (Z _ _ (S7 ?_)),by simp,λs hs=>?_,?_⟩
  ·rw[N6 (by show some (decide (t/8%3=1))=_;rw[decide_eq_true hb])]
   refine S7 (G9 (U0 (items:=(List.range 8).map λ(k:Nat)=>D.int ((k:Int)+1)) rfl (by simp;omega) ?_));rw[O5 (λd=>match d with|.int i=>.str (strOf ((List.replicate 8 w).flatten.take i.toNat))|_=>.non) (λd hd=>by
    obtain⟨k,hk,rfl⟩:=B0.mp hd;have hk:=C9.mp hk;refine⟨[.sh (.int ((k:Int)+1)),.sh (.str (strOf w))],rfl,rfl,?_⟩;have hm:o2 (gc (.int 8)) (gv 1) qh0 [.sh (.int ((k:Int)+1)),.sh (.str (strOf w))]=some (.str (strOf (List.replicate 8 w).flatten)):=by
     rw[p7 (x:=.int 8) (y:=.str (strOf w)) rfl rfl];simp only[qh0];rw[if_pos ⟨by decide,by decide,by rw[zb0,wl];show n*8<=_;omega⟩];exact E2 (λs=>some (D.str s)) (e60 w 8)
    have J:(List.replicate 8 w).flatten.length=8*n:=by simp[wl];omega
    unfold N5;rw[hm];show slA (.str (strOf (List.replicate 8 w).flatten)) none (some ((k:Int)+1))=_;simp only[slA];rw[if_pos (by rw[zb0,J];omega),fi0 _ _ (by omega) (by rw[J];omega)])]
   rw[List.map_map,List.map_map];rfl
  ·obtain⟨k,hk,rfl⟩:=B0.mp hs
   have hk:=C9.mp hk;have J:(List.replicate 8 w).flatten.length=8*n:=by simp[wl];omega
   refine p70 _ (by rw[List.length_take,J];omega) (by rw[List.length_take];omega) λx hx=>?_
   have:=i8 hx;obtain⟨l,hl,hx⟩:=List.mem_flatten.mp this;rw[(List.mem_replicate.mp hl).2] at hx;exact wm x hx
  ·refine B20.mpr (j3.mpr (B30 ?_ (B40 (n:=8))))
   intro a b ha a1 a9 e;have ha:=C9.mp ha;have a1:=C9.mp a1;have e:=E2 List.length (p50 e);have J:(List.replicate 8 w).flatten.length=8*n:=by simp[wl];omega
   rw[List.length_take,List.length_take,J] at e;omega
 ·obtain⟨a,ha⟩:∃a:Nat,(a:Int)=t%(n:Int):=⟨(t%(n:Int)).toNat,by have:=L1 t (by omega:(n:Int)≠0);omega⟩
  have a8:a<n:=by have:=L9 t (by omega:(0:Int)<n);omega
  obtain⟨p,hp⟩:∃p,p=pl.getD a 0:=⟨_,rfl⟩;have a5:0<=p/\p<36:=by
   have Y:a<pl.length:=by omega
   have:p=pl[a]:=by rw[hp];simp[List.getD_eq_getElem?_getD,Y]
   rw[this];exact L _ (E8 Y)
  let F:Nat->List Nat:=λk=>w.take a++cg ((p+4*(k:Int))%36)::w.drop (a+1)
  have Fl:∀k,(F k).length=n:=λk=>by
   show (w.take a++cg ((p+4*(k:Int))%36)::w.drop (a+1)).length=n;rw[List.length_append,List.length_cons,List.length_take,List.length_drop];omega
  obtain⟨a4,m1,m2⟩:=zc0 (f:=gN 5) (G:=PC) (λi δ=>∃(s5 s9:Sl),δ=[.sh (.int c'),.sh (.int t),.sh (.str V8),.sh (.int (n:Int)),.ow (.lst (pl.map .int)),s5,.sh (.str (strOf w)),.sh (.int (a:Int)),.ow (.lst (((List.range i).map λk=>strOf (F k)).map .str)),s9]) (S5 0 8) 0
   [.sh (.int c'),.sh (.int t),.sh (.str V8),.sh (.int (n:Int)),.ow (.lst (pl.map .int)),s5,.sh (.str (strOf w)),.sh (.int (a:Int)),.ow (.lst []),.un] (by
    rintro j d δ hj ⟨s5,s9,rfl⟩;obtain⟨O,rfl⟩:=wx0 hj;have O:j<8:=O;rw[Nat.zero_add];refine⟨_,[.sh (.int c'),.sh (.int t),.sh (.str V8),.sh (.int (n:Int)),.ow (.lst (pl.map .int)),.sh (.int (j:Int)),.sh (.str (strOf w)),.sh (.int (a:Int)),.ow (.lst (((List.range (j+1)).map λk=>strOf (F k)).map .str)),.sh (.str ⟨#[cg ((p+4*(j:Int))%36)]⟩)],rfl,?_,_,_,rfl⟩;refine u5 (j8 (d:=.str ⟨#[cg ((p+4*(j:Int))%36)]⟩) ?_) ?_
    ·rw[p7 (x:=.str V8) (y:=.int ((p+4*(j:Int))%36)) rfl (by
      rw[p7 (x:=.int (p+4*(j:Int))) (y:=.int 36) (by
       rw[p7 (x:=.int p) (y:=.int (4*(j:Int))) (by
        have q:o2 (gv 4) (gv 7) ixD (frz [.sh (.int c'),.sh (.int t),.sh (.str V8),.sh (.int (n:Int)),.ow (.lst (pl.map .int)),.sh (.int (j:Int)),.sh (.str (strOf w)),.sh (.int (a:Int)),.ow (.lst (((List.range j).map λk=>strOf (F k)).map .str)),s9])=some (.int p):=by
         rw[p7 (x:=.lst (pl.map .int)) (y:=.int (a:Int)) rfl rfl];show atI (pl.map D.int) (a:Int)=_;have Y:a<pl.length:=by omega
         rw[yi0 (by omega) (by rw[List.length_map];omega) .non,hp];simp[List.getD_eq_getElem?_getD,Y]
        show Option.bind _ _=_;exact(E2 (λo=>Option.bind o _) q).trans rfl) (by rw[p7 (x:=.int 4) (y:=.int (j:Int)) rfl rfl];exact mul_r _ _ (by omega))]
       rfl) rfl]
      rfl)]
     exact kv0 _ (by omega) (by omega)
    ·refine u5 (uw0 (l:=((List.range j).map λk=>strOf (F k)).map .str) (d:=.str (strOf (F j))) rfl ?_ (by simp;omega)) ?_
     ·have t1:N5 (gv 6) O3 (someO (gv 7)) [.sh (.int c'),.sh (.int t),.sh (.str V8),.sh (.int (n:Int)),.ow (.lst (pl.map .int)),.sh (.int (j:Int)),.sh (.str (strOf w)),.sh (.int (a:Int)),.ow (.lst (((List.range j).map λk=>strOf (F k)).map .str)),.sh (.str ⟨#[cg ((p+4*(j:Int))%36)]⟩)]=some (.str (strOf (w.take a))):=by
       show slA (.str (strOf w)) none (some (a:Int))=_;simp only[slA];rw[if_pos (by rw[zb0,wl];omega),fi0 _ _ (by omega) (by omega),Int.toNat_natCast]
      have t2:N5 (gv 6) (someO (o2 (gv 7) (gc (.int 1)) Z3)) O3 [.sh (.int c'),.sh (.int t),.sh (.str V8),.sh (.int (n:Int)),.ow (.lst (pl.map .int)),.sh (.int (j:Int)),.sh (.str (strOf w)),.sh (.int (a:Int)),.ow (.lst (((List.range j).map λk=>strOf (F k)).map .str)),.sh (.str ⟨#[cg ((p+4*(j:Int))%36)]⟩)]=some (.str (strOf (w.drop (a+1)))):=by
       show slA (.str (strOf w)) (some ((a:Int)+1)) none=_;simp only[slA];rw[if_pos (by rw[zb0,wl];omega),Ze0 _ _ (by omega) (by omega),show ((a:Int)+1).toNat=a+1 by omega]
      change o2 _ _ _ [.sh (.int c'),.sh (.int t),.sh (.str V8),.sh (.int (n:Int)),.ow (.lst (pl.map .int)),.sh (.int (j:Int)),.sh (.str (strOf w)),.sh (.int (a:Int)),.ow (.lst (((List.range j).map λk=>strOf (F k)).map .str)),.sh (.str ⟨#[cg ((p+4*(j:Int))%36)]⟩)]=_
      rw[p7 (x:=.str (strOf (w.take a++[cg ((p+4*(j:Int))%36)]))) (y:=.str (strOf (w.drop (a+1)))) (by
       rw[p7 t1 rfl];exact jx0 _ [cg ((p+4*(j:Int))%36)] (by rw[List.length_take];simp;omega)) t2]
      rw[jx0 _ _ (by rw[List.length_append,List.length_take,List.length_drop];simp;omega)];show some (D.str (strOf _))=some (D.str (strOf (w.take a++cg ((p+4*(j:Int))%36)::w.drop (a+1))));rw[List.append_assoc];rfl
     ·rw[List.range_succ,List.map_append,List.map_append]
      rfl) ⟨_,_,rfl⟩
  obtain⟨a6,s9,rfl⟩:=m2;refine⟨(List.range 8).map λk=>strOf (F k),R8 rfl (Z _ _ (u5 (δ':=[.sh (.int c'),.sh (.int t),.sh (.str V8),.sh (.int (n:Int)),.ow (.lst (pl.map .int)),s5,.sh (.str (strOf w)),.un,.un,.un]) ?_ (u5 (j8 (d:=.int (a:Int)) ?_) (u5 (δ':=[.sh (.int c'),.sh (.int t),.sh (.str V8),.sh (.int (n:Int)),.ow (.lst (pl.map .int)),s5,.sh (.str (strOf w)),.sh (.int (a:Int)),.ow (.lst []),.un]) rfl (u5 (zd0 (items:=S5 0 8) rfl m1) (S7 rfl)))))),by simp,λs hs=>?_,?_⟩
  ·rw[Z6 (by show some (decide (t/8%3=1))=_;rw[decide_eq_false hb])];rfl
  ·rw[p7 (x:=.int t) (y:=.int (n:Int)) rfl rfl,y90 _ _ (by omega),ha]
  ·obtain⟨k,hk,rfl⟩:=B0.mp hs
   refine p70 _ (by rw[Fl];omega) (by rw[Fl];omega) λx hx=>?_
   rcases B4.mp hx with q|q
   ·exact wm x (i8 q)
   ·rcases B2.mp q with q|q
    ·rw[q];exact f40 _ (by omega) (by omega)
    ·exact wm x (Aw0 q)
  ·refine B20.mpr (j3.mpr (B30 ?_ (B40 (n:=8))))
   intro x y hx hy a7 e;have hx:=C9.mp hx;have hy:=C9.mp hy;have e:w.take a++cg ((p+4*(x:Int))%36)::w.drop (a+1)=w.take a++cg ((p+4*(y:Int))%36)::w.drop (a+1):=p50 e;have e:=List.append_cancel_left e;injection e with e _
   have:=Zj0 _ _ (by omega) (by omega) (by omega) (by omega) e;omega
end Gw
namespace Gw
open Ra
open DL W
theorem t00(c k:Int)(hk:0<=k/\k<=1000000):∃x,0<=x/\x<2147483647/\V3 [.int c,.int k]=some (.int x):=by
 refine⟨(c%2147483647+1)*(48271+7*k)%2147483647,L1 _ (by decide),L9 _ (by decide),Z2 rfl (m9 (X8 ?_))⟩;rw[p7 (x:=.int ((c%2147483647+1)*(48271+7*k))) (y:=.int 2147483647) (by
  rw[p7 (x:=.int (c%2147483647+1)) (y:=.int (48271+7*k)) rfl (by
   rw[p7 (x:=.int 48271) (y:=.int (7*k)) rfl (by rw[p7 (x:=.int 7) (y:=.int k) rfl rfl];exact mul_r _ _ (by omega))];rfl)]
  exact mul_r _ _ (by omega)) rfl]
 rfl
structure Vk(v:D)(m:Int):Prop where
 ok:rz0 v=true
 bd:∀i,v=.int i->i.natAbs<10 ^ 60
 lk:∀k,lk v=some k->k<m
theorem V20:mw0 (.int 10) (.int 60)=some (.int (10 ^ 60)):=by kernel_rfl
theorem n00(x m:Int)(hx:0<=x/\x<2 ^ 40)(hm:0<m):∃v,T6 [.int x,.int m]=some v/\Vk v m:=by
 have z:(100:Nat)<=sizeLine:=by decide
 have s0:j4 (gN 2) (o2 (gv 0) (gc (.int 10)) d9) [.sh (.int x),.sh (.int m),.un]=some (.nx [.sh (.int x),.sh (.int m),.sh (.int (x%10))]):=rfl;have el:∀k:Int,ob (o2 (gv 2) (gc (.int k)) ltD) [.sh (.int x),.sh (.int m),.sh (.int (x%10))]=some (decide (x%10<k)):=λk=>rfl
 have ee:∀k:Int,ob (o2 (gv 2) (gc (.int k)) eqD) [.sh (.int x),.sh (.int m),.sh (.int (x%10))]=some (decide (x%10=k)):=λk=>rfl
 have nl:∀(k:Int) (A:GS),¬x%10<k->ifD (ob (o2 (gv 2) (gc (.int k)) ltD)) A p6 [.sh (.int x),.sh (.int m),.sh (.int (x%10))]=some (.nx [.sh (.int x),.sh (.int m),.sh (.int (x%10))]):=λk A h=>by
  rw[Z6 (by rw[el,decide_eq_false h])];rfl
 have ne:∀(k:Int) (A:GS),¬x%10=k->ifD (ob (o2 (gv 2) (gc (.int k)) eqD)) A p6 [.sh (.int x),.sh (.int m),.sh (.int (x%10))]=some (.nx [.sh (.int x),.sh (.int m),.sh (.int (x%10))]):=λk A h=>by
  rw[Z6 (by rw[ee,decide_eq_false h])];rfl
 by_cases h6:x%10<6
 ·have O:0<=x/10%m:=L1 _ (by omega)
  have Y:x/10%m<m:=L9 _ hm;refine⟨.tup [.str "at",.int (x/10%m)],Z2 rfl (u5 s0 (m9 ?_)),by simp[rz0,marks,O],(λi hi=>by cases hi),λk hk=>?_⟩
  ·rw[N6 (by rw[el,decide_eq_true h6])]
   exact m9 (X8 (U7 (cons_of rfl (cons_of (d:=.int (x/10%m)) (by
    rw[p7 (x:=.int (x/10)) (y:=.int m) rfl rfl];exact y90 _ _ hm) rfl)) (by show 2<=sizeLine;omega)))
  ·have:=B3 hk
   omega
 by_cases e6:x%10=6
 ·refine⟨.non,Z2 rfl (u5 s0 (u5 (nl 6 _ h6) (m9 ?_))),rfl,(λi hi=>by cases hi),λk hk=>by cases hk⟩
  rw[N6 (by rw[ee,decide_eq_true e6])];rfl
 have F:(10:Nat) ^ 60=1000000000000000000000000000000000000000000000000000000000000:=by decide
 by_cases h9:x%10<9
 ·refine⟨.int (x/10%3 - 1),Z2 rfl (u5 s0 (u5 (nl 6 _ h6) (u5 (ne 6 _ e6) (m9 ?_)))),rfl,(λi hi=>?_),λk hk=>by cases hk⟩
  ·rw[N6 (by rw[el,decide_eq_true h9])];rfl
  ·injection hi with hi
   rw[F];omega
 ·obtain⟨b,hb⟩:∃b:Int,b=(x/10) ^ 7%10 ^ 60:=⟨_,rfl⟩
  have J:(10:Int) ^ 60=1000000000000000000000000000000000000000000000000000000000000:=by decide
  have b0:0<=b:=by rw[hb];exact L1 _ (by decide)
  have b1:b<10 ^ 60:=by rw[hb];exact L9 _ (by decide)
  obtain⟨q,hq,L⟩:∃q:Int,q=1 - 2*(x/20%2)/\(q=1∨q=-1):=⟨_,rfl,by omega⟩;refine⟨.int (b*q),Z2 rfl (u5 s0 (u5 (nl 6 _ h6) (u5 (ne 6 _ e6) (u5 (nl 9 _ h9) (m9 (X8 ?_)))))),rfl,(λi hi=>?_),λk hk=>by cases hk⟩
  ·rw[p7 (x:=.int b) (y:=.int q) (by
    rw[p7 (x:=.int ((x/10) ^ 7)) (y:=.int (10 ^ 60)) (by
     rw[p7 (x:=.int (x/10)) (y:=.int 7) rfl rfl];simp only[mw0,ii];rw[if_pos ⟨by decide,by decide,by omega⟩];rfl) (by rw[p7 (x:=.int 10) (y:=.int 60) rfl rfl];exact V20)]
    rw[y90 _ _ (by decide),hb]) (by
    rw[p7 (x:=.int 1) (y:=.int (2*(x/20%2))) rfl (by rw[p7 (x:=.int 2) (y:=.int (x/20%2)) rfl rfl];exact mul_r _ _ (by omega)),hq];rfl)]
   exact mul_r _ _ (by omega)
  ·injection hi with hi
   rw[← hi,F];rw[J] at b1;rcases L with rfl|rfl
   ·rw[Int.mul_one];omega
   ·rw[Int.mul_neg,Int.mul_one,Int.natAbs_neg];omega
def VB:GS:=(v8 (j4 (gN 0) (o2 (o2 (gv 0) (gc (.int 48271)) J2) (gc (.int 2147483647)) d9))
 (v8 (X7 (O2 3 (oA (z9 (gv 0) (z9 (gv 2) v6)) T6)))
 p6))
theorem J7(x:Int)(c:Nat)(m:Int)(hc:c<=1000)(hm:0<m):∃vs,M7 [.int x,.int (c:Int),.int m]=some (.lst vs)/\vs.length=c/\∀v∈vs,Vk v m:=by
 have z:(10000:Nat)<=sizeLine:=by decide
 obtain⟨δ',l1,l2⟩:=zc0 (f:=gN 4) (G:=VB) (λi δ=>∃(x':Int) (vs:List D) (s4:Sl),δ=[.sh (.int x'),.sh (.int (c:Int)),.sh (.int m),.ow (.lst vs),s4]/\vs.length=i/\∀v∈vs,Vk v m) (S5 0 (c:Int)) 0
  [.sh (.int x),.sh (.int (c:Int)),.sh (.int m),.ow (.lst []),.un] (by
   rintro j d δ hj ⟨x',vs,s4,rfl,hl,hv⟩;obtain⟨F,rfl⟩:=wx0 hj;rw[Int.toNat_natCast] at F;obtain⟨v,J,L⟩:=n00 (x'*48271%2147483647) m ⟨L1 _ (by decide),by have:=L9 (x'*48271) (by decide:(0:Int)<2147483647);omega⟩ hm;refine⟨_,[.sh (.int (x'*48271%2147483647)),.sh (.int (c:Int)),.sh (.int m),.ow (.lst (vs++[v])),.sh (.int (j:Int))],rfl,?_,_,vs++[v],_,rfl,by simp[hl],λu hu=>?_⟩
   ·refine u5 (j8 (d:=.int (x'*48271%2147483647)) (by
     rw[p7 (x:=.int (x'*48271)) (y:=.int 2147483647) (by rw[p7 (x:=.int x') (y:=.int 48271) rfl rfl];exact mul_r _ _ (by omega)) rfl];rfl)) ?_
    refine u5 (uw0 (l:=vs) (d:=v) rfl (by rw[o6 (ds:=[.int (x'*48271%2147483647),.int m]) rfl];exact J) (by omega)) rfl
   ·rcases B4.mp hu with q|q
    ·exact hv u q
    ·rw[List.mem_singleton.mp q];exact L) ⟨_,[],_,rfl,rfl,λv hv=>by cases hv⟩
 obtain⟨x',vs,s4,rfl,hl,hv⟩:=l2;rw[vd0,Int.toNat_natCast,Nat.zero_add] at hl;exact⟨vs,R8 rfl (u5 (δ':=[.sh (.int x),.sh (.int (c:Int)),.sh (.int m),.ow (.lst []),.un]) rfl (u5 (zd0 (items:=S5 0 (c:Int)) (xr0 (cons_of rfl rfl) (by omega) (by omega)) l1) (S7 rfl))),hl,hv⟩
structure Gd(p:Pt)(m:Int)(nm:List Str):Prop where
 ok:p.Ok
 vk:∀v∈p.vals,Vk v m
 nms:∀s∈p.all,s∈nm
theorem w_a:isWord ("" : Str)=true/\isWord ("a" : Str)=true/\isWord (" a" : Str)=true:=by decide +kernel
theorem s_0:((" 0" : Str))=strOf [32,48]:=by decide +kernel
theorem g10(l:List Nat)(h2:l.length<=20)(h3:∀c∈l,c∈og0.cps.toList):isWord (strOf l)=true:=by
 unfold isWord hasAll;rw[zb0,yj0];simp only[Bool.and_eq_true,decide_eq_true_eq,List.all_eq_true];exact⟨by omega,λc hc=>by simpa using h3 c hc⟩
theorem gz0:∀c∈nameS.cps.toList,c∈og0.cps.toList:=by decide +kernel
theorem bg0:∀c∈([32,48]:List Nat),c∈og0.cps.toList:=by decide +kernel
theorem name_mem{s:Str}(h:isName s=true):∀c∈s.cps.toList,c∈nameS.cps.toList:=by
 unfold isName hasAll at h;simp only[Bool.and_eq_true,decide_eq_true_eq,List.all_eq_true] at h;intro c hc;have:=h.1.2 c hc
 simpa using this
theorem oh0(nm:List Str)(hp:Pool nm)(i:Int)(h0:0<=i)(h1:i<8):ixD (.lst (nm.map .str)) (.int i)=some (.str (nm.getD i.toNat ""))/\nm.getD i.toNat ""∈nm:=by
 have hl:=hp.len;have F:i.toNat<nm.length:=by omega
 refine⟨?_,?_⟩
 ·show atI (nm.map D.str) i=_
  rw[yi0 h0 (by rw[List.length_map];omega) .non];simp[List.getD_eq_getElem?_getD,F]
 ·rw[show nm.getD i.toNat ""=nm[i.toNat] by simp[List.getD_eq_getElem?_getD,F]]
  exact E8 F
theorem Z60(x m:Int)(vs:List D)(nm:List Str)(hp:Pool nm)(hv:∀v∈vs,Vk v m)(hl:vs.length<=12)(hl8:¬x%8<4->vs.length<=8):∃p:Pt,z30 [.int x,.lst vs,.lst (nm.map .str)]=some p.d/\Gd p m nm:=by
 have z:(100:Nat)<=sizeLine:=by decide
 have a8:=hp.len;have s0:j4 (gN 3) (o2 (gv 0) (gc (.int 8)) d9) [.sh (.int x),.sh (.lst vs),.sh (.lst (nm.map .str)),.un,.un,.un]=some (.nx [.sh (.int x),.sh (.lst vs),.sh (.lst (nm.map .str)),.sh (.int (x%8)),.un,.un]):=rfl
 by_cases h0:x%8=0
 ·obtain⟨w,hw,a0⟩:∃w:Str,o2 (Y0 (z9 (gc (.str "")) (z9 (gc (.str "a")) (z9 (gc (.str " a")) (z9 (o2 (o2 (gv 2) (gc (.int 0)) ixD) (gc (.str " 0")) Z3) v6))))) (o2 (o2 (gv 0) (gc (.int 16)) X4) (gc (.int 4)) d9) ixD [.sh (.int x),.sh (.lst vs),.sh (.lst (nm.map .str)),.sh (.int (x%8)),.un,.un]=some (.str w)/\isWord w=true:=by
   obtain⟨a1,a2⟩:=oh0 nm hp 0 (by omega) (by omega);obtain⟨s,hs⟩:∃s,s=nm.getD (0:Int).toNat "" := ⟨_,rfl⟩;rw[← hs] at a1 a2;have hn:=hp.names s a2;have a6:=i30 hn;have es:s=strOf s.cps.toList:=(eg0 s).symm;have a5:s.cps.toList.length<=8:=by
    have:s.length=s.cps.toList.length:=by show s.cps.size=_;simp
    omega
   rw[p7 (x:=.lst [.str "",.str "a",.str " a",.str (strOf (s.cps.toList++[32,48]))]) (y:=.int (x/16%4)) (y50 (cons_of rfl (cons_of rfl (cons_of rfl (cons_of (d:=.str (strOf (s.cps.toList++[32,48]))) (by
    rw[p7 (x:=.str s) (y:=.str " 0") (by rw[p7 (x:=.lst (nm.map .str)) (y:=.int 0) rfl rfl];exact a1) rfl];have e:Z3 (.str (strOf s.cps.toList)) (.str (strOf [32,48]))=some (.str (strOf (s.cps.toList++[32,48]))):=jx0 _ _ (by simp only[List.length_cons,List.length_nil];omega);rw[← es,← s_0] at e;exact e) rfl)))) (by show 4<=sizeLine;omega)) rfl]
   have q:x/16%4=0∨x/16%4=1∨x/16%4=2∨x/16%4=3:=by omega
   rcases q with q|q|q|q<;>rw[q]
   ·exact⟨_,rfl,w_a.1⟩
   ·exact⟨_,rfl,w_a.2.1⟩
   ·exact⟨_,rfl,w_a.2.2⟩
   ·refine⟨_,rfl,g10 _ (by simp only[List.length_append,List.length_cons,List.length_nil];omega) λc hc=>?_⟩
    rcases B4.mp hc with q|q
    ·exact gz0 c (name_mem hn c q)
    ·exact bg0 c q
  refine⟨.text w,Z2 rfl (u5 s0 (m9 ?_)),a0,(λv hv=>by cases hv),λs hs=>by cases hs⟩;rw[N6 (by show some (decide (x%8=0))=_;rw[decide_eq_true h0])];exact m9 (X8 (U7 (cons_of rfl (cons_of hw rfl)) (by show 2<=sizeLine;omega)))
 have n0:∀A:GS,ifD (ob (o2 (gv 3) (gc (.int 0)) eqD)) A p6 [.sh (.int x),.sh (.lst vs),.sh (.lst (nm.map .str)),.sh (.int (x%8)),.un,.un]=some (.nx [.sh (.int x),.sh (.lst vs),.sh (.lst (nm.map .str)),.sh (.int (x%8)),.un,.un]):=λA=>by
  rw[Z6 (by show some (decide (x%8=0))=_;rw[decide_eq_false h0])];rfl
 by_cases h4:x%8<4
 ·refine⟨.row vs,Z2 rfl (u5 s0 (u5 (n0 _) (m9 ?_))),⟨hl,λv q=>(hv v q).ok⟩,hv,λs hs=>by cases hs⟩
  rw[N6 (by show some (decide (x%8<4))=_;rw[decide_eq_true h4])];exact m9 (X8 (U7 (cons_of rfl (cons_of (by rw[o6 (ds:=[.lst vs]) rfl];rfl) rfl)) (by show 2<=sizeLine;omega)))
 have n4:∀A:GS,ifD (ob (o2 (gv 3) (gc (.int 4)) ltD)) A p6 [.sh (.int x),.sh (.lst vs),.sh (.lst (nm.map .str)),.sh (.int (x%8)),.un,.un]=some (.nx [.sh (.int x),.sh (.lst vs),.sh (.lst (nm.map .str)),.sh (.int (x%8)),.un,.un]):=λA=>by
  rw[Z6 (by show some (decide (x%8<4))=_;rw[decide_eq_false h4])];rfl
 have a7:=hl8 h4;obtain⟨st,Z⟩:∃st:Int,st=x/8%2*3:=⟨_,rfl⟩;have a3:0<=st/\st<=3:=by omega
 obtain⟨ns,L⟩:∃ns:Nat->Str,ns=λ(j:Nat)=>nm.getD ((st+(j:Int))%8).toNat "" := ⟨_,rfl⟩
 have Y:∀j,ns j∈nm:=λj=>by rw[L];exact(oh0 nm hp ((st+(j:Int))%8) (by omega) (by omega)).2
 obtain⟨ps,J⟩:∃ps:List (Str×D),ps=(List.range vs.length).map λj=>(ns j,vs.getD j .non):=⟨_,rfl⟩
 have snd:ps.map (·.2)=vs:=by
  rw[J,List.map_map];refine List.ext_getElem (by simp) λi h1 h2=>?_
  simp[List.getD_eq_getElem?_getD,h2]
 have fst:∀s∈ps.map (·.1),s∈nm:=λs hs=>by
  obtain⟨p,F,rfl⟩:=B0.mp hs;rw[J] at F;obtain⟨j,_,rfl⟩:=B0.mp F;exact Y j
 have O:PsOk ps:=by
  refine⟨by rw[J];simp;omega,λp F=>hp.names _ (fst _ (B0.mpr ⟨p,F,rfl⟩)),λp F=>(hv p.2 (by rw[← snd];exact B0.mpr ⟨p,F,rfl⟩)).ok,?_⟩;rw[J,List.map_map];refine B20.mpr (j3.mpr (B30 ?_ (B40 (n:=vs.length))));intro a b ha hb a4 e;have ha:=C9.mp ha;have hb:=C9.mp hb;have e:ns a=ns b:=e;rw[L] at e;have la:((st+(a:Int))%8).toNat<nm.length:=by omega
  have lb:((st+(b:Int))%8).toNat<nm.length:=by omega
  have e:nm.getD ((st+(a:Int))%8).toNat ""=nm.getD ((st+(b:Int))%8).toNat "" := e;rw[show nm.getD ((st+(a:Int))%8).toNat ""=nm[((st+(a:Int))%8).toNat] by simp[List.getD_eq_getElem?_getD,la],show nm.getD ((st+(b:Int))%8).toNat ""=nm[((st+(b:Int))%8).toNat] by simp[List.getD_eq_getElem?_getD,lb]] at e;have:=(B80 hp.nd).mp e;omega
 have s4:j4 (gN 4) (o2 (o2 (o2 (gv 0) (gc (.int 8)) X4) (gc (.int 2)) d9) (gc (.int 3)) J2) [.sh (.int x),.sh (.lst vs),.sh (.lst (nm.map .str)),.sh (.int (x%8)),.un,.un]=some (.nx [.sh (.int x),.sh (.lst vs),.sh (.lst (nm.map .str)),.sh (.int (x%8)),.sh (.int st),.un]):=j8 (d:=.int st) (by
  rw[p7 (x:=.int (x/8%2)) (y:=.int 3) rfl rfl,mul_r _ _ (by omega),Z])
 have s5:j4 (gN 5) (oA (z9 (W3 1 [1,2,4] (G6 (z9 (oA (z9 (gv 1) v6) Z5) v6)) (gN 0) noT (Y7 (z9 (o2 (gv 2) (o2 (o2 (gv 3) (gv 0) Z3) (gc (.int 8)) d9) ixD) (z9 (o2 (gv 1) (gv 0) ixD) v6)))) v6) J6) [.sh (.int x),.sh (.lst vs),.sh (.lst (nm.map .str)),.sh (.int (x%8)),.sh (.int st),.un]=some (.nx [.sh (.int x),.sh (.lst vs),.sh (.lst (nm.map .str)),.sh (.int (x%8)),.sh (.int st),.sh (.tup (ps.map pr))]):=j8 (d:=.tup (ps.map pr)) (by
  rw[o6 (ds:=[.lst (ps.map pr)]) (cons_of (U0 (items:=S5 0 (vs.length:Int)) (xr0 (cons_of rfl rfl) (by omega) (by omega)) (by rw[vd0];omega) (by
   rw[J,List.map_map];have q:=e70 (gt:=noT) (ge:=(Y7 (z9 (o2 (gv 2) (o2 (o2 (gv 3) (gv 0) Z3) (gc (.int 8)) d9) ixD) (z9 (o2 (gv 1) (gv 0) ixD) v6)))) (δ:=[.un,.sh (.lst vs),.sh (.lst (nm.map .str)),.sh (.int st)]) (n:=(vs.length:Int)) (λj=>pr (ns j,vs.getD j .non)) (λk hk=>⟨[.sh (.int (k:Int)),.sh (.lst vs),.sh (.lst (nm.map .str)),.sh (.int st)],rfl,rfl,by
    refine U7 (cons_of (d:=.str (ns k)) ?_ (cons_of (d:=vs.getD k .non) ?_ rfl)) (by show 2<=sizeLine;omega)
    ·rw[p7 (x:=.lst (nm.map .str)) (y:=.int ((st+(k:Int))%8)) rfl rfl,L]
     exact(oh0 nm hp _ (by omega) (by omega)).1
    ·rw[p7 (x:=.lst vs) (y:=.int (k:Int)) rfl rfl]
     show atI vs (k:Int)=_;rw[yi0 (by omega) (by omega) .non,Int.toNat_natCast]⟩)
   rw[Int.toNat_natCast] at q;exact q)) rfl)]
  rfl)
 by_cases h6:x%8<6
 ·refine⟨.table ps,Z2 rfl (u5 s0 (u5 (n0 _) (u5 (n4 _) (u5 s4 (u5 s5 (m9 ?_)))))),O,by show ∀v∈ps.map (·.2),Vk v m;rw[snd];exact hv,λs hs=>fst s (by simpa [Pt.all,Pt.pnames,Pt.cls] using hs)⟩
  rw[N6 (by show some (decide (x%8<6))=_;rw[decide_eq_true h6])];exact m9 (X8 (U7 (cons_of rfl (cons_of rfl rfl)) (by show 2<=sizeLine;omega)))
 ·obtain⟨a1,a2⟩:=oh0 nm hp (x/16%2) (by omega) (by omega)
  refine⟨.rcd (nm.getD (x/16%2).toNat "") ps,Z2 rfl (u5 s0 (u5 (n0 _) (u5 (n4 _) (u5 s4 (u5 s5 (u5 (δ':=[.sh (.int x),.sh (.lst vs),.sh (.lst (nm.map .str)),.sh (.int (x%8)),.sh (.int st),.sh (.tup (ps.map pr))]) ?_ (m9 (X8 ?_)))))))),⟨hp.names _ a2,O⟩,by show ∀v∈ps.map (·.2),Vk v m;rw[snd];exact hv,λs hs=>?_⟩
  ·rw[Z6 (by show some (decide (x%8<6))=_;rw[decide_eq_false h6])];rfl
  ·exact U7 (cons_of rfl (cons_of (by
    rw[p7 (x:=.lst (nm.map .str)) (y:=.int (x/16%2)) rfl rfl];exact a1) (cons_of rfl rfl))) (by show 3<=sizeLine;omega)
  ·rcases B4.mp hs with q|q
   ·exact fst s q
   ·have:=N9.mp q
    rw[this];exact a2
def WB:GS:=(v8 (j4 (gN 5) (oA (z9 (o2 (o2 (gv 0) (o2 (gv 4) (oA (z9 (gv 0) v6) Z5) d9) ixD) (o2 (gv 4) (o2 (gv 4) (oA (z9 (gv 0) v6) Z5) X4) J2) Z3) (z9 (gv 4) v6)) V3))
 (v8 (j4 (gN 6) (o2 (Y0 (z9 (gc (.int 0)) (z9 (gc (.int 1)) (z9 (gc (.int 2)) (z9 (gc (.int 2)) (z9 (gc (.int 3)) (z9 (gc (.int 2)) (z9 (gc (.int 3)) (z9 (gc (.int 1)) v6))))))))) (o2 (o2 (gv 5) (gc (.int 32)) X4) (gc (.int 8)) d9) ixD))
 (v8 (ifD (ob (o2 (o2 (o2 (gv 5) (gc (.int 256)) X4) (gc (.int 16)) d9) (gc (.int 3)) eqD))
 (v8 (j4 (gN 6) (o2 (Y0 (z9 (gc (.int 8)) (z9 (gc (.int 12)) v6))) (oA (z9 (o2 (o2 (gv 5) (gc (.int 8)) d9) (gc (.int 4)) ltD) v6) intOfD) ixD))
 p6)
 p6)
 (v8 (j4 (gN 7) (oA (z9 (o2 (o2 (gv 5) (gc (.int 8)) X4) (gc (.int 1)) Z3) (z9 (gv 6) (z9 (gv 1) v6))) M7))
 (v8 (X7 (O2 3 (oA (z9 (gv 5) (z9 (gv 7) (z9 (gv 2) v6))) z30)))
 p6)))))
theorem W60(cs:List Int)(hc:0<cs.length/\cs.length<=1000)(m:Int)(hm:0<m/\m<=1000)(nm:List Str)(hp:Pool nm)(k:Nat)(hk:k<=1000)(acc:List D)(ha:acc.length<=2000)(s5 s6 s7:Sl) :
  ∃(p:Pt) (t5 t6 t7:Sl),Gd p m nm/\WB [.sh (.lst (cs.map .int)),.sh (.int m),.sh (.lst (nm.map .str)),.ow (.lst acc),.sh (.int (k:Int)),s5,s6,s7]=some (.nx [.sh (.lst (cs.map .int)),.sh (.int m),.sh (.lst (nm.map .str)),.ow (.lst (acc++[p.d])),.sh (.int (k:Int)),t5,t6,t7]):=by
 have z:(10000:Nat)<=sizeLine:=by decide
 obtain⟨l,hl⟩:∃l:Int,l=(cs.length:Int):=⟨_,rfl⟩;have Y:0<=(k:Int)%l:=L1 _ (by omega);have hi1:(k:Int)%l<l:=L9 _ (by omega);obtain⟨c,a0⟩:∃c:Int,ixD (.lst (cs.map .int)) (.int ((k:Int)%l))=some (.int c):=by
  have a2:((k:Int)%l).toNat<cs.length:=by omega
  refine⟨cs[((k:Int)%l).toNat],?_⟩;show atI (cs.map D.int) _=_;rw[yi0 Y (by rw[List.length_map];omega) .non];simp[List.getD_eq_getElem?_getD,a2]
 have a5:(k:Int)/l<=1000/\0<=(k:Int)/l:=by
  have h1:=Int.ediv_le_self l (show (0:Int)<=(k:Int) by omega);have h2:=Int.ediv_nonneg (show (0:Int)<=(k:Int) by omega) (show (0:Int)<=l by omega);omega
 obtain⟨x,a8,a7,hx⟩:=t00 (c+(k:Int)*((k:Int)/l)) (k:Int) ⟨by omega,by omega⟩;obtain⟨n,hn,a4,a1⟩:∃n:Nat,(n:Int)=(if x/256%16=3 then (if x%8<4 then 12 else 8) else [0,1,2,2,3,2,3,1].getD (x/32%8).toNat 0)/\n<=12/\(¬x%8<4->n<=8):=by
  split
  ·split
   ·exact⟨12,rfl,by omega,λh=>absurd (by assumption) h⟩
   ·exact⟨8,rfl,by omega,λ_=>by omega⟩
  ·have q:x/32%8=0∨x/32%8=1∨x/32%8=2∨x/32%8=3∨x/32%8=4∨x/32%8=5∨x/32%8=6∨x/32%8=7:=by omega
   rcases q with q|q|q|q|q|q|q|q<;>rw[q]
   ·exact⟨0,rfl,by omega,λ_=>by omega⟩
   ·exact⟨1,rfl,by omega,λ_=>by omega⟩
   ·exact⟨2,rfl,by omega,λ_=>by omega⟩
   ·exact⟨2,rfl,by omega,λ_=>by omega⟩
   ·exact⟨3,rfl,by omega,λ_=>by omega⟩
   ·exact⟨2,rfl,by omega,λ_=>by omega⟩
   ·exact⟨3,rfl,by omega,λ_=>by omega⟩
   ·exact⟨1,rfl,by omega,λ_=>by omega⟩
 obtain⟨vs,O,a6,L⟩:=J7 (x/8+1) n m (by omega) (by omega);obtain⟨p,a3,Z⟩:=Z60 x m vs nm hp L (by omega) (λh=>by have:=a1 h;omega);refine⟨p,.sh (.int x),.sh (.int (n:Int)),.sh (.lst vs),Z,?_⟩;unfold WB;have F:∀(s5 s6 s7:Sl),oA (z9 (gv 0) v6) Z5 [.sh (.lst (cs.map .int)),.sh (.int m),.sh (.lst (nm.map .str)),.ow (.lst acc),.sh (.int (k:Int)),s5,s6,s7]=some (.int l):=λs5 s6 s7=>by
  rw[o6 (ds:=[.lst (cs.map .int)]) rfl];show some (D.int (((cs.map D.int).length:Nat):Int))=_;rw[List.length_map,hl]
 refine u5 (j8 (d:=.int x) ?_) ?_
 ·rw[o6 (ds:=[.int (c+(k:Int)*((k:Int)/l)),.int (k:Int)]) (cons_of (d:=.int (c+(k:Int)*((k:Int)/l))) (by
   rw[p7 (x:=.int c) (y:=.int ((k:Int)*((k:Int)/l))) (by
    rw[p7 (x:=.lst (cs.map .int)) (y:=.int ((k:Int)%l)) rfl (by rw[p7 (x:=.int (k:Int)) (y:=.int l) rfl (F _ _ _)];exact y90 _ _ (by omega))];exact a0) (by
    rw[p7 (x:=.int (k:Int)) (y:=.int ((k:Int)/l)) rfl (by rw[p7 (x:=.int (k:Int)) (y:=.int l) rfl (F _ _ _)];exact sm0 _ _ ⟨by omega,by omega⟩)];exact mul_r _ _ (by omega))]
   rfl) rfl)]
  exact hx
 obtain⟨n0,J⟩:∃n0:Int,n0=[0,1,2,2,3,2,3,1].getD (x/32%8).toNat 0:=⟨_,rfl⟩;refine u5 (j8 (d:=.int n0) ?_) ?_
 ·rw[p7 (x:=.lst [.int 0,.int 1,.int 2,.int 2,.int 3,.int 2,.int 3,.int 1]) (y:=.int (x/32%8)) (y50 rfl (by show 8<=sizeLine;omega)) rfl]
  rw[J];have q:x/32%8=0∨x/32%8=1∨x/32%8=2∨x/32%8=3∨x/32%8=4∨x/32%8=5∨x/32%8=6∨x/32%8=7:=by omega
  rcases q with q|q|q|q|q|q|q|q<;>rw[q]<;>rfl
 refine u5 (δ':=[.sh (.lst (cs.map .int)),.sh (.int m),.sh (.lst (nm.map .str)),.ow (.lst acc),.sh (.int (k:Int)),.sh (.int x),.sh (.int (n:Int)),s7]) ?_ ?_
 ·change ifD _ _ _ [.sh (.lst (cs.map .int)),.sh (.int m),.sh (.lst (nm.map .str)),.ow (.lst acc),.sh (.int (k:Int)),.sh (.int x),.sh (.int n0),s7]=_
  rw[hn]
  by_cases h:x/256%16=3
  ·rw[N6 (by show some (decide (x/256%16=3))=_;rw[decide_eq_true h]),if_pos h]
   refine u5 (j8 (d:=.int (if x%8<4 then 12 else 8)) ?_) rfl;rw[p7 (x:=.lst [.int 8,.int 12]) (y:=.int (if decide (x%8<4)=true then 1 else 0)) (y50 rfl (by show 2<=sizeLine;omega)) rfl]
   by_cases q:x%8<4
   ·rw[if_pos (B50 q),if_pos q];rfl
   ·rw[if_neg (by simpa using q),if_neg q];rfl
  ·rw[Z6 (by show some (decide (x/256%16=3))=_;rw[decide_eq_false h]),if_neg h,J];rfl
 refine u5 (j8 (d:=.lst vs) (by
  rw[o6 (ds:=[.int (x/8+1),.int (n:Int),.int m]) rfl];exact O)) ?_
 refine u5 (uw0 (l:=acc) (d:=p.d) rfl (by
  rw[o6 (ds:=[.int x,.lst vs,.lst (nm.map .str)]) rfl];exact a3) (by omega)) rfl
theorem nw0(cs:List Int)(hc:0<cs.length/\cs.length<=1000)(m:Nat)(hm:0<m/\m<=1000)(nm:List Str)(hp:Pool nm) :
  ∃ps:List Pt,zn0 [.lst (cs.map .int),.int (m:Int),.lst (nm.map .str)]=some (.tup (ps.map Pt.d))/\ps.length=m/\∀p∈ps,Gd p (m:Int) nm:=by
 have z:(10000:Nat)<=sizeLine:=by decide
 obtain⟨δ',l1,l2⟩:=zc0 (f:=gN 4) (G:=WB) (λi δ=>∃(ps:List Pt) (s4 s5 s6 s7:Sl),δ=[.sh (.lst (cs.map .int)),.sh (.int (m:Int)),.sh (.lst (nm.map .str)),.ow (.lst (ps.map Pt.d)),s4,s5,s6,s7]/\ps.length=i/\∀p∈ps,Gd p (m:Int) nm) (S5 0 (m:Int)) 0
  [.sh (.lst (cs.map .int)),.sh (.int (m:Int)),.sh (.lst (nm.map .str)),.ow (.lst []),.un,.un,.un,.un] (by
   rintro j d δ hj ⟨ps,s4,s5,s6,s7,rfl,hl,hg⟩;obtain⟨F,rfl⟩:=wx0 hj;rw[Int.toNat_natCast] at F;obtain⟨p,t5,t6,t7,h1,h2⟩:=W60 cs hc (m:Int) (by omega) nm hp j (by omega) (ps.map Pt.d) (by rw[List.length_map];omega) s5 s6 s7;refine⟨_,_,rfl,h2,ps++[p],_,t5,t6,t7,by rw[List.map_append];rfl,by simp[hl],λq hq=>?_⟩;rcases B4.mp hq with a|a
   ·exact hg q a
   ·rw[List.mem_singleton.mp a];exact h1) ⟨[],_,_,_,_,rfl,rfl,λp hp=>by cases hp⟩
 obtain⟨ps,s4,s5,s6,s7,rfl,hl,hg⟩:=l2;rw[vd0,Int.toNat_natCast,Nat.zero_add] at hl;refine⟨ps,Z2 rfl (u5 (δ':=[.sh (.lst (cs.map .int)),.sh (.int (m:Int)),.sh (.lst (nm.map .str)),.ow (.lst []),.un,.un,.un,.un]) rfl (u5 (zd0 (items:=S5 0 (m:Int)) (xr0 (cons_of rfl rfl) (by omega) (by omega)) l1) (m9 (X8 ?_)))),hl,hg⟩;show oA (z9 (gv 3) v6) J6 (frz _)=_;rw[o6 (ds:=[.lst (ps.map Pt.d)]) rfl];rfl
theorem p00(ps:List (Str×D)):V2 (J0 0 1) noT (gv 1) [.un,.un] (ps.map pr)=some (ps.map (·.2)):=by
 rw[O5 (λd=>match d with|.tup [_,v]=>v|_=>.non) (λd hd=>by
  obtain⟨p,hp,rfl⟩:=B0.mp hd;exact⟨_,rfl,rfl,rfl⟩),List.map_map]
 rfl
theorem xt0(p:Pt)(h:p.few):Z7 [p.d]=some (.lst p.vals):=by
 cases p with
 | text w=>kernel_rfl
 | row vs =>
  refine R8 rfl (u5 (δ':=[.sh (Pt.row vs).d]) (by rw[Z6 (by kernel_rfl)];rfl) (S7 (by rw[N6 (by kernel_rfl)];rfl)))
 | table ps =>
  refine R8 rfl (u5 (δ':=[.sh (Pt.table ps).d]) (by rw[Z6 (by kernel_rfl)];rfl) (u5 (δ':=[.sh (Pt.table ps).d]) (by rw[Z6 (by kernel_rfl)];rfl) (S7 (G9 ?_))));exact U0 (items:=ps.map pr) rfl (by have:(ps.map (·.2)).length<=sizeLine:=h;simpa using this) (p00 ps)
 | rcd c ps =>
  refine R8 rfl (u5 (δ':=[.sh (Pt.rcd c ps).d]) (by rw[Z6 (by kernel_rfl)];rfl) (u5 (δ':=[.sh (Pt.rcd c ps).d]) (by rw[Z6 (by kernel_rfl)];rfl) (S7 (G9 ?_))));exact U0 (items:=ps.map pr) rfl (by have:(ps.map (·.2)).length<=sizeLine:=h;simpa using this) (p00 ps)
end Gw
namespace K22
open Ra
open DL W
inductive Dfs (adj:Nat->List Nat) (S:List Nat):Nat->List Nat->List Nat->List Nat->Prop
 | nil (o:List Nat):Dfs adj S 0 o [] o
 | skip {c:Nat} {o T r:List Nat} {x:Nat}:x∈o∨x∈S->Dfs adj S c o T r->Dfs adj S (c+1) o (x::T) r
 | visit {c:Nat} {o T r:List Nat} {x:Nat}:x∉o->x∉S->(adj x++T).length+o.length<=10000->Dfs adj S c (o++[x]) (adj x++T) r->Dfs adj S (c+1) o (x::T) r
theorem sub_len:∀{l m:List Nat},l.Nodup->(∀a∈l,a∈m)->l.length<=m.length
 | [],m,_,_=>D3 _
 | a::l,m,h,hs=>by
  obtain⟨h1,h2⟩:=N0.mp h;obtain⟨m1,m2,rfl⟩:=List.append_of_mem (hs a A5);have:=sub_len (m:=m1++m2) h2 λb hb=>by
   have:=hs b (A7 _ hb);rcases B4.mp this with q|q
   ·exact B4.mpr (.inl q)
   ·rcases B2.mp q with rfl|q
    ·exact absurd hb h1
    ·exact B4.mpr (.inr q)
  simp only[List.length_append,List.length_cons] at this ⊢;omega
theorem fq0(adj:Nat->List Nat)(S:List Nat)(n:Nat)(hn:n<=60)(ha:∀i,i<n->(adj i).length<=12/\∀j∈adj i,j<n):∀(M:Nat) (o T:List Nat),T.length+13*(n - o.length)<=M->M<=5000->o.Nodup->(∀x∈o,x<n/\x∉S)->(∀x∈T,x<n) ->
  ∃c r,Dfs adj S c o T r/\c<=M/\r.Nodup/\(∀x∈r,x<n/\x∉S)/\o.length<=r.length:=by
 intro M
 induction M with
 | zero =>
  intro o T hM a1 ho F hT;have:T=[]:=Ao0.mp (by omega);subst this;exact⟨0,o,.nil o,A4 _,ho,F,A4 _⟩
 | succ M ih =>
  intro o T hM a1 ho F hT;cases T with
  | nil=>exact⟨0,o,.nil o,D3 _,ho,F,A4 _⟩
  | cons x T =>
   rw[List.length_cons] at hM
   by_cases hx:x∈o∨x∈S
   ·obtain⟨c,r,h1,h2,h3⟩:=ih o T (by omega) (by omega) ho F λy hy=>hT y (A7 _ hy)
    exact⟨c+1,r,.skip hx h1,by omega,h3⟩
   ·have O:=hT x A5
    obtain⟨hl,hj⟩:=ha x O;have J:x∉o:=λz=>hx (.inl z)
    have L:x∉S:=λz=>hx (.inr z)
    have Z:(o++[x]).Nodup:=x0.mpr ⟨ho,by simp,λa ha b hb e=>by
     have:=N9.mp hb;subst this;subst e;exact J ha⟩
    have Y:∀y∈o++[x],y<n/\y∉S:=λy hy=>by
     rcases B4.mp hy with z|z
     ·exact F y z
     ·have:=N9.mp z;subst this;exact⟨O,L⟩
    have a0:(o++[x]).length<=n:=by
     have:=sub_len Z (m:=List.range n) λy hy=>C9.mpr (Y y hy).1
     rwa [x9] at this
    rw[List.length_append,List.length_singleton] at a0;obtain⟨c,r,h1,h2,h3,h4,h5⟩:=ih (o++[x]) (adj x++T) (by simp only[List.length_append,List.length_singleton];omega) (by omega) Z Y (λy hy=>by
     rcases B4.mp hy with z|z
     ·exact hj y z
     ·exact hT y (A7 _ z))
    refine⟨c+1,r,.visit J L (by rw[List.length_append];omega) h1,by omega,h3,h4,?_⟩;rw[List.length_append] at h5;omega
def nd(l:List Nat):List D:=l.map λ(i:Nat)=>D.int (i:Int)
structure GoodD(W:D)(n:Nat):Prop where
 few:n<=60
 ex:∃Wb,W=.tup Wb/\Wb.length=n/\∀i,i<n->∃vs,Z7 [Wb.getD i .non]=some (.lst vs)/\vs.length<=12/\∀v∈vs,v=.non∨(∃z,v=.int z)∨∃j:Nat,v=.tup [.str "at",.int (j:Int)]/\j<n
def tgs(vs:List D):List Nat:=vs.filterMap λv=>match v with|.tup [_,.int j]=>some j.toNat|_=>none
def P0(W:D)(i:Nat):List Nat:=match W with
 | .tup Wb=>(match Z7 [Wb.getD i .non] with
  | some (.lst vs)=>tgs vs
  | _=>[])
 | _=>[]
section
end
theorem zr0(a b:List Nat):nd (a++b)=nd a++nd b:=by unfold nd;rw[List.map_append]
theorem X10(a:List Nat):(nd a).reverse=nd a.reverse:=by unfold nd;rw[List.map_reverse]
theorem V7(a:List Nat):(nd a).length=a.length:=by simp[nd]
theorem mn0(o:List Nat):((nd o).all λd=>flat d)=true:=by
 unfold nd;rw[List.all_map,List.all_eq_true];exact λ_ _=>rfl
theorem v60:∀{vs:List D},(∀v∈vs,v=.non∨(∃z,v=.int z)∨∃j:Nat,v=.tup [.str "at",.int (j:Int)]/\j<n)->∀j∈tgs vs,j<n:=by
 intro vs h j hj;obtain⟨v,hv,e⟩:=L4.mp hj;rcases h v hv with rfl|⟨z,rfl⟩|⟨i,rfl,hi⟩
 ·cases e
 ·cases e
 ·simp only[Int.toNat_natCast,Option.some.injEq] at e
  omega
theorem Z90{W:D}(hW:GoodD W n)(hi:i<n):∃vs,oA (z9 (o2 (gv 0) (gv 1) ixD) v6) Z7=oA (z9 (o2 (gv 0) (gv 1) ixD) v6) Z7/\(∃d,ixD W (.int (i:Int))=some d/\Z7 [d]=some (.lst vs))/\P0 W i=tgs vs/\vs.length<=12/\∀v∈vs,v=.non∨(∃z,v=.int z)∨∃j:Nat,v=.tup [.str "at",.int (j:Int)]/\j<n:=by
 obtain⟨Wb,rfl,hl,h⟩:=hW.ex;obtain⟨vs,e,h1,h2⟩:=h i hi;refine⟨vs,rfl,⟨Wb.getD i .non,?_,e⟩,?_,h1,h2⟩
 ·show atI Wb (i:Int)=_
  rw[yi0 (by omega) (by omega) .non,Int.toNat_natCast]
 ·unfold P0
  simp only[];rw[e]
theorem Zb0{W:D}(hW:GoodD W n):∀i,i<n->∀j∈P0 W i,j<n:=λi hi j hj=>by
 obtain⟨vs,_,_,e,_,h⟩:=Z90 hW hi;rw[e] at hj;exact v60 h j hj
theorem J7(p:Pt)(h:p.few):m_values [p.d]=some (.lst p.vals):=Pn.J7 p h
theorem df0(p:Pt)(h:p.few)(vs:List D):V1 [p.d,.lst vs]=some (Pn.put p vs).d:=Pn.kj0 p h vs
theorem xt0(p:Pt)(h:p.few):Z7 [p.d]=some (.lst p.vals):=Gw.xt0 p h
def Lv(n:Nat)(v:D):Prop:=v=.non∨(∃z,v=.int z)∨∃j:Nat,v=.tup [.str "at",.int (j:Int)]/\j<n
theorem Lv.mono(h:n<=m){v:D}(x:Lv n v):Lv m v:=x.imp id λx=>x.imp id λ⟨j,e,q⟩=>⟨j,e,by omega⟩
structure Pw(n:Nat)(p:Pt):Prop where
 few:p.vals.length<=12
 lv:∀v∈p.vals,Lv n v
theorem Pw.f{p:Pt}(h:Pw n p):p.few:=by
 have z:(12:Nat)<=sizeLine:=by decide
 exact C2 h.few z
structure Web(ps:List Pt):Prop where
 len:0<ps.length/\ps.length<=60
 pw:∀p∈ps,Pw ps.length p
def wd(ps:List Pt):D:=.tup (ps.map Pt.d)
theorem Web.at(h:Web ps)(hi:i<ps.length):ixD (wd ps) (.int (i:Int))=some ps[i].d/\(ps.map Pt.d).getD i .non=ps[i].d/\Pw ps.length ps[i]:=by
 refine⟨?_,?_,h.pw _ (E8 hi)⟩
 ·show atI (ps.map Pt.d) (i:Int)=_
  rw[yi0 (by omega) (by rw[List.length_map];omega) .non,Int.toNat_natCast];simp[hi]
 ·simp[hi]
theorem Web.good(h:Web ps):GoodD (wd ps) ps.length:=⟨h.len.2,ps.map Pt.d,rfl,by rw[List.length_map],λi hi=>by
 obtain⟨_,e,q⟩:=h.at hi;exact⟨ps[i].vals,by rw[e];exact xt0 _ q.f,q.few,q.lv⟩⟩
theorem Web.adj(h:Web ps)(hi:i<ps.length):P0 (wd ps) i=tgs ps[i].vals:=by
 obtain⟨_,e,q⟩:=h.at hi;unfold P0 wd;simp only[];rw[e,xt0 _ q.f]
theorem q40(vs:List D):(tgs vs).length<=vs.length:=List.length_filterMap_le _ _
theorem m70(j:Nat)(vs:List D):tgs (.tup [.str "at",.int (j:Int)]::vs)=j::tgs vs:=by unfold tgs;rw[List.filterMap_cons];simp only[Int.toNat_natCast]
theorem ut0:∀vs:List D,(∀v∈vs,Lv n v)->V2 (gN 0) (ob (zf0 isTup (gv 0))) (o2 (gv 0) (gc (.int 1)) ixD) [.un] vs=some (nd (tgs vs))
 | [],_=>rfl
 | v::vs,h=>by
  have ih:=ut0 vs λu hu=>h u (A7 _ hu)
  unfold V2;rcases h v A5 with rfl|⟨z,rfl⟩|⟨j,rfl,hj⟩
  ·exact ih
  ·exact ih
  ·show (match o2 (gv 0) (gc (.int 1)) ixD [.sh (.tup [.str "at",.int (j:Int)])] with|none=>none|some y=>(V2 (gN 0) (ob (zf0 isTup (gv 0))) (o2 (gv 0) (gc (.int 1)) ixD) [.un] vs).map λr=>y::r)=_
   rw[ih,m70];rfl
theorem d80{p:Pt}(h:Pw n p):zk0 [p.d]=some (.lst (nd (tgs p.vals))) :=
 R8 rfl (S7 (G9 (U0 (items:=p.vals) (by
  show Option.bind (oA (z9 (gv 0) v6) m_values [.sh p.d]) sv0=_;rw[o6 (ds:=[p.d]) rfl,J7 p h.f];rfl) h.f (ut0 p.vals h.lv))))
def lkv(f:Nat->Nat):D->D
 | .tup [_,.int j]=>.tup [.str "at",.int (f j.toNat:Int)]
 | v=>v
def rel(f:Nat->Nat)(p:Pt):Pt:=Pn.put p (p.vals.map (lkv f))
theorem ma0{vs:List D}(h:D.tup [.str "at",.int (j:Int)]∈vs):j∈tgs vs:=L4.mpr ⟨_,h,by simp only[Int.toNat_natCast]⟩
theorem tv0{p:Pt}(h:Pw n p)(f:Nat->Nat)(D':D)(hd:∀j∈tgs p.vals,yk0 D' (.int (j:Int))=some (.int (f j:Int))):R4 [p.d,D']=some (rel f p).d:=by
 refine Z2 rfl (u5 (δ':=[.sh p.d,.sh D',.sh (.lst (p.vals.map (lkv f)))]) (j8 (U0 (items:=p.vals) (by
  show Option.bind (oA (z9 (gv 0) v6) m_values [.sh p.d,.sh D',.un]) sv0=_;rw[o6 (ds:=[p.d]) rfl,J7 p h.f];rfl) h.f ?_)) (m9 (X8 (by rw[o6 (ds:=[p.d,.lst (p.vals.map (lkv f))]) rfl];exact df0 p h.f _))))
 refine O5 (lkv f) λv hv=>⟨[.sh v,.sh D'],rfl,rfl,?_⟩
 rcases h.lv v hv with rfl|⟨z,rfl⟩|⟨j,rfl,hj⟩
 ·rfl
 ·rfl
 ·unfold ifG
  rw[show ob (zf0 isTup (gv 0)) [.sh (.tup [.str "at",.int (j:Int)]),.sh D']=some true from rfl];show Y7 _ _=_;exact U7 (cons_of rfl (cons_of (d:=.int (f j:Int)) (by
   rw[p7 (x:=D') (y:=.int (j:Int)) rfl rfl];exact hd j (ma0 hv)) rfl)) (by show 2<=sizeLine;decide)
theorem vl0(p:Pt)(vs:List D)(h:vs.length=p.vals.length):(Pn.put p vs).vals=vs:=by
 cases p with
 | text w=>exact(O0 h).symm
 | row us=>rfl
 | table ps =>
  show ((ps.map (·.1)).zip vs).map (·.2)=vs;refine x5 ?_;have h':vs.length=(ps.map (·.2)).length:=h;simp only[List.length_map] at h' ⊢;omega
 | rcd c ps =>
  show ((ps.map (·.1)).zip vs).map (·.2)=vs;refine x5 ?_;have h':vs.length=(ps.map (·.2)).length:=h;simp only[List.length_map] at h' ⊢;omega
theorem na0{p:Pt}(h:Pw n p)(f:Nat->Nat)(hf:∀j∈tgs p.vals,f j<m):Pw m (rel f p):=by
 have e:(rel f p).vals=p.vals.map (lkv f):=vl0 p _ (by rw[List.length_map]);refine⟨by rw[e,List.length_map];exact h.few,λv hv=>?_⟩;rw[e] at hv;obtain⟨u,hu,rfl⟩:=B0.mp hv;rcases h.lv u hu with rfl|⟨z,rfl⟩|⟨i,rfl,hi⟩
 ·exact .inl rfl
 ·exact .inr (.inl ⟨z,rfl⟩)
 ·exact .inr (.inr ⟨f i,rfl,hf i (ma0 hu)⟩)
def kd(l:List Nat):List V5:=l.map λ(i:Nat)=>Sum.inl (i:Int)
def td(l:List Nat):List D:=l.map λ_=>.bl true
theorem rj0(a b:List Nat):kd (a++b)=kd a++kd b:=by unfold kd;rw[List.map_append]
theorem vf0(o:List Nat)(x:Nat):T5 (kd o) (.inl (x:Int))=decide (x∈o):=by
 unfold T5 kd;rw[List.any_map];rw[Bool.eq_iff_iff,List.any_eq_true,decide_eq_true_eq];constructor
 ·rintro⟨y,hy,e⟩
  have e:=B60 e;injection e with e
  have:y=x:=by omega
  subst this;exact hy
 ·intro h;exact⟨x,h,B50 rfl⟩
def ded(S:List Nat):List Nat:=S.foldl (λa x=>if x∈a then a else a++[x]) []
theorem l00:∀(S a:List Nat),(∀y,y∈S.foldl (λa x=>if x∈a then a else a++[x]) a↔y∈a∨y∈S)/\(S.foldl (λa x=>if x∈a then a else a++[x]) a).length<=a.length+S.length
 | [],a=>⟨λy=>by simp,by simp⟩
 | x::S,a=>by
  obtain⟨h1,h2⟩:=l00 S (if x∈a then a else a++[x]);refine⟨λy=>?_,?_⟩
  ·rw[List.foldl_cons,h1]
   split
   ·rename_i hx
    constructor
    ·rintro (h|h)
     ·exact .inl h
     ·exact .inr (A7 _ h)
    ·rintro (h|h)
     ·exact .inl h
     ·rcases B2.mp h with rfl|h
      ·exact .inl hx
      ·exact .inr h
   ·rw[List.mem_append,List.mem_singleton,List.mem_cons,or_assoc]
  ·rw[List.foldl_cons]
   refine C2 h2 ?_;split
   ·simp only[List.length_cons];omega
   ·simp only[List.length_append,List.length_cons,List.length_nil];omega
theorem t40(S:List Nat)(y:Nat):y∈ded S↔y∈S:=by
 unfold ded;rw[(l00 S []).1];simp
theorem k90(S:List Nat):(ded S).length<=S.length:=by
 have:=(l00 S []).2;rw[List.length_nil,Nat.zero_add] at this;exact this
def pn(l:List Nat):List D:=l.map λ(i:Nat)=>.tup [.int (i:Int),.int (i:Int)]
theorem nv0(x:Nat):∀V:List Nat,(((kd V).zip (nd V)).map λp=>if p.1=(Sum.inl (x:Int):V5) then D.int (x:Int) else p.2)=nd V
 | []=>rfl
 | v::V=>by
  have ih:=nv0 x V;have e:(kd (v::V)).zip (nd (v::V))=((Sum.inl (v:Int):V5),D.int (v:Int))::(kd V).zip (nd V):=rfl;rw[e,List.map_cons,ih];show (if (Sum.inl (v:Int):V5)=Sum.inl (x:Int) then D.int (x:Int) else D.int (v:Int))::nd V=D.int (v:Int)::nd V;congr 1;split
  ·rename_i e;injection e with e;rw[e]
  ·rfl
theorem n80:∀(S U:List Nat),U3 (kd U) (nd U) (pn S)=some (kd (S.foldl (λa x=>if x∈a then a else a++[x]) U),nd (S.foldl (λa x=>if x∈a then a else a++[x]) U))
 | [],U=>rfl
 | x::S,U=>by
  have ih:=n80 S (if x∈U then U else U++[x]);rw[List.foldl_cons];show U3 (V6 (kd U) (.inl (x:Int))) (W7 (kd U) (nd U) (.inl (x:Int)) (.int (x:Int))) (pn S)=_
  by_cases h:x∈U
  ·rw[if_pos h] at ih ⊢
   have hk:T5 (kd U) (.inl (x:Int))=true:=by rw[vf0,decide_eq_true h]
   have e1:V6 (kd U) (.inl (x:Int))=kd U:=by unfold V6;rw[hk,if_pos rfl]
   have e2:W7 (kd U) (nd U) (.inl (x:Int)) (.int (x:Int))=nd U:=by unfold W7;rw[hk,if_pos rfl];exact nv0 x U
   rw[e1,e2];exact ih
  ·rw[if_neg h] at ih ⊢
   have hk:T5 (kd U) (.inl (x:Int))=false:=by rw[vf0,decide_eq_false h]
   have e1:V6 (kd U) (.inl (x:Int))=kd (U++[x]):=by unfold V6;rw[hk,if_neg (by simp),rj0];rfl
   have e2:W7 (kd U) (nd U) (.inl (x:Int)) (.int (x:Int))=nd (U++[x]):=by unfold W7;rw[hk,if_neg (by simp),zr0];rfl
   rw[e1,e2];exact ih
theorem Xf0(S:List Nat)(h:S.length<=1000):vb0 [.lst (pn S)]=some (.dct (.inl (kd (ded S))) (nd (ded S))):=by
 have zs:(1000:Nat)<=sizeLine:=by decide
 unfold vb0;simp only[];rw[if_pos (by unfold pn;rw[List.length_map];omega)];have e:=n80 S [];show Option.map _ (U3 (kd []) (nd []) (pn S))=_;rw[e];rfl
def MT:GB:=(ob (o2 (zz0 (oA (z9 (gv 5) v6) Z5)) (gc (.int 0)) gtD))
def MBg(gw:GE):GS:=(v8 (T3 (ws0 5) (gN 6))
 (v8 (ifD (xz0 (ob (o2 (gv 6) (gv 4) (ze0 true))))
 (v8 (T3 (S6 (gc (.bl true))) (putAt 4 (gv 6)))
 (v8 (X7 (O2 3 (gv 6)))
 (v8 (X7 (xl0 5 (oA (z9 (oA (z9 gw v6) zk0) v6) s20)))
 p6)))
 p6)
 p6))
def ms(W:D)(k l:Sl)(U o T:List Nat)(s:Sl):Ds:=[.sh W,k,l,.ow (.lst (nd o)),.ow (.dct (.inl (kd (U++o))) (nd U++td o)),.ow (.lst (nd T.reverse)),s]
section
variable{W:D}{k l:Sl}{U:List Nat}
theorem jl0(s:Sl)(o T:List Nat):MT (ms W k l U o T s)=some (decide (0<T.length)):=by
 have e:zz0 (oA (z9 (gv 5) v6) Z5) (ms W k l U o T s)=some (.int (T.length:Int)):=by
  show some (D.int ((nd T.reverse).length:Int))=_;rw[V7,List.length_reverse]
 unfold MT ob;rw[p7 (x:=.int (T.length:Int)) (y:=.int 0) e rfl];show some (decide ((0:Int)<(T.length:Int)))=_;congr 1;rw[decide_eq_decide];omega
theorem Xc0(s:Sl)(o T:List Nat)(x:Nat):T3 (ws0 5) (gN 6) (ms W k l U o (x::T) s)=some (.nx (ms W k l U o T (.sh (.int (x:Int))))):=by
 have e1:owL 5 (ms W k l U o (x::T) s)=some (nd (x::T).reverse):=rfl;have e2:nd (x::T).reverse=nd T.reverse++[.int (x:Int)]:=by rw[List.reverse_cons,zr0];rfl
 unfold T3 ws0;rw[e1,Option.bind_some,e2,List.getLast?_concat,List.dropLast_concat];rfl
theorem ce0(o T:List Nat)(x:Nat):xz0 (ob (o2 (gv 6) (gv 4) (ze0 true))) (ms W k l U o T (.sh (.int (x:Int))))=some (decide (x∉U++o)):=by
 show some (xor true (T5 (kd (U++o)) (.inl (x:Int))))=_;rw[vf0,Bool.true_xor];congr 1
 by_cases h:x∈U++o
 ·rw[decide_eq_true h,decide_eq_false (λz=>z h)];rfl
 ·rw[decide_eq_false h,decide_eq_true h];rfl
theorem ir0{gw:GE}{P:Nat->Prop}{adj:Nat->List Nat}(hS:∀y,y∈U↔y∈S)(hU:U.length<=1000)(hA:∀x,P x->∃d,(∀s1 s2 s3 s4 s5:Sl,gw [.sh W,s1,s2,s3,s4,s5,.sh (.int (x:Int))]=some d)/\zk0 [d]=some (.lst (nd (adj x)))/\(adj x).length<=12/\∀j∈adj x,P j):∀{c:Nat} {o T r:List Nat},Dfs adj S c o T r->(∀x∈T,P x)->o.length+T.length<=10001->∀(m:Nat) (s:Sl),c<m->∃s',W9 MT (MBg gw) m (ms W k l U o T s)=some (.nx (ms W k l U r [] s')):=by
 intro c o T r h
 induction h with
 | nil o =>
  intro _ _ m s hm;cases m with
  | zero=>omega
  | succ m =>
   refine⟨s,?_⟩;unfold W9;rw[jl0];rfl
 | @skip c o T r x hx hd ih =>
  intro hT hl m s hm;cases m with
  | zero=>omega
  | succ m =>
   rw[List.length_cons] at hl;obtain⟨s',e⟩:=ih (λy hy=>hT y (A7 _ hy)) (by omega) m (.sh (.int (x:Int))) (by omega);refine⟨s',?_⟩;have F:x∈U++o:=B4.mpr (hx.symm.imp (hS x).mpr id);have eb:MBg gw (ms W k l U o (x::T) s)=some (.nx (ms W k l U o T (.sh (.int (x:Int))))) :=
    u5 (Xc0 s o T x) (u5 (δ':=ms W k l U o T (.sh (.int (x:Int)))) (by rw[Z6 (by rw[ce0,decide_eq_false (λz=>z F)])];rfl) rfl)
   unfold W9;rw[jl0,decide_eq_true (by simp)];dsimp only;rw[eb];exact e
 | @visit c o T r x hx hxS hz hd ih =>
  intro hT hl m s hm;cases m with
  | zero=>omega
  | succ m =>
   have J:=hT x A5;obtain⟨d,O,L,Z,Y⟩:=hA x J;have zs:(20000:Nat)<=sizeLine:=by decide
   rw[List.length_append] at hz;obtain⟨s',e⟩:=ih (λy hy=>by
    rcases B4.mp hy with q|q
    ·exact Y y q
    ·exact hT y (A7 _ q)) (by simp only[List.length_append,List.length_singleton];omega) m (.sh (.int (x:Int))) (by omega)
   refine⟨s',?_⟩;have F:x∉U++o:=λz=>(B4.mp z).elim (λq=>hxS ((hS x).mp q)) hx
   have p1:T3 (S6 (gc (.bl true))) (putAt 4 (gv 6)) (ms W k l U o T (.sh (.int (x:Int))))=some (.nx [.sh W,k,l,.ow (.lst (nd o)),.ow (.dct (.inl (kd (U++(o++[x])))) (nd U++td (o++[x]))),.ow (.lst (nd T.reverse)),.sh (.int (x:Int))]):=by
    have hk:T5 (kd (U++o)) (.inl (x:Int))=false:=by rw[vf0,decide_eq_false F]
    have e1:V6 (kd (U++o)) (.inl (x:Int))=kd (U++(o++[x])):=by
     unfold V6;rw[hk,if_neg (by simp),← List.append_assoc,rj0 (U++o)];rfl
    have e2:W7 (kd (U++o)) (nd U++td o) (.inl (x:Int)) (.bl true)=nd U++td (o++[x]):=by
     unfold W7;rw[hk,if_neg (by simp)];unfold td;rw[List.map_append,List.append_assoc];rfl
    unfold T3 S6;show ((if (kd (U++o)).length<sizeLine then some ([.sh W,k,l,.ow (.lst (nd o)),Sl.ow (.dct (.inl (V6 (kd (U++o)) (.inl (x:Int)))) (W7 (kd (U++o)) (nd U++td o) (.inl (x:Int)) (.bl true))),.ow (.lst (nd T.reverse)),.sh (.int (x:Int))]) else none).map Res.nx)=_;rw[if_pos (by unfold kd;rw[List.length_map,List.length_append];omega),e1,e2];rfl
   have p2:X7 (O2 3 (gv 6)) [.sh W,k,l,.ow (.lst (nd o)),.ow (.dct (.inl (kd (U++(o++[x])))) (nd U++td (o++[x]))),.ow (.lst (nd T.reverse)),.sh (.int (x:Int))]=some (.nx [.sh W,k,l,.ow (.lst (nd (o++[x]))),.ow (.dct (.inl (kd (U++(o++[x])))) (nd U++td (o++[x]))),.ow (.lst (nd T.reverse)),.sh (.int (x:Int))]):=by
    rw[Gw.uw0 (l:=nd o) (d:=.int (x:Int)) rfl rfl (by rw[V7];omega),zr0];rfl
   have p3:X7 (xl0 5 (oA (z9 (oA (z9 gw v6) zk0) v6) s20)) [.sh W,k,l,.ow (.lst (nd (o++[x]))),.ow (.dct (.inl (kd (U++(o++[x])))) (nd U++td (o++[x]))),.ow (.lst (nd T.reverse)),.sh (.int (x:Int))]=some (.nx (ms W k l U (o++[x]) (adj x++T) (.sh (.int (x:Int))))):=by
    have ev:oA (z9 (oA (z9 gw v6) zk0) v6) s20 [.sh W,k,l,.ow (.lst (nd (o++[x]))),.ow (.dct (.inl (kd (U++(o++[x])))) (nd U++td (o++[x]))),.ow (.lst (nd T.reverse)),.sh (.int (x:Int))]=some (.lst (nd (adj x).reverse)):=by
     rw[o6 (ds:=[.lst (nd (adj x))]) (cons_of (d:=.lst (nd (adj x))) (by
      rw[o6 (ds:=[d]) (cons_of (d:=d) (O _ _ _ _ _) rfl)];exact L) rfl)]
     show some (D.lst (nd (adj x)).reverse)=_;rw[X10]
    unfold X7 xl0;rw[ev];show Option.map _ (if (nd T.reverse).length+(nd (adj x).reverse).length<=sizeLine then _ else _)=_;rw[if_pos (by rw[V7,V7,List.length_reverse,List.length_reverse];omega),← zr0,← List.reverse_append];rfl
   have eb:MBg gw (ms W k l U o (x::T) s)=some (.nx (ms W k l U (o++[x]) (adj x++T) (.sh (.int (x:Int))))) :=
    u5 (Xc0 s o T x) (u5 (δ':=ms W k l U (o++[x]) (adj x++T) (.sh (.int (x:Int)))) (by
     rw[N6 (by rw[ce0,decide_eq_true F])];exact u5 p1 (u5 p2 (u5 p3 rfl))) rfl)
   unfold W9;rw[jl0,decide_eq_true (by simp)];dsimp only;rw[eb];exact e
end
theorem xo0(h:Web ps)(S:List Nat)(hS:S.length<=1000){x c:Nat}(hx:x<ps.length)(hd:Dfs (P0 (wd ps)) S c [] [x] r)(hc:c<=5000):O6 [wd ps,.int (x:Int),.dct (.inl (kd (ded S))) (nd (ded S))]=some (.lst (nd r)):=by
 have hl:=k90 S;obtain⟨s',e⟩:=ir0 (W:=wd ps) (k:=.sh (.int (x:Int))) (l:=.sh (.dct (.inl (kd (ded S))) (nd (ded S)))) (U:=ded S) (gw:=o2 (gv 0) (gv 6) ixD) (P:=λy=>y<ps.length) (t40 S) (by omega) (λy hy=>by
  obtain⟨e1,_,q⟩:=h.at hy;refine⟨_,λ_ _ _ _ _=>(p7 (x:=wd ps) (y:=.int (y:Int)) rfl rfl).trans e1,?_,?_,?_⟩
  ·rw[h.adj hy];exact d80 q
  ·rw[h.adj hy];exact C2 (q40 _) q.few
  ·exact Zb0 h.good y hy) hd (λy hy=>by rw[List.mem_singleton.mp hy];exact hx) (by simp) 100000 .un (by omega)
 refine R8 rfl (u5 (δ':=[.sh (wd ps),.sh (.int (x:Int)),.sh (.dct (.inl (kd (ded S))) (nd (ded S))),.ow (.lst []),.un,.un,.un]) rfl (u5 (δ':=[.sh (wd ps),.sh (.int (x:Int)),.sh (.dct (.inl (kd (ded S))) (nd (ded S))),.ow (.lst []),.ow (.dct (.inl (kd (ded S))) (nd (ded S))),.un,.un]) rfl (u5 (δ':=ms (wd ps) (.sh (.int (x:Int))) (.sh (.dct (.inl (kd (ded S))) (nd (ded S)))) (ded S) [] [x] .un) ?_ (u5 e (S7 ?_)))))
 ·unfold ms
  rw[List.append_nil];show some (Res.nx [.sh (wd ps),.sh (.int (x:Int)),.sh (.dct (.inl (kd (ded S))) (nd (ded S))),.ow (.lst []),.ow (.dct (.inl (kd (ded S))) (nd (ded S))),.ow (.lst [.int (x:Int)]),.un])=_;have:nd (ded S)++td []=nd (ded S):=w8 _;rw[this];rfl
 ·rfl
theorem uc0{adj:Nat->List Nat}:∀{c:Nat} {o T r:List Nat},Dfs adj S c o T r->(∀i∈o,∀j∈adj i,j∈o∨j∈S∨j∈T)->(∃s,r=o++s)/\∀i∈r,∀j∈adj i,j∈r∨j∈S:=by
 intro c o T r h
 induction h with
 | nil o =>
  intro H;refine⟨⟨[],(w8 o).symm⟩,λi hi j hj=>?_⟩;rcases H i hi j hj with q|q|q
  ·exact .inl q
  ·exact .inr q
  ·cases q
 | @skip c o T r x hx hd ih =>
  intro H;refine ih λi hi j hj=>?_
  rcases H i hi j hj with q|q|q
  ·exact .inl q
  ·exact .inr (.inl q)
  ·rcases B2.mp q with rfl|q
   ·exact hx.imp id .inl
   ·exact .inr (.inr q)
 | @visit c o T r x hx hxS hz hd ih =>
  intro H;obtain⟨⟨s,e⟩,h2⟩:=ih λi hi j hj=>by
   rcases B4.mp hi with hi|hi
   ·rcases H i hi j hj with q|q|q
    ·exact .inl (E7 _ q)
    ·exact .inr (.inl q)
    ·rcases B2.mp q with rfl|q
     ·exact .inl (by simp)
     ·exact .inr (.inr (C6 _ q))
   ·rw[List.mem_singleton.mp hi] at hj
    exact .inr (.inr (E7 _ hj))
  exact⟨⟨x::s,by rw[e,List.append_assoc];rfl⟩,h2⟩
theorem walk(h:Web ps)(S:List Nat){x:Nat}(hx:x<ps.length):∃c r,Dfs (P0 (wd ps)) S c [] [x] r/\c<=5000/\r.Nodup/\(∀y∈r,y<ps.length/\y∉S)/\(∀i∈r,∀j∈P0 (wd ps) i,j∈r∨j∈S)/\(x∈S->r=[])/\(x∉S->∃s,r=x::s):=by
 obtain⟨c,r,h1,h2,h3,h4,_⟩:=fq0 (P0 (wd ps)) S ps.length h.len.2 (λi hi=>by
  rw[h.adj hi];obtain⟨_,_,q⟩:=h.at hi;exact⟨C2 (q40 _) q.few,v60 q.lv⟩) 1000 [] [x] (by have:=h.len.2;simp only[List.length_cons,List.length_nil];omega) (by decide) R1 (λy hy=>by cases hy) (λy hy=>by rw[List.mem_singleton.mp hy];exact hx)
 obtain⟨_,f2⟩:=uc0 h1 λi hi=>by cases hi
 refine⟨c,r,h1,by omega,h3,h4,f2,λhS=>?_,λhS=>?_⟩
 ·cases h1 with
  | skip _ h=>cases h;rfl
  | visit _ q _ _=>exact absurd hS q
 ·cases h1 with
  | skip q _=>exact absurd (q.resolve_left (by simp)) hS
  | visit _ _ _ hd =>
   obtain⟨⟨s,e⟩,_⟩:=uc0 hd λi hi j hj=>by
    rw[show i=x from by simpa using hi] at hj;exact .inr (.inr (E7 _ hj))
   exact⟨s,e⟩
def fN(n:Nat)(r:List Nat)(j:Nat):Nat:=if j∈r then n+r.idxOf j else j
theorem ri0(h:j<n):fN n r j<n+r.length:=by
 unfold fN;split
 ·rename_i h;have:=U2 h;omega
 ·omega
def nw(ps:List Pt)(r:List Nat):List Pt:=ps++r.map λi=>rel (fN ps.length r) (ps.getD i (.text ""))
theorem t60:∀(U r v:List Nat) (j:Nat),j∉U->N7 (kd (U++r)) (nd U++nd v) (.inl (j:Int))=N7 (kd r) (nd v) (.inl (j:Int))
 | [],_,_,_,_=>rfl
 | u::U,r,v,j,h=>by
  show (if (Sum.inl (u:Int):V5)=.inl (j:Int) then some (D.int (u:Int)) else N7 (kd (U++r)) (nd U++nd v) (.inl (j:Int)))=_;rw[if_neg (by intro q;injection q with q;exact h (by rw[show j=u from by omega];exact A5))];exact t60 U r v j λz=>h (A7 _ z)
theorem nr0:∀(U r v:List Nat) (j:Nat),j∈U->N7 (kd (U++r)) (nd U++nd v) (.inl (j:Int))=some (.int (j:Int))
 | [],_,_,_,h=>by cases h
 | u::U,r,v,j,h=>by
  show (if (Sum.inl (u:Int):V5)=.inl (j:Int) then some (D.int (u:Int)) else N7 (kd (U++r)) (nd U++nd v) (.inl (j:Int)))=_
  by_cases e:u=j
  ·subst e;rw[if_pos rfl]
  ·rw[if_neg (by intro q;injection q with q;omega)]
   exact nr0 U r v j ((B2.mp h).resolve_left (B7 e))
theorem qp0:∀(r:List Nat) (m j:Nat),j∈r->N7 (kd r) (nd (List.range' m r.length)) (.inl (j:Int))=some (.int ((m+r.idxOf j:Nat):Int))
 | [],_,_,h=>by cases h
 | u::r,m,j,h=>by
  rw[List.length_cons,List.range'_succ];show (if (Sum.inl (u:Int):V5)=.inl (j:Int) then some (D.int (m:Int)) else N7 (kd r) (nd (List.range' (m+1) r.length)) (.inl (j:Int)))=_
  by_cases e:u=j
  ·subst e;rw[if_pos rfl,List.idxOf_cons_self];rfl
  ·rw[if_neg (by intro q;injection q with q;omega),qp0 r (m+1) j ((B2.mp h).resolve_left (B7 e)),show (u::r).idxOf j=r.idxOf j+1 from by rw[List.idxOf_cons,beq_false_of_ne e];rfl]
   congr 2;omega
theorem v00(hr:∀y∈r,y∉S)(hj:j∈r∨j∈S):yk0 (.dct (.inl (kd (ded S++r))) (nd (ded S)++nd (List.range' n r.length))) (.int (j:Int))=some (.int (fN n r j:Int)):=by
 show N7 (kd (ded S++r)) (nd (ded S)++nd (List.range' n r.length)) (.inl (j:Int))=_;unfold fN
 by_cases h:j∈r
 ·rw[t60 _ _ _ _ (λz=>hr j h ((t40 S j).mp z)),qp0 r n j h,if_pos h]
 ·rw[nr0 _ _ _ _ ((t40 S j).mpr (hj.resolve_left h)),if_neg h]
end K22
namespace K22
open Ra
open DL W
def Kp(K:D)(S:List Nat):Prop:=K=.lst (nd S)∨K=.non/\S=[]
theorem be0(S:List Nat):V2 (gN 0) noT (Y7 (z9 (gv 0) (z9 (gv 0) v6))) [.un] (nd S)=some (pn S):=by
 rw[O5 (λd=>.tup [d,d]) λd hd=>⟨[.sh d],rfl,rfl,U7 rfl (by show 2<=sizeLine;decide)⟩];unfold nd pn;rw[List.map_map];rfl
theorem ax0(S:List Nat):flats (nd S)=true:=mn0 S
def CB:GS:=(v8 (T3 (S6 (gv 5)) (putAt 3 (gv 6)))
 p6)
end K22
namespace K22
open Ra
open DL W
section
variable(h:Web ps){x:Nat}(hx:x<ps.length)
include h hx
end
end K22
namespace K22
open Ra
open DL W
theorem Ve0{p:Pt}{nm:List Str}(h:Gw.Gd p (m:Int) nm):Pw m p:=by
 refine⟨?_,λv hv=>?_⟩
 ·have ok:=h.ok
  cases p with
  | text w=>show 0<=12;decide
  | row vs=>exact ok.1
  | table ps=>show (ps.map (·.2)).length<=12;rw[List.length_map];exact ok.len
  | rcd c ps=>show (ps.map (·.2)).length<=12;rw[List.length_map];exact ok.2.len
 ·have k:=h.vk v hv
  rcases p40 k.ok with rfl|⟨i,rfl⟩|⟨i,rfl,hi⟩
  ·exact .inl rfl
  ·exact .inr (.inl ⟨i,rfl⟩)
  ·have:=k.lk i rfl
   exact .inr (.inr ⟨i.toNat,by rw[Int.toNat_of_nonneg hi],by omega⟩)
theorem nj0(h:Web ps)(hr:∀y∈r,y<ps.length)(hl:ps.length+r.length<=60):Web (nw ps r):=by
 have e:(nw ps r).length=ps.length+r.length:=by unfold nw;rw[List.length_append,List.length_map]
 refine⟨by rw[e];have:=h.len.1;omega,λp hp=>?_⟩;rw[e];rcases B4.mp hp with hp|hp
 ·exact⟨(h.pw p hp).few,λv hv=>((h.pw p hp).lv v hv).mono (by omega)⟩
 ·obtain⟨i,hi,rfl⟩:=B0.mp hp
  have F:=hr i hi;have hg:ps.getD i (.text "")=ps[i]:=by simp[F]
  rw[hg];obtain⟨_,_,q⟩:=h.at F;exact na0 q _ λj hj=>ri0 (v60 q.lv j hj)
theorem nn0{v:D}(h:Lv n v)(k:Nat):lean v (k+1)=true:=by
 rcases h with rfl|⟨z,rfl⟩|⟨j,rfl,_⟩<;>simp[lean,leans]
theorem y40{k:Nat}(h:∀x∈l,lean x k=true):leans l k=true:=by
 induction l with
 | nil=>rfl
 | cons a l ih=>rw[leans,h a A5,ih λx hx=>h x (A7 _ hx)];rfl
theorem iw0{p:Pt}(h:Pw n p)(k:Nat):lean p.d (k+4)=true:=by
 have lp:∀ps:List (Str×D),(∀v∈ps.map (·.2),Lv n v)->leans (ps.map pr) (k+2)=true:=λps hv=>y40 λx hx=>by
  obtain⟨q,hq,rfl⟩:=B0.mp hx;have:=nn0 (hv q.2 (B0.mpr ⟨q,hq,rfl⟩)) k;show leans [.str q.1,q.2] (k+1)=true;rw[leans,leans,leans,this];simp[lean]
 cases p with
 | text w=>simp[Pt.d,lean,leans]
 | row vs =>
  have e:leans vs (k+2)=true:=y40 λx hx=>nn0 (h.lv x hx) (k+1)
  simp[Pt.d,lean,leans,e]
 | table ps =>
  have e:=lp ps h.lv;simp[Pt.d,lean,leans,e]
 | rcd c ps =>
  have e:=lp ps h.lv;simp[Pt.d,lean,leans,e]
theorem kp0(h:Web ps)(k:Nat):lean (wd ps) (k+5)=true:=by
 unfold wd;rw[lean];refine y40 λx hx=>?_
 obtain⟨p,hp,rfl⟩:=B0.mp hx;exact iw0 (h.pw p hp) k
theorem bv0(S:List Nat):lean (.lst (nd S)) 50=true:=by
 rw[lean];refine y40 λx hx=>?_
 obtain⟨i,_,rfl⟩:=B0.mp hx;simp[lean]
end K22
namespace Bw
open DL W
theorem T4{g:GE}{b:Bool}(h:g δ=some (.bl b)):ob g δ=some b:=by
 unfold ob;rw[h];rfl
end Bw
namespace Ta
open Ra
open DL W K22
def pN(p:Nat×Nat):D:=.tup [.int (p.1:Int),.int (p.2:Int)]
def k2(p:Nat×Nat):List V5:=[.inl (p.1:Int),.inl (p.2:Int)]
theorem nu0{p:Nat×Nat}(h:k2 p=k2 q):p=q:=by
 unfold k2 at h;injection h with h1 h2
 injection h2 with h2 _
 injection h1 with h1
 injection h2 with h2
 exact P3 (by omega) (by omega)
theorem ex0(ks:List (List V5))(k:List V5):T5 ks k=true↔k∈ks:=by
 unfold T5;rw[List.any_eq_true];constructor
 ·rintro⟨x,hx,e⟩
  rw[← of_decide_eq_true e];exact hx
 ·intro h
  exact⟨k,h,B50 rfl⟩
def Dc(L:List (Nat×Nat))(d:D):Prop:=∃ks vs,d=.dct (.inr ks) vs/\∀x,x∈ks↔∃p∈L,x=k2 p
theorem Wz0{L:List (Nat×Nat)}{d:D}(h:Dc L d)(p:Nat×Nat):ze0 true (pN p) d=some (.bl (decide (p∉L))):=by
 obtain⟨ks,vs,rfl,hk⟩:=h;show some (D.bl (xor true (T5 ks (k2 p))))=_
 by_cases z:p∈L
 ·rw[(ex0 ks _).mpr ((hk _).mpr ⟨p,z,rfl⟩),decide_eq_false (λq=>q z)];rfl
 ·have:T5 ks (k2 p)=false:=by
   cases e:T5 ks (k2 p) with
   | false=>rfl
   | true =>
    obtain⟨q,hq,e2⟩:=(hk _).mp ((ex0 ks _).mp e);exact absurd (nu0 e2▸hq) z
  rw[this,decide_eq_true z];rfl
def wr0(p:Prop)(o:Option D):Prop:=(p->o=some (.bl true))/\(¬p->o=some (.bl false))
theorem kh0{p:Prop}{g:GE}(h:wr0 p (g δ)):(p->ob g δ=some true)/\(¬p->ob g δ=some false) :=
 ⟨λz=>by unfold ob;rw[h.1 z];rfl,λz=>by unfold ob;rw[h.2 z];rfl⟩
theorem b50(v w:D):V0 [.tup [v,w]]=some (.bl (isTup v&&isTup w)):=by
 refine Z2 rfl (m9 (X8 ?_));unfold yl0;rw[show ob (zf0 isTup (o2 (gv 0) (gc (.int 0)) ixD)) (Z4 tt0 [.tup [v,w]])=some (isTup v) from rfl,Option.bind_some];cases isTup v with
 | false=>rfl
 | true=>rw[if_pos rfl];rfl
def pa(ps:List Pt)(i:Nat):Pt:=ps.getD i (.row [])
theorem W5(h:Web ps)(hi:i<ps.length):ixD (wd ps) (.int (i:Int))=some (pa ps i).d/\Pw ps.length (pa ps i):=by
 obtain⟨a,_,c⟩:=h.at hi;have:pa ps i=ps[i]:=by unfold pa;simp[hi]
 rw[this];exact⟨a,c⟩
end Ta
namespace Km
open DL W K22
section
end
end Km
namespace Ta
open Ra
open DL W K22
def gl1:D×D->Option (Nat×Nat)
 | (.tup [_,.int i],.tup [_,.int j])=>some (i.toNat,j.toNat)
 | _=>none
def gl(z:List (D×D)):List (Nat×Nat):=z.filterMap gl1
def nl(q:D×D):Prop:=(isTup q.1=true/\isTup q.2=true)∨q.1=q.2
theorem g20(n:Nat):S5 0 (n:Int)=(List.range' 0 n).map λ(k:Nat)=>D.int (k:Int):=by
 unfold S5;rw[List.range_eq_range',show ((n:Int) - 0).toNat=n by omega];refine P4 λk _=>?_
 congr 1;omega
theorem co0{l:List α}{a:α}:(l++[a]).Nodup↔l.Nodup/\a∉l:=by
 rw[List.nodup_append];constructor
 ·rintro⟨h1,_,h3⟩
  exact⟨h1,λz=>h3 a z a (N9.mpr rfl) rfl⟩
 ·rintro⟨h1,h2⟩
  exact⟨h1,by simp,λx hx y hy e=>by rw[List.mem_singleton.mp hy] at e;exact h2 (e▸hx)⟩
end Ta
namespace Ta
open Ra
open DL W K22
theorem K8(ns:List Int)(k:Int)(h0:0<=k):∃z,j6 [.lst (ns.map .int),.int k]=some (.int z):=Gw.K8 ns k h0
theorem qf0(c t:Int):∃nm,z20 [.int c,.int t]=some (.lst (nm.map .str))/\Gw.Pool nm:=Gw.qf0 c t
theorem nw0(cs:List Int)(hc:0<cs.length/\cs.length<=1000)(m:Nat)(hm:0<m/\m<=1000)(nm:List Str)(hp:Gw.Pool nm) :
  ∃ps:List Pt,zn0 [.lst (cs.map .int),.int (m:Int),.lst (nm.map .str)]=some (.tup (ps.map Pt.d))/\ps.length=m/\∀p∈ps,Gw.Gd p (m:Int) nm:=Gw.nw0 cs hc m hm nm hp
theorem zy0(ns:List Int)(hl:ns.length<=63):∃ps,R0 [.lst (ns.map .int),.int 30]=some (wd ps)/\Web ps/\ps.length<=30:=by
 have z:(1000:Nat)<=sizeLine:=by decide
 obtain⟨c0,h0⟩:=K8 ns 0 (by decide);obtain⟨c1,h1⟩:=K8 ns 1 (by decide);obtain⟨t,ht⟩:=K8 ns 2 (by decide);obtain⟨c3,h3⟩:=K8 ns 3 (by decide);obtain⟨nm,a0,J⟩:=qf0 c0 c1;obtain⟨m,hm,a1⟩:∃m:Nat,(0<m/\m<=30)/\∀s4:Sl,o2 (gc (.int 1)) (o2 (gv 3) (o2 (Y0 (z9 (gc (.int 12)) (z9 (gc (.int 12)) (z9 (gv 1) (z9 (gc (.int 4)) v6))))) (o2 (o2 (gv 3) (gc (.int 60)) X4) (gc (.int 4)) d9) ixD) d9) Z3 [.sh (.lst (ns.map .int)),.sh (.int 30),.sh (.lst (nm.map .str)),.sh (.int t),s4]=some (.int (m:Int)):=by
  obtain⟨q,hq,O⟩:∃q:Int,(0<q/\q<=30)/\atI [D.int 12,D.int 12,D.int 30,D.int 4] (t/60%4)=some (.int q):=by
   have h:t/60%4=0∨t/60%4=1∨t/60%4=2∨t/60%4=3:=by omega
   rcases h with e|e|e|e<;>rw[e]
   ·exact⟨12,by decide,rfl⟩
   ·exact⟨12,by decide,rfl⟩
   ·exact⟨30,by decide,rfl⟩
   ·exact⟨4,by decide,rfl⟩
  have b1:0<=t%q:=L1 _ (by omega);have b2:t%q<q:=L9 _ (by omega);refine⟨(1+t%q).toNat,by omega,λs4=>?_⟩;have e:(((1+t%q).toNat:Nat):Int)=1+t%q:=by omega
  rw[e];rw[p7 (x:=.int 1) (y:=.int (t%q)) rfl (by
   rw[p7 (x:=.int t) (y:=.int q) rfl (by
    rw[p7 (x:=.lst [D.int 12,D.int 12,D.int 30,D.int 4]) (y:=.int (t/60%4)) (y50 rfl (by show (4:Nat)<=_;omega)) rfl];exact O)]
   exact Gw.y90 _ _ hq.1)]
  rfl
 obtain⟨cs,Z,L⟩:∃cs:List Int,(0<cs.length/\cs.length<=1000)/\o2 (N5 (gv 0) (someO (gc (.int 9))) (someO (gc (.int 60)))) (Y0 (z9 (oA (z9 (gv 0) (z9 (gc (.int 3)) v6)) j6) v6)) Z3 [.sh (.lst (ns.map .int)),.sh (.int 30),.sh (.lst (nm.map .str)),.sh (.int t),.sh (.int (m:Int))]=some (.lst (cs.map .int)):=by
  obtain⟨us,hu,Y⟩:∃us:List Int,us.length<=63/\cutD (ns.map D.int) (some 9) (some 60)=us.map .int:=by
   refine⟨(ns.drop (sIx (ns.map D.int).length 0 (some 9))).take (sIx (ns.map D.int).length (ns.map D.int).length (some 60) - sIx (ns.map D.int).length 0 (some 9)),?_,?_⟩
   ·rw[List.length_take,List.length_drop];omega
   ·unfold cutD
    rw[List.map_take,List.map_drop]
  refine⟨us++[c3],by simp;omega,?_⟩;rw[p7 (x:=.lst (us.map .int)) (y:=.lst [.int c3]) (by rw[← Y];rfl) (y50 (cons_of (by rw[o6 (ds:=[.lst (ns.map .int),.int 3]) rfl];exact h3) rfl) (by show (1:Nat)<=_;omega))];simp only[Z3];rw[if_pos (by rw[List.length_map];show us.length+1<=_;omega),List.map_append];rfl
 obtain⟨ps,a2,F,hg⟩:=nw0 cs Z m ⟨hm.1,by omega⟩ nm J;refine⟨ps,Z2 rfl (u5 (j8 (d:=.lst (nm.map .str)) ?_) (u5 (j8 (d:=.int t) ?_) (u5 (j8 (a1 _)) (m9 (X8 ?_))))),⟨by rw[F];omega,λp hp=>by rw[F];exact Ve0 (hg p hp)⟩,by rw[F];exact hm.2⟩
 ·rw[o6 (ds:=[.int c0,.int c1]) (cons_of (by rw[o6 (ds:=[.lst (ns.map .int),.int 0]) rfl];exact h0) (cons_of (by rw[o6 (ds:=[.lst (ns.map .int),.int 1]) rfl];exact h1) rfl))]
  exact a0
 ·rw[o6 (ds:=[.lst (ns.map .int),.int 2]) rfl]
  exact ht
 ·rw[o6 (ds:=[.lst (cs.map .int),.int (m:Int),.lst (nm.map .str)]) (cons_of (by exact L) rfl)]
  exact a2
end Ta
namespace Ta
open Ra
open DL W K22
theorem re0{v:D}(vs:List D)(h:v=.non∨∃z,v=.int z):tgs (v::vs)=tgs vs:=by
 unfold tgs;rw[List.filterMap_cons];rcases h with rfl|⟨z,rfl⟩<;>rfl
end Ta
namespace Ta
open Ra
open DL W K22 SoT
theorem tc0{g1 g2:DL.GB}(h1:g1 δ=some false)(h2:g2 δ=some false):xn0 g1 g2 δ=some false:=by unfold xn0;rw[h1];exact h2
end Ta
namespace Fa
open DL W K22 Ta
def ir(n:Nat)(L:List (Nat×Nat)):Prop:=∀p∈L,p.1<n/\p.2<n
theorem Wi0{A:List (Nat×Nat)}(h:A.Nodup)(hA:ir n A):A.length<=n*n:=by
 have h2:(A.map λp=>p.1*n+p.2).Nodup:=by
  refine j3.mpr (h.imp_of_mem λ{p q} hp hq F z=>F ?_);have a1:=hA p hp;have a2:=hA q hq;have e1:p.1=q.1:=by
   have:=E2 (·/n) z;rw[Nat.add_comm,Nat.add_mul_div_right _ _ (by omega),Nat.div_eq_of_lt a1.2,Nat.add_comm (q.1*n),Nat.add_mul_div_right _ _ (by omega),Nat.div_eq_of_lt a2.2] at this;omega
  refine P3 e1 ?_;rw[e1] at z;omega
 have h3:(A.map λp=>p.1*n+p.2).length<=n*n:=by
  have sub:(A.map λp=>p.1*n+p.2) ⊆ List.range (n*n):=λx hx=>by
   obtain⟨p,hp,rfl⟩:=B0.mp hx;have:=hA p hp;rw[List.mem_range]
   calc p.1*n+p.2<p.1*n+n:=by omega
    _=(p.1+1)*n:=by rw[Nat.add_mul,Nat.one_mul]
    _<=n*n:=Nat.mul_le_mul_right n (by omega)
  have:=Dk0 h2 sub
  rwa [x9] at this
 rwa [List.length_map] at h3
def c2(p:Nat×Nat):Int×Int:=((p.1:Int),(p.2:Int))
theorem Vm0{A:List (Nat×Nat)}(h:A.Nodup):(A.map c2).Nodup:=j3.mpr (h.imp λ{p q} F z=>F (by
 unfold c2 at z;injection z with z1 z2
 exact P3 (by omega) (by omega)))
end Fa
namespace La
open Ra
open DL W
def wl0:GS:=(v8 (j4 (gN 3) (oA (z9 (gv 0) (z9 (gv 0) (z9 (Y7 (z9 (gv 1) (z9 (gv 2) v6))) v6))) X5))
 (v8 (ifD (ob (o2 (o2 (gv 3) (gc (.int 1)) ixD) (gc .non) t20))
 (v8 (d8 (gc .non))
 p6)
 p6)
 (v8 (z50 (oA (z9 (o2 (gv 3) (gc (.int 0)) ixD) v6) v20))
 p6)))
def wo0:List Str:=["web", "p", "q", "walk"]
def ya0:List D->Option D:=mkN 3 wo0 wl0
def pz0:GS:=(v8 (d8 (o2 (oA (z9 (gv 0) (z9 (gv 0) (z9 (Y7 (z9 (gv 1) (z9 (gv 2) v6))) v6))) X5) (gc (.int 1)) ixD))
 p6)
def pt0:List Str:=["web", "p", "q"]
def vw0:List D->Option D:=mkF 3 pt0 pz0
end La
namespace La
open Ra
open DL W K22 Ta
abbrev Bk:=Option ((Nat×Nat)×Nat)
abbrev Cs:=List (Nat×Nat)×List Bk
def cD:Bk->D
 | none=>.non
 | some (p,k)=>.tup [pN p,.int (k:Int)]
def cm(s:Cs):D:=.dct (.inr (s.1.map k2)) (s.2.map cD)
def nI(k:Nat):D:=.int (k:Int)
def ex1(q:Nat×Nat)(k:Nat)(v:D×D)(s:Cs):Cs:=match gl1 v with
 | some x=>if x∈s.1 then s else (s.1++[x],s.2++[some (q,k)])
 | none=>s
def exs(q:Nat×Nat):Nat->List (D×D)->Cs->Cs
 | _,[],s=>s
 | k,v::z,s=>exs q (k+1) z (ex1 q k v s)
def prt(ps qs:List Pt)(v:D×D):Prop:=match gl1 v with
 | some x=>Pn.hd (pa ps x.1)≠Pn.hd (pa qs x.2)
 | none=>v.1≠v.2
def zp(ps qs:List Pt)(q:Nat×Nat):List (D×D):=(pa ps q.1).vals.zip (pa qs q.2).vals
def lk(s:Cs)(q:Nat×Nat)(b:Bk):Prop:=N7 (s.1.map k2) (s.2.map cD) (k2 q)=some (cD b)
inductive Wy (s:Cs):(Nat×Nat)->List Nat->Prop
 | top {q:Nat×Nat}:lk s q none->Wy s q []
 | go {q:Nat×Nat} {p:Nat×Nat} {k:Nat} {w:List Nat}:lk s q (some (p,k))->Wy s p w->Wy s q (w++[k])
theorem Wy.lk{s:Cs}{w:List Nat}(h:Wy s q w):∃b,lk s q b:=by
 cases h with
 | top h=>exact⟨_,h⟩
 | go h _=>exact⟨_,h⟩
theorem t60{ks:List (List V5)}{k:List V5}{d:D}(ks':List (List V5))(ds':List D)(h:N7 ks ds k=some d):N7 (ks++ks') (ds++ds') k=some d:=by
 induction ks generalizing ds with
 | nil=>cases ds<;>exact nomatch h
 | cons q ks ih =>
  cases ds with
  | nil=>exact nomatch h
  | cons x ds =>
   rw[List.cons_append,List.cons_append];unfold N7 at h ⊢;split at h
   ·rename_i e;rw[if_pos e];exact h
   ·rename_i e;rw[if_neg e];exact ih h
theorem aw0{ks:List (List V5)}{k:List V5}{d:D}(hl:ks.length=ds.length)(h:k∉ks):N7 (ks++[k]) (ds++[d]) k=some d:=by
 induction ks generalizing ds with
 | nil =>
  cases ds with
  | nil=>show (if k=k then some d else _)=_;rw[if_pos rfl]
  | cons=>cases hl
 | cons q ks ih =>
  cases ds with
  | nil=>cases hl
  | cons x ds =>
   rw[List.cons_append,List.cons_append];unfold N7;rw[if_neg (λe=>h (by rw[e];exact A5))];exact ih (by simpa using hl) λz=>h (A7 _ z)
theorem Wy.app{s:Cs}{w:List Nat}(A:List (Nat×Nat))(B:List Bk)(h:Wy s q w):Wy (s.1++A,s.2++B) q w:=by
 have up:∀{q b},La.lk s q b->La.lk (s.1++A,s.2++B) q b:=λ{q b} e=>by
  unfold La.lk;rw[List.map_append,List.map_append];exact t60 _ _ e
 induction h with
 | top e=>exact .top (up e)
 | go e _ ih=>exact .go (up e) ih
def WW:GS:=(v8 (X7 (O2 2 (o2 (gv 3) (gc (.int 1)) ixD)))
 (v8 (j4 (gN 3) (o2 (gv 0) (o2 (gv 3) (gc (.int 0)) ixD) yk0))
 p6))
theorem Yq0(p:Nat×Nat):za0 (pN p)=some (k2 p):=rfl
theorem it0{s:Cs}{b:Bk}(h:lk s q b):yk0 (cm s) (pN q)=some (cD b):=h
theorem ek0{s:Cs}(P:Sl):∀{q:Nat×Nat} {w:List Nat},Wy s q w->∀(b:Bk),lk s q b->∀(f:Nat) (bk:List Nat),w.length<f->bk.length+w.length<=5000 ->
  W9 (ob (o2 (gv 3) (gc .non) t20)) WW f [.sh (cm s),P,.ow (.lst (bk.map nI)),.sh (cD b)]=some (.nx [.sh (cm s),P,.ow (.lst ((bk++w.reverse).map nI)),.sh .non]):=by
 intro q w h;have one:∀{q:Nat×Nat} {b c:Bk},lk s q b->lk s q c->cD b=cD c:=λh1 h2=>B3 (h1.symm.trans h2)
 have zs:(5000:Nat)<=sizeLine:=by decide
 induction h with
 | top e =>
  intro b hb f bk hf _;rw[one hb e];obtain⟨f,rfl⟩:∃g,f=g+1:=⟨f - 1,by simp at hf;omega⟩;rw[List.reverse_nil,List.append_nil];rfl
 | @go q p k w e hw ih =>
  intro b hb f bk hf hl;rw[one hb e];rw[List.length_append,List.length_singleton] at hf hl;obtain⟨f,rfl⟩:∃g,f=g+1:=⟨f - 1,by omega⟩;obtain⟨c,hc⟩:=hw.lk;have body:WW [.sh (cm s),P,.ow (.lst (bk.map nI)),.sh (cD (some (p,k)))]=some (.nx [.sh (cm s),P,.ow (.lst ((bk++[k]).map nI)),.sh (cD c)]):=by
   refine u5 (δ':=[.sh (cm s),P,.ow (.lst ((bk++[k]).map nI)),.sh (cD (some (p,k)))]) ?_ (u5 (j8 (d:=cD c) ?_) rfl)
   ·unfold X7 O2
    show Option.map (λr:D×Ds=>Res.nx r.2) (if (bk.map nI).length<sizeLine then some (D.non,([.sh (cm s),P,.ow (.lst (bk.map nI++[nI k])),.sh (cD (some (p,k)))]:Ds)) else none)=_;rw[if_pos (by rw[List.length_map];omega),List.map_append];rfl
   ·rw[p7 (x:=cm s) (y:=pN p) rfl rfl]
    exact it0 hc
  have:=ih c hc f (bk++[k]) (by omega) (by rw[List.length_append,List.length_singleton];omega);unfold W9;rw[show ob (o2 (gv 3) (gc .non) t20) [.sh (cm s),P,.ow (.lst (bk.map nI)),.sh (cD (some (p,k)))]=some true from rfl];dsimp only;rw[body];dsimp only;rw[this,List.reverse_append,List.append_assoc];rfl
theorem Xh0{s:Cs}{w:List Nat}(h:Wy s q w)(hl:w.length<=4000):zx0 [cm s,pN q]=some (.lst (w.map nI)):=by
 obtain⟨b,hb⟩:=h.lk;refine R8 rfl (u5 (δ':=[.sh (cm s),.sh (pN q),.ow (.lst ([].map nI)),.un]) rfl (u5 (j8 (d:=cD b) ?_) (u5 (ek0 (.sh (pN q)) h b hb 100000 [] (by omega) (by simp only[List.length_nil];omega)) (S7 ?_))))
 ·rw[p7 (x:=cm s) (y:=pN q) rfl rfl]
  exact it0 hb
 ·show some (Res.rf (.lst ((([]++w.reverse).map nI).reverse)))=_
  rw[List.nil_append,← List.map_reverse,List.reverse_reverse]
theorem cg0(p:Pt)(h:p.few):Q9 [p.d]=some (Pn.hd p):=Pn.br0 p h
theorem kf0(p:Pt)(h:p.few):m_values [p.d]=some (.lst p.vals):=Pn.J7 p h
theorem f90(v w:D):V0 [.tup [v,w]]=some (.bl (isTup v&&isTup w)):=Ta.b50 v w
theorem o80(i j:Nat):Z0 [.tup [.tup [.str "at",.int (i:Int)],.tup [.str "at",.int (j:Int)]]]=some (pN (i,j)):=Z2 rfl (m9 (X8 (U7 (cons_of rfl (cons_of rfl rfl)) (by show 2<=sizeLine;decide))))
theorem j60{v:D}(h:Lv n v):Pn.Pl v:=by
 rcases h with rfl|⟨z,rfl⟩|⟨j,rfl,_⟩<;>exact⟨rfl,rfl⟩
theorem v90{v w:D}(hv:Lv n v)(hw:Lv m w):(∃i j:Nat,i<n/\j<m/\v=.tup [.str "at",.int (i:Int)]/\w=.tup [.str "at",.int (j:Int)]/\gl1 (v,w)=some (i,j))∨(gl1 (v,w)=none/\(isTup v&&isTup w)=false):=by
 rcases hv with rfl|⟨z,rfl⟩|⟨i,rfl,hi⟩
 ·exact .inr ⟨rfl,rfl⟩
 ·exact .inr ⟨rfl,rfl⟩
 ·rcases hw with rfl|⟨z,rfl⟩|⟨j,rfl,hj⟩
  ·exact .inr ⟨rfl,rfl⟩
  ·exact .inr ⟨rfl,rfl⟩
  ·exact .inl ⟨i,j,hi,hj,rfl,rfl,rfl⟩
theorem ra0(hp:Web ps)(hq:Web qs){x:Nat×Nat}(h1:x.1<ps.length)(h2:x.2<qs.length){g1 g2:GE}(e1:g1 δ=ixD (wd ps) (.int (x.1:Int)))(e2:g2 δ=ixD (wd qs) (.int (x.2:Int))) :
  wr0 (Pn.hd (pa ps x.1)≠Pn.hd (pa qs x.2)) (o2 (oA (z9 g1 v6) Q9) (oA (z9 g2 v6) Q9) M5 δ):=by
 obtain⟨a1,a2⟩:=W5 hp h1;obtain⟨b1,b2⟩:=W5 hq h2;rw[p7 (x:=Pn.hd (pa ps x.1)) (y:=Pn.hd (pa qs x.2)) (by rw[o6 (ds:=[(pa ps x.1).d]) (cons_of (e1.trans a1) rfl)];exact cg0 _ a2.f) (by rw[o6 (ds:=[(pa qs x.2).d]) (cons_of (e2.trans b1) rfl)];exact cg0 _ b2.f)];exact⟨λe=>Pn.Zk0 (Pn.jr0 _) (Pn.jr0 _) e,λe=>by rw[Classical.not_not.mp e];exact Pn.nz0 (Pn.jr0 _).le⟩
theorem jb0(hp:Web ps)(hq:Web qs){v w:D}(hv:Lv ps.length v)(hw:Lv qs.length w):wr0 (prt ps qs (v,w)) (U4 [wd ps,wd qs,.tup [v,w]]):=by
 have hl:ob (oA (z9 (gv 2) v6) V0) [.sh (wd ps),.sh (wd qs),.sh (.tup [v,w]),.un]=some (isTup v&&isTup w):=Bw.T4 (by rw[o6 (ds:=[.tup [v,w]]) rfl];exact f90 v w);rcases v90 hv hw with⟨i,j,hi,hj,rfl,rfl,e⟩|⟨e,e2⟩
 ·unfold prt
  rw[e];dsimp only;obtain⟨t1,t2⟩:=ra0 hp hq (x:=(i,j)) hi hj (g1:=o2 (gv 0) (o2 (gv 3) (gc (.int 0)) ixD) ixD) (g2:=o2 (gv 1) (o2 (gv 3) (gc (.int 1)) ixD) ixD) (δ:=[.sh (wd ps),.sh (wd qs),.sh (.tup [.tup [.str "at",.int (i:Int)],.tup [.str "at",.int (j:Int)]]),.sh (pN (i,j))]) rfl rfl;have k:∀b,o2 (oA (z9 (o2 (gv 0) (o2 (gv 3) (gc (.int 0)) ixD) ixD) v6) Q9) (oA (z9 (o2 (gv 1) (o2 (gv 3) (gc (.int 1)) ixD) ixD) v6) Q9) M5 [.sh (wd ps),.sh (wd qs),.sh (.tup [.tup [.str "at",.int (i:Int)],.tup [.str "at",.int (j:Int)]]),.sh (pN (i,j))]=some (.bl b)->U4 [wd ps,wd qs,.tup [.tup [.str "at",.int (i:Int)],.tup [.str "at",.int (j:Int)]]]=some (.bl b):=λb hb=>by
   refine Z2 rfl (m9 ?_)
   change ifD _ _ _ [.sh (wd ps),.sh (wd qs),.sh (.tup [.tup [.str "at",.int (i:Int)],.tup [.str "at",.int (j:Int)]]),.un]=_
   rw[N6 hl];refine u5 (j8 (d:=pN (i,j)) (by rw[o6 (ds:=[.tup [.tup [.str "at",.int (i:Int)],.tup [.str "at",.int (j:Int)]]]) rfl];exact o80 i j)) (m9 (X8 hb))
  exact⟨λz=>k _ (t1 z),λz=>k _ (t2 z)⟩
 ·unfold prt
  rw[e];dsimp only;rw[e2] at hl;have k:∀b,M5 v w=some (.bl b)->U4 [wd ps,wd qs,.tup [v,w]]=some (.bl b):=λb hb=>by
   refine Z2 rfl (u5 (δ':=[.sh (wd ps),.sh (wd qs),.sh (.tup [v,w]),.un]) ?_ (m9 (X8 ?_)))
   ·change ifD _ _ _ [.sh (wd ps),.sh (wd qs),.sh (.tup [v,w]),.un]=_
    rw[Z6 hl];rfl
   ·rw[p7 (x:=v) (y:=w) rfl rfl]
    exact hb
  exact⟨λz=>k _ (Pn.Zk0 (j60 hv) (j60 hw) z),λz=>k _ (by rw[Classical.not_not.mp z];exact Pn.nz0 (j60 hw).le)⟩
def PB:GS:=(v8 (ifD (ob (oA (z9 (gv 0) (z9 (gv 1) (z9 (gv 8) v6))) U4))
 (v8 (d8 (xi0 (Y7 (z9 (gv 3) (z9 (o2 (oA (z9 (gv 3) (z9 (gv 6) v6)) zx0) (Y0 (z9 (gv 7) v6)) Z3) v6)))))
 p6)
 p6)
 (v8 (ifD (K5 (ob (oA (z9 (gv 8) v6) V0)) (xz0 (ob (o2 (oA (z9 (gv 8) v6) Z0) (gv 3) (ze0 true)))))
 (v8 (T3 (S6 (Y7 (z9 (gv 6) (z9 (gv 7) v6)))) (um0 3 (oA (z9 (gv 8) v6) Z0)))
 (v8 (X7 (O2 4 (oA (z9 (gv 8) v6) Z0)))
 p6))
 p6)
 p6))
def pS(ps qs:List Pt)(P:Sl)(s:Cs)(n:Nat)(a b c:Sl):Ds:=[.sh (wd ps),.sh (wd qs),P,.ow (cm s),.ow (.lst (s.1.map pN)),.sh (.int (n:Int)),a,b,c]
theorem Wn0(s:Cs):Dc s.1 (cm s):=⟨_,_,rfl,λx=>by
 rw[List.mem_map];constructor
 ·rintro⟨p,h,e⟩;exact⟨p,h,e.symm⟩
 ·rintro⟨p,h,e⟩;exact⟨p,h,e.symm⟩⟩
theorem a70{s:Cs}{x:Nat×Nat}(h:x∉s.1)(b:Bk):V6 (s.1.map k2) (k2 x)=(s.1++[x]).map k2/\W7 (s.1.map k2) (s.2.map cD) (k2 x) (cD b)=(s.2++[b]).map cD:=by
 have hf:T5 (s.1.map k2) (k2 x)=false:=by
  cases e:T5 (s.1.map k2) (k2 x) with
  | false=>rfl
  | true =>
   obtain⟨q,hq,e2⟩:=B0.mp ((ex0 _ _).mp e);exact absurd (nu0 e2▸hq) h
 unfold V6 W7;rw[hf];simp
theorem Wh0(hp:Web ps)(hq:Web qs)(P:Sl){s:Cs}(n:Nat){w:List Nat}(hw:Wy s q w)(hwl:w.length<=4000)(hs:s.1.length<=4000)(k:Nat){v u:D}(hv:Lv ps.length v)(hu:Lv qs.length u) :
  (prt ps qs (v,u)->PB (pS ps qs P s n (.sh (pN q)) (.sh (nI k)) (.sh (.tup [v,u])))=some (.rt (.tup [cm s,.lst ((w++[k]).map nI)]))) /\
  (¬prt ps qs (v,u)->PB (pS ps qs P s n (.sh (pN q)) (.sh (nI k)) (.sh (.tup [v,u])))=some (.nx (pS ps qs P (ex1 q k (v,u) s) n (.sh (pN q)) (.sh (nI k)) (.sh (.tup [v,u]))))):=by
 have zs:(9000:Nat)<=sizeLine:=by decide
 obtain⟨t1,t2⟩:=kh0 (g:=oA (z9 (gv 0) (z9 (gv 1) (z9 (gv 8) v6))) U4) (δ:=pS ps qs P s n (.sh (pN q)) (.sh (nI k)) (.sh (.tup [v,u]))) (p:=prt ps qs (v,u)) (by
  rw[o6 (ds:=[wd ps,wd qs,.tup [v,u]]) rfl];exact jb0 hp hq hv hu)
 refine⟨λz=>?_,λz=>?_⟩
 ·refine m9 ?_
  rw[N6 (t1 z)];refine m9 (X8 ?_);show Y7 (z9 (gv 3) (z9 (o2 (oA (z9 (gv 3) (z9 (gv 6) v6)) zx0) (Y0 (z9 (gv 7) v6)) Z3) v6)) [.sh (wd ps),.sh (wd qs),G3 P,.sh (cm s),.sh (.lst (s.1.map pN)),.sh (.int (n:Int)),.sh (pN q),.sh (nI k),.sh (.tup [v,u])]=_;refine U7 (cons_of rfl (cons_of (d:=.lst ((w++[k]).map nI)) ?_ rfl)) (by show 2<=sizeLine;omega);rw[p7 (x:=.lst (w.map nI)) (y:=.lst [nI k]) (by rw[o6 (ds:=[cm s,pN q]) rfl];exact Xh0 hw hwl) (y50 rfl (by show 1<=sizeLine;omega))];show (if (w.map nI).length+1<=sizeLine then some (D.lst (w.map nI++[nI k])) else none)=_;rw[if_pos (by rw[List.length_map];omega),List.map_append];rfl
 ·refine u5 (δ':=pS ps qs P s n (.sh (pN q)) (.sh (nI k)) (.sh (.tup [v,u]))) (by rw[Z6 (t2 z)];rfl) ?_
  have hl:ob (oA (z9 (gv 8) v6) V0) (pS ps qs P s n (.sh (pN q)) (.sh (nI k)) (.sh (.tup [v,u])))=some (isTup v&&isTup u):=Bw.T4 (by rw[o6 (ds:=[.tup [v,u]]) rfl];exact f90 v u);unfold ex1;rcases v90 hv hu with⟨i,j,hi,hj,rfl,rfl,e⟩|⟨e,e2⟩
  ·rw[e]
   dsimp only;have lp:∀s':Cs,oA (z9 (gv 8) v6) Z0 (pS ps qs P s' n (.sh (pN q)) (.sh (nI k)) (.sh (.tup [.tup [.str "at",.int (i:Int)],.tup [.str "at",.int (j:Int)]])))=some (pN (i,j)):=λs'=>by
    rw[o6 (ds:=[.tup [.tup [.str "at",.int (i:Int)],.tup [.str "at",.int (j:Int)]]]) rfl];exact o80 i j
   have L:xz0 (ob (o2 (oA (z9 (gv 8) v6) Z0) (gv 3) (ze0 true))) (pS ps qs P s n (.sh (pN q)) (.sh (nI k)) (.sh (.tup [.tup [.str "at",.int (i:Int)],.tup [.str "at",.int (j:Int)]])))=some (decide ((i,j)∉s.1)):=by
    show ob (o2 (oA (z9 (gv 8) v6) Z0) (gv 3) (ze0 true)) [.sh (wd ps),.sh (wd qs),G3 P,.sh (cm s),.sh (.lst (s.1.map pN)),.sh (.int (n:Int)),.sh (pN q),.sh (nI k),.sh (.tup [.tup [.str "at",.int (i:Int)],.tup [.str "at",.int (j:Int)]])]=_;refine Bw.T4 ?_;rw[p7 (x:=pN (i,j)) (y:=cm s) (by rw[o6 (ds:=[.tup [.tup [.str "at",.int (i:Int)],.tup [.str "at",.int (j:Int)]]]) rfl];exact o80 i j) rfl];exact Wz0 (Wn0 s) (i,j)
   have ht:K5 (ob (oA (z9 (gv 8) v6) V0)) (xz0 (ob (o2 (oA (z9 (gv 8) v6) Z0) (gv 3) (ze0 true)))) (pS ps qs P s n (.sh (pN q)) (.sh (nI k)) (.sh (.tup [.tup [.str "at",.int (i:Int)],.tup [.str "at",.int (j:Int)]])))=some (decide ((i,j)∉s.1)):=by
    unfold K5;rw[hl,Option.bind_some];exact L
   by_cases h:(i,j)∈s.1
   ·rw[if_pos h]
    rw[decide_eq_false (λz=>z h)] at ht;refine u5 (δ':=pS ps qs P s n (.sh (pN q)) (.sh (nI k)) (.sh (.tup [.tup [.str "at",.int (i:Int)],.tup [.str "at",.int (j:Int)]]))) ?_ rfl;rw[Z6 ht];rfl
   ·rw[if_neg h]
    rw[decide_eq_true h] at ht;obtain⟨k1,F⟩:=a70 h (some (q,k));refine u5 (δ':=pS ps qs P (s.1++[(i,j)],s.2++[some (q,k)]) n (.sh (pN q)) (.sh (nI k)) (.sh (.tup [.tup [.str "at",.int (i:Int)],.tup [.str "at",.int (j:Int)]]))) ?_ rfl;rw[N6 ht];refine u5 (δ':=[.sh (wd ps),.sh (wd qs),P,.ow (cm (s.1++[(i,j)],s.2++[some (q,k)])),.ow (.lst (s.1.map pN)),.sh (.int (n:Int)),.sh (pN q),.sh (nI k),.sh (.tup [.tup [.str "at",.int (i:Int)],.tup [.str "at",.int (j:Int)]])]) ?_ (u5 (δ':=pS ps qs P (s.1++[(i,j)],s.2++[some (q,k)]) n (.sh (pN q)) (.sh (nI k)) (.sh (.tup [.tup [.str "at",.int (i:Int)],.tup [.str "at",.int (j:Int)]]))) ?_ rfl)
    ·unfold T3
     rw[show S6 (Y7 (z9 (gv 6) (z9 (gv 7) v6))) (pS ps qs P s n (.sh (pN q)) (.sh (nI k)) (.sh (.tup [.tup [.str "at",.int (i:Int)],.tup [.str "at",.int (j:Int)]])))=some (cD (some (q,k)),pS ps qs P s n (.sh (pN q)) (.sh (nI k)) (.sh (.tup [.tup [.str "at",.int (i:Int)],.tup [.str "at",.int (j:Int)]]))) from rfl,Option.bind_some];unfold um0;show Option.map Res.nx ((q80 3 _).bind _)=_;rw[lp s,show q80 3 (pS ps qs P s n (.sh (pN q)) (.sh (nI k)) (.sh (.tup [.tup [.str "at",.int (i:Int)],.tup [.str "at",.int (j:Int)]])))=some (s.1.map k2,s.2.map cD) from rfl,Option.bind_some,Option.bind_some,Yq0,Option.bind_some];dsimp only;rw[if_pos (by rw[List.length_map];omega),k1,F];rfl
    ·unfold X7 O2
     have J:oA (z9 (gv 8) v6) Z0 [.sh (wd ps),.sh (wd qs),P,.ow (cm (s.1++[(i,j)],s.2++[some (q,k)])),.ow (.lst (s.1.map pN)),.sh (.int (n:Int)),.sh (pN q),.sh (nI k),.sh (.tup [.tup [.str "at",.int (i:Int)],.tup [.str "at",.int (j:Int)]])]=some (pN (i,j)):=by
      rw[o6 (ds:=[.tup [.tup [.str "at",.int (i:Int)],.tup [.str "at",.int (j:Int)]]]) rfl];exact o80 i j
     rw[J];show Option.map (λr:D×Ds=>Res.nx r.2) (if (s.1.map pN).length<sizeLine then some (D.non,([.sh (wd ps),.sh (wd qs),P,.ow (cm (s.1++[(i,j)],s.2++[some (q,k)])),.ow (.lst (s.1.map pN++[pN (i,j)])),.sh (.int (n:Int)),.sh (pN q),.sh (nI k),.sh (.tup [.tup [.str "at",.int (i:Int)],.tup [.str "at",.int (j:Int)]])]:Ds)) else none)=_;rw[if_pos (by rw[List.length_map];omega)];unfold pS;rw[List.map_append];rfl
  ·rw[e]
   dsimp only;rw[e2] at hl;refine u5 (δ':=pS ps qs P s n (.sh (pN q)) (.sh (nI k)) (.sh (.tup [v,u]))) ?_ rfl;rw[Z6 (by unfold K5;rw[hl];rfl)];rfl
inductive Rch (ps qs:List Pt) (p0:Nat×Nat):Nat×Nat->Prop
 | top:Rch ps qs p0 p0
 | go {q x:Nat×Nat}:Rch ps qs p0 q->x∈gl (zp ps qs q)->Rch ps qs p0 x
structure Pi(ps qs:List Pt)(p0:Nat×Nat)(s:Cs):Prop where
 len:s.1.length=s.2.length
 nd:s.1.Nodup
 inr:∀x∈s.1,x.1<ps.length/\x.2<qs.length
 way:∀x∈s.1,∃w,Wy s x w/\w.length<s.1.length
 hds:∀x∈s.1,Pn.hd (pa ps x.1)=Pn.hd (pa qs x.2)
 rc:∀x∈s.1,Rch ps qs p0 x
theorem Pi.few(hp:Web ps)(hq:Web qs){s:Cs}(h:Pi ps qs p0 s):s.1.length<=3600 :=
 Fa.Wi0 (n:=60) h.nd λx hx=>by
  have:=h.inr x hx;have:=hp.len.2;have:=hq.len.2;omega
theorem rm0(hp:Web ps)(hq:Web qs)(h1:q.1<ps.length)(h2:q.2<qs.length){v:D×D}(hv:v∈zp ps qs q):Lv ps.length v.1/\Lv qs.length v.2 :=
 ⟨(W5 hp h1).2.lv _ (Y3 hv).1,(W5 hq h2).2.lv _ (Y3 hv).2⟩
theorem h50(hp:Web ps)(hq:Web qs){s:Cs}(h:Pi ps qs p0 s)(hm:q∈s.1)(k:Nat){v:D×D}(hv:v∈zp ps qs q)(hn:¬prt ps qs v) :
  Pi ps qs p0 (ex1 q k v s)/\(∀x∈s.1,x∈(ex1 q k v s).1)/\∀x,gl1 v=some x->x∈(ex1 q k v s).1:=by
 obtain⟨i1,i2⟩:=h.inr q hm;obtain⟨l1,l2⟩:=rm0 hp hq i1 i2 hv;unfold ex1;unfold prt at hn;cases e:gl1 v with
 | none=>exact⟨h,λx hx=>hx,λx hx=>nomatch hx⟩
 | some x =>
  rw[e] at hn;dsimp only at hn ⊢
  by_cases hx:x∈s.1
  ·rw[if_pos hx]
   exact⟨h,λy hy=>hy,λy hy=>by cases hy;exact hx⟩
  ·rw[if_neg hx]
   have J:x.1<ps.length/\x.2<qs.length:=by
    rcases v90 l1 l2 with⟨i,j,hi,hj,_,_,e2⟩|⟨e2,_⟩
    ·rw[show (v.1,v.2)=v from rfl,e] at e2
     cases e2;exact⟨hi,hj⟩
    ·rw[show (v.1,v.2)=v from rfl,e] at e2
     cases e2
   have mem:∀y,y∈s.1++[x]↔y∈s.1∨y=x:=λy=>by simp
   refine⟨⟨by rw[List.length_append,List.length_append,h.len];rfl,co0.mpr ⟨h.nd,hx⟩,λy hy=>?_,λy hy=>?_,λy hy=>?_,λy hy=>?_⟩,λy hy=>(mem y).mpr (.inl hy),λy hy=>by cases hy;exact(mem x).mpr (.inr rfl)⟩
   ·rcases (mem y).mp hy with hy|rfl
    ·exact h.inr y hy
    ·exact J
   ·rw[List.length_append,List.length_singleton]
    rcases (mem y).mp hy with hy|rfl
    ·obtain⟨w,w1,w2⟩:=h.way y hy
     exact⟨w,w1.app _ _,by omega⟩
    ·obtain⟨w,w1,w2⟩:=h.way q hm
     refine⟨w++[k],.go ?_ (w1.app _ _),by rw[List.length_append,List.length_singleton];omega⟩;unfold lk;rw[List.map_append,List.map_append];refine aw0 (by rw[List.length_map,List.length_map,h.len]) λz=>hx ?_
     obtain⟨y',F,e2⟩:=B0.mp z;exact nu0 e2▸F
   ·rcases (mem y).mp hy with hy|rfl
    ·exact h.hds y hy
    ·exact Dm0.mp hn
   ·rcases (mem y).mp hy with hy|rfl
    ·exact h.rc y hy
    ·exact .go (h.rc q hm) (L4.mpr ⟨v,hv,e⟩)
theorem un0(hp:Web ps)(hq:Web qs):∀(z:List (D×D)) (k:Nat) (s:Cs),Pi ps qs p0 s->q∈s.1->(∀v∈z,v∈zp ps qs q/\¬prt ps qs v) ->
  Pi ps qs p0 (exs q k z s)/\(∀x∈s.1,x∈(exs q k z s).1)/\∀x∈gl z,x∈(exs q k z s).1
 | [],k,s,h,hm,_=>⟨h,λx hx=>hx,λx hx=>by cases hx⟩
 | v::z,k,s,h,hm,hz=>by
  obtain⟨h1,h2⟩:=hz v A5;obtain⟨a1,a2,a3⟩:=h50 hp hq h hm k h1 h2;obtain⟨b1,b2,b3⟩:=un0 hp hq z (k+1) (ex1 q k v s) a1 (a2 q hm) λu hu=>hz u (A7 _ hu)
  refine⟨b1,λx hx=>b2 x (a2 x hx),λx hx=>?_⟩;obtain⟨u,hu,e⟩:=L4.mp hx;rcases B2.mp hu with rfl|hu
  ·exact b2 x (a3 x e)
  ·exact b3 x (L4.mpr ⟨u,hu,e⟩)
def itm:Nat->List (D×D)->List D
 | _,[]=>[]
 | k,v::z=>.tup [nI k,.tup [v.1,v.2]]::itm (k+1) z
theorem fj0:∀(z:List (D×D)) (k i:Nat),(itm k z)[i]?=z[i]?.map λv=>.tup [nI (k+i),.tup [v.1,v.2]]
 | [],k,i=>by simp[itm]
 | v::z,k,0=>rfl
 | v::z,k,i+1=>by
  unfold itm;rw[List.getElem?_cons_succ,List.getElem?_cons_succ,fj0 z (k+1) i,show k+1+i=k+(i+1) by omega]
theorem ev0(ds es:List D):wm0 ds es=itm 0 (ds.zip es):=by
 refine Ax0 λi=>?_
 rw[fj0,Nat.zero_add]
 by_cases h:i<(ds.zip es).length
 ·have h':=h
  rw[List.length_zip] at h';have h1:i<ds.length:=by omega
  have h2:i<es.length:=by omega
  rw[ow0 h1 h2,show (ds.zip es)[i]?=some (ds[i],es[i]) from As0.mpr ⟨C7 h1,C7 h2⟩];rfl
 ·rw[List.getElem?_eq_none (Bz0 h),List.getElem?_eq_none (by unfold wm0 G7;simp at h ⊢;omega)]
  rfl
theorem h40(hp:Web ps)(hq:Web qs)(P:Sl)(n:Nat):∀(z:List (D×D)) (k:Nat) (s:Cs) (b c:Sl),(∀v∈z,v∈zp ps qs q)->Pi ps qs p0 s->q∈s.1 ->
  (∃b' c',M4 (J0 7 8) PB (itm k z) (pS ps qs P s n (.sh (pN q)) b c)=some (.nx (pS ps qs P (exs q k z s) n (.sh (pN q)) b' c'))/\∀v∈z,¬prt ps qs v) ∨
  (∃j v w,z[j]?=some v/\(∀u∈z.take j,¬prt ps qs u)/\prt ps qs v/\Wy (exs q k (z.take j) s) q w/\M4 (J0 7 8) PB (itm k z) (pS ps qs P s n (.sh (pN q)) b c)=some (.rt (.tup [cm (exs q k (z.take j) s),.lst ((w++[k+j]).map nI)])))
 | [],k,s,b,c,_,h,hm=>.inl ⟨b,c,rfl,λv hv=>by cases hv⟩
 | v::z,k,s,b,c,hz,h,hm=>by
  have hv:=hz v A5;obtain⟨i1,i2⟩:=h.inr q hm;obtain⟨l1,l2⟩:=rm0 hp hq i1 i2 hv;obtain⟨w,w1,w2⟩:=h.way q hm;have few:=h.few hp hq;obtain⟨t1,t2⟩:=Wh0 hp hq P n w1 (by omega) (by omega) k l1 l2;have un:M4 (J0 7 8) PB (itm k (v::z)) (pS ps qs P s n (.sh (pN q)) b c)=(match PB (pS ps qs P s n (.sh (pN q)) (.sh (nI k)) (.sh (.tup [v.1,v.2]))) with|some (.nx δ')=>M4 (J0 7 8) PB (itm (k+1) z) δ'|some (.ct δ')=>M4 (J0 7 8) PB (itm (k+1) z) δ'|some (.bk δ')=>some (.nx δ')|r=>r):=by
   rw[show itm k (v::z)=.tup [nI k,.tup [v.1,v.2]]::itm (k+1) z from rfl]
   conv=>lhs;unfold M4
   rfl
  rw[un]
  by_cases hc:prt ps qs v
  ·refine .inr ⟨0,v,w,rfl,(λu hu=>absurd hu (by simp)),hc,w1,?_⟩
   rw[t1 hc];rfl
  ·rw[t2 hc]
   obtain⟨a1,a2,a3⟩:=h50 hp hq h hm k hv hc;rcases h40 hp hq P n z (k+1) (ex1 q k v s) (.sh (nI k)) (.sh (.tup [v.1,v.2])) (λu hu=>hz u (A7 _ hu)) a1 (a2 q hm) with⟨b',c',e,f⟩|⟨j,u,w',e1,e2,e3,e4,e5⟩
   ·refine .inl ⟨b',c',e,λu hu=>?_⟩
    rcases B2.mp hu with rfl|hu
    ·exact hc
    ·exact f u hu
   ·refine .inr ⟨j+1,u,w',e1,λy hy=>?_,e3,e4,?_⟩
    ·rw[List.take_succ_cons] at hy
     rcases B2.mp hy with rfl|hy
     ·exact hc
     ·exact e2 y hy
    ·rw[show k+(j+1)=k+1+j by omega]
     exact e5
inductive Run (ps qs:List Pt):Nat->Cs->Cs->Option ((Nat×Nat)×Nat)->Prop
 | fin {n:Nat} {s:Cs}:s.1.length=n->Run ps qs n s s none
 | go {n:Nat} {s s':Cs} {r:Option ((Nat×Nat)×Nat)} {q:Nat×Nat}:s.1[n]?=some q->(∀v∈zp ps qs q,¬prt ps qs v)->Run ps qs (n+1) (exs q 0 (zp ps qs q) s) s' r->Run ps qs n s s' r
 | prt {n:Nat} {s:Cs} {q:Nat×Nat} {j:Nat} {v:D×D}:s.1[n]?=some q->(zp ps qs q)[j]?=some v->(∀u∈(zp ps qs q).take j,¬prt ps qs u)->prt ps qs v->Run ps qs n s (exs q 0 ((zp ps qs q).take j) s) (some (q,j))
def PT:DL.GB:=(ob (o2 (gv 5) (zz0 (oA (z9 (gv 4) v6) Z5)) ltD))
def PW:GS:=(v8 (j4 (gN 6) (q10 (o2 (gv 4) (gv 5) ixD)))
 (v8 (i60 5 (gc (.int 1)))
 (v8 (z60 (v50 (z9 (oA (z9 (o2 (gv 0) (o2 (gv 6) (gc (.int 0)) ixD) ixD) v6) m_values) (z9 (oA (z9 (o2 (gv 1) (o2 (gv 6) (gc (.int 1)) ixD) ixD) v6) m_values) v6))) (J0 7 8)
 PB)
 p6)))
theorem Vl0(ps qs:List Pt)(P:Sl)(s:Cs)(n:Nat)(a b c:Sl):PT (pS ps qs P s n a b c)=some (decide (n<s.1.length)):=by
 unfold PT ob;rw[p7 (x:=.int (n:Int)) (y:=.int (s.1.length:Int)) rfl (by
  show some (D.int ((s.1.map pN).length:Int))=_;rw[List.length_map])]
 show some (decide ((n:Int)<(s.1.length:Int)))=_;congr 1;rw[decide_eq_decide];omega
theorem ca0(hp:Web ps)(hq:Web qs)(P:Sl){s:Cs}(e:s.1[n]?=some q)(i1:q.1<ps.length)(i2:q.2<qs.length)(a b c:Sl){r:Option Res}(hr:M4 (J0 7 8) PB (itm 0 (zp ps qs q)) (pS ps qs P s (n+1) (.sh (pN q)) b c)=r) :
  PW (pS ps qs P s n a b c)=r:=by
 have hn:n<s.1.length:=(E1.mp e).1;obtain⟨a1,a2⟩:=W5 hp i1;obtain⟨b1,b2⟩:=W5 hq i2;refine u5 (δ':=pS ps qs P s n (.sh (pN q)) b c) (j8 (d:=pN q) ?_) (u5 (δ':=pS ps qs P s (n+1) (.sh (pN q)) b c) ?_ ?_)
 ·refine bb0 ?_ rfl
  show o2 (gv 4) (gv 5) ixD [.sh (wd ps),.sh (wd qs),G3 P,.sh (cm s),.sh (.lst (s.1.map pN)),.sh (.int (n:Int)),G3 a,G3 b,G3 c]=_;rw[p7 (x:=.lst (s.1.map pN)) (y:=.int (n:Int)) rfl rfl];show atI (s.1.map pN) (n:Int)=_;rw[yi0 (by omega) (by rw[List.length_map];omega) .non,Int.toNat_natCast,List.getD_eq_getElem?_getD,List.getElem?_map,e];rfl
 ·rfl
 ·have hz:v50 (z9 (oA (z9 (o2 (gv 0) (o2 (gv 6) (gc (.int 0)) ixD) ixD) v6) m_values) (z9 (oA (z9 (o2 (gv 1) (o2 (gv 6) (gc (.int 1)) ixD) ixD) v6) m_values) v6)) (pS ps qs P s (n+1) (.sh (pN q)) b c)=some (itm 0 (zp ps qs q)):=by
   unfold v50;rw[cons_of (d:=.lst (pa ps q.1).vals) (ds:=[.lst (pa qs q.2).vals]) (by
    rw[o6 (ds:=[(pa ps q.1).d]) (cons_of (by rw[p7 (x:=wd ps) (y:=.int (q.1:Int)) rfl rfl];exact a1) rfl)];exact kf0 _ a2.f) (cons_of (by
    rw[o6 (ds:=[(pa qs q.2).d]) (cons_of (by rw[p7 (x:=wd qs) (y:=.int (q.2:Int)) rfl rfl];exact b1) rfl)];exact kf0 _ b2.f) rfl)]
   show some (wm0 _ _)=_;rw[ev0];rfl
  unfold v8;rw[zd0 hz hr];rcases r with _|r
  ·rfl
  ·cases r<;>rfl
theorem ec0(hp:Web ps)(hq:Web qs)(P:Sl):∀(f n:Nat) (s:Cs) (a b c:Sl),Pi ps qs p0 s->n<=s.1.length->3600 - n<f ->
  ∃s' r,Run ps qs n s s' r/\Pi ps qs p0 s'/\((r=none/\∃n' a' b' c',W9 PT PW f (pS ps qs P s n a b c)=some (.nx (pS ps qs P s' n' a' b' c'))) ∨
   ∃q j w,r=some (q,j)/\Wy s' q w/\W9 PT PW f (pS ps qs P s n a b c)=some (.rt (.tup [cm s',.lst ((w++[j]).map nI)]))):=by
 intro f
 induction f with
 | zero=>intro n s a b c _ _ h;omega
 | succ f ih =>
  intro n s a b c h hn hf;have few:=h.few hp hq;unfold W9;rw[Vl0]
  by_cases h0:n<s.1.length
  ·rw[decide_eq_true h0]
   dsimp only;obtain⟨q,e⟩:∃q,s.1[n]?=some q:=⟨_,C7 h0⟩;have hm:q∈s.1:=G0 e;obtain⟨i1,i2⟩:=h.inr q hm;rcases h40 hp hq P (n+1) (zp ps qs q) 0 s b c (λv hv=>hv) h hm with⟨b',c',e1,e2⟩|⟨j,v,w,e1,e2,e3,e4,e5⟩
   ·obtain⟨p1,p2,_⟩:=un0 hp hq (zp ps qs q) 0 s h hm λv hv=>⟨hv,e2 v hv⟩
    have hl:s.1.length<=(exs q 0 (zp ps qs q) s).1.length:=Dk0 h.nd p2;obtain⟨s',r,R,Q,k⟩:=ih (n+1) _ (.sh (pN q)) b' c' p1 (by omega) (by omega);rw[ca0 hp hq P e i1 i2 a b c e1];exact⟨s',r,.go e e2 R,Q,k⟩
   ·rw[Nat.zero_add] at e5
    rw[ca0 hp hq P e i1 i2 a b c e5];obtain⟨p1,_,_⟩:=un0 hp hq ((zp ps qs q).take j) 0 s h hm λv hv=>⟨i8 hv,e2 v hv⟩
    exact⟨_,_,.prt e e1 e2 e3,p1,.inr ⟨q,j,w,rfl,e4,rfl⟩⟩
  ·rw[decide_eq_false h0]
   exact⟨s,none,.fin (by omega),h,.inl ⟨rfl,n,a,b,c,rfl⟩⟩
theorem cn0(hp:Web ps)(hq:Web qs)(h1:p0.1<ps.length)(h2:p0.2<qs.length) :
  (Pn.hd (pa ps p0.1)≠Pn.hd (pa qs p0.2)/\X5 [wd ps,wd qs,pN p0]=some (.tup [cm ([p0],[none]),.lst []])) ∨
  (Pn.hd (pa ps p0.1)=Pn.hd (pa qs p0.2)/\∃s r,Run ps qs 0 ([p0],[none]) s r/\Pi ps qs p0 s/\((r=none/\X5 [wd ps,wd qs,pN p0]=some (.tup [cm s,.non])) ∨
   ∃q j w,r=some (q,j)/\Wy s q w/\X5 [wd ps,wd qs,pN p0]=some (.tup [cm s,.lst ((w++[j]).map nI)]))):=by
 have zs:(9000:Nat)<=sizeLine:=by decide
 obtain⟨t1,t2⟩:=kh0 (ra0 hp hq (x:=p0) h1 h2 (g1:=o2 (gv 0) (o2 (gv 2) (gc (.int 0)) ixD) ixD) (g2:=o2 (gv 1) (o2 (gv 2) (gc (.int 1)) ixD) ixD) (δ:=[.sh (wd ps),.sh (wd qs),.sh (pN p0),.ow (cm ([p0],[none])),.un,.un,.un,.un,.un]) rfl rfl);have F:O1 3 (ux0 (gv 2) (gc .non)) (Z4 xj0 [wd ps,wd qs,pN p0])=some (.nx [.sh (wd ps),.sh (wd qs),.sh (pN p0),.ow (cm ([p0],[none])),.un,.un,.un,.un,.un]):=rfl
 by_cases hh:Pn.hd (pa ps p0.1)=Pn.hd (pa qs p0.2)
 ·refine .inr ⟨hh,?_⟩
  have L:Pi ps qs p0 ([p0],[none]):=by
   have one:∀x,x∈[p0]->x=p0:=λx hx=>N9.mp hx
   refine⟨rfl,N0.mpr ⟨by simp,R1⟩,λx hx=>by rw[one x hx];exact⟨h1,h2⟩,λx hx=>?_,λx hx=>by rw[one x hx];exact hh,λx hx=>by rw[one x hx];exact .top⟩;rw[one x hx];refine⟨[],.top ?_,by simp⟩;show (if k2 p0=k2 p0 then some (cD none) else _)=_;rw[if_pos rfl]
  obtain⟨s,r,R,Q,k⟩:=ec0 hp hq (.sh (pN p0)) 100000 0 ([p0],[none]) .un .un .un L (by simp) (by decide);have J:∀rest:GS,v8 (O1 3 (ux0 (gv 2) (gc .non))) (v8 (ifD (ob (o2 (oA (z9 (o2 (gv 0) (o2 (gv 2) (gc (.int 0)) ixD) ixD) v6) Q9) (oA (z9 (o2 (gv 1) (o2 (gv 2) (gc (.int 1)) ixD) ixD) v6) Q9) M5)) (v8 (d8 (xi0 (Y7 (z9 (gv 3) (z9 (Y0 v6) v6))))) p6) p6) (v8 (O1 4 (Y0 (z9 (gv 2) v6))) (v8 (j4 (gN 5) (gc (.int 0))) rest))) (Z4 xj0 [wd ps,wd qs,pN p0])=rest (pS ps qs (.sh (pN p0)) ([p0],[none]) 0 .un .un .un):=λrest =>
   u5 F (u5 (by rw[Z6 (t2 λz=>z hh)];rfl) (u5 (by rfl) (u5 (by rfl) rfl)))
  refine⟨s,r,R,Q,?_⟩;rcases k with⟨rfl,n',a',b',c',e⟩|⟨q,j,w,rfl,hw,e⟩
  ·refine .inl ⟨rfl,Z2 rfl ((J _).trans (u5 e (m9 (X8 ?_))))⟩
   exact U7 (cons_of rfl (cons_of rfl rfl)) (by show 2<=sizeLine;omega)
  ·exact .inr ⟨q,j,w,rfl,hw,Z2 rfl ((J _).trans (m9 e))⟩
 ·refine .inl ⟨hh,Z2 rfl (u5 F (m9 ?_))⟩
  rw[N6 (t1 hh)];refine m9 (X8 ?_);exact U7 (cons_of rfl (cons_of (y50 rfl (by show 0<=sizeLine;omega)) rfl)) (by show 2<=sizeLine;omega)
end La
namespace La
open Ra
open DL W K22 Ta Fa
def okp(ps qs:List Pt)(q:Nat×Nat):Prop:=Pn.hd (pa ps q.1)=Pn.hd (pa qs q.2)/\∀v∈zp ps qs q,nl v
theorem ku0(q:Nat×Nat):∀(z:List (D×D)) (k:Nat) (s:Cs),∃A B,exs q k z s=(s.1++A,s.2++B)
 | [],k,s=>⟨[],[],by simp[exs]⟩
 | v::z,k,s=>by
  obtain⟨A,B,e⟩:=ku0 q z (k+1) (ex1 q k v s);unfold exs;rw[e];unfold ex1;cases gl1 v with
  | none=>exact⟨A,B,rfl⟩
  | some x =>
   dsimp only;split
   ·exact⟨A,B,rfl⟩
   ·exact⟨x::A,some (q,k)::B,by simp⟩
theorem Ww0{v:D×D}(l1:Lv n v.1)(l2:Lv m v.2)(h:¬prt ps qs v):nl v:=by
 unfold prt at h;rcases v90 l1 l2 with⟨i,j,_,_,e1,e2,e⟩|⟨e,_⟩
 ·exact .inl ⟨by rw[e1];rfl,by rw[e2];rfl⟩
 ·rw[show (v.1,v.2)=v from rfl] at e
  rw[e] at h;exact .inr (Dm0.mp h)
theorem e20(hp:Web ps)(hq:Web qs){s s':Cs}{r:Option ((Nat×Nat)×Nat)}(R:Run ps qs n s s' r):r=none->Pi ps qs p0 s->(∀i q,i<n->s.1[i]?=some q->(∀v∈zp ps qs q,¬prt ps qs v)/\∀x∈gl (zp ps qs q),x∈s.1) ->
  (∀x∈s.1,x∈s'.1)/\∀q∈s'.1,(∀v∈zp ps qs q,¬prt ps qs v)/\∀x∈gl (zp ps qs q),x∈s'.1:=by
 induction R with
 | @fin n s hl =>
  intro _ h hc;refine⟨λx hx=>hx,λq hq=>?_⟩;obtain⟨i,hi,e⟩:=N4.mp hq;exact hc i q (by omega) (by rw[List.getElem?_eq_getElem hi,e])
 | @go n s s' r q e hn R ih =>
  intro hr h hc;have hm:=G0 e;obtain⟨p1,p2,p3⟩:=un0 hp hq (zp ps qs q) 0 s h hm λv hv=>⟨hv,hn v hv⟩
  have J:=(E1.mp e).1;obtain⟨A,B,ee⟩:=ku0 q (zp ps qs q) 0 s;obtain⟨i1,i2⟩:=ih hr p1 λi q' hi e'=>by
   by_cases hin:i=n
   ·subst hin
    rw[ee,List.getElem?_append_left J,e] at e';cases e';exact⟨hn,p3⟩
   ·have F:i<n:=by omega
    rw[ee,List.getElem?_append_left (by omega)] at e';obtain⟨c1,c2⟩:=hc i q' F e';exact⟨c1,λx hx=>p2 x (c2 x hx)⟩
  exact⟨λx hx=>i1 x (p2 x hx),i2⟩
 | prt=>intro hr;cases hr
theorem cs0(hp:Web ps)(hq:Web qs){s:Cs}(R:Run ps qs 0 ([p0],[none]) s none)(h0:Pi ps qs p0 ([p0],[none]))(h:Pi ps qs p0 s):(∀x,x∈s.1↔Rch ps qs p0 x)/\∀x,Rch ps qs p0 x->okp ps qs x:=by
 obtain⟨c1,c2⟩:=e20 hp hq R rfl h0 λi q hi=>by omega
 have all:∀x,Rch ps qs p0 x->x∈s.1:=λx hx=>by
  induction hx with
  | top=>exact c1 _ (by simp)
  | go _ hg ih=>exact(c2 _ ih).2 _ hg
 refine⟨λx=>⟨h.rc x,all x⟩,λx hx=>⟨h.hds x (all x hx),λv hv=>?_⟩⟩;obtain⟨i1,i2⟩:=h.inr x (all x hx);obtain⟨l1,l2⟩:=rm0 hp hq i1 i2 hv;exact Ww0 l1 l2 ((c2 x (all x hx)).1 v hv)
theorem Z80(hp:Web ps)(hq:Web qs)(hr:Rch ps qs p0 q)(i1:q.1<ps.length)(i2:q.2<qs.length){v:D×D}(hv:v∈zp ps qs q)(h:prt ps qs v):∃x,Rch ps qs p0 x/\¬okp ps qs x:=by
 obtain⟨l1,l2⟩:=rm0 hp hq i1 i2 hv;unfold prt at h;rcases v90 l1 l2 with⟨i,j,_,_,e1,e2,e⟩|⟨e,e2⟩
 ·rw[show (v.1,v.2)=v from rfl] at e
  rw[e] at h;exact⟨(i,j),.go hr (L4.mpr ⟨v,hv,e⟩),λz=>h z.1⟩
 ·rw[show (v.1,v.2)=v from rfl] at e
  rw[e] at h;refine⟨q,hr,λz=>?_⟩;rcases z.2 v hv with⟨a,b⟩|z
  ·rw[a,b] at e2
   cases e2
  ·exact h z
theorem ao0(hp:Web ps)(hq:Web qs){s s':Cs}{r:Option ((Nat×Nat)×Nat)}(R:Run ps qs n s s' r):r≠none->Pi ps qs p0 s->∃x,Rch ps qs p0 x/\¬okp ps qs x:=by
 induction R with
 | fin=>intro hr;exact absurd rfl hr
 | @go n s s' r q e hn R ih =>
  intro hr h;obtain⟨p1,_,_⟩:=un0 hp hq (zp ps qs q) 0 s h (G0 e) λv hv=>⟨hv,hn v hv⟩
  exact ih hr p1
 | @prt n s q j v e e1 e2 e3 =>
  intro _ h;have hm:=G0 e;obtain⟨i1,i2⟩:=h.inr q hm;exact Z80 hp hq (h.rc q hm) i1 i2 (G0 e1) e3
def Tab(ps qs:List Pt)(p0:Nat×Nat)(A:List (Nat×Nat)):Prop:=A.Nodup/\(∀x,x∈A↔Rch ps qs p0 x)/\∀x,Rch ps qs p0 x->okp ps qs x
theorem dm0(hp:Web ps)(hq:Web qs)(h1:p0.1<ps.length)(h2:p0.2<qs.length) :
  ((∃x,Rch ps qs p0 x/\¬okp ps qs x)/\∃(s:Cs) (w:List Nat),X5 [wd ps,wd qs,pN p0]=some (.tup [cm s,.lst (w.map nI)])) ∨
  ∃s:Cs,Tab ps qs p0 s.1/\X5 [wd ps,wd qs,pN p0]=some (.tup [cm s,.non]):=by
 rcases cn0 hp hq h1 h2 with⟨hh,e⟩|⟨hh,s,r,R,Q,k⟩
 ·exact .inl ⟨⟨p0,.top,λz=>hh z.1⟩,_,[],e⟩
 ·have F:Pi ps qs p0 ([p0],[none]):=by
   have one:∀x,x∈[p0]->x=p0:=λx hx=>N9.mp hx
   refine⟨rfl,N0.mpr ⟨by simp,R1⟩,λx hx=>by rw[one x hx];exact⟨h1,h2⟩,λx hx=>?_,λx hx=>by rw[one x hx];exact hh,λx hx=>by rw[one x hx];exact .top⟩;rw[one x hx];refine⟨[],.top ?_,by simp⟩;show (if k2 p0=k2 p0 then some (cD none) else _)=_;rw[if_pos rfl]
  rcases k with⟨rfl,e⟩|⟨q,j,w,rfl,_,e⟩
  ·obtain⟨a1,a2⟩:=cs0 hp hq R F Q
   exact .inr ⟨s,⟨Q.nd,a1,a2⟩,e⟩
  ·exact .inl ⟨ao0 hp hq R (λz=>nomatch z) F,s,_,e⟩
theorem em0(hp:Web ps){p q:Nat}(h1:p<ps.length)(h2:q<ps.length) :
  ((∃x,Rch ps ps (p,q) x/\¬okp ps ps x)/\O9 [wd ps,nI p,nI q]=some .non/\ya0 [wd ps,nI p,nI q]=none/\∃w:List Nat,vw0 [wd ps,nI p,nI q]=some (.lst (w.map nI))) ∨
  ∃A,Tab ps ps (p,q) A/\O9 [wd ps,nI p,nI q]=some (.lst ((SoT.srt (A.map c2)).map pD))/\ya0 [wd ps,nI p,nI q]=some (.lst ((SoT.srt (A.map c2)).map pD))/\vw0 [wd ps,nI p,nI q]=some .non:=by
 have zs:(9000:Nat)<=sizeLine:=by decide
 have ca:∀(d:D) (δ:Ds),X5 [wd ps,wd ps,pN (p,q)]=some d->oA (z9 (gv 0) (z9 (gv 0) (z9 (Y7 (z9 (gv 1) (z9 (gv 2) v6))) v6))) X5 (.sh (wd ps)::.sh (nI p)::.sh (nI q)::δ)=some d:=λd δ e=>by
  rw[o6 (ds:=[wd ps,wd ps,pN (p,q)]) (cons_of rfl (cons_of rfl (cons_of (U7 (cons_of rfl (cons_of rfl rfl)) (by show 2<=sizeLine;omega)) rfl)))];exact e
 rcases dm0 hp hp (p0:=(p,q)) h1 h2 with⟨hb,s,w,e⟩|⟨s,ht,e⟩
 ·refine .inl ⟨hb,Z2 rfl (u5 (j8 (ca _ _ e)) (m9 ?_)),?_,w,Z2 rfl (m9 (X8 ?_))⟩
  ·change ifD _ _ _ [.sh (wd ps),.sh (nI p),.sh (nI q),.sh (.tup [cm s,.lst (w.map nI)])]=_
   rw[N6 (by rfl)];rfl
  ·have:wl0 (Z4 wo0 [wd ps,nI p,nI q])=some (.rt .non):=by
    refine u5 (j8 (ca _ _ e)) (m9 ?_)
    change ifD _ _ _ [.sh (wd ps),.sh (nI p),.sh (nI q),.sh (.tup [cm s,.lst (w.map nI)])]=_
    rw[N6 (by rfl)];rfl
   unfold ya0 mkN;rw[if_pos (by rfl),this]
  ·exact(p7 (x:=.tup [cm s,.lst (w.map nI)]) (y:=.int 1) (ca _ [] e) rfl).trans rfl
 ·have so:oA (z9 (o2 (gv 3) (gc (.int 0)) ixD) v6) v20 [.sh (wd ps),.sh (nI p),.sh (nI q),.sh (.tup [cm s,.non])]=some (.lst ((SoT.srt (s.1.map c2)).map pD)):=by
   rw[o6 (ds:=[cm s]) (cons_of rfl rfl)];have:=db0 (ps:=s.1.map c2) (ds:=s.2.map cD) (Vm0 ht.1);rw[List.map_map] at this;exact this
  refine .inr ⟨s.1,ht,Z2 rfl (u5 (j8 (ca _ _ e)) (u5 (δ':=[.sh (wd ps),.sh (nI p),.sh (nI q),.sh (.tup [cm s,.non])]) ?_ (m9 (X8 so)))),R8 rfl (u5 (j8 (ca _ _ e)) (u5 (δ':=[.sh (wd ps),.sh (nI p),.sh (nI q),.sh (.tup [cm s,.non])]) ?_ (S7 (G9 so)))),Z2 rfl (m9 (X8 ?_))⟩
  ·change ifD _ _ _ [.sh (wd ps),.sh (nI p),.sh (nI q),.sh (.tup [cm s,.non])]=_
   rw[Z6 (by rfl)];rfl
  ·change ifD _ _ _ [.sh (wd ps),.sh (nI p),.sh (nI q),.sh (.tup [cm s,.non])]=_
   rw[Z6 (by rfl)];rfl
  ·exact(p7 (x:=.tup [cm s,.non]) (y:=.int 1) (ca _ [] e) rfl).trans rfl
end La
namespace Ua
open DL W K22
open Ta (pa W5)
def dr(ps:List Pt)(r:List Nat):List Pt:=r.map λk=>rel (λj=>r.idxOf j) (pa ps k)
theorem K6(h:Web ps)(hi:i<ps.length):P0 (wd ps) i=tgs (pa ps i).vals:=by
 rw[h.adj hi];unfold pa;simp[hi]
theorem kb0{adj:Nat->List Nat}{c:Nat}{o:List Nat}(h:Dfs adj S c o T r):∃s,r=o++s:=by
 induction h with
 | nil o=>exact⟨[],(w8 o).symm⟩
 | skip _ _ ih=>exact ih
 | @visit c o T r x _ _ _ _ ih =>
  obtain⟨s,e⟩:=ih;exact⟨x::s,by rw[e,List.append_assoc];rfl⟩
theorem kw0{adj adj':Nat->List Nat}(f:Nat->Nat){c:Nat}{o:List Nat}(h:Dfs adj [] c o T r):(∀a∈r,∀b∈r,f a=f b->a=b)->(∀i∈r,adj' (f i)=(adj i).map f)->Dfs adj' [] c (o.map f) (T.map f) (r.map f):=by
 induction h with
 | nil o=>intro _ _;exact .nil _
 | @skip c o T r x hx hd ih =>
  intro hi ha;exact .skip (.inl (u4 (hx.resolve_right (by simp)))) (ih hi ha)
 | @visit c o T r x hx hS hz hd ih =>
  intro hi ha;obtain⟨s,e⟩:=kb0 hd;have F:x∈r:=by rw[e];simp
  have J:∀y∈o,y∈r:=λy hy=>by rw[e];simp[hy]
  have k:=ih hi ha;refine .visit (λz=>?_) (by simp) ?_ ?_
  ·obtain⟨y,hy,e2⟩:=B0.mp z
   exact hx (hi y (J y hy) x F e2▸hy)
  ·rw[ha x F]
   simp only[List.length_append,List.length_map] at hz ⊢;exact hz
  ·rw[ha x F]
   rw[List.map_append,List.map_append] at k;exact k
theorem ti0(f:Nat->Nat):∀{vs:List D},(∀v∈vs,Lv n v)->tgs (vs.map (lkv f))=(tgs vs).map f
 | [],_=>rfl
 | v::vs,h=>by
  have ih:=ti0 f (vs:=vs) λu hu=>h u (A7 _ hu)
  rw[List.map_cons];rcases h v A5 with rfl|⟨z,rfl⟩|⟨j,rfl,hj⟩
  ·rw[Ta.re0 _ (.inl rfl),show lkv f D.non=.non from rfl,Ta.re0 _ (.inl rfl),ih]
  ·rw[Ta.re0 _ (.inr ⟨z,rfl⟩),show lkv f (D.int z)=.int z from rfl,Ta.re0 _ (.inr ⟨z,rfl⟩),ih]
  ·rw[show lkv f (.tup [.str "at",.int (j:Int)])=.tup [.str "at",.int (f j:Int)] from by unfold lkv;simp only[Int.toNat_natCast],m70,m70,ih]
   rfl
theorem zw0(f:Nat->Nat)(p:Pt):(rel f p).vals=p.vals.map (lkv f):=vl0 p _ (by rw[List.length_map])
theorem xw0:∀(a:List Str) (b:List D),a.length=b.length->(a.zip b).map (·.1)=a
 | [],_,_=>by simp
 | _::_,[],h=>by simp at h
 | a::as,b::bs,h=>by simp at h;simp[xw0 as bs h]
theorem ab0(p:Pt)(vs us:List D)(h:vs.length=p.vals.length):Pn.put (Pn.put p vs) us=Pn.put p us:=by
 cases p with
 | text w=>rfl
 | row us=>rfl
 | table ps =>
  show Pt.table _=Pt.table _;rw[xw0 _ _ (by rw[List.length_map];have:vs.length=(ps.map (·.2)).length:=h;rw[this,List.length_map])]
 | rcd c ps =>
  show Pt.rcd _ _=Pt.rcd _ _;rw[xw0 _ _ (by rw[List.length_map];have:vs.length=(ps.map (·.2)).length:=h;rw[this,List.length_map])]
theorem Yw0(p:Pt)(vs:List D)(h:vs.length=p.vals.length):Pn.hd (Pn.put p vs)=Pn.hd p:=by
 cases p with
 | text w=>rfl
 | row us=>show D.tup [_,.int (vs.length:Int)]=_;rw[h];rfl
 | table ps =>
  show D.tup [_,.tup ((((ps.map (·.1)).zip vs).map (·.1)).map .str)]=_;rw[xw0 _ _ (by rw[List.length_map];have:vs.length=(ps.map (·.2)).length:=h;rw[this,List.length_map])];rfl
 | rcd c ps =>
  show D.tup [_,_,.tup ((((ps.map (·.1)).zip vs).map (·.1)).map .str)]=_;rw[xw0 _ _ (by rw[List.length_map];have:vs.length=(ps.map (·.2)).length:=h;rw[this,List.length_map])];rfl
theorem gv0(f:Nat->Nat)(p:Pt):Pn.hd (rel f p)=Pn.hd p:=Yw0 p _ (by rw[List.length_map])
theorem yc0(f:Nat->Nat)(j:Nat):lkv f (.tup [.str "at",.int (j:Int)])=.tup [.str "at",.int (f j:Int)]:=by unfold lkv;simp only[Int.toNat_natCast]
theorem kn0{p:Pt}(h:Pw n p)(f g:Nat->Nat):rel g (rel f p)=rel (λj=>g (f j)) p:=by
 unfold rel;rw[vl0 p _ (by rw[List.length_map]),ab0 _ _ _ (by rw[List.length_map]),List.map_map];congr 1;refine P4 λv hv=>?_
 rcases h.lv v hv with rfl|⟨z,rfl⟩|⟨j,rfl,hj⟩
 ·rfl
 ·rfl
 ·show lkv g (lkv f _)=_
  rw[yc0,yc0,yc0]
theorem pg0{p:Pt}(h:Pw n p){f g:Nat->Nat}(e:∀j∈tgs p.vals,f j=g j):rel f p=rel g p:=by
 unfold rel;congr 1;refine P4 λv hv=>?_
 rcases h.lv v hv with rfl|⟨z,rfl⟩|⟨j,rfl,hj⟩
 ·rfl
 ·rfl
 ·rw[yc0,yc0,e j (ma0 hv)]
theorem j30{f:Nat->Nat}:∀{r:List Nat},(∀a∈r,∀b∈r,f a=f b->a=b)->r.Nodup->(r.map f).Nodup
 | [],_,_=>R1
 | a::r,hi,h=>by
  rw[List.nodup_cons] at h;rw[List.map_cons,List.nodup_cons];refine⟨λz=>?_,j30 (λx hx y hy=>hi x (A7 _ hx) y (A7 _ hy)) h.2⟩;obtain⟨b,hb,e⟩:=B0.mp z;exact h.1 (hi b (A7 _ hb) a A5 e▸hb)
theorem idx_map(f:Nat->Nat):∀(r:List Nat) (j:Nat),j∈r->(∀a∈r,f a=f j->a=j)->(r.map f).idxOf (f j)=r.idxOf j
 | [],_,h,_=>by cases h
 | a::r,j,h,hi=>by
  rw[List.map_cons,List.idxOf_cons,List.idxOf_cons]
  by_cases e:a=j
  ·subst e;simp
  ·have ne:f a≠f j:=λz=>e (hi a A5 z)
   rw[beq_false_of_ne e,beq_false_of_ne ne];show _+1=_+1;rw[idx_map f r j ((B2.mp h).resolve_left (B7 e)) λb hb=>hi b (A7 _ hb)]
theorem fo0(v:D)(h:Lv n v):lkv (λj=>j) v=v:=by
 rcases h with rfl|⟨z,rfl⟩|⟨j,rfl,hj⟩
 ·rfl
 ·rfl
 ·rw[yc0]
end Ua
namespace Ua
open DL W K22
open Ta (pa W5 wr0)
def nums(r:List Nat)(i:Nat):D:=.dct (.inl (kd (r.take i))) (nd (List.range' 0 i))
theorem kr0(hn:r.Nodup)(hj:j<r.length):V6 (kd (r.take j)) (.inl (r[j]:Int))=kd (r.take (j+1))/\W7 (kd (r.take j)) (nd (List.range' 0 j)) (.inl (r[j]:Int)) (.int (j:Int))=nd (List.range' 0 (j+1)):=by
 have F:r[j]∉r.take j:=λz=>by
  have q:(r.take j++r.drop j).Nodup:=by rw[List.take_append_drop];exact hn
  exact(x0.mp q).2.2 _ z _ (by rw[List.drop_eq_getElem_cons hj];exact A5) rfl
 have hk:T5 (kd (r.take j)) (.inl (r[j]:Int))=false:=by rw[vf0,decide_eq_false F]
 have tk:r.take (j+1)=r.take j++[r[j]]:=by rw[List.take_succ,List.getElem?_eq_getElem hj];rfl
 constructor
 ·unfold V6;rw[hk,if_neg (by simp),tk,rj0];rfl
 ·unfold W7;rw[hk,if_neg (by simp),List.range'_concat,zr0,Nat.one_mul,Nat.zero_add];rfl
theorem v00(hj:j∈r):yk0 (nums r r.length) (.int (j:Int))=some (.int ((r.idxOf j:Nat):Int)):=by
 show N7 (kd (r.take r.length)) (nd (List.range' 0 r.length)) (.inl (j:Int))=_;rw[List.take_length,qp0 r 0 j hj,Nat.zero_add]
theorem gl0{ks:List V5}{vs:List D}{k:Nat}{v:D}{g:GE}{gx:GE}(h1:δ[i]?=some (.ow (.dct (.inl ks) vs)))(h2:gx δ=some v)(h3:g δ=some (.int (k:Int)))(h4:ks.length<sizeLine) :
  T3 (S6 gx) (putAt i g) δ=some (.nx (δ.set i (.ow (.dct (.inl (V6 ks (.inl (k:Int)))) (W7 ks vs (.inl (k:Int)) v))))):=by
 have e:qt0 i δ=some (ks,vs):=by unfold qt0;rw[h1]
 unfold T3 S6;rw[h2,Option.map_some,Option.bind_some];unfold DL.putAt;rw[e,Option.bind_some,h3,Option.bind_some];simp only[z80,Option.bind_some];rw[if_pos h4];rfl
theorem sh0(r:List Nat):(G7 (nd r)).length=r.length:=by unfold G7;rw[List.length_map,List.length_range,V7]
theorem mq0{d:D}(h:(G7 (nd r))[j]?=some d):∃hj:j<r.length,d=.tup [.int (j:Int),.int (r[j]:Int)]:=by
 have F:j<r.length:=by
  have:=(E1.mp h).1
  rwa [sh0] at this
 refine⟨F,?_⟩;unfold G7 at h;rw[List.getElem?_map,List.getElem?_range (by rw[V7];exact F)] at h;have e:(nd r).getD j .non=.int (r[j]:Int):=by unfold nd;simp[F]
 rw[← e];exact(B3 h).symm
theorem k60{gA:GA}(δ:Ds)(r:List Nat)(h:gA δ=some [.lst (nd r)]):rl0 gA δ=some (G7 (nd r)):=by
 unfold rl0;rw[h];rfl
def NB:GS:=(v8 (T3 (S6 (gv 4)) (DL.putAt 3 (gv 5))) p6)
end Ua
namespace Ra
open DL W
def rn0:GS:=(v8 (d8 (yl0 (zf0 isInt (gv 0)) (ew0 (zf0 isBool (gv 0)))))
 p6)
def jj0:List Str:=["thing"]
def zl0:List D->Option D:=mkF 1 jj0 rn0
def tw0:GS:=(v8 (d8 (yl0 (zf0 isTup (gv 0)) (yl0 (o2 (oA (z9 (gv 0) v6) Z5) (gv 2) eqD) (yl0 (zf0 isStr (o2 (gv 0) (gc (.int 0)) ixD)) (o2 (o2 (gv 0) (gc (.int 0)) ixD) (gv 1) eqD)))))
 p6)
def ld0:List Str:=["thing", "mark", "count"]
def yt0:List D->Option D:=mkF 3 ld0 tw0
def pn0:GS:=(v8 (d8 (yl0 (oA (z9 (gv 0) (z9 (gc (.str "at")) (z9 (gc (.int 2)) v6))) yt0) (yl0 (oA (z9 (o2 (gv 0) (gc (.int 1)) ixD) v6) zl0) (o2 (o2 (gv 0) (gc (.int 1)) ixD) (gc (.int 0)) geD))))
 p6)
def ik0:List Str:=["thing"]
def M8:List D->Option D:=mkF 1 ik0 pn0
def rp0:GS:=(v8 (d8 (orG (o2 (gv 0) (gc .non) sb0) (orG (oA (z9 (gv 0) v6) zl0) (oA (z9 (gv 0) v6) M8))))
 p6)
def i90:List Str:=["thing"]
def G5:List D->Option D:=mkF 1 i90 rp0
def c80:GS:=(v8 (z50 (oA (z9 (gv 0) (z9 (gv 1) (z9 (gc (.dct (.inl []) [])) v6))) O6))
 p6)
def Wd0:List Str:=["web", "k"]
def vm0:List D->Option D:=mkN 2 Wd0 c80
def kg0:GS:=(v8 (j4 (gN 2) (sa0 (oA (z9 (gv 0) (z9 (gv 1) v6)) vm0)))
 (v8 (O1 3 (gc (.dct (.inl []) [])))
 (v8 (z60 (rl0 (z9 (gv 2) v6)) (J0 4 5)
 (v8 (T3 (S6 (gv 4)) (putAt 3 (gv 5)))
 p6))
 (v8 (d8 (xi0 (oA (z9 (W3 1 [0,3] (zp0 (gv 2)) (gN 0) noT (oA (z9 (o2 (gv 1) (gv 0) ixD) (z9 (gv 2) v6)) R4)) v6) J6)))
 p6))))
def af0:List Str:=["web", "k", "order", "numbers", "number", "part"]
def U8:List D->Option D:=mkF 2 af0 kg0
def ci0:GS:=(v8 (ifD (xn0 (ob (o2 (gv 1) (gc (.int 0)) ltD)) (ob (o2 (gv 1) (oA (z9 (gv 0) v6) Z5) geD)))
 (v8 w80
 p6)
 p6)
 (v8 (O1 4 (oA (z9 (o2 (gv 0) (gv 1) ixD) v6) m_values))
 (v8 (ifD (xn0 (ob (o2 (gv 2) (gc (.int 0)) ltD)) (ob (o2 (gv 2) (zz0 (oA (z9 (gv 4) v6) Z5)) geD)))
 (v8 w80
 p6)
 p6)
 (v8 (ifD (wg0 (ob (oA (z9 (gv 3) v6) G5)))
 (v8 w80
 p6)
 p6)
 (v8 (ifD (K5 (ob (oA (z9 (gv 3) v6) M8)) (ob (o2 (o2 (gv 3) (gc (.int 1)) ixD) (oA (z9 (gv 0) v6) Z5) geD)))
 (v8 w80
 p6)
 p6)
 (v8 (T3 (S6 (gv 3)) (setAt 4 (gv 2)))
 (v8 (d8 (xi0 (o2 (o2 (N5 (gv 0) O3 (someO (gv 1))) (Y7 (z9 (oA (z9 (o2 (gv 0) (gv 1) ixD) (z9 (gv 4) v6)) V1) v6)) Z3) (N5 (gv 0) (someO (o2 (gv 1) (gc (.int 1)) Z3)) O3) Z3)))
 p6)))))))
def Wm0:List Str:=["web", "k", "place", "value", "some"]
def te0:List D->Option D:=mkF 4 Wm0 ci0
def l40:GS:=(v8 (O1 3 (oA (z9 (W3 1 [] (zp0 (ifG (ob (o2 (gv 2) (gc .non) sb0)) (Y0 v6) (gv 2))) (gN 0) noT (Y7 (z9 (gv 0) (z9 (gv 0) v6)))) v6) vb0))
 (v8 (j4 (gN 4) (sa0 (oA (z9 (gv 0) (z9 (gv 1) (z9 (gv 3) v6))) O6)))
 (v8 (ifD (ob (o2 (o2 (oA (z9 (gv 0) v6) Z5) (oA (z9 (gv 4) v6) Z5) Z3) (gc (.int 60)) gtD))
 (v8 w80
 p6)
 p6)
 (v8 (z60 (sp0 (z9 (gv 4) v6) (oA (z9 (gv 0) v6) Z5)) (J0 5 6)
 (v8 (T3 (S6 (gv 5)) (putAt 3 (gv 6)))
 p6))
 (v8 (d8 (xi0 (Y7 (z9 (o2 (gv 0) (oA (z9 (W3 1 [0,3] (zp0 (gv 4)) (gN 0) noT (oA (z9 (o2 (gv 1) (gv 0) ixD) (z9 (gv 2) v6)) R4)) v6) J6) Z3) (z9 (o2 (gv 3) (gv 1) yk0) v6)))))
 p6)))))
def dp0:List Str:=["web", "k", "kept", "numbers", "order", "number", "part"]
def y20:List D->Option D:=mkF 3 dp0 l40
def rt0:GS:=(v8 (O1 2 (Y0 v6))
 (v8 (O1 3 (Y0 (z9 (gv 1) v6)))
 (v8 (W9 (ob (o2 (zz0 (oA (z9 (gv 3) v6) Z5)) (gc (.int 0)) gtD))
 (v8 (T3 (ws0 3) (gN 4))
 (v8 (ifD (xz0 (ob (o2 (gv 4) (gv 2) (G8 true))))
 (v8 (X7 (O2 2 (gv 4)))
 (v8 (X7 (xl0 3 (W3 1 [] (zp0 (oA (z9 (o2 (gv 0) (gv 4) ixD) v6) Z7)) (gN 0) (ob (zf0 isTup (gv 0))) (o2 (gv 0) (gc (.int 1)) ixD))))
 p6))
 p6)
 p6)) 100000)
 (v8 (qe0 2)
 p6))))
def ib0:List Str:=["_law_web_here", "_law_k", "_law_found", "_law_waiting", "_law_j"]
def U5:List D->Option D:=mkN 2 ib0 rt0
def ty0:GS:=(v8 (T3 (S6 (oA (z9 (gv 0) (z9 (gv 1) (z9 (oA (z9 (gv 2) v6) yz0) v6))) y20)) (J0 3 4))
 (v8 (ifD (xn0 (ob (o2 (N5 (gv 3) O3 (someO (oA (z9 (gv 0) v6) Z5))) (gv 0) M5)) (ob (o2 (oA (z9 (gv 3) (z9 (gv 1) (z9 (gv 4) v6))) O9) (gc .non) sb0)))
 (v8 (d8 (gc .non))
 p6)
 p6)
 (v8 (j4 (gN 5) (oA (z9 (gv 3) (z9 (gv 4) v6)) U5))
 (v8 (j4 (gN 6) (W3 1 [0] (zp0 (gv 5)) (gN 0) (ob (o2 (gv 0) (oA (z9 (gv 1) v6) Z5) ltD)) (gv 0)))
 (v8 (ifD (ob (o2 (gv 2) (Y0 v6) ym0))
 (v8 (ifD (xn0 (ob (o2 (gv 6) (Y0 v6) M5)) (xn0 (ob (o2 (oA (z9 (gv 3) (z9 (gv 1) v6)) U8) (oA (z9 (gv 3) (z9 (gv 4) v6)) U8) M5)) (ob (o2 (oA (z9 (gv 3) (z9 (gv 1) v6)) U8) (oA (z9 (gv 0) (z9 (gv 1) v6)) U8) M5))))
 (v8 (d8 (gc .non))
 p6)
 p6)
 p6)
 p6)
 (v8 (O1 7 (Y0 v6))
 (v8 (z60 (zp0 (gv 2)) (gN 8)
 (v8 (X7 (xl0 7 (oA (z9 (gv 0) (z9 (gv 8) v6)) U5)))
 p6))
 (v8 (Zs0 7 (ifD (ob (o2 (oA (z9 (W3 1 [7] (zp0 (gv 6)) (gN 0) (ob (o2 (gv 0) (gv 1) (G8 true))) (gv 0)) v6) Z5) (gc (.int 0)) gtD))
 (v8 (d8 (gc .non))
 p6)
 p6))
 (v8 (d8 (Y7 (z9 (gv 3) (z9 (gv 4) v6))))
 p6)))))))))
def tq0:List Str:=["_law_web_here", "_law_k", "_law_kept", "_law_found", "_law_copy_at", "_law_there", "_law_old", "_law_from_kept", "_law_j"]
def z00:List D->Option D:=mkF 3 tq0 ty0
def u20:GS:=(v8 (j4 (gN 4) (o2 (gv 1) (oA (z9 (gv 0) v6) Z5) d9))
 (v8 (j4 (gN 5) (oA (z9 (o2 (gv 0) (gv 4) ixD) v6) Z7))
 (v8 (ifD (ob (o2 (gv 5) (Y0 v6) ym0))
 (v8 (d8 (gc (.bl true)))
 p6)
 p6)
 (v8 (j4 (gN 6) (oA (z9 (gv 0) (z9 (gv 4) (z9 (o2 (o2 (gv 1) (gc (.int 60)) X4) (oA (z9 (gv 5) v6) Z5) d9) (z9 (oA (z9 (o2 (gv 1) (gc (.int 720)) X4) (z9 (oA (z9 (gv 0) v6) Z5) v6)) T6) v6)))) te0))
 (v8 (z60 (tupI (Y7 (z9 (gv 2) (z9 (gv 3) v6)))) (gN 7)
 (v8 (ifD (K5 (ob (o2 (gv 4) (oA (z9 (gv 0) (z9 (gv 7) v6)) U5) (G8 true))) (ob (o2 (oA (z9 (gv 6) (z9 (gv 7) v6)) U8) (oA (z9 (gv 0) (z9 (gv 7) v6)) U8) M5)))
 (v8 (d8 (gc (.bl false)))
 p6)
 p6)
 p6))
 (v8 (d8 (yl0 (o2 (N5 (gv 6) O3 (someO (gv 4))) (N5 (gv 0) O3 (someO (gv 4))) ym0) (o2 (N5 (gv 6) (someO (o2 (gv 4) (gc (.int 1)) Z3)) O3) (N5 (gv 0) (someO (o2 (gv 4) (gc (.int 1)) Z3)) O3) ym0)))
 p6))))))
def px0:List Str:=["_law_web_here", "_law_number", "_law_k", "_law_copy_at", "_law_j", "_law_some", "_law_fresh", "_law_at"]
def M6:List D->Option D:=mkF 4 px0 u20
def ch0:GS:=(v8 (j4 (gN 1) (oA (z9 (gv 0) (z9 (gc (.int 30)) v6)) R0))
 (v8 (j4 (gN 2) (oA (z9 (gv 0) (z9 (gc (.int 4)) v6)) j6))
 (v8 (j4 (gN 3) (o2 (gv 2) (oA (z9 (gv 1) v6) Z5) d9))
 (v8 (j4 (gN 4) (W3 1 [0,2,3] (G6 (z9 (oA (z9 (gv 1) v6) Z5) v6)) (gN 0) (K5 (ob (o2 (o2 (oA (z9 (oA (z9 (gv 1) (z9 (gc (.int 5)) v6)) j6) (z9 (gv 0) v6)) V3) (o2 (Y0 (z9 (gc (.int 3)) (z9 (gc (.int 8)) v6))) (o2 (o2 (gv 2) (gc (.int 30)) X4) (gc (.int 2)) d9) ixD) d9) (gc (.int 0)) ym0)) (ob (o2 (gv 0) (gv 3) M5))) (gv 0)))
 (v8 (z60 (tupI (Y7 (z9 (Y0 v6) (z9 (gv 4) v6)))) (gN 5)
 (v8 (j4 (gN 6) (oA (z9 (gv 1) (z9 (gv 3) (z9 (gv 5) v6))) z00))
 (v8 (ifD (ob (o2 (gv 6) (gc .non) sb0))
 (v8 (d8 (gc (.bl false)))
 p6)
 p6)
 (v8 (T3 (S6 (gv 6)) (J0 7 8))
 (v8 (z60 (G6 (z9 (gc (.int 6)) v6)) (gN 9)
 (v8 (j4 (gN 10) (oA (z9 (o2 (oA (z9 (gv 0) (z9 (o2 (gc (.int 6)) (o2 (gv 9) (gc (.int 3)) d9) Z3) v6)) j6) (o2 (gv 9) (gv 9) J2) Z3) (z9 (o2 (gv 9) (gc (.int 40)) Z3) v6)) V3))
 (v8 (ifD (wg0 (ob (oA (z9 (gv 7) (z9 (gv 10) (z9 (gv 3) (z9 (gv 8) v6)))) M6)))
 (v8 (d8 (gc (.bl false)))
 p6)
 p6)
 p6)))
 p6)))))
 (v8 (d8 (gc (.bl true)))
 p6))))))
def Wu0:List Str:=["_law_script", "_law_web_here", "_law_turn", "_law_k", "_law_kept", "_law_some", "_law_made_here", "_law_found", "_law_copy_at", "_law_j", "_law_number"]
def t70:List D->Option D:=mkF 1 Wu0 ch0
end Ra
namespace Ra
open DL W K22
open Ta (pa W5 wr0)
open Ua (dr K6 kw0 ti0 zw0 kn0 pg0 j30 idx_map nums kr0 v00 gl0 mq0 sh0 k60)
structure Mt(ps:List Pt)(x:Nat)(r:List Nat):Prop where
 ex:∃c,Dfs (P0 (wd ps)) [] c [] [x] r/\c<=5000
 nd:r.Nodup
 lt:∀y∈r,y<ps.length
 cl:∀i∈r,∀j∈P0 (wd ps) i,j∈r
 hd:∃s,r=x::s
theorem Va0(h:Web ps){x:Nat}(hx:x<ps.length):∃r,Mt ps x r:=by
 obtain⟨c,r,h1,h2,h3,h4,h5,_,h7⟩:=walk h [] hx;exact⟨r,⟨c,h1,h2⟩,h3,λy hy=>(h4 y hy).1,λi hi j hj=>(h5 i hi j hj).resolve_right (by simp),h7 (by simp)⟩
theorem Mt.top{x:Nat}(m:Mt ps x r):x∈r:=by obtain⟨s,rfl⟩:=m.hd;exact A5
theorem Mt.len(h:Web ps){x:Nat}(m:Mt ps x r):r.length<=60:=by
 have:=sub_len m.nd (m:=List.range ps.length) λy hy=>C9.mpr (m.lt y hy)
 rw[List.length_range] at this;exact C2 this h.len.2
theorem Mt.tg(h:Web ps){x:Nat}(m:Mt ps x r)(hi:i∈r)(hj:j∈tgs (pa ps i).vals):j∈r:=m.cl i hi j (by rw[K6 h (m.lt i hi)];exact hj)
theorem qv0{adj:Nat->List Nat}{C:Nat->Prop}(hC:∀i,C i->∀j∈adj i,C j){c:Nat}{o:List Nat}(d:Dfs adj S c o T r):(∀y∈o,C y)->(∀y∈T,C y)->∀y∈r,C y:=by
 induction d with
 | nil o=>intro h1 _;exact h1
 | skip _ _ ih=>intro h1 h2;exact ih h1 λy hy=>h2 y (A7 _ hy)
 | @visit c o T r x _ _ _ _ ih =>
  intro h1 h2;have cx:=h2 x A5;refine ih (λy hy=>?_) λy hy=>?_
  ·rcases B4.mp hy with hy|hy
   ·exact h1 y hy
   ·rw[List.mem_singleton.mp hy];exact cx
  ·rcases B4.mp hy with hy|hy
   ·exact hC x cx y hy
   ·exact h2 y (A7 _ hy)
theorem Mt.least{x:Nat}(m:Mt ps x r){C:Nat->Prop}(hC:∀i,C i->∀j∈P0 (wd ps) i,C j)(hx:C x):∀y∈r,C y:=by
 obtain⟨c,d,_⟩:=m.ex;exact qv0 hC d (λy hy=>by cases hy) λy hy=>by rw[List.mem_singleton.mp hy];exact hx
structure Is(ps qs:List Pt)(r:List Nat)(f:Nat->Nat):Prop where
 img:∀i∈r,f i<qs.length/\pa qs (f i)=rel f (pa ps i)
 inj:∀a∈r,∀b∈r,f a=f b->a=b
theorem m90{x:Nat}{f:Nat->Nat}(hp:Web ps)(hq:Web qs)(m:Mt ps x r)(I:Is ps qs r f):Mt qs (f x) (r.map f)/\dr qs (r.map f)=dr ps r:=by
 have adj:∀i∈r,P0 (wd qs) (f i)=(P0 (wd ps) i).map f:=λi hi=>by
  rw[K6 hq (I.img i hi).1,K6 hp (m.lt i hi),(I.img i hi).2,zw0];exact ti0 f (W5 hp (m.lt i hi)).2.lv
 refine⟨⟨?_,j30 I.inj m.nd,λy hy=>?_,λy hy j hj=>?_,?_⟩,?_⟩
 ·obtain⟨c,h1,h2⟩:=m.ex
  refine⟨c,?_,h2⟩;exact kw0 (adj':=P0 (wd qs)) f h1 I.inj adj
 ·obtain⟨i,hi,rfl⟩:=B0.mp hy
  exact(I.img i hi).1
 ·obtain⟨i,hi,rfl⟩:=B0.mp hy
  rw[adj i hi] at hj;obtain⟨k,hk,rfl⟩:=B0.mp hj;exact u4 (m.cl i hi k hk)
 ·obtain⟨s,rfl⟩:=m.hd
  exact⟨s.map f,by rw[List.map_cons]⟩
 ·unfold dr
  rw[List.map_map];refine P4 λi hi=>?_
  show rel _ (pa qs (f i))=_;rw[(I.img i hi).2,kn0 (W5 hp (m.lt i hi)).2];refine pg0 (W5 hp (m.lt i hi)).2 λj hj=>?_
  have F:j∈r:=m.cl i hi j (by rw[K6 hp (m.lt i hi)];exact hj);exact idx_map f r j F λa ha e=>I.inj a ha j F e
theorem ms0(p:Pt):Pn.put p p.vals=p:=by
 have key:∀qs:List (Str×D),(qs.map (·.1)).zip (qs.map (·.2))=qs:=λqs=>by
  induction qs with
  | nil=>rfl
  | cons q qs ih=>rw[List.map_cons,List.map_cons,List.zip_cons_cons,ih]
 cases p with
 | text w=>rfl
 | row us=>rfl
 | table qs=>show Pt.table ((qs.map (·.1)).zip (qs.map (·.2)))=_;rw[key]
 | rcd c qs=>show Pt.rcd c ((qs.map (·.1)).zip (qs.map (·.2)))=_;rw[key]
theorem ds0{x:Nat}(hp:Web ps)(m:Mt ps x r)(h:∀i∈r,i<qs.length/\pa qs i=pa ps i):Is ps qs r λi=>i:=⟨λi hi=>⟨(h i hi).1,by
 rw[(h i hi).2];have pw:=(W5 hp (m.lt i hi)).2;generalize pa ps i=p at pw;unfold rel;rw[show p.vals.map (lkv λi=>i)=p.vals from by
  refine(P4 λv hv=>Ua.fo0 v (pw.lv v hv)).trans (List.map_id _)]
 exact(ms0 p).symm⟩,λa _ b _ e=>e⟩
theorem xo0(h:Web ps){x:Nat}(m:Mt ps x r):O6 [wd ps,.int (x:Int),.dct (.inl []) []]=some (.lst (nd r)):=by
 obtain⟨c,h1,h2⟩:=m.ex;exact K22.xo0 h [] (by decide) (m.lt x m.top) h1 h2
theorem Yt0(h:Web ps){x:Nat}(m:Mt ps x r):vm0 [wd ps,.int (x:Int)]=some (.lst (nd r)) :=
 R8 rfl (S7 (G9 (by rw[o6 (ds:=[wd ps,.int (x:Int),.dct (.inl []) []]) rfl];exact xo0 h m)))
theorem eh0(h:Web ps)(lt:∀y∈r,y<ps.length){mf:List D->Option D}(hm:∀i∈r,mf [(pa ps i).d,nums r r.length]=some (rel (λj=>r.idxOf j) (pa ps i)).d) :
  V2 (gN 0) noT (oA (z9 (o2 (gv 1) (gv 0) ixD) (z9 (gv 2) v6)) mf) [.un,.sh (wd ps),.sh (nums r r.length)] (nd r)=some ((dr ps r).map Pt.d):=by
 rw[O5 (λd=>match d with|.int i=>(rel (λj=>r.idxOf j) (pa ps i.toNat)).d|_=>.non) (λd hd=>by
  obtain⟨i,hi,rfl⟩:=B0.mp hd;refine⟨[.sh (.int (i:Int)),.sh (wd ps),.sh (nums r r.length)],rfl,rfl,?_⟩;rw[o6 (ds:=[(pa ps i).d,nums r r.length]) (cons_of (by rw[p7 (x:=wd ps) (y:=.int (i:Int)) rfl rfl];exact(W5 h (lt i hi)).1) rfl),hm i hi];rfl)]
 unfold nd dr;rw[List.map_map,List.map_map];rfl
theorem zy0(h:Web ps){x:Nat}(m:Mt ps x r):U8 [wd ps,.int (x:Int)]=some (wd (dr ps r)):=by
 have zs:(2000:Nat)<=sizeLine:=by decide
 have J:=m.len h;obtain⟨δ',l1,s4,s5,rfl⟩:=zc0 (f:=J0 4 5) (G:=Ua.NB) (λi δ=>∃s4 s5:Sl,δ=[.sh (wd ps),.sh (.int (x:Int)),.sh (.lst (nd r)),.ow (nums r i),s4,s5]) (G7 (nd r)) 0 [.sh (wd ps),.sh (.int (x:Int)),.sh (.lst (nd r)),.ow (nums r 0),.un,.un] (by
  rintro j d δ hj ⟨s4,s5,rfl⟩;rw[Nat.zero_add];obtain⟨F,rfl⟩:=mq0 hj;obtain⟨e1,e2⟩:=kr0 m.nd F;refine⟨[.sh (wd ps),.sh (.int (x:Int)),.sh (.lst (nd r)),.ow (nums r j),.sh (.int (j:Int)),.sh (.int (r[j]:Int))],_,rfl,u5 (gl0 (ks:=kd (r.take j)) (vs:=nd (List.range' 0 j)) (k:=r[j]) (v:=.int (j:Int)) rfl rfl rfl (by unfold kd;rw[List.length_map,List.length_take];omega)) rfl,.sh (.int (j:Int)),.sh (.int (r[j]:Int)),?_⟩;rw[e1,e2];rfl) ⟨.un,.un,rfl⟩
 rw[Nat.zero_add,sh0] at l1;refine Z2 rfl (u5 (j8 (d:=.lst (nd r)) (ke0 ?_ (mn0 r))) (u5 (δ':=[.sh (wd ps),.sh (.int (x:Int)),.sh (.lst (nd r)),.ow (nums r 0),.un,.un]) rfl (u5 (zd0 (items:=G7 (nd r)) ?_ l1) (m9 (X8 ?_)))))
 ·show oA (z9 (gv 0) (z9 (gv 1) v6)) vm0 [.sh (wd ps),.sh (.int (x:Int)),.un,.un,.un,.un]=_
  rw[o6 (ds:=[wd ps,.int (x:Int)]) rfl];exact Yt0 h m
 ·exact k60 _ r rfl
 ·show oA _ J6 [.sh (wd ps),.sh (.int (x:Int)),.sh (.lst (nd r)),.sh (nums r r.length),G3 s4,G3 s5]=_
  rw[o6 (ds:=[.lst ((dr ps r).map Pt.d)]) (cons_of (U0 (items:=nd r) rfl (by rw[V7];omega) (eh0 h m.lt λi hi=>K22.tv0 (W5 h (m.lt i hi)).2 _ _ λj hj=>v00 (m.tg h hi hj))) rfl)];rfl
def LW:DL.GB:=(ob (o2 (zz0 (oA (z9 (gv 3) v6) Z5)) (gc (.int 0)) gtD))
def LV:GS:=(v8 (T3 (ws0 3) (gN 4))
 (v8 (ifD (xz0 (ob (o2 (gv 4) (gv 2) (G8 true))))
 (v8 (X7 (O2 2 (gv 4)))
 (v8 (X7 (xl0 3 (W3 1 [] (zp0 (oA (z9 (o2 (gv 0) (gv 4) ixD) v6) Z7)) (gN 0) (ob (zf0 isTup (gv 0))) (o2 (gv 0) (gc (.int 1)) ixD))))
 p6))
 p6)
 p6))
def lw(W:D)(K:Sl)(o T:List Nat)(s:Sl):Ds:=[.sh W,K,.ow (.lst (nd o)),.ow (.lst (nd T)),s]
theorem wy0(o:List Nat)(x:Nat):(nd o).all flat=true/\((nd o).any λy=>eqF y (.int (x:Int)))=decide (x∈o):=by
 constructor
 ·rw[List.all_eq_true]
  intro y hy;obtain⟨i,_,rfl⟩:=B0.mp hy;rfl
 ·rw[Bool.eq_iff_iff,List.any_eq_true,decide_eq_true_iff]
  constructor
  ·rintro⟨y,hy,e⟩
   obtain⟨i,hi,rfl⟩:=B0.mp hy;have:(i:Int)=(x:Int):=by simpa [eqF] using e
   have:i=x:=by omega
   exact this▸hi
  ·intro h
   exact⟨_,B0.mpr ⟨x,h,rfl⟩,by simp[eqF]⟩
def vt0(ps:List Pt)(i:Nat):List Nat:=(P0 (wd ps) i).reverse
theorem Ym0(h:Web ps)(K:Sl){c:Nat}{o:List Nat}(d:Dfs (vt0 ps) [] c o T r):(∀x∈T,x<ps.length)->o.length+T.length<=10001->∀(f:Nat) (s:Sl),c<f->∃s',W9 LW LV f (lw (wd ps) K o T.reverse s)=some (.nx (lw (wd ps) K r [] s')):=by
 have zs:(20000:Nat)<=sizeLine:=by decide
 have lt:∀(o T:List Nat) (s:Sl),LW (lw (wd ps) K o T s)=some (decide (0<T.length)):=λo T s=>by
  unfold LW ob;rw[p7 (x:=.int (T.length:Int)) (y:=.int 0) (by
   show some (D.int ((nd T).length:Int))=_;rw[V7]) rfl]
  show some (decide ((0:Int)<(T.length:Int)))=_;congr 1;rw[decide_eq_decide];omega
 have pop:∀(o T:List Nat) (x:Nat) (s:Sl),T3 (ws0 3) (gN 4) (lw (wd ps) K o (T++[x]) s)=some (.nx (lw (wd ps) K o T (.sh (.int (x:Int))))):=λo T x s=>by
  unfold T3 ws0;rw[show owL 3 (lw (wd ps) K o (T++[x]) s)=some (nd (T++[x])) from rfl,Option.bind_some,zr0,show nd [x]=[D.int (x:Int)] from rfl];rw[List.getLast?_concat,List.dropLast_concat];rfl
 have J:∀(o T:List Nat) (x:Nat),xz0 (ob (o2 (gv 4) (gv 2) (G8 true))) (lw (wd ps) K o T (.sh (.int (x:Int))))=some (decide (x∉o)):=λo T x=>by
  show ob (o2 (gv 4) (gv 2) (G8 true)) [.sh (wd ps),G3 K,.sh (.lst (nd o)),.sh (.lst (nd T)),.sh (.int (x:Int))]=_;refine Bw.T4 ?_;rw[p7 (x:=.int (x:Int)) (y:=.lst (nd o)) rfl rfl];show (if flat (.int (x:Int))=true/\(nd o).all flat=true then some (D.bl (xor true ((nd o).any λy=>eqF y (.int (x:Int))))) else none)=_;rw[if_pos ⟨rfl,(wy0 o x).1⟩,(wy0 o x).2]
  by_cases hx:x∈o<;>simp[hx]
 induction d with
 | nil o =>
  intro _ _ f s hf;obtain⟨f,rfl⟩:∃g,f=g+1:=⟨f - 1,by omega⟩;refine⟨s,?_⟩;unfold W9;rw[lt];rfl
 | @skip c o T r x hx hd ih =>
  intro hT hl f s hf;obtain⟨f,rfl⟩:∃g,f=g+1:=⟨f - 1,by omega⟩;rw[List.length_cons] at hl;obtain⟨s',e⟩:=ih (λy hy=>hT y (A7 _ hy)) (by omega) f (.sh (.int (x:Int))) (by omega);refine⟨s',?_⟩;unfold W9;rw[lt,List.reverse_cons,decide_eq_true (by simp)];dsimp only;rw[show LV (lw (wd ps) K o (T.reverse++[x]) s)=some (.nx (lw (wd ps) K o T.reverse (.sh (.int (x:Int))))) from u5 (pop _ _ _ _) (u5 (δ':=lw (wd ps) K o T.reverse (.sh (.int (x:Int)))) (by
   rw[Z6 (by rw[J,decide_eq_false (λz=>z (hx.resolve_right (by simp)))])];rfl) rfl)]
  exact e
 | @visit c o T r x hx hS hz hd ih =>
  intro hT hl f s hf;obtain⟨f,rfl⟩:∃g,f=g+1:=⟨f - 1,by omega⟩;rw[List.length_cons] at hl;have F:=hT x A5;obtain⟨a1,a2⟩:=W5 h F;have ra:vt0 ps x=(tgs (pa ps x).vals).reverse:=by unfold vt0;rw[K6 h F]
  rw[List.length_append] at hz;obtain⟨s',e⟩:=ih (λy hy=>by
   rcases B4.mp hy with hy|hy
   ·rw[ra,List.mem_reverse] at hy
    exact v60 a2.lv y hy
   ·exact hT y (A7 _ hy)) (by rw[List.length_append,List.length_append,List.length_singleton];omega) f (.sh (.int (x:Int))) (by omega)
  refine⟨s',?_⟩;unfold W9;rw[lt,List.reverse_cons,decide_eq_true (by simp)];dsimp only;have L:(tgs (pa ps x).vals).length=(vt0 ps x).length:=by rw[ra,List.length_reverse]
  rw[show LV (lw (wd ps) K o (T.reverse++[x]) s)=some (.nx (lw (wd ps) K (o++[x]) (vt0 ps x++T).reverse (.sh (.int (x:Int))))) from u5 (pop _ _ _ _) (u5 (δ':=lw (wd ps) K (o++[x]) (vt0 ps x++T).reverse (.sh (.int (x:Int)))) (by
   rw[N6 (by rw[J,decide_eq_true hx])];refine u5 (δ':=lw (wd ps) K (o++[x]) T.reverse (.sh (.int (x:Int)))) ?_ (u5 (δ':=lw (wd ps) K (o++[x]) (vt0 ps x++T).reverse (.sh (.int (x:Int)))) ?_ rfl)
   ·unfold X7 O2
    show Option.map (λq:D×Ds=>Res.nx q.2) (if (nd o).length<sizeLine then some (D.non,([.sh (wd ps),K,.ow (.lst (nd o++[.int (x:Int)])),.ow (.lst (nd T.reverse)),.sh (.int (x:Int))]:Ds)) else none)=_;rw[if_pos (by rw[V7];omega)];unfold lw;rw[zr0];rfl
   ·have ec:W3 1 [] (zp0 (oA (z9 (o2 (gv 0) (gv 4) ixD) v6) Z7)) (gN 0) (ob (zf0 isTup (gv 0))) (o2 (gv 0) (gc (.int 1)) ixD) (lw (wd ps) K (o++[x]) T.reverse (.sh (.int (x:Int))))=some (.lst (nd (tgs (pa ps x).vals))):=by
     have O:=a2.few;refine U0 (items:=(pa ps x).vals) ?_ (by omega) (ut0 _ a2.lv);show (oA (z9 (o2 (gv 0) (gv 4) ixD) v6) Z7 _).bind sv0=_;rw[o6 (ds:=[(pa ps x).d]) (cons_of (by rw[p7 (x:=wd ps) (y:=.int (x:Int)) rfl rfl];exact a1) rfl),show Z7 [(pa ps x).d]=some (.lst (pa ps x).vals) from Gw.xt0 _ a2.f];rfl
    unfold X7 xl0;rw[ec,show owL 3 (lw (wd ps) K (o++[x]) T.reverse (.sh (.int (x:Int))))=some (nd T.reverse) from rfl,Option.bind_some,Option.bind_some];show Option.map (λq:D×Ds=>Res.nx q.2) (if (nd T.reverse).length+(nd (tgs (pa ps x).vals)).length<=sizeLine then some (D.non,([.sh (wd ps),K,.ow (.lst (nd (o++[x]))),.ow (.lst (nd T.reverse++nd (tgs (pa ps x).vals))),.sh (.int (x:Int))]:Ds)) else none)=_;rw[if_pos (by rw[V7,V7,List.length_reverse];omega),← zr0,ra,List.reverse_append,List.reverse_reverse];rfl) rfl)]
  exact e
structure Lm(ps:List Pt)(x:Nat)(r:List Nat):Prop where
 top:x∈r
 cl:∀i∈r,∀j∈P0 (wd ps) i,j∈r
 least:∀C:Nat->Prop,(∀i,C i->∀j∈P0 (wd ps) i,C j)->C x->∀y∈r,C y
 lt:∀y∈r,y<ps.length
 few:r.length<=60
theorem q20(h:Web ps){x:Nat}(hx:x<ps.length):∃r,U5 [wd ps,.int (x:Int)]=some (.lst (nd r))/\Lm ps x r:=by
 obtain⟨c,r,h1,h2,h3,h4,_⟩:=fq0 (vt0 ps) [] ps.length h.len.2 (λi hi=>by
  unfold vt0;rw[List.length_reverse,h.adj hi];obtain⟨_,_,q⟩:=h.at hi;exact⟨C2 (q40 _) q.few,λj hj=>v60 q.lv j (L8.mp hj)⟩) 1000 [] [x] (by have:=h.len.2;simp only[List.length_cons,List.length_nil];omega) (by decide) R1 (λy hy=>by cases hy) (λy hy=>by rw[List.mem_singleton.mp hy];exact hx)
 obtain⟨_,f2⟩:=uc0 h1 λi hi=>by cases hi
 obtain⟨s',e⟩:=Ym0 h (.sh (.int (x:Int))) h1 (λy hy=>by rw[List.mem_singleton.mp hy];exact hx) (by simp) 100000 .un (by omega);have top:x∈r:=by
  cases h1 with
  | skip q _=>exact absurd (q.resolve_left (by simp)) (by simp)
  | visit _ _ _ hd =>
   obtain⟨s,e⟩:=Ua.kb0 hd;rw[e];simp
 refine⟨r,R8 rfl (u5 (δ':=[.sh (wd ps),.sh (.int (x:Int)),.ow (.lst []),.un,.un]) rfl (u5 (δ':=lw (wd ps) (.sh (.int (x:Int))) [] [x] .un) rfl (u5 e (S7 rfl)))),top,λi hi j hj=>(f2 i hi j (L8.mpr hj)).resolve_right (by simp),λC hC F=>qv0 (λi ci j hj=>hC i ci j (L8.mp hj)) h1 (λy hy=>by cases hy) λy hy=>by rw[List.mem_singleton.mp hy];exact F,λy hy=>(h4 y hy).1,?_⟩;have:=sub_len h3 (m:=List.range ps.length) λy hy=>C9.mpr (h4 y hy).1
 rw[List.length_range] at this;exact C2 this h.len.2
end Ra
namespace Ra
open DL W K22
open Ta (pa W5 wr0)
theorem ii0(h:Web ps){K:D}(hK:Kp K S)(hS:S.length<=200){x:Nat}(hx:x<ps.length){c:Nat}(hd:Dfs (P0 (wd ps)) S c [] [x] r)(hc:c<=5000)(hn:r.Nodup)(hr:∀y∈r,y<ps.length/\y∉S)(hcl:∀i∈r,∀j∈P0 (wd ps) i,j∈r∨j∈S)(hx':x∈r∨x∈S)(hbig:¬60<ps.length+r.length) :
  y20 [wd ps,.int (x:Int),K]=some (.tup [wd (nw ps r),.int (fN ps.length r x:Int)]):=by
 have zs:(2000:Nat)<=sizeLine:=by decide
 have a0:r.length<=60:=by
  have:=sub_len hn (m:=List.range ps.length) λy hy=>C9.mpr (hr y hy).1
  rw[List.length_range] at this;have:=h.len.2;omega
 have Z:=h.len.2;have Y:=k90 S;have s1:oA (z9 (W3 1 [] (zp0 (ifG (ob (o2 (gv 2) (gc .non) sb0)) (Y0 v6) (gv 2))) (gN 0) noT (Y7 (z9 (gv 0) (z9 (gv 0) v6)))) v6) vb0 [.sh (wd ps),.sh (.int (x:Int)),.sh K,.un,.un,.un,.un]=some (.dct (.inl (kd (ded S))) (nd (ded S))):=by
  rw[o6 (ds:=[.lst (pn S)]) (cons_of (U0 (items:=nd S) (by
   rcases hK with rfl|⟨rfl,rfl⟩
   ·rfl
   ·rfl) (by rw[V7];omega) (be0 S)) rfl)]
  exact Xf0 S (by omega)
 have s2:sa0 (oA (z9 (gv 0) (z9 (gv 1) (z9 (gv 3) v6))) O6) [.sh (wd ps),.sh (.int (x:Int)),.sh K,.ow (.dct (.inl (kd (ded S))) (nd (ded S))),.un,.un,.un]=some (.lst (nd r)):=by
  refine ke0 ?_ (ax0 r);show oA (z9 (gv 0) (z9 (gv 1) (z9 (gv 3) v6))) O6 [.sh (wd ps),.sh (.int (x:Int)),.sh K,.sh (.dct (.inl (kd (ded S))) (nd (ded S))),.un,.un,.un]=_;rw[o6 (ds:=[wd ps,.int (x:Int),.dct (.inl (kd (ded S))) (nd (ded S))]) rfl];exact K22.xo0 h S (by omega) hx hd hc
 have s3:ob (o2 (o2 (oA (z9 (gv 0) v6) Z5) (oA (z9 (gv 4) v6) Z5) Z3) (gc (.int 60)) gtD) [.sh (wd ps),.sh (.int (x:Int)),.sh K,.ow (.dct (.inl (kd (ded S))) (nd (ded S))),.sh (.lst (nd r)),.un,.un]=some (decide (60<ps.length+r.length)):=by
  refine Bw.T4 ?_;show some (D.bl (decide ((60:Int)<(((ps.map Pt.d).length:Nat):Int)+(((nd r).length:Nat):Int))))=_;rw[List.length_map,V7];congr 2;exact decide_eq_decide.mpr (by omega)
 rw[decide_eq_false hbig] at s3;obtain⟨δ',l1,l2⟩:=zc0 (f:=J0 5 6) (G:=K22.CB) (λi δ=>∃s5 s6:Sl,δ=[.sh (wd ps),.sh (.int (x:Int)),.sh K,.ow (.dct (.inl (kd (ded S++r.take i))) (nd (ded S)++nd (List.range' ps.length i))),.sh (.lst (nd r)),s5,s6]) (yf0 ps.length (nd r)) 0 [.sh (wd ps),.sh (.int (x:Int)),.sh K,.ow (.dct (.inl (kd (ded S))) (nd (ded S))),.sh (.lst (nd r)),.un,.un] (by
  rintro j d δ hj ⟨s5,s6,rfl⟩;unfold yf0 at hj;have F:j<r.length:=by
   have:=(E1.mp hj).1
   rwa [List.length_map,x9,V7] at this
  rw[List.getElem?_map,List.getElem?_range (by rw[V7];exact F)] at hj;have ed:d=.tup [.int ((ps.length+j:Nat):Int),.int (r[j]:Int)]:=by
   have:(nd r).getD j .non=.int (r[j]:Int):=by unfold nd;simp[F]
   rw[← this];exact(B3 hj).symm
  subst ed;have L:r[j]∉ded S++r.take j:=λz=>by
   rcases B4.mp z with z|z
   ·exact(hr _ (E8 F)).2 ((t40 S _).mp z)
   ·have q:(r.take j++r.drop j).Nodup:=by rw[List.take_append_drop];exact hn
    exact(x0.mp q).2.2 _ z _ (by rw[List.drop_eq_getElem_cons F];exact A5) rfl
  have hk:T5 (kd (ded S++r.take j)) (.inl (r[j]:Int))=false:=by rw[vf0,decide_eq_false L]
  have tk:r.take (j+1)=r.take j++[r[j]]:=by rw[List.take_succ,List.getElem?_eq_getElem F];rfl
  have e1:V6 (kd (ded S++r.take j)) (.inl (r[j]:Int))=kd (ded S++r.take (j+1)):=by
   unfold V6;rw[hk,if_neg (by simp),tk,← List.append_assoc,rj0 (ded S++r.take j)];rfl
  have e2:W7 (kd (ded S++r.take j)) (nd (ded S)++nd (List.range' ps.length j)) (.inl (r[j]:Int)) (.int ((ps.length+j:Nat):Int))=nd (ded S)++nd (List.range' ps.length (j+1)):=by
   unfold W7;rw[hk,if_neg (by simp),List.range'_concat,zr0,List.append_assoc,Nat.one_mul];rfl
  rw[Nat.zero_add];refine⟨[.sh (wd ps),.sh (.int (x:Int)),.sh K,.ow (.dct (.inl (kd (ded S++r.take j))) (nd (ded S)++nd (List.range' ps.length j))),.sh (.lst (nd r)),.sh (.int ((ps.length+j:Nat):Int)),.sh (.int (r[j]:Int))],_,rfl,u5 (δ':=[.sh (wd ps),.sh (.int (x:Int)),.sh K,.ow (.dct (.inl (kd (ded S++r.take (j+1)))) (nd (ded S)++nd (List.range' ps.length (j+1)))),.sh (.lst (nd r)),.sh (.int ((ps.length+j:Nat):Int)),.sh (.int (r[j]:Int))]) ?_ rfl,_,_,rfl⟩;unfold T3 S6;show ((if (kd (ded S++r.take j)).length<sizeLine then some ([.sh (wd ps),.sh (.int (x:Int)),.sh K,Sl.ow (.dct (.inl (V6 (kd (ded S++r.take j)) (.inl (r[j]:Int)))) (W7 (kd (ded S++r.take j)) (nd (ded S)++nd (List.range' ps.length j)) (.inl (r[j]:Int)) (.int ((ps.length+j:Nat):Int)))),.sh (.lst (nd r)),.sh (.int ((ps.length+j:Nat):Int)),.sh (.int (r[j]:Int))]) else none).map Res.nx)=_;rw[if_pos (by unfold kd;rw[List.length_map,List.length_append,List.length_take];omega),e1,e2];rfl) ⟨_,_,by
   rw[List.take_zero,List.append_nil];show _=([.sh (wd ps),.sh (.int (x:Int)),.sh K,.ow (.dct (.inl (kd (ded S))) (nd (ded S)++[])),.sh (.lst (nd r)),_,_]:Ds);rw[List.append_nil]⟩
 obtain⟨s5,s6,rfl⟩:=l2;have O:(yf0 ps.length (nd r)).length=r.length:=by unfold yf0;rw[List.length_map,List.length_range,V7]
 rw[Nat.zero_add,O,List.take_length] at l1;refine Z2 rfl (u5 (show _=some (Res.nx [.sh (wd ps),.sh (.int (x:Int)),.sh K,.ow (.dct (.inl (kd (ded S))) (nd (ded S))),.un,.un,.un]) from ?_) (u5 (j8 s2) (u5 (δ':=[.sh (wd ps),.sh (.int (x:Int)),.sh K,.ow (.dct (.inl (kd (ded S))) (nd (ded S))),.sh (.lst (nd r)),.un,.un]) ?_ (u5 (zd0 (items:=yf0 ps.length (nd r)) ?_ l1) (m9 (X8 ?_))))))
 ·unfold O1;erw[s1];rfl
 ·change ifD _ _ _ [.sh (wd ps),.sh (.int (x:Int)),.sh K,.ow (.dct (.inl (kd (ded S))) (nd (ded S))),.sh (.lst (nd r)),.un,.un]=_
  rw[Z6 s3];rfl
 ·unfold sp0
  rw[show z9 (gv 4) v6 [.sh (wd ps),.sh (.int (x:Int)),.sh K,.ow (.dct (.inl (kd (ded S))) (nd (ded S))),.sh (.lst (nd r)),.un,.un]=some [.lst (nd r)] from rfl,Option.bind_some,show oA (z9 (gv 0) v6) Z5 [.sh (wd ps),.sh (.int (x:Int)),.sh K,.ow (.dct (.inl (kd (ded S))) (nd (ded S))),.sh (.lst (nd r)),.un,.un]=some (.int (ps.length:Int)) from by
   show some (D.int (((ps.map Pt.d).length:Nat):Int))=_;rw[List.length_map],Option.bind_some]
  simp only[];rw[if_pos ⟨by omega,by omega⟩,Int.toNat_natCast]
 ·show Y7 _ [.sh (wd ps),.sh (.int (x:Int)),.sh K,.sh (.dct (.inl (kd (ded S++r))) (nd (ded S)++nd (List.range' ps.length r.length))),.sh (.lst (nd r)),G3 s5,G3 s6]=_
  refine U7 (cons_of ?_ (cons_of ?_ rfl)) (by show 2<=sizeLine;decide)
  ·rw[p7 (x:=wd ps) (y:=.tup ((r.map λi=>rel (fN ps.length r) (ps.getD i (.text ""))).map Pt.d)) rfl (by
    rw[o6 (ds:=[.lst ((r.map λi=>rel (fN ps.length r) (ps.getD i (.text ""))).map Pt.d)]) (cons_of (U0 (items:=nd r) rfl (by rw[V7];omega) (by
     have q:=O5 (f:=gN 0) (gt:=noT) (ge:=(oA (z9 (o2 (gv 1) (gv 0) ixD) (z9 (gv 2) v6)) R4)) (δ:=[.un,.sh (wd ps),.sh (.dct (.inl (kd (ded S++r))) (nd (ded S)++nd (List.range' ps.length r.length)))]) (λd=>match d with|.int i=>(rel (fN ps.length r) (ps.getD i.toNat (.text ""))).d|_=>.non) (items:=nd r) λd hd=>by
      obtain⟨i,hi,rfl⟩:=B0.mp hd;obtain⟨J,_⟩:=hr i hi;obtain⟨e1,_,q⟩:=h.at J;refine⟨[.sh (.int (i:Int)),.sh (wd ps),.sh (.dct (.inl (kd (ded S++r))) (nd (ded S)++nd (List.range' ps.length r.length)))],rfl,rfl,?_⟩;rw[o6 (ds:=[ps[i].d,.dct (.inl (kd (ded S++r))) (nd (ded S)++nd (List.range' ps.length r.length))]) (cons_of (by rw[p7 (x:=wd ps) (y:=.int (i:Int)) rfl rfl];exact e1) rfl)];rw[show R4=Ra.R4 from rfl,K22.tv0 q (fN ps.length r) _ λj hj=>K22.v00 (λy hy=>(hr y hy).2) (hcl i hi j (by rw[h.adj J];exact hj))];simp[J]
     refine q.trans ?_;unfold nd;rw[List.map_map,List.map_map];rfl)) rfl)]
    rfl)]
   show (if (ps.map Pt.d).length+((r.map λi=>rel (fN ps.length r) (ps.getD i (.text ""))).map Pt.d).length<=sizeLine then some (D.tup (ps.map Pt.d++(r.map λi=>rel (fN ps.length r) (ps.getD i (.text ""))).map Pt.d)) else none)=_;rw[if_pos (by rw[List.length_map,List.length_map,List.length_map];omega),← List.map_append];rfl
  ·rw[p7 (x:=.dct (.inl (kd (ded S++r))) (nd (ded S)++nd (List.range' ps.length r.length))) (y:=.int (x:Int)) rfl rfl]
   exact K22.v00 (λy hy=>(hr y hy).2) hx'
end Ra
namespace Ra
open DL W K22
open Ta (pa W5 wr0 gl gl1 nl tc0)
open La (zp Rch okp v90 rm0)
open Ua (K6 zw0 gv0 yc0)
theorem uy0(hi:i<ps.length):pa (nw ps r) i=pa ps i:=by
 unfold pa nw;rw[List.getD_eq_getElem?_getD,List.getElem?_append_left hi,List.getD_eq_getElem?_getD]
theorem oj0(h:i∈r):fN ps.length r i=ps.length+r.idxOf i:=by unfold fN;rw[if_pos h]
theorem gt0(h:i∉r):fN ps.length r i=i:=by unfold fN;rw[if_neg h]
theorem xa0:(nw ps r).length=ps.length+r.length:=by unfold nw;rw[List.length_append,List.length_map]
theorem l70(hr:∀y∈r,y<ps.length)(h:i∈r):pa (nw ps r) (fN ps.length r i)=rel (fN ps.length r) (pa ps i):=by
 have h1:r.idxOf i<r.length:=U2 h;rw[oj0 h];unfold pa nw;rw[List.getD_eq_getElem?_getD,List.getElem?_append_right (by omega),show ps.length+r.idxOf i - ps.length=r.idxOf i by omega,List.getElem?_map,List.getElem?_eq_getElem h1,List.getElem_idxOf h1];show rel _ (ps.getD i (.text ""))=rel _ (ps.getD i (.row []));have:=hr i h;rw[List.getD_eq_getElem?_getD,List.getD_eq_getElem?_getD,List.getElem?_eq_getElem this];rfl
theorem X00(hr:∀y∈r,y<ps.length){a b:Nat}(ha:a∈r)(hb:b∈r)(e:fN ps.length r a=fN ps.length r b):a=b:=by
 rw[oj0 ha,oj0 hb] at e;have e:r.idxOf a=r.idxOf b:=by omega
 have h1:r.idxOf a<r.length:=U2 ha;have h2:r.idxOf b<r.length:=U2 hb;rw[← List.getElem_idxOf h1,← List.getElem_idxOf h2];congr 1
def Rp2(ps:List Pt)(r:List Nat)(x:Nat×Nat):Prop:=∃i,i<ps.length/\(x=(i,fN ps.length r i)∨x=(i,i))
theorem uk0{f:D->D}:∀{vs:List D} {v:D×D},v∈vs.zip (vs.map f)->v.1∈vs/\v.2=f v.1
 | [],_,h=>by cases h
 | a::vs,v,h=>by
  rw[List.map_cons,List.zip_cons_cons] at h;rcases B2.mp h with rfl|h
  ·exact⟨A5,rfl⟩
  ·obtain⟨h1,h2⟩:=uk0 h
   exact⟨A7 _ h1,h2⟩
theorem gs0(h:Web ps)(hr:∀y∈r,y<ps.length){x:Nat×Nat}(hx:Rp2 ps r x):okp (nw ps r) (nw ps r) x/\∀y∈gl (zp (nw ps r) (nw ps r) x),Rp2 ps r y:=by
 have two:∀(i:Nat) (f:Nat->Nat) (y2:Nat),i<ps.length->(∀j,f j=fN ps.length r j∨f j=j)->pa (nw ps r) y2=rel f (pa ps i)->okp (nw ps r) (nw ps r) (i,y2)/\∀y∈gl (zp (nw ps r) (nw ps r) (i,y2)),Rp2 ps r y:=λi f y2 hi hf F=>by
  have pw:=(W5 h hi).2;have ez:zp (nw ps r) (nw ps r) (i,y2)=(pa ps i).vals.zip ((pa ps i).vals.map (lkv f)):=by
   unfold zp;rw[uy0 hi,F,zw0]
  refine⟨⟨?_,λv hv=>?_⟩,λy hy=>?_⟩
  ·show Pn.hd (pa (nw ps r) i)=Pn.hd (pa (nw ps r) y2)
   rw[uy0 hi,F,gv0]
  ·rw[ez] at hv
   obtain⟨h1,h2⟩:=uk0 hv;rcases pw.lv _ h1 with e|⟨z,e⟩|⟨j,e,_⟩
   ·exact .inr (by rw[h2,e];rfl)
   ·exact .inr (by rw[h2,e];rfl)
   ·exact .inl ⟨by rw[e];rfl,by rw[h2,e,yc0];rfl⟩
  ·rw[ez] at hy
   obtain⟨v,hv,e1⟩:=L4.mp hy;obtain⟨h1,h2⟩:=uk0 hv;obtain⟨v1,v2⟩:=v;dsimp only at h1 h2;rcases pw.lv _ h1 with e|⟨z,e⟩|⟨j,e,hj⟩
   ·rw[h2,e] at e1;cases e1
   ·rw[h2,e] at e1;cases e1
   ·rw[h2,e,yc0] at e1
    have e1:some ((j:Int).toNat,(f j:Int).toNat)=some y:=e1;rw[Int.toNat_natCast,Int.toNat_natCast] at e1;cases e1;refine⟨j,hj,?_⟩;rcases hf j with e|e
    ·exact .inl (by rw[e])
    ·exact .inr (by rw[e])
 have self:∀i,i<ps.length->pa (nw ps r) i=rel (λj=>j) (pa ps i):=λi hi=>by
  rw[uy0 hi];have pw:=(W5 h hi).2;generalize pa ps i=p at pw;unfold rel;rw[show p.vals.map (lkv λi=>i)=p.vals from (P4 λv hv=>Ua.fo0 v (pw.lv v hv)).trans (List.map_id _)];exact(ms0 p).symm
 obtain⟨i,hi,rfl|rfl⟩:=hx
 ·by_cases hir:i∈r
  ·exact two i (fN ps.length r) _ hi (λj=>.inl rfl) (l70 hr hir)
  ·rw[gt0 hir]
   exact two i (λj=>j) i hi (λj=>.inr rfl) (self i hi)
 ·exact two i (λj=>j) i hi (λj=>.inr rfl) (self i hi)
theorem bt0(h:Web ps)(hr:∀y∈r,y<ps.length)(hl:ps.length+r.length<=60){x:Nat}(hx:x∈r):∃ds,O9 [wd (nw ps r),.int (x:Int),.int (fN ps.length r x:Int)]=some (.lst ds):=by
 have hw:=nj0 h hr hl;have F:=hr x hx;have h1:x<(nw ps r).length:=by rw[xa0];omega
 have h2:fN ps.length r x<(nw ps r).length:=by rw[xa0];exact ri0 F
 rcases La.em0 hw h1 h2 with⟨⟨y,hy,hb⟩,_⟩|⟨A,_,e,_⟩
 ·exfalso
  refine hb (gs0 h hr ?_).1;clear hb
  induction hy with
  | top=>exact⟨x,F,.inl rfl⟩
  | go _ hg ih=>exact(gs0 h hr ih).2 _ hg
 ·exact⟨_,e⟩
theorem pi0(h:Web ps)(hr:∀y∈r,y<ps.length)(hl:ps.length+r.length<=60)(hcl:∀i∈r,∀j∈P0 (wd ps) i,j∈r∨j∈S)(hS:∀s∈S,s<ps.length)(C:Nat->Prop)(hC:∀i,C i->∀j∈P0 (wd ps) i,C j)(hs:∀s∈S,C s){x:Nat}(hx:x∈r){t:List Nat}(lm:Lm (nw ps r) (fN ps.length r x) t):∀y∈t,y<ps.length->C y:=by
 have hw:=nj0 h hr hl;have key:=lm.least (λy=>(∃i,i∈r/\y=fN ps.length r i)∨(y<ps.length/\C y)) (λi hi j hj=>by
  rcases hi with⟨i,F,rfl⟩|⟨J,ci⟩
  ·have L:fN ps.length r i<(nw ps r).length:=by rw[xa0];exact ri0 (hr i F)
   rw[K6 hw L,l70 hr F,zw0,Ua.ti0 _ (W5 h (hr i F)).2.lv] at hj;obtain⟨k,hk,rfl⟩:=B0.mp hj;rcases hcl i F k (by rw[K6 h (hr i F)];exact hk) with z|z
   ·exact .inl ⟨k,z,rfl⟩
   ·by_cases hkr:k∈r
    ·exact .inl ⟨k,hkr,rfl⟩
    ·rw[gt0 hkr]
     exact .inr ⟨hS k z,hs k z⟩
  ·have L:i<(nw ps r).length:=by rw[xa0];omega
   rw[K6 hw L,uy0 J] at hj;exact .inr ⟨v60 (W5 h J).2.lv j hj,hC i ci j (by rw[K6 h J];exact hj)⟩) (.inl ⟨x,hx,rfl⟩)
 intro y hy O;rcases key y hy with⟨i,hi,e⟩|⟨_,c⟩
 ·rw[oj0 hi] at e
  omega
 ·exact c
theorem wn0(l:List D)(k:Nat):cutD l none (some (k:Int))=l.take k:=by
 unfold cutD sIx;dsimp only;rw[if_neg (by omega),Int.toNat_natCast,List.drop_zero,Nat.sub_zero];rcases Nat.lt_or_ge l.length k with z|z
 ·rw[Nat.min_eq_right (E6 z),List.take_length,List.take_of_length_le (E6 z)]
 ·rw[Nat.min_eq_left z]
theorem uj0(l:List D)(k:Nat):cutD l (some (k:Int)) none=l.drop k:=by
 unfold cutD sIx;dsimp only;rw[if_neg (by omega),Int.toNat_natCast];rcases Nat.lt_or_ge l.length k with z|z
 ·rw[Nat.min_eq_right (E6 z),List.drop_length,List.drop_of_length_le (E6 z)]
  simp
 ·rw[Nat.min_eq_left z,List.take_of_length_le (by rw[List.length_drop];exact A4 _)]
theorem below(n:Nat):∀(l:List Nat) (W:D),(∀s:Sl,oA (z9 (gv 1) v6) Z5 [s,.sh W]=some (.int (n:Int)))->V2 (gN 0) (ob (o2 (gv 0) (oA (z9 (gv 1) v6) Z5) ltD)) (gv 0) [.un,.sh W] (nd l)=some (nd (l.filter λy=>decide (y<n)))
 | [],W,_=>rfl
 | y::l,W,hW=>by
  have ih:=below n l W hW;have e:ob (o2 (gv 0) (oA (z9 (gv 1) v6) Z5) ltD) [.sh (.int (y:Int)),.sh W]=some (decide (y<n)):=by
   refine Bw.T4 ?_;rw[p7 (x:=.int (y:Int)) (y:=.int (n:Int)) rfl (hW _)];show some (D.bl (decide ((y:Int)<(n:Int))))=_;congr 2;rw[decide_eq_decide];omega
  rw[show nd (y::l)=D.int (y:Int)::nd l from rfl];unfold V2;rw[show gN 0 (D.int (y:Int)) [.un,.sh W]=some [.sh (.int (y:Int)),.sh W] from rfl];dsimp only;rw[e]
  by_cases hy:y<n
  ·rw[decide_eq_true hy]
   dsimp only;rw[show gv 0 [.sh (.int (y:Int)),.sh W]=some (D.int (y:Int)) from rfl];dsimp only;rw[ih,List.filter_cons_of_pos (by simpa using hy)];rfl
  ·rw[decide_eq_false hy]
   dsimp only;rw[ih,List.filter_cons_of_neg (by simpa using hy)]
theorem without(F:List Nat):∀l:List Nat,V2 (gN 0) (ob (o2 (gv 0) (gv 1) (G8 true))) (gv 0) [.un,.sh (.lst (nd F))] (nd l)=some (nd (l.filter λy=>decide (y∉F)))
 | []=>rfl
 | y::l=>by
  have ih:=without F l;have e:ob (o2 (gv 0) (gv 1) (G8 true)) [.sh (.int (y:Int)),.sh (.lst (nd F))]=some (decide (y∉F)):=by
   refine Bw.T4 ?_;rw[p7 (x:=.int (y:Int)) (y:=.lst (nd F)) rfl rfl];show (if flat (.int (y:Int))=true/\(nd F).all flat=true then some (D.bl (xor true ((nd F).any λx=>eqF x (.int (y:Int))))) else none)=_;rw[if_pos ⟨rfl,(wy0 F y).1⟩,(wy0 F y).2]
   by_cases hx:y∈F<;>simp[hx]
  rw[show nd (y::l)=D.int (y:Int)::nd l from rfl];unfold V2;rw[show gN 0 (D.int (y:Int)) [.un,.sh (.lst (nd F))]=some [.sh (.int (y:Int)),.sh (.lst (nd F))] from rfl];dsimp only;rw[e]
  by_cases hy:y∈F
  ·rw[decide_eq_false (λz=>z hy)]
   dsimp only;rw[ih,List.filter_cons_of_neg (by simpa using hy)]
  ·rw[decide_eq_true hy]
   dsimp only;rw[show gv 0 [.sh (.int (y:Int)),.sh (.lst (nd F))]=some (D.int (y:Int)) from rfl];dsimp only;rw[ih,List.filter_cons_of_pos (by simpa using hy)];rfl
end Ra
namespace Ra
open DL W K22
open Ta (pa W5 wr0 gl gl1 nl)
open Ua (dr K6 zw0)
theorem vj0{l:List Pt}(h:∀p∈l,Pw n p):lean (.tup (l.map Pt.d)) 50=true:=by
 show leans (l.map Pt.d) 49=true;refine y40 λx hx=>?_
 obtain⟨p,hp,rfl⟩:=B0.mp hx;exact iw0 (h p hp) 45
def FK:GS:=(v8 (X7 (xl0 7 (oA (z9 (gv 0) (z9 (gv 8) v6)) U5)))
 p6)
theorem pl0(h:Web ps)(a b c d e f:Sl):∀(S F:List Nat) (s8:Sl),(∀s∈S,s<ps.length)->F.length+60*S.length<=6000 ->
  ∃F' t8,M4 (gN 8) FK (nd S) [.sh (wd ps),a,b,c,d,e,f,.ow (.lst (nd F)),s8]=some (.nx [.sh (wd ps),a,b,c,d,e,f,.ow (.lst (nd F')),t8])/\(∀y∈F,y∈F')/\∀s∈S,∃t,Lm ps s t/\∀y∈t,y∈F'
 | [],F,s8,_,_=>⟨F,s8,rfl,λy hy=>hy,λs hs=>by cases hs⟩
 | s::S,F,s8,hS,hl=>by
  have zs:(9000:Nat)<=sizeLine:=by decide
  rw[List.length_cons] at hl;obtain⟨t,e1,lm⟩:=q20 h (hS s A5);have few:=lm.few;obtain⟨F',t8,e2,h1,h2⟩:=pl0 h a b c d e f S (F++t) (.sh (.int (s:Int))) (λy hy=>hS y (A7 _ hy)) (by rw[List.length_append];omega);refine⟨F',t8,?_,λy hy=>h1 y (E7 _ hy),λy hy=>?_⟩
  ·rw[show nd (s::S)=D.int (s:Int)::nd S from rfl]
   refine(w60 (f:=gN 8) (δ1:=[.sh (wd ps),a,b,c,d,e,f,.ow (.lst (nd F)),.sh (.int (s:Int))]) rfl ?_).trans e2;refine u5 (δ':=[.sh (wd ps),a,b,c,d,e,f,.ow (.lst (nd (F++t))),.sh (.int (s:Int))]) ?_ rfl;have ec:oA (z9 (gv 0) (z9 (gv 8) v6)) U5 [.sh (wd ps),a,b,c,d,e,f,.ow (.lst (nd F)),.sh (.int (s:Int))]=some (.lst (nd t)):=by
    rw[o6 (ds:=[wd ps,.int (s:Int)]) rfl];exact e1
   unfold X7 xl0;rw[ec,show owL 7 [.sh (wd ps),a,b,c,d,e,f,.ow (.lst (nd F)),.sh (.int (s:Int))]=some (nd F) from rfl,Option.bind_some,Option.bind_some];show Option.map (λq:D×Ds=>Res.nx q.2) (if (nd F).length+(nd t).length<=sizeLine then some (D.non,([.sh (wd ps),a,b,c,d,e,f,.ow (.lst (nd F++nd t)),.sh (.int (s:Int))]:Ds)) else none)=_;rw[if_pos (by rw[V7,V7];omega),← zr0];rfl
  ·rcases B2.mp hy with rfl|hy
   ·exact⟨t,lm,λz hz=>h1 z (C6 _ hz)⟩
   ·exact h2 y hy
theorem Z10(h:Web ps)(h30:ps.length<=30){x:Nat}(hx:x<ps.length)(hS:∀s∈S,s<ps.length)(hSl:S.length<=60)(hxS:x∉S) :
  ∃fs,Web fs/\∃y,y<fs.length/\x<fs.length/\z00 [wd ps,.int (x:Int),.lst (nd S)]=some (.tup [wd fs,.int (y:Int)]):=by
 have zs:(9000:Nat)<=sizeLine:=by decide
 obtain⟨c,r,hd,hc,hn,hr,Y,_,a9⟩:=walk h S hx;obtain⟨s0,a1⟩:=a9 hxS;have O:x∈r:=by rw[a1];exact A5
 have b1:r.length<=ps.length:=by
  have:=sub_len hn (m:=List.range ps.length) λy hy=>C9.mpr (hr y hy).1
  rwa [x9] at this
 have hl:ps.length+r.length<=60:=by omega
 have J:∀y∈r,y<ps.length:=λy hy=>(hr y hy).1
 have ec:=ii0 h (K:=.lst (nd S)) (.inl rfl) (by omega) hx hd hc hn hr Y (.inl O) (by omega);have hw:=nj0 h J hl;obtain⟨ds,el⟩:=bt0 h J hl O;have hy:fN ps.length r x<(nw ps r).length:=by rw[xa0];exact ri0 hx
 have a7:x<(nw ps r).length:=by rw[xa0];omega
 obtain⟨t,et,lm⟩:=q20 hw hy;have tf:=lm.few;have a8:S=[]->∃e,U8 [wd (nw ps r),.int (x:Int)]=some (wd e)/\U8 [wd (nw ps r),.int (fN ps.length r x:Int)]=some (wd e)/\U8 [wd ps,.int (x:Int)]=some (wd e)/\Web e:=λL=>by
  subst L;have m:Mt ps x r:=⟨⟨c,hd,hc⟩,hn,J,λi hi j hj=>(Y i hi j hj).resolve_right (by simp),⟨s0,a1⟩⟩;obtain⟨m1,e1⟩:=m90 h hw m (ds0 h m λi hi=>⟨by rw[xa0];have:=J i hi;omega,uy0 (J i hi)⟩);obtain⟨m2,e2⟩:=m90 h hw m (f:=fN ps.length r) ⟨λi hi=>⟨by rw[xa0];exact ri0 (J i hi),l70 J hi⟩,λa ha b hb e=>X00 J ha hb e⟩;refine⟨dr ps r,by rw[zy0 hw m1,e1],by rw[zy0 hw m2,e2],zy0 h m,⟨?_,λp hp=>?_⟩⟩
  ·unfold dr
   rw[List.length_map];exact⟨List.length_pos_of_mem O,by omega⟩
  ·unfold dr at hp ⊢
   rw[List.length_map];obtain⟨i,hi,rfl⟩:=B0.mp hp;exact na0 (W5 h (J i hi)).2 _ λj hj=>U2 (m.tg h hi hj)
 obtain⟨F,t8,ek,_,hF⟩:=pl0 h (.sh (.int (x:Int))) (.sh (.lst (nd S))) (.sh (wd (nw ps r))) (.sh (.int (fN ps.length r x:Int))) (.sh (.lst (nd t))) (.sh (.lst (nd (t.filter λy=>decide (y<ps.length))))) S [] .un hS (by simp only[List.length_nil];omega);have b0:∀y∈t,y<ps.length->y∈F:=λy Z a0=>by
  have:=pi0 h J hl Y hS (λz=>∃s∈S,∀C:Nat->Prop,(∀i,C i->∀j∈P0 (wd ps) i,C j)->C s->C z) (λi ⟨s,hs,hi⟩ j hj=>⟨s,hs,λC hC cs=>hC i (hi C hC cs) j hj⟩) (λs hs=>⟨s,hs,λC _ cs=>cs⟩) O lm y Z a0;obtain⟨s,hs,hz⟩:=this;obtain⟨t',a2,a5⟩:=hF s hs;exact a5 y (hz (λy=>y∈t') (λi hi j hj=>a2.cl i hi j hj) a2.top)
 have a4:S=[]->t.filter (λy=>decide (y<ps.length))=[]:=λL=>by
  rw[List.filter_eq_nil_iff];intro y Z a0;have:=pi0 h J hl Y hS (λ_=>False) (λi hi=>hi.elim) (λs hs=>by rw[L] at hs;cases hs) O lm y Z (by simpa using a0);exact this
 have a6:(t.filter λy=>decide (y<ps.length)).filter (λy=>decide (y∉F))=[]:=by
  rw[List.filter_eq_nil_iff];intro y hy z;obtain⟨h1,h2⟩:=y9.mp hy;exact(B60 z) (b0 y h1 (B60 h2))
 have a3:∀(W:List Pt) (g:GE) (δ:Ds),g δ=some (wd W)->oA (z9 g v6) Z5 δ=some (.int (W.length:Int)):=λW g δ hg=>by
  rw[o6 (ds:=[wd W]) (cons_of hg rfl)];show some (D.int ((W.map Pt.d).length:Int))=_;rw[List.length_map]
 refine⟨nw ps r,hw,_,hy,a7,?_⟩;have S0:∀rest:GS,v8 (T3 (S6 (oA (z9 (gv 0) (z9 (gv 1) (z9 (oA (z9 (gv 2) v6) yz0) v6))) y20)) (J0 3 4)) rest (Z4 tq0 [wd ps,.int (x:Int),.lst (nd S)])=rest [.sh (wd ps),.sh (.int (x:Int)),.sh (.lst (nd S)),.sh (wd (nw ps r)),.sh (.int (fN ps.length r x:Int)),.un,.un,.un,.un]:=λrest=>by
  refine u5 ?_ rfl;unfold T3 S6;rw[o6 (ds:=[wd ps,.int (x:Int),.lst (nd S)]) rfl,ec];rfl
 refine Z2 rfl ((S0 _).trans (u5 (δ':=[.sh (wd ps),.sh (.int (x:Int)),.sh (.lst (nd S)),.sh (wd (nw ps r)),.sh (.int (fN ps.length r x:Int)),.un,.un,.un,.un]) ?_ (u5 (j8 (d:=.lst (nd t)) ?_) (u5 (j8 (d:=.lst (nd (t.filter λy=>decide (y<ps.length)))) ?_) (u5 (δ':=[.sh (wd ps),.sh (.int (x:Int)),.sh (.lst (nd S)),.sh (wd (nw ps r)),.sh (.int (fN ps.length r x:Int)),.sh (.lst (nd t)),.sh (.lst (nd (t.filter λy=>decide (y<ps.length)))),.un,.un]) ?_ (u5 (δ':=[.sh (wd ps),.sh (.int (x:Int)),.sh (.lst (nd S)),.sh (wd (nw ps r)),.sh (.int (fN ps.length r x:Int)),.sh (.lst (nd t)),.sh (.lst (nd (t.filter λy=>decide (y<ps.length)))),.ow (.lst (nd [])),.un]) rfl (u5 (zd0 (items:=nd S) rfl ek) (u5 (δ':=[.sh (wd ps),.sh (.int (x:Int)),.sh (.lst (nd S)),.sh (wd (nw ps r)),.sh (.int (fN ps.length r x:Int)),.sh (.lst (nd t)),.sh (.lst (nd (t.filter λy=>decide (y<ps.length)))),.sh (.lst (nd F)),t8]) ?_ (m9 (X8 ?_))))))))))
 ·rw[Z6 (Ta.tc0 (Bw.T4 (b:=false) ?_) (Bw.T4 (b:=false) ?_))]
  ·rfl
  ·rw[p7 (x:=wd ps) (y:=wd ps) ?_ rfl]
   ·exact Pn.nz0 (kp0 h 45)
   ·show (Option.bind (some (wd (nw ps r))) λd=>Option.bind (some none) λl=>Option.bind (someO (oA (z9 (gv 0) v6) Z5) _) λhh=>slA d l hh)=_
    rw[Option.bind_some,Option.bind_some];unfold someO;rw[a3 ps (gv 0) _ rfl];show some (D.tup (cutD ((nw ps r).map Pt.d) none (some (ps.length:Int))))=_;rw[wn0];unfold nw;rw[List.map_append,List.take_left' (by rw[List.length_map])];rfl
  ·rw[p7 (x:=.lst ds) (y:=.non) (by rw[o6 (ds:=[wd (nw ps r),.int (x:Int),.int (fN ps.length r x:Int)]) rfl];exact el) rfl]
   rfl
 ·rw[o6 (ds:=[wd (nw ps r),.int (fN ps.length r x:Int)]) rfl];exact et
 ·exact U0 (items:=nd t) rfl (by rw[V7];omega) (below ps.length t (wd ps) λs=>a3 ps (gv 1) _ rfl)
 ·by_cases L:S=[]
  ·obtain⟨e,d1,d2,d3,we⟩:=a8 L
   rw[N6 (Bw.T4 (b:=true) (by
    rw[p7 (x:=.lst (nd S)) (y:=.lst []) rfl rfl,L];rfl))]
   refine u5 (δ':=[.sh (wd ps),.sh (.int (x:Int)),.sh (.lst (nd S)),.sh (wd (nw ps r)),.sh (.int (fN ps.length r x:Int)),.sh (.lst (nd t)),.sh (.lst (nd (t.filter λy=>decide (y<ps.length)))),.un,.un]) ?_ rfl;have ne:=Pn.nz0 (kp0 we 45);rw[Z6 (Ta.tc0 (Bw.T4 (b:=false) ?_) (Ta.tc0 (Bw.T4 (b:=false) ?_) (Bw.T4 (b:=false) ?_)))]
   ·rfl
   ·rw[p7 (x:=.lst (nd (t.filter λy=>decide (y<ps.length)))) (y:=.lst []) rfl rfl,a4 L]
    rfl
   ·rw[p7 (x:=wd e) (y:=wd e) (by rw[o6 (ds:=[wd (nw ps r),.int (x:Int)]) rfl];exact d1) (by rw[o6 (ds:=[wd (nw ps r),.int (fN ps.length r x:Int)]) rfl];exact d2)]
    exact ne
   ·rw[p7 (x:=wd e) (y:=wd e) (by rw[o6 (ds:=[wd (nw ps r),.int (x:Int)]) rfl];exact d1) (by rw[o6 (ds:=[wd ps,.int (x:Int)]) rfl];exact d3)]
    exact ne
  ·rw[Z6 (Bw.T4 (b:=false) (by
    rw[p7 (x:=.lst (nd S)) (y:=.lst []) rfl rfl];unfold ym0;rw[if_pos ⟨bv0 S,by rfl⟩];cases S with
    | nil=>exact absurd rfl L
    | cons s S=>rfl))]
   rfl
 ·show ifD _ _ _ [.sh (wd ps),.sh (.int (x:Int)),.sh (.lst (nd S)),.sh (wd (nw ps r)),.sh (.int (fN ps.length r x:Int)),.sh (.lst (nd t)),.sh (.lst (nd (t.filter λy=>decide (y<ps.length)))),.sh (.lst (nd F)),t8]=_
  rw[Z6 (Bw.T4 (b:=false) (by
   rw[p7 (x:=.int 0) (y:=.int 0) (by
    rw[fe0 (U0 (items:=nd (t.filter λy=>decide (y<ps.length))) rfl (by rw[V7];have:=List.length_filter_le (λy=>decide (y<ps.length)) t;omega) (without F _)),a6];rfl) rfl]
   rfl))]
  rfl
 ·exact U7 (cons_of rfl (cons_of rfl rfl)) (by show 2<=sizeLine;omega)
end Ra
namespace Ra
open DL W K22
open Ta (pa W5 wr0 gl gl1 nl)
open Ua (dr K6 zw0)
theorem Vd0{v:D}(h:Lv n v):G5 [v]=some (.bl true):=by
 rcases h with rfl|⟨z,rfl⟩|⟨j,rfl,_⟩
 ·kernel_rfl
 ·kernel_rfl
 ·have:G5 [.tup [.str "at",.int (j:Int)]]=some (.bl (decide ((0:Int)<=(j:Int)))):=by kernel_rfl
  rw[this,decide_eq_true (by omega)]
theorem Yy0{v:D}(h:Lv n v):M8 [v]=some (.bl (isTup v)):=by
 rcases h with rfl|⟨z,rfl⟩|⟨j,rfl,_⟩
 ·kernel_rfl
 ·kernel_rfl
 ·have:M8 [.tup [.str "at",.int (j:Int)]]=some (.bl (decide ((0:Int)<=(j:Int)))):=by kernel_rfl
  rw[this,decide_eq_true (by omega)];rfl
def pt(fs:List Pt)(j pl:Nat)(v:D):List Pt:=fs.set j (Pn.put (pa fs j) ((pa fs j).vals.set pl v))
theorem Y80{fs:List Pt}(h:Web fs)(hj:j<fs.length)(hp:pl<(pa fs j).vals.length){v:D}(hv:Lv fs.length v) :
  te0 [wd fs,.int (j:Int),.int (pl:Int),v]=some (wd (pt fs j pl v)):=by
 have zs:(9000:Nat)<=sizeLine:=by decide
 obtain⟨a1,a2⟩:=W5 h hj;have few:=a2.few;have F:=h.len.2;have ln:∀δ:Ds,oA (z9 (gv 0) v6) Z5 (.sh (wd fs)::δ)=some (.int (fs.length:Int)):=fun δ=>by
  rw[o6 (ds:=[wd fs]) rfl];show some (D.int ((fs.map Pt.d).length:Int))=_;rw[List.length_map]
 obtain⟨s0,J⟩:∃s0:Ds,s0=[.sh (wd fs),.sh (.int (j:Int)),.sh (.int (pl:Int)),.sh v,.un]:=⟨_,rfl⟩;have e1:xn0 (ob (o2 (gv 1) (gc (.int 0)) ltD)) (ob (o2 (gv 1) (oA (z9 (gv 0) v6) Z5) geD)) [.sh (wd fs),.sh (.int (j:Int)),.sh (.int (pl:Int)),.sh v,.un]=some false:=by
  refine Ta.tc0 (Bw.T4 (b:=false) ?_) (Bw.T4 (b:=false) ?_)
  ·rw[p7 (x:=.int (j:Int)) (y:=.int 0) rfl rfl]
   show some (D.bl (decide ((j:Int)<0)))=_;rw[decide_eq_false (by omega)]
  ·rw[p7 (x:=.int (j:Int)) (y:=.int (fs.length:Int)) rfl (ln _)]
   show some (D.bl (decide ((fs.length:Int)<=(j:Int))))=_;rw[decide_eq_false (by omega)]
 have e2:xn0 (ob (o2 (gv 2) (gc (.int 0)) ltD)) (ob (o2 (gv 2) (zz0 (oA (z9 (gv 4) v6) Z5)) geD)) [.sh (wd fs),.sh (.int (j:Int)),.sh (.int (pl:Int)),.sh v,.ow (.lst (pa fs j).vals)]=some false:=by
  refine Ta.tc0 (Bw.T4 (b:=false) ?_) (Bw.T4 (b:=false) ?_)
  ·rw[p7 (x:=.int (pl:Int)) (y:=.int 0) rfl rfl]
   show some (D.bl (decide ((pl:Int)<0)))=_;rw[decide_eq_false (by omega)]
  ·rw[p7 (x:=.int (pl:Int)) (y:=.int ((pa fs j).vals.length:Int)) rfl rfl]
   show some (D.bl (decide (((pa fs j).vals.length:Int)<=(pl:Int))))=_;rw[decide_eq_false (by omega)]
 have e3:wg0 (ob (oA (z9 (gv 3) v6) G5)) [.sh (wd fs),.sh (.int (j:Int)),.sh (.int (pl:Int)),.sh v,.ow (.lst (pa fs j).vals)]=some false:=by
  unfold wg0;rw[Bw.T4 (b:=true) (by rw[o6 (ds:=[v]) rfl];exact Vd0 hv)];rfl
 have e4:K5 (ob (oA (z9 (gv 3) v6) M8)) (ob (o2 (o2 (gv 3) (gc (.int 1)) ixD) (oA (z9 (gv 0) v6) Z5) geD)) [.sh (wd fs),.sh (.int (j:Int)),.sh (.int (pl:Int)),.sh v,.ow (.lst (pa fs j).vals)]=some false:=by
  unfold K5;rw[Bw.T4 (b:=isTup v) (by rw[o6 (ds:=[v]) rfl];exact Yy0 hv),Option.bind_some];rcases hv with rfl|⟨z,rfl⟩|⟨i,rfl,hi⟩
  ·rfl
  ·rfl
  ·rw[if_pos (by rfl)]
   refine Bw.T4 ?_;rw[p7 (x:=.int (i:Int)) (y:=.int (fs.length:Int)) rfl (ln _)];show some (D.bl (decide ((fs.length:Int)<=(i:Int))))=_;rw[decide_eq_false (by omega)]
 refine Z2 rfl (u5 (δ':=[.sh (wd fs),.sh (.int (j:Int)),.sh (.int (pl:Int)),.sh v,.un]) ?_ (u5 (δ':=[.sh (wd fs),.sh (.int (j:Int)),.sh (.int (pl:Int)),.sh v,.ow (.lst (pa fs j).vals)]) ?_ (u5 (δ':=[.sh (wd fs),.sh (.int (j:Int)),.sh (.int (pl:Int)),.sh v,.ow (.lst (pa fs j).vals)]) ?_ (u5 (δ':=[.sh (wd fs),.sh (.int (j:Int)),.sh (.int (pl:Int)),.sh v,.ow (.lst (pa fs j).vals)]) ?_ (u5 (δ':=[.sh (wd fs),.sh (.int (j:Int)),.sh (.int (pl:Int)),.sh v,.ow (.lst (pa fs j).vals)]) ?_ (u5 (δ':=[.sh (wd fs),.sh (.int (j:Int)),.sh (.int (pl:Int)),.sh v,.ow (.lst ((pa fs j).vals.set pl v))]) ?_ (m9 (X8 ?_))))))))
 ·change ifD _ _ _ [.sh (wd fs),.sh (.int (j:Int)),.sh (.int (pl:Int)),.sh v,.un]=_
  rw[Z6 e1];rfl
 ·unfold O1
  rw[o6 (ds:=[(pa fs j).d]) (cons_of (by rw[p7 (x:=wd fs) (y:=.int (j:Int)) rfl rfl];exact a1) rfl),show m_values [(pa fs j).d]=some (.lst (pa fs j).vals) from Pn.J7 _ a2.f];rfl
 ·rw[Z6 e2];rfl
 ·rw[Z6 e3];rfl
 ·rw[Z6 e4];rfl
 ·show Option.map Res.nx (setAt 4 (gv 2) v [.sh (wd fs),.sh (.int (j:Int)),.sh (.int (pl:Int)),.sh v,.ow (.lst (pa fs j).vals)])=_
  unfold setAt;show Option.map Res.nx (Option.map (λi=>([.sh (wd fs),.sh (.int (j:Int)),.sh (.int (pl:Int)),.sh v,.ow (.lst ((pa fs j).vals.set i v))]:Ds)) (ixN (pa fs j).vals.length (pl:Int)))=_;unfold ixN;rw[if_pos (by omega),if_pos (by omega),Int.toNat_natCast];rfl
 ·show o2 (o2 (N5 (gv 0) O3 (someO (gv 1))) (Y7 (z9 (oA (z9 (o2 (gv 0) (gv 1) ixD) (z9 (gv 4) v6)) V1) v6)) Z3) (N5 (gv 0) (someO (o2 (gv 1) (gc (.int 1)) Z3)) O3) Z3 [.sh (wd fs),.sh (.int (j:Int)),.sh (.int (pl:Int)),.sh v,.sh (.lst ((pa fs j).vals.set pl v))]=_
  have q1:N5 (gv 0) O3 (someO (gv 1)) [.sh (wd fs),.sh (.int (j:Int)),.sh (.int (pl:Int)),.sh v,.sh (.lst ((pa fs j).vals.set pl v))]=some (.tup ((fs.take j).map Pt.d)):=by
   show some (D.tup (cutD (fs.map Pt.d) none (some (j:Int))))=_;rw[wn0,List.map_take]
  have q2:Y7 (z9 (oA (z9 (o2 (gv 0) (gv 1) ixD) (z9 (gv 4) v6)) V1) v6) [.sh (wd fs),.sh (.int (j:Int)),.sh (.int (pl:Int)),.sh v,.sh (.lst ((pa fs j).vals.set pl v))]=some (.tup [(Pn.put (pa fs j) ((pa fs j).vals.set pl v)).d]):=by
   refine U7 (cons_of ?_ rfl) (by show 1<=sizeLine;omega);rw[o6 (ds:=[(pa fs j).d,.lst ((pa fs j).vals.set pl v)]) (cons_of (by rw[p7 (x:=wd fs) (y:=.int (j:Int)) rfl rfl];exact a1) rfl)];exact Pn.kj0 _ a2.f _
  have q3:N5 (gv 0) (someO (o2 (gv 1) (gc (.int 1)) Z3)) O3 [.sh (wd fs),.sh (.int (j:Int)),.sh (.int (pl:Int)),.sh v,.sh (.lst ((pa fs j).vals.set pl v))]=some (.tup ((fs.drop (j+1)).map Pt.d)):=by
   show some (D.tup (cutD (fs.map Pt.d) (some ((j:Int)+1)) none))=_;rw[show ((j:Int)+1)=((j+1:Nat):Int) from rfl,uj0,List.map_drop]
  rw[p7 (x:=.tup ((fs.take j).map Pt.d++[(Pn.put (pa fs j) ((pa fs j).vals.set pl v)).d])) (y:=.tup ((fs.drop (j+1)).map Pt.d)) (by
   rw[p7 q1 q2];show (if ((fs.take j).map Pt.d).length+1<=sizeLine then some (D.tup ((fs.take j).map Pt.d++[(Pn.put (pa fs j) ((pa fs j).vals.set pl v)).d])) else none)=_;rw[if_pos (by rw[List.length_map,List.length_take];omega)]) q3]
  show (if ((fs.take j).map Pt.d++[(Pn.put (pa fs j) ((pa fs j).vals.set pl v)).d]).length+((fs.drop (j+1)).map Pt.d).length<=sizeLine then some (D.tup ((fs.take j).map Pt.d++[(Pn.put (pa fs j) ((pa fs j).vals.set pl v)).d]++(fs.drop (j+1)).map Pt.d)) else none)=_;rw[if_pos (by simp only[List.length_append,List.length_map,List.length_take,List.length_drop,List.length_singleton];omega)];unfold pt wd;generalize Pn.put (pa fs j) ((pa fs j).vals.set pl v)=p';rw[List.set_eq_take_append_cons_drop,if_pos hj,List.map_append,List.map_cons,List.append_assoc];rfl
theorem if0{fs:List Pt}(h:Web fs)(hj:j<fs.length)(hp:pl<(pa fs j).vals.length){v:D}(hv:Lv fs.length v):Web (pt fs j pl v)/\(pt fs j pl v).length=fs.length:=by
 have e:(pt fs j pl v).length=fs.length:=by unfold pt;rw[List.length_set]
 refine⟨⟨by rw[e];exact h.len,λp F=>?_⟩,e⟩;rw[e];unfold pt at F;rcases Dp0 F with F|rfl
 ·exact h.pw p F
 ·have a2:=(W5 h hj).2
  have q:=vl0 (pa fs j) ((pa fs j).vals.set pl v) (by rw[List.length_set]);refine⟨by rw[q,List.length_set];exact a2.few,λu hu=>?_⟩;rw[q] at hu;rcases Dp0 hu with hu|rfl
  ·exact a2.lv u hu
  ·exact hv
theorem Xr0{fs:List Pt}{v:D}(h:i≠j):pa (pt fs j pl v) i=pa fs i:=by
 unfold pa pt;rw[List.getD_eq_getElem?_getD,List.getElem?_set_ne (B7 h),List.getD_eq_getElem?_getD]
def PA:GS:=(v8 (ifD (K5 (ob (o2 (gv 4) (oA (z9 (gv 0) (z9 (gv 7) v6)) U5) (G8 true))) (ob (o2 (oA (z9 (gv 6) (z9 (gv 7) v6)) U8) (oA (z9 (gv 0) (z9 (gv 7) v6)) U8) M5)))
 (v8 (d8 (gc (.bl false)))
 p6)
 p6)
 p6)
theorem dq0{fs:List Pt}(h:Web fs)(hj:j<fs.length)(hp:pl<(pa fs j).vals.length){v:D}(hv:Lv fs.length v)(x k c:Sl)(s5:Sl){a:Nat}(ha:a<fs.length) :
  PA [.sh (wd fs),x,k,c,.sh (.int (j:Int)),s5,.sh (wd (pt fs j pl v)),.sh (.int (a:Int))]=some (.nx [.sh (wd fs),x,k,c,.sh (.int (j:Int)),s5,.sh (wd (pt fs j pl v)),.sh (.int (a:Int))]):=by
 obtain⟨t,et,lm⟩:=q20 h ha;obtain⟨pw,F⟩:=if0 h hj hp hv;have q:ob (o2 (gv 4) (oA (z9 (gv 0) (z9 (gv 7) v6)) U5) (G8 true)) [.sh (wd fs),x,k,c,.sh (.int (j:Int)),s5,.sh (wd (pt fs j pl v)),.sh (.int (a:Int))]=some (decide (j∉t)):=by
  refine Bw.T4 ?_;rw[p7 (x:=.int (j:Int)) (y:=.lst (nd t)) rfl (by rw[o6 (ds:=[wd fs,.int (a:Int)]) rfl];exact et)];show (if flat (.int (j:Int))=true/\(nd t).all flat=true then some (D.bl (xor true ((nd t).any λy=>eqF y (.int (j:Int))))) else none)=_;rw[if_pos ⟨rfl,(wy0 t j).1⟩,(wy0 t j).2]
  by_cases hx:j∈t<;>simp[hx]
 refine u5 (δ':=[.sh (wd fs),x,k,c,.sh (.int (j:Int)),s5,.sh (wd (pt fs j pl v)),.sh (.int (a:Int))]) ?_ rfl;rw[Z6]
 ·rfl
 ·unfold K5
  rw[q,Option.bind_some]
  by_cases hjt:j∈t
  ·rw[decide_eq_false (λz=>z hjt)];rfl
  ·rw[decide_eq_true hjt,if_pos rfl]
   obtain⟨r,m⟩:=Va0 h ha;have sub:∀y∈r,y∈t:=m.least (λi hi j hj=>lm.cl i hi j hj) lm.top;obtain⟨m2,e2⟩:=m90 h pw m (ds0 h m λi hi=>⟨by rw[F];exact m.lt i hi,Xr0 λz=>hjt (z▸sub i hi)⟩);have d1:=zy0 pw m2;rw[e2] at d1;have d2:=zy0 h m;have lt:=m.len h;refine Bw.T4 ?_;rw[p7 (x:=wd (dr fs r)) (y:=wd (dr fs r)) (by rw[o6 (ds:=[wd (pt fs j pl v),.int (a:Int)]) rfl];exact d1) (by rw[o6 (ds:=[wd fs,.int (a:Int)]) rfl];exact d2)];refine Pn.nz0 (vj0 (n:=r.length) λp hp=>?_);unfold dr at hp;obtain⟨i,hi,rfl⟩:=B0.mp hp;exact na0 (W5 h (m.lt i hi)).2 _ λj hj=>U2 (m.tg h hi hj)
theorem Vk0{v:D}(h:Gw.Vk v (n:Int)):Lv n v:=by
 rcases p40 h.ok with rfl|⟨i,rfl⟩|⟨i,rfl,hi⟩
 ·exact .inl rfl
 ·exact .inr (.inl ⟨i,rfl⟩)
 ·have:=h.lk i rfl
  exact .inr (.inr ⟨i.toNat,by rw[Int.toNat_of_nonneg hi],by omega⟩)
theorem g00{fs:List Pt}(h:Web fs)(x:Int)(hx:0<=x/\x<2147483647){k c:Nat}(hk:k<fs.length)(hc:c<fs.length):M6 [wd fs,.int x,.int (k:Int),.int (c:Int)]=some (.bl true):=by
 have zs:(9000:Nat)<=sizeLine:=by decide
 have hl:=h.len;have nn:∀(y:Int) (n:Nat),0<n->0<=y%(n:Int)/\y%(n:Int)<n:=λy n h=>⟨L1 _ (by omega),L9 _ (by omega)⟩
 obtain⟨j,ej,hj⟩:∃a:Nat,x%(fs.length:Int)=(a:Int)/\a<fs.length:=⟨(x%(fs.length:Int)).toNat,by have:=nn x _ hl.1;omega,by have:=nn x _ hl.1;omega⟩;obtain⟨a1,a2⟩:=W5 h hj;have few:=a2.few;have ln:∀δ:Ds,oA (z9 (gv 0) v6) Z5 (.sh (wd fs)::δ)=some (.int (fs.length:Int)):=fun δ=>by
  rw[o6 (ds:=[wd fs]) rfl];show some (D.int ((fs.map Pt.d).length:Int))=_;rw[List.length_map]
 have g4:∀s5 s6 s7 s4:Sl,o2 (gv 1) (oA (z9 (gv 0) v6) Z5) d9 [.sh (wd fs),.sh (.int x),.sh (.int (k:Int)),.sh (.int (c:Int)),s4,s5,s6,s7]=some (.int (j:Int)):=λs5 s6 s7 s4=>by
  rw[p7 (x:=.int x) (y:=.int (fs.length:Int)) rfl (ln _),Gw.y90 _ _ (by omega),ej]
 have g5:∀s5 s6 s7:Sl,oA (z9 (o2 (gv 0) (gv 4) ixD) v6) Z7 [.sh (wd fs),.sh (.int x),.sh (.int (k:Int)),.sh (.int (c:Int)),.sh (.int (j:Int)),s5,s6,s7]=some (.lst (pa fs j).vals):=λs5 s6 s7=>by
  rw[o6 (ds:=[(pa fs j).d]) (cons_of (by rw[p7 (x:=wd fs) (y:=.int (j:Int)) rfl rfl];exact a1) rfl)];exact Gw.xt0 _ a2.f
 have lv:lean (.lst (pa fs j).vals) 50=true:=by
  show leans (pa fs j).vals 49=true;exact y40 λv hv=>nn0 (a2.lv v hv) 48
 by_cases h0:(pa fs j).vals=[]
 ·refine Z2 rfl (u5 (j8 (g4 _ _ _ _)) (u5 (j8 (g5 _ _ _)) (m9 ?_)))
  change ifD _ _ _ [.sh (wd fs),.sh (.int x),.sh (.int (k:Int)),.sh (.int (c:Int)),.sh (.int (j:Int)),.sh (.lst (pa fs j).vals),.un,.un]=_
  rw[N6 (Bw.T4 (b:=true) (by
   rw[p7 (x:=.lst (pa fs j).vals) (y:=.lst []) rfl rfl,h0];rfl))]
  rfl
 ·have J:0<(pa fs j).vals.length:=List.length_pos_iff.mpr h0
  obtain⟨pl,Y,F⟩:∃a:Nat,x/60%((pa fs j).vals.length:Int)=(a:Int)/\a<(pa fs j).vals.length:=⟨(x/60%((pa fs j).vals.length:Int)).toNat,by have:=nn (x/60) _ J;omega,by have:=nn (x/60) _ J;omega⟩;obtain⟨v,ev,vk⟩:=Gw.n00 (x/720) (fs.length:Int) (by omega) (by omega);have hv:=Vk0 vk;obtain⟨pw,Z⟩:=if0 h hj F hv;have g6:∀s6 s7:Sl,oA (z9 (gv 0) (z9 (gv 4) (z9 (o2 (o2 (gv 1) (gc (.int 60)) X4) (oA (z9 (gv 5) v6) Z5) d9) (z9 (oA (z9 (o2 (gv 1) (gc (.int 720)) X4) (z9 (oA (z9 (gv 0) v6) Z5) v6)) T6) v6)))) te0 [.sh (wd fs),.sh (.int x),.sh (.int (k:Int)),.sh (.int (c:Int)),.sh (.int (j:Int)),.sh (.lst (pa fs j).vals),s6,s7]=some (wd (pt fs j pl v)):=λs6 s7=>by
   rw[o6 (ds:=[wd fs,.int (j:Int),.int (pl:Int),v]) (cons_of rfl (cons_of rfl (cons_of (by
    rw[p7 (x:=.int (x/60)) (y:=.int ((pa fs j).vals.length:Int)) (by rw[p7 (x:=.int x) (y:=.int 60) rfl rfl];exact Gw.sm0 _ _ (by decide)) (fe0 rfl),Gw.y90 _ _ (by omega),Y]) (cons_of (by
    rw[o6 (ds:=[.int (x/720),.int (fs.length:Int)]) (cons_of (by rw[p7 (x:=.int x) (y:=.int 720) rfl rfl];exact Gw.sm0 _ _ (by decide)) (cons_of (ln _) rfl))];exact ev) rfl))))]
   exact Y80 h hj F hv
  have lo:M4 (gN 7) PA [.int (k:Int),.int (c:Int)] [.sh (wd fs),.sh (.int x),.sh (.int (k:Int)),.sh (.int (c:Int)),.sh (.int (j:Int)),.sh (.lst (pa fs j).vals),.sh (wd (pt fs j pl v)),.un]=some (.nx [.sh (wd fs),.sh (.int x),.sh (.int (k:Int)),.sh (.int (c:Int)),.sh (.int (j:Int)),.sh (.lst (pa fs j).vals),.sh (wd (pt fs j pl v)),.sh (.int (c:Int))]):=by
   rw[w60 (f:=gN 7) (δ1:=[.sh (wd fs),.sh (.int x),.sh (.int (k:Int)),.sh (.int (c:Int)),.sh (.int (j:Int)),.sh (.lst (pa fs j).vals),.sh (wd (pt fs j pl v)),.sh (.int (k:Int))]) rfl (dq0 h hj F hv _ _ _ _ hk),w60 (f:=gN 7) (δ1:=[.sh (wd fs),.sh (.int x),.sh (.int (k:Int)),.sh (.int (c:Int)),.sh (.int (j:Int)),.sh (.lst (pa fs j).vals),.sh (wd (pt fs j pl v)),.sh (.int (c:Int))]) rfl (dq0 h hj F hv _ _ _ _ hc)];rfl
  refine Z2 rfl (u5 (j8 (g4 _ _ _ _)) (u5 (j8 (g5 _ _ _)) (u5 (δ':=[.sh (wd fs),.sh (.int x),.sh (.int (k:Int)),.sh (.int (c:Int)),.sh (.int (j:Int)),.sh (.lst (pa fs j).vals),.un,.un]) ?_ (u5 (j8 (g6 _ _)) (u5 (zd0 (items:=[.int (k:Int),.int (c:Int)]) ?_ lo) (m9 (X8 ?_)))))))
  ·change ifD _ _ _ [.sh (wd fs),.sh (.int x),.sh (.int (k:Int)),.sh (.int (c:Int)),.sh (.int (j:Int)),.sh (.lst (pa fs j).vals),.un,.un]=_
   rw[Z6 (Bw.T4 (b:=false) (by
    rw[p7 (x:=.lst (pa fs j).vals) (y:=.lst []) rfl rfl];unfold ym0;rw[if_pos ⟨lv,by rfl⟩];cases hh:(pa fs j).vals with
    | nil=>exact absurd hh h0
    | cons s S=>rfl))]
   rfl
  ·show (Y7 (z9 (gv 2) (z9 (gv 3) v6)) _).bind oe0=_
   rw[U7 (ds:=[.int (k:Int),.int (c:Int)]) rfl (by show 2<=sizeLine;omega)];rfl
  ·have L:(pt fs j pl v).take j=fs.take j:=by unfold pt;rw[List.take_set_of_le (A4 _)]
   have O:(pt fs j pl v).drop (j+1)=fs.drop (j+1):=by unfold pt;rw[List.drop_set_of_lt (by omega)]
   change yl0 _ _ [.sh (wd fs),.sh (.int x),.sh (.int (k:Int)),.sh (.int (c:Int)),.sh (.int (j:Int)),.sh (.lst (pa fs j).vals),.sh (wd (pt fs j pl v)),.sh (.int (c:Int))]=_
   unfold yl0;rw[Bw.T4 (b:=true),Option.bind_some,if_pos rfl]
   ·rw[p7 (x:=.tup ((fs.drop (j+1)).map Pt.d)) (y:=.tup ((fs.drop (j+1)).map Pt.d))]
    ·exact Pn.Xq0 (vj0 (n:=fs.length) λp hp=>h.pw p (Aw0 hp))
    ·show some (D.tup (cutD ((pt fs j pl v).map Pt.d) (some ((j:Int)+1)) none))=_
     rw[show ((j:Int)+1)=((j+1:Nat):Int) from rfl,uj0,← List.map_drop,O]
    ·show some (D.tup (cutD (fs.map Pt.d) (some ((j:Int)+1)) none))=_
     rw[show ((j:Int)+1)=((j+1:Nat):Int) from rfl,uj0,List.map_drop]
   ·rw[p7 (x:=.tup ((fs.take j).map Pt.d)) (y:=.tup ((fs.take j).map Pt.d))]
    ·exact Pn.Xq0 (vj0 (n:=fs.length) λp hp=>h.pw p (i8 hp))
    ·show some (D.tup (cutD ((pt fs j pl v).map Pt.d) none (some (j:Int))))=_
     rw[wn0,← List.map_take,L]
    ·show some (D.tup (cutD (fs.map Pt.d) none (some (j:Int))))=_
     rw[wn0,List.map_take]
end Ra
namespace Ra
open DL W K22
open Ta (pa W5 wr0 g20)
theorem K8(ns:List Int)(k:Int)(h0:0<=k):∃z,j6 [.lst (ns.map .int),.int k]=some (.int z):=Gw.K8 ns k h0
theorem t00(c k:Int)(hk:0<=k/\k<=1000000):∃x,0<=x/\x<2147483647/\V3 [.int c,.int k]=some (.int x):=Gw.t00 c k hk
theorem W20(ns:List Int)(hl:ns.length<=63):∃ps,R0 [.lst (ns.map .int),.int 30]=some (wd ps)/\Web ps/\ps.length<=30:=Ta.zy0 ns hl
theorem some_of{gt:DL.GB}{rest:Ds}{Q:Nat->Prop}:∀l:List Nat,(∀j∈l,∃b,gt (.sh (.int (j:Int))::rest)=some b/\(b=true->Q j))->∃S,V2 (gN 0) gt (gv 0) (.un::rest) (nd l)=some (nd S)/\(∀s∈S,s∈l/\Q s)/\S.length<=l.length
 | [],_=>⟨[],rfl,(λs hs=>absurd hs (by simp)),A4 _⟩
 | j::l,h=>by
  obtain⟨S,e,h1,h2⟩:=some_of l λi hi=>h i (A7 _ hi)
  obtain⟨b,eb,hb⟩:=h j A5;rw[show nd (j::l)=D.int (j:Int)::nd l from rfl];unfold V2;rw[show gN 0 (D.int (j:Int)) (.un::rest)=some (.sh (.int (j:Int))::rest) from rfl];dsimp only;rw[eb];cases b with
  | false=>exact⟨S,e,λs hs=>⟨A7 _ (h1 s hs).1,(h1 s hs).2⟩,by rw[List.length_cons];omega⟩
  | true =>
   refine⟨j::S,?_,λs hs=>?_,by rw[List.length_cons,List.length_cons];omega⟩
   ·dsimp only
    rw[show gv 0 (.sh (.int (j:Int))::rest)=some (D.int (j:Int)) from rfl];dsimp only;rw[e];rfl
   ·rcases B2.mp hs with rfl|hs
    ·exact⟨A5,hb rfl⟩
    ·exact⟨A7 _ (h1 s hs).1,(h1 s hs).2⟩
def IB:GS:=(v8 (j4 (gN 10) (oA (z9 (o2 (oA (z9 (gv 0) (z9 (o2 (gc (.int 6)) (o2 (gv 9) (gc (.int 3)) d9) Z3) v6)) j6) (o2 (gv 9) (gv 9) J2) Z3) (z9 (o2 (gv 9) (gc (.int 40)) Z3) v6)) V3))
 (v8 (ifD (wg0 (ob (oA (z9 (gv 7) (z9 (gv 10) (z9 (gv 3) (z9 (gv 8) v6)))) M6)))
 (v8 (d8 (gc (.bl false)))
 p6)
 p6)
 p6))
def OB:GS:=(v8 (j4 (gN 6) (oA (z9 (gv 1) (z9 (gv 3) (z9 (gv 5) v6))) z00))
 (v8 (ifD (ob (o2 (gv 6) (gc .non) sb0))
 (v8 (d8 (gc (.bl false)))
 p6)
 p6)
 (v8 (T3 (S6 (gv 6)) (J0 7 8))
 (v8 (z60 (G6 (z9 (gc (.int 6)) v6)) (gN 9)
 IB)
 p6))))
theorem c50(ns:List Int)(h:Web ps)(h30:ps.length<=30)(t:Sl){x:Nat}(hx:x<ps.length)(s4:Sl)(hS:∀s∈S,s<ps.length/\s≠x)(hSl:S.length<=60)(s6 s7 s8 s9 s10:Sl) :
  ∃t6 t7 t8 t9 t10,OB [.sh (.lst (ns.map .int)),.sh (wd ps),t,.sh (.int (x:Int)),s4,.sh (.lst (nd S)),s6,s7,s8,s9,s10]=some (.nx [.sh (.lst (ns.map .int)),.sh (wd ps),t,.sh (.int (x:Int)),s4,.sh (.lst (nd S)),t6,t7,t8,t9,t10]):=by
 obtain⟨fs,wf,y,hy,J,em⟩:=Z10 h h30 hx (λs hs=>(hS s hs).1) hSl λz=>(hS x z).2 rfl
 obtain⟨δ',lo,L,F,rfl⟩:=zc0 (f:=gN 9) (G:=IB) (λ_ δ=>∃s9 s10:Sl,δ=[.sh (.lst (ns.map .int)),.sh (wd ps),t,.sh (.int (x:Int)),s4,.sh (.lst (nd S)),.sh (.tup [wd fs,.int (y:Int)]),.sh (wd fs),.sh (.int (y:Int)),s9,s10]) (S5 0 6) 0 [.sh (.lst (ns.map .int)),.sh (wd ps),t,.sh (.int (x:Int)),s4,.sh (.lst (nd S)),.sh (.tup [wd fs,.int (y:Int)]),.sh (wd fs),.sh (.int (y:Int)),s9,s10] (by
  rintro j d δ hj ⟨s9,s10,rfl⟩;obtain⟨O,rfl⟩:=wx0 hj;obtain⟨c,hc⟩:=K8 ns (6+(j:Int)%3) (by omega);obtain⟨z,z0,z1,hz⟩:=t00 (c+(j:Int)*(j:Int)) ((j:Int)+40) (by omega);refine⟨_,[.sh (.lst (ns.map .int)),.sh (wd ps),t,.sh (.int (x:Int)),s4,.sh (.lst (nd S)),.sh (.tup [wd fs,.int (y:Int)]),.sh (wd fs),.sh (.int (y:Int)),.sh (.int (j:Int)),.sh (.int z)],rfl,u5 (j8 (d:=.int z) ?_) (u5 (δ':=[.sh (.lst (ns.map .int)),.sh (wd ps),t,.sh (.int (x:Int)),s4,.sh (.lst (nd S)),.sh (.tup [wd fs,.int (y:Int)]),.sh (wd fs),.sh (.int (y:Int)),.sh (.int (j:Int)),.sh (.int z)]) ?_ rfl),_,_,rfl⟩
  ·rw[o6 (ds:=[.int (c+(j:Int)*(j:Int)),.int ((j:Int)+40)]) (cons_of (by
    rw[p7 (x:=.int c) (y:=.int ((j:Int)*(j:Int))) (by
     rw[o6 (ds:=[.lst (ns.map .int),.int (6+(j:Int)%3)]) (cons_of rfl (cons_of (by
      rw[p7 (x:=.int 6) (y:=.int ((j:Int)%3)) rfl (by rw[p7 (x:=.int (j:Int)) (y:=.int 3) rfl rfl];exact Gw.y90 _ _ (by decide))];rfl) rfl))]
     exact hc) (by
     rw[p7 (x:=.int (j:Int)) (y:=.int (j:Int)) rfl rfl];exact Gw.V60 _ _ (by omega))]
    rfl) (cons_of rfl rfl))]
   exact hz
  ·change ifD _ _ _ [.sh (.lst (ns.map .int)),.sh (wd ps),t,.sh (.int (x:Int)),s4,.sh (.lst (nd S)),.sh (.tup [wd fs,.int (y:Int)]),.sh (wd fs),.sh (.int (y:Int)),.sh (.int (j:Int)),.sh (.int z)]=_
   rw[Z6 (by
    unfold wg0;rw[Bw.T4 (b:=true) (by rw[o6 (ds:=[wd fs,.int z,.int (x:Int),.int (y:Int)]) rfl];exact g00 wf z ⟨z0,z1⟩ J hy)];rfl)]
   rfl) ⟨s9,s10,rfl⟩
 refine⟨_,_,_,L,F,u5 (j8 (d:=.tup [wd fs,.int (y:Int)]) ?_) (u5 (δ':=[.sh (.lst (ns.map .int)),.sh (wd ps),t,.sh (.int (x:Int)),s4,.sh (.lst (nd S)),.sh (.tup [wd fs,.int (y:Int)]),s7,s8,s9,s10]) ?_ (u5 (δ':=[.sh (.lst (ns.map .int)),.sh (wd ps),t,.sh (.int (x:Int)),s4,.sh (.lst (nd S)),.sh (.tup [wd fs,.int (y:Int)]),.sh (wd fs),.sh (.int (y:Int)),s9,s10]) rfl (u5 (zd0 (xr0 (n:=6) rfl (by decide) (by decide)) lo) rfl)))⟩
 ·rw[o6 (ds:=[wd ps,.int (x:Int),.lst (nd S)]) rfl];exact em
 ·change ifD _ _ _ [.sh (.lst (ns.map .int)),.sh (wd ps),t,.sh (.int (x:Int)),s4,.sh (.lst (nd S)),.sh (.tup [wd fs,.int (y:Int)]),s7,s8,s9,s10]=_
  rw[Z6 (by rfl)];rfl
theorem ej0(ns:List Int)(hl:ns.length<=63):t70 [.lst (ns.map .int)]=some (.bl true):=by
 have zs:(9000:Nat)<=sizeLine:=by decide
 obtain⟨ps,a1,F,J⟩:=W20 ns hl;obtain⟨t,ht⟩:=K8 ns 4 (by decide);obtain⟨c5,h5⟩:=K8 ns 5 (by decide);have a3:=F.len;have ln:∀(g:GE) (δ:Ds),g δ=some (wd ps)->oA (z9 g v6) Z5 δ=some (.int (ps.length:Int)):=λg δ hg=>by
  rw[o6 (ds:=[wd ps]) (cons_of hg rfl)];show some (D.int ((ps.map Pt.d).length:Int))=_;rw[List.length_map]
 obtain⟨x,ex,hx⟩:∃a:Nat,t%(ps.length:Int)=(a:Int)/\a<ps.length:=⟨(t%(ps.length:Int)).toNat,by have:=L1 t (show (ps.length:Int)≠0 by omega);omega,by have:=L1 t (show (ps.length:Int)≠0 by omega);have:=L9 t (show (0:Int)<(ps.length:Int) by omega);omega⟩;obtain⟨S,eS,hS,a0⟩:=some_of (gt:=K5 (ob (o2 (o2 (oA (z9 (oA (z9 (gv 1) (z9 (gc (.int 5)) v6)) j6) (z9 (gv 0) v6)) V3) (o2 (Y0 (z9 (gc (.int 3)) (z9 (gc (.int 8)) v6))) (o2 (o2 (gv 2) (gc (.int 30)) X4) (gc (.int 2)) d9) ixD) d9) (gc (.int 0)) ym0)) (ob (o2 (gv 0) (gv 3) M5))) (rest:=[.sh (.lst (ns.map .int)),.sh (.int t),.sh (.int (x:Int))]) (Q:=λj=>j≠x) (List.range' 0 ps.length) (λj hj=>by
  have a4:j<ps.length:=by
   obtain⟨i,hi,e⟩:=List.mem_range'.mp hj;omega
  obtain⟨z,_,_,hz⟩:=t00 c5 (j:Int) (by omega);obtain⟨q,Z,hq⟩:∃q:Int,0<q/\o2 (Y0 (z9 (gc (.int 3)) (z9 (gc (.int 8)) v6))) (o2 (o2 (gv 2) (gc (.int 30)) X4) (gc (.int 2)) d9) ixD [.sh (.int (j:Int)),.sh (.lst (ns.map .int)),.sh (.int t),.sh (.int (x:Int))]=some (.int q):=by
   have e:o2 (Y0 (z9 (gc (.int 3)) (z9 (gc (.int 8)) v6))) (o2 (o2 (gv 2) (gc (.int 30)) X4) (gc (.int 2)) d9) ixD [.sh (.int (j:Int)),.sh (.lst (ns.map .int)),.sh (.int t),.sh (.int (x:Int))]=ixD (.lst [.int 3,.int 8]) (.int (t/30%2)) :=
    p7 (y50 rfl (by show 2<=sizeLine;omega)) (by rw[p7 (x:=.int (t/30)) (y:=.int 2) (by rw[p7 (x:=.int t) (y:=.int 30) rfl rfl];exact Gw.sm0 _ _ (by decide)) rfl];exact Gw.y90 _ _ (by decide))
   rw[e];have h2:t/30%2=0∨t/30%2=1:=by omega
   rcases h2 with h2|h2<;>rw[h2]
   ·exact⟨3,by decide,rfl⟩
   ·exact⟨8,by decide,rfl⟩
  have b1:∃b,ob (o2 (o2 (oA (z9 (oA (z9 (gv 1) (z9 (gc (.int 5)) v6)) j6) (z9 (gv 0) v6)) V3) (o2 (Y0 (z9 (gc (.int 3)) (z9 (gc (.int 8)) v6))) (o2 (o2 (gv 2) (gc (.int 30)) X4) (gc (.int 2)) d9) ixD) d9) (gc (.int 0)) ym0) [.sh (.int (j:Int)),.sh (.lst (ns.map .int)),.sh (.int t),.sh (.int (x:Int))]=some b:=⟨_,Bw.T4 (by
   rw[p7 (x:=.int (z%q)) (y:=.int 0) (by
    rw[p7 (x:=.int z) (y:=.int q) (by
     rw[o6 (ds:=[.int c5,.int (j:Int)]) (cons_of (by rw[o6 (ds:=[.lst (ns.map .int),.int 5]) rfl];exact h5) rfl)];exact hz) hq]
    exact Gw.y90 _ _ Z) rfl]
   rfl)⟩
  have b2:ob (o2 (gv 0) (gv 3) M5) [.sh (.int (j:Int)),.sh (.lst (ns.map .int)),.sh (.int t),.sh (.int (x:Int))]=some (!((j:Int)==(x:Int))):=Bw.T4 (by
   rw[p7 (x:=.int (j:Int)) (y:=.int (x:Int)) rfl rfl];rfl)
  obtain⟨b,hb⟩:=b1;unfold K5;rw[hb,Option.bind_some];cases b with
  | false=>exact⟨false,rfl,λz=>nomatch z⟩
  | true =>
   refine⟨!((j:Int)==(x:Int)),b2,λz e=>?_⟩;subst e;simp at z)
 rw[List.length_range'] at a0;have O:∀s∈S,s<ps.length/\s≠x:=λs hs=>⟨by obtain⟨i,hi,e⟩:=List.mem_range'.mp (hS s hs).1;omega,(hS s hs).2⟩
 obtain⟨a6,a7,a8,a9,L,o1⟩:=c50 ns F J (.sh (.int t)) hx (.sh (.lst (nd S))) (S:=[]) (λs hs=>by cases hs) (by simp) .un .un .un .un .un;obtain⟨b6,b7,b8,b9,a2,Y⟩:=c50 ns F J (.sh (.int t)) hx (.sh (.lst (nd S))) O (by omega) a6 a7 a8 a9 L;refine Z2 rfl (u5 (j8 (d:=wd ps) ?_) (u5 (j8 (d:=.int t) ?_) (u5 (j8 (d:=.int (x:Int)) ?_) (u5 (j8 (d:=.lst (nd S)) ?_) (u5 (δ':=[.sh (.lst (ns.map .int)),.sh (wd ps),.sh (.int t),.sh (.int (x:Int)),.sh (.lst (nd S)),.sh (.lst (nd S)),b6,b7,b8,b9,a2]) (zd0 (items:=[.lst (nd []),.lst (nd S)]) ?_ ?_) (m9 rfl))))))
 ·rw[o6 (ds:=[.lst (ns.map .int),.int 30]) rfl];exact a1
 ·rw[o6 (ds:=[.lst (ns.map .int),.int 4]) rfl];exact ht
 ·change o2 _ _ _ [.sh (.lst (ns.map .int)),.sh (wd ps),.sh (.int t),.un,.un,.un,.un,.un,.un,.un,.un]=_
  rw[p7 (x:=.int t) (y:=.int (ps.length:Int)) rfl (ln (gv 1) _ rfl),Gw.y90 _ _ (by omega),ex]
 ·refine U0 (items:=nd (List.range' 0 ps.length)) ?_ (by rw[V7,List.length_range'];omega) eS
  have:G6 (z9 (oA (z9 (gv 1) v6) Z5) v6) [.sh (.lst (ns.map .int)),.sh (wd ps),.sh (.int t),.sh (.int (x:Int)),.un,.un,.un,.un,.un,.un,.un]=some (S5 0 (ps.length:Int)):=xr0 (cons_of (ln (gv 1) _ rfl) rfl) (by omega) (by omega);rw[g20] at this;exact this
 ·show (Y7 (z9 (Y0 v6) (z9 (gv 4) v6)) _).bind oe0=_
  rw[U7 (ds:=[.lst [],.lst (nd S)]) (cons_of (y50 rfl (by show 0<=sizeLine;omega)) (cons_of rfl rfl)) (by show 2<=sizeLine;omega)];rfl
 ·change M4 (gN 5) OB [.lst (nd []),.lst (nd S)] _=_
  rw[w60 (f:=gN 5) rfl o1,w60 (f:=gN 5) (δ1:=[.sh (.lst (ns.map .int)),.sh (wd ps),.sh (.int t),.sh (.int (x:Int)),.sh (.lst (nd S)),.sh (.lst (nd S)),a6,a7,a8,a9,L]) rfl Y];rfl
end Ra
namespace Ra
open L2 DL W
def top(i:Nat):Stmt:=PySem.Challenge.pw_graphpack_k23_whole_copies_stand_alone.main.body.getD i (.Pass ⟨0,0,0,0⟩)
theorem b_bool:bootBuiltins "bool"=some (.type "bool"):=by decide +kernel
theorem b_dict:bootBuiltins "dict"=some (.type "dict"):=by decide +kernel
theorem b_int:bootBuiltins "int"=some (.type "int"):=by decide +kernel
theorem b_list:bootBuiltins "list"=some (.type "list"):=by decide +kernel
theorem b_sorted:bootBuiltins "sorted"=some (.builtin "sorted"):=by decide +kernel
theorem b_str:bootBuiltins "str"=some (.type "str"):=by decide +kernel
theorem b_tuple:bootBuiltins "tuple"=some (.type "tuple"):=by decide +kernel
theorem b_zip:bootBuiltins "zip"=some (.type "zip"):=by decide +kernel
structure Txt(mg:Str->Option Value):Prop where
 b_bool:mg "bool"=none
 b_dict:mg "dict"=none
 b_enumerate:mg "enumerate"=none
 b_int:mg "int"=none
 b_isinstance:mg "isinstance"=none
 b_len:mg "len"=none
 b_list:mg "list"=none
 b_range:mg "range"=none
 b_reversed:mg "reversed"=none
 b_sorted:mg "sorted"=none
 b_str:mg "str"=none
 b_tuple:mg "tuple"=none
 b_zip:mg "zip"=none
 c_MOST_PARTS:∃t,mg "MOST_PARTS"=some (.int 60 t)
section
variable{P:Program}{w:World}
theorem ly0:FnScope ["thing"] ["thing"] (u9 (top 7)):=⟨rfl,rfl,rfl,by decide +kernel,rfl,by decide +kernel,by decide +kernel⟩
theorem ln0(F:Fun K "is_whole" "is_whole" (top 7) fa fd)(T:Txt mg)  : FnOk P w K mg base CX0 1 fa fd ["thing"] (spD K zl0) :=
 okD (k:=0) (G:=rn0) F ly0 (λcdv A outer s H E hr=>(v5 (m7 (xh0 (yb0 au0 b_int T.b_isinstance T.b_int (w6 0)) (v80 (Yd0 (yb0 el0 b_bool T.b_isinstance T.b_bool (w6 0))))))
   v9)) (λds d h=>W6 h)
theorem m00:FnScope ["thing", "mark", "count"] ["thing", "mark", "count"] (u9 (top 8)):=⟨rfl,rfl,rfl,by decide +kernel,rfl,by decide +kernel,by decide +kernel⟩
theorem m20(F:Fun K "is_marked" "is_marked" (top 8) fa fd)(T:Txt mg)  : FnOk P w K mg base CX0 1 fa fd ["thing", "mark", "count"] (spD K yt0) :=
 okD (k:=0) (G:=tw0) F m00 (λcdv A outer s H E hr=>(v5 (m7 (xh0 (yb0 y30 b_tuple T.b_isinstance T.b_tuple (w6 0)) (xh0 (yd0 N8 S8 (W8 T.b_len (v4 (w6 0) v7)) (w6 2)) (xh0 (yb0 bp0 b_str T.b_isinstance T.b_str (o5 (w6 0) u6)) (v80 (yd0 N8 S8 (o5 (w6 0) u6) (w6 1)))))))
   v9)) (λds d h=>W6 h)
theorem ju0:FnScope ["thing"] ["thing"] (u9 (top 9)):=⟨rfl,rfl,rfl,by decide +kernel,rfl,by decide +kernel,by decide +kernel⟩
theorem jn0(F:Fun K "is_link" "is_link" (top 9) fa fd)(T:Txt mg)(C_is_marked:FnD P w K mg base "is_marked" 1 ["thing", "mark", "count"] yt0)(C_is_whole:FnD P w K mg base "is_whole" 1 ["thing"] zl0):FnOk P w K mg base CX0 2 fa fd ["thing"] (spD K M8) :=
 okD (k:=1) (G:=pn0) F ju0 (λcdv A outer s H E hr=>(v5 (m7 (xh0 (d7 C_is_marked hr (by decide) (v4 (w6 0) (v4 Y4 (v4 u6 v7)))) (xh0 (d7 C_is_whole hr (by decide) (v4 (o5 (w6 0) u6) v7)) (v80 (yd0 oa0 rs0 (o5 (w6 0) u6) u6)))))
   v9)) (λds d h=>W6 h)
theorem lt0:FnScope ["thing"] ["thing"] (u9 (top 10)):=⟨rfl,rfl,rfl,by decide +kernel,rfl,by decide +kernel,by decide +kernel⟩
theorem k00(F:Fun K "is_value" "is_value" (top 10) fa fd)(T:Txt mg)(C_is_link:FnD P w K mg base "is_link" 2 ["thing"] M8)(C_is_whole:FnD P w K mg base "is_whole" 1 ["thing"] zl0):FnOk P w K mg base CX0 3 fa fd ["thing"] (spD K G5) :=
 okD (k:=2) (G:=rp0) F lt0 (λcdv A outer s H E hr=>(v5 (m7 (cj0 (yd0 sj0 t80 (w6 0) J3) (cj0 (d7 C_is_whole hr (by decide) (v4 (w6 0) v7)) (v80 (d7 C_is_link hr (by decide) (v4 (w6 0) v7))))))
   v9)) (λds d h=>W6 h)
theorem ps0:FnScope ["part"] ["part"] (u9 (top 11)):=⟨rfl,rfl,rfl,by decide +kernel,rfl,by decide +kernel,by decide +kernel⟩
theorem o00(F:Fun K "pair_names" "pair_names" (top 11) fa fd)(T:Txt mg)  : FnOk P w K mg base CX0 1 fa fd ["part"] (spN K R7) :=
 okN (k:=0) (G:=uq0) F ps0 (λcdv A outer s H E hr=>(v5 (j9 (PWD.pt (va0 (o9 N8 S8 (o5 (w6 0) u6) Y4) (ve0 (o9 N8 S8 (o5 (w6 0) u6) Y4))))
   (v5 (Q7 (Q5 v7))
   v9)
   v9)
   (v5 (Q7 (w70 (sc:=u9 (top 11)) (N:=["part"]) (N':=["pair"]) (n:=1) (caps:=[]) ⟨rfl,by decide +kernel,by decide +kernel,by decide +kernel,by decide +kernel,rfl,by decide +kernel⟩ (by decide) (wt0 (o5 (w6 0) (nq0 u6))) (λcl s H ex=>p8 0 (by decide +kernel:(["pair"]:List Str).Nodup)) (λcl s H ex=>z10) (λcl s H ex=>(o5 (w6 0) u6))))
   v9))) (λds d h=>zt0 h)
theorem cm0:FnScope ["part"] ["part"] (u9 (top 12)):=⟨rfl,rfl,rfl,by decide +kernel,rfl,by decide +kernel,by decide +kernel⟩
theorem ad0(F:Fun K "head" "head" (top 12) fa fd)(T:Txt mg)(C_pair_names:FnN P w K mg base "pair_names" 1 ["part"] R7):FnOk P w K mg base CX0 2 fa fd ["part"] (spD K Q9) :=
 okD (k:=1) (G:=fd0) F cm0 (λcdv A outer s H E hr=>(v5 (j9 (o9 N8 S8 (o5 (w6 0) u6) Y4)
   (v5 (m7 (W2 (v4 Y4 (v4 (o5 (w6 0) u6) v7))))
   v9)
   v9)
   (v5 (j9 (o9 N8 S8 (o5 (w6 0) u6) Y4)
   (v5 (m7 (W2 (v4 Y4 (v4 (W8 T.b_len (v4 (o5 (w6 0) u6) v7)) v7))))
   v9)
   v9)
   (v5 (j9 (o9 N8 S8 (o5 (w6 0) u6) Y4)
   (v5 (m7 (W2 (v4 Y4 (v4 (O4 T8 xb0 T.b_tuple b_tuple (v4 (Q8 C_pair_names hr (by decide) (v4 (w6 0) v7)) v7)) v7))))
   v9)
   v9)
   (v5 (m7 (W2 (v4 Y4 (v4 (o5 (w6 0) u6) (v4 (O4 T8 xb0 T.b_tuple b_tuple (v4 (Q8 C_pair_names hr (by decide) (v4 (w6 0) v7)) v7)) v7)))))
   v9))))) (λds d h=>W6 h)
theorem gw0:FnScope ["part"] ["part"] (u9 (top 13)):=⟨rfl,rfl,rfl,by decide +kernel,rfl,by decide +kernel,by decide +kernel⟩
theorem gj0(F:Fun K "values" "values" (top 13) fa fd)(T:Txt mg)  : FnOk P w K mg base CX0 1 fa fd ["part"] (spN K m_values) :=
 okN (k:=0) (G:=oy0) F gw0 (λcdv A outer s H E hr=>(v5 (j9 (o9 N8 S8 (o5 (w6 0) u6) Y4)
   (v5 (Q7 (Q5 v7))
   v9)
   v9)
   (v5 (j9 (o9 N8 S8 (o5 (w6 0) u6) Y4)
   (v5 (Q7 (ot0 T.b_list b_list (o5 (w6 0) u6)))
   v9)
   v9)
   (v5 (Q7 (w70 (sc:=u9 (top 13)) (N:=["part"]) (N':=["pair"]) (n:=1) (caps:=[]) ⟨rfl,by decide +kernel,by decide +kernel,by decide +kernel,by decide +kernel,rfl,by decide +kernel⟩ (by decide) (wt0 (o5 (w6 0) (nq0 u6))) (λcl s H ex=>p8 0 (by decide +kernel:(["pair"]:List Str).Nodup)) (λcl s H ex=>z10) (λcl s H ex=>(o5 (w6 0) u6))))
   v9)))) (λds d h=>zt0 h)
theorem ww0:FnScope ["part", "some", "pairs"] ["part", "some"] (u9 (top 14)):=⟨rfl,rfl,rfl,by decide +kernel,rfl,by decide +kernel,by decide +kernel⟩
theorem qi0(F:Fun K "with_values" "with_values" (top 14) fa fd)(T:Txt mg)(C_pair_names:FnN P w K mg base "pair_names" 1 ["part"] R7):FnOk P w K mg base CX0 2 fa fd ["part", "some"] (spD K V1) :=
 okD (k:=1) (G:=u30) F ww0 (λcdv A outer s H E hr=>(v5 (j9 (o9 N8 S8 (o5 (w6 0) u6) Y4)
   (v5 (m7 (w6 0))
   v9)
   v9)
   (v5 (j9 (o9 N8 S8 (o5 (w6 0) u6) Y4)
   (v5 (m7 (W2 (v4 Y4 (v4 (O4 T8 xb0 T.b_tuple b_tuple (v4 (w6 1) v7)) v7))))
   v9)
   v9)
   (v5 (j5 (h80 q00 il0 T.b_tuple T.b_zip b_tuple b_zip (v4 (Q8 C_pair_names hr (by decide) (v4 (w6 0) v7)) (v4 (w6 1) v7))) (p8 2 ww0.nd))
   (v5 (j9 (o9 N8 S8 (o5 (w6 0) u6) Y4)
   (v5 (m7 (W2 (v4 Y4 (v4 (w6 2) v7))))
   v9)
   v9)
   (v5 (m7 (W2 (v4 Y4 (v4 (o5 (w6 0) u6) (v4 (w6 2) v7)))))
   v9)))))) (λds d h=>W6 h)
theorem ed0:FnScope ["part"] ["part"] (u9 (top 15)):=⟨rfl,rfl,rfl,by decide +kernel,rfl,by decide +kernel,by decide +kernel⟩
theorem e40(F:Fun K "links" "links" (top 15) fa fd)(T:Txt mg)(C_values:FnN P w K mg base "values" 1 ["part"] m_values):FnOk P w K mg base CX0 2 fa fd ["part"] (spN K zk0) :=
 okN (k:=1) (G:=kz0) F ed0 (λcdv A outer s H E hr=>(v5 (Q7 (w70 (sc:=u9 (top 15)) (N:=["part"]) (N':=["value"]) (n:=1) (caps:=[]) ⟨rfl,by decide +kernel,by decide +kernel,by decide +kernel,by decide +kernel,rfl,by decide +kernel⟩ (by decide) (K1 (Q8 C_values hr (by decide) (v4 (w6 0) v7))) (λcl s H ex=>p8 0 (by decide +kernel:(["value"]:List Str).Nodup)) (λcl s H ex=>(v30 (zg0 (yb0 y30 b_tuple T.b_isinstance T.b_tuple (w6 0))))) (λcl s H ex=>(o5 (w6 0) u6))))
   v9)) (λds d h=>zt0 h)
theorem Y00:FnScope ["web", "k"] ["web", "k"] (u9 (top 16)):=⟨rfl,rfl,rfl,by decide +kernel,rfl,by decide +kernel,by decide +kernel⟩
theorem in0(F:FunV K "met" "met" (top 16) fa fd dV)(T:Txt mg)(C_met_but:FnN P w K mg base "met_but" 3 ["web", "k", "left"] O6):FnOk P w K mg base CX0 4 fa fd ["web", "k"] (spN K vm0) :=
 U50 (k:=3) (G:=c80) F Y00 (λcdv A outer s H E hr=>(v5 (Q7 (u90 C_met_but hr (by decide) (v4 (w6 0) (v4 (w6 1) (v4 d90 v7)))))
   v9)) (λds d h=>zt0 h)
theorem y70:FnScope ["web", "k", "left", "order", "seen", "waiting", "part"] ["web", "k", "left"] (u9 (top 17)):=⟨rfl,rfl,rfl,by decide +kernel,rfl,by decide +kernel,by decide +kernel⟩
theorem jk0(F:Fun K "met_but" "met_but" (top 17) fa fd)(T:Txt mg)(C_links:FnN P w K mg base "links" 2 ["part"] zk0):FnOk P w K mg base CX0 3 fa fd ["web", "k", "left"] (spN K O6) :=
 okN (k:=2) (G:=qz0) F y70 (λcdv A outer s H E hr=>(v5 (T7 3 (Q5 v7) y70.nd)
   (v5 (T7 4 (jo0 T.b_dict b_dict (w6 2)) y70.nd)
   (v5 (T7 5 (Q5 (v4 (w6 1) v7)) y70.nd)
   (v5 (wf0 100000 D2 (o9 ob0 r00 (vh0 (W8 T.b_len (v4 (w6 5) v7))) u6)
   (v5 (J9 (iv0 5) (rc0 (p8 6 y70.nd)))
   (v5 (j9 (q50 (ns0 (yu0 hr) (w6 6) (w6 4)))
   (v5 (J9 (yo0 t90) (qo0 4 (yu0 hr) (w6 6)))
   (v5 (Q3 (yw0 3 (w6 6)))
   (v5 (Q3 (mo0 5 (PDF.pd (oz0 T.b_list T.b_reversed (Q8 C_links hr (by decide) (v4 (o5 (w6 0) (w6 6)) v7))))))
   v9)))
   v9)
   v9)))
   (v5 (vq0 3)
   v9)))))) (λds d h=>zt0 h)
theorem tx0:FnScope ["part", "numbers", "some"] ["part", "numbers"] (u9 (top 18)):=⟨rfl,rfl,rfl,by decide +kernel,rfl,by decide +kernel,by decide +kernel⟩
theorem lc0(F:Fun K "relinked" "relinked" (top 18) fa fd)(T:Txt mg)(C_values:FnN P w K mg base "values" 1 ["part"] m_values)(C_with_values:FnD P w K mg base "with_values" 2 ["part", "some"] V1):FnOk P w K mg base CX0 3 fa fd ["part", "numbers"] (spD K R4) :=
 okD (k:=2) (G:=rd0) F tx0 (λcdv A outer s H E hr=>(v5 (s30 2 tx0.nd (sc:=u9 (top 18)) (N:=["part", "numbers", "some"]) (N':=["value", "numbers"]) (n:=1) (caps:=[1]) ⟨rfl,by decide +kernel,by decide +kernel,by decide +kernel,by decide +kernel,rfl,by decide +kernel⟩ (by decide) (K1 (Q8 C_values hr (by decide) (v4 (w6 0) v7))) (λcl s H ex=>p8 0 (by decide +kernel:(["value", "numbers"]:List Str).Nodup)) (λcl s H ex=>z10) (λcl s H ex=>(dz0 (zg0 (yb0 y30 b_tuple T.b_isinstance T.b_tuple (w6 0))) (W2 (v4 Y4 (v4 (th0 (yu0 hr) (w6 1) (o5 (w6 0) u6)) v7))) (w6 0))))
   (v5 (m7 (d7 C_with_values hr (by decide) (v4 (w6 0) (v4 (w6 2) v7))))
   v9))) (λds d h=>W6 h)
theorem vk0:FnScope ["web", "k", "order", "numbers", "number", "part"] ["web", "k"] (u9 (top 19)):=⟨rfl,rfl,rfl,by decide +kernel,rfl,by decide +kernel,by decide +kernel⟩
theorem ni0(F:FunV K "drawn" "drawn" (top 19) fa fd dV)(T:Txt mg)(C_met:FnN P w K mg base "met" 4 ["web", "k"] vm0)(C_relinked:FnD P w K mg base "relinked" 3 ["part", "numbers"] R4):FnOk P w K mg base CX0 5 fa fd ["web", "k"] (spD K U8) :=
 Zn0 (k:=4) (G:=kg0) F vk0 (λcdv A outer s H E hr=>(v5 (j5 (oo0 (u90 C_met hr (by decide) (v4 (w6 0) (v4 (w6 1) v7)))).pd (p8 2 vk0.nd))
   (v5 (T7 3 h00 vk0.nd)
   (v5 (K9 D2 rfl (en0 T.b_enumerate (v4 (w6 2) v7)) (yn0 4 5 vk0.nd (by decide))
   (v5 (J9 (yo0 (w6 4)) (qo0 3 (yu0 hr) (w6 5)))
   v9))
   (v5 (y00 (O4 T8 xb0 T.b_tuple b_tuple (v4 (yq0 (sc:=u9 (top 19)) (N:=["web", "k", "order", "numbers", "number", "part"]) (N':=["part", "web", "numbers"]) (n:=1) (caps:=[0,3]) ⟨rfl,by decide +kernel,by decide +kernel,by decide +kernel,by decide +kernel,rfl,by decide +kernel⟩ (by decide) (K1 (w6 2)) (λcl s H ex=>p8 0 (by decide +kernel:(["part", "web", "numbers"]:List Str).Nodup)) (λcl s H ex=>z10) (λcl s H ex=>(d7 C_relinked hr (by decide) (v4 (o5 (w6 1) (w6 0)) (v4 (w6 2) v7))))) v7)))
   v9))))) (λds d h=>W6 h)
theorem ho0:FnScope ["web", "k", "place", "value", "some"] ["web", "k", "place", "value"] (u9 (top 21)):=⟨rfl,rfl,rfl,by decide +kernel,rfl,by decide +kernel,by decide +kernel⟩
theorem Xy0(F:Fun K "put" "put" (top 21) fa fd)(T:Txt mg)(C_is_link:FnD P w K mg base "is_link" 2 ["thing"] M8)(C_is_value:FnD P w K mg base "is_value" 3 ["thing"] G5)(C_values:FnN P w K mg base "values" 1 ["part"] m_values)(C_with_values:FnD P w K mg base "with_values" 2 ["part", "some"] V1):FnOk P w K mg base CX0 4 fa fd ["web", "k", "place", "value"] (spD K te0) :=
 okD (k:=3) (G:=ci0) F ho0 (λcdv A outer s H E hr=>(v5 (j9 (PWD.pt (va0 (o9 yr0 zu0 (w6 1) u6) (ve0 (o9 oa0 rs0 (w6 1) (W8 T.b_len (v4 (w6 0) v7))))))
   (v5 xd0
   v9)
   v9)
   (v5 (T7 4 (u90 C_values hr (by decide) (v4 (o5 (w6 0) (w6 1)) v7)) ho0.nd)
   (v5 (j9 (PWD.pt (va0 (o9 yr0 zu0 (w6 2) u6) (ve0 (o9 oa0 rs0 (w6 2) (vh0 (W8 T.b_len (v4 (w6 4) v7)))))))
   (v5 xd0
   v9)
   v9)
   (v5 (j9 (kk0 (zg0 (d7 C_is_value hr (by decide) (v4 (w6 3) v7))))
   (v5 xd0
   v9)
   v9)
   (v5 (j9 (PWD.pt (t30 (zg0 (d7 C_is_link hr (by decide) (v4 (w6 3) v7))) (vs0 (o9 oa0 rs0 (o5 (w6 3) u6) (W8 T.b_len (v4 (w6 0) v7))))))
   (v5 xd0
   v9)
   v9)
   (v5 (J9 (yo0 (w6 3)) (b00 4 (w6 2)))
   (v5 (y00 (X6 (X6 (Q0 (w6 0) K3 (Q6 (w6 1))) (W2 (v4 (d7 C_with_values hr (by decide) (v4 (o5 (w6 0) (w6 1)) (v4 (w6 4) v7))) v7))) (Q0 (w6 0) (Q6 (X6 (w6 1) u6)) K3)))
   v9)))))))) (λds d h=>W6 h)
theorem wp0:FnScope ["web", "k", "kept", "numbers", "order", "number", "part"] ["web", "k", "kept"] (u9 (top 22)):=⟨rfl,rfl,rfl,by decide +kernel,rfl,by decide +kernel,by decide +kernel⟩
theorem p30(F:FunV K "copied" "copied" (top 22) fa fd dV)(T:Txt mg)(C_met_but:FnN P w K mg base "met_but" 3 ["web", "k", "left"] O6)(C_relinked:FnD P w K mg base "relinked" 3 ["part", "numbers"] R4):FnOk P w K mg base CX0 4 fa fd ["web", "k", "kept"] (spD K y20) :=
 Zn0 (k:=3) (G:=l40) F wp0 (λcdv A outer s H E hr=>(v5 (T7 3 (h20 (q0 (C00 (by decide:2<=64) _) hr.units) rfl T.b_dict b_dict (yq0 (sc:=u9 (top 22)) (N:=["web", "k", "kept", "numbers", "order", "number", "part"]) (N':=["part"]) (n:=1) (caps:=[]) ⟨rfl,by decide +kernel,by decide +kernel,by decide +kernel,by decide +kernel,rfl,by decide +kernel⟩ (by decide) (K1 (dz0 (o9 sj0 t80 (w6 2) J3) (J5 v7) (w6 2))) (λcl s H ex=>p8 0 (by decide +kernel:(["part"]:List Str).Nodup)) (λcl s H ex=>z10) (λcl s H ex=>(W2 (v4 (w6 0) (v4 (w6 0) v7)))))) wp0.nd)
   (v5 (j5 (oo0 (u90 C_met_but hr (by decide) (v4 (w6 0) (v4 (w6 1) (v4 (w6 3) v7))))).pd (p8 4 wp0.nd))
   (v5 (j9 (o9 ob0 r00 (X6 (W8 T.b_len (v4 (w6 0) v7)) (W8 T.b_len (v4 (w6 4) v7))) (bh0 T.c_MOST_PARTS))
   (v5 xd0
   v9)
   v9)
   (v5 (K9 D2 rfl (fv0 T.b_enumerate (v4 (w6 4) v7) (W8 T.b_len (v4 (w6 0) v7))) (yn0 5 6 wp0.nd (by decide))
   (v5 (J9 (yo0 (w6 5)) (qo0 3 (yu0 hr) (w6 6)))
   v9))
   (v5 (y00 (W2 (v4 (X6 (w6 0) (O4 T8 xb0 T.b_tuple b_tuple (v4 (yq0 (sc:=u9 (top 22)) (N:=["web", "k", "kept", "numbers", "order", "number", "part"]) (N':=["part", "web", "numbers"]) (n:=1) (caps:=[0,3]) ⟨rfl,by decide +kernel,by decide +kernel,by decide +kernel,by decide +kernel,rfl,by decide +kernel⟩ (by decide) (K1 (w6 4)) (λcl s H ex=>p8 0 (by decide +kernel:(["part", "web", "numbers"]:List Str).Nodup)) (λcl s H ex=>z10) (λcl s H ex=>(d7 C_relinked hr (by decide) (v4 (o5 (w6 1) (w6 0)) (v4 (w6 2) v7))))) v7))) (v4 (th0 (yu0 hr) (w6 3) (w6 1)) v7))))
   v9)))))) (λds d h=>W6 h)
theorem vz0:FnScope ["web", "p", "q", "walk"] ["web", "p", "q"] (u9 (top 24)):=⟨rfl,rfl,rfl,by decide +kernel,rfl,by decide +kernel,by decide +kernel⟩
theorem pv0(F:Fun K "look_table" "look_table" (top 24) fa fd)(T:Txt mg)(C_paired_walk:FnD P w K mg base "paired_walk" 4 ["one", "other", "start"] X5):FnOk P w K mg base CX0 5 fa fd ["web", "p", "q"] (spD K O9) :=
 okD (k:=4) (G:=uo0) F vz0 (λcdv A outer s H E hr=>(v5 (j5 (d7 C_paired_walk hr (by decide) (v4 (w6 0) (v4 (w6 0) (v4 (W2 (v4 (w6 1) (v4 (w6 2) v7))) v7)))) (p8 3 vz0.nd))
   (v5 (j9 (o9 km0 mz0 (o5 (w6 3) u6) J3)
   (v5 (m7 J3)
   v9)
   v9)
   (v5 (m7 (PDF.pd (g50 rfl T.b_sorted b_sorted (o5 (w6 3) u6))))
   v9)))) (λds d h=>W6 h)
theorem S9:FnScope ["one", "other", "start", "came", "waiting", "number", "pair", "place", "both"] ["one", "other", "start"] (u9 (top 25)):=⟨rfl,rfl,rfl,by decide +kernel,rfl,by decide +kernel,by decide +kernel⟩
theorem q30(F:Fun K "paired_walk" "paired_walk" (top 25) fa fd)(T:Txt mg)(C_are_links:FnD P w K mg base "are_links" 1 ["both"] V0)(C_are_parting:FnD P w K mg base "are_parting" 3 ["one", "other", "both"] U4)(C_head:FnD P w K mg base "head" 2 ["part"] Q9)(C_linked_pair:FnD P w K mg base "linked_pair" 1 ["both"] Z0)(C_values:FnN P w K mg base "values" 1 ["part"] m_values)(C_way_to:FnN P w K mg base "way_to" 1 ["came", "pair"] zx0):FnOk P w K mg base CX0 4 fa fd ["one", "other", "start"] (spD K X5) :=
 okD (k:=3) (G:=u10) F S9 (λcdv A outer s H E hr=>(v5 (T7 3 (h90 (q0 (C4 _ 64) hr.units) (w6 2) J3) S9.nd)
   (v5 (j9 (o9 (y80 hr.units) zh0 (d7 C_head hr (by decide) (v4 (o5 (w6 0) (o5 (w6 2) u6)) v7)) (d7 C_head hr (by decide) (v4 (o5 (w6 1) (o5 (w6 2) u6)) v7)))
   (v5 (y00 (W2 (v4 (w6 3) (v4 (J5 v7) v7))))
   v9)
   v9)
   (v5 (T7 4 (Q5 (v4 (w6 2) v7)) S9.nd)
   (v5 (j5 u6 (p8 5 S9.nd))
   (v5 (wf0 100000 D2 (o9 yr0 zu0 (w6 5) (vh0 (W8 T.b_len (v4 (w6 4) v7))))
   (v5 (j5 (Z30 (o5 (w6 4) (w6 5))) (p8 6 S9.nd))
   (v5 (aj0 5 S9.nd u6)
   (v5 (K9 D2 rfl (gn0 T.b_enumerate T.b_zip (v4 (Q8 C_values hr (by decide) (v4 (o5 (w6 0) (o5 (w6 6) u6)) v7)) (v4 (Q8 C_values hr (by decide) (v4 (o5 (w6 1) (o5 (w6 6) u6)) v7)) v7))) (yn0 7 8 S9.nd (by decide))
   (v5 (j9 (zg0 (d7 C_are_parting hr (by decide) (v4 (w6 0) (v4 (w6 1) (v4 (w6 8) v7)))))
   (v5 (y00 (W2 (v4 (w6 3) (v4 (X6 (Q8 C_way_to hr (by decide) (v4 (w6 3) (v4 (w6 6) v7))) (J5 (v4 (w6 7) v7))) v7))))
   v9)
   v9)
   (v5 (j9 (PWD.pt (t30 (zg0 (d7 C_are_links hr (by decide) (v4 (w6 8) v7))) (vs0 (q50 (ns0 (yu0 hr) (d7 C_linked_pair hr (by decide) (v4 (w6 8) v7)) (w6 3))))))
   (v5 (J9 (yo0 (W2 (v4 (w6 6) (v4 (w6 7) v7)))) (dg0 3 (yu0 hr) (d7 C_linked_pair hr (by decide) (v4 (w6 8) v7))))
   (v5 (Q3 (yw0 4 (d7 C_linked_pair hr (by decide) (v4 (w6 8) v7))))
   v9))
   v9)
   v9)))
   v9))))
   (v5 (y00 (W2 (v4 (w6 3) (v4 J3 v7))))
   v9))))))) (λds d h=>W6 h)
theorem wh0:FnScope ["came", "pair", "backward", "step"] ["came", "pair"] (u9 (top 26)):=⟨rfl,rfl,rfl,by decide +kernel,rfl,by decide +kernel,by decide +kernel⟩
theorem ge0(F:Fun K "way_to" "way_to" (top 26) fa fd)(T:Txt mg)  : FnOk P w K mg base CX0 1 fa fd ["came", "pair"] (spN K zx0) :=
 okN (k:=0) (G:=ox0) F wh0 (λcdv A outer s H E hr=>(v5 (T7 2 (Q5 v7) wh0.nd)
   (v5 (j5 (th0 (yu0 hr) (w6 0) (w6 1)) (p8 3 wh0.nd))
   (v5 (wf0 100000 D2 (o9 km0 mz0 (w6 3) J3)
   (v5 (Q3 (yw0 2 (o5 (w6 3) u6)))
   (v5 (j5 (th0 (yu0 hr) (w6 0) (o5 (w6 3) u6)) (p8 3 wh0.nd))
   v9)))
   (v5 (fh0 (oz0 T.b_list T.b_reversed (w6 2)))
   v9))))) (λds d h=>zt0 h)
theorem me0:FnScope ["both"] ["both"] (u9 (top 27)):=⟨rfl,rfl,rfl,by decide +kernel,rfl,by decide +kernel,by decide +kernel⟩
theorem l90(F:Fun K "are_links" "are_links" (top 27) fa fd)(T:Txt mg)  : FnOk P w K mg base CX0 1 fa fd ["both"] (spD K V0) :=
 okD (k:=0) (G:=tr0) F me0 (λcdv A outer s H E hr=>(v5 (m7 (xh0 (yb0 y30 b_tuple T.b_isinstance T.b_tuple (o5 (w6 0) u6)) (v80 (yb0 y30 b_tuple T.b_isinstance T.b_tuple (o5 (w6 0) u6)))))
   v9)) (λds d h=>W6 h)
theorem qd0:FnScope ["both"] ["both"] (u9 (top 28)):=⟨rfl,rfl,rfl,by decide +kernel,rfl,by decide +kernel,by decide +kernel⟩
theorem qg0(F:Fun K "linked_pair" "linked_pair" (top 28) fa fd)(T:Txt mg)  : FnOk P w K mg base CX0 1 fa fd ["both"] (spD K Z0) :=
 okD (k:=0) (G:=vv0) F qd0 (λcdv A outer s H E hr=>(v5 (m7 (W2 (v4 (o5 (o5 (w6 0) u6) u6) (v4 (o5 (o5 (w6 0) u6) u6) v7))))
   v9)) (λds d h=>W6 h)
theorem wz0:FnScope ["one", "other", "both", "pair"] ["one", "other", "both"] (u9 (top 29)):=⟨rfl,rfl,rfl,by decide +kernel,rfl,by decide +kernel,by decide +kernel⟩
theorem qk0(F:Fun K "are_parting" "are_parting" (top 29) fa fd)(T:Txt mg)(C_are_links:FnD P w K mg base "are_links" 1 ["both"] V0)(C_head:FnD P w K mg base "head" 2 ["part"] Q9)(C_linked_pair:FnD P w K mg base "linked_pair" 1 ["both"] Z0):FnOk P w K mg base CX0 3 fa fd ["one", "other", "both"] (spD K U4) :=
 okD (k:=2) (G:=u40) F wz0 (λcdv A outer s H E hr=>(v5 (j9 (zg0 (d7 C_are_links hr (by decide) (v4 (w6 2) v7)))
   (v5 (j5 (d7 C_linked_pair hr (by decide) (v4 (w6 2) v7)) (p8 3 wz0.nd))
   (v5 (m7 (yd0 (y80 hr.units) zh0 (d7 C_head hr (by decide) (v4 (o5 (w6 0) (o5 (w6 3) u6)) v7)) (d7 C_head hr (by decide) (v4 (o5 (w6 1) (o5 (w6 3) u6)) v7))))
   v9))
   v9)
   (v5 (m7 (yd0 (y80 hr.units) zh0 (o5 (w6 2) u6) (o5 (w6 2) u6)))
   v9))) (λds d h=>W6 h)
theorem sy0:FnScope ["_law_script", "_law_k"] ["_law_script", "_law_k"] (u9 (top 31)):=⟨rfl,rfl,rfl,by decide +kernel,rfl,by decide +kernel,by decide +kernel⟩
theorem sx0(F:Fun K "_law_cell_at" "_law_cell_at" (top 31) fa fd)(T:Txt mg)  : FnOk P w K mg base CX0 1 fa fd ["_law_script", "_law_k"] (spD K j6) :=
 okD (k:=0) (G:=vg0) F sy0 (λcdv A outer s H E hr=>(v5 (j9 (o9 yr0 zu0 (w6 1) (W8 T.b_len (v4 (w6 0) v7)))
   (v5 (m7 (o5 (w6 0) (w6 1)))
   v9)
   v9)
   (v5 (m7 u6)
   v9))) (λds d h=>W6 h)
theorem W4:FnScope ["_law_cell", "_law_turn", "_law_signs", "_law_size", "_law_places", "_law_k", "_law_word", "_law_at", "_law_found", "_law_sign"] ["_law_cell", "_law_turn"] (u9 (top 32)):=⟨rfl,rfl,rfl,by decide +kernel,rfl,by decide +kernel,by decide +kernel⟩
theorem ny0(F:Fun K "_law_pool" "_law_pool" (top 32) fa fd)(T:Txt mg)  : FnOk P w K mg base CX0 1 fa fd ["_law_cell", "_law_turn"] (spN K z20) :=
 okN (k:=0) (G:=tn0) F W4 (λcdv A outer s H E hr=>(v5 (j5 Y4 (p8 2 W4.nd))
   (v5 (j5 (X6 u6 (X3 (w6 0) u6)) (p8 3 W4.nd))
   (v5 (j5 (V9 (w6 0) u6) (p8 0 W4.nd))
   (v5 (T7 4 (Q5 v7) W4.nd)
   (v5 (K9 D2 rfl (G4 T.b_range (v4 (w6 3) v7)) (p8 5 W4.nd)
   (v5 (Q3 (yw0 4 (X3 (w6 0) u6)))
   (v5 (j5 (V9 (w6 0) u6) (p8 0 W4.nd))
   v9)))
   (v5 (j5 (vh0 (aq0 Y4 (v4 (yq0 (sc:=u9 (top 32)) (N:=["_law_cell", "_law_turn", "_law_signs", "_law_size", "_law_places", "_law_k", "_law_word", "_law_at", "_law_found", "_law_sign"]) (N':=["_law_k", "_law_signs"]) (n:=1) (caps:=[2]) ⟨rfl,by decide +kernel,by decide +kernel,by decide +kernel,by decide +kernel,rfl,by decide +kernel⟩ (by decide) (K1 (w6 4)) (λcl s H ex=>p8 0 (by decide +kernel:(["_law_k", "_law_signs"]:List Str).Nodup)) (λcl s H ex=>z10) (λcl s H ex=>(o5 (w6 1) (w6 0)))) v7))) (p8 6 W4.nd))
   (v5 (j9 (o9 N8 S8 (X3 (V9 (w6 1) u6) u6) u6)
   (v5 (Q7 (w70 (sc:=u9 (top 32)) (N:=["_law_cell", "_law_turn", "_law_signs", "_law_size", "_law_places", "_law_k", "_law_word", "_law_at", "_law_found", "_law_sign"]) (N':=["_law_k", "_law_word"]) (n:=1) (caps:=[6]) ⟨rfl,by decide +kernel,by decide +kernel,by decide +kernel,by decide +kernel,rfl,by decide +kernel⟩ (by decide) (i80 T.b_range (v4 u6 (v4 u6 v7))) (λcl s H ex=>p8 0 (by decide +kernel:(["_law_k", "_law_word"]:List Str).Nodup)) (λcl s H ex=>z10) (λcl s H ex=>(Q0 (ah0 u6 (w6 1)) K3 (Q6 (w6 0))))))
   v9)
   v9)
   (v5 (j5 (X3 (w6 1) (w6 3)) (p8 7 W4.nd))
   (v5 (T7 8 (Q5 v7) W4.nd)
   (v5 (K9 D2 rfl (G4 T.b_range (v4 u6 v7)) (p8 5 W4.nd)
   (v5 (j5 (o5 (w6 2) (X3 (X6 (vh0 (o5 (w6 4) (w6 7))) (zm0 u6 (w6 5))) u6)) (p8 9 W4.nd))
   (v5 (Q3 (yw0 8 (X6 (X6 (Q0 (w6 6) K3 (Q6 (w6 7))) (w6 9)) (Q0 (w6 6) (Q6 (X6 (w6 7) u6)) K3))))
   v9)))
   (v5 (vq0 8)
   v9)))))))))))) (λds d h=>zt0 h)
theorem lb0:FnScope ["_law_cell", "_law_k"] ["_law_cell", "_law_k"] (u9 (top 33)):=⟨rfl,rfl,rfl,by decide +kernel,rfl,by decide +kernel,by decide +kernel⟩
theorem lm0(F:Fun K "_law_mix" "_law_mix" (top 33) fa fd)(T:Txt mg)  : FnOk P w K mg base CX0 1 fa fd ["_law_cell", "_law_k"] (spD K V3) :=
 okD (k:=0) (G:=ru0) F lb0 (λcdv A outer s H E hr=>(v5 (m7 (X3 (zm0 (X6 (X3 (w6 0) u6) u6) (X6 u6 (zm0 u6 (w6 1)))) u6))
   v9)) (λds d h=>W6 h)
theorem u00:FnScope ["_law_number", "_law_many", "_law_kind"] ["_law_number", "_law_many"] (u9 (top 34)):=⟨rfl,rfl,rfl,by decide +kernel,rfl,by decide +kernel,by decide +kernel⟩
theorem pw0(F:Fun K "_law_value" "_law_value" (top 34) fa fd)(T:Txt mg)  : FnOk P w K mg base CX0 1 fa fd ["_law_number", "_law_many"] (spD K T6) :=
 okD (k:=0) (G:=ug0) F u00 (λcdv A outer s H E hr=>(v5 (j5 (X3 (w6 0) u6) (p8 2 u00.nd))
   (v5 (j9 (o9 yr0 zu0 (w6 2) u6)
   (v5 (m7 (W2 (v4 Y4 (v4 (X3 (V9 (w6 0) u6) (w6 1)) v7))))
   v9)
   v9)
   (v5 (j9 (o9 N8 S8 (w6 2) u6)
   (v5 (m7 J3)
   v9)
   v9)
   (v5 (j9 (o9 yr0 zu0 (w6 2) u6)
   (v5 (m7 (ih0 (X3 (V9 (w6 0) u6) u6) u6))
   v9)
   v9)
   (v5 (m7 (zm0 (X3 (iq0 (V9 (w6 0) u6) u6) (iq0 u6 u6)) (ih0 u6 (zm0 u6 (X3 (V9 (w6 0) u6) u6)))))
   v9)))))) (λds d h=>W6 h)
theorem zj0:FnScope ["_law_number", "_law_count", "_law_many", "_law_found", "_law_k"] ["_law_number", "_law_count", "_law_many"] (u9 (top 35)):=⟨rfl,rfl,rfl,by decide +kernel,rfl,by decide +kernel,by decide +kernel⟩
theorem qc0(F:Fun K "_law_values" "_law_values" (top 35) fa fd)(T:Txt mg)(C__law_value:FnD P w K mg base "_law_value" 1 ["_law_number", "_law_many"] T6):FnOk P w K mg base CX0 2 fa fd ["_law_number", "_law_count", "_law_many"] (spN K M7) :=
 okN (k:=1) (G:=vx0) F zj0 (λcdv A outer s H E hr=>(v5 (T7 3 (Q5 v7) zj0.nd)
   (v5 (K9 D2 rfl (G4 T.b_range (v4 (w6 1) v7)) (p8 4 zj0.nd)
   (v5 (j5 (X3 (zm0 (w6 0) u6) u6) (p8 0 zj0.nd))
   (v5 (Q3 (yw0 3 (d7 C__law_value hr (by decide) (v4 (w6 0) (v4 (w6 2) v7)))))
   v9)))
   (v5 (vq0 3)
   v9)))) (λds d h=>zt0 h)
theorem ye0:FnScope ["_law_number", "_law_some", "_law_pool_here", "_law_kind", "_law_start", "_law_pairs"] ["_law_number", "_law_some", "_law_pool_here"] (u9 (top 36)):=⟨rfl,rfl,rfl,by decide +kernel,rfl,by decide +kernel,by decide +kernel⟩
theorem m60(F:Fun K "_law_part" "_law_part" (top 36) fa fd)(T:Txt mg)  : FnOk P w K mg base CX0 1 fa fd ["_law_number", "_law_some", "_law_pool_here"] (spD K z30) :=
 okD (k:=0) (G:=tu0) F ye0 (λcdv A outer s H E hr=>(v5 (j5 (X3 (w6 0) u6) (p8 3 ye0.nd))
   (v5 (j9 (o9 N8 S8 (w6 3) u6)
   (v5 (m7 (W2 (v4 Y4 (v4 (o5 (J5 (v4 Y4 (v4 Y4 (v4 Y4 (v4 (X6 (o5 (w6 2) u6) Y4) v7))))) (X3 (V9 (w6 0) u6) u6)) v7))))
   v9)
   v9)
   (v5 (j9 (o9 yr0 zu0 (w6 3) u6)
   (v5 (m7 (W2 (v4 Y4 (v4 (O4 T8 xb0 T.b_tuple b_tuple (v4 (w6 1) v7)) v7))))
   v9)
   v9)
   (v5 (j5 (zm0 (X3 (V9 (w6 0) u6) u6) u6) (p8 4 ye0.nd))
   (v5 (j5 (O4 T8 xb0 T.b_tuple b_tuple (v4 (yq0 (sc:=u9 (top 36)) (N:=["_law_number", "_law_some", "_law_pool_here", "_law_kind", "_law_start", "_law_pairs"]) (N':=["_law_k", "_law_some", "_law_pool_here", "_law_start"]) (n:=1) (caps:=[1,2,4]) ⟨rfl,by decide +kernel,by decide +kernel,by decide +kernel,by decide +kernel,rfl,by decide +kernel⟩ (by decide) (G4 T.b_range (v4 (W8 T.b_len (v4 (w6 1) v7)) v7)) (λcl s H ex=>p8 0 (by decide +kernel:(["_law_k", "_law_some", "_law_pool_here", "_law_start"]:List Str).Nodup)) (λcl s H ex=>z10) (λcl s H ex=>(W2 (v4 (o5 (w6 2) (X3 (X6 (w6 3) (w6 0)) u6)) (v4 (o5 (w6 1) (w6 0)) v7))))) v7)) (p8 5 ye0.nd))
   (v5 (j9 (o9 yr0 zu0 (w6 3) u6)
   (v5 (m7 (W2 (v4 Y4 (v4 (w6 5) v7))))
   v9)
   v9)
   (v5 (m7 (W2 (v4 Y4 (v4 (o5 (w6 2) (X3 (V9 (w6 0) u6) u6)) (v4 (w6 5) v7)))))
   v9)))))))) (λds d h=>W6 h)
theorem M9:FnScope ["_law_cells", "_law_many", "_law_pool_here", "_law_parts", "_law_k", "_law_number", "_law_count", "_law_some"] ["_law_cells", "_law_many", "_law_pool_here"] (u9 (top 37)):=⟨rfl,rfl,rfl,by decide +kernel,rfl,by decide +kernel,by decide +kernel⟩
theorem lq0(F:Fun K "_law_web" "_law_web" (top 37) fa fd)(T:Txt mg)(C__law_mix:FnD P w K mg base "_law_mix" 1 ["_law_cell", "_law_k"] V3)(C__law_part:FnD P w K mg base "_law_part" 1 ["_law_number", "_law_some", "_law_pool_here"] z30)(C__law_values:FnN P w K mg base "_law_values" 2 ["_law_number", "_law_count", "_law_many"] M7):FnOk P w K mg base CX0 3 fa fd ["_law_cells", "_law_many", "_law_pool_here"] (spD K zn0) :=
 okD (k:=2) (G:=ro0) F M9 (λcdv A outer s H E hr=>(v5 (T7 3 (Q5 v7) M9.nd)
   (v5 (K9 D2 rfl (G4 T.b_range (v4 (w6 1) v7)) (p8 4 M9.nd)
   (v5 (j5 (d7 C__law_mix hr (by decide) (v4 (X6 (o5 (w6 0) (X3 (w6 4) (W8 T.b_len (v4 (w6 0) v7)))) (zm0 (w6 4) (V9 (w6 4) (W8 T.b_len (v4 (w6 0) v7))))) (v4 (w6 4) v7))) (p8 5 M9.nd))
   (v5 (j5 (o5 (J5 (v4 u6 (v4 u6 (v4 u6 (v4 u6 (v4 u6 (v4 u6 (v4 u6 (v4 u6 v7))))))))) (X3 (V9 (w6 5) u6) u6)) (p8 6 M9.nd))
   (v5 (j9 (o9 N8 S8 (X3 (V9 (w6 5) u6) u6) u6)
   (v5 (j5 (o5 (J5 (v4 u6 (v4 u6 v7))) (O4 ip0 Xo0 T.b_int b_int (v4 (yd0 yr0 zu0 (X3 (w6 5) u6) u6) v7))) (p8 6 M9.nd))
   v9)
   v9)
   (v5 (j5 (Q8 C__law_values hr (by decide) (v4 (X6 (V9 (w6 5) u6) u6) (v4 (w6 6) (v4 (w6 1) v7)))) (p8 7 M9.nd))
   (v5 (Q3 (yw0 3 (d7 C__law_part hr (by decide) (v4 (w6 5) (v4 (w6 7) (v4 (w6 2) v7))))))
   v9))))))
   (v5 (y00 (O4 T8 xb0 T.b_tuple b_tuple (v4 (w6 3) v7)))
   v9)))) (λds d h=>W6 h)
theorem nm0:FnScope ["_law_part_here"] ["_law_part_here"] (u9 (top 38)):=⟨rfl,rfl,rfl,by decide +kernel,rfl,by decide +kernel,by decide +kernel⟩
theorem nc0(F:Fun K "_law_vals" "_law_vals" (top 38) fa fd)(T:Txt mg)  : FnOk P w K mg base CX0 1 fa fd ["_law_part_here"] (spN K Z7) :=
 okN (k:=0) (G:=to0) F nm0 (λcdv A outer s H E hr=>(v5 (j9 (o9 N8 S8 (o5 (w6 0) u6) Y4)
   (v5 (Q7 (Q5 v7))
   v9)
   v9)
   (v5 (j9 (o9 N8 S8 (o5 (w6 0) u6) Y4)
   (v5 (Q7 (ot0 T.b_list b_list (o5 (w6 0) u6)))
   v9)
   v9)
   (v5 (Q7 (w70 (sc:=u9 (top 38)) (N:=["_law_part_here"]) (N':=["_law_name", "_law_value_here"]) (n:=2) (caps:=[]) ⟨rfl,by decide +kernel,by decide +kernel,by decide +kernel,by decide +kernel,rfl,by decide +kernel⟩ (by decide) (wt0 (o5 (w6 0) (nq0 u6))) (λcl s H ex=>yn0 0 1 (by decide +kernel:(["_law_name", "_law_value_here"]:List Str).Nodup) (by decide)) (λcl s H ex=>z10) (λcl s H ex=>(w6 1))))
   v9)))) (λds d h=>zt0 h)
theorem K4:FnScope ["_law_script", "_law_most", "_law_pool_here", "_law_turn", "_law_many"] ["_law_script", "_law_most"] (u9 (top 42)):=⟨rfl,rfl,rfl,by decide +kernel,rfl,by decide +kernel,by decide +kernel⟩
theorem tm0(F:Fun K "_law_drawn_web" "_law_drawn_web" (top 42) fa fd)(T:Txt mg)(C__law_cell_at:FnD P w K mg base "_law_cell_at" 1 ["_law_script", "_law_k"] j6)(C__law_pool:FnN P w K mg base "_law_pool" 1 ["_law_cell", "_law_turn"] z20)(C__law_web:FnD P w K mg base "_law_web" 3 ["_law_cells", "_law_many", "_law_pool_here"] zn0):FnOk P w K mg base CX0 4 fa fd ["_law_script", "_law_most"] (spD K R0) :=
 okD (k:=3) (G:=wd0) F K4 (λcdv A outer s H E hr=>(v5 (j5 (Q8 C__law_pool hr (by decide) (v4 (d7 C__law_cell_at hr (by decide) (v4 (w6 0) (v4 u6 v7))) (v4 (d7 C__law_cell_at hr (by decide) (v4 (w6 0) (v4 u6 v7))) v7))) (p8 2 K4.nd))
   (v5 (j5 (d7 C__law_cell_at hr (by decide) (v4 (w6 0) (v4 u6 v7))) (p8 3 K4.nd))
   (v5 (j5 (X6 u6 (X3 (w6 3) (o5 (J5 (v4 u6 (v4 u6 (v4 (w6 1) (v4 u6 v7))))) (X3 (V9 (w6 3) u6) u6)))) (p8 4 K4.nd))
   (v5 (m7 (d7 C__law_web hr (by decide) (v4 (X6 (Q0 (w6 0) (Q6 u6) (Q6 u6)) (J5 (v4 (d7 C__law_cell_at hr (by decide) (v4 (w6 0) (v4 u6 v7))) v7))) (v4 (w6 4) (v4 (w6 2) v7)))))
   v9))))) (λds d h=>W6 h)
theorem yv0:FnScope ["_law_web_here", "_law_k", "_law_found", "_law_waiting", "_law_j"] ["_law_web_here", "_law_k"] (u9 (top 44)):=⟨rfl,rfl,rfl,by decide +kernel,rfl,by decide +kernel,by decide +kernel⟩
theorem lo0(F:Fun K "_law_met" "_law_met" (top 44) fa fd)(T:Txt mg)(C__law_vals:FnN P w K mg base "_law_vals" 1 ["_law_part_here"] Z7):FnOk P w K mg base CX0 2 fa fd ["_law_web_here", "_law_k"] (spN K U5) :=
 okN (k:=1) (G:=rt0) F yv0 (λcdv A outer s H E hr=>(v5 (T7 2 (Q5 v7) yv0.nd)
   (v5 (T7 3 (Q5 (v4 (w6 1) v7)) yv0.nd)
   (v5 (wf0 100000 D2 (o9 ob0 r00 (vh0 (W8 T.b_len (v4 (w6 3) v7))) u6)
   (v5 (J9 (iv0 3) (rc0 (p8 4 yv0.nd)))
   (v5 (j9 (q50 (o9 we0 (u70 true) (w6 4) (w6 2)))
   (v5 (Q3 (yw0 2 (w6 4)))
   (v5 (Q3 (mo0 3 (yq0 (sc:=u9 (top 44)) (N:=["_law_web_here", "_law_k", "_law_found", "_law_waiting", "_law_j"]) (N':=["_law_value_here"]) (n:=1) (caps:=[]) ⟨rfl,by decide +kernel,by decide +kernel,by decide +kernel,by decide +kernel,rfl,by decide +kernel⟩ (by decide) (K1 (Q8 C__law_vals hr (by decide) (v4 (o5 (w6 0) (w6 4)) v7))) (λcl s H ex=>p8 0 (by decide +kernel:(["_law_value_here"]:List Str).Nodup)) (λcl s H ex=>(v30 (zg0 (yb0 y30 b_tuple T.b_isinstance T.b_tuple (w6 0))))) (λcl s H ex=>(o5 (w6 0) u6)))))
   v9))
   v9)
   v9)))
   (v5 (vq0 2)
   v9))))) (λds d h=>zt0 h)
theorem J1:FnScope ["_law_web_here", "_law_k", "_law_kept", "_law_found", "_law_copy_at", "_law_there", "_law_old", "_law_from_kept", "_law_j"] ["_law_web_here", "_law_k", "_law_kept"] (u9 (top 45)):=⟨rfl,rfl,rfl,by decide +kernel,rfl,by decide +kernel,by decide +kernel⟩
theorem nf0(F:Fun K "_law_made" "_law_made" (top 45) fa fd)(T:Txt mg)(C__law_met:FnN P w K mg base "_law_met" 2 ["_law_web_here", "_law_k"] U5)(C_copied:FnD P w K mg base "copied" 4 ["web", "k", "kept"] y20)(C_drawn:FnD P w K mg base "drawn" 5 ["web", "k"] U8)(C_look_table:FnD P w K mg base "look_table" 5 ["web", "p", "q"] O9):FnOk P w K mg base CX0 6 fa fd ["_law_web_here", "_law_k", "_law_kept"] (spD K z00) :=
 okD (k:=5) (G:=ty0) F J1 (λcdv A outer s H E hr=>(v5 (J9 (yo0 (d7 C_copied hr (by decide) (v4 (w6 0) (v4 (w6 1) (v4 (O4 u80 bx0 T.b_list b_list (v4 (w6 2) v7)) v7))))) (rc0 (yn0 3 4 J1.nd (by decide))))
   (v5 (j9 (PWD.pt (va0 (o9 (y80 hr.units) zh0 (Q0 (w6 3) K3 (Q6 (W8 T.b_len (v4 (w6 0) v7)))) (w6 0)) (ve0 (o9 sj0 t80 (d7 C_look_table hr (by decide) (v4 (w6 3) (v4 (w6 1) (v4 (w6 4) v7)))) J3))))
   (v5 (m7 J3)
   v9)
   v9)
   (v5 (j5 (Q8 C__law_met hr (by decide) (v4 (w6 3) (v4 (w6 4) v7))) (p8 5 J1.nd))
   (v5 (s30 6 J1.nd (sc:=u9 (top 45)) (N:=["_law_web_here", "_law_k", "_law_kept", "_law_found", "_law_copy_at", "_law_there", "_law_old", "_law_from_kept", "_law_j"]) (N':=["_law_j", "_law_web_here"]) (n:=1) (caps:=[0]) ⟨rfl,by decide +kernel,by decide +kernel,by decide +kernel,by decide +kernel,rfl,by decide +kernel⟩ (by decide) (K1 (w6 5)) (λcl s H ex=>p8 0 (by decide +kernel:(["_law_j", "_law_web_here"]:List Str).Nodup)) (λcl s H ex=>(v30 (o9 yr0 zu0 (w6 0) (W8 T.b_len (v4 (w6 1) v7))))) (λcl s H ex=>(w6 0)))
   (v5 (j9 (o9 (u60 hr.units) wu0 (w6 2) (J5 v7))
   (v5 (j9 (PWD.pt (va0 (o9 (y80 hr.units) zh0 (w6 6) (J5 v7)) (va0 (o9 (y80 hr.units) zh0 (d7 C_drawn hr (by decide) (v4 (w6 3) (v4 (w6 1) v7))) (d7 C_drawn hr (by decide) (v4 (w6 3) (v4 (w6 4) v7)))) (ve0 (o9 (y80 hr.units) zh0 (d7 C_drawn hr (by decide) (v4 (w6 3) (v4 (w6 1) v7))) (d7 C_drawn hr (by decide) (v4 (w6 0) (v4 (w6 1) v7))))))))
   (v5 (m7 J3)
   v9)
   v9)
   v9)
   v9)
   (v5 (T7 7 (Q5 v7) J1.nd)
   (v5 (K9 D2 rfl (K1 (w6 2)) (p8 8 J1.nd)
   (v5 (Q3 (mo0 7 (Q8 C__law_met hr (by decide) (v4 (w6 0) (v4 (w6 8) v7)))))
   v9))
   (v5 (d20 7 (j9 (o9 ob0 r00 (W8 T.b_len (v4 (yq0 (sc:=u9 (top 45)) (N:=["_law_web_here", "_law_k", "_law_kept", "_law_found", "_law_copy_at", "_law_there", "_law_old", "_law_from_kept", "_law_j"]) (N':=["_law_j", "_law_from_kept"]) (n:=1) (caps:=[7]) ⟨rfl,by decide +kernel,by decide +kernel,by decide +kernel,by decide +kernel,rfl,by decide +kernel⟩ (by decide) (K1 (w6 6)) (λcl s H ex=>p8 0 (by decide +kernel:(["_law_j", "_law_from_kept"]:List Str).Nodup)) (λcl s H ex=>(v30 (o9 we0 (u70 true) (w6 0) (w6 1)))) (λcl s H ex=>(w6 0))) v7)) u6)
   (v5 (m7 J3)
   v9)
   v9))
   (v5 (m7 (W2 (v4 (w6 3) (v4 (w6 4) v7))))
   v9)))))))))) (λds d h=>W6 h)
theorem J4:FnScope ["_law_web_here", "_law_number", "_law_k", "_law_copy_at", "_law_j", "_law_some", "_law_fresh", "_law_at"] ["_law_web_here", "_law_number", "_law_k", "_law_copy_at"] (u9 (top 46)):=⟨rfl,rfl,rfl,by decide +kernel,rfl,by decide +kernel,by decide +kernel⟩
theorem rw0(F:Fun K "_law_put_at" "_law_put_at" (top 46) fa fd)(T:Txt mg)(C__law_met:FnN P w K mg base "_law_met" 2 ["_law_web_here", "_law_k"] U5)(C__law_vals:FnN P w K mg base "_law_vals" 1 ["_law_part_here"] Z7)(C__law_value:FnD P w K mg base "_law_value" 1 ["_law_number", "_law_many"] T6)(C_drawn:FnD P w K mg base "drawn" 5 ["web", "k"] U8)(C_put:FnD P w K mg base "put" 4 ["web", "k", "place", "value"] te0):FnOk P w K mg base CX0 6 fa fd ["_law_web_here", "_law_number", "_law_k", "_law_copy_at"] (spD K M6) :=
 okD (k:=5) (G:=u20) F J4 (λcdv A outer s H E hr=>(v5 (j5 (X3 (w6 1) (W8 T.b_len (v4 (w6 0) v7))) (p8 4 J4.nd))
   (v5 (j5 (Q8 C__law_vals hr (by decide) (v4 (o5 (w6 0) (w6 4)) v7)) (p8 5 J4.nd))
   (v5 (j9 (o9 (u60 hr.units) wu0 (w6 5) (J5 v7))
   (v5 (m7 t90)
   v9)
   v9)
   (v5 (j5 (d7 C_put hr (by decide) (v4 (w6 0) (v4 (w6 4) (v4 (X3 (V9 (w6 1) u6) (W8 T.b_len (v4 (w6 5) v7))) (v4 (d7 C__law_value hr (by decide) (v4 (V9 (w6 1) u6) (v4 (W8 T.b_len (v4 (w6 0) v7)) v7))) v7))))) (p8 6 J4.nd))
   (v5 (K9 D2 rfl (wt0 (W2 (v4 (w6 2) (v4 (w6 3) v7)))) (p8 7 J4.nd)
   (v5 (j9 (PWD.pt (t30 (o9 we0 (u70 true) (w6 4) (Q8 C__law_met hr (by decide) (v4 (w6 0) (v4 (w6 7) v7)))) (vs0 (o9 (y80 hr.units) zh0 (d7 C_drawn hr (by decide) (v4 (w6 6) (v4 (w6 7) v7))) (d7 C_drawn hr (by decide) (v4 (w6 0) (v4 (w6 7) v7)))))))
   (v5 (m7 t90)
   v9)
   v9)
   v9))
   (v5 (m7 (xh0 (yd0 (u60 hr.units) wu0 (Q0 (w6 6) K3 (Q6 (w6 4))) (Q0 (w6 0) K3 (Q6 (w6 4)))) (v80 (yd0 (u60 hr.units) wu0 (Q0 (w6 6) (Q6 (X6 (w6 4) u6)) K3) (Q0 (w6 0) (Q6 (X6 (w6 4) u6)) K3)))))
   v9))))))) (λds d h=>W6 h)
theorem zq0:FnScope ["_law_script", "_law_web_here", "_law_turn", "_law_k", "_law_kept", "_law_some", "_law_made_here", "_law_found", "_law_copy_at", "_law_j", "_law_number"] ["_law_script"] (u9 (top 47)):=⟨rfl,rfl,rfl,by decide +kernel,rfl,by decide +kernel,by decide +kernel⟩
theorem Zg0(F:Fun K "law" "law" (top 47) fa fd)(T:Txt mg)(C__law_cell_at:FnD P w K mg base "_law_cell_at" 1 ["_law_script", "_law_k"] j6)(C__law_drawn_web:FnD P w K mg base "_law_drawn_web" 4 ["_law_script", "_law_most"] R0)(C__law_made:FnD P w K mg base "_law_made" 6 ["_law_web_here", "_law_k", "_law_kept"] z00)(C__law_mix:FnD P w K mg base "_law_mix" 1 ["_law_cell", "_law_k"] V3)(C__law_put_at:FnD P w K mg base "_law_put_at" 6 ["_law_web_here", "_law_number", "_law_k", "_law_copy_at"] M6):FnOk P w K mg base CX0 7 fa fd ["_law_script"] (spD K t70) :=
 okD (k:=6) (G:=ch0) F zq0 (λcdv A outer s H E hr=>(v5 (j5 (d7 C__law_drawn_web hr (by decide) (v4 (w6 0) (v4 u6 v7))) (p8 1 zq0.nd))
   (v5 (j5 (d7 C__law_cell_at hr (by decide) (v4 (w6 0) (v4 u6 v7))) (p8 2 zq0.nd))
   (v5 (j5 (X3 (w6 2) (W8 T.b_len (v4 (w6 1) v7))) (p8 3 zq0.nd))
   (v5 (s30 4 zq0.nd (sc:=u9 (top 47)) (N:=["_law_script", "_law_web_here", "_law_turn", "_law_k", "_law_kept", "_law_some", "_law_made_here", "_law_found", "_law_copy_at", "_law_j", "_law_number"]) (N':=["_law_j", "_law_script", "_law_turn", "_law_k"]) (n:=1) (caps:=[0,2,3]) ⟨rfl,by decide +kernel,by decide +kernel,by decide +kernel,by decide +kernel,rfl,by decide +kernel⟩ (by decide) (G4 T.b_range (v4 (W8 T.b_len (v4 (w6 1) v7)) v7)) (λcl s H ex=>p8 0 (by decide +kernel:(["_law_j", "_law_script", "_law_turn", "_law_k"]:List Str).Nodup)) (λcl s H ex=>(v30 (PWD.pt (t30 (o9 (u60 hr.units) wu0 (X3 (d7 C__law_mix hr (by decide) (v4 (d7 C__law_cell_at hr (by decide) (v4 (w6 1) (v4 u6 v7))) (v4 (w6 0) v7))) (o5 (J5 (v4 u6 (v4 u6 v7))) (X3 (V9 (w6 2) u6) u6))) u6) (vs0 (o9 (y80 hr.units) zh0 (w6 0) (w6 3))))))) (λcl s H ex=>(w6 0)))
   (v5 (K9 D2 rfl (wt0 (W2 (v4 (J5 v7) (v4 (w6 4) v7)))) (p8 5 zq0.nd)
   (v5 (j5 (d7 C__law_made hr (by decide) (v4 (w6 1) (v4 (w6 3) (v4 (w6 5) v7)))) (p8 6 zq0.nd))
   (v5 (j9 (o9 sj0 t80 (w6 6) J3)
   (v5 (m7 t90)
   v9)
   v9)
   (v5 (J9 (yo0 (w6 6)) (rc0 (yn0 7 8 zq0.nd (by decide))))
   (v5 (K9 D2 rfl (G4 T.b_range (v4 u6 v7)) (p8 9 zq0.nd)
   (v5 (j5 (d7 C__law_mix hr (by decide) (v4 (X6 (d7 C__law_cell_at hr (by decide) (v4 (w6 0) (v4 (X6 u6 (X3 (w6 9) u6)) v7))) (zm0 (w6 9) (w6 9))) (v4 (X6 (w6 9) u6) v7))) (p8 10 zq0.nd))
   (v5 (j9 (kk0 (zg0 (d7 C__law_put_at hr (by decide) (v4 (w6 7) (v4 (w6 10) (v4 (w6 3) (v4 (w6 8) v7)))))))
   (v5 (m7 t90)
   v9)
   v9)
   v9)))
   v9)))))
   (v5 (m7 t90)
   v9))))))) (λds d h=>W6 h)
end
theorem us1:∀{us:List α},us.length=1->∃a,us=[a]
 | [a],_=>⟨a,rfl⟩
theorem us2:∀{us:List α},us.length=2->∃a b,us=[a,b]
 | [a,b],_=>⟨a,b,rfl⟩
theorem us3:∀{us:List α},us.length=3->∃a b c,us=[a,b,c]
 | [a,b,c],_=>⟨a,b,c,rfl⟩
theorem us4:∀{us:List α},us.length=4->∃a b c d,us=[a,b,c,d]
 | [a,b,c,d],_=>⟨a,b,c,d,rfl⟩
theorem all_mk{l:W.OpenLaw}{w:World}{h:Heap}(X:K.In h)(G:h.Ns mainGlobals mg)(hfa:mg "law"=some (.ref fa))
  {f0 f1 f2 f3 f4 f5 f6 f7 f8 f9 f10 f11 f12 f13 f14 f15 f16 f17 f18 f19 f20 f21 f22 f23 f24 f25 f26 f27 f28 f29 f30 f31 f32 f33:Addr}
  {od0 an0 od1 an1 od2 an2 od3 an3 od4 an4 od5 an5 od6 an6 od7 an7 od8 an8 od9 an9 od10 an10 od11 an11 od12 an12 od13 an13 od14 an14 od15 an15 od16 an16 od17 an17 od18 an18 od19 an19 od20 an20 od21 an21 od22 an22 od23 an23 od24 an24 od25 an25 od26 an26 od27 an27 od28 an28 od29 an29 od30 an30 od31 an31 od32 an32 od33 an33:Option Addr} {sl0 sl1 sl2 sl3 sl4 sl5 sl6 sl7 sl8 sl9 sl10 sl11 sl12 sl13 sl14 sl15 sl16 sl17 sl18 sl19 sl20 sl21 sl22 sl23 sl24 sl25 sl26 sl27 sl28 sl29 sl30 sl31 sl32 sl33:Array (Option Value)} {oc0 kV0 dc0 pm0 cd0 ct0 oc1 kV1 dc1 pm1 cd1 ct1 oc2 kV2 dc2 pm2 cd2 ct2 oc3 kV3 dc3 pm3 cd3 ct3 oc4 kV4 dc4 pm4 cd4 ct4 oc5 kV5 dc5 pm5 cd5 ct5 oc6 kV6 dc6 pm6 cd6 ct6 oc7 kV7 dc7 pm7 cd7 ct7 oc8 kV8 dc8 pm8 cd8 ct8 oc9 kV9 dc9 pm9 cd9 ct9 oc10 kV10 dc10 pm10 cd10 ct10 oc11 kV11 dc11 pm11 cd11 ct11 oc12 kV12 dc12 pm12 cd12 ct12 oc13 kV13 dc13 pm13 cd13 ct13 oc14 kV14 dc14 pm14 cd14 ct14 oc15 kV15 dc15 pm15 cd15 ct15 oc16 kV16 dc16 pm16 cd16 ct16 oc17 kV17 dc17 pm17 cd17 ct17 oc18 kV18 dc18 pm18 cd18 ct18 oc19 kV19 dc19 pm19 cd19 ct19 oc20 kV20 dc20 pm20 cd20 ct20 oc21 kV21 dc21 pm21 cd21 ct21 oc22 kV22 dc22 pm22 cd22 ct22 oc23 kV23 dc23 pm23 cd23 ct23 oc24 kV24 dc24 pm24 cd24 ct24 oc25 kV25 dc25 pm25 cd25 ct25 oc26 kV26 dc26 pm26 cd26 ct26 oc27 kV27 dc27 pm27 cd27 ct27 oc28 kV28 dc28 pm28 cd28 ct28 oc29 kV29 dc29 pm29 cd29 ct29 oc30 kV30 dc30 pm30 cd30 ct30 oc31 kV31 dc31 pm31 cd31 ct31 oc32 kV32 dc32 pm32 cd32 ct32 oc33 kV33 dc33 pm33 cd33 ct33:Value}
  {t_MOST_PARTS:Tok}
  (a0:W.nsIn K mainGlobals "is_whole"=some (some (.ref f0))) (l0:K.lookup f0=some ⟨oc0,od0,.func (W.fnOf "is_whole" "is_whole" (n8 (top 7)) (n6 (top 7)) (u9 (top 7)) .none kV0 dc0 pm0 an0 cd0 ct0),sl0⟩) (c0:W.codeIn K cd0 "is_whole"=true) (k0:W.keepIn K (.ref f0)=true)
  (a1:W.nsIn K mainGlobals "is_marked"=some (some (.ref f1))) (l1:K.lookup f1=some ⟨oc1,od1,.func (W.fnOf "is_marked" "is_marked" (n8 (top 8)) (n6 (top 8)) (u9 (top 8)) .none kV1 dc1 pm1 an1 cd1 ct1),sl1⟩) (c1:W.codeIn K cd1 "is_marked"=true) (k1:W.keepIn K (.ref f1)=true)
  (a2:W.nsIn K mainGlobals "is_link"=some (some (.ref f2))) (l2:K.lookup f2=some ⟨oc2,od2,.func (W.fnOf "is_link" "is_link" (n8 (top 9)) (n6 (top 9)) (u9 (top 9)) .none kV2 dc2 pm2 an2 cd2 ct2),sl2⟩) (c2:W.codeIn K cd2 "is_link"=true) (k2:W.keepIn K (.ref f2)=true)
  (a3:W.nsIn K mainGlobals "is_value"=some (some (.ref f3))) (l3:K.lookup f3=some ⟨oc3,od3,.func (W.fnOf "is_value" "is_value" (n8 (top 10)) (n6 (top 10)) (u9 (top 10)) .none kV3 dc3 pm3 an3 cd3 ct3),sl3⟩) (c3:W.codeIn K cd3 "is_value"=true) (k3:W.keepIn K (.ref f3)=true)
  (a4:W.nsIn K mainGlobals "pair_names"=some (some (.ref f4))) (l4:K.lookup f4=some ⟨oc4,od4,.func (W.fnOf "pair_names" "pair_names" (n8 (top 11)) (n6 (top 11)) (u9 (top 11)) .none kV4 dc4 pm4 an4 cd4 ct4),sl4⟩) (c4:W.codeIn K cd4 "pair_names"=true) (k4:W.keepIn K (.ref f4)=true)
  (a5:W.nsIn K mainGlobals "head"=some (some (.ref f5))) (l5:K.lookup f5=some ⟨oc5,od5,.func (W.fnOf "head" "head" (n8 (top 12)) (n6 (top 12)) (u9 (top 12)) .none kV5 dc5 pm5 an5 cd5 ct5),sl5⟩) (c5:W.codeIn K cd5 "head"=true) (k5:W.keepIn K (.ref f5)=true)
  (a6:W.nsIn K mainGlobals "values"=some (some (.ref f6))) (l6:K.lookup f6=some ⟨oc6,od6,.func (W.fnOf "values" "values" (n8 (top 13)) (n6 (top 13)) (u9 (top 13)) .none kV6 dc6 pm6 an6 cd6 ct6),sl6⟩) (c6:W.codeIn K cd6 "values"=true) (k6:W.keepIn K (.ref f6)=true)
  (a7:W.nsIn K mainGlobals "with_values"=some (some (.ref f7))) (l7:K.lookup f7=some ⟨oc7,od7,.func (W.fnOf "with_values" "with_values" (n8 (top 14)) (n6 (top 14)) (u9 (top 14)) .none kV7 dc7 pm7 an7 cd7 ct7),sl7⟩) (c7:W.codeIn K cd7 "with_values"=true) (k7:W.keepIn K (.ref f7)=true)
  (a8:W.nsIn K mainGlobals "links"=some (some (.ref f8))) (l8:K.lookup f8=some ⟨oc8,od8,.func (W.fnOf "links" "links" (n8 (top 15)) (n6 (top 15)) (u9 (top 15)) .none kV8 dc8 pm8 an8 cd8 ct8),sl8⟩) (c8:W.codeIn K cd8 "links"=true) (k8:W.keepIn K (.ref f8)=true)
  {T9:Addr} {tc9:Value} {td9:Option Addr} {tn9:Nat} {ts9:Array (Option Value)} {tt9_0:Tok}
  (a9:W.nsIn K mainGlobals "met"=some (some (.ref f9))) (l9:K.lookup f9=some ⟨oc9,od9,.func (W.fnOf "met" "met" (n8 (top 16)) (n6 (top 16)) (u9 (top 16)) (.ref T9) kV9 dc9 pm9 an9 cd9 ct9),sl9⟩) (c9:W.codeIn K cd9 "met"=true) (k9:W.keepIn K (.ref f9)=true)
  (t9:K.lookup T9=some ⟨tc9,td9,.seq #[.int 0 tt9_0] tn9,ts9⟩)
  (a10:W.nsIn K mainGlobals "met_but"=some (some (.ref f10))) (l10:K.lookup f10=some ⟨oc10,od10,.func (W.fnOf "met_but" "met_but" (n8 (top 17)) (n6 (top 17)) (u9 (top 17)) .none kV10 dc10 pm10 an10 cd10 ct10),sl10⟩) (c10:W.codeIn K cd10 "met_but"=true) (k10:W.keepIn K (.ref f10)=true)
  (a11:W.nsIn K mainGlobals "relinked"=some (some (.ref f11))) (l11:K.lookup f11=some ⟨oc11,od11,.func (W.fnOf "relinked" "relinked" (n8 (top 18)) (n6 (top 18)) (u9 (top 18)) .none kV11 dc11 pm11 an11 cd11 ct11),sl11⟩) (c11:W.codeIn K cd11 "relinked"=true) (k11:W.keepIn K (.ref f11)=true)
  {T12:Addr} {tc12:Value} {td12:Option Addr} {tn12:Nat} {ts12:Array (Option Value)} {tt12_0:Tok}
  (a12:W.nsIn K mainGlobals "drawn"=some (some (.ref f12))) (l12:K.lookup f12=some ⟨oc12,od12,.func (W.fnOf "drawn" "drawn" (n8 (top 19)) (n6 (top 19)) (u9 (top 19)) (.ref T12) kV12 dc12 pm12 an12 cd12 ct12),sl12⟩) (c12:W.codeIn K cd12 "drawn"=true) (k12:W.keepIn K (.ref f12)=true)
  (t12:K.lookup T12=some ⟨tc12,td12,.seq #[.int 0 tt12_0] tn12,ts12⟩)
  (a13:W.nsIn K mainGlobals "put"=some (some (.ref f13))) (l13:K.lookup f13=some ⟨oc13,od13,.func (W.fnOf "put" "put" (n8 (top 21)) (n6 (top 21)) (u9 (top 21)) .none kV13 dc13 pm13 an13 cd13 ct13),sl13⟩) (c13:W.codeIn K cd13 "put"=true) (k13:W.keepIn K (.ref f13)=true)
  {T14:Addr} {tc14:Value} {td14:Option Addr} {tn14:Nat} {ts14:Array (Option Value)}
  (a14:W.nsIn K mainGlobals "copied"=some (some (.ref f14))) (l14:K.lookup f14=some ⟨oc14,od14,.func (W.fnOf "copied" "copied" (n8 (top 22)) (n6 (top 22)) (u9 (top 22)) (.ref T14) kV14 dc14 pm14 an14 cd14 ct14),sl14⟩) (c14:W.codeIn K cd14 "copied"=true) (k14:W.keepIn K (.ref f14)=true)
  (t14:K.lookup T14=some ⟨tc14,td14,.seq #[.none] tn14,ts14⟩)
  (a15:W.nsIn K mainGlobals "look_table"=some (some (.ref f15))) (l15:K.lookup f15=some ⟨oc15,od15,.func (W.fnOf "look_table" "look_table" (n8 (top 24)) (n6 (top 24)) (u9 (top 24)) .none kV15 dc15 pm15 an15 cd15 ct15),sl15⟩) (c15:W.codeIn K cd15 "look_table"=true) (k15:W.keepIn K (.ref f15)=true)
  (a16:W.nsIn K mainGlobals "paired_walk"=some (some (.ref f16))) (l16:K.lookup f16=some ⟨oc16,od16,.func (W.fnOf "paired_walk" "paired_walk" (n8 (top 25)) (n6 (top 25)) (u9 (top 25)) .none kV16 dc16 pm16 an16 cd16 ct16),sl16⟩) (c16:W.codeIn K cd16 "paired_walk"=true) (k16:W.keepIn K (.ref f16)=true)
  (a17:W.nsIn K mainGlobals "way_to"=some (some (.ref f17))) (l17:K.lookup f17=some ⟨oc17,od17,.func (W.fnOf "way_to" "way_to" (n8 (top 26)) (n6 (top 26)) (u9 (top 26)) .none kV17 dc17 pm17 an17 cd17 ct17),sl17⟩) (c17:W.codeIn K cd17 "way_to"=true) (k17:W.keepIn K (.ref f17)=true)
  (a18:W.nsIn K mainGlobals "are_links"=some (some (.ref f18))) (l18:K.lookup f18=some ⟨oc18,od18,.func (W.fnOf "are_links" "are_links" (n8 (top 27)) (n6 (top 27)) (u9 (top 27)) .none kV18 dc18 pm18 an18 cd18 ct18),sl18⟩) (c18:W.codeIn K cd18 "are_links"=true) (k18:W.keepIn K (.ref f18)=true)
  (a19:W.nsIn K mainGlobals "linked_pair"=some (some (.ref f19))) (l19:K.lookup f19=some ⟨oc19,od19,.func (W.fnOf "linked_pair" "linked_pair" (n8 (top 28)) (n6 (top 28)) (u9 (top 28)) .none kV19 dc19 pm19 an19 cd19 ct19),sl19⟩) (c19:W.codeIn K cd19 "linked_pair"=true) (k19:W.keepIn K (.ref f19)=true)
  (a20:W.nsIn K mainGlobals "are_parting"=some (some (.ref f20))) (l20:K.lookup f20=some ⟨oc20,od20,.func (W.fnOf "are_parting" "are_parting" (n8 (top 29)) (n6 (top 29)) (u9 (top 29)) .none kV20 dc20 pm20 an20 cd20 ct20),sl20⟩) (c20:W.codeIn K cd20 "are_parting"=true) (k20:W.keepIn K (.ref f20)=true)
  (a21:W.nsIn K mainGlobals "_law_cell_at"=some (some (.ref f21))) (l21:K.lookup f21=some ⟨oc21,od21,.func (W.fnOf "_law_cell_at" "_law_cell_at" (n8 (top 31)) (n6 (top 31)) (u9 (top 31)) .none kV21 dc21 pm21 an21 cd21 ct21),sl21⟩) (c21:W.codeIn K cd21 "_law_cell_at"=true) (k21:W.keepIn K (.ref f21)=true)
  (a22:W.nsIn K mainGlobals "_law_pool"=some (some (.ref f22))) (l22:K.lookup f22=some ⟨oc22,od22,.func (W.fnOf "_law_pool" "_law_pool" (n8 (top 32)) (n6 (top 32)) (u9 (top 32)) .none kV22 dc22 pm22 an22 cd22 ct22),sl22⟩) (c22:W.codeIn K cd22 "_law_pool"=true) (k22:W.keepIn K (.ref f22)=true)
  (a23:W.nsIn K mainGlobals "_law_mix"=some (some (.ref f23))) (l23:K.lookup f23=some ⟨oc23,od23,.func (W.fnOf "_law_mix" "_law_mix" (n8 (top 33)) (n6 (top 33)) (u9 (top 33)) .none kV23 dc23 pm23 an23 cd23 ct23),sl23⟩) (c23:W.codeIn K cd23 "_law_mix"=true) (k23:W.keepIn K (.ref f23)=true)
  (a24:W.nsIn K mainGlobals "_law_value"=some (some (.ref f24))) (l24:K.lookup f24=some ⟨oc24,od24,.func (W.fnOf "_law_value" "_law_value" (n8 (top 34)) (n6 (top 34)) (u9 (top 34)) .none kV24 dc24 pm24 an24 cd24 ct24),sl24⟩) (c24:W.codeIn K cd24 "_law_value"=true) (k24:W.keepIn K (.ref f24)=true)
  (a25:W.nsIn K mainGlobals "_law_values"=some (some (.ref f25))) (l25:K.lookup f25=some ⟨oc25,od25,.func (W.fnOf "_law_values" "_law_values" (n8 (top 35)) (n6 (top 35)) (u9 (top 35)) .none kV25 dc25 pm25 an25 cd25 ct25),sl25⟩) (c25:W.codeIn K cd25 "_law_values"=true) (k25:W.keepIn K (.ref f25)=true)
  (a26:W.nsIn K mainGlobals "_law_part"=some (some (.ref f26))) (l26:K.lookup f26=some ⟨oc26,od26,.func (W.fnOf "_law_part" "_law_part" (n8 (top 36)) (n6 (top 36)) (u9 (top 36)) .none kV26 dc26 pm26 an26 cd26 ct26),sl26⟩) (c26:W.codeIn K cd26 "_law_part"=true) (k26:W.keepIn K (.ref f26)=true)
  (a27:W.nsIn K mainGlobals "_law_web"=some (some (.ref f27))) (l27:K.lookup f27=some ⟨oc27,od27,.func (W.fnOf "_law_web" "_law_web" (n8 (top 37)) (n6 (top 37)) (u9 (top 37)) .none kV27 dc27 pm27 an27 cd27 ct27),sl27⟩) (c27:W.codeIn K cd27 "_law_web"=true) (k27:W.keepIn K (.ref f27)=true)
  (a28:W.nsIn K mainGlobals "_law_vals"=some (some (.ref f28))) (l28:K.lookup f28=some ⟨oc28,od28,.func (W.fnOf "_law_vals" "_law_vals" (n8 (top 38)) (n6 (top 38)) (u9 (top 38)) .none kV28 dc28 pm28 an28 cd28 ct28),sl28⟩) (c28:W.codeIn K cd28 "_law_vals"=true) (k28:W.keepIn K (.ref f28)=true)
  (a29:W.nsIn K mainGlobals "_law_drawn_web"=some (some (.ref f29))) (l29:K.lookup f29=some ⟨oc29,od29,.func (W.fnOf "_law_drawn_web" "_law_drawn_web" (n8 (top 42)) (n6 (top 42)) (u9 (top 42)) .none kV29 dc29 pm29 an29 cd29 ct29),sl29⟩) (c29:W.codeIn K cd29 "_law_drawn_web"=true) (k29:W.keepIn K (.ref f29)=true)
  (a30:W.nsIn K mainGlobals "_law_met"=some (some (.ref f30))) (l30:K.lookup f30=some ⟨oc30,od30,.func (W.fnOf "_law_met" "_law_met" (n8 (top 44)) (n6 (top 44)) (u9 (top 44)) .none kV30 dc30 pm30 an30 cd30 ct30),sl30⟩) (c30:W.codeIn K cd30 "_law_met"=true) (k30:W.keepIn K (.ref f30)=true)
  (a31:W.nsIn K mainGlobals "_law_made"=some (some (.ref f31))) (l31:K.lookup f31=some ⟨oc31,od31,.func (W.fnOf "_law_made" "_law_made" (n8 (top 45)) (n6 (top 45)) (u9 (top 45)) .none kV31 dc31 pm31 an31 cd31 ct31),sl31⟩) (c31:W.codeIn K cd31 "_law_made"=true) (k31:W.keepIn K (.ref f31)=true)
  (a32:W.nsIn K mainGlobals "_law_put_at"=some (some (.ref f32))) (l32:K.lookup f32=some ⟨oc32,od32,.func (W.fnOf "_law_put_at" "_law_put_at" (n8 (top 46)) (n6 (top 46)) (u9 (top 46)) .none kV32 dc32 pm32 an32 cd32 ct32),sl32⟩) (c32:W.codeIn K cd32 "_law_put_at"=true) (k32:W.keepIn K (.ref f32)=true)
  (a33:W.nsIn K mainGlobals "law"=some (some (.ref f33))) (l33:K.lookup f33=some ⟨oc33,od33,.func (W.fnOf "law" "law" (n8 (top 47)) (n6 (top 47)) (u9 (top 47)) .none kV33 dc33 pm33 an33 cd33 ct33),sl33⟩) (c33:W.codeIn K cd33 "law"=true) (k33:W.keepIn K (.ref f33)=true)
  (z_bool:W.nsIn K mainGlobals "bool"=some none)
  (z_dict:W.nsIn K mainGlobals "dict"=some none)
  (z_enumerate:W.nsIn K mainGlobals "enumerate"=some none)
  (z_int:W.nsIn K mainGlobals "int"=some none)
  (z_isinstance:W.nsIn K mainGlobals "isinstance"=some none)
  (z_len:W.nsIn K mainGlobals "len"=some none)
  (z_list:W.nsIn K mainGlobals "list"=some none)
  (z_range:W.nsIn K mainGlobals "range"=some none)
  (z_reversed:W.nsIn K mainGlobals "reversed"=some none)
  (z_sorted:W.nsIn K mainGlobals "sorted"=some none)
  (z_str:W.nsIn K mainGlobals "str"=some none)
  (z_tuple:W.nsIn K mainGlobals "tuple"=some none)
  (z_zip:W.nsIn K mainGlobals "zip"=some none)
  (y_MOST_PARTS:W.nsIn K mainGlobals "MOST_PARTS"=some (some (.int 60 t_MOST_PARTS)))
  : ∃fd:FuncData,(∀(s:Shared) (v:Value),BindsTo s fd ⟨[v],[]⟩ [("_law_script",v)])/\∀base:Heap,K.In base->base.Ns mainGlobals mg->FnOk l.prog w K mg base CX0 7 fa fd ["_law_script"] (spD K t70):=by
 have e:=hfa.symm.trans (B1 X G a33);cases e;have T:Txt mg:=⟨D8 X G z_bool,D8 X G z_dict,D8 X G z_enumerate,D8 X G z_int,D8 X G z_isinstance,D8 X G z_len,D8 X G z_list,D8 X G z_range,D8 X G z_reversed,D8 X G z_sorted,D8 X G z_str,D8 X G z_tuple,D8 X G z_zip,⟨_,B1 X G y_MOST_PARTS⟩⟩;have F0:=Y8 (st:=top 7) l0 c0 k0;have F1:=Y8 (st:=top 8) l1 c1 k1;have F2:=Y8 (st:=top 9) l2 c2 k2;have F3:=Y8 (st:=top 10) l3 c3 k3;have F4:=Y8 (st:=top 11) l4 c4 k4;have F5:=Y8 (st:=top 12) l5 c5 k5;have F6:=Y8 (st:=top 13) l6 c6 k6;have F7:=Y8 (st:=top 14) l7 c7 k7;have F8:=Y8 (st:=top 15) l8 c8 k8;have F9:=qn0 (st:=top 16) l9 c9 k9;have g5:=Y8 (st:=top 17) l10 c10 k10;have h0:=Y8 (st:=top 18) l11 c11 k11;have h7:=qn0 (st:=top 19) l12 c12 k12;have h9:=Y8 (st:=top 21) l13 c13 k13;have m3:=qn0 (st:=top 22) l14 c14 k14;have j2:=Y8 (st:=top 24) l15 c15 k15;have g8:=Y8 (st:=top 25) l16 c16 k16;have m0:=Y8 (st:=top 26) l17 c17 k17;have g4:=Y8 (st:=top 27) l18 c18 k18;have g6:=Y8 (st:=top 28) l19 c19 k19;have m6:=Y8 (st:=top 29) l20 c20 k20;have n1:=Y8 (st:=top 31) l21 c21 k21;have m1:=Y8 (st:=top 32) l22 c22 k22;have h6:=Y8 (st:=top 33) l23 c23 k23;have m2:=Y8 (st:=top 34) l24 c24 k24;have h3:=Y8 (st:=top 35) l25 c25 k25;have m5:=Y8 (st:=top 36) l26 c26 k26;have m4:=Y8 (st:=top 37) l27 c27 k27;have j1:=Y8 (st:=top 38) l28 c28 k28;have h5:=Y8 (st:=top 42) l29 c29 k29;have n0:=Y8 (st:=top 44) l30 c30 k30;have i3:=Y8 (st:=top 45) l31 c31 k31;have g7:=Y8 (st:=top 46) l32 c32 k32;have n4:=Y8 (st:=top 47) l33 c33 k33;refine⟨W.fnOf "law" "law" (n8 (top 47)) (n6 (top 47)) (u9 (top 47)) .none kV33 dc33 pm33 an33 cd33 ct33,λs v=>.of_eq rfl,λbase _ _=>?_⟩;have b5:FnD l.prog w K mg base "is_whole" 1 ["thing"] zl0:=⟨f0,_,ln0 F0 T ,B1 X G a0,k0,F0.binds (ps:=["thing"]) λ_ _ _ _ _ _ us hl=>by obtain⟨_,rfl⟩:=us1 hl;rfl⟩;have e1:FnD l.prog w K mg base "is_marked" 1 ["thing", "mark", "count"] yt0:=⟨f1,_,m20 F1 T ,B1 X G a1,k1,F1.binds (ps:=["thing", "mark", "count"]) λ_ _ _ _ _ _ us hl=>by obtain⟨_,_,_,rfl⟩:=us3 hl;rfl⟩;have b0:FnN l.prog w K mg base "pair_names" 1 ["part"] R7:=⟨f4,_,o00 F4 T ,B1 X G a4,k4,F4.binds (ps:=["part"]) λ_ _ _ _ _ _ us hl=>by obtain⟨_,rfl⟩:=us1 hl;rfl⟩;have O:FnN l.prog w K mg base "values" 1 ["part"] m_values:=⟨f6,_,gj0 F6 T ,B1 X G a6,k6,F6.binds (ps:=["part"]) λ_ _ _ _ _ _ us hl=>by obtain⟨_,rfl⟩:=us1 hl;rfl⟩;have e8:FnN l.prog w K mg base "way_to" 1 ["came", "pair"] zx0:=⟨f17,_,ge0 m0 T ,B1 X G a17,k17,m0.binds (ps:=["came", "pair"]) λ_ _ _ _ _ _ us hl=>by obtain⟨_,_,rfl⟩:=us2 hl;rfl⟩;have b2:FnD l.prog w K mg base "are_links" 1 ["both"] V0:=⟨f18,_,l90 g4 T ,B1 X G a18,k18,g4.binds (ps:=["both"]) λ_ _ _ _ _ _ us hl=>by obtain⟨_,rfl⟩:=us1 hl;rfl⟩;have Y:FnD l.prog w K mg base "linked_pair" 1 ["both"] Z0:=⟨f19,_,qg0 g6 T ,B1 X G a19,k19,g6.binds (ps:=["both"]) λ_ _ _ _ _ _ us hl=>by obtain⟨_,rfl⟩:=us1 hl;rfl⟩;have L:FnD l.prog w K mg base "_law_cell_at" 1 ["_law_script", "_law_k"] j6:=⟨f21,_,sx0 n1 T ,B1 X G a21,k21,n1.binds (ps:=["_law_script", "_law_k"]) λ_ _ _ _ _ _ us hl=>by obtain⟨_,_,rfl⟩:=us2 hl;rfl⟩;have e0:FnN l.prog w K mg base "_law_pool" 1 ["_law_cell", "_law_turn"] z20:=⟨f22,_,ny0 m1 T ,B1 X G a22,k22,m1.binds (ps:=["_law_cell", "_law_turn"]) λ_ _ _ _ _ _ us hl=>by obtain⟨_,_,rfl⟩:=us2 hl;rfl⟩;have b6:FnD l.prog w K mg base "_law_mix" 1 ["_law_cell", "_law_k"] V3:=⟨f23,_,lm0 h6 T ,B1 X G a23,k23,h6.binds (ps:=["_law_cell", "_law_k"]) λ_ _ _ _ _ _ us hl=>by obtain⟨_,_,rfl⟩:=us2 hl;rfl⟩;have b1:FnD l.prog w K mg base "_law_value" 1 ["_law_number", "_law_many"] T6:=⟨f24,_,pw0 m2 T ,B1 X G a24,k24,m2.binds (ps:=["_law_number", "_law_many"]) λ_ _ _ _ _ _ us hl=>by obtain⟨_,_,rfl⟩:=us2 hl;rfl⟩;have e3:FnD l.prog w K mg base "_law_part" 1 ["_law_number", "_law_some", "_law_pool_here"] z30:=⟨f26,_,m60 m5 T ,B1 X G a26,k26,m5.binds (ps:=["_law_number", "_law_some", "_law_pool_here"]) λ_ _ _ _ _ _ us hl=>by obtain⟨_,_,_,rfl⟩:=us3 hl;rfl⟩;have b3:FnN l.prog w K mg base "_law_vals" 1 ["_law_part_here"] Z7:=⟨f28,_,nc0 j1 T ,B1 X G a28,k28,j1.binds (ps:=["_law_part_here"]) λ_ _ _ _ _ _ us hl=>by obtain⟨_,rfl⟩:=us1 hl;rfl⟩;have b8:FnD l.prog w K mg base "is_link" 2 ["thing"] M8:=⟨f2,_,jn0 F2 T e1 b5,B1 X G a2,k2,F2.binds (ps:=["thing"]) λ_ _ _ _ _ _ us hl=>by obtain⟨_,rfl⟩:=us1 hl;rfl⟩;have e7:FnD l.prog w K mg base "head" 2 ["part"] Q9:=⟨f5,_,ad0 F5 T b0,B1 X G a5,k5,F5.binds (ps:=["part"]) λ_ _ _ _ _ _ us hl=>by obtain⟨_,rfl⟩:=us1 hl;rfl⟩;have Z:FnD l.prog w K mg base "with_values" 2 ["part", "some"] V1:=⟨f7,_,qi0 F7 T b0,B1 X G a7,k7,F7.binds (ps:=["part", "some"]) λ_ _ _ _ _ _ us hl=>by obtain⟨_,_,rfl⟩:=us2 hl;rfl⟩;have g2:FnN l.prog w K mg base "links" 2 ["part"] zk0:=⟨f8,_,e40 F8 T O,B1 X G a8,k8,F8.binds (ps:=["part"]) λ_ _ _ _ _ _ us hl=>by obtain⟨_,rfl⟩:=us1 hl;rfl⟩;have d0:FnN l.prog w K mg base "_law_values" 2 ["_law_number", "_law_count", "_law_many"] M7:=⟨f25,_,qc0 h3 T b1,B1 X G a25,k25,h3.binds (ps:=["_law_number", "_law_count", "_law_many"]) λ_ _ _ _ _ _ us hl=>by obtain⟨_,_,_,rfl⟩:=us3 hl;rfl⟩;have b7:FnN l.prog w K mg base "_law_met" 2 ["_law_web_here", "_law_k"] U5:=⟨f30,_,lo0 n0 T b3,B1 X G a30,k30,n0.binds (ps:=["_law_web_here", "_law_k"]) λ_ _ _ _ _ _ us hl=>by obtain⟨_,_,rfl⟩:=us2 hl;rfl⟩;have e6:FnD l.prog w K mg base "is_value" 3 ["thing"] G5:=⟨f3,_,k00 F3 T b8 b5,B1 X G a3,k3,F3.binds (ps:=["thing"]) λ_ _ _ _ _ _ us hl=>by obtain⟨_,rfl⟩:=us1 hl;rfl⟩;have J:FnN l.prog w K mg base "met_but" 3 ["web", "k", "left"] O6:=⟨f10,_,jk0 g5 T g2,B1 X G a10,k10,g5.binds (ps:=["web", "k", "left"]) λ_ _ _ _ _ _ us hl=>by obtain⟨_,_,_,rfl⟩:=us3 hl;rfl⟩;have F:FnD l.prog w K mg base "relinked" 3 ["part", "numbers"] R4:=⟨f11,_,lc0 h0 T O Z,B1 X G a11,k11,h0.binds (ps:=["part", "numbers"]) λ_ _ _ _ _ _ us hl=>by obtain⟨_,_,rfl⟩:=us2 hl;rfl⟩;have d1:FnD l.prog w K mg base "are_parting" 3 ["one", "other", "both"] U4:=⟨f20,_,qk0 m6 T b2 e7 Y,B1 X G a20,k20,m6.binds (ps:=["one", "other", "both"]) λ_ _ _ _ _ _ us hl=>by obtain⟨_,_,_,rfl⟩:=us3 hl;rfl⟩;have e5:FnD l.prog w K mg base "_law_web" 3 ["_law_cells", "_law_many", "_law_pool_here"] zn0:=⟨f27,_,lq0 m4 T b6 e3 d0,B1 X G a27,k27,m4.binds (ps:=["_law_cells", "_law_many", "_law_pool_here"]) λ_ _ _ _ _ _ us hl=>by obtain⟨_,_,_,rfl⟩:=us3 hl;rfl⟩;have g1:FnN l.prog w K mg base "met" 4 ["web", "k"] vm0:=⟨f9,_,in0 F9 T J,B1 X G a9,k9,λs us X hl=>match us,hl with|[_,_],_=>W1 X rfl t9 rfl rfl rfl⟩;have n3:U20 l.prog w K mg base "met" 4 ["web", "k"] vm0 [(.int 0)]:=⟨f9,_,[.int 0 tt9_0],[.int 0],in0 F9 T J,B1 X G a9,k9,λs us X hl=>by obtain⟨u0,rfl⟩:=us1 (show us.length=1 by rw[List.length_append] at hl;simpa using hl);exact W1 X rfl t9 rfl rfl rfl,by repeat (first|exact .nil|refine .cons (by first|exact⟨_,rfl⟩|rfl) ?_),λH B=>by simp[o4,o7,o8,W0]⟩;have g3:FnD l.prog w K mg base "put" 4 ["web", "k", "place", "value"] te0:=⟨f13,_,Xy0 h9 T b8 e6 O Z,B1 X G a13,k13,h9.binds (ps:=["web", "k", "place", "value"]) λ_ _ _ _ _ _ us hl=>by obtain⟨_,_,_,_,rfl⟩:=us4 hl;rfl⟩;have e9:FnD l.prog w K mg base "copied" 4 ["web", "k", "kept"] y20:=⟨f14,_,p30 m3 T J F,B1 X G a14,k14,λs us X hl=>match us,hl with|[_,_,_],_=>W1 X rfl t14 rfl rfl rfl⟩;have h4:X70 l.prog w K mg base "copied" 4 ["web", "k", "kept"] y20 [.non]:=⟨f14,_,[.none],[.non],p30 m3 T J F,B1 X G a14,k14,λs us X hl=>by obtain⟨u0,u1,rfl⟩:=us2 (show us.length=2 by rw[List.length_append] at hl;simpa using hl);exact W1 X rfl t14 rfl rfl rfl,by repeat (first|exact .nil|refine .cons (by first|exact⟨_,rfl⟩|rfl) ?_),λH B=>by simp[o4,o7,o8,W0]⟩;have b9:FnD l.prog w K mg base "paired_walk" 4 ["one", "other", "start"] X5:=⟨f16,_,q30 g8 T b2 d1 e7 Y O e8,B1 X G a16,k16,g8.binds (ps:=["one", "other", "start"]) λ_ _ _ _ _ _ us hl=>by obtain⟨_,_,_,rfl⟩:=us3 hl;rfl⟩;have b4:FnD l.prog w K mg base "_law_drawn_web" 4 ["_law_script", "_law_most"] R0:=⟨f29,_,tm0 h5 T L e0 e5,B1 X G a29,k29,h5.binds (ps:=["_law_script", "_law_most"]) λ_ _ _ _ _ _ us hl=>by obtain⟨_,_,rfl⟩:=us2 hl;rfl⟩;have e4:FnD l.prog w K mg base "drawn" 5 ["web", "k"] U8:=⟨f12,_,ni0 h7 T g1 F,B1 X G a12,k12,λs us X hl=>match us,hl with|[_,_],_=>W1 X rfl t12 rfl rfl rfl⟩;have n2:X70 l.prog w K mg base "drawn" 5 ["web", "k"] U8 [(.int 0)]:=⟨f12,_,[.int 0 tt12_0],[.int 0],ni0 h7 T g1 F,B1 X G a12,k12,λs us X hl=>by obtain⟨u0,rfl⟩:=us1 (show us.length=1 by rw[List.length_append] at hl;simpa using hl);exact W1 X rfl t12 rfl rfl rfl,by repeat (first|exact .nil|refine .cons (by first|exact⟨_,rfl⟩|rfl) ?_),λH B=>by simp[o4,o7,o8,W0]⟩;have d3:FnD l.prog w K mg base "look_table" 5 ["web", "p", "q"] O9:=⟨f15,_,pv0 j2 T b9,B1 X G a15,k15,j2.binds (ps:=["web", "p", "q"]) λ_ _ _ _ _ _ us hl=>by obtain⟨_,_,_,rfl⟩:=us3 hl;rfl⟩;have e2:FnD l.prog w K mg base "_law_made" 6 ["_law_web_here", "_law_k", "_law_kept"] z00:=⟨f31,_,nf0 i3 T b7 e9 e4 d3,B1 X G a31,k31,i3.binds (ps:=["_law_web_here", "_law_k", "_law_kept"]) λ_ _ _ _ _ _ us hl=>by obtain⟨_,_,_,rfl⟩:=us3 hl;rfl⟩;have d2:FnD l.prog w K mg base "_law_put_at" 6 ["_law_web_here", "_law_number", "_law_k", "_law_copy_at"] M6:=⟨f32,_,rw0 g7 T b7 b3 b1 e4 g3,B1 X G a32,k32,g7.binds (ps:=["_law_web_here", "_law_number", "_law_k", "_law_copy_at"]) λ_ _ _ _ _ _ us hl=>by obtain⟨_,_,_,_,rfl⟩:=us4 hl;rfl⟩;exact Zg0 n4 T L b4 e2 b6 d2
theorem l80:∀ns:List Int,Rps K H B (ns.map D.int) (ns.map V.int)
 | []=>by rw[List.map_nil,List.map_nil,o7]
 | n::ns=>by
  rw[List.map_cons,List.map_cons,o4];exact⟨_,_,rfl,by rw[o8],l80 ns⟩
theorem f50{ns:List Int}(hS:SqL K H a (ns.map V.int))(hm:t70 [.lst (ns.map .int)]=some (.bl true)):spD K t70 [.ref a] H (λv _=>v=.bl true) λ_ _ _=>False:=by
 refine⟨λ_=>False,[.lst (ns.map .int)],.bl true,λ_ z=>z.elim,?_,hm,λv H' _ r=>by rw[Z8] at r;exact r⟩;rw[o4];refine⟨_,[],rfl,?_,by rw[o7]⟩;rw[Y6];refine⟨a,ns.map V.int,rfl,?_,l80 ns⟩;rcases hS with h|h
 ·exact .inl ⟨λz=>z,h⟩
 ·exact .inr (.inr h)
end Ra
open PySem.W PyProof.Rows
theorem PySem.W.Fast.tw15578614077226788880:True:=trivial
theorem PySem.W.Fast.tw7262529394503430294:True:=trivial
theorem PySem.W.Fast.tw10977666937295026935:True:=trivial
theorem PySem.W.Fast.tw7287644276835309883:True:=trivial
theorem PySem.W.Fast.tw15386395973688233722:True:=trivial
theorem PySem.W.Fast.tw12232977068992549354:True:=trivial
theorem PySem.W.Fast.tw16017848305757030742:True:=trivial
theorem PySem.W.Fast.tw3866319636593343830:True:=trivial
theorem PySem.W.Fast.tw13502007918811701056:True:=trivial
theorem PySem.W.Fast.tw16264946195499881301:True:=trivial
theorem PySem.W.Fast.tw15389823975076704286:True:=trivial
theorem PySem.W.Fast.tw18377342816770621082:True:=trivial
theorem PySem.W.Fast.tw11114736640096186876:True:=trivial
theorem PySem.W.Fast.tw15498892675820251779:True:=trivial
theorem PySem.W.Fast.tw14424466244358650001:True:=trivial
theorem PySem.W.Fast.tw2990776335302519304:True:=trivial
theorem PySem.W.Fast.tw9116804911605090121:True:=trivial
theorem PySem.W.Fast.tw1016191526361734314:True:=trivial
theorem PySem.W.Fast.tw5909264619273798139:True:=trivial
theorem PySem.W.Fast.tw17728807665138439071:True:=trivial
theorem PySem.W.Fast.tw9644763090585659072:True:=trivial
theorem PySem.W.Fast.tw16403958898885084738:True:=trivial
theorem PySem.W.Fast.tw1082458557792161840:True:=trivial
theorem PySem.W.Fast.tw4821019485916903000:True:=trivial
theorem PySem.W.Fast.tw7391914917753279321:True:=trivial
theorem PySem.W.Fast.tw4030478868840391406:True:=trivial
theorem PySem.W.Fast.tw13955242156919902809:True:=trivial
theorem PySem.W.Fast.tw5408346972180834689:True:=trivial
theorem PySem.W.Fast.tw9790262590663781490:True:=trivial
theorem PySem.W.Fast.tw1248347764663552247:True:=trivial
set_option maxRecDepth 100000 in
theorem PySem.Challenge.cw_graphpack_k23_whole_copies_stand_alone_holds : PySem.Challenge.rw_graphpack_k23_whole_copies_stand_alone.Holds := by
 w_on;o_law;k_head;(case hw=>w_witness2)
 k_fill
 refine L2.eb0 (l:=PySem.Challenge.rw_graphpack_k23_whole_copies_stand_alone) (n:=63) (k:=7) (x := "_law_script") (CX:=L2.CX0) (sp:=λK=>DL.spD K Ra.t70) rfl (by decide) rfl ⟨rfl,by decide,by decide⟩ (λw h Y=>W.kIn_of Y) ?F ?S ?C
 case F =>
  intro w mg fa h KX G hmg;refine' Ra.all_mk KX G hmg ?a0 ?l0 ?c0 ?k0 ?a1 ?l1 ?c1 ?k1 ?a2 ?l2 ?c2 ?k2 ?a3 ?l3 ?c3 ?k3 ?a4 ?l4 ?c4 ?k4 ?a5 ?l5 ?c5 ?k5 ?a6 ?l6 ?c6 ?k6 ?a7 ?l7 ?c7 ?k7 ?a8 ?l8 ?c8 ?k8 ?a9 ?l9 ?c9 ?k9 ?t9 ?a10 ?l10 ?c10 ?k10 ?a11 ?l11 ?c11 ?k11 ?a12 ?l12 ?c12 ?k12 ?t12 ?a13 ?l13 ?c13 ?k13 ?a14 ?l14 ?c14 ?k14 ?t14 ?a15 ?l15 ?c15 ?k15 ?a16 ?l16 ?c16 ?k16 ?a17 ?l17 ?c17 ?k17 ?a18 ?l18 ?c18 ?k18 ?a19 ?l19 ?c19 ?k19 ?a20 ?l20 ?c20 ?k20 ?a21 ?l21 ?c21 ?k21 ?a22 ?l22 ?c22 ?k22 ?a23 ?l23 ?c23 ?k23 ?a24 ?l24 ?c24 ?k24 ?a25 ?l25 ?c25 ?k25 ?a26 ?l26 ?c26 ?k26 ?a27 ?l27 ?c27 ?k27 ?a28 ?l28 ?c28 ?k28 ?a29 ?l29 ?c29 ?k29 ?a30 ?l30 ?c30 ?k30 ?a31 ?l31 ?c31 ?k31 ?a32 ?l32 ?c32 ?k32 ?a33 ?l33 ?c33 ?k33 ?z_bool ?z_dict ?z_enumerate ?z_int ?z_isinstance ?z_len ?z_list ?z_range ?z_reversed ?z_sorted ?z_str ?z_tuple ?z_zip ?y_MOST_PARTS
  (case a0=>k_is)
  (case l0=>k_is)
  (case c0=>k_is)
  (case k0=>k_is)
  (case a1=>k_is)
  (case l1=>k_is)
  (case c1=>k_is)
  (case k1=>k_is)
  (case a2=>k_is)
  (case l2=>k_is)
  (case c2=>k_is)
  (case k2=>k_is)
  (case a3=>k_is)
  (case l3=>k_is)
  (case c3=>k_is)
  (case k3=>k_is)
  (case a4=>k_is)
  (case l4=>k_is)
  (case c4=>k_is)
  (case k4=>k_is)
  (case a5=>k_is)
  (case l5=>k_is)
  (case c5=>k_is)
  (case k5=>k_is)
  (case a6=>k_is)
  (case l6=>k_is)
  (case c6=>k_is)
  (case k6=>k_is)
  (case a7=>k_is)
  (case l7=>k_is)
  (case c7=>k_is)
  (case k7=>k_is)
  (case a8=>k_is)
  (case l8=>k_is)
  (case c8=>k_is)
  (case k8=>k_is)
  (case a9=>k_is)
  (case l9=>k_is)
  (case c9=>k_is)
  (case k9=>k_is)
  (case t9=>k_is)
  (case a10=>k_is)
  (case l10=>k_is)
  (case c10=>k_is)
  (case k10=>k_is)
  (case a11=>k_is)
  (case l11=>k_is)
  (case c11=>k_is)
  (case k11=>k_is)
  (case a12=>k_is)
  (case l12=>k_is)
  (case c12=>k_is)
  (case k12=>k_is)
  (case t12=>k_is)
  (case a13=>k_is)
  (case l13=>k_is)
  (case c13=>k_is)
  (case k13=>k_is)
  (case a14=>k_is)
  (case l14=>k_is)
  (case c14=>k_is)
  (case k14=>k_is)
  (case t14=>k_is)
  (case a15=>k_is)
  (case l15=>k_is)
  (case c15=>k_is)
  (case k15=>k_is)
  (case a16=>k_is)
  (case l16=>k_is)
  (case c16=>k_is)
  (case k16=>k_is)
  (case a17=>k_is)
  (case l17=>k_is)
  (case c17=>k_is)
  (case k17=>k_is)
  (case a18=>k_is)
  (case l18=>k_is)
  (case c18=>k_is)
  (case k18=>k_is)
  (case a19=>k_is)
  (case l19=>k_is)
  (case c19=>k_is)
  (case k19=>k_is)
  (case a20=>k_is)
  (case l20=>k_is)
  (case c20=>k_is)
  (case k20=>k_is)
  (case a21=>k_is)
  (case l21=>k_is)
  (case c21=>k_is)
  (case k21=>k_is)
  (case a22=>k_is)
  (case l22=>k_is)
  (case c22=>k_is)
  (case k22=>k_is)
  (case a23=>k_is)
  (case l23=>k_is)
  (case c23=>k_is)
  (case k23=>k_is)
  (case a24=>k_is)
  (case l24=>k_is)
  (case c24=>k_is)
  (case k24=>k_is)
  (case a25=>k_is)
  (case l25=>k_is)
  (case c25=>k_is)
  (case k25=>k_is)
  (case a26=>k_is)
  (case l26=>k_is)
  (case c26=>k_is)
  (case k26=>k_is)
  (case a27=>k_is)
  (case l27=>k_is)
  (case c27=>k_is)
  (case k27=>k_is)
  (case a28=>k_is)
  (case l28=>k_is)
  (case c28=>k_is)
  (case k28=>k_is)
  (case a29=>k_is)
  (case l29=>k_is)
  (case c29=>k_is)
  (case k29=>k_is)
  (case a30=>k_is)
  (case l30=>k_is)
  (case c30=>k_is)
  (case k30=>k_is)
  (case a31=>k_is)
  (case l31=>k_is)
  (case c31=>k_is)
  (case k31=>k_is)
  (case a32=>k_is)
  (case l32=>k_is)
  (case c32=>k_is)
  (case k32=>k_is)
  (case a33=>k_is)
  (case l33=>k_is)
  (case c33=>k_is)
  (case k33=>k_is)
  (case z_bool=>k_is)
  (case z_dict=>k_is)
  (case z_enumerate=>k_is)
  (case z_int=>k_is)
  (case z_isinstance=>k_is)
  (case z_len=>k_is)
  (case z_list=>k_is)
  (case z_range=>k_is)
  (case z_reversed=>k_is)
  (case z_sorted=>k_is)
  (case z_str=>k_is)
  (case z_tuple=>k_is)
  (case z_zip=>k_is)
  (case y_MOST_PARTS=>k_is)
 case S=>exact λK H a ns hl hO hS=>Ra.f50 hS (Ra.ej0 ns hl)
 case C=>exact λ_ _ _ _ z=>z
#print axioms PySem.Challenge.cw_graphpack_k23_whole_copies_stand_alone_holds
