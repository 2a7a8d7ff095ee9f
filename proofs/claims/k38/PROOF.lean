import PyProof.Rows.All
import Wide.All
import OpenK.AllK
import Wide.FinOn
import Lean
import PyProof.EqAt
import PyProof.EqKinds
import PyProof.TupleCall
import PyProof.NeKinds
import PyProof.Rows.SetFrom
import KE.KRevIter
import PyProof.ZipIter
import PyProof.TupleOfGen
import PyProof.Rows.ZipGen
import PyProof.EnumMake
import PyProof.EnumFor
import PyProof.ListRange
import PyProof.LayNew
import KE.KDictOf
import KE.KIntText
import KE.IntTextLaws
import PyProof.StrCalls2
import PyProof.Rows.StrNews2
import PyProof.StrLawsTight
import PyProof.FactsAll.object
import PyProof.IsiStr
import KE.KIsAll
import KE.KLam
import KE.KNestM
import PyProof.ListMulRight
import PyProof.AttrMissHeap
import PyProof.AutoListH
import PyProof.CallFns
import PyProof.ExcArgsOwn
import PyProof.ExcAttrAll.ValueError
import PyProof.IsInstanceT
import PyProof.RulesAs
import PyProof.Rows.Tup
import OpenK.KOwn
import PyProof.ExcInit
import OpenK.KCls
import OpenK.KMake
import PyProof.InstStoreFacts
import PyProof.RaisesMany
import PyProof.RulesTry
import PyProof.NsDelKeeps
import PyProof.Rows.FStr
import OpenK.KWalk
import PyProof.Rows.SortStr
import KE.KDictSum
import PyProof.Draws
import PyProof.SliceList
import PyProof.Rows.CallKwBuiltin
import PyProof.SumWalkG
import KE.KDictLaws
import PyProof.DictTruth
import PyProof.Rows.SortShellK
import PyProof.Rows.SortWalk
import PySem.Challenge.RW_graphpack_k38_whole_bundles_and_looks
set_option maxHeartbeats 0
noncomputable section
open PySem
def A0:=@PySem.wpAny_bind
def A1:=@Nat.le_refl
def A2:=@PySem.wpAny_pure
def A3:=@PySem.Heap.lt_size
def A4:=@Ne.symm
def A5:=@Nat.ne_of_lt
def A6:=@PySem.Heap.get?_push_of_some
def A7:=@List.mem_cons_of_mem
def A8:=@Nat.lt_of_lt_of_le
def A9:=@List.mem_cons_self
def B0:=@List.mem_map
def B3:=@Option.some.inj
def B4:=@List.mem_cons
def B5:=@List.mem_append
def B6:=@Nat.ne_of_gt
def B7:=@PySem.Heap.get?_push_size
def B8:=@Bool.false_ne_true
def B9:=@Nat.zero_le
def C0:=@List.getElem?_eq_some_iff
def C3:=@PySem.W.mg_of
def C4:=@PySem.PassesOwn.never
def C5:=@Nat.le_trans
def C6:=@List.mem_append_right
def C7:=@List.getElem?_eq_getElem
def C8:=@List.mem_range
def C9:=@PySem.wpAny_mono
def D0:=@Nat.lt_irrefl
def D1:=@List.mem_of_getElem?
def D2:=@PySem.wpAny_field
def D3:=@List.getElem_mem
def D4:=@List.mem_singleton
def D5:=@PySem.W.mg_none_of
def D6:=@List.mem_append_left
def D7:=@PySem.wpAny_holding
def D8:=@PySem.wpAny_Call_Name_kw
def D9:=@PySem.mem_of_lookup
def E1:=@Nat.le_of_lt
def E2:=@PySem.W.kia_one
def E3:=@congrArg
def E4:=@PyProof.Rows.callWith_type1
def E5:=@PySem.wpAny_newObj_type
def E6:=@PySem.call_meets
def E7:=@Nat.lt_trans
def E8:=@PySem.wpAny_Name
def E9:=@PySem.wpAny_passesOwn
def G0:=@PySem.Heap.get?_update_other
def I0:=@PySem.Heap.get?_update_self
def K0:=@List.mem_of_mem_take
def K2:=@PySem.codeAny_builtin
def L0:=@PySem.wpAny_truthy_bool
def L3:=@List.nodup_cons
def L4:=@PyProof.Rows.slot_tuple_getitem
def L5:=@PySem.wpAny_typeOf
def L6:=@PySem.typeIs_str
def L7:=@Nat.lt_of_le_of_lt
def L8:=@Int.emod_nonneg
def L9:=@Int.emod_lt_of_pos
def M0:=@Nat.not_lt_zero
def M1:=@Nat.mul_le_mul_right
def M2:=@decide_eq_false
def N0:=@PySem.Calls.spliced_nil
def N1:=@PySem.Calls.spliced_cons
def N2:=@PySem.codeAny_mono
def N3:=@List.of_mem_zip
def N4:=@PySem.SeqAt.EqAt.same
def N9:=@PySem.typeIs_int
def O0:=@Option.map_eq_some_iff
def P1:=@PySem.wpAny_specialOf
def P2:=@PySem.wpAny_updateSeq
def P3:=@PySem.F.plainAttrs_list
def P4:=@PySem.plainId_quiet
def P5:=@Array.getElem?_eq_getElem
def P6:=@of_decide_eq_true
def P7:=@Nat.le_add_right
def P8:=@beq_eq_false_iff_ne
def Q2:=@PySem.SeqAt.EqAt.int_str
def R1:=@PySem.SeqAt.EqAt.str_int
def S0:=@List.getElem?_eq_none_iff
def S1:=@PySem.wpAny_loadName_local
def S2:=@List.mem_filterMap
def S3:=@PySem.concat_meets
def S4:=@PySem.wpAny_callSpecial?_slot
def U1:=@PySem.wpAny_call_entry
def W1:=@PySem.slot_list_getitem
def X0:=@List.length_eq_zero_iff
def X1:=@PySem.F.slot_zip_next
def X2:=@PySem.F.plain_extend_loop
def Y1:=@decide_eq_true
def Y2:=@PySem.Obj.data_mapFields
def Y3:=@Classical.axiomOfChoice
def c5:=@Nat.pow_succ
def c6:=@PySem.W.binds_K
def c8:=@PySem.F.typeOf_object_class
def c9:=@PySem.Paired.length
def d5:=@PySem.wpAny_loadName_free
def d6:=@PySem.wpAny_execs_nil
def g7:=@PySem.wpAny_standAt
def i4:=@PySem.W.callWith_K
def i5:=@PySem.W.cellsFrom_some
def i6:=@PySem.noFill_tuple_add
def i7:=@PySem.seq_tuple_add
def i8:=@PySem.F.slot_tuple_add
def i9:=@PySem.F.entry_tuple_add
def j2:=@PySem.F.args_tuple_add_2
def k4:=@PySem.SeqAt.EqAt.none_bool
def k6:=@PySem.SeqAt.EqAt.none_int
def k8:=@PySem.SeqAt.EqAt.none_str
def k9:=@PySem.SeqAt.EqAt.bool_none
def l0:=@PySem.SeqAt.EqAt.bool_bool
def l5:=@PySem.SeqAt.EqAt.bool_int
def l6:=@PySem.SeqAt.EqAt.bool_str
def l8:=@PySem.SeqAt.EqAt.int_none
def l9:=@PySem.SeqAt.EqAt.int_bool
def m3:=@PySem.SeqAt.EqAt.int_int
def m4:=@PySem.SeqAt.EqAt.str_none
def n5:=@PySem.SeqAt.EqAt.str_bool
def n9:=@PySem.SeqAt.EqAt.str_str
def o0:=@Eq.trans
def p9:=@Nat.le_of_eq
def r8:=@PySem.tupleKind_room_in1
def r9:=@PySem.wpAny_loadPart'
def t5:=@Nat.lt_succ_self
def u2:=@PySem.wpAny_seqItems
def u3:=@List.mem_iff_getElem
def u4:=@PySem.wpAny_nextOf_list_item
def u7:=@PySem.wpAny_setField
def u8:=@PySem.Obj.isFreed_of_fields
def v3:=@Int.natCast_nonneg
def w4:=@Int.lt_of_le_of_lt
def w8:=@List.mem_reverse
def x4:=@PySem.PassesOwn.leaving
def x5:=@PySem.codeAny_call_builtin
def x6:=@PySem.Heap.get?_none_of_le
def y3:=@PySem.Calls.Name_function_global
def y4:=@PySem.wpAny_isTrue_Compare1
def A70:=@PySem.wpAny_newFunctionEnv_cells
def A90:=@Nat.min_le_right
def Aj0:=@PySem.wpAny_getItem_list_slice
def Al0:=@PySem.Calls.callWith_builtin
def Ao0:=@PySem.wpAny_comprehension_free
def As0:=@Bool.eq_false_iff
def Au0:=@PySem.F.slot_dict_getitem
def Av0:=@PySem.F.slot_list_append
def Aw0:=@PySem.F.type_list_append
def B90:=@PySem.SeqAt.RcAt.lists_lengths
def Bc0:=@Nat.lt_succ_of_lt
def Bh0:=@Array.getElem?_eq_none
def Bl0:=@List.mem_map_of_mem
def Bn0:=@PySem.F.slot_int_mul
def Bq0:=@List.findIdx?_eq_some_iff_getElem
def By0:=@List.mem_flatMap
def Bz0:=@Nat.eq_zero_or_pos
def C20:=@List.map_snd_zip
def C40:=@List.ext_getElem
def C50:=@decide_eq_decide
set_option Elab.async false
set_option linter.all false
set_option maxRecDepth 100000
namespace KfT
theorem sl:Slot "function" "__getattribute__" "object.__getattribute__" := by
 refine .of (owner := "object") (n := "__getattribute__") ?_ (by decide +kernel) (by decide +kernel) (by decide +kernel) ?_ ?_
 ·rw[typeLookup_type,builtinLookup_eq_fast];kernel_rfl
 ·first|exact .inl (by decide +kernel)|exact .inr (by decide +kernel)
 ·rw[isSubtype_type];kernel_rfl
variable{y x name qual q x2 nx root:Str}{R:Result->Shared->Prop}{K:W.Frag}{us tl:List Value}{a it dx fa I c0 z i1 l1 l2:Addr}{o b e c tg iter value elt:Expr}{u dV doc pm cdv ct oc vl vu:Value}{items ys:Array Value}{h' base:Heap}{α β κ:Type}{pins:List (Addr×Obj)}{t' i j n k1 k2 x1:Nat}{ch fp:List Addr}{N N' cs rs:List Str}{E Q:Value->Shared->Prop}{s':Shared}{pos pos' p tpos apos p2 cpos py spos px p3 pos2 p1 p0 np:Pos}{rest:List Stmt}{st:Stmt}{es ifs elts:List Expr}{l:List Int}{lo:Option Int}{prog:Program}{fd:FuncData}{sc scope lsc:Scope}{mg:Str->Option Value}{an od:Option Addr}{osl:Array (Option Value)}{caps idx:List Nat}{oa:Obj}{adj:Nat->List Nat}
theorem lk:typeLookup (.type "function") "__class__"=pure (some (.builtin "object.__class__")):=by
 rw[typeLookup_type,builtinLookup_eq_fast];kernel_rfl
theorem ow:isSubtype (.type "function") (.type (".".intercalate ("object.__class__".cutAt '.').dropLast))=pure true:=by
 rw[F.owner_object_class,isSubtype_type];kernel_rfl
section
variable{P:Program}{W:World}{A:Around}{X:Value->Shared->Prop}{s:Shared}{f:Addr}{y:Obj}
theorem gs(e:s.heap.get? f=some y)(c:y.cls=.type "function")(q:R (.ok (.ret (.type "function"))) s) :
  codeAny (model P W) A (.call (.builtin "getset_descriptor.__get__") ⟨[.builtin "object.__class__",.ref f,.type "function"],[]⟩) R s:=by
 obtain⟨hh,gg,dd,tt,oo⟩:=s;have z1:(⟨hh,gg,dd,tt,oo⟩:Shared).TypeIs (.ref f) "function" := ⟨_,e,c⟩;have z2:=ow;refine x5 F.slot_gs_get.plain F.entry_gs_get (F.slot_gs_get.check _ _ _ _ _ _ _ _ c8 (F.args_gs_get _ _ _) ?_)
 repeat (any_goals (first|assumption|wp_step))
 refine⟨Code.quiet_builtin _ (by decide +kernel),K2 F.entry_object_class ?_⟩
 repeat (any_goals (first|assumption|wp_step))
theorem ga{tk:Tok}{R:Fin->Shared->Prop}(e:s.heap.get? f=some y)(c:y.cls=.type "function")(q:R (.done (.ret (.type "function"))) s) :
  wpAny (model P W) A (Builtin.«object.__getattribute__» ⟨[.ref f,.str "__class__" tk],[]⟩) R X s:=by
 obtain⟨hh,gg,dd,tt,oo⟩:=s;have z1:(⟨hh,gg,dd,tt,oo⟩:Shared).TypeIs (.ref f) "function" := ⟨_,e,c⟩;have z2:(⟨hh,gg,dd,tt,oo⟩:Shared).TypeIs (.builtin "object.__class__") "getset_descriptor" := c8;have z3:=lk;have z4:=c8;have z5:=F.slot_gs_get.lookup;have z6:=F.slot_gs_set.lookup
 repeat (any_goals (first|assumption|wp_step))
 refine gs e c ?_
 repeat (any_goals (first|assumption|wp_step))
variable{hh:Heap}{gg:Array GenState}{dd:Drawn}{tt:Nat}{oo:OsState}
theorem by'{tk:Tok}{R:Value->Shared->Prop}(e:hh.get? f=some y)(c:y.cls=.type "function")(q:R (.type "function") ⟨hh,gg,dd,tt,oo⟩):wpAny (model P W) A (getAttrBy (.ref f) (.str "__class__" tk) false) R X ⟨hh,gg,dd,tt,oo⟩:=by
 have z1:(⟨hh,gg,dd,tt,oo⟩:Shared).TypeIs (.ref f) "function" := ⟨_,e,c⟩;have z2:=sl.lookup;have z3:=sl.bind (.ref f)
 repeat (any_goals (first|assumption|wp_step))
 refine x5 sl.plain F.entry_object_getattribute (sl.check _ _ _ _ _ _ _ _ z1 (F.args_object_getattribute_2 _ _) (ga e c ?_))
 repeat (any_goals (first|assumption|wp_step))
theorem at'{R:Option Value->Shared->Prop}(e:hh.get? f=some y)(c:y.cls=.type "function")(q:R (some (.type "function")) ⟨hh,gg,dd,tt+1,oo⟩):wpAny (model P W) A (getAttr? (.ref f) "__class__") R X ⟨hh,gg,dd,tt,oo⟩:=by
 unfold getAttr? getAttrBy?
 repeat (any_goals (first|assumption|with_reducible apply by' e c|wp_step))
end
theorem kit{f:Addr}:W.KitX K (.ref f) (.type "function") (W.KitAt f "function"):=W.kitx_of W.kitAt_ty λ{_ _ _ _ _ s} p k=>by
 obtain⟨hh,gg,dd,tt,oo⟩:=s;obtain⟨_,e,c⟩:=p;exact at' e c k
end KfT
variable{y x name qual q x2 nx root:Str}{R:Result->Shared->Prop}{K:W.Frag}{us tl:List Value}{a it dx fa I c0 z i1 l1 l2:Addr}{o b e c tg iter value elt:Expr}{u dV doc pm cdv ct oc vl vu:Value}{items ys:Array Value}{h' base:Heap}{α β κ:Type}{pins:List (Addr×Obj)}{t' i j n k1 k2 x1:Nat}{ch fp:List Addr}{N N' cs rs:List Str}{E Q:Value->Shared->Prop}{s':Shared}{pos pos' p tpos apos p2 cpos py spos px p3 pos2 p1 p0 np:Pos}{rest:List Stmt}{st:Stmt}{es ifs elts:List Expr}{l:List Int}{lo:Option Int}{prog:Program}{fd:FuncData}{sc scope lsc:Scope}{mg:Str->Option Value}{an od:Option Addr}{osl:Array (Option Value)}{caps idx:List Nat}{oa:Obj}{adj:Nat->List Nat}
namespace L2
open Spec PyProof.Rows
abbrev Key:=Sum Int Str
def sh0:Key->Value->Bool
 | .inl k,v=>Value.isInt k v
 | .inr x,v=>Value.isStrOf x v
variable{ks:List L2.Key}
def Uh0(w:World):Key->Int
 | .inl k=>hashInt k
 | .inr x=>hashStr w x
theorem R8:∀{k:Key} {v:Value},sh0 k v=true->(∃i t,k=Sum.inl i/\v=Value.int i t)∨(∃x t,k=Sum.inr x/\v=Value.str x t)
 | .inl i,v,h=>by
  obtain⟨t,e⟩:=Value.isInt_shape (k:=i) (v:=v) h;exact .inl ⟨i,t,rfl,e⟩
 | .inr x,v,h=>by
  obtain⟨t,e⟩:=Value.isStrOf_shape (x:=x) (v:=v) h;exact .inr ⟨x,t,rfl,e⟩
theorem ff0(i:Int)(t:Tok):sh0 (.inl i) (.int i t)=true:=by simp[sh0,Value.isInt]
theorem fp0(x:Str)(t:Tok):sh0 (.inr x) (.str x t)=true:=by simp[sh0,Value.isStrOf]
theorem Xc0(a b:Int):decide ((Sum.inl a:Key)=Sum.inl b)=(a==b):=by
 by_cases e:a=b
 ·subst e;simp
 ·have h:¬(Sum.inl a:Key)=Sum.inl b:=λq=>e (Sum.inl.inj q)
  rw[decide_eq_false h];exact(P8.mpr e).symm
theorem Yt0(a b:Str):decide ((Sum.inr a:Key)=Sum.inr b)=decide (a=b):=by
 by_cases e:a=b
 ·subst e;simp
 ·have h:¬(Sum.inr a:Key)=Sum.inr b:=λq=>e (Sum.inr.inj q)
  rw[decide_eq_false h,decide_eq_false e]
theorem Ys0(a:Int)(b:Str):decide ((Sum.inl a:Key)=Sum.inr b)=false:=M2 (λq=>nomatch q)
theorem Yj0(a:Str)(b:Int):decide ((Sum.inr a:Key)=Sum.inl b)=false:=M2 (λq=>nomatch q)
def Q7(prog:Program)(w:World):PySem.KeyKind prog w Key where
 is:=sh0
 hash:=Uh0 w
 inj:=λv a b ha hb=>by
  rcases R8 ha with⟨i,t,rfl,rfl⟩|⟨x,t,rfl,rfl⟩
  ·rcases R8 hb with⟨j,u,rfl,e⟩|⟨y,u,rfl,e⟩
   ·injection e with e1 _;rw[e1]
   ·exact nomatch e
  ·rcases R8 hb with⟨j,u,rfl,e⟩|⟨y,u,rfl,e⟩
   ·exact nomatch e
   ·injection e with e1 _;rw[e1]
 byValue:=λk v h=>by
  rcases R8 h with⟨i,t,rfl,rfl⟩|⟨x,t,rfl,rfl⟩<;>rfl
 pyHash:=λhv h=>by
  rcases R8 hv with⟨i,t,rfl,rfl⟩|⟨x,t,rfl,rfl⟩
  ·exact wpAny_pyHash_int h
  ·exact wpAny_pyHash_str h
 eqBool:=λhu hv h=>by
  rcases R8 hu with⟨i,t,rfl,rfl⟩|⟨x,t,rfl,rfl⟩
  ·rcases R8 hv with⟨j,u,rfl,rfl⟩|⟨y,u,rfl,rfl⟩
   ·rw[Xc0] at h;exact wpAny_eqBool_int h
   ·rw[Ys0] at h;exact Q2 i t y u _ _ _ _ h
  ·rcases R8 hv with⟨j,u,rfl,rfl⟩|⟨y,u,rfl,rfl⟩
   ·rw[Yj0] at h;exact R1 x t j u _ _ _ _ h
   ·rw[Yt0] at h;exact wpAny_eqBool_str h
 «strs»:=λk x t v h=>by
  rcases R8 h with⟨i,u,rfl,e⟩|⟨y,u,rfl,e⟩
  ·exact nomatch e
  ·injection e with e1 _
   subst e1;cases v<;>rfl
theorem ky0(prog:Program)(w:World)(i:Int)(t:Tok):(Q7 prog w).is (.inl i) (.int i t)=true:=ff0 i t
theorem j20(prog:Program)(w:World)(x:Str)(t:Tok):(Q7 prog w).is (.inr x) (.str x t)=true:=fp0 x t
inductive V where
 | non|bl (b:Bool)|int (i:Int)|str (x:Str)|byt (b:Array UInt8)|flt (b:UInt64)|ref (a:Addr)|ty (n:String)
 deriving DecidableEq
variable{xs dvs:List L2.V}{σ:List (Option L2.V)}{v:L2.V}{kvs:List (L2.Key×L2.V)}
def RelV:V->Value->Prop
 | .non,u=>u=Value.none
 | .bl b,u=>u=Value.bool b
 | .int i,u=>∃t,u=Value.int i t
 | .str x,u=>∃t,u=Value.str x t
 | .byt b,u=>∃t,u=Value.bytes b t
 | .flt b,u=>∃t,u=Value.float b t
 | .ref a,u=>u=Value.ref a
 | .ty n,u=>u=Value.type n
abbrev Vals:List V->List Value->Prop:=Paired RelV
theorem Vals.length(r:Vals xs us):xs.length=us.length:=c9 r
theorem Vals.get:∀{xs:List V} {us:List Value} {i:Nat} {x:V},Vals xs us->xs[i]?=some x->∃u,us[i]?=some u/\RelV x u
 | _,_,_,_,.nil,e=>by simp at e
 | _,_,0,_,.cons r _,e=>by simp at e;subst e;exact⟨_,rfl,r⟩
 | _,_,i+1,x,.cons _ t,e=>by
  obtain⟨u,h1,h2⟩:=Vals.get (i:=i) (x:=x) t (by simpa using e);exact⟨u,by simpa using h1,h2⟩
theorem Vals.append:∀{xs ys:List V} {us ws:List Value},Vals xs us->Vals ys ws->Vals (xs++ys) (us++ws)
 | _,_,_,_,.nil,s=>s
 | _,_,_,_,.cons r t,s=>.cons r (Vals.append t s)
theorem Vals.take:∀{xs:List V} {us:List Value} (n:Nat),Vals xs us->Vals (xs.take n) (us.take n)
 | _,_,0,_=>.nil
 | _,_,_+1,.nil=>.nil
 | _,_,n+1,.cons r t=>.cons r (Vals.take n t)
theorem Vals.drop:∀{xs:List V} {us:List Value} (n:Nat),Vals xs us->Vals (xs.drop n) (us.drop n)
 | _,_,0,r=>r
 | _,_,_+1,.nil=>.nil
 | _,_,n+1,.cons _ t=>Vals.drop n t
theorem Vals.none_of:∀{xs:List V} {us:List Value} {i:Nat},Vals xs us->xs[i]?=none->us[i]?=none:=λ{xs us i} r e=>by
 have h1:=r.length;have h2:xs.length<=i:=S0.mp e;exact S0.mpr (by omega)
def RelO:Option V->Option Value->Prop
 | some v,some u=>RelV v u
 | none,none=>True
 | _,_=>False
def KV{κ:Type}:List (κ×V)->List (κ×Value)->Prop:=Paired λ(p:κ×V) (q:κ×Value)=>p.1=q.1/\RelV p.2 q.2
def kV:Key->V
 | .inl i=>.int i
 | .inr x=>.str x
inductive HO where
 | lst (xs:List V)
 | tup (xs:List V)
 | dK (kvs:List (Key×V))|dT (kvs:List (List Key×V))
 | set (S:Int->Bool) (n:Nat)
 | ins (C dx:Addr) (fs:List (Str×V))
 | own (x:Addr)
 | xd (fs:List (Str×V))
 | met (f x:Addr)
 | rng (lo hi:Int)
 | frz (o:Obj) (u:HO)
 | tbl (ps:Array Value)
 | ext (φ:Heap->Prop)
abbrev Hp:=Addr->Option HO
def upd(H:Hp)(a:Addr)(o:HO):Hp:=λb=>if b=a then some o else H b
variable{H H' H1 H2 H₀:L2.Hp}
theorem m8{o:HO}:upd H a o a=some o:=by unfold upd;rw[if_pos rfl]
theorem o6{b:Addr}{o:HO}(h:b≠a):upd H a o b=H b:=by unfold upd;rw[if_neg h]
theorem Wx0{b:Addr}{o u:HO}(h:H a=some o)(h':H b=some u)(d:o≠u):a≠b:=by
 intro e;subst e;rw[h] at h';exact d (B3 h')
theorem T9{b:Addr}{o:HO}(h:H a=some o)(h':H b=none):a≠b:=by
 intro e;subst e;rw[h] at h';cases h'
def IsTupN(h:Heap)(a:Addr)(items:Array Value):Prop:=∃o,h.get? a=some o/\o.cls=.type "tuple"/\∃n,o.data=.seq items n/\o.dict=none
theorem IsTupN.tup{h:Heap}(x:IsTupN h a items):IsTup h a items:=let ⟨o,e,c,n,d,_⟩:=x;⟨o,e,c,n,d⟩
theorem IsTupN.new(h:Heap)(items:Array Value):IsTupN (h.push { cls:=.type "tuple",data:=.seq items }) h.objs.size items:=⟨_,B7 _ rfl,rfl,_,rfl,rfl⟩
def qOf(ps:Array Value):Str:=match (ps[0]?:Option Value) with
 | some (.str q _)=>q
 | _ => ""
def TabOk(H:Hp)(h:Heap)(a:Addr)(q:Str):Prop:=∃cont:Array Value,h.get? a=some { cls:=.none,data:=.fields cont }/\TriplesOk cont.toList /\
 ∀pos cv,codeAmong pos cont.toList=some cv->∃c oc vs tq,cv=.ref c/\H c=some (.frz oc (.own c))/\oc.data=.fields vs/\vs[1]?=some (.str q tq)
section
variable(P:Program)(w:World)
def ObjOk(H:Hp)(h:Heap)(a:Addr):HO->Prop
 | .lst xs=>xs.length<=sizeLine/\∃(its:List Value) (n:Nat),Vals xs its/\h.get? a=some { cls:=.type "list",data:=.seq its.toArray n }
 | .tup xs=>xs.length<=sizeLine/\∃its:List Value,Vals xs its/\IsTupN h a its.toArray
 | .dK kvs=>kvs.length<=sizeLine/\(a==sysModules)=false/\∃vs,KV kvs vs/\h.DictOf (Q7 P w) a vs
 | .dT kvs=>kvs.length<=sizeLine/\(a==sysModules)=false/\∃xs:List (List Key×Addr×Value),
   Paired (λ(p:List Key×V) (q:List Key×Addr×Value)=>p.1=q.1/\H q.2.1=some (.tup (p.1.map kV))/\RelV p.2 q.2.2) kvs xs /\
   ∃o es ep,h.get? a=some o/\o.ExactDict/\o.data=.dict es ep/\es.toList=xs.map (entryOfKey (tupleKind (Q7 P w)))/\(xs.map (·.1)).Nodup
 | .set S n=>h.SetOf (intKind P w) a S n
 | .ins C dx fs=>H dx=some (.own a)/\fs.length<=1000/\dx≠a/\h.get? a=some (W.instObj C dx) /\
   ∃mA,h.Ns1 dx mA/\(∀f,RelO (fs.lookup f) (mA f))/\PySem.Within mA (fs.map (·.1))
 | .own _=>∃o,h.get? a=some o
 | .xd fs=>∃mA,h.Ns1 a mA/\∀f,RelO (fs.lookup f) (mA f)
 | .rng lo hi=>∃t u v,h.get? a=some { cls:=.type "range",data:=.fields #[.int lo t,.int hi u,.int 1 v] }
 | .frz o u=>h.get? a=some o/\ObjOk H h a u
 | .tbl ps=>TabOk H h a (qOf ps)
 | .met f x=>h.get? a=some (W.methodObj (.ref f) (.ref x))
 | .ext φ=>φ h/\(∃o,h.get? a=some o)/\∀h1 h2:Heap,φ h1->(∀o,h1.get? a=some o->h2.get? a=some o)->φ h2
def HOk(H:Hp)(h:Heap):Prop:=∀a o,H a=some o->ObjOk P w H h a o
end
section
variable{P:Program}{w:World}{h:Heap}{o:HO}
theorem ObjOk.lt(x:ObjOk P w H h a o):a<h.objs.size:=by
 cases o with
 | lst xs=>obtain⟨_,_,_,_,e⟩:=x;exact A3 e
 | tup xs=>obtain⟨_,_,_,p⟩:=x;exact p.tup.lt
 | dK kvs=>obtain⟨_,_,_,_,o,_,_,e,_⟩:=x;exact A3 e
 | dT kvs=>obtain⟨_,_,_,_,o,_,_,e,_⟩:=x;exact A3 e
 | set S n=>obtain⟨o,_,_,_,e,_⟩:=x;exact A3 e
 | ins C dx fs=>obtain⟨_,_,_,e,_⟩:=x;exact A3 e
 | own y=>obtain⟨_,e⟩:=x;exact A3 e
 | xd fs=>obtain⟨_,⟨_,_,_,e,_⟩,_⟩:=x;exact A3 e
 | rng lo hi=>obtain⟨_,_,_,e⟩:=x;exact A3 e
 | frz ob u=>obtain⟨e,_⟩:=x;exact A3 e
 | tbl ps=>obtain⟨_,e,_⟩:=(show TabOk H h a (qOf ps) from x);exact A3 e
 | met f y=>exact A3 (show h.get? a=some _ from x)
 | ext φ=>obtain⟨_,⟨_,e⟩,_⟩:=x;exact A3 e
theorem Paired.mapP{F G:α->β->Prop}:∀{l₁:List α} {l₂:List β},Paired F l₁ l₂->(∀a b,F a b->G a b)->Paired G l₁ l₂
 | _,_,.nil,_=>.nil
 | _,_,.cons r t,f=>.cons (f _ _ r) (Paired.mapP t f)
theorem ObjOk.stay(x:ObjOk P w H h a o)(k:∀b u,(b=a∨H b=some (.own a))->h.get? b=some u->h'.get? b=some u)
  (ho:∀b,H b=some (.own a)->H' b=some (.own a)) (ht:∀b xs,H b=some (.tup xs)->H' b=some (.tup xs)) (hf:∀b ob u,H b=some (.frz ob u)->H' b=some (.frz ob u)):ObjOk P w H' h' a o:=by
 induction o with
 | lst xs=>obtain⟨z,its,n,r,e⟩:=x;exact⟨z,its,n,r,k _ _ (.inl rfl) e⟩
 | tup xs=>obtain⟨z,its,r,ob,e,c⟩:=x;exact⟨z,its,r,ob,k _ _ (.inl rfl) e,c⟩
 | dK kvs=>obtain⟨z,y,vs,r,ob,es,ep,e,c⟩:=x;exact⟨z,y,vs,r,ob,es,ep,k _ _ (.inl rfl) e,c⟩
 | dT kvs =>
  obtain⟨z,y,xs,r,ob,es,ep,e,c⟩:=x;exact⟨z,y,xs,Paired.mapP r λp q z=>⟨z.1,ht _ _ z.2.1,z.2.2⟩,ob,es,ep,k _ _ (.inl rfl) e,c⟩
 | set S n=>obtain⟨ob,es,ep,t,e,c⟩:=x;exact⟨ob,es,ep,t,k _ _ (.inl rfl) e,c⟩
 | ins C dx fs =>
  obtain⟨d,z,ne,e,mA,⟨od,es,ep,e2,c⟩,r⟩:=x;exact⟨ho _ d,z,ne,k _ _ (.inl rfl) e,mA,⟨od,es,ep,k _ _ (.inr d) e2,c⟩,r⟩
 | own y=>obtain⟨ob,e⟩:=x;exact⟨ob,k _ _ (.inl rfl) e⟩
 | xd fs=>obtain⟨mA,⟨od,es,ep,e,c⟩,r⟩:=x;exact⟨mA,⟨od,es,ep,k _ _ (.inl rfl) e,c⟩,r⟩
 | rng lo hi=>obtain⟨t,u,v,e⟩:=x;exact⟨t,u,v,k _ _ (.inl rfl) e⟩
 | frz ob u ih=>obtain⟨e,q⟩:=x;exact⟨k _ _ (.inl rfl) e,ih q⟩
 | tbl ps =>
  obtain⟨cont,e,t,c⟩:=(show TabOk H h a (qOf ps) from x);exact⟨cont,k a _ (.inl rfl) e,t,λpos cv q=>let ⟨c',oc,vs,tq,z1,z2,z3⟩:=c pos cv q;⟨c',oc,vs,tq,z1,hf _ _ _ z2,z3⟩⟩
 | met f y =>
  have e:h.get? a=some (W.methodObj (.ref f) (.ref y)):=x;show h'.get? a=some (W.methodObj (.ref f) (.ref y));exact k a _ (.inl rfl) e
 | ext φ=>obtain⟨p,⟨o,e⟩,st⟩:=x;exact⟨st _ _ p λo q=>k _ _ (.inl rfl) q,⟨o,k _ _ (.inl rfl) e⟩,st⟩
theorem HOk.lt(x:HOk P w H h)(e:H a=some o):a<h.objs.size:=(x a o e).lt
theorem HOk.fresh(x:HOk P w H h)(e:h.objs.size<=a):H a=none:=by
 cases q:H a with
 | none=>rfl
 | some u=>exact absurd (A8 (x.lt q) e) (D0 _)
theorem HOk.kept(x:HOk P w H h)(k:∀b u,h.get? b=some u->h'.get? b=some u):HOk P w H h':=λa o e =>
 (x a o e).stay (λb u _ q=>k b u q) (λ_ q=>q) (λ_ _ q=>q) λ_ _ _ q=>q
theorem HOk.laid(x:HOk P w H h)(k:∀b u,h.get? b=some u->h'.get? b=some u)(hp:h.objs.size<=a)(new:ObjOk P w (upd H a o) h' a o):HOk P w (upd H a o) h':=λb u e=>by
 have hn:=x.fresh hp
 by_cases hb:b=a
 ·subst hb;rw[m8] at e;cases e;exact new
 ·rw[o6 hb] at e
  exact(x b u e).stay (λc v _ q=>k c v q) (λc q=>by rw[o6 (T9 q hn)];exact q) (λc xs q=>by rw[o6 (T9 q hn)];exact q) λc ob u' q=>by rw[o6 (T9 q hn)];exact q
end
def Rd(H:Hp)(a:Addr)(u:HO):Prop:=H a=some u∨∃o,H a=some (.frz o u)
theorem Rd.ok{P:Program}{w:World}{h:Heap}{u:HO}(r:Rd H a u)(x:HOk P w H h):ObjOk P w H h a u:=by
 rcases r with r|⟨o,r⟩
 ·exact x a u r
 ·obtain⟨_,q⟩:=x a _ r
  exact q
def Mut:Option HO->Prop
 | some (.lst _)=>True
 | some (.dK _)=>True
 | some (.dT _)=>True
 | some (.set _ _)=>True
 | some (.ins _ _ _)=>True
 | some (.ext _)=>True
 | _=>False
section
variable{P:Program}{w:World}{h:Heap}{x e:Addr}{o':HO}
theorem HOk.write(ok:HOk P w H h)(mu:Mut (H x))(he:e=x∨H e=some (.own x))(k:∀b u,b≠e->h.get? b=some u->h'.get? b=some u)(heo:∃u,h'.get? e=some u)
  (new:ObjOk P w (upd H x o') h' x o'):HOk P w (upd H x o') h':=λb u q=>by
 have J:∀c y,H c=some (.own y)->c≠x:=λc y r z=>by subst z;rw[r] at mu;exact mu
 have Y:∀c xs,H c=some (.tup xs)->c≠x:=λc xs r z=>by subst z;rw[r] at mu;exact mu
 have O:∀c ob u',H c=some (.frz ob u')->c≠x:=λc ob u' r z=>by subst z;rw[r] at mu;exact mu
 by_cases hb:b=x
 ·subst hb;rw[m8] at q;cases q;exact new
 ·rw[o6 hb] at q
  by_cases hbe:b=e
  ·have q':H b=some (.own x):=by
    rcases he with z|z
    ·exact absurd (hbe.trans z) hb
    ·rw[hbe];exact z
   rw[q] at q';cases q';obtain⟨v,hv⟩:=heo;exact⟨v,by rw[hbe];exact hv⟩
  ·refine(ok b u q).stay (λc v hc r=>k c v ?_ r) (λc r=>by rw[o6 (J c b r)];exact r) (λc xs r=>by rw[o6 (Y c xs r)];exact r) λc ob u' r=>by rw[o6 (O c ob u' r)];exact r
   rcases hc with rfl|hc
   ·exact hbe
   ·rintro rfl
    rcases he with z|z
    ·exact J c b hc z
    ·rw[hc] at z;cases z;exact hb rfl
end
structure Un(fs ex:List Addr)(H H':Hp)(h h':Heap):Prop where
 keep:∀b o,h.get? b=some o->H b=none->b∉fs->b∉ex->h'.get? b=some o
 slot:∀b o,h.get? b=some o->H b=none->b∈fs->b∉ex->∃sl,h'.get? b=some { o with slots:=sl }
 free:∀b o,h.get? b=some o->H b=none->b∉ex->H' b=none
 there:∀b o,h.get? b=some o->b∉ex->∃o',h'.get? b=some o'
 tups:∀b xs,H b=some (.tup xs)->H' b=some (.tup xs)
 frzs:∀b o u,H b=some (.frz o u)->H' b=some (.frz o u)
 tbls:∀b ps,H b=some (.tbl ps)->∃more,H' b=some (.tbl (ps++more))
section
variable{fs fs' ex ex':List Addr}{h h1 h2:Heap}{x e:Addr}{o:HO}
theorem Un.any(u:Un fs ex H H1 h h1){b:Addr}{ob:Obj}(q:h.get? b=some ob)(n:H b=none)(hx:b∉ex):∃sl,h1.get? b=some { ob with slots:=sl }:=by
 by_cases hb:b∈fs
 ·exact u.slot b ob q n hb hx
 ·exact⟨ob.slots,u.keep b ob q n hb hx⟩
theorem Un.kept(k:∀b u,h.get? b=some u->h'.get? b=some u):Un fs ex H H h h' :=
 ⟨λb ob q _ _ _=>k b ob q,λb ob q _ _ _=>⟨ob.slots,k b ob q⟩,λ_ _ _ n _=>n,λb ob q _=>⟨ob,k b ob q⟩,λ_ _ q=>q,λ_ _ _ q=>q,λ_ ps q=>⟨#[],by rw[q];simp⟩⟩
theorem Un.refl:Un fs ex H H h h:=Un.kept λ_ _ q=>q
theorem Un.laid(k:∀b u,h.get? b=some u->h'.get? b=some u)(hp:h.objs.size<=a)(hn:H a=none):Un fs ex H (upd H a o) h h' where
 keep:=λb u q _ _ _=>k b u q
 slot:=λb u q _ _ _=>⟨u.slots,k b u q⟩
 free:=λb u q n _=>by rw[o6 (A5 (A8 (A3 q) hp))];exact n
 there:=λb u q _=>⟨u,k b u q⟩
 tups:=λb xs q=>by rw[o6 (T9 q hn)];exact q
 frzs:=λb u xs q=>by rw[o6 (T9 q hn)];exact q
 tbls:=λb ps q=>⟨#[],by rw[o6 (T9 q hn),q];simp⟩
theorem Un.write(mu:Mut (H x))(he:e=x∨H e=some (.own x))(k:∀b u,b≠e->h.get? b=some u->h'.get? b=some u)(heo:∃u,h'.get? e=some u):Un fs ex H (upd H x o) h h':=by
 have hx:∀b,H b=none->b≠x:=λb n z=>by subst z;rw[n] at mu;exact mu
 have hb:∀b,H b=none->b≠e:=λb n z=>by
  subst z;rcases he with r|r
  ·exact hx b n r
  ·rw[n] at r;cases r
 have hm:∀b u,H b=some u->¬Mut (some u)->b≠x:=λb u q nm z=>by subst z;rw[q] at mu;exact nm mu
 refine⟨λb u q n _ _=>k b u (hb b n) q,λb u q n _ _=>⟨u.slots,k b u (hb b n) q⟩,λb u q n _=>by rw[o6 (hx b n)];exact n,λb u q _=>?_,
  λb xs q=>by rw[o6 (hm b _ q λz=>z)];exact q,λb u xs q=>by rw[o6 (hm b _ q λz=>z)];exact q,λb ps q=>⟨#[],by rw[o6 (hm b _ q λz=>z),q];simp⟩⟩
 by_cases hbe:b=e
 ·subst hbe;exact heo
 ·exact⟨u,k b u hbe q⟩
end
def trk(h:Heap)(H:Hp):List Addr:=(List.range h.objs.size).filter λa=>(H a).isSome
def vj0(h:Heap)(H:Hp):Heap:=W.hideAll h (trk h H)
theorem ep0(h:Heap)(H:Hp):(vj0 h H).objs.size=h.objs.size:=W.hideAll_size _ _
theorem ua0{h:Heap}{b:Addr}{o:Obj}(e:h.get? b=some o)(n:H b=none):(vj0 h H).get? b=some o :=
 W.hideAll_get _ e λhm=>by
  have q:(H b).isSome=true:=(List.mem_filter.mp hm).2;rw[n] at q;simp at q
theorem ak0{h:Heap}{b:Addr}{o:Obj}(e:(vj0 h H).get? b=some o):h.get? b=some o/\H b=none:=by
 have e':h.get? b=some o:=W.of_hideAll (trk h H) e;refine⟨e',?_⟩;cases q:H b with
 | none=>rfl
 | some x =>
  have hm:b∈trk h H:=List.mem_filter.mpr ⟨C8.mpr (A3 e'),by simp[q]⟩;have z:(vj0 h H).get? b=none:=W.hideAll_none (trk h H) hm;rw[z] at e;cases e
structure Mod(K:W.Frag)(mg:Str->Option Value)(base:Heap):Prop where
 kin:K.In base
 glob:base.Ns mainGlobals mg
 blt:∃mb,base.Ns builtinsNs mb/\∀x:Str,x ≠"__name__"->mb x=bootBuiltins x
 nolimit:base.NoLimit
structure Cx where
 prog:Program
 w:World
 K:W.Frag
 mg:Str->Option Value
 base:Heap
 A:Around
 N:List Str
 s₀:Shared
 H₀:Hp
 env:Env
 outer:List Env
 stack:List Env
 ex:List Addr
 fn:Str->Bool
 calm:Bool
 pn:List (Addr×Obj)
 xe:Value->Shared->Prop
variable{X:L2.Cx}
def frs(l:List Env):List Addr:=l.filterMap (·.frame)
abbrev Cx.fs(X:Cx):List Addr:=frs X.outer
def Vis(sc:Scope)(x:Str):Prop:=sc.names.lookup x=some .local∨sc.names.lookup x=some .cell∨sc.names.lookup x=some .free
def Loc(sc:Scope)(x:Str):Prop:=sc.names.lookup x=some .local∨sc.names.lookup x=some .cell
def Look(env:Env)(h:Heap)(m:Str->Option Value)(x:Str)(u:Value):Prop :=
 (env.kindOf x=some .local/\m x=some u)∨((env.kindOf x=some .cell∨env.kindOf x=some .free)/\∃c,env.cells.lookup x=some c/\h.IsCell c (some u))
structure Cx.Ok(X:Cx):Prop where
 mod:Mod X.K X.mg X.base
 kind:X.env.scope.kind=.function
 glob:X.env.globals=mainGlobals
 blt:X.env.builtins=builtinsNs
 above:X.s₀.heap.objs.size<=X.env.locals
 inj:∀x y c,X.env.cells.lookup x=some c->X.env.cells.lookup y=some c->x=y
 has:∀x,(X.env.kindOf x=some .cell∨X.env.kindOf x=some .free)->∃c,X.env.cells.lookup x=some c
 cab:∀x c,X.fn x=true->X.env.cells.lookup x=some c->X.s₀.heap.objs.size<=c
 hd:X.calm=true->X.A.handled=none
 frames:X.A.frames=some X.stack
 stk:X.stack=X.outer∨(X.stack=X.env::X.outer/\X.env.frame=some X.env.locals)
 exf:∀b∈X.ex,b≠X.env.locals/\∀x c,X.env.cells.lookup x=some c->c≠b
 bs:∀b o,X.base.get? b=some o->X.s₀.heap.get? b=some o/\X.H₀ b=none
 bsz:X.base.objs.size<=X.s₀.heap.objs.size
 noex:∀b o,X.base.get? b=some o->b∉X.ex
 exfs:∀b∈X.ex,b∉X.fs
 funs:X.s₀.heap.FunFrames X.base X.outer
 frf:∀b∈X.fs,X.H₀ b=none
structure Inv(X:Cx)(pins:List (Addr×Obj))(σ:List (Option V))(H:Hp)(s:Shared):Prop where
 ok:X.Ok
 os:s.os=X.s₀.os
 bare:AllBare s.gens
 base:Un X.fs X.ex X.H₀ H X.s₀.heap s.heap
 loc:∃m,s.heap.Ns X.env.locals m/\∀(i:Nat) (x:Str) (v:V),X.N[i]?=some x->σ[i]?=some (some v)->Vis X.env.scope x->∃u,RelV v u/\Look X.env s.heap m x u
 cell:∀x c,X.env.cells.lookup x=some c->∃v,s.heap.IsCell c v
 free:H X.env.locals=none
 freeC:∀x c,X.env.cells.lookup x=some c->H c=none
 pin:∀p∈X.pn++pins,s.heap.get? p.1=some p.2/\H p.1=none/\p.1≠X.env.locals/\p.1∉X.fs/\∀v,p.2.data≠.cell v
 hok:HOk X.prog X.w H s.heap
 len:σ.length=X.N.length
section
variable{s:Shared}
theorem Cx.Ok.nofr(ok:X.Ok){b:Addr}{o:Obj}(e:X.base.get? b=some o):b∉X.fs:=λhb=>by
 have:=(ok.funs.mem hb).1;rw[e] at this;cases this
theorem Inv.bs(I:Inv X pins σ H s):∀b o,X.base.get? b=some o->s.heap.get? b=some o/\H b=none:=λb o e =>
 ⟨I.base.keep b o (I.ok.bs b o e).1 (I.ok.bs b o e).2 (I.ok.nofr e) (I.ok.noex b o e),I.base.free b o (I.ok.bs b o e).1 (I.ok.bs b o e).2 (I.ok.noex b o e)⟩
theorem Inv.bk(I:Inv X pins σ H s):∀b o,X.base.get? b=some o->s.heap.get? b=some o:=λb o e=>(I.bs b o e).1
theorem Inv.mod(I:Inv X pins σ H s):Mod X.K X.mg X.base:=I.ok.mod
theorem Inv.kIn(I:Inv X pins σ H s):X.K.In s.heap:=I.ok.mod.kin.keeps I.bk
theorem Inv.nolimit(I:Inv X pins σ H s):s.heap.NoLimit:=I.ok.mod.nolimit.keeps I.bk
theorem Inv.lt(I:Inv X pins σ H s):X.env.locals<s.heap.objs.size:=let ⟨_,hn,_⟩:=I.loc;hn.lt
theorem Inv.sz(I:Inv X pins σ H s):X.s₀.heap.objs.size<=s.heap.objs.size:=C5 I.ok.above (E1 I.lt)
theorem Inv.nofs(I:Inv X pins σ H s)(h:s.heap.objs.size<=a):a∉X.fs:=λhb=>by
 obtain⟨_,o,ho,_⟩:=I.ok.funs.mem hb;exact absurd (A8 (A3 ho) (C5 I.sz h)) (D0 _)
theorem Inv.cne(I:Inv X pins σ H s):∀x c,X.env.cells.lookup x=some c->c≠X.env.locals:=λx c e z=>by
 obtain⟨v,o,ho,hd⟩:=I.cell x c e;obtain⟨m,⟨o',es,ep,O,J,_⟩,_⟩:=I.loc;rw[z,O] at ho;cases ho;rw[J] at hd;cases hd
theorem Inv.funs(I:Inv X pins σ H s):s.heap.FunFrames X.base X.outer:=by
 have all:∀(l:List Env),(∀b∈frs l,b∈X.fs)->X.s₀.heap.FunFrames X.base l->s.heap.FunFrames X.base l:=by
  intro l
  induction l with
  | nil=>intro _ _;trivial
  | cons env r ih =>
   intro hs hl;obtain⟨hk,⟨L,o,hf,hn,ho,hd⟩,hr⟩:=hl;have hL:L∈X.fs:=hs L (by unfold frs;rw[List.filterMap_cons,hf];exact A9);obtain⟨sl,e⟩:=I.base.slot L o ho (I.ok.frf L hL) hL λz=>I.ok.exfs L z hL
   exact⟨hk,⟨L,_,hf,hn,e,hd⟩,ih (λb hb=>hs b (by unfold frs;rw[List.filterMap_cons,hf];exact A7 _ hb)) hr⟩
 exact all X.outer (λ_ hb=>hb) I.ok.funs
theorem Inv.stack(I:Inv X pins σ H s):s.heap.FunFrames X.base X.stack:=by
 rcases I.ok.stk with e|⟨e,hf⟩
 ·rw[e];exact I.funs
 ·rw[e]
  obtain⟨m,hn,_⟩:=I.loc;refine .cons (by rw[I.ok.kind];decide) hf hn ?_ I.funs;exact x6 (C5 I.ok.bsz I.ok.above)
theorem Inv.stkSub(I:Inv X pins σ H s):∀b∈frs X.stack,b∈X.env.locals::X.fs:=λb hb=>by
 rcases I.ok.stk with e|⟨e,hf⟩
 ·rw[e] at hb;exact A7 _ hb
 ·rw[e] at hb
  unfold frs at hb;rw[List.filterMap_cons,hf] at hb;exact hb
theorem Inv.stkFree(I:Inv X pins σ H s):∀b∈frs X.stack,H b=none:=λb hb=>by
 rcases B4.mp (I.stkSub b hb) with e|hb
 ·rw[e];exact I.free
 ·obtain⟨_,o,ho,_⟩:=I.ok.funs.mem hb
  exact I.base.free b o ho (I.ok.frf b hb) λz=>I.ok.exfs b z hb
theorem Inv.step{g':Array GenState}{t':Nat}{d':Drawn}{ch:List Addr}(I:Inv X pins σ H s)
  (hch:∀b∈ch,(b∈X.ex∨X.s₀.heap.objs.size<=b)/\b≠X.env.locals/\(∀x c,X.env.cells.lookup x=some c->c≠b)/\∀p∈X.pn++pins,p.1≠b)
  (keep:∀b o,b≠X.env.locals->b∉X.fs->b∉ch->s.heap.get? b=some o->H b=none->h'.get? b=some o)
  (slot:∀b o,b≠X.env.locals->b∈X.fs->b∉ch->s.heap.get? b=some o->H b=none->∃sl,h'.get? b=some { o with slots:=sl }) (free:∀b o,b∉ch->s.heap.get? b=some o->H b=none->H' b=none)
  (there:∀b o,b∉ch->s.heap.get? b=some o->∃o',h'.get? b=some o')
  (tups:∀b xs,H b=some (.tup xs)->H' b=some (.tup xs)) (frzs:∀b o u,H b=some (.frz o u)->H' b=some (.frz o u)) (tbls:∀b ps,H b=some (.tbl ps)->∃more,H' b=some (.tbl (ps++more)))
  (ns:∀m,s.heap.Ns X.env.locals m->h'.Ns X.env.locals m) (hok:HOk X.prog X.w H' h') (hg:AllBare g') :
  Inv X pins σ H' { s with heap:=h',gens:=g',drawn:=d',toks:=t' }:=by
 have Z:∀b o,X.s₀.heap.get? b=some o->b≠X.env.locals:=λb o e=>A5 (A8 (A3 e) I.ok.above)
 have Y:∀b o,X.s₀.heap.get? b=some o->b∉X.ex->b∉ch:=λb o e hx hb=>by
  rcases (hch b hb).1 with z|z
  ·exact hx z
  ·exact absurd (A8 (A3 e) z) (D0 _)
 have O:∀x c,X.env.cells.lookup x=some c->∀v,s.heap.IsCell c v->h'.IsCell c v:=λx c e v ⟨o,ho,hd⟩=>by
  have J:c∉ch:=λz=>(hch c z).2.2.1 x c e rfl
  by_cases hc:c∈X.fs
  ·obtain⟨sl,q⟩:=slot c o (I.cne x c e) hc J ho (I.freeC x c e)
   exact⟨_,q,hd⟩
  ·exact⟨o,keep c o (I.cne x c e) hc J ho (I.freeC x c e),hd⟩
 refine⟨I.ok,I.os,hg,⟨λb o e n hb hx=>?_,λb o e n hb hx=>?_,λb o e n hx=>?_,λb o e hx=>?_,λb xs e=>tups b xs (I.base.tups b xs e),λb o xs e=>frzs b o xs (I.base.frzs b o xs e),λb ps e=>?_⟩,?_,λx c e=>?_,?_,λx c e=>?_,λp hp=>?_,hok,I.len⟩
 ·exact keep b o (Z b o e) hb (Y b o e hx) (I.base.keep b o e n hb hx) (I.base.free b o e n hx)
 ·obtain⟨sl,e1⟩:=I.base.slot b o e n hb hx
  obtain⟨a1,e2⟩:=slot b _ (Z b o e) hb (Y b o e hx) e1 (I.base.free b o e n hx);exact⟨a1,e2⟩
 ·obtain⟨o',e1⟩:=I.base.there b o e hx
  exact free b o' (Y b o e hx) e1 (I.base.free b o e n hx)
 ·obtain⟨o',e1⟩:=I.base.there b o e hx
  exact there b o' (Y b o e hx) e1
 ·obtain⟨m1,e1⟩:=I.base.tbls b ps e
  obtain⟨m2,e2⟩:=tbls b _ e1;exact⟨m1++m2,by rw[e2,Array.append_assoc]⟩
 ·obtain⟨m,hn,hl⟩:=I.loc
  refine⟨m,ns m hn,λi x v e1 e2 e3=>?_⟩;obtain⟨u,r,l⟩:=hl i x v e1 e2 e3;refine⟨u,r,?_⟩;rcases l with l|⟨k,c,e,z⟩
  ·exact .inl l
  ·exact .inr ⟨k,c,e,O x c e _ z⟩
 ·obtain⟨v,z⟩:=I.cell x c e
  exact⟨v,O x c e v z⟩
 ·obtain⟨m,⟨o,_,_,ho,_⟩,_⟩:=I.loc
  exact free _ o (λz=>(hch _ z).2.1 rfl) ho I.free
 ·obtain⟨v,o,ho,hd⟩:=I.cell x c e
  exact free c o (λz=>(hch c z).2.2.1 x c e rfl) ho (I.freeC x c e)
 ·obtain⟨e,n,ne,nf,d⟩:=I.pin p hp
  have J:p.1∉ch:=λz=>(hch p.1 z).2.2.2 p hp rfl
  exact⟨keep p.1 p.2 ne nf J e n,free p.1 p.2 J e n,ne,nf,d⟩
theorem Inv.un(I:Inv X pins σ H s)(u:Un X.fs [] H H' s.heap h')(hok:HOk X.prog X.w H' h'):Inv X pins σ H' { s with heap:=h',toks:=t' }:=by
 obtain⟨m,⟨o,es,ep,ho,r⟩,_⟩:=id I.loc;obtain⟨sl,hL⟩:=u.any ho I.free (by simp);exact I.step (g':=s.gens) (d':=s.drawn) (ch:=[]) (λ_ z=>nomatch z) (λb o _ hb _ e n=>u.keep b o e n hb (by simp)) (λb o _ hb _ e n=>u.slot b o e n hb (by simp)) (λb o _ e n=>u.free b o e n (by simp)) (λb o _ e=>u.there b o e (by simp)) u.tups u.frzs u.tbls (λm' hm=>by
  obtain⟨o',O,Y,J,r'⟩:=hm;rw[ho] at J;cases J;exact⟨_,O,Y,hL,r'⟩) hok I.bare
theorem Inv.call{g':Array GenState}{t':Nat}{d':Drawn}(I:Inv X pins σ H s)(u:Un (frs X.stack) ch H H' s.heap h')(hok:HOk X.prog X.w H' h')(hg:AllBare g')
  (hch:∀b∈ch,(b∈X.ex∨X.s₀.heap.objs.size<=b)/\b≠X.env.locals/\(∀x c,X.env.cells.lookup x=some c->c≠b)/\∀p∈X.pn++pins,p.1≠b) :
  Inv X pins σ H' { s with heap:=h',gens:=g',drawn:=d',toks:=t' }:=by
 obtain⟨m,⟨o,es,ep,ho,r⟩,_⟩:=id I.loc;obtain⟨sl,hL⟩:=u.any ho I.free λz=>(hch _ z).2.1 rfl
 exact I.step (ch:=ch) hch (λb o hL hb hc e n=>u.keep b o e n (λz=>(B4.mp (I.stkSub b z)).elim hL hb) hc) (λb o _ _ hc e n=>u.any e n hc) (λb o hc e n=>u.free b o e n hc) (λb o hc e=>u.there b o e hc) u.tups u.frzs u.tbls (λm' hm=>by
  obtain⟨o',O,Y,J,r'⟩:=hm;rw[ho] at J;cases J;exact⟨_,O,Y,hL,r'⟩) hok hg
theorem Inv.turned{t':Nat}(I:Inv X pins σ H s)(k:∀b o,b≠it->s.heap.get? b=some o->h'.get? b=some o)(hn:H it=none)(hL:it≠X.env.locals)
  (h1:it∈X.ex∨X.s₀.heap.objs.size<=it) (h2:∀x c,X.env.cells.lookup x=some c->c≠it) (h3:∀p∈X.pn++pins,p.1≠it):Inv X pins σ H { s with heap:=h',toks:=t' }:=by
 have J:∀b u,H b=some u->b≠it:=λb u e z=>by rw[z,hn] at e;cases e
 refine I.step (g':=s.gens) (d':=s.drawn) (ch:=[it]) (λb hb=>?_) (λb o _ _ hc e _=>k b o (λz=>hc (by simp[z])) e) (λb o _ _ hc e _=>⟨o.slots,k b o (λz=>hc (by simp[z])) e⟩) (λ_ _ _ _ n=>n)
  (λb o hc e=>⟨o,k b o (λz=>hc (by simp[z])) e⟩) (λ_ _ e=>e) (λ_ _ _ e=>e) (λb ps e=>⟨#[],by rw[e];simp⟩) (λm hm=>?_) (λb u e=>?_) I.bare
 ·have e:b=it:=by simpa using hb
  subst e;exact⟨h1,hL,h2,h3⟩
 ·obtain⟨o,es,ep,ho,r⟩:=hm
  exact⟨o,es,ep,k _ o (A4 hL) ho,r⟩
 ·refine(I.hok b u e).stay (λc v hc q=>k c v ?_ q) (λ_ q=>q) (λ_ _ q=>q) λ_ _ _ q=>q
  rcases hc with z|z
  ·rw[z];exact J b u e
  ·exact J c _ z
theorem Inv.tok(I:Inv X pins σ H s)(t:Nat):Inv X pins σ H { s with toks:=t }:=I.un (h':=s.heap) (t':=t) Un.refl I.hok
theorem Inv.kept(I:Inv X pins σ H s)(k:∀b u,s.heap.get? b=some u->h'.get? b=some u):Inv X pins σ H { s with heap:=h',toks:=t' }:=I.un (Un.kept k) (I.hok.kept k)
theorem Inv.laid{o:HO}{t':Nat}(I:Inv X pins σ H s)(k:∀b u,s.heap.get? b=some u->h'.get? b=some u)(hp:s.heap.objs.size<=a)(new:ObjOk X.prog X.w (upd H a o) h' a o) :
  Inv X pins σ (upd H a o) { s with heap:=h',toks:=t' }:=I.un (Un.laid k hp (I.hok.fresh hp)) (I.hok.laid k hp new)
theorem Inv.write{x e:Addr}{o:HO}{t':Nat}(I:Inv X pins σ H s)(mu:Mut (H x))(he:e=x∨H e=some (.own x))(k:∀b u,b≠e->s.heap.get? b=some u->h'.get? b=some u)(heo:∃u,h'.get? e=some u)
  (new:ObjOk X.prog X.w (upd H x o) h' x o):Inv X pins σ (upd H x o) { s with heap:=h',toks:=t' }:=I.un (Un.write mu he k heo) (I.hok.write mu he k heo new)
theorem Inv.weak{σ':List (Option V)}(I:Inv X pins σ H s)(hl:σ'.length=σ.length)(w:∀(i:Nat) v,σ'[i]?=some (some v)->σ[i]?=some (some v)):Inv X pins σ' H s :=
 ⟨I.ok,I.os,I.bare,I.base,let ⟨m,hn,hl'⟩:=I.loc;⟨m,hn,λi x v e1 e2 e3=>hl' i x v e1 (w i v e2) e3⟩,I.cell,I.free,I.freeC,I.pin,I.hok,hl.trans I.len⟩
theorem Inv.pins_of{pins':List (Addr×Obj)}(I:Inv X pins σ H s)(h:∀p∈pins',s.heap.get? p.1=some p.2/\H p.1=none/\p.1≠X.env.locals/\p.1∉X.fs/\∀v,p.2.data≠.cell v):Inv X pins' σ H s :=
 ⟨I.ok,I.os,I.bare,I.base,I.loc,I.cell,I.free,I.freeC,λp hp=>(B5.mp hp).elim (λz=>I.pin p (D6 _ z)) (h p),I.hok,I.len⟩
theorem kb0(hN:N.Nodup)(a:N[i]?=some x)(b:N[j]?=some x):i=j:=by
 obtain⟨h1,e1⟩:=C0.mp a;obtain⟨h2,e2⟩:=C0.mp b;exact(List.getElem_inj hN).mp (e1.trans e2.symm)
theorem n70{M:Model}{A:Around}{E:Value->Shared->Prop}{Q:Unit->Shared->Prop}(I:Inv X pins σ H s)(hN:X.N.Nodup)(hi:X.N[i]?=some x)(hx:Loc X.env.scope x)(r:RelV v u)
  (h:∀s',Inv X pins (σ.set i (some v)) H s'->(∃a,Heap.SameBut a s.heap s'.heap/\(a=X.env.locals∨X.env.cells.lookup x=some a))->Q () s') (hf:X.fn x=true∨X.env.scope.names.lookup x=some .local:=by first|exact .inl rfl|exact .inr rfl|assumption):wpAny M A (storeName X.env x u) Q E s:=by
 obtain⟨m,hn,hl⟩:=id I.loc;have a2:(X.env.scope.kind==.class||(X.env.scope.kind==.module&&X.env.locals != X.env.globals))=false:=by rw[I.ok.kind];rfl
 have hiσ:i<σ.length:=by rw[I.len];exact(C0.mp hi).1
 have cne:=I.cne;have J:∀{a:Addr} {h':Heap},(∃o,s.heap.get? a=some o/\H a=none)->Heap.SameBut a s.heap h'->HOk X.prog X.w H h':=λ{a h'} ha hs b ob e=>by
  obtain⟨_,_,O⟩:=ha;refine(I.hok b ob e).stay (λc w' hc q=>(hs.2 c ?_).trans q) (λ_ q=>q) (λ_ _ q=>q) λ_ _ _ q=>q
  rintro rfl;rcases hc with rfl|hc
  ·rw[O] at e;cases e
  ·rw[O] at hc;cases hc
 rcases hx with hk|hk
 ·refine wpAny_storeName_local hk hn (λh' a4 hs=>?_) a2
  obtain⟨oL,_,_,a5,_⟩:=id hn;refine h _ ⟨I.ok,I.os,I.bare,⟨λb o e n hb hx=>?_,λb o e n hb hx=>?_,I.base.free,λb o e hx=>?_,I.base.tups,I.base.frzs,I.base.tbls⟩,⟨_,a4,λj y v' e1 e2 e3=>?_⟩,λy c e=>?_,I.free,I.freeC,λp hp=>?_,J ⟨oL,a5,I.free⟩ hs,by simpa using I.len⟩ ⟨_,hs,.inl rfl⟩
  ·exact(hs.2 b (A5 (A8 (A3 e) I.ok.above))).trans (I.base.keep b o e n hb hx)
  ·obtain⟨sl,e1⟩:=I.base.slot b o e n hb hx
   exact⟨sl,(hs.2 b (A5 (A8 (A3 e) I.ok.above))).trans e1⟩
  ·obtain⟨o',e1⟩:=I.base.there b o e hx
   exact⟨o',(hs.2 b (A5 (A8 (A3 e) I.ok.above))).trans e1⟩
  ·by_cases hj:j=i
   ·subst hj
    rw[hi] at e1;cases e1;rw[List.getElem?_set_self hiσ] at e2;cases e2;exact⟨u,r,.inl ⟨hk,by simp⟩⟩
   ·rw[List.getElem?_set_ne (A4 hj)] at e2
    obtain⟨u',r',q⟩:=hl j y v' e1 e2 e3;refine⟨u',r',?_⟩;rcases q with⟨k,e⟩|⟨k,c,e,z⟩
    ·refine .inl ⟨k,?_⟩
     have:y≠x:=λe=>hj (kb0 hN e1 (e▸hi))
     simp[this,e]
    ·exact .inr ⟨k,c,e,z.sameBut hs (cne y c e)⟩
  ·obtain⟨w',z⟩:=I.cell y c e
   exact⟨w',z.sameBut hs (cne y c e)⟩
  ·obtain⟨e,n,ne,nf,d⟩:=I.pin p hp
   exact⟨(hs.2 p.1 ne).trans e,n,ne,nf,d⟩
 ·have Y:X.fn x=true:=by
   rcases hf with z|z
   ·exact z
   ·rw[z] at hk;cases hk
  obtain⟨c,hc⟩:=I.ok.has x (.inl hk);obtain⟨w',z⟩:=I.cell x c hc;refine wpAny_storeName_cell I.ok.kind hk hc z (λh' a1 hs=>?_);obtain⟨oc,Z,a3⟩:=id z;refine h { s with heap:=h' } ⟨I.ok,I.os,I.bare,⟨λb o e n hb hx=>?_,λb o e n hb hx=>?_,I.base.free,λb o e hx=>?_,I.base.tups,I.base.frzs,I.base.tbls⟩,⟨m,hn.sameBut hs (A4 (cne x c hc)),λj y v' e1 e2 e3=>?_⟩,λy c' e=>?_,I.free,I.freeC,λp hp=>?_,J ⟨oc,Z,I.freeC x c hc⟩ hs,by simpa using I.len⟩ ⟨c,hs,.inr hc⟩
  ·exact(hs.2 b (A5 (A8 (A3 e) (I.ok.cab x c Y hc)))).trans (I.base.keep b o e n hb hx)
  ·obtain⟨sl,e1⟩:=I.base.slot b o e n hb hx
   exact⟨sl,(hs.2 b (A5 (A8 (A3 e) (I.ok.cab x c Y hc)))).trans e1⟩
  ·obtain⟨o',e1⟩:=I.base.there b o e hx
   exact⟨o',(hs.2 b (A5 (A8 (A3 e) (I.ok.cab x c Y hc)))).trans e1⟩
  ·by_cases hj:j=i
   ·subst hj
    rw[hi] at e1;cases e1;rw[List.getElem?_set_self hiσ] at e2;cases e2;exact⟨u,r,.inr ⟨.inl hk,c,hc,a1⟩⟩
   ·rw[List.getElem?_set_ne (A4 hj)] at e2
    obtain⟨u',r',q⟩:=hl j y v' e1 e2 e3;refine⟨u',r',?_⟩;rcases q with q|⟨k,c',e,z'⟩
    ·exact .inl q
    ·refine .inr ⟨k,c',e,z'.sameBut hs ?_⟩
     rintro rfl;exact hj (kb0 hN e1 (I.ok.inj _ _ _ e hc▸hi))
  ·by_cases hcc:c'=c
   ·subst hcc;exact⟨_,a1⟩
   ·obtain⟨w2,z2⟩:=I.cell y c' e
    exact⟨w2,z2.sameBut hs hcc⟩
  ·obtain⟨e,n,ne,nf,d⟩:=I.pin p hp
   refine⟨(hs.2 p.1 ?_).trans e,n,ne,nf,d⟩;intro q;rw[q,Z] at e;have q':oc=p.2:=B3 e;exact d w' (by rw[← q'];exact a3)
theorem q50{M:Model}{A:Around}{E:Value->Shared->Prop}{Q:Unit->Shared->Prop}(I:Inv X pins σ H s)(hN:X.N.Nodup)(hi:X.N[i]?=some x)(hx:Loc X.env.scope x)(r:RelV v u)
  (h:∀s',Inv X pins (σ.set i (some v)) H s'->Q () s') (hf:X.fn x=true∨X.env.scope.names.lookup x=some .local:=by first|exact .inl rfl|exact .inr rfl|assumption):wpAny M A (storeName X.env x u) Q E s :=
 n70 I hN hi hx r (λs' I' _=>h s' I') hf
theorem Inv.call'(I:Inv X pins σ H s)(ho:s'.os=s.os)(u:Un (frs X.stack) ch H H' s.heap s'.heap)(hok:HOk X.prog X.w H' s'.heap)(hg:AllBare s'.gens)
  (hch:∀b∈ch,(b∈X.ex∨X.s₀.heap.objs.size<=b)/\b≠X.env.locals/\(∀x c,X.env.cells.lookup x=some c->c≠b)/\∀p∈X.pn++pins,p.1≠b):Inv X pins σ H' s':=by
 obtain⟨h',g',d',t',o'⟩:=s';have e:o'=s.os:=ho;subst e;exact I.call (g':=g') (t':=t') (d':=d') u hok hg hch
end
abbrev XK:=Value->Option Addr->Hp->Prop
abbrev St:=List (Option V)
abbrev VK:=V->Hp->Prop
abbrev TE:=St->Hp->VK->Prop
variable{r:List L2.V->L2.Hp->L2.VK->Prop}
abbrev TT:=St->Hp->(Bool->Hp->Prop)->Prop
variable{ta tb te ty:L2.TE}
abbrev TA:=St->Hp->(List V->Hp->Prop)->Prop
structure Ends where
 nx:St->Hp->Prop
 rt:VK
 bk:St->Hp->Prop:=λ_ _=>False
 ct:St->Hp->Prop:=λ_ _=>False
abbrev TS:=Ends->St->Hp->Prop
def EP(X:Cx)(pins:List (Addr×Obj))(σ:St)(Q:VK)(u:Value)(s':Shared):Prop:=∃v H',Inv X pins σ H' s'/\RelV v u/\Q v H'
def TP(X:Cx)(pins:List (Addr×Obj))(σ:St)(Q:Bool->Hp->Prop)(b:Bool)(s':Shared):Prop:=∃H',Inv X pins σ H' s'/\Q b H'
def AP(X:Cx)(pins:List (Addr×Obj))(σ:St)(Q:List V->Hp->Prop)(us:List Value)(s':Shared):Prop:=∃vs H',Inv X pins σ H' s'/\Vals vs us/\Q vs H'
def SP(X:Cx)(pins:List (Addr×Obj))(D:Ends)(f:Flow)(s':Shared):Prop :=
 match f with
 | .next=>∃σ' H',Inv X pins σ' H' s'/\D.nx σ' H'
 | .brk=>∃σ' H',Inv X pins σ' H' s'/\D.bk σ' H'
 | .cont=>∃σ' H',Inv X pins σ' H' s'/\D.ct σ' H'
 | .ret u=>∃v σ' H',Inv X pins σ' H' s'/\RelV v u/\D.rt v H'
def PE(X:Cx)(e:Expr)(t:TE):Prop :=
 ∀(pins:List (Addr×Obj)) (s:Shared) (σ:St) (H:Hp) (Q:VK),Inv X pins σ H s->t σ H Q->wpAny (model X.prog X.w) X.A (eval e X.env) (EP X pins σ Q) X.xe s
def PT(X:Cx)(e:Expr)(t:TT):Prop :=
 ∀(pins:List (Addr×Obj)) (s:Shared) (σ:St) (H:Hp) (Q:Bool->Hp->Prop),Inv X pins σ H s->t σ H Q->wpAny (model X.prog X.w) X.A (isTrue e X.env (eval e X.env)) (TP X pins σ Q) X.xe s
def PW(X:Cx)(e:Expr)(t:TT):Prop :=
 ∀(whole:Sem Value) (pins:List (Addr×Obj)) (s:Shared) (σ:St) (H:Hp) (Q:Bool->Hp->Prop),Inv X pins σ H s->t σ H Q->wpAny (model X.prog X.w) X.A (isTrue e X.env whole) (TP X pins σ Q) X.xe s
theorem PW.pt{t:TT}(h:PW X e t):PT X e t:=h _
def PA(X:Cx)(es:List Expr)(t:TA):Prop :=
 ∀(pos:Pos) (pins:List (Addr×Obj)) (s:Shared) (σ:St) (H:Hp) (Q:List V->Hp->Prop),Inv X pins σ H s->t σ H Q->wpAny (model X.prog X.w) X.A (spliced (backTo pos (starEach es X.env))) (AP X pins σ Q) X.xe s
def PS(X:Cx)(st:Stmt)(t:TS):Prop :=
 ∀(pins:List (Addr×Obj)) (s:Shared) (σ:St) (H:Hp) (D:Ends),Inv X pins σ H s->t D σ H->wpAny (model X.prog X.w) X.A (exec st X.env) (SP X pins D) X.xe s
def PSs(X:Cx)(st:List Stmt)(t:TS):Prop :=
 ∀(pins:List (Addr×Obj)) (s:Shared) (σ:St) (H:Hp) (D:Ends),Inv X pins σ H s->t D σ H->wpAny (model X.prog X.w) X.A (execs st X.env) (SP X pins D) X.xe s
theorem thn{t:Sem α}{Q Q':α->Shared->Prop}{M:Model}{A:Around}{s:Shared}(h:wpAny M A t Q E s)(hQ:∀a s,Q a s->Q' a s):wpAny M A t Q' E s:=C9 h hQ λ_ _ x=>x
section
def Ux0(i:Nat):TE:=fun σ H Q=>∃v,σ[i]?=some (some v)/\Q v H
def tC(v:V):TE:=λ_ H Q=>Q v H
theorem xl0(hN:X.N[i]?=some x)(hv:Vis X.env.scope x)(hd:(x==("__debug__" : Str))=false:=by decide)(hcd:(x==("__classdict__" : Str))=false:=by decide):PE X (.Name x pos) (Ux0 i):=by
 intro pins s σ H Q I h;obtain⟨v,e,h⟩:=h;obtain⟨m,hn,hl⟩:=I.loc;obtain⟨u,r,l⟩:=hl i x v hN e hv;have O:EP X pins σ Q u s:=⟨v,H,I,r,h⟩;rcases l with⟨hk,hm⟩|⟨hk,c,hc,J⟩
 ·exact E8 (S1 I.ok.kind hk hn hm O) hd
 ·rcases hk with hk|hk
  ·exact E8 (wpAny_loadName_cell I.ok.kind hk hc J O) hd
  ·exact E8 (d5 I.ok.kind hk hc J O hcd) hd
theorem ms0{i j pos}:PE X (.Constant (.int i) j pos) (tC (.int i)):=λ_ _ _ H _ I h=>wpAny_Constant_int ⟨.int i,H,I.tok _,⟨_,rfl⟩,h⟩
theorem V90{b j pos}:PE X (.Constant (.bool b) j pos) (tC (.bl b)):=λ_ _ _ H _ I h=>Constant_bool ⟨.bl b,H,I,rfl,h⟩
theorem Yo0{j pos}:PE X (.Constant .none j pos) (tC .non):=λ_ _ _ H _ I h=>Constant_none ⟨.non,H,I,rfl,h⟩
theorem X60{x j pos}:PE X (.Constant (.str x) j pos) (tC (.str x)):=λ_ _ _ H _ I h=>Calls.Constant_str ⟨.str x,H,I.tok _,⟨_,rfl⟩,h⟩
def Gl(X:Cx)(x:Str):Prop:=X.env.kindOf x=some .globalImplicit
theorem u60{E:Value->Shared->Prop}{s:Shared}{σ:St}{pos:Pos}(I:Inv X pins σ H s)(hg:Gl X x)(hm:X.mg x=some u)(h:Q u s)
  (hd:(x==("__debug__" : Str))=false:=by decide):wpAny (model X.prog X.w) X.A (eval (.Name x pos) X.env) Q E s :=
 y3 I.ok.kind hg (Calls.loadGlobal_global (by rw[I.ok.glob];exact I.mod.glob.keeps I.bk) hm h) hd
theorem zi0{E:Value->Shared->Prop}{s:Shared}{σ:St}{pos:Pos}(I:Inv X pins σ H s)(hg:Gl X x)(hm:X.mg x=none)(hv:bootBuiltins x=some u)(h:Q u s)
  (hn:x ≠"__name__" := by decide) (hd:(x==("__debug__" : Str))=false:=by decide):wpAny (model X.prog X.w) X.A (eval (.Name x pos) X.env) Q E s:=by
 obtain⟨mb,h1,h2⟩:=I.mod.blt;exact y3 I.ok.kind hg (Calls.loadGlobal_builtin (by rw[I.ok.glob];exact I.mod.glob.keeps I.bk) hm (by rw[I.ok.blt];exact h1.keeps I.bk) ((h2 x hn).trans hv) h) hd
theorem sl0(hg:Gl X x)(hm:X.mg x=some u)(r:RelV v u)(hd:(x==("__debug__" : Str))=false:=by decide):PE X (.Name x pos) (tC v) :=
 λ_ _ _ H _ I h=>u60 I hg hm ⟨v,H,I,r,h⟩ hd
theorem Zz0(hg:Gl X x)(hm:X.mg x=none)(hv:bootBuiltins x=some u)(r:RelV v u)(hn:x ≠"__name__" := by decide)(hd:(x==("__debug__" : Str))=false:=by decide):PE X (.Name x pos) (tC v) :=
 λ_ _ _ H _ I h=>zi0 I hg hm hv ⟨v,H,I,r,h⟩ hn hd
variable{a:Expr}
def PC(X:Cx)(op:CmpOp)(a b:Expr)(t:TE):Prop :=
 ∀(pins:List (Addr×Obj)) (s:Shared) (σ:St) (H:Hp) (Q:VK),Inv X pins σ H s->t σ H Q ->
  wpAny (model X.prog X.w) X.A (eval a X.env) (λv s₁=>wpAny (model X.prog X.w) X.A (eval b X.env) (λu s₂=>wpAny (model X.prog X.w) X.A (compareOp op v u) (EP X pins σ Q) X.xe s₂) X.xe s₁) X.xe s
def tB(t:TE):TT:=fun σ H Q=>t σ H λx H1=>∃c,x=.bl c/\Q c H1
theorem Xi0{op:CmpOp}{t:TE}(h:PC X op a b t)(h1:behindInMarks op b=false:=by first|exact nobehind _ (by decide) (by decide)|rfl):PT X (.Compare a [op] [b] pos) (tB t):=by
 intro pins s σ H Q I hw;refine y4 (thn (h pins s σ H _ I hw) λv s1 h1=>thn h1 λu s2 h2=>thn h2 λc s3 ⟨x,H1,I1,r1,q1⟩=>?_) h1;obtain⟨d,rfl,q⟩:=q1;cases r1;exact L0 ⟨H1,I1,q⟩
theorem Ye0{t:TE}(h:PE X e t)(he:∀whole,isTrue e X.env whole=(do let v ← whole;standAt e.pos;holding [v] (truthy v)):=by intro _;rfl):PT X e (tB t):=by
 intro pins s σ H Q I hw;refine isTrue_plain (thn (h pins s σ H _ I hw) λv s1 ⟨x,H1,I1,r1,q1⟩=>?_) (he _);obtain⟨d,rfl,q⟩:=q1;cases r1;exact L0 ⟨H1,I1,q⟩
variable{tA tB':TT}{rest:List Expr}
def tOr(t u:TT):TT:=fun σ H Q=>t σ H λc H1=>if c=true then Q true H1 else u σ H1 Q
theorem Wh0(ha:PT X a tA):PW X (.BoolOp .Or [a] pos) tA:=by
 intro wh pins s σ H Q I h;refine isTrue_or (thn (ha pins s σ H Q I h) λc s1 e=>?_);cases c with
 | false=>exact isTrue_or_nil e
 | true=>exact e
theorem Ua0(ha:PT X a tA)(hb:PW X (.BoolOp .Or (b::rest) pos) tB'):PW X (.BoolOp .Or (a::b::rest) pos) (tOr tA tB'):=by
 intro wh pins s σ H Q I h;refine isTrue_or (thn (ha pins s σ H _ I h) λc s1 ⟨H1,I1,q1⟩=>?_);cases c with
 | true=>exact⟨H1,I1,q1⟩
 | false=>exact hb wh pins s1 σ H1 Q I1 q1
def U90(ta tb:TE):TE:=fun σ H Q=>ta σ H λx H1=>∃c,x=.bl c/\if c=true then tb σ H1 Q else Q (.bl false) H1
theorem W60{op}{t:TE}(h:PE X a t):PE X (.BoolOp op [a] pos) t:=λpins s σ H Q I hw=>BoolOp_one (h pins s σ H Q I hw)
theorem Yb0(ha:PE X a ta)(hb:PE X (.BoolOp .And (b::rest) pos) tb):PE X (.BoolOp .And (a::b::rest) pos) (U90 ta tb):=by
 intro pins s σ H Q I h;refine BoolOp_and (thn (ha pins s σ H _ I h) λv s1 ⟨x,H1,I1,r1,q1⟩=>?_);obtain⟨c,rfl,q1⟩:=q1;cases r1;refine L0 ?_;cases c with
 | true=>exact hb pins s1 σ H1 Q I1 q1
 | false=>exact⟨.bl false,H1,I1,rfl,q1⟩
def tIf(t:TT)(ta tb:TE):TE:=fun σ H Q=>t σ H λc H1=>if c=true then ta σ H1 Q else tb σ H1 Q
theorem dg0(hc:PT X c tA)(ha:PE X a ta)(hb:PE X b tb):PE X (.IfExp c a b pos) (tIf tA ta tb):=by
 intro pins s σ H Q I h;refine wpAny_IfExp (thn (hc pins s σ H _ I h) λd s1 ⟨H1,I1,q1⟩=>?_);cases d with
 | true=>exact ha pins s1 σ H1 Q I1 q1
 | false=>exact hb pins s1 σ H1 Q I1 q1
end
def SqL(K:W.Frag)(H:Hp)(a:Addr)(xs:List V):Prop :=
 Rd H a (.lst xs) ∨
  ∃(o:Obj) (its:Array Value) (n:Nat),K.lookup a=some o/\o.cls=.type "list"/\o.dict=none/\o.data=.seq its n/\its.size<=sizeLine/\Vals xs its.toList
def SqT(K:W.Frag)(H:Hp)(a:Addr)(xs:List V):Prop :=
 Rd H a (.tup xs) ∨
  ∃(o:Obj) (its:Array Value) (n:Nat),K.lookup a=some o/\o.cls=.type "tuple"/\o.data=.seq its n/\its.size<=sizeLine/\Vals xs its.toList
def Un0:Value->Option V
 | .none=>some .non
 | .bool b=>some (.bl b)
 | .int i _=>some (.int i)
 | .str x _=>some (.str x)
 | .bytes b _=>some (.byt b)
 | .float b _=>some (.flt b)
 | .ref a=>some (.ref a)
 | .type n=>some (.ty n)
 | _=>none
theorem RelV.abs{x:V}(r:RelV x u):Un0 u=some x:=by
 cases x with
 | non=>cases r;rfl
 | bl _=>cases r;rfl
 | int _=>obtain⟨t,rfl⟩:=r;rfl
 | str _=>obtain⟨t,rfl⟩:=r;rfl
 | byt _=>obtain⟨t,rfl⟩:=r;rfl
 | flt _=>obtain⟨t,rfl⟩:=r;rfl
 | ref _=>cases r;rfl
 | ty _=>cases r;rfl
theorem RelV.inj{x y:V}(r:RelV x u)(q:RelV y u):x=y:=B3 (r.abs.symm.trans q.abs)
theorem Vals.inj:∀{xs ys:List V} {us:List Value},Vals xs us->Vals ys us->xs=ys
 | _,_,_,.nil,.nil=>rfl
 | _,_,_,.cons r t,.cons r' t'=>by rw[r.inj r',Vals.inj t t']
section
variable{σ:St}{s:Shared}{ys:List V}
theorem Inv.list(I:Inv X pins σ H s)(h:SqL X.K H a xs):∃its:List Value,Vals xs its/\PlainL s.heap a its.toArray/\xs.length<=sizeLine:=by
 rcases h with h|⟨o,its,n,hk,hc,hd,hs,hz,r⟩
 ·obtain⟨z,its,n,r,e⟩:=h.ok I.hok
  exact⟨its,r,⟨_,n,e,rfl,rfl,rfl⟩,z⟩
 ·refine⟨its.toList,r,⟨o,n,I.kIn a o hk,hc,hd,by simpa using hs⟩,?_⟩
  have e:=r.length;simp only[Array.length_toList] at e;omega
theorem Inv.tuple(I:Inv X pins σ H s)(h:SqT X.K H a xs):∃its:List Value,Vals xs its/\IsTup s.heap a its.toArray/\xs.length<=sizeLine:=by
 rcases h with h|⟨o,its,n,hk,hc,hs,hz,r⟩
 ·obtain⟨z,its,r,p⟩:=h.ok I.hok
  exact⟨its,r,p.tup,z⟩
 ·refine⟨its.toList,r,⟨o,I.kIn a o hk,hc,n,by simpa using hs⟩,?_⟩
  have e:=r.length;simp only[Array.length_toList] at e;omega
theorem Inv.list_inj(I:Inv X pins σ H s)(h:SqL X.K H a xs)(h':SqL X.K H a ys):xs=ys:=by
 obtain⟨its,r,⟨o,n,e,_,_,d⟩,_⟩:=I.list h;obtain⟨J,r',⟨o',n',e',_,_,d'⟩,_⟩:=I.list h';rw[e] at e';cases e';rw[d] at d';injection d' with d1 _
 have:its=J:=by simpa using E3 Array.toList d1
 subst this;exact r.inj r'
theorem Inv.tuple_inj(I:Inv X pins σ H s)(h:SqT X.K H a xs)(h':SqT X.K H a ys):xs=ys:=by
 obtain⟨its,r,⟨o,e,_,n,d⟩,_⟩:=I.tuple h;obtain⟨J,r',⟨o',e',_,n',d'⟩,_⟩:=I.tuple h';rw[e] at e';cases e';rw[d] at d';injection d' with d1 _
 have:its=J:=by simpa using E3 Array.toList d1
 subst this;exact r.inj r'
end
abbrev Cx.wish(X:Cx)(E:Value->Shared->Prop):Cx:={ X with xe:=E }
abbrev Cx.nox(X:Cx):Cx:=X.wish λ_ _=>False
theorem Cx.Ok.wish(ok:X.Ok)(E:Value->Shared->Prop):(X.wish E).Ok :=
 ⟨ok.mod,ok.kind,ok.glob,ok.blt,ok.above,ok.inj,ok.has,ok.cab,ok.hd,ok.frames,ok.stk,ok.exf,ok.bs,ok.bsz,ok.noex,ok.exfs,ok.funs,ok.frf⟩
theorem Cx.Ok.unwish(ok:(X.wish E).Ok):X.Ok :=
 ⟨ok.mod,ok.kind,ok.glob,ok.blt,ok.above,ok.inj,ok.has,ok.cab,ok.hd,ok.frames,ok.stk,ok.exf,ok.bs,ok.bsz,ok.noex,ok.exfs,ok.funs,ok.frf⟩
section
variable{σ:St}{s:Shared}
theorem Inv.wish(I:Inv X pins σ H s)(E:Value->Shared->Prop):Inv (X.wish E) pins σ H s:=⟨I.ok.wish E,I.os,I.bare,I.base,I.loc,I.cell,I.free,I.freeC,I.pin,I.hok,I.len⟩
theorem Inv.unwish(I:Inv (X.wish E) pins σ H s):Inv X pins σ H s:=⟨I.ok.unwish,I.os,I.bare,I.base,I.loc,I.cell,I.free,I.freeC,I.pin,I.hok,I.len⟩
theorem SP.unwish{D:Ends}{f:Flow}(h:SP (X.wish E) pins D f s'):SP X pins D f s':=by
 cases f with
 | next=>obtain⟨σ',H',I,q⟩:=h;exact⟨σ',H',I.unwish,q⟩
 | brk=>obtain⟨σ',H',I,q⟩:=h;exact⟨σ',H',I.unwish,q⟩
 | cont=>obtain⟨σ',H',I,q⟩:=h;exact⟨σ',H',I.unwish,q⟩
 | ret u=>obtain⟨v,σ',H',I,r,q⟩:=h;exact⟨v,σ',H',I.unwish,r,q⟩
theorem PSs.nox{st:List Stmt}{t:TS}(h:PSs X.nox st t):PSs X st t:=λpins s σ H D I hw =>
 C9 (h pins s σ H D (I.wish _) hw) (λ_ _ q=>q.unwish) λ_ _ z=>False.elim z
end
section
variable{t u:TS}
def b90:TS:=λD σ H=>D.nx σ H
def Yq0(t u:TS):TS:=λD σ H=>t { D with nx:=u D } σ H
theorem u90:PSs X [] b90:=λ_ _ σ H _ I h=>d6 ⟨σ,H,I,h⟩
theorem U5(h1:PS X st t)(h2:PSs X rest u):PSs X (st::rest) (Yq0 t u):=by
 intro pins s σ H D I h;refine wpAny_execs_cons (thn (h1 pins s σ H { D with nx:=u D } I h) λf s1 q=>?_);cases f with
 | next =>
  obtain⟨σ',H',I',q⟩:=q;exact h2 pins s1 σ' H' D I' q
 | ret v=>exact q
 | brk=>exact q
 | cont=>exact q
theorem Inv.quiet{σ:St}{s:Shared}(I:Inv X pins σ H s):interactive X.env=false:=by simp[interactive,I.ok.kind]
def bl0(te:TE):TS:=λD σ H=>te σ H λ_ H1=>D.nx σ H1
theorem i90(he:PE X e te)(hs:swapsWith e none pos.line X.env=pure false:=by rfl):PS X (.Expr e pos) (bl0 te):=by
 intro pins s σ H D I h;exact wpAny_Expr_any (thn (he pins s σ H _ I h) λv s1 ⟨x,H1,I1,r1,q1⟩=>⟨σ,H1,I1,q1⟩) I.quiet hs
def Ta0(te:TE):TS:=λD σ H=>te σ H D.rt
theorem ph0(he:PE X e te):PS X (.Return (some e) pos) (Ta0 te):=by
 intro pins s σ H D I h;exact wpAny_Return_some (thn (he pins s σ H _ I h) λv s1 ⟨x,H1,I1,r1,q1⟩=>⟨x,σ,H1,I1,r1,q1⟩)
def Tb0(c:TT)(t u:TS):TS:=λD σ H=>c σ H λb H1=>if b=true then t D σ H1 else u D σ H1
theorem h70{a b:List Stmt}{tc:TT}(hc:PT X c tc)(ha:PSs X a t)(hb:PSs X b u):PS X (.If c a b pos) (Tb0 tc t u):=by
 intro pins s σ H D I h;refine wpAny_If (thn (hc pins s σ H _ I h) λd s1 ⟨H1,I1,q1⟩=>?_);cases d with
 | true=>exact ha pins s1 σ H1 D I1 q1
 | false=>exact hb pins s1 σ H1 D I1 q1
def Xh0:TS:=λ_ _ _=>False
theorem M9{sts:List Stmt}:PSs X sts Xh0:=λ_ _ _ _ _ _ h=>h.elim
end
abbrev TG:=V->St->Hp->(St->Hp->Prop)->Prop
abbrev TGs:=List V->St->Hp->(St->Hp->Prop)->Prop
def PG(X:Cx)(target:Expr)(t:TG):Prop :=
 ∀(pins:List (Addr×Obj)) (s:Shared) (σ:St) (H:Hp) (v:V) (u:Value) (Q:St->Hp->Prop),Inv X pins σ H s->RelV v u->t v σ H Q ->
  wpAny (model X.prog X.w) X.A (assign target X.env u) (λ_ s'=>∃σ' H',Inv X pins σ' H' s'/\Q σ' H') X.xe s
def PGs(X:Cx)(ts:List Expr)(t:TGs):Prop :=
 ∀(pins:List (Addr×Obj)) (s:Shared) (σ:St) (H:Hp) (vs:List V) (us:List Value) (Q:St->Hp->Prop),Inv X pins σ H s->Vals vs us->t vs σ H Q ->
  wpAny (model X.prog X.w) X.A (assignInOrder ((assignEach ts X.env).map (·.2)) us) (λ_ s'=>∃σ' H',Inv X pins σ' H' s'/\Q σ' H') X.xe s
abbrev db0:=V->V->V->Hp->(Hp->Prop)->Prop
def X00(X:Cx)(t:db0):Prop :=
 ∀(pins:List (Addr×Obj)) (s:Shared) (σ:St) (H:Hp) (o i v:V) (ov iv u:Value) (Q:Hp->Prop),Inv X pins σ H s->RelV o ov->RelV i iv->RelV v u->t o i v H Q ->
  wpAny (model X.prog X.w) X.A (setItem ov iv u) (λ_ s'=>∃H',Inv X pins σ H' s'/\Q H') X.xe s
abbrev TIp:=V->V->Hp->VK->Prop
def PIp(X:Cx)(op:Operator)(t:TIp):Prop :=
 ∀(pins:List (Addr×Obj)) (s:Shared) (σ:St) (H:Hp) (x y:V) (v u:Value) (Q:VK),Inv X pins σ H s->RelV x v->RelV y u->t x y H Q ->
  wpAny (model X.prog X.w) X.A (inplaceOp op v u) (EP X pins σ Q) X.xe s
def ba0(i:Nat):TG:=λv σ H Q=>Q (σ.set i (some v)) H
theorem zx0(hN:X.N.Nodup)(hi:X.N[i]?=some x)(hx:Loc X.env.scope x)(hf:X.fn x=true∨X.env.scope.names.lookup x=some .local:=by first|exact .inl rfl|exact .inr rfl|assumption):PG X (.Name x pos) (ba0 i):=by
 intro pins s σ H v u Q I r h;exact wpAny_assign_Name (q50 I hN hi hx r (λs' I'=>⟨_,H,I',h⟩) hf)
def T20:TGs:=λvs σ H Q=>vs=[]/\Q σ H
def Vw0(t:TG)(u:TGs):TGs:=λvs σ H Q=>∃v r,vs=v::r/\t v σ H fun σ' H'=>u r σ' H' Q
theorem jq0:PGs X [] T20:=by
 intro pins s σ H vs us Q I r h;obtain⟨e,h⟩:=h;subst e;cases r;exact assignInOrder_nil ⟨σ,H,I,h⟩
theorem ww0{t:TG}{u:TGs}(h1:PG X e t)(h2:PGs X es u)
  (hs:(assignEach (e::es) X.env).map (·.2)=assign e X.env::(assignEach es X.env).map (·.2):=by rfl):PGs X (e::es) (Vw0 t u):=by
 intro pins s σ H vs us Q I r h;obtain⟨v,vr,e1,h⟩:=h;subst e1;cases r with
 | cons r rr =>
  rw[hs];refine assignInOrder_cons (thn (h1 pins s σ H _ _ _ I r h) λ_ s1 ⟨σ1,H1,I1,q1⟩=>?_);exact h2 pins s1 σ1 H1 _ _ Q I1 rr q1
def Uw0(K:W.Frag)(n:Nat)(t:TGs):TG:=λv σ H Q=>∃a xs,v=.ref a/\SqT K H a xs/\xs.length=n/\t xs σ H Q
theorem gu0{k:Nat}{t:TGs}{n:Nat}(hc:X.calm=true)(h:PGs X es t)
  (hn:(assignEach es X.env).length=n:=by rfl) (hst:(assignEach es X.env).findIdx? (·.1)=none:=by rfl):PG X (.Tuple es k pos) (Uw0 X.K n t):=by
 intro pins s σ H v u Q I r hw;obtain⟨a,xs,e1,hq,hl,hw⟩:=hw;subst e1;cases r;obtain⟨its,rv,ht,hz⟩:=I.tuple hq;refine assign_Tuple_tuple (I.ok.hd hc) ht (by simp[hn,← hl,rv.length]) hst λh' hx=>?_
 have I1:Inv X pins σ H { s with heap:=h' }:=I.kept (t':=s.toks) λb o e=>hx b o (A5 (A3 e)) e
 exact h pins _ σ H xs _ Q I1 (by simpa using rv) hw
def T70(to ti:TE)(t:db0):TG:=λv σ H Q=>to σ H λo H1=>ti σ H1 λi H2=>t o i v H2 λH3=>Q σ H3
theorem Xd0{i:Expr}{to ti:TE}{t:db0}(ho:PE X o to)(hi:PE X i ti)(hs:X00 X t)
  (ha:∀v,assign (.Subscript o i pos) X.env v=(do
   let ov ← holding [v] (eval o X.env)
   let iv ← holding [v,ov] (eval i X.env)
   standAt pos
   holding [v,ov,iv] (setItem ov iv v)
   release [v,ov,iv] []):=by intro _;rfl):PG X (.Subscript o i pos) (T70 to ti t):=by
 intro pins s σ H v u Q I r h;rw[ha];refine A0 (D7 (thn (ho pins s σ H _ I h) λov s1 ⟨x,H1,I1,r1,q1⟩=>?_));refine A0 (D7 (thn (hi pins s1 σ H1 _ I1 q1) λiv s2 ⟨y,H2,I2,r2,q2⟩=>?_));refine A0 (g7 (A0 (D7 (thn (hs pins s2 σ H2 x y v ov iv u _ I2 r1 r2 r q2) λ_ s3 ⟨H3,I3,q3⟩=>?_))));exact wpAny_release ⟨σ,H3,I3,q3⟩
def Wv0(te:TE)(g:TG):TS:=λD σ H=>te σ H λx H1=>g x σ H1 D.nx
theorem po0{g:TG}(he:PE X e te)(hg:PG X tg g)(hs:swapsWithSole [tg] e pos.line X.env=pure false:=by rfl)(hw:swappedStores [tg] e X.env=pure none:=by rfl)
  (h1:(assignEach [tg] X.env).map (·.2)=[assign tg X.env]:=by rfl):PS X (.Assign [tg] e pos) (Wv0 te g):=by
 intro pins s σ H D I h;refine wpAny_Assign_stores (thn (he pins s σ H _ I h) λv s1 ⟨x,H1,I1,r1,q1⟩=>?_) hs hw;rw[h1];exact thn (hg pins s1 σ H1 x v _ I1 r1 q1) λ_ s2 q=>q
theorem Y60(hN:X.N.Nodup)(hi:X.N[i]?=some x)(hx:Loc X.env.scope x)(he:PE X e te)(hs:swapsWith e (some (.Name x pos')) pos.line X.env=pure false:=by rfl)(hf:X.fn x=true∨X.env.scope.names.lookup x=some .local:=by first|exact .inl rfl|exact .inr rfl|assumption) :
  PS X (.Assign [.Name x pos'] e pos) (Wv0 te (ba0 i)):=by
 intro pins s σ H D I h;refine wpAny_Assign_Name (thn (he pins s σ H _ I h) λv s1 ⟨y,H1,I1,r1,q1⟩=>?_) hs;exact q50 I1 hN hi hx r1 (λs2 I2=>⟨_,H1,I2,q1⟩) hf
def Ut0(i:Nat)(te:TE)(ti:TIp):TS:=λD σ H=>∃x,σ[i]?=some (some x)/\te σ H λy H1=>ti x y H1 λz H2=>D.nx (σ.set i (some z)) H2
theorem Xu0{op:Operator}{ti:TIp}{pos':Pos}(hN:X.N.Nodup)(hi:X.N[i]?=some x)(hx:Loc X.env.scope x)(he:PE X e te)(ho:PIp X op ti)(hf:X.fn x=true∨X.env.scope.names.lookup x=some .local:=by first|exact .inl rfl|exact .inr rfl|assumption) :
  PS X (.AugAssign (.Name x pos') op e pos) (Ut0 i te ti):=by
 intro pins s σ H D I h;obtain⟨v,e1,h⟩:=h;obtain⟨m,hn,hl⟩:=I.loc;have O:Vis X.env.scope x:=by rcases hx with k|k;exact .inl k;exact .inr (.inl k)
 obtain⟨u,r,l⟩:=hl i x v hi e1 O;refine wpAny_AugAssign_Name ?_;have go:wpAny (model X.prog X.w) X.A (eval e X.env) (λw s₂=>wpAny (model X.prog X.w) X.A (inplaceOp op u w) (λr s₃=>wpAny (model X.prog X.w) X.A (storeName X.env x r) (λ_=>SP X pins D .next) X.xe s₃) X.xe s₂) X.xe s:=by
  refine thn (he pins s σ H _ I h) λw s1 ⟨y,H1,I1,r1,q1⟩=>?_
  refine thn (ho pins s1 σ H1 v y u w _ I1 r r1 q1) λz s2 ⟨zv,H2,I2,r2,q2⟩=>?_
  exact q50 I2 hN hi hx r2 (λs3 I3=>⟨_,H2,I3,q2⟩) hf
 rcases l with⟨hk,hm⟩|⟨hk,c,hc,J⟩
 ·exact S1 I.ok.kind hk hn hm go
 ·rcases hk with hk|hk
  ·exact wpAny_loadName_cell I.ok.kind hk hc J go
  ·rcases hx with k|k
   ·have:X.env.scope.names.lookup x=some .free:=hk
    rw[k] at this;cases this
   ·have:X.env.scope.names.lookup x=some .free:=hk
    rw[k] at this;cases this
def ipI(f:Int->Int->Int):TIp:=λx y H Q=>∃i j,x=.int i/\y=.int j/\Q (.int (f i j)) H
theorem Xf0:PIp X .Add (ipI λi j=>i+j):=by
 intro pins s σ H x y v u Q I r1 r2 h;obtain⟨i,j,e1,e2,q⟩:=h;subst e1;subst e2;obtain⟨t,rfl⟩:=r1;obtain⟨t',rfl⟩:=r2;exact iadd_int ⟨.int _,H,I.tok _,⟨_,rfl⟩,q⟩
def W50(c:TT)(tb:TS):TS:=λD σ H=>∃W:Nat->St->Hp->Prop,(∃m,W m σ H)/\∀m σ H,W m σ H ->
 c σ H λb H1=>if b=true then ∃N:St->Hp->Prop,(∀σ' H',N σ' H'->∃m',m'<m/\W m' σ' H')/\tb { D with nx:=N,ct:=N,bk:=D.nx } σ H1 else D.nx σ H1
theorem c00{body:List Stmt}{tc:TT}{tb:TS}(hp:PassesOwn (model X.prog X.w) X.A X.env X.xe)(hc:PT X c tc)(hb:PSs X body tb):PS X (.While c body [] pos) (W50 tc tb):=by
 intro pins s σ H D I h;obtain⟨W,⟨m0,w0⟩,J⟩:=h;refine wpAny_While (codeAny_whileLoop (λn s'=>∃σ' H',Inv X pins σ' H' s'/\W n σ' H') ?_ m0 ⟨σ,H,I,w0⟩);rintro n s1 ⟨σ1,H1,I1,w1⟩;refine E9 hp (thn (hc pins s1 σ1 H1 _ I1 (J n σ1 H1 w1)) λb s2 ⟨H2,I2,q2⟩=>?_);cases b with
 | true =>
  obtain⟨N,hN,q2⟩:=q2;rw[if_pos rfl];refine E9 hp (thn (hb pins s2 σ1 H2 _ I2 q2) λf s3 q3=>?_);cases f with
  | next =>
   obtain⟨σ3,H3,I3,n3⟩:=q3;obtain⟨m',hm,w3⟩:=hN σ3 H3 n3;exact⟨m',hm,σ3,H3,I3,w3⟩
  | cont =>
   obtain⟨σ3,H3,I3,n3⟩:=q3;obtain⟨m',hm,w3⟩:=hN σ3 H3 n3;exact⟨m',hm,σ3,H3,I3,w3⟩
  | brk=>exact q3
  | ret v=>exact q3
 | false =>
  rw[if_neg B8];exact d6 ⟨σ1,H2,I2,q2⟩
structure It where
 go:Nat->Hp->Prop
 yld:Nat->Hp->V->Hp->Prop
 stop:Nat->Hp->Prop
def wm0(X:Cx)(pins:List (Addr×Obj))(H:Hp)(b:Addr):Prop :=
 H b=none/\b≠X.env.locals/\b∉X.fs/\(b∈X.ex∨X.s₀.heap.objs.size<=b)/\(∀x c,X.env.cells.lookup x=some c->c≠b)/\∀p∈X.pn++pins,p.1≠b
theorem Inv.fpOk{σ:St}{s:Shared}{b:Addr}(I:Inv X pins σ H s)(hb:s.heap.objs.size<=b)(hn:H' b=none):wm0 X pins H' b:=by
 refine⟨hn,B6 (A8 I.lt hb),I.nofs hb,.inr (C5 I.sz hb),λx c e z=>?_,λp hp z=>?_⟩
 ·obtain⟨v,q⟩:=I.cell x c e
  exact absurd (A8 q.lt (by rw[z];exact hb)) (D0 _)
 ·exact absurd (A8 (A3 (I.pin p hp).1) (by rw[z];exact hb)) (D0 _)
structure Turn(P:Program)(w:World)(K:W.Frag)(tg:Expr)(J:It)(fp:List Addr)(it:Addr)(tn:Nat->Heap->Prop):Prop where
 mem:it∈fp
 obj:∀i h,tn i h->∀b∈fp,∃o,h.get? b=some o/\∀v,o.data≠.cell v
 keep:∀i h h',tn i h->(∀b∈fp,∀o,h.get? b=some o->h'.get? b=some o)->tn i h'
 item:∀(X:Cx),X.prog=P->X.w=w->X.K=K->X.calm=true->∀(i:Nat) (pins:List (Addr×Obj)) (s:Shared) (σ:St) (H:Hp) (E:Value->Shared->Prop),Inv X pins σ H s->(∀b∈fp,wm0 X pins H b)->tn i s.heap->J.go i H ->
  wpAny (model P w) X.A (pyNext (.ref it)) (λr s1=>∃u,r=some u /\
   wpAny (model P w) X.A (letOwnedTupleGo tg (.ref it) u) (λ_ s2=>∃x H',Inv X pins σ H' s2/\RelV x u/\J.yld i H x H'/\tn (i+1) s2.heap/\∀b∈fp,H' b=none) E s1) E s
 done:∀(X:Cx),X.prog=P->X.w=w->X.K=K->X.calm=true->∀(i:Nat) (pins:List (Addr×Obj)) (s:Shared) (σ:St) (H:Hp) (E:Value->Shared->Prop),Inv X pins σ H s->(∀b∈fp,wm0 X pins H b)->tn i s.heap->J.stop i H ->
  wpAny (model P w) X.A (pyNext (.ref it)) (λr s1=>r=none/\Inv X pins σ H s1) E s
 self:∀(A:Around) (i:Nat) (s:Shared) (Q:Value->Shared->Prop) (E:Value->Shared->Prop),tn i s.heap->Q (.ref it) s->wpAny (model P w) A (pyIter (.ref it)) Q E s
abbrev TI:=St->Hp->(It->Hp->Prop)->Prop
def PIE(X:Cx)(pins:List (Addr×Obj))(σ:St)(tg:Expr)(R:It->Hp->Prop)(itv:Value)(s2:Shared):Prop :=
 ∃(it:Addr) (fp:List Addr) (tn:Nat->Heap->Prop) (J:It) (H':Hp),itv=.ref it/\Inv X pins σ H' s2/\Turn X.prog X.w X.K tg J fp it tn/\tn 0 s2.heap/\(∀b∈fp,wm0 X pins H' b)/\R J H'
def PI(X:Cx)(tg iter:Expr)(wi:TI):Prop :=
 ∀(pins:List (Addr×Obj)) (s:Shared) (σ:St) (H:Hp) (R:It->Hp->Prop),Inv X pins σ H s->wi σ H R ->
  wpAny (model X.prog X.w) X.A (eval iter X.env) (λv s1=>wpAny (model X.prog X.w) X.A (pyIter v) (PIE X pins σ tg R) X.xe s1) X.xe s
theorem md0{M:Model}{A:Around}{E:Value->Shared->Prop}{s:Shared}{tg:Expr}{u:Value}{o:Obj}{n:String}{vs:Array Value}{Q:Unit->Shared->Prop}(ho:s.heap.get? it=some o)(hc:o.cls=.type n)(hd:o.data=.fields vs)
  (hn:["enumerate", "zip", "dict_itemiterator", "dict_reverseitemiterator", "odict_iterator", "itertools.zip_longest", "itertools.pairwise"].contains n=false) (hQ:Q () s):wpAny M A (letOwnedTupleGo tg (.ref it) u) Q E s:=by
 unfold letOwnedTupleGo;cases tg<;>first
  | exact A2 hQ
  | (cases u<;>first
    | exact A2 hQ
    | (refine A0 (wpAny_load ho ?_)
       rw[hc,hd];show wpAny M A (if (["enumerate", "zip", "dict_itemiterator", "dict_reverseitemiterator", "odict_iterator", "itertools.zip_longest", "itertools.pairwise"].contains n&&vs[0]?==some (rawInt _))=true then _ else _) Q E s;rw[if_neg (by intro h;rw[hn,Bool.false_and] at h;cases h)];exact A2 hQ))
def Itl(K:W.Frag)(a:Addr):It :=
 ⟨λi H=>∃xs x,SqL K H a xs/\xs[i]?=some x,λi H x H'=>H'=H/\∀xs,SqL K H a xs->xs[i]?=some x,λi H=>∃xs,SqL K H a xs/\xs.length<=i⟩
def Itt(K:W.Frag)(a:Addr):It :=
 ⟨λi H=>∃xs x,SqT K H a xs/\xs[i]?=some x,λi H x H'=>H'=H/\∀xs,SqT K H a xs->xs[i]?=some x,λi H=>∃xs,SqT K H a xs/\xs.length<=i⟩
def Itr(lo:Int)(n:Nat):It:=⟨λi _=>i<n,λi H x H'=>H'=H/\x=.int (lo+i),λi _=>n<=i⟩
theorem gq0{P:Program}{w:World}(a it:Addr):Turn P w K tg (Itl K a) [it] it (λi h=>h.IsListIter it a i) where
 mem:=by simp
 obj:=λi h st b hb=>by
  have e:b=it:=by simpa using hb
  subst e;obtain⟨o,e,c,d⟩:=st;exact⟨o,e,λv z=>by rw[d] at z;cases z⟩
 keep:=λi h h' st k=>st.at λo e=>k it (by simp) o e
 item:=by
  intro X hP hw hK hc i pins s σ H E I hf st hg;subst hP hw hK;obtain⟨xs,x,hq,hx⟩:=hg;obtain⟨its,rv,p,hz⟩:=I.list hq;obtain⟨u,hu,ru⟩:=rv.get hx;obtain⟨f0,f1,f2,f3,f4,f5⟩:=hf it (by simp);refine wpAny_pyNext_list_item st p.isList (x:=u) (by simpa using hu) λh' J sb=>?_
  have I1:Inv X pins σ H { s with heap:=h' }:=I.turned (t':=s.toks) (λb o hb e=>(sb.2 b hb).trans e) f0 f1 f3 f4 f5;obtain⟨o,e,c,d⟩:=id J;exact⟨u,rfl,md0 (s:={ s with heap:=h' }) e c d (by decide) ⟨x,H,I1,ru,⟨rfl,λys hy=>by rw[I.list_inj hy hq];exact hx⟩,J,λb hb=>(hf b hb).1⟩⟩
 done:=by
  intro X hP hw hK hc i pins s σ H E I hf st hg;subst hP hw hK;obtain⟨xs,hq,hx⟩:=hg;obtain⟨its,rv,p,hz⟩:=I.list hq;obtain⟨f0,f1,f2,f3,f4,f5⟩:=hf it (by simp);have hl:=rv.length;exact wpAny_pyNext_list_end (I.ok.hd hc) st p.isList (by simp;omega) λh' eb=>⟨rfl,I.turned (t':=s.toks) (λb o hb e=>eb b o hb e) f0 f1 f3 f4 f5⟩
 self:=λ_ _ _ _ _ st h=>wpAny_pyIter_listiter st h
theorem in0{P:Program}{w:World}(a it:Addr):Turn P w K tg (Itt K a) [it] it (λi h=>h.IsTupleIter it a i) where
 mem:=by simp
 obj:=λi h st b hb=>by
  have e:b=it:=by simpa using hb
  subst e;obtain⟨o,e,c,d⟩:=st;exact⟨o,e,λv z=>by rw[d] at z;cases z⟩
 keep:=λi h h' st k=>st.at λo e=>k it (by simp) o e
 item:=by
  intro X hP hw hK hc i pins s σ H E I hf st hg;subst hP hw hK;obtain⟨xs,x,hq,hx⟩:=hg;obtain⟨its,rv,p,hz⟩:=I.tuple hq;obtain⟨u,hu,ru⟩:=rv.get hx;obtain⟨f0,f1,f2,f3,f4,f5⟩:=hf it (by simp);refine wpAny_pyNext_tuple_item st (show s.heap.IsTuple a its.toArray from p) (x:=u) (by simpa using hu) λh' J sb=>?_
  have I1:Inv X pins σ H { s with heap:=h' }:=I.turned (t':=s.toks) (λb o hb e=>(sb.2 b hb).trans e) f0 f1 f3 f4 f5;obtain⟨o,e,c,d⟩:=id J;exact⟨u,rfl,md0 (s:={ s with heap:=h' }) e c d (by decide) ⟨x,H,I1,ru,⟨rfl,λys hy=>by rw[I.tuple_inj hy hq];exact hx⟩,J,λb hb=>(hf b hb).1⟩⟩
 done:=by
  intro X hP hw hK hc i pins s σ H E I hf st hg;subst hP hw hK;obtain⟨xs,hq,hx⟩:=hg;obtain⟨its,rv,p,hz⟩:=I.tuple hq;obtain⟨f0,f1,f2,f3,f4,f5⟩:=hf it (by simp);have hl:=rv.length;exact wpAny_pyNext_tuple_end (I.ok.hd hc) st (show s.heap.IsTuple a its.toArray from p) (by simp;omega) λh' eb=>⟨rfl,I.turned (t':=s.toks) (λb o hb e=>eb b o hb e) f0 f1 f3 f4 f5⟩
 self:=λ_ _ _ _ _ st h=>wpAny_pyIter_tupleiter st h
theorem hh0{P:Program}{w:World}(it:Addr)(lo:Int)(n:Nat):Turn P w K tg (Itr lo n) [it] it (λi h=>IsRangeIter h it (lo+(i:Nat)*1) ((n:Int) - (i:Nat)) 1) where
 mem:=by simp
 obj:=λi h st b hb=>by
  have e:b=it:=by simpa using hb
  subst e;exact⟨_,st,λv z=>by
   have z':Data.fields _=Data.cell v:=z;cases z'⟩
 keep:=λi h h' st k=>k it (by simp) _ st
 item:=by
  intro X hP hw hK hc i pins s σ H E I hf st hg;subst hP hw hK;obtain⟨f0,f1,f2,f3,f4,f5⟩:=hf it (by simp);have W:=Walks.range (prog:=X.prog) (w:=X.w) (I.ok.hd hc) it lo 1 n;refine W.item i s _ _ hg st λv h' tk hv J kk=>?_
  obtain⟨t,rfl⟩:=hv;have I1:Inv X pins σ H { s with heap:=h',toks:=tk }:=I.turned (λb o hb e=>kk b o (by simpa using hb) e) f0 f1 f3 f4 f5;refine⟨_,rfl,md0 (s:={ s with heap:=h',toks:=tk }) (n := "range_iterator") J rfl rfl (by decide) ⟨.int (lo+i),H,I1,⟨t,?_⟩,⟨rfl,rfl⟩,J,λb hb=>(hf b hb).1⟩⟩;rw[Int.mul_one]
 done:=by
  intro X hP hw hK hc i pins s σ H E I hf st hg;subst hP hw hK;obtain⟨f0,f1,f2,f3,f4,f5⟩:=hf it (by simp);exact wpAny_pyNext_range_end (I.ok.hd hc) st (by have:n<=i:=hg;omega) λh' eb=>⟨rfl,I.turned (t':=s.toks) (λb o hb e=>eb b o hb e) f0 f1 f3 f4 f5⟩
 self:=λ_ _ _ _ _ st h=>wpAny_pyIter_rangeiter st h
def Vq0(K:W.Frag)(tl:TE):TI:=fun σ H R=>tl σ H λx H1=>∃a,x=.ref a/\(∃xs,SqL K H1 a xs)/\R (Itl K a) H1
def T60(K:W.Frag)(tl:TE):TI:=fun σ H R=>tl σ H λx H1=>∃a,x=.ref a/\(∃xs,SqT K H1 a xs)/\R (Itt K a) H1
theorem a90{l:Expr}{tl:TE}(hl:PE X l tl):PI X tg l (Vq0 X.K tl):=by
 intro pins s σ H R I h;refine thn (hl pins s σ H _ I h) λv s1 ⟨x,H1,I1,r1,q1⟩=>?_
 obtain⟨a,e,⟨xs,hq⟩,q⟩:=q1;subst e;cases r1;obtain⟨its,rv,p,hz⟩:=I1.list hq;refine wpAny_pyIter_list p.isList ?_;refine⟨s1.heap.objs.size,[s1.heap.objs.size],_,_,H1,rfl,I1.kept (t':=s1.toks) λb o e=>A6 _ e,gq0 a _,⟨_,B7 _ rfl,rfl,rfl⟩,λb hb=>?_,q⟩;have e:b=s1.heap.objs.size:=by simpa using hb
 subst e;exact I1.fpOk (A1 _) (I1.hok.fresh (A1 _))
theorem W00{l:Expr}{tl:TE}(hl:PE X l tl):PI X tg l (T60 X.K tl):=by
 intro pins s σ H R I h;refine thn (hl pins s σ H _ I h) λv s1 ⟨x,H1,I1,r1,q1⟩=>?_
 obtain⟨a,e,⟨xs,hq⟩,q⟩:=q1;subst e;cases r1;obtain⟨its,rv,p,hz⟩:=I1.tuple hq;refine wpAny_pyIter_tuple (show s1.heap.IsTuple a its.toArray from p) ?_;refine⟨s1.heap.objs.size,[s1.heap.objs.size],_,_,H1,rfl,I1.kept (t':=s1.toks) λb o e=>A6 _ e,in0 a _,⟨_,B7 _ rfl,rfl,rfl⟩,λb hb=>?_,q⟩;have e:b=s1.heap.objs.size:=by simpa using hb
 subst e;exact I1.fpOk (A1 _) (I1.hok.fresh (A1 _))
theorem kl0{σ:St}{s:Shared}{R:It->Hp->Prop}{E:Value->Shared->Prop}{lo hi:Int}{t u v:Tok}{tk:Nat}(I:Inv X pins σ H s)(h1:-(2 ^ 62)<=lo)(h2:lo<2 ^ 62)(h3:-(2 ^ 62)<=hi)(h4:hi<2 ^ 62)
  (q:R (Itr lo (hi - lo).toNat) H):wpAny (model X.prog X.w) X.A (pyIter (.ref s.heap.objs.size)) (PIE X pins σ tg R) E { s with heap:=s.heap.push { cls:=.type "range",data:=.fields #[.int lo t,.int hi u,.int 1 v] },toks:=tk }:=by
 refine wpAny_pyIter_range (IsRange.new ..) (small_one h1 h2 h3 h4) ?_;have I1:Inv X pins σ H { s with heap:=s.heap.push { cls:=.type "range",data:=.fields #[.int lo t,.int hi u,.int 1 v] },toks:=tk }:=I.kept λb o e=>A6 _ e
 refine⟨(s.heap.push { cls:=.type "range",data:=.fields #[.int lo t,.int hi u,.int 1 v] }).objs.size,[(s.heap.push { cls:=.type "range",data:=.fields #[.int lo t,.int hi u,.int 1 v] }).objs.size],_,_,H,rfl,
  I1.kept (t':=tk) λb o e=>A6 _ e,hh0 _ lo (hi - lo).toNat,?_,λb hb=>?_,q⟩
 ·have e1:lo+((0:Nat):Int)*1=lo:=by simp
  have e2:(((hi - lo).toNat:Nat):Int) - ((0:Nat):Int)=Builtin.Range.rangeSize lo hi 1:=by rw[rangeSize_one];split<;>omega
  show IsRangeIter _ _ (lo+((0:Nat):Int)*1) ((((hi - lo).toNat:Nat):Int) - ((0:Nat):Int)) 1;rw[e1,e2];exact B7 _ rfl
 ·have e:b=(s.heap.push { cls:=.type "range",data:=.fields #[.int lo t,.int hi u,.int 1 v] }).objs.size:=by simpa using hb
  subst e;exact I1.fpOk (A1 _) (I1.hok.fresh (A1 _))
def U00(ta:TA):TI:=fun σ H R=>ta σ H λvs H1=>∃j:Int,vs=[.int j]/\-(2 ^ 62)<=j/\j<2 ^ 62/\R (Itr 0 j.toNat) H1
def V20(ta:TA):TI:=fun σ H R=>ta σ H λvs H1=>∃i j:Int,vs=[.int i,.int j]/\(-(2 ^ 62)<=i/\i<2 ^ 62/\-(2 ^ 62)<=j/\j<2 ^ 62)/\R (Itr i (j - i).toNat) H1
theorem ft0{a:Expr}{ta:TA}(hg:Gl X "range")(hm:X.mg "range"=none)(ha:PA X [a] ta)(hs:starEach [a] X.env=[(false,eval a X.env)]:=by rfl):PI X tg (.Call (.Name "range" p) [a] [] pos) (U00 ta):=by
 intro pins s σ H R I h;refine Call_ (zi0 I hg hm boot_range (E4 (thn (ha pos pins s σ H _ I h) λus s1 ⟨vs,H1,I1,r1,q1⟩=>?_) hs rfl));obtain⟨j,e,q1,q2,q⟩:=q1;subst e;cases r1 with
 | cons r rr =>
  cases rr;obtain⟨t,rfl⟩:=r;exact call_range_1 (kl0 I1 (by omega) (by omega) q1 q2 (by simpa using q))
theorem gv0{a:Expr}{ta:TA}{p pos:Pos}(hg:Gl X "range")(hm:X.mg "range"=none)(ha:PA X [a,b] ta)(hs:starEach [a,b] X.env=[(false,eval a X.env),(false,eval b X.env)]:=by rfl)(hs2:starEach [b] X.env=[(false,eval b X.env)]:=by rfl) :
  PI X tg (.Call (.Name "range" p) [a,b] [] pos) (V20 ta):=by
 intro pins s σ H R I h;refine Call_ (zi0 I hg hm boot_range (E4 (thn (ha pos pins s σ H _ I h) λus s1 ⟨vs,H1,I1,r1,q1⟩=>?_) (by rw[hs,hs2]) (by rw[hs2];rfl)));obtain⟨i,j,e,⟨q1,q2,q3,q4⟩,q⟩:=q1;subst e;cases r1 with
 | cons r rr =>
  cases rr with
  | cons r' rr =>
   cases rr;obtain⟨t,rfl⟩:=r;obtain⟨t',rfl⟩:=r';exact call_range_2 (kl0 I1 q1 q2 q3 q4 q)
def Uk0(wi:TI)(g:TG)(tb:TS):TS:=λD σ H=>wi σ H λJ H1=>∃W:Nat->Nat->St->Hp->Prop,(∃m,W 0 m σ H1)/\∀i m σ H,W i m σ H ->
 (J.stop i H/\D.nx σ H)∨(J.go i H/\∃N:St->Hp->Prop,(∀σ' H',N σ' H'->∃m',m'<m/\W (i+1) m' σ' H')/\∀x H',J.yld i H x H'->g x σ H' fun σ2 H2=>tb { D with nx:=N,ct:=N,bk:=D.nx } σ2 H2)
def s30(fp:List Addr)(h:Heap):List (Addr×Obj):=fp.filterMap λb=>(h.get? b).map λo=>(b,o)
theorem wb0{h:Heap}{b:Addr}{o:Obj}(hb:b∈fp)(e:h.get? b=some o):(b,o)∈s30 fp h:=S2.mpr ⟨b,hb,by rw[e];rfl⟩
theorem en0{h:Heap}{p:Addr×Obj}(hp:p∈s30 fp h):p.1∈fp/\h.get? p.1=some p.2:=by
 obtain⟨b,hb,e⟩:=S2.mp hp;cases q:h.get? b with
 | none=>rw[q] at e;cases e
 | some o =>
  rw[q] at e;have e':(b,o)=p:=B3 e;subst e';exact⟨hb,q⟩
theorem Inv.pinned{σ:St}{s:Shared}(I:Inv X pins σ H s)(hf:∀b∈fp,wm0 X pins H b)(ho:∀b∈fp,∃o,s.heap.get? b=some o/\∀v,o.data≠.cell v):Inv X (pins++s30 fp s.heap) σ H s :=
 I.pins_of λp hp=>(B5.mp hp).elim (λz=>I.pin p (C6 _ z)) λz=>by
  obtain⟨hb,e⟩:=en0 z;obtain⟨f0,f1,f2,_⟩:=hf p.1 hb;obtain⟨o,e',d⟩:=ho p.1 hb;rw[e] at e';cases e';exact⟨e,f0,f1,f2,d⟩
theorem Inv.unpinned{pl:List (Addr×Obj)}{σ:St}{s:Shared}(I:Inv X (pins++pl) σ H s):Inv X pins σ H s:=I.pins_of λp hp=>I.pin p (C6 _ (D6 _ hp))
theorem em0{body:List Stmt}{wi:TI}{g:TG}{tb:TS}{pos:Pos}(hp:PassesOwn (model X.prog X.w) X.A X.env X.xe)(hc:X.calm=true)(hi:PI X tg iter wi)(hg:PG X tg g)(hb:PSs X body tb)
  (hs:∀x,foldedSetIterable iter X.env x=pure x:=by intro _;rfl):PS X (.For tg iter body [] pos) (Uk0 wi g tb):=by
 intro pins s σ H D I h;refine wpAny_For (thn (hi pins s σ H _ I h) λv s1 h1=>thn h1 λa6 s2 h2=>?_) hs;obtain⟨it,fp,tn,J,H2,e,I2,T,a5,f2,W,⟨m0,w0⟩,a2⟩:=h2;subst e;have O:∀{H':Hp},(∀b∈fp,H' b=none)->∀b∈fp,wm0 X pins H' b:=λhn b hb=>⟨hn b hb,(f2 b hb).2⟩
 refine codeAny_forLoop_any (λn s'=>∃i σ' H',Inv X pins σ' H' s'/\tn i s'.heap/\(∀b∈fp,H' b=none)/\W i n σ' H') ?_ m0 ⟨0,σ,H2,I2,a5,λb hb=>(f2 b hb).1,w0⟩;rintro n s3 ⟨i,σ3,H3,I3,Z,a1,w3⟩;rcases a2 i n σ3 H3 w3 with⟨stop,qn⟩|⟨go,N,hN,step⟩
 ·refine E9 hp (thn (T.done X rfl rfl rfl hc i pins s3 σ3 H3 X.xe I3 (O a1) Z stop) λr s4 ⟨hr,I4⟩=>?_)
  subst hr;exact d6 ⟨σ3,H3,I4,qn⟩
 ·refine E9 hp (thn (T.item X rfl rfl rfl hc i pins s3 σ3 H3 X.xe I3 (O a1) Z go) λr s4 ⟨u,hr,h4⟩=>?_)
  subst hr;refine E9 hp (thn h4 λ_ s5 ⟨x,H5,I5,r5,y5,Y,a3⟩=>?_);have a4:=I5.pinned (O a3) (T.obj _ _ Y);refine E9 hp (thn (hg _ s5 σ3 H5 x u _ a4 r5 (step x H5 y5)) λ_ s6 ⟨σ6,H6,I6,q6⟩=>?_);refine E9 hp (thn (hb _ s6 σ6 H6 _ I6 q6) λf s7 q7=>?_);have again:∀{σ7:St} {H7:Hp},Inv X (pins++s30 fp s5.heap) σ7 H7 s7->N σ7 H7->∃m,m<n/\∃i σ' H',Inv X pins σ' H' s7/\tn i s7.heap/\(∀b∈fp,H' b=none)/\W i m σ' H':=λ{σ7 H7} I7 n7=>by
   obtain⟨m',hm,w7⟩:=hN σ7 H7 n7;refine⟨m',hm,i+1,σ7,H7,I7.unpinned,T.keep _ _ _ Y λb hb o e=>(I7.pin (b,o) (C6 _ (C6 _ (wb0 hb e)))).1,λb hb=>?_,w7⟩;obtain⟨o,e,d⟩:=T.obj _ _ Y b hb;exact(I7.pin (b,o) (C6 _ (C6 _ (wb0 hb e)))).2.1
  cases f with
  | next=>obtain⟨σ7,H7,I7,n7⟩:=q7;exact again I7 n7
  | cont=>obtain⟨σ7,H7,I7,n7⟩:=q7;exact again I7 n7
  | brk=>obtain⟨σ7,H7,I7,q7⟩:=q7;exact⟨σ7,H7,I7.unpinned,q7⟩
  | ret v=>obtain⟨x7,σ7,H7,I7,r7,q7⟩:=q7;exact⟨x7,σ7,H7,I7.unpinned,r7,q7⟩
abbrev R2:=V->V->Hp->VK->Prop
def OpR(X:Cx)(f:Value->Value->Sem Value)(r:R2):Prop :=
 ∀(pins:List (Addr×Obj)) (s:Shared) (σ:St) (H:Hp) (x y:V) (v u:Value) (Q:VK),Inv X pins σ H s->RelV x v->RelV y u->r x y H Q ->
  wpAny (model X.prog X.w) X.A (f v u) (EP X pins σ Q) X.xe s
def UnR(X:Cx)(f:Value->Sem Value)(r:V->Hp->VK->Prop):Prop :=
 ∀(pins:List (Addr×Obj)) (s:Shared) (σ:St) (H:Hp) (x:V) (v:Value) (Q:VK),Inv X pins σ H s->RelV x v->r x H Q ->
  wpAny (model X.prog X.w) X.A (f v) (EP X pins σ Q) X.xe s
def CallR(X:Cx)(f:Value)(r:List V->Hp->VK->Prop):Prop :=
 ∀(pins:List (Addr×Obj)) (s:Shared) (σ:St) (H:Hp) (xs:List V) (us:List Value) (Q:VK),Inv X pins σ H s->Vals xs us->r xs H Q ->
  wpAny (model X.prog X.w) X.A (call f us) (EP X pins σ Q) X.xe s
def tOp(r:R2)(ta tb:TE):TE:=fun σ H Q=>ta σ H λx H1=>tb σ H1 λy H2=>r x y H2 Q
def tUn(r:V->Hp->VK->Prop)(ta:TE):TE:=fun σ H Q=>ta σ H λx H1=>r x H1 Q
def rI(C:Int->Int->Prop)(g:Int->Int->V):R2:=λx y H Q=>∃i j,x=.int i/\y=.int j/\C i j/\Q (g i j) H
def rI0(g:Int->Int->V):R2:=λx y H Q=>∃i j,x=.int i/\y=.int j/\Q (g i j) H
def rU(g:Int->V):V->Hp->VK->Prop:=λx H Q=>∃i,x=.int i/\Q (g i) H
section
variable{a:Expr}{tc:TE}
theorem dr0(ha:PE X a ta)(hb:PE X b tb){s:Shared}{σ:St}{R:V->V->Hp->Prop}(I:Inv X pins σ H s)
  (h:ta σ H λx H1=>tb σ H1 λy H2=>R x y H2) {Q:Value->Shared->Prop} {f:Value->Value->Sem Value}
  (hf:∀v u s2 x y H2,Inv X pins σ H2 s2->RelV x v->RelV y u->R x y H2->wpAny (model X.prog X.w) X.A (f v u) Q X.xe s2) :
  wpAny (model X.prog X.w) X.A (eval a X.env) (λv s₁=>wpAny (model X.prog X.w) X.A (eval b X.env) (λu s₂=>wpAny (model X.prog X.w) X.A (f v u) Q X.xe s₂) X.xe s₁) X.xe s:=by
 refine thn (ha pins s σ H _ I h) λv s1 ⟨x,H1,I1,r1,q1⟩=>?_
 refine thn (hb pins s1 σ H1 _ I1 q1) λu s2 ⟨y,H2,I2,r2,q2⟩=>?_
 exact hf v u s2 x y H2 I2 r1 r2 q2
theorem bb0{op:Operator}{r:R2}(ho:OpR X (binaryOp op) r)(ha:PE X a ta)(hb:PE X b tb):PE X (.BinOp a op b pos) (tOp r ta tb):=by
 intro pins s σ H Q I h;exact wpAny_BinOp (dr0 ha hb I h λv u s2 x y H2 I2 rx ry q=>ho pins s2 σ H2 x y v u Q I2 rx ry q)
theorem U70{op:UnaryOp}{r:V->Hp->VK->Prop}(ho:UnR X (unaryOp op) r)(ha:PE X a ta):PE X (.UnaryOp op a pos) (tUn r ta):=by
 intro pins s σ H Q I h;exact UnaryOp_ (thn (ha pins s σ H _ I h) λv s1 ⟨x,H1,I1,r1,q1⟩=>ho pins s1 σ H1 x v Q I1 r1 q1)
theorem opI{f:Value->Value->Sem Value}{C:Int->Int->Prop}{g:Int->Int->Int}
  (rule:∀(i j:Int) (t u:Tok) (s:Shared) (Q:Value->Shared->Prop) (E:Value->Shared->Prop),C i j->Q (.int (g i j) s.toks) { s with toks:=s.toks+1 }->wpAny (model X.prog X.w) X.A (f (.int i t) (.int j u)) Q E s) :
  OpR X f (rI C λi j=>.int (g i j)):=by
 intro pins s σ H x y v u Q I rx ry h;obtain⟨i,j,rfl,rfl,hc,q⟩:=h;obtain⟨t,rfl⟩:=rx;obtain⟨t',rfl⟩:=ry;exact rule i j t t' s _ _ hc ⟨.int (g i j),H,I.tok _,⟨_,rfl⟩,q⟩
theorem Xm0{f:Value->Value->Sem Value}{g:Int->Int->Int}
  (rule:∀(i j:Int) (t u:Tok) (s:Shared) (Q:Value->Shared->Prop) (E:Value->Shared->Prop),Q (.int (g i j) s.toks) { s with toks:=s.toks+1 }->wpAny (model X.prog X.w) X.A (f (.int i t) (.int j u)) Q E s) :
  OpR X f (rI0 λi j=>.int (g i j)):=by
 intro pins s σ H x y v u Q I rx ry h;obtain⟨i,j,rfl,rfl,q⟩:=h;obtain⟨t,rfl⟩:=rx;obtain⟨t',rfl⟩:=ry;exact rule i j t t' s _ _ ⟨.int (g i j),H,I.tok _,⟨_,rfl⟩,q⟩
theorem gi0{f:Value->Value->Sem Value}{g:Int->Int->Bool}
  (rule:∀(i j:Int) (t u:Tok) (s:Shared) (Q:Value->Shared->Prop) (E:Value->Shared->Prop),Q (.bool (g i j)) s->wpAny (model X.prog X.w) X.A (f (.int i t) (.int j u)) Q E s) :
  OpR X f (rI0 λi j=>.bl (g i j)):=by
 intro pins s σ H x y v u Q I rx ry h;obtain⟨i,j,rfl,rfl,q⟩:=h;obtain⟨t,rfl⟩:=rx;obtain⟨t',rfl⟩:=ry;exact rule i j t t' s _ _ ⟨.bl (g i j),H,I,rfl,q⟩
def c70(i j:Int):Prop:=0<j/\j<1073741824
def dz0(i j:Int):Prop:=0<=j/\j<=1000000/\i.natAbs<2 ^ 64
def CMul(i j:Int):Prop:=(-(2 ^ 64)<i/\i<2 ^ 64)∨(-(2 ^ 64)<j/\j<2 ^ 64)
theorem CMul.ok{i j:Int}(h:CMul i j):IntMulOk i j:=by
 rcases h with⟨h1,h2⟩|⟨h1,h2⟩
 ·exact .of_left (intBits_le_64 h1 h2)
 ·exact .of_right (intBits_le_64 h1 h2)
theorem Xz0:OpR X (binaryOp .Add) (rI0 λi j=>.int (i+j)):=Xm0 λ_ _ _ _ _ _ _ q=>add_int q
theorem Yl0:OpR X (binaryOp .Sub) (rI0 λi j=>.int (i - j)):=Xm0 λ_ _ _ _ _ _ _ q=>sub_int q
theorem Wt0:OpR X (binaryOp .Mult) (rI CMul λi j=>.int (i*j)):=opI λ_ _ _ _ _ _ _ hc q=>mul_int q hc.ok
theorem Z10:OpR X (binaryOp .FloorDiv) (rI c70 λi j=>.int (i/j)):=opI λi j _ _ _ _ _ hc q=>by
 have h1:(0:Int)<j:=hc.1;have h2:j<1073741824:=hc.2;exact floordiv_int (by omega) (by rw[Int.fdiv_eq_ediv_of_nonneg i (by omega)];exact q) (.inl (PyProof.noPylong_small (by omega)))
theorem Yh0:OpR X (binaryOp .Mod) (rI (λ_ j=>0<j) λi j=>.int (i%j)):=opI λi j _ _ _ _ _ hc q=>by
 have h1:(0:Int)<j:=hc;exact mod_int' (by omega) (by rw[Int.fmod_eq_emod_of_nonneg i (by omega)];exact q)
theorem X30:OpR X (binaryOp .Pow) (rI dz0 λi j=>.int (i ^ j.toNat)):=opI λ_ _ _ _ _ _ _ hc q=>pow_int_small hc.1 hc.2.1 hc.2.2 q
theorem unI{f:Value->Sem Value}{g:Int->Int}
  (rule:∀(i:Int) (t:Tok) (s:Shared) (Q:Value->Shared->Prop) (E:Value->Shared->Prop),Q (.int (g i) s.toks) { s with toks:=s.toks+1 }->wpAny (model X.prog X.w) X.A (f (.int i t)) Q E s) :
  UnR X f (rU λi=>.int (g i)):=by
 intro pins s σ H x v Q I rx h;obtain⟨i,rfl,q⟩:=h;obtain⟨t,rfl⟩:=rx;exact rule i t s _ _ ⟨.int (g i),H,I.tok _,⟨_,rfl⟩,q⟩
theorem W90:UnR X (unaryOp .USub) (rU λi=>.int (-i)):=unI λ_ _ _ _ _ q=>neg_int q
end
def Wb0:V->V->Bool
 | .non,.non=>true|.non,.int _=>true|.int _,.non=>true|.non,.bl _=>true|.bl _,.non=>true|.non,.str _=>true|.str _,.non=>true
 | .int _,.int _=>true|.bl _,.bl _=>true|.str _,.str _=>true|.byt _,.byt _=>true
 | .int _,.str _=>true|.str _,.int _=>true|.bl _,.str _=>true|.str _,.bl _=>true
 | _,_=>false
def rEq:R2:=λx y H Q=>Wb0 x y=true/\Q (.bl (decide (x=y))) H
theorem Zi0{i j:Int}:decide (V.int i=V.int j)=(i==j):=by
 rw[Bool.eq_iff_iff];simp
theorem W10{i j:Bool}:decide (V.bl i=V.bl j)=(i==j):=by
 rw[Bool.eq_iff_iff];simp
theorem bs0{i j:Str}:decide (V.str i=V.str j)=(i==j):=by
 rw[Bool.eq_iff_iff];simp
theorem a70{i j:Array UInt8}:decide (V.byt i=V.byt j)=(i.toList==j.toList):=by
 rw[Bool.eq_iff_iff];cases i;cases j;simp
section
variable{a:Expr}{tc:TE}
theorem O2{σ:St}{s:Shared}{Q:VK}{k k':Bool}(I:Inv X pins σ H s)(q:Q (.bl k) H)(e:k=k'):EP X pins σ Q (.bool k') s:=by
 subst e;exact⟨.bl k,H,I,rfl,q⟩
theorem W6:OpR X (compareOp .Eq) rEq:=by
 intro pins s σ H x y v u Q I rx ry h;obtain⟨hs,q⟩:=h;cases x with
 | non =>
  cases rx;cases y with
  | non=>cases ry;exact PySem.EqNone.eq_none_none (O2 I q (by simp))
  | bl j=>cases ry;exact PySem.EqNone.eq_none_bool (O2 I q (by simp))
  | int j=>obtain⟨t',rfl⟩:=ry;exact PySem.EqNone.eq_none_int (O2 I q (by simp))
  | str j=>obtain⟨t',rfl⟩:=ry;exact PySem.EqNone.eq_none_str (O2 I q (by simp))
  | _=>exact absurd (show false=true from hs) B8
 | bl i =>
  cases rx;cases y with
  | non=>cases ry;exact PySem.EqNone.eq_bool_none (O2 I q (by simp))
  | bl j=>cases ry;exact eq_bool (O2 I q W10)
  | str j=>obtain⟨t',rfl⟩:=ry;exact PySem.EqMixed.eq_bool_str (O2 I q (by simp))
  | _=>exact absurd (show false=true from hs) B8
 | int i =>
  obtain⟨t,rfl⟩:=rx;cases y with
  | non=>cases ry;exact PySem.EqNone.eq_int_none (O2 I q (by simp))
  | int j=>obtain⟨t',rfl⟩:=ry;exact eq_int (O2 I q Zi0)
  | str j=>obtain⟨t',rfl⟩:=ry;exact PySem.EqMixed.eq_int_str (O2 I q (by simp))
  | _=>exact absurd (show false=true from hs) B8
 | str i =>
  obtain⟨t,rfl⟩:=rx;cases y with
  | non=>cases ry;exact PySem.EqNone.eq_str_none (O2 I q (by simp))
  | bl j=>cases ry;exact PySem.EqMixed.eq_str_bool (O2 I q (by simp))
  | int j=>obtain⟨t',rfl⟩:=ry;exact PySem.EqMixed.eq_str_int (O2 I q (by simp))
  | str j=>obtain⟨t',rfl⟩:=ry;exact eq_str (O2 I q bs0)
  | _=>exact absurd (show false=true from hs) B8
 | byt i =>
  obtain⟨t,rfl⟩:=rx;cases y with
  | byt j=>obtain⟨t',rfl⟩:=ry;exact W.eq_bytes (O2 I q a70)
  | _=>exact absurd (show false=true from hs) B8
 | _=>cases y<;>exact absurd (show false=true from hs) B8
theorem yx0:OpR X (compareOp .Lt) (rI0 λi j=>.bl (decide (i<j))):=gi0 λ_ _ _ _ _ _ _ q=>lt_int q
theorem V70:OpR X (compareOp .LtE) (rI0 λi j=>.bl (decide (i<=j))):=gi0 λ_ _ _ _ _ _ _ q=>le_int q
theorem mi0:OpR X (compareOp .Gt) (rI0 λi j=>.bl (decide (j<i))):=gi0 λ_ _ _ _ _ _ _ q=>gt_int q
theorem bg0:OpR X (compareOp .GtE) (rI0 λi j=>.bl (decide (j<=i))):=gi0 λ_ _ _ _ _ _ _ q=>ge_int q
theorem fd0:OpR X (compareOp .Is) (λx y H Q=>y=.non/\Q (.bl (decide (x=.non))) H):=by
 intro pins s σ H x y v u Q I rx ry h;obtain⟨rfl,q⟩:=h;cases ry;refine is_none_gen (O2 I q ?_);cases x<;>first
  | (cases rx;rfl)
  | (obtain⟨t,rfl⟩:=rx;rfl)
theorem OpR.or{f:Value->Value->Sem Value}{r r':R2}(h:OpR X f r)(h':OpR X f r'):OpR X f (λx y H Q=>r x y H Q∨r' x y H Q):=by
 intro pins s σ H x y v u Q I rx ry q;rcases q with q|q
 ·exact h pins s σ H x y v u Q I rx ry q
 ·exact h' pins s σ H x y v u Q I rx ry q
theorem eb0(b:Expr){op:CmpOp}(h:op≠.In:=by decide)(h2:op≠.NotIn:=by decide):behindInMarks op b=false:=by
 have e1:(op==CmpOp.In)=false:=by cases op<;>first|rfl|exact absurd rfl h
 have e2:(op==CmpOp.NotIn)=false:=by cases op<;>first|rfl|exact absurd rfl h2
 cases b<;>simp[behindInMarks,e1,e2]
theorem Y10{op:CmpOp}{r:R2}(ho:OpR X (compareOp op) r)(ha:PE X a ta)(hb:PE X b tb)(hm:behindInMarks op b=false):PE X (.Compare a [op] [b] pos) (tOp r ta tb):=by
 intro pins s σ H Q I h;exact wpAny_Compare1 (dr0 ha hb I h λv u s2 x y H2 I2 rx ry q=>ho pins s2 σ H2 x y v u Q I2 rx ry q) hm
def bi0(t:TE):TT:=fun σ H Q=>t σ H λx H'=>∃k,x=.bl k/\Q k H'
theorem Z30{op:CmpOp}{r:R2}(ho:OpR X (compareOp op) r)(ha:PE X a ta)(hb:PE X b tb)(hm:behindInMarks op b=false):PT X (.Compare a [op] [b] pos) (bi0 (tOp r ta tb)):=by
 intro pins s σ H Q I h;refine y4 (thn (ha pins s σ H _ I h) λv s1 ⟨x,H1,I1,r1,q1⟩=>thn (hb pins s1 σ H1 _ I1 q1) λu s2 ⟨y,H2,I2,r2,q2⟩ =>
  thn (ho pins s2 σ H2 x y v u _ I2 r1 r2 q2) λc s3 ⟨z,H3,I3,r3,k,e,q3⟩=>?_) hm
 subst e;cases r3;exact L0 ⟨H3,I3,q3⟩
def e80(r r':R2)(ta tb tc:TE):TE:=fun σ H Q=>ta σ H λx H1=>tb σ H1 λy H2=>r x y H2 λz H3=>∃k,z=.bl k /\
 (if k=true then tc σ H3 λw' H4=>r' y w' H4 Q else Q (.bl false) H3)
theorem dk0{op op':CmpOp}{r r':R2}(ho:OpR X (compareOp op) r)(ho':OpR X (compareOp op') r')(ha:PE X a ta)(hb:PE X b tb)(hc:PE X c tc)
  (hm:lastMarks [op,op'] [b,c]=false:=by with_unfolding_all rfl):PT X (.Compare a [op,op'] [b,c] pos) (bi0 (e80 r r' ta tb tc)):=by
 intro pins s σ H Q I h;refine isTrue_chain (thn (ha pins s σ H _ I h) λv s1 ⟨x,H1,I1,r1,q1⟩=>test_link (thn (hb pins s1 σ H1 _ I1 q1) λu s2 ⟨y,H2,I2,r2,q2⟩ =>
  thn (ho pins s2 σ H2 x y v u _ I2 r1 r2 q2) λd s3 ⟨z,H3,I3,r3,k,e,q3⟩=>?_)) hm
 subst e;cases r3;refine L0 ?_;cases k with
 | false =>
  obtain⟨k',e',q'⟩:=q3;cases e';exact ite_ff ⟨H3,I3,q'⟩
 | true =>
  refine ite_tt (test_last (thn (hc pins s3 σ H3 _ I3 q3) λw' s4 ⟨z',H4,I4,r4,q4⟩=>thn (ho' pins s4 σ H4 y z' u w' _ I4 r2 r4 q4) λd' s5 ⟨z2,H5,I5,r5,k2,e2,q5⟩=>?_));subst e2;cases r5;exact L0 ⟨H5,I5,q5⟩
theorem vz0:(sizeLine:Nat)<2 ^ 63:=by rw[sizeLine_eq];decide
theorem iy0:OpR X (binaryOp .Add) (λx y H Q=>∃i j,x=.str i/\y=.str j/\i.length+j.length<=sizeLine/\Q (.str (i++j)) H):=by
 intro pins s σ H x y v u Q I rx ry h;obtain⟨i,j,rfl,rfl,hz,q⟩:=h;obtain⟨t,rfl⟩:=rx;obtain⟨t',rfl⟩:=ry;exact add_str (λt' tk=>⟨.str (i++j),H,I.tok _,⟨_,rfl⟩,q⟩) hz
theorem vals1{x:V}(r:Vals [x] us):∃u,us=[u]/\RelV x u:=by
 cases r with
 | cons r1 r2=>cases r2;exact⟨_,rfl,r1⟩
theorem vals2{x y:V}(r:Vals [x,y] us):∃u w',us=[u,w']/\RelV x u/\RelV y w':=by
 cases r with
 | cons r1 r2 =>
  cases r2 with
  | cons r3 r4=>cases r4;exact⟨_,_,rfl,r1,r3⟩
theorem e90(hc:X.calm=true):CallR X (.builtin "max") (λxs H Q=>∃i j,xs=[.int i,.int j]/\Q (.int (if j > i then j else i)) H):=by
 intro pins s σ H xs us Q I r h;obtain⟨i,j,rfl,q⟩:=h;obtain⟨u,w',rfl,⟨t,rfl⟩,⟨t',rfl⟩⟩:=vals2 r;refine max_two_ints (I.ok.hd hc) λh' tk k=>⟨_,H,I.kept k,?_,q⟩
 by_cases hj:j > i
 ·rw[if_pos hj,if_pos hj];exact⟨_,rfl⟩
 ·rw[if_neg hj,if_neg hj];exact⟨_,rfl⟩
theorem qb0:CallR X (.builtin "ord") (λxs H Q=>∃x,xs=[.str x]/\x.length=1/\Q (.int (x.cps.getD 0 0:Nat)) H):=by
 intro pins s σ H xs us Q I r h;obtain⟨x,rfl,hz,q⟩:=h;obtain⟨u,rfl,t,rfl⟩:=vals1 r;exact ord_of_one hz ⟨.int _,H,I.tok _,⟨_,rfl⟩,q⟩
end
theorem RelO.some_of{o:Option Value}(r:RelO (some v) o):∃u,o=some u/\RelV v u:=by
 cases o with
 | none=>exact(show False from r).elim
 | some u=>exact⟨u,rfl,r⟩
structure Room(k:Nat)(A:Around):Prop where
 hd:A.handled=none
 dp:A.depth+3*k+5<recursionLimit
 un:A.units+16*k+200<cLine
theorem Room.mono{k:Nat}{A:Around}(r:Room k A)(h:j<=k):Room j A:=⟨r.hd,by have:=r.dp;omega,by have:=r.un;omega⟩
theorem Room.deeper{k:Nat}{A:Around}(r:Room (k+1) A)(env:Env):Room k (A.deeper env) :=
 ⟨r.hd,by have:=r.dp;show A.depth+1+3*k+5<_;omega,by have:=r.un;show A.units+3+16*k+200<_;omega⟩
theorem Room.depth{k:Nat}{A:Around}(r:Room k A):A.depth<recursionLimit:=by have:=r.dp;omega
theorem Room.units{k:Nat}{A:Around}(r:Room k A):A.units+64<cLine:=by have:=r.un;omega
def ij0:TA:=λ_ H Q=>Q [] H
def U60(ta:TE)(tr:TA):TA:=fun σ H Q=>ta σ H λx H1=>tr σ H1 λxs H2=>Q (x::xs) H2
section
variable{t:TA}
theorem J0:PA X [] ij0:=λ_ _ _ _ H Q I h=>N0 ⟨[],H,I,.nil,h⟩
theorem R5(ha:PE X e te)(hr:PA X es t)(hs:starEach (e::es) X.env=(false,eval e X.env)::starEach es X.env:=by rfl):PA X (e::es) (U60 te t):=by
 intro pos pins s σ H Q I h;rw[hs];show wpAny _ _ (spliced ((false,eval e X.env)::backTo pos (starEach es X.env))) _ _ s;refine N1 (thn (ha pins s σ H _ I h) λu s1 ⟨x,H1,I1,r1,q1⟩=>?_);exact thn (hr pos pins s1 σ H1 _ I1 q1) λus s2 ⟨xs,H2,I2,r2,q2⟩=>⟨x::xs,H2,I2,.cons r1 r2,q2⟩
def T00(t:TA):TE:=fun σ H Q=>t σ H λxs H1=>xs.length<=sizeLine/\∀p,H1 p=none->Q (.ref p) (upd H1 p (.tup xs))
def Uy0(t:TA):TE:=fun σ H Q=>t σ H λxs H1=>xs.length<=sizeLine/\∀p,H1 p=none->Q (.ref p) (upd H1 p (.lst xs))
theorem Xr0{x1}(h:PA X es t):PE X (.Tuple es x1 pos) (T00 t):=by
 intro pins s σ H Q I hq;refine wpAny_Tuple_spliced (thn (h pos pins s σ H _ I hq) λus s1 ⟨xs,H1,I1,r,z,q⟩=>⟨by rw[← r.length];exact z,?_⟩);have hf:H1 s1.heap.objs.size=none:=I1.hok.fresh (A1 _);refine⟨.ref s1.heap.objs.size,upd H1 s1.heap.objs.size (.tup xs),I1.laid (t':=s1.toks) (λb u e=>A6 _ e) (A1 _) ?_,rfl,q _ hf⟩;exact⟨z,us,r,⟨_,B7 _ rfl,rfl,_,rfl,rfl⟩⟩
theorem tt0(h:PA X es t):PE X (.List es pos) (Uy0 t):=by
 intro pins s σ H Q I hq;refine wpAny_List_spliced (thn (h pos pins s σ H _ I hq) λus s1 ⟨xs,H1,I1,r,z,q⟩=>⟨by rw[← r.length];exact z,?_⟩);have hf:H1 s1.heap.objs.size=none:=I1.hok.fresh (A1 _);refine⟨.ref s1.heap.objs.size,upd H1 s1.heap.objs.size (.lst xs),I1.laid (t':=s1.toks) (λb u e=>A6 _ e) (A1 _) ?_,rfl,q _ hf⟩;exact⟨z,us,0,r,B7 _ rfl⟩
end
abbrev Sp:=List V->Hp->VK->XK->Prop
abbrev CXT:=List Env->Hp->Shared->XK->Value->Shared->Prop
variable{sp:L2.Sp}
structure Env0(P:Program)(w:World)(K:W.Frag)(mg:Str->Option Value)(base:Heap)(A:Around)(outer:List Env)(s:Shared)(H:Hp):Prop where
 frames:A.frames=some outer
 mod:Mod K mg base
 bs:∀b o,base.get? b=some o->s.heap.get? b=some o/\H b=none
 bsz:base.objs.size<=s.heap.objs.size
 funs:s.heap.FunFrames base outer
 frf:∀b∈frs outer,H b=none
 hok:HOk P w H s.heap
 bare:AllBare s.gens
variable{CX:L2.CXT}
def CE(outer:List Env)(P:Program)(w:World)(H:Hp)(s:Shared)(Q:VK)(u:Value)(s':Shared):Prop :=
 ∃v H',s'.os=s.os/\AllBare s'.gens/\Un (frs outer) [] H H' s.heap s'.heap/\HOk P w H' s'.heap/\RelV v u/\Q v H'
def CR(CX:CXT)(outer:List Env)(P:Program)(w:World)(H:Hp)(s:Shared)(Q:VK)(E:XK)(r:Result)(s':Shared):Prop :=
 match r with
 | .ok (.ret u)=>CE outer P w H s Q u s'
 | .ok _=>False
 | .error e=>CX outer H s E e s'
structure FnOk(P:Program)(w:World)(K:W.Frag)(mg:Str->Option Value)(base:Heap)(CX:CXT)(k:Nat)(f:Addr)(fd:FuncData)(ps:List Str)(sp:Sp):Prop where
 len:∀vs H Q E,sp vs H Q E->vs.length=ps.length
 run:∀(A:Around) (outer:List Env) (s:Shared) (H:Hp) (args:Args) (us:List Value) (vs:List V) (Q:VK) (E:XK),Room k A->Env0 P w K mg base A outer s H->BindsTo s fd args (ps.zip us)->Vals vs us->sp vs H Q E ->
  codeAny (model P w) A (.call (.ref f) args) (CR CX outer P w H s Q E) s
section
variable{σ:St}{s:Shared}
theorem Inv.env0(I:Inv X pins σ H s):Env0 X.prog X.w X.K X.mg X.base X.A X.stack s H :=
 ⟨I.ok.frames,I.ok.mod,I.bs,C5 I.ok.bsz I.sz,I.stack,I.stkFree,I.hok,I.bare⟩
theorem Inv.after{Q:VK}(I:Inv X pins σ H s)(h:CE X.stack X.prog X.w H s Q u s'):EP X pins σ Q u s':=by
 obtain⟨v,H',os,bare,un,hok,r,q⟩:=h;obtain⟨hh,g,d,t,J⟩:=s';obtain rfl:J=s.os:=os;exact⟨v,H',I.call (h':=hh) (g':=g) (d':=d) (t':=t) (ch:=[]) un hok bare (λb z=>absurd z (by simp)),r,q⟩
end
def bf0(sp:Sp)(dvs:List V)(E:XK)(t:TA):TE:=fun σ H Q=>t σ H λvs H1=>sp (vs++dvs) H1 Q E
def Binds(K:W.Frag)(fd:FuncData)(ps:List Str)(ds:List Value):Prop :=
 ∀(s:Shared) (us:List Value),K.In s.heap->(us++ds).length=ps.length->BindsTo s fd ⟨us,[]⟩ (ps.zip (us++ds))
theorem Binds.all{ps:List Str}(h:∀us:List Value,us.length=ps.length->bindArgs fd ⟨us,[]⟩=pure (ps.zip us)):Binds K fd ps []:=λs us _ hl=>by
 rw[List.append_nil] at hl ⊢;exact .of_eq (h us hl)
def p40(CX:CXT)(X:Cx)(E:XK):Prop:=∀(pins:List (Addr×Obj)) (σ:St) (H:Hp) (s:Shared) (e:Value) (s':Shared),Inv X pins σ H s->CX X.stack H s E e s'->X.xe e s'
section
variable{k:Nat}{f C:Addr}{ps:List Str}{ds:List Value}{E:XK}{m:Str}{t:TA}
theorem fh0{pins:List (Addr×Obj)}{σ:St}{H:Hp}{s:Shared}{Q:VK}{us:List Value}{vs:List V}(F:FnOk X.prog X.w X.K X.mg X.base CX k f fd ps sp)(hr:Room k X.A)(hb:Binds X.K fd ps ds)(hd:Vals dvs ds)(hx:p40 CX X E)
  (I:Inv X pins σ H s) (r:Vals vs us) (h:sp (vs++dvs) H Q E):wpAny (model X.prog X.w) X.A (call (.ref f) us) (EP X pins σ Q) X.xe s:=by
 have r2:Vals (vs++dvs) (us++ds):=r.append hd;have hl:(us++ds).length=ps.length:=by rw[← r2.length];exact F.len _ _ _ _ h
 refine wpAny_call (N2 (F.run X.A X.stack s H ⟨us,[]⟩ (us++ds) (vs++dvs) Q E hr I.env0 (hb s us I.kIn hl) r2 h) λr s' hq=>?_);cases r with
 | error e=>exact hx pins σ H s e s' I hq
 | ok fl =>
  cases fl with
  | ret u=>exact I.after hq
  | next=>exact False.elim hq
  | brk=>exact False.elim hq
  | cont=>exact False.elim hq
theorem pq0(F:FnOk X.prog X.w X.K X.mg X.base CX k f fd ps sp)(hr:Room k X.A)(hg:Gl X x)(hm:X.mg x=some (.ref f))(hk:W.keepIn X.K (.ref f)=true)(hb:Binds X.K fd ps ds)(hd:Vals dvs ds)(hx:p40 CX X E)
  (ha:PA X (e::es) t) (hdb:(x==("__debug__" : Str))=false:=by decide) (he:starEach (e::es) X.env=(false,eval e X.env)::starEach es X.env:=by rfl) (hpl:(backTo pos (starEach es X.env)).any (·.1)=false:=by rfl) :
  PE X (.Call (.Name x p) (e::es) [] pos) (bf0 sp dvs E t):=by
 intro pins s σ H Q I h;refine D8 (u60 I hg hm ?_ hdb);refine i4 (h₀:=X.base) I.ok.mod.kin hk (thn (ha pos pins s σ H _ I h) λus s1 ⟨vs,H1,I1,r,q⟩=>⟨I1.kIn,?_⟩) he hpl;exact fh0 F hr hb hd hx I1 r q
end
structure FnScope(N P:List Str)(sc:Scope):Prop where
 kind:sc.kind=.function
 co:sc.isCoroutine=false
 gen:sc.isGenerator=false
 nd:N.Nodup
 pre:N.take P.length=P
 par:∀x∈P,sc.names.lookup x=some .local∨sc.names.lookup x=some .cell
 nofree:∀y∈sc.names,y.2≠.free
theorem ng0{kindOf:Str->Option NameKind}:∀{binds:List (Str×Value)} {m:Str->Option Value},(∀v,(x,v)∉binds)->bindL kindOf binds m x=m x
 | [],_,_=>rfl
 | (n,v)::r,m,h=>by
  unfold bindL;rw[ng0 λw hw=>h w (A7 _ hw)];split
  ·have:x≠n:=by rintro rfl;exact h v A9
   simp[this]
  ·rfl
theorem nk0{kindOf:Str->Option NameKind}:∀{binds:List (Str×Value)} {m:Str->Option Value},(∀v,(x,v)∉binds)->bindC kindOf binds m x=m x
 | [],_,_=>rfl
 | (n,v)::r,m,h=>by
  unfold bindC;rw[nk0 λw hw=>h w (A7 _ hw)];split
  ·rfl
  ·have:x≠n:=by rintro rfl;exact h v A9
   simp[this]
theorem nr0{kindOf:Str->Option NameKind}{v:Value}:∀{P:List Str} {vs:List Value} {i:Nat} {m:Str->Option Value},P.Nodup->P[i]?=some x->vs[i]?=some v->kindOf x=some .local ->
  bindL kindOf (P.zip vs) m x=some v
 | [],_,_,_,_,h,_,_=>by simp at h
 | _::_,[],_,_,_,_,h,_=>by simp at h
 | p::P,w::vs,0,m,nd,h1,h2,hk=>by
  simp at h1 h2;subst h1;subst h2;show bindL kindOf ((p,w)::P.zip vs) m p=_;unfold bindL;rw[ng0 λv hv=>(L3.mp nd).1 (N3 hv).1,if_pos hk];simp
 | p::P,w::vs,i+1,m,nd,h1,h2,hk=>by
  show bindL kindOf ((p,w)::P.zip vs) m x=_;unfold bindL;exact nr0 (i:=i) (L3.mp nd).2 (by simpa using h1) (by simpa using h2) hk
theorem n80{kindOf:Str->Option NameKind}{v:Value}:∀{P:List Str} {vs:List Value} {i:Nat} {m:Str->Option Value},P.Nodup->P[i]?=some x->vs[i]?=some v->kindOf x≠some .local ->
  bindC kindOf (P.zip vs) m x=some v
 | [],_,_,_,_,h,_,_=>by simp at h
 | _::_,[],_,_,_,_,h,_=>by simp at h
 | p::P,w::vs,0,m,nd,h1,h2,hk=>by
  simp at h1 h2;subst h1;subst h2;show bindC kindOf ((p,w)::P.zip vs) m p=_;unfold bindC;rw[nk0 λv hv=>(L3.mp nd).1 (N3 hv).1,if_neg hk];simp
 | p::P,w::vs,i+1,m,nd,h1,h2,hk=>by
  show bindC kindOf ((p,w)::P.zip vs) m x=_;unfold bindC;exact n80 (i:=i) (L3.mp nd).2 (by simpa using h1) (by simpa using h2) hk
def start(N:List Str)(vs:List V):St:=vs.map some++List.replicate (N.length - vs.length) none
def zv0(CX:CXT)(P:Program)(w:World)(K:W.Frag)(mg:Str->Option Value)(base:Heap)(N:List Str)(qual:Str)(scope:Scope)(f:Addr)(cd:Value)(A:Around)(outer:List Env)(s:Shared)(H:Hp)(E:XK):Cx where
 prog:=P
 w:=w
 K:=K
 mg:=mg
 base:=base
 A:=A.deeper (envOfC qual scope s.heap.objs.size f cd)
 N:=N
 s₀:=s
 H₀:=H
 env:=envOfC qual scope s.heap.objs.size f cd
 outer:=outer
 stack:=envOfC qual scope s.heap.objs.size f cd::outer
 ex:=[]
 calm:=true
 fn:=λ_=>true
 pn:=[]
 xe:=λe s'=>wpAny (model P w) (A.deeper (envOfC qual scope s.heap.objs.size f cd)) (leaving (envOfC qual scope s.heap.objs.size f cd) e) (λ_ s''=>CX outer H s E e s'') (λe' s''=>CX outer H s E e' s'') s'
theorem rp0(h:sc.names.lookup x=some .cell):∃c,(cellsFrom n sc.names []).lookup x=some c:=by
 have q:=i5 sc.names n [] (.inl h);exact Option.isSome_iff_exists.mp q
theorem oo0{CX:CXT}{P:Program}{w:World}{K:W.Frag}{mg:Str->Option Value}{base:Heap}{N ps:List Str}{qual:Str}{scope:Scope}{f:Addr}{cd:Value}{A:Around}{outer:List Env}{s s1:Shared}{H:Hp}{E:XK}{us:List Value}{vs:List V}
  (S:FnScope N ps scope) (hd:A.handled=none) (e0:Env0 P w K mg base A outer s H) (hl:vs.length=ps.length) (r:Vals vs us)
  (x:InCallC s s.heap.objs.size (bindL (envOfC qual scope s.heap.objs.size f cd).kindOf (ps.zip us) λ_=>none) (cellsFrom (s.heap.objs.size+1) scope.names []) (bindC (envOfC qual scope s.heap.objs.size f cd).kindOf (ps.zip us) λ_=>none) s1) :
  Inv (zv0 CX P w K mg base N qual scope f cd A outer s H E) [] (start N vs) H s1:=by
 have Y:ps.length<=N.length:=by have:=E3 List.length S.pre;rw[List.length_take] at this;omega
 obtain⟨h1,tk,rfl,hk⟩:=x.done;have J:∀b:Addr,b∉(zv0 CX P w K mg base N qual scope f cd A outer s H E).ex:=λb z=>absurd (show b∈([]:List Addr) from z) (by simp)
 refine⟨⟨e0.mod,S.kind,rfl,rfl,A1 _,λy z c h1 h2=>?_,λy hy=>?_,λy c _ h=>?_,λ_=>hd,Around.frames_deeper e0.frames,.inr ⟨rfl,rfl⟩,λb z=>absurd z (J b),e0.bs,e0.bsz,λb _ _=>J b,λb z=>absurd z (J b),e0.funs,e0.frf⟩,
  rfl,e0.bare,Un.kept hk,⟨_,x.toInCall.ns,λi y v h1 h2 h3=>?_⟩,λy c h=>⟨_,x.cell y c h⟩,e0.hok.fresh (A1 _),λy c h=>?_,λp hp=>absurd (show p∈([]:List (Addr×Obj)) from hp) (by simp),e0.hok.kept hk,?_⟩
 ·exact name_of_addr x.apart (D9 h1) (D9 h2)
 ·have hy:scope.names.lookup y=some .cell∨scope.names.lookup y=some .free:=hy
  rcases hy with hy|hy
  ·exact rp0 hy
  ·exact absurd rfl (S.nofree _ (D9 hy))
 ·exact E1 (x.above y c (D9 h))
 ·have hi:i<vs.length:=by
   unfold start at h2
   by_cases hi:i<vs.length
   ·exact hi
   ·rw[List.getElem?_append_right (by simpa using hi)] at h2
    rw[List.getElem?_replicate] at h2;split at h2<;>cases h2
  have ha:vs[i]?=some v:=by
   unfold start at h2;rw[List.getElem?_append_left (by simpa using hi),List.getElem?_map] at h2;cases e:vs[i]? with
   | none=>rw[e] at h2;cases h2
   | some a=>rw[e] at h2;cases h2;rfl
  obtain⟨u,hu,rv⟩:=r.get ha;have hp:ps[i]?=some y:=by
   rw[← S.pre,List.getElem?_take_of_lt (by omega)];exact h1
  have O:ps.Nodup:=by rw[← S.pre];exact S.nd.sublist (List.take_sublist _ _)
  refine⟨u,rv,?_⟩;rcases S.par y (D1 hp) with k|k
  ·exact .inl ⟨k,nr0 O hp hu k⟩
  ·obtain⟨c,e⟩:=rp0 (n:=s.heap.objs.size+1) k
   refine .inr ⟨.inl k,c,e,?_⟩;have q:=x.cell y c e;rw[n80 O hp hu (by show scope.names.lookup y≠_;rw[k];decide)] at q;exact q
 ·exact e0.hok.fresh (E1 (x.above y c (D9 h)))
 ·unfold start
  show _=N.length;rw[List.length_append,List.length_map,List.length_replicate];omega
theorem hf0{CX:CXT}{P:Program}{w:World}{K:W.Frag}{mg:Str->Option Value}{base:Heap}{k:Nat}{f:Addr}{name qual:Str}{params:Arguments}{body:List Stmt}{scope:Scope}{dV kV doc pm cdv ct oc:Value}{an od:Option Addr}
  {osl:Array (Option Value)} {N ps:List Str} {sp:Sp} (lk:K.lookup f=some ⟨oc,od,.func (W.fnOf name qual params body scope dV kV doc pm an cdv ct),osl⟩) (hcd:W.codeIn K cdv qual=true) (S:FnScope N ps scope)
  (len:∀vs H Q E,sp vs H Q E->vs.length=ps.length)
  (hbody:∀(A:Around) (outer:List Env) (s:Shared) (H:Hp) (vs:List V) (Q:VK) (E:XK),Room k (A.deeper (envOfC qual scope s.heap.objs.size f cdv))->sp vs H Q E ->
   ∃t,PSs (zv0 CX P w K mg base N qual scope f cdv A outer s H E) body t/\t { nx:=λ_ H'=>Q .non H',rt:=Q } (start N vs) H) :
  FnOk P w K mg base CX (k+1) f (W.fnOf name qual params body scope dV kV doc pm an cdv ct) ps sp:=by
 refine⟨len,λA outer s H a2 us vs Q E hr e0 hb r Z=>?_⟩;have hl:=len _ _ _ _ Z;have KX:K.In s.heap:=e0.mod.kin.keeps λb o e=>(e0.bs b o e).1
 have a1:s.heap.NoLimit:=e0.mod.nolimit.keeps λb o e=>(e0.bs b o e).1
 have O:∀y∈ps.zip us,scope.names.lookup y.1=some .local∨(scope.names.lookup y.1=some .cell/\((cellsFrom (s.heap.objs.size+1) scope.names []).lookup y.1).isSome=true):=λ⟨n,v⟩ hy=>by
  rcases S.par n (N3 hy).1 with q|q
  ·exact .inl q
  ·exact .inr ⟨q,i5 _ _ _ (.inl q)⟩
 refine codeAny_call_function hr.depth (KX _ _ lk) rfl S.co S.gen rfl (W.codeRec_of KX hcd) (hb _ _ _ _ ?_);refine A70 S.kind O λenv he s1 x=>?_
 subst he;refine⟨a1.keeps x.toInCall.keep,codeAny_func ?_⟩;obtain⟨t,ht,hq⟩:=hbody A outer s H vs Q E (hr.deeper _) Z;have I:Inv (zv0 CX P w K mg base N qual scope f cdv A outer s H E) [] (start N vs) H s1:=oo0 S hr.hd e0 hl r x;refine C9 (ht [] s1 (start N vs) H _ I hq) (λfl s' hs=>?_) λe s' hs=>hs
 have Y:∀{σ':St} {H':Hp} {v:V} {u:Value},Inv (zv0 CX P w K mg base N qual scope f cdv A outer s H E) [] σ' H' s'->RelV v u->Q v H'->CE outer P w H s Q u s' :=
  λ{σ' H' v u} J rv q=>⟨v,H',J.os,J.bare,J.base,J.hok,rv,q⟩
 cases fl with
 | ret u =>
  obtain⟨v,σ',H',J,rv,q⟩:=hs;exact Y J rv q
 | next =>
  obtain⟨σ',H',J,q⟩:=hs;exact Y (v:=V.non) (u:=Value.none) J rfl q
 | brk =>
  obtain⟨_,_,_,q⟩:=hs;exact False.elim q
 | cont =>
  obtain⟨_,_,_,q⟩:=hs;exact False.elim q
section
variable{t:TA}{id T:String}
def tCB(r:List V->Hp->VK->Prop)(t:TA):TE:=fun σ H Q=>t σ H λvs H1=>r vs H1 Q
theorem km0(hc:CallR X (.builtin id) r)(hg:Gl X x)(hm:X.mg x=none)(hv:bootBuiltins x=some (.builtin id))(ha:PA X (e::es) t)(hn:x ≠"__name__" := by decide)(hdb:(x==("__debug__" : Str))=false:=by decide)
  (he:starEach (e::es) X.env=(false,eval e X.env)::starEach es X.env:=by rfl) (hpl:(backTo pos (starEach es X.env)).any (·.1)=false:=by rfl):PE X (.Call (.Name x p) (e::es) [] pos) (tCB r t):=by
 intro pins s σ H Q I h;refine D8 (zi0 I hg hm hv ?_ hn hdb);exact PyProof.Rows.callWith_builtin1 (thn (ha pos pins s σ H _ I h) λus s1 ⟨vs,H1,I1,r1,q1⟩=>hc pins s1 σ H1 vs us Q I1 r1 q1) he hpl
theorem ty0(hc:CallR X (.type T) r)(hg:Gl X x)(hm:X.mg x=none)(hv:bootBuiltins x=some (.type T))(ha:PA X (e::es) t)(hn:x ≠"__name__" := by decide)(hdb:(x==("__debug__" : Str))=false:=by decide)
  (he:starEach (e::es) X.env=(false,eval e X.env)::starEach es X.env:=by rfl) (hpl:(backTo pos (starEach es X.env)).any (·.1)=false:=by rfl):PE X (.Call (.Name x p) (e::es) [] pos) (tCB r t):=by
 intro pins s σ H Q I h;refine D8 (zi0 I hg hm hv ?_ hn hdb);exact E4 (thn (ha pos pins s σ H _ I h) λus s1 ⟨vs,H1,I1,r1,q1⟩=>hc pins s1 σ H1 vs us Q I1 r1 q1) he hpl
end
end L2
variable{X:L2.Cx}{xs dvs:List L2.V}{H H' H1 H2 H₀:L2.Hp}{σ:List (Option L2.V)}{v:L2.V}{ta tb te ty:L2.TE}{r:List L2.V->L2.Hp->L2.VK->Prop}{CX:L2.CXT}{sp:L2.Sp}{ks:List L2.Key}{kvs:List (L2.Key×L2.V)}
namespace HT
open PyProof.Rows
section
variable{w:World}{A:Around}{s:Shared}
theorem Y30{t b:Addr}{vs ws:List Value}{Q:Value->Shared->Prop}(ht:IsTup s.heap t vs.toArray)(hb:IsTup s.heap b ws.toArray)(hv:vs≠[])
  (h1:ws=[]->Q (.ref t) s) (h2:ws≠[]->Q (.ref s.heap.objs.size) { s with heap:=s.heap.push { cls:=.type "tuple",data:=.seq (vs++ws).toArray } })
  (hsz:vs.length+ws.length<=sizeLine):wpAny (model prog w) A (binaryOp .Add (.ref t) (.ref b)) Q E s:=by
 obtain⟨⟨cls,dd,data,sl⟩,ho,hc,n,hd⟩:=id ht;obtain⟨⟨a2,Z,data2,a1⟩,J,Y,n2,O⟩:=id hb;simp only at hc hd Y O;subst hc hd Y O;have e:vs.toArray++ws.toArray=(vs++ws).toArray:=by simp
 by_cases hw:ws=[]
 ·exact S3 ⟨_,ho,rfl⟩ ⟨_,J,rfl⟩ i6 i7 i8 i9 (j2 _ _)
   (tuple_addW1 t b vs.toArray ws.toArray n n2 dd Z sl a1 (by simpa using hv) (by simp[hw])) ⟨ho,J,h1 hw⟩
 ·refine S3 ⟨_,ho,rfl⟩ ⟨_,J,rfl⟩ i6 i7 i8 i9 (j2 _ _)
   (tuple_addW2 t b vs.toArray ws.toArray n n2 dd Z sl a1 (by simpa using hv) (by simpa using hw) (by rw[List.size_toArray,List.size_toArray];exact hsz)) ⟨ho,J,?_⟩
  rw[e];exact h2 hw
def sIx(n d:Nat):Option Int->Nat
 | none=>d
 | some v=>if v<0 then (v+(n:Int)).toNat else min v.toNat n
theorem X70(n d:Nat)(hd:d<=n)(o:Option Int):sIx n d o<=n:=by
 cases o with
 | none=>exact hd
 | some v =>
  show (if v<0 then (v+(n:Int)).toNat else min v.toNat n)<=n
  by_cases hv:v<0
  ·rw[if_pos hv];omega
  ·rw[if_neg hv];exact A90 _ _
theorem jl0(v:Int)(n d:Nat):(if v<0 then max (v+(n:Int)) 0 else min v (n:Int))=((sIx n d (some v):Nat):Int):=by
 show (if v<0 then max (v+(n:Int)) 0 else min v (n:Int))=(((if v<0 then (v+(n:Int)).toNat else min v.toNat n):Nat):Int)
 by_cases hv:v<0
 ·simp only[if_pos hv];omega
 ·simp only[if_neg hv];omega
theorem gb0(lo hi:Option Int)(n:Nat):Builtin.Slice.sliceAdjust lo hi 1 (n:Int)=(((sIx n 0 lo:Nat):Int),((sIx n n hi:Nat):Int)):=by
 have h1:¬((1:Int)<0):=by omega
 unfold Builtin.Slice.sliceAdjust;simp only[h1,if_false];refine Prod.ext ?_ ?_
 ·cases lo with
  | none=>rfl
  | some v=>exact jl0 v n 0
 ·cases hi with
  | none=>rfl
  | some v=>exact jl0 v n n
theorem gf0(i j:Nat):Builtin.Slice.slicePlaces (i:Int) (j:Int) 1=j - i:=by
 unfold Builtin.Slice.slicePlaces;have h1:(1:Int) > 0:=by omega
 simp only[h1,if_true,Int.ediv_one];split<;>omega
theorem qv0{v:Value}{o:Option Int}{Q:Option Int->Shared->Prop}(p:IsPart v o)(h:Q o s):wpAny (model prog w) A (Builtin.Slice.slicePartIndex v) Q E s:=by
 cases p with
 | none=>exact slicePart_none h
 | int i t=>exact slicePart_int h
theorem wt0{sl:Addr}{hi:Option Int}{n:Nat}{Q:Int×Int×Nat->Shared->Prop}(hs:s.heap.IsSliceOf sl vl vu .none)(pl:IsPart vl lo)(pu:IsPart vu hi)
  (h:Q (((sIx n 0 lo:Nat):Int),1,sIx n n hi - sIx n 0 lo) s):wpAny (model prog w) A (Builtin.Slice.sliceApplied (.ref sl) (pure (n:Int))) Q E s:=by
 obtain⟨os,J,Y,O⟩:=id hs;unfold Builtin.Slice.sliceApplied Builtin.Slice.sliceFields;refine A0 (A0 (D2 J O (x:=vl) rfl (A0 (D2 J O (x:=vu) rfl (A0 (D2 J O (x:=.none) rfl (A2 ?_)))))));refine A0 (slicePart_none ?_);show wpAny _ _ (if ((1:Int)==0)=true then _ else _) _ _ s;rw[if_neg (by decide)];refine A0 (qv0 pl (A0 (qv0 pu (A0 (A2 ?_)))));show wpAny _ _ (match Builtin.Slice.sliceAdjust lo hi 1 (n:Int) with|(lo,hi)=>pure (lo,(1:Int),Builtin.Slice.slicePlaces lo hi 1)) _ _ s;rw[gb0 lo hi n];show wpAny _ _ (pure (((sIx n 0 lo:Nat):Int),(1:Int),Builtin.Slice.slicePlaces ((sIx n 0 lo:Nat):Int) ((sIx n n hi:Nat):Int) 1)) _ _ s;rw[gf0];exact A2 h
theorem cn0(xs:Array Value)(i k:Nat):((List.range k).filterMap λ(m:Nat)=>xs[((i:Int)+(m:Int)*1).toNat]?).toArray=((xs.toList.drop i).take k).toArray:=by
 have e:(λ(m:Nat)=>xs[((i:Int)+(m:Int)*1).toNat]?)=λm=>xs[i+m]?:=by
  funext m
  have:((i:Int)+(m:Int)*1).toNat=i+m:=by omega
  rw[this]
 rw[e];have:=pick_run xs i k;rw[List.filterMap_map] at this;have e2:((λx=>xs[x]?) ∘ λx=>i+x)=λm=>xs[i+m]?:=rfl
 rw[e2] at this;rw[this]
theorem sx0{t sl:Addr}{hi:Option Int}{Q:Value->Shared->Prop}(ht:IsTup s.heap t items)(hs:s.heap.IsSliceOf sl vl vu .none)(pl:IsPart vl lo)(pu:IsPart vu hi)
  (hw:¬(sIx items.size 0 lo=0/\sIx items.size items.size hi=items.size))
  (h:Q (.ref s.heap.objs.size) { s with heap:=s.heap.push { cls:=.type "tuple",data:=.seq ((items.toList.drop (sIx items.size 0 lo)).take (sIx items.size items.size hi - sIx items.size 0 lo)).toArray } })
  (hsz:items.size<=sizeLine):wpAny (model prog w) A (getItem (.ref t) (.ref sl)) Q E s:=by
 have J:sizeOk (.seq ((items.toList.drop (sIx items.size 0 lo)).take (sIx items.size items.size hi - sIx items.size 0 lo)).toArray):=by
  show ((items.toList.drop (sIx items.size 0 lo)).take (sIx items.size items.size hi - sIx items.size 0 lo)).toArray.size<=sizeLine;rw[List.size_toArray,List.length_take,List.length_drop,Array.length_toList];omega
 have hj:sIx items.size items.size hi<=items.size:=X70 _ _ (A1 _) hi;obtain⟨os,Z,a1,a2⟩:=id hs;have O:s.TypeIs (.ref sl) "slice" := ⟨os,Z,a1⟩;unfold getItem
 try with_reducible refine D7 ?_
 first|refine A0 (A2 ?_)|skip
 refine A0 (wpAny_sequenceKey ht.typeIs (by decide) ?_);refine A0 (S4 (name:=Str.ofString "__getitem__") ht.typeIs L4
  (U1 L4 ht.typeIs entry_tuple_getitem ?_ (args_tuple_getitem _ _)))
 show wpAny _ _ (Builtin.Tuple.tupleItemsOf (.ref t)>>=_) _ _ s;refine A0 (tupleItemsOf_ ht ?_);refine A0 (L5 O ?_);rw[if_pos (by decide)];refine A0 (wt0 hs pl pu ?_);have Y:¬((((sIx items.size 0 lo:Nat):Int)==0&&(1:Int)==1&&(sIx items.size items.size hi - sIx items.size 0 lo)==items.size)=true):=by
  intro q;rw[Bool.and_eq_true,Bool.and_eq_true] at q;have q1:((sIx items.size 0 lo:Nat):Int)=0:=eq_of_beq q.1.1;have q2:sIx items.size items.size hi - sIx items.size 0 lo=items.size:=eq_of_beq q.2;exact hw ⟨by omega,by omega⟩
 show wpAny _ _ (if (((sIx items.size 0 lo:Nat):Int)==0&&(1:Int)==1&&(sIx items.size items.size hi - sIx items.size 0 lo)==items.size)=true then _ else _) _ _ s;rw[if_neg Y,cn0]
 first
  | exact A0 (m:=Builtin.Tuple.tupleExact _) (E5 (A2 ⟨_,rfl,A2 h⟩) J)
  | exact A0 (m:=Builtin.Tuple.tupleExact _) (E5 (A0 (A2 (A2 ⟨_,rfl,A2 h⟩))) J)
  | exact A0 (A0 (m:=Builtin.Tuple.tupleExact _) (E5 (A2 (A2 ⟨_,rfl,A2 h⟩)) J))
  | exact A0 (A0 (m:=Builtin.Tuple.tupleExact _) (E5 (A2 ⟨_,rfl,A2 h⟩) J))
end
end HT
namespace L2
open Spec PyProof.Rows
abbrev TO:=St->Hp->(Option Int->Hp->Prop)->Prop
def PO(X:Cx)(e:Option Expr)(t:TO):Prop :=
 ∀(pins:List (Addr×Obj)) (s:Shared) (σ:St) (H:Hp) (Q:Option Int->Hp->Prop),Inv X pins σ H s->t σ H Q ->
  wpAny (model X.prog X.w) X.A (evalPart e X.env) (λu s'=>∃o H',Inv X pins σ H' s'/\IsPart u o/\Q o H') X.xe s
def bt0:TO:=λ_ H Q=>Q none H
def Vy0(t:TE):TO:=fun σ H Q=>t σ H λx H1=>∃i,x=.int i/\Q (some i) H1
section
variable{lo hi:Option Expr}{tl th:TO}
theorem Z90:PO X none bt0:=by
 intro pins s σ H Q I h;rw[evalPart_none];exact A2 ⟨none,H,I,.none,h⟩
theorem bv0(h:PE X e te):PO X (some e) (Vy0 te):=by
 intro pins s σ H Q I hw;rw[evalPart_some];refine thn (h pins s σ H _ I hw) λu s1 ⟨x,H1,I1,r1,q1⟩=>?_
 obtain⟨i,rfl,q⟩:=q1;obtain⟨t,rfl⟩:=r1;exact⟨some i,H1,I1,.int i t,q⟩
def SlR(X:Cx)(r:V->Option Int->Option Int->Hp->VK->Prop):Prop :=
 ∀(pins:List (Addr×Obj)) (s:Shared) (σ:St) (H:Hp) (x:V) (v vl vu:Value) (lo hi:Option Int) (sl:Addr) (Q:VK),Inv X pins σ H s->RelV x v->s.heap.IsSliceOf sl vl vu .none->IsPart vl lo->IsPart vu hi->r x lo hi H Q ->
  ∃T id,typeLookup (.type T) "__getitem__"=pure (some (.builtin id))/\s.TypeIs v T/\wpAny (model X.prog X.w) X.A (getItem v (.ref sl)) (EP X pins σ Q) X.xe s
theorem SlR.or{r r':V->Option Int->Option Int->Hp->VK->Prop}(h:SlR X r)(h':SlR X r'):SlR X (λx lo hi H Q=>r x lo hi H Q∨r' x lo hi H Q):=by
 intro pins s σ H x v vl vu lo hi sl Q I rx hs pl pu q;rcases q with q|q
 ·exact h pins s σ H x v vl vu lo hi sl Q I rx hs pl pu q
 ·exact h' pins s σ H x v vl vu lo hi sl Q I rx hs pl pu q
def tSl(r:V->Option Int->Option Int->Hp->VK->Prop)(te:TE)(tl th:TO):TE:=fun σ H Q=>te σ H λx H1=>tl σ H1 λl H2=>th σ H2 λu H3=>r x l u H3 Q
theorem di0{r:V->Option Int->Option Int->Hp->VK->Prop}(hr:SlR X r)(he:PE X e te)(hl:PO X lo tl)(hu:PO X hi th):PE X (.Subscript e (.Slice lo hi none p2) pos) (tSl r te tl th):=by
 intro pins s σ H Q I h;refine Subscript_ (thn (he pins s σ H _ I h) λv s1 ⟨x,H1,I1,r1,q1⟩=>?_);refine wpAny_Slice (thn (hl pins s1 σ H1 _ I1 q1) λvl s2 ⟨l,H2,I2,pl,q2⟩=>thn (hu pins s2 σ H2 _ I2 q2) λvu s3 ⟨u,H3,I3,pu,q3⟩=>?_);rw[evalPart_none];refine A2 ?_;have I4:Inv X pins σ H3 { s3 with heap:=s3.heap.push { cls:=.type "slice",data:=.fields #[vl,vu,.none] } }:=I3.kept (t':=s3.toks) λb ob q=>A6 _ q
 obtain⟨T,id,hT,ht,hg⟩:=hr pins { s3 with heap:=s3.heap.push { cls:=.type "slice",data:=.fields #[vl,vu,.none] } } σ H3 x v vl vu l u s3.heap.objs.size Q I4 r1 (Heap.IsSliceOf.new ..) pl pu q3;show wpAny (model X.prog X.w) X.A (subscriptTail e (.Slice lo hi none p2) v (.ref s3.heap.objs.size)) (EP X pins σ Q) X.xe { s3 with heap:=s3.heap.push { cls:=.type "slice",data:=.fields #[vl,vu,.none] } };exact tail_any (ops:=[.ref s3.heap.objs.size,v]) ht hT hg (by with_unfolding_all rfl)
def te0(xs:List V)(lo hi:Option Int):List V:=(xs.drop (HT.sIx xs.length 0 lo)).take (HT.sIx xs.length xs.length hi - HT.sIx xs.length 0 lo)
theorem re0(xs:List V)(lo hi:Option Int):(te0 xs lo hi).length<=xs.length:=by
 unfold te0;rw[List.length_take,List.length_drop];omega
def T90(K:W.Frag):V->Option Int->Option Int->Hp->VK->Prop:=λx lo hi H Q=>∃a xs,x=.ref a/\SqT K H a xs /\
 ¬(HT.sIx xs.length 0 lo=0/\HT.sIx xs.length xs.length hi=xs.length)/\∀p,H p=none->Q (.ref p) (upd H p (.tup (te0 xs lo hi)))
theorem Wu0:SlR X (T90 X.K):=by
 intro pins s σ H x v vl vu lo hi sl Q I rx hs pl pu h;obtain⟨a,xs,rfl,hx,hw,q⟩:=h;cases rx;obtain⟨its,r,ht,hz⟩:=I.tuple hx;have J:its.toArray.size=xs.length:=by rw[List.size_toArray];exact r.length.symm
 refine⟨"tuple",_,L4.lookup,ht.typeIs,?_⟩;refine HT.sx0 ht hs pl pu (by rw[J];exact hw) ?_ (by rw[J];exact hz);rw[J];refine⟨.ref s.heap.objs.size,_,I.laid (t':=s.toks) (o:=.tup (te0 xs lo hi)) (λb ob q=>A6 _ q) (A1 _) ?_,rfl,q _ (I.hok.fresh (A1 _))⟩;exact⟨C5 (re0 xs lo hi) hz,_,(r.drop (HT.sIx xs.length 0 lo)).take (HT.sIx xs.length xs.length hi - HT.sIx xs.length 0 lo),IsTupN.new _ _⟩
def bn0(K:W.Frag):R2:=λx y H Q=>∃a b xs ys,x=.ref a/\y=.ref b/\SqT K H a xs/\SqT K H b ys/\xs≠[]/\xs.length+ys.length<=sizeLine /\
 (ys=[]->Q (.ref a) H)/\(ys≠[]->∀p,H p=none->Q (.ref p) (upd H p (.tup (xs++ys))))
theorem Vals.nil_iff(r:Vals xs us):us=[]↔xs=[]:=by
 cases r with
 | nil=>simp
 | cons _ _=>simp
theorem an0:OpR X (binaryOp .Add) (bn0 X.K):=by
 intro pins s σ H x y v u Q I rx ry h;obtain⟨a,b,xs,ys,rfl,rfl,ha,hb,hx,hz,q1,q2⟩:=h;cases rx;cases ry;obtain⟨its,r1,p1,_⟩:=I.tuple ha;obtain⟨J,r2,p2,_⟩:=I.tuple hb;refine HT.Y30 p1 p2 (λz=>hx (r1.nil_iff.mp z)) (λz=>⟨.ref a,H,I,rfl,q1 (r2.nil_iff.mp z)⟩) (λz=>?_) (by rw[← r1.length,← r2.length];exact hz);refine⟨.ref s.heap.objs.size,_,I.laid (t':=s.toks) (o:=.tup (xs++ys)) (λb ob q=>A6 _ q) (A1 _) ?_,rfl,q2 (λw=>z (r2.nil_iff.mpr w)) _ (I.hok.fresh (A1 _))⟩;exact⟨by rw[List.length_append];exact hz,_,r1.append r2,IsTupN.new _ _⟩
end
def ixN(n:Nat)(i:Int):Option Nat:=if 0<=i then (if i<n then some i.toNat else none) else if -(n:Int)<=i then some (i+n).toNat else none
def atI{α:Type}(xs:List α)(i:Int):Option α:=(ixN xs.length i).bind λj=>xs[j]?
theorem Zc0{i:Int}(h:ixN n i=some j):seqIndex? i n=some j/\j<n/\-(n:Int)<=i/\i<n:=by
 unfold ixN at h
 by_cases h0:0<=i
 ·rw[if_pos h0] at h
  by_cases h1:i<n
  ·rw[if_pos h1] at h
   have e:i.toNat=j:=B3 h;exact⟨by rw[seqIndex_of h0 h1,e],by omega,by omega,h1⟩
  ·rw[if_neg h1] at h;cases h
 ·rw[if_neg h0] at h
  by_cases h1:-(n:Int)<=i
  ·rw[if_pos h1] at h
   have e:(i+n).toNat=j:=B3 h;exact⟨by rw[seqIndex_neg (by omega) h1,e],by omega,h1,by omega⟩
  ·rw[if_neg h1] at h;cases h
theorem pw0{xs:List α}{i:Int}{v:α}(h:atI xs i=some v):∃j,seqIndex? i xs.length=some j/\xs[j]?=some v/\j<xs.length/\-(xs.length:Int)<=i/\i<xs.length:=by
 unfold atI at h;cases e:ixN xs.length i with
 | none=>rw[e] at h;cases h
 | some j =>
  rw[e] at h;obtain⟨h1,h2,h3,h4⟩:=Zc0 e;exact⟨j,h1,h,h2,h3,h4⟩
def u80(b:Expr):Prop:=∀o i,subscripted b false o i=operate [o,i] (getItem o i)
def IxR(X:Cx)(r:R2):Prop :=
 ∀(value slice:Expr) (pins:List (Addr×Obj)) (s:Shared) (σ:St) (H:Hp) (x y:V) (v u:Value) (Q:VK),Inv X pins σ H s->RelV x v->RelV y u->r x y H Q ->
  subscripted slice false v u=operate [v,u] (getItem v u)->wpAny (model X.prog X.w) X.A (subscriptTail value slice v u) (EP X pins σ Q) X.xe s
def MtR(X:Cx)(id:String)(r:V->List V->Hp->VK->Prop):Prop :=
 ∀(pins:List (Addr×Obj)) (s:Shared) (σ:St) (H:Hp) (x:V) (xs:List V) (v:Value) (us:List Value) (Q:VK),Inv X pins σ H s->RelV x v->Vals xs us->r x xs H Q ->
  wpAny (model X.prog X.w) X.A (call (.builtin id) (v::us)) (EP X pins σ Q) X.xe s
section
variable{a:Expr}
theorem IxR.or{r r':R2}(h:IxR X r)(h':IxR X r'):IxR X (λx y H Q=>r x y H Q∨r' x y H Q):=by
 intro value slice pins s σ H x y v u Q I rx ry q hs;rcases q with q|q
 ·exact h value slice pins s σ H x y v u Q I rx ry q hs
 ·exact h' value slice pins s σ H x y v u Q I rx ry q hs
theorem me0{r:R2}(hr:IxR X r)(ha:PE X a ta)(hb:PE X b tb)(hs:u80 b):PE X (.Subscript a b pos) (tOp r ta tb):=by
 intro pins s σ H Q I h;exact Subscript_ (dr0 ha hb I h λv u s2 x y H2 I2 rx ry q=>hr a b pins s2 σ H2 x y v u Q I2 rx ry q (hs _ _))
def Yi0(K:W.Frag):R2:=λx y H Q=>∃p xs i v,x=.ref p/\y=.int i/\SqL K H p xs/\atI xs i=some v/\Q v H
def Yy0(K:W.Frag):R2:=λx y H Q=>∃p xs i v,x=.ref p/\y=.int i/\SqT K H p xs/\atI xs i=some v/\Q v H
def X20:R2:=λx y H Q=>∃z i c,x=.str z/\y=.int i/\z.length<=sizeLine/\atI z.cps.toList i=some c/\Q (.str ⟨#[c]⟩) H
theorem jn0:IxR X (Yi0 X.K):=by
 intro value slice pins s σ H x y v u Q I rx ry h hs;obtain⟨p,xs,i,z,rfl,rfl,hq,he,q⟩:=h;cases rx;obtain⟨t,rfl⟩:=ry;obtain⟨its,r,pl,hz⟩:=I.list hq;obtain⟨j,h1,h2,h3,h4,h5⟩:=pw0 he;obtain⟨w,ew,O⟩:=r.get h2;have hl:=r.length;have hn:=vz0;have J:EP X pins σ Q w s:=⟨z,H,I,O,q⟩
 by_cases h0:0<=i
 ·have hj:i.toNat=j:=by
   rw[seqIndex_of h0 h5] at h1;exact B3 h1
  exact item_listR pl.isList h0 (by omega) (by rw[hj];simpa using ew) J hs
 ·have hj:(i+(its.toArray.size:Int)).toNat=j:=by
   rw[seqIndex_neg (by omega) h4] at h1;rw[List.size_toArray,← hl];exact B3 h1
  exact subscriptTail_builtinR (x:=w) pl.isList.typeIs W1.lookup
   (wpAny_getItem_list_neg (Q:=λr s'=>r=w/\EP X pins σ Q r s') pl.isList (by omega) (by rw[List.size_toArray]<;>omega) (by omega) (by rw[hj];simpa using ew) ⟨rfl,J⟩) hs
theorem er0:IxR X (Yy0 X.K):=by
 intro value slice pins s σ H x y v u Q I rx ry h hs;obtain⟨p,xs,i,z,rfl,rfl,hq,he,q⟩:=h;cases rx;obtain⟨t,rfl⟩:=ry;obtain⟨its,r,pl,hz⟩:=I.tuple hq;obtain⟨j,h1,h2,h3,h4,h5⟩:=pw0 he;obtain⟨w,ew,O⟩:=r.get h2;have hl:=r.length;have hn:=vz0;have J:EP X pins σ Q w s:=⟨z,H,I,O,q⟩;exact subscriptTail_builtinR (x:=w) pl.typeIs slot_tuple_getitem.lookup
  (getItem_tuple (j:=j) (Q:=λr s'=>r=w/\EP X pins σ Q r s') pl (by omega) (by omega) (by rw[List.size_toArray,← hl];exact h1) (by simpa using ew) ⟨rfl,J⟩) hs
theorem X50:IxR X X20:=by
 intro value slice pins s σ H x y v u Q I rx ry h hs;obtain⟨z,i,c,rfl,rfl,hz,he,q⟩:=h;obtain⟨t,rfl⟩:=rx;obtain⟨t',rfl⟩:=ry;obtain⟨j,h1,h2,h3,h4,h5⟩:=pw0 he;have hl:z.cps.toList.length=z.length:=by simp[Str.length]
 rw[hl] at h1 h4 h5;have hn:=vz0;exact tail_any (L6 s z t) slot_str_getitem.lookup (getItem_str (c:=c) (by
  have e1:decide (i < -(2 ^ 63:Int))=false:=M2 (by omega);have e2:decide (i ≥ 2 ^ 63)=false:=M2 (by omega);rw[e1,e2,Bool.or_false]) (by rw[h1];simpa using h2) ⟨.str ⟨#[c]⟩,H,I.tok _,⟨_,rfl⟩,q⟩) hs
def rIx(K:W.Frag):R2:=λx y H Q=>Yi0 K x y H Q∨Yy0 K x y H Q∨X20 x y H Q
theorem gx0:IxR X (rIx X.K):=jn0.or (er0.or X50)
theorem ku0(lo hi:Option Int)(n:Nat):(sliceBounds lo hi none n).1=((HT.sIx n 0 lo:Nat):Int)/\(sliceBounds lo hi none n).2.1=((HT.sIx n n hi:Nat):Int)/\(sliceBounds lo hi none n).2.2=1:=by
 refine⟨?_,?_,rfl⟩
 ·cases lo with
  | none=>simp[sliceBounds,HT.sIx]
  | some i =>
   simp only[sliceBounds,HT.sIx,Option.getD_none,show (1:Int) > 0 by decide,if_true]
   by_cases h:i<0
   ·simp only[h,if_true]<;>omega
   ·simp only[h,if_false]<;>omega
 ·cases hi with
  | none=>simp[sliceBounds,HT.sIx]
  | some i =>
   simp only[sliceBounds,HT.sIx,Option.getD_none,show (1:Int) > 0 by decide,if_true]
   by_cases h:i<0
   ·simp only[h,if_true]<;>omega
   ·simp only[h,if_false]<;>omega
theorem ny0(its:List Value)(lo hi:Option Int):slicePick its.toArray lo hi none=((its.drop (HT.sIx its.length 0 lo)).take (HT.sIx its.length its.length hi - HT.sIx its.length 0 lo)).toArray:=by
 obtain⟨h1,h2,h3⟩:=ku0 lo hi its.toArray.size;unfold slicePick;rw[h1,h2,h3];simp only[sliceRange_one,pick_run,List.size_toArray]<;>rfl
def Uj0(K:W.Frag):V->Option Int->Option Int->Hp->VK->Prop:=λx lo hi H Q=>∃a xs,x=.ref a/\SqL K H a xs/\∀p,H p=none->Q (.ref p) (upd H p (.lst (te0 xs lo hi)))
theorem bp0:SlR X (Uj0 X.K):=by
 intro pins s σ H x v vl vu lo hi sl Q I rx hs pl pu h;obtain⟨a,xs,rfl,hx,q⟩:=h;cases rx;obtain⟨its,r,ht,hz⟩:=I.list hx;have J:=r.length;refine⟨"list",_,W1.lookup,ht.isList.typeIs,?_⟩;refine Aj0 ht.isList hs pl pu .none (by simp) ?_ (by rw[List.size_toArray]<;>omega);rw[ny0,← J];refine⟨.ref s.heap.objs.size,_,I.laid (t':=s.toks) (o:=.lst (te0 xs lo hi)) (λb ob q=>A6 _ q) (A1 _) ?_,rfl,q _ (I.hok.fresh (A1 _))⟩;exact⟨C5 (re0 xs lo hi) hz,_,0,(r.drop (HT.sIx xs.length 0 lo)).take (HT.sIx xs.length xs.length hi - HT.sIx xs.length 0 lo),B7 _ rfl⟩
def sj0:V->Bool
 | .non=>true
 | .bl _=>true
 | .int _=>true
 | .str _=>true
 | _=>false
def eqV:V->V->Bool
 | .non,.non=>true
 | .bl a,.bl b=>a==b
 | .bl a,.int b=>(if a then 1 else 0)==b
 | .int a,.bl b=>a==(if b then 1 else 0)
 | .int a,.int b=>a==b
 | .str a,.str b=>a==b
 | _,_=>false
theorem X10{A:Around}{s:Shared}{y x:V}{v:Value}(ry:RelV y u)(rx:RelV x v)(fy:sj0 y=true)(fx:sj0 x=true):SeqAt.EqAt A s u v (eqV y x):=by
 cases y with
 | non =>
  cases ry;cases x with
  | non=>cases rx;exact N4 _
  | bl b=>cases rx;exact k4 b
  | int b=>obtain⟨t,rfl⟩:=rx;exact k6 b t
  | str b=>obtain⟨t,rfl⟩:=rx;exact k8 b t
  | _=>exact absurd (show false=true from fx) B8
 | bl a =>
  cases ry;cases x with
  | non=>cases rx;exact k9 a
  | bl b=>cases rx;exact l0 a b
  | int b=>obtain⟨t,rfl⟩:=rx;exact l5 a b t
  | str b=>obtain⟨t,rfl⟩:=rx;exact l6 a b t
  | _=>exact absurd (show false=true from fx) B8
 | int a =>
  obtain⟨t',rfl⟩:=ry;cases x with
  | non=>cases rx;exact l8 a t'
  | bl b=>cases rx;exact l9 a t' b
  | int b=>obtain⟨t,rfl⟩:=rx;exact m3 a t' b t
  | str b=>obtain⟨t,rfl⟩:=rx;exact Q2 a t' b t
  | _=>exact absurd (show false=true from fx) B8
 | str a =>
  obtain⟨t',rfl⟩:=ry;cases x with
  | non=>cases rx;exact m4 a t'
  | bl b=>cases rx;exact n5 a t' b
  | int b=>obtain⟨t,rfl⟩:=rx;exact R1 a t' b t
  | str b=>obtain⟨t,rfl⟩:=rx;exact n9 a t' b t
  | _=>exact absurd (show false=true from fx) B8
 | _=>exact absurd (show false=true from fy) B8
def eqU(x:V)(u:Value):Bool:=match u with
 | .none=>eqV .non x
 | .bool b=>eqV (.bl b) x
 | .int i _=>eqV (.int i) x
 | .str z _=>eqV (.str z) x
 | _=>false
theorem Y70{x y:V}(r:RelV y u)(f:sj0 y=true):eqU x u=eqV y x:=by
 cases y with
 | non=>cases r;rfl
 | bl b=>cases r;rfl
 | int i=>obtain⟨t,rfl⟩:=r;rfl
 | str z=>obtain⟨t,rfl⟩:=r;rfl
 | _=>exact absurd (show false=true from f) B8
theorem q80{A:Around}{s:Shared}{x:V}{v:Value}(rx:RelV x v)(fx:sj0 x=true):∀{xs:List V} {us:List Value},Vals xs us->xs.all sj0=true->∀u∈us,SeqAt.EqAt A s u v (eqU x u)
 | _,_,.nil,_=>λu hu=>by cases hu
 | y::xs,u::us,.cons r t,f=>λu' hu=>by
  rw[List.all_cons,Bool.and_eq_true] at f;rcases B4.mp hu with rfl|hu
  ·rw[Y70 r f.1];exact X10 r rx f.1 fx
  ·exact q80 rx fx t f.2 u' hu
theorem lv0:CallR X (.builtin "len") (λxs H Q=>∃p ys,xs=[.ref p]/\(SqL X.K H p ys∨SqT X.K H p ys)/\Q (.int ys.length) H):=by
 intro pins s σ H xs us Q I r h;obtain⟨p,ys,rfl,hq,q⟩:=h;obtain⟨u,rfl,rx⟩:=vals1 r;cases rx;have hn:=vz0;rcases hq with hq|hq
 ·obtain⟨its,r',pl,hz⟩:=I.list hq
  have J:=r'.length;exact Calls.call_len_list pl.isList (by simp only[List.size_toArray]<;>omega) ⟨.int ys.length,H,I.tok _,⟨s.toks+1,by rw[List.size_toArray,J]⟩,q⟩
 ·obtain⟨its,r',pl,hz⟩:=I.tuple hq
  have J:=r'.length;exact len_tuple pl (by simp only[List.size_toArray]<;>omega) ⟨.int ys.length,H,I.tok _,⟨s.toks+1,by rw[List.size_toArray,J]⟩,q⟩
theorem lf0:CallR X (.builtin "len") (λxs H Q=>∃z,xs=[.str z]/\z.length<=sizeLine/\Q (.int z.length) H):=by
 intro pins s σ H xs us Q I r h;obtain⟨z,rfl,hz,q⟩:=h;obtain⟨u,rfl,t,rfl⟩:=vals1 r;have hn:=vz0;exact len_str (by omega) ⟨.int z.length,H,I.tok _,⟨_,rfl⟩,q⟩
theorem CallR.or{f:Value}{r':List V->Hp->VK->Prop}(h:CallR X f r)(h':CallR X f r'):CallR X f (λxs H Q=>r xs H Q∨r' xs H Q):=by
 intro pins s σ H xs us Q I rs q;rcases q with q|q
 ·exact h pins s σ H xs us Q I rs q
 ·exact h' pins s σ H xs us Q I rs q
theorem t50:CallR X (.type "list") (λxs H Q=>∃p ys,xs=[.ref p]/\(SqL X.K H p ys∨SqT X.K H p ys)/\∀l,H l=none->Q (.ref l) (upd H l (.lst ys))):=by
 intro pins s σ H xs us Q I r h;obtain⟨p,ys,rfl,hq,q⟩:=h;obtain⟨u,rfl,rx⟩:=vals1 r;cases rx;have J:∀(its:List Value),Vals ys its->ys.length<=sizeLine->∀(h':Heap) (c':Nat),(∀b o',s.heap.get? b=some o'->h'.get? b=some o') ->
   h'.get? s.heap.objs.size=some { cls:=.type "list",dict:=none,data:=.seq its.toArray c',slots:=#[] }->EP X pins σ Q (.ref s.heap.objs.size) { s with heap:=h' }:=λits r' hz h' c' kp e =>
  ⟨.ref s.heap.objs.size,_,I.laid (t':=s.toks) kp (A1 _) (show ObjOk X.prog X.w _ h' _ (.lst ys) from ⟨hz,its,c',r',e⟩),rfl,q _ (I.hok.fresh (A1 _))⟩
 rcases hq with hq|hq
 ·obtain⟨its,r',pl,hz⟩:=I.list hq
  have O:=r'.length;obtain⟨o,ho,hc,n,hd⟩:=pl.isList;exact call_list_seq p (.inl rfl) ho hc hd (λh' c' kp e=>J its r' hz h' c' kp e) (by simp only[List.size_toArray]<;>omega)
 ·obtain⟨its,r',pl,hz⟩:=I.tuple hq
  have O:=r'.length;obtain⟨o,ho,hc,n,hd⟩:=pl;exact call_list_seq p (.inr rfl) ho hc hd (λh' c' kp e=>J its r' hz h' c' kp e) (by simp only[List.size_toArray]<;>omega)
theorem W9:CallR X (.type "tuple") (λxs H Q=>∃p ys,xs=[.ref p]/\((SqL X.K H p ys/\∀l,H l=none->Q (.ref l) (upd H l (.tup ys)))∨(SqT X.K H p ys/\Q (.ref p) H))):=by
 intro pins s σ H xs us Q I r h;obtain⟨p,ys,rfl,h⟩:=h;obtain⟨u,rfl,rx⟩:=vals1 r;cases rx;rcases h with⟨hq,q⟩|⟨hq,q⟩
 ·obtain⟨its,r',pl,hz⟩:=I.list hq
  have J:=r'.length;refine call_tuple_list pl.isList (λh' kp=>?_) (by simp only[List.size_toArray]<;>omega);have I1:Inv X pins σ H { s with heap:=h' }:=I.kept (t':=s.toks) kp;have I2:Inv X pins σ (upd H h'.objs.size (.tup ys)) { s with heap:=h'.push { cls:=.type "tuple",data:=.seq its.toArray } } :=
   I1.laid (t':=s.toks) (λb o e=>A6 _ e) (A1 _) (show ObjOk X.prog X.w _ _ _ (.tup ys) from ⟨hz,its,r',IsTupN.new _ _⟩)
  exact⟨.ref h'.objs.size,_,I2,rfl,q _ (I1.hok.fresh (A1 _))⟩
 ·obtain⟨its,r',pl,hz⟩:=I.tuple hq
  exact call_tuple_same pl ⟨.ref p,H,I,rfl,q⟩
def tyV(K:W.Frag)(T:String)(x:V)(H:Hp):Prop:=match x with
 | .str _=>T = "str"
 | .int _=>T = "int"
 | .ref p=>(T = "list"/\∃xs,SqL K H p xs)∨(T = "tuple"/\∃o,K.lookup p=some o/\o.cls=.type "tuple"/\o.dict=none) ∨
   (T = "dict"/\((∃kvs,H p=some (.dK kvs))∨∃kvs,H p=some (.dT kvs)))∨(T = "set"/\∃S n,H p=some (.set S n))
 | _=>False
theorem f00{σ:St}{s:Shared}{T:String}{x:V}{v:Value}(I:Inv X pins σ H s)(r:RelV x v)(ty:tyV X.K T x H) :
  s.TypeIs v T/\∀a,v=.ref a->∃ob,s.heap.get? a=some ob/\ob.dict=none:=by
 cases x with
 | str z =>
  obtain⟨t,rfl⟩:=r;cases (show T = "str" from ty);exact⟨L6 s z t,λ_ e=>nomatch e⟩
 | int i =>
  obtain⟨t,rfl⟩:=r;cases (show T = "int" from ty);exact⟨N9 s i t,λ_ e=>nomatch e⟩
 | ref p =>
  cases r;rcases ty with⟨rfl,xs,hq⟩|⟨rfl,o,hk,hc,hd⟩|⟨rfl,hk⟩|⟨rfl,S,n,hk⟩
  ·obtain⟨its,_,pl,_⟩:=I.list hq
   refine⟨pl.isList.typeIs,λa e=>?_⟩;cases e;obtain⟨o,n,e,c,hd,_⟩:=pl;exact⟨o,e,hd⟩
  ·refine⟨⟨o,I.kIn p o hk,hc⟩,λa e=>?_⟩
   cases e;exact⟨o,I.kIn _ o hk,hd⟩
  ·have z:∃o,s.heap.get? p=some o/\o.ExactDict:=by
    rcases hk with⟨kvs,hk⟩|⟨kvs,hk⟩
    ·obtain⟨_,_,_,_,o,_,_,e,ex,_⟩:=I.hok p _ hk
     exact⟨o,e,ex⟩
    ·obtain⟨_,_,_,_,o,_,_,e,ex,_⟩:=I.hok p _ hk
     exact⟨o,e,ex⟩
   obtain⟨o,e,ex⟩:=z;refine⟨⟨o,e,ex.1⟩,λa e2=>?_⟩;cases e2;exact⟨o,e,ex.2.1⟩
  ·obtain⟨o,_,_,_,e,ex,_⟩:=I.hok p _ hk
   refine⟨⟨o,e,ex.1⟩,λa e2=>?_⟩;cases e2;exact⟨o,e,ex.2.1⟩
 | _=>exact False.elim ty
def Ur0(K:W.Frag)(T:String)(r:V->List V->Hp->VK->Prop)(to:TE):TE:=fun σ H Q=>to σ H λx H1=>tyV K T x H1/\r x [] H1 Q
def tBM(K:W.Frag)(T:String)(r:V->List V->Hp->VK->Prop)(to:TE)(t:TA):TE:=fun σ H Q=>to σ H λx H1=>tyV K T x H1/\t σ H1 λxs H2=>r x xs H2 Q
variable{to:TE}{t:TA}{T id:String}{r:V->List V->Hp->VK->Prop}
theorem Y80(pa:PlainAttrs T)(slot:Slot T name id)(hty:typeOf (.builtin id)=pure (.type "method_descriptor"))(hm:MtR X id r)(ho:PE X o to)
  (hbase:attributeBase o name X.env (eval o X.env)=eval o X.env:=by rfl) (hline:(apos.endLine==cpos.line)=true:=by rfl):PE X (.Call (.Attribute o name apos) [] [] cpos) (Ur0 X.K T r to):=by
 intro pins s σ H Q I h;refine wpAny_Call_method0_late hbase hline (thn (ho pins s σ H _ I h) λv s1 ⟨x,H1,I1,r1,ty,q1⟩=>?_);obtain⟨h1,h2⟩:=f00 I1 r1 ty;exact⟨T,id,pa,slot,hty,h1,h2,Al0 rfl (PySem.evalArgs_none (hm pins s1 σ H1 x [] v [] Q I1 r1 .nil q1))⟩
theorem ue0(pa:PlainAttrs T)(slot:Slot T name id)(hty:typeOf (.builtin id)=pure (.type "method_descriptor"))(hm:MtR X id r)(ho:PE X o to)(ha:PA X (e::es) t)
  (hbase:attributeBase o name X.env (eval o X.env)=eval o X.env:=by rfl)
  (hfew:((backTo cpos (starEach (e::es) X.env)).all (λx=>!x.1)&&(backToKw cpos (keywordEach [] X.env)).all (λx=>x.1.isSome)
  &&decide ((e::es).length+([]:List Keyword).length+(if ([]:List Keyword).isEmpty then 0 else 1)<30))=true:=by rfl)
  (hline:(apos.endLine==cpos.line)=true:=by rfl) (hs:starEach (e::es) X.env=(false,eval e X.env)::starEach es X.env:=by rfl) (hplain:(backTo cpos (starEach es X.env)).any (·.1)=false:=by rfl) :
  PE X (.Call (.Attribute o name apos) (e::es) [] cpos) (tBM X.K T r to t):=by
 intro pins s σ H Q I h;refine wpAny_Call_method_late hbase hfew hline rfl (thn (ho pins s σ H _ I h) λv s1 ⟨x,H1,I1,r1,ty,q1⟩=>?_);obtain⟨h1,h2⟩:=f00 I1 r1 ty;refine⟨T,id,pa,slot,hty,h1,h2,?_⟩;have hA:=ha cpos pins s1 σ H1 _ I1 q1;rw[hs] at hA ⊢;refine Al0 (by show (false||(backTo cpos (starEach es X.env)).any (·.1))=false;rw[hplain]<;>rfl) (Calls.evalArgs_plain ?_);exact thn hA λus s2 ⟨vs,H2,I2,r2,q2⟩=>hm pins s2 σ H2 x vs v us Q I2 r1 r2 q2
end
def MtM(X:Cx)(id:String)(r:V->List V->Hp->VK->Prop):Prop :=
 ∀(pins:List (Addr×Obj)) (s:Shared) (σ:St) (H:Hp) (x:V) (xs:List V) (v:Value) (us:List Value) (Q:VK),Inv X pins σ H s->RelV x v->Vals xs us->r x xs H Q ->
  wpAny (model X.prog X.w) X.A (call (.builtin id) (v::us)) (EP X pins σ Q) X.xe s
theorem Vals.one:∀{x:V} {us:List Value},Vals [x] us->∃u,us=[u]/\RelV x u
 | _,_,.cons r .nil=>⟨_,rfl,r⟩
theorem Vals.two:∀{x y:V} {us:List Value},Vals [x,y] us->∃u v,us=[u,v]/\RelV x u/\RelV y v
 | _,_,_,.cons r (.cons q .nil)=>⟨_,_,rfl,r,q⟩
theorem Vals.zero:∀{us:List Value},Vals [] us->us=[]
 | _,.nil=>rfl
theorem Vals.dropLast(h:Vals xs us):Vals xs.dropLast us.dropLast:=by
 induction h with
 | nil=>exact .nil
 | cons r t ih =>
  cases t with
  | nil=>exact .nil
  | cons q t'=>exact .cons r ih
theorem Vals.reverse(h:Vals xs us):Vals xs.reverse us.reverse:=by
 induction h with
 | nil=>exact .nil
 | cons r t ih=>rw[List.reverse_cons,List.reverse_cons];exact Vals.append ih (.cons r .nil)
theorem Vals.rep(h:Vals xs us):∀k:Nat,Vals (List.replicate k xs).flatten (List.replicate k us).flatten
 | 0=>.nil
 | k+1=>by
  rw[List.replicate_succ,List.replicate_succ,List.flatten_cons,List.flatten_cons];exact Vals.append h (Vals.rep h k)
theorem g00(l:List α):l.eraseIdx (l.length - 1)=l.dropLast:=by
 induction l with
 | nil=>rfl
 | cons a r ih =>
  cases r with
  | nil=>rfl
  | cons b r =>
   have e:(a::b::r).length - 1=((b::r).length - 1)+1:=by
    have h1:(a::b::r).length=r.length+2:=rfl;have h2:(b::r).length=r.length+1:=rfl;omega
   rw[e,List.eraseIdx_cons_succ,ih]
   all_goals rfl
theorem foldl_rep(its:List Value):∀(k:Nat) (acc:List Value),
  List.foldl (λx1 x2=>x1++x2) acc.toArray (List.replicate k its.toArray)=(acc++(List.replicate k its).flatten).toArray
 | 0,acc=>by simp
 | k+1,acc=>by
  have e:acc.toArray++its.toArray=(acc++its).toArray:=by simp
  have e2:(acc++its)++(List.replicate k its).flatten=acc++(List.replicate (k+1) its).flatten:=by
   rw[List.replicate_succ,List.flatten_cons,List.append_assoc]
  rw[← e2,← foldl_rep its k (acc++its),← e,List.replicate_succ,List.foldl_cons]
section
variable{σ:St}{s:Shared}{l b:Addr}{ys zs:List V}
theorem Inv.lset{its its':List Value}{n:Nat}{f:Array Value->Array Value}{t':Nat}(I:Inv X pins σ H s)(hH:H l=some (.lst xs))
  (e:s.heap.get? l=some { cls:=.type "list",data:=.seq its.toArray n }) (hf:f its.toArray=its'.toArray) (hv:Vals ys its') (hz:ys.length<=sizeLine) :
  Inv X pins σ (upd H l (.lst ys)) { s with heap:=s.heap.update l (Obj.mapSeq f),toks:=t' }:=by
 have q:=PySem.IsL.update e f;rw[hf] at q;refine I.write (x:=l) (e:=l) (by rw[hH];exact trivial) (.inl rfl) (λb' u hb hu=>(G0 s.heap (Obj.mapSeq f) (A4 hb)).trans hu) ⟨_,q⟩ ?_;exact⟨hz,its',_,hv,q⟩
theorem Inv.lnew{its:List Value}{t':Nat}(I:Inv X pins σ H s)(hv:Vals ys its)(hz:ys.length<=sizeLine) :
  Inv X pins σ (upd H s.heap.objs.size (.lst ys)) { s with heap:=s.heap.push { cls:=.type "list",data:=.seq its.toArray },toks:=t' } :=
 I.laid (λ_ _ q=>A6 _ q) (A1 _) ⟨hz,its,0,hv,B7 _ rfl⟩
theorem Inv.fresh(I:Inv X pins σ H s):H s.heap.objs.size=none:=I.hok.fresh (A1 _)
theorem Inv.lstM(I:Inv X pins σ H s)(hH:H l=some (.lst xs)):xs.length<=sizeLine/\∃(its:List Value) (n:Nat),Vals xs its/\xs.length=its.length/\s.heap.get? l=some { cls:=.type "list",data:=.seq its.toArray n }:=by
 obtain⟨z,its,n,r,e⟩:=I.hok l _ hH;exact⟨z,its,n,r,r.length,e⟩
theorem dx0(h:n<=sizeLine):Builtin.List.listTooLong n=false:=by
 unfold Builtin.List.listTooLong;exact M2 (by omega)
end
def bx0:V->List V->Hp->VK->Prop:=λx vs H Q=>∃l xs y,x=.ref l/\vs=[y]/\H l=some (.lst xs)/\xs.length<sizeLine/\Q .non (upd H l (.lst (xs++[y])))
theorem tn0:MtM X "list.append" bx0:=by
 intro pins s σ H x vs v us Q I rx rv h;obtain⟨l,xs,y,rfl,rfl,hH,hz,q⟩:=h;cases rx;obtain⟨u,rfl,ru⟩:=rv.one;obtain⟨z,its,n,r,hl,e⟩:=I.lstM hH;refine E6 F.slot_list_append ⟨_,e,rfl⟩ F.entry_list_append (F.args_list_append_2 _ _) (PySem.list_append l its.toArray n u (by rw[List.size_toArray];omega)) ⟨e,?_⟩;refine⟨.non,_,I.lset (its':=its++[u]) hH e (by simp) (r.append (.cons ru .nil)) ?_,rfl,q⟩;rw[List.length_append,List.length_singleton];omega
def T50:V->List V->Hp->VK->Prop:=λx vs H Q=>∃l xs y,x=.ref l/\vs=[]/\H l=some (.lst xs)/\xs[xs.length - 1]?=some y/\Q y (upd H l (.lst xs.dropLast))
theorem Xb0:MtM X "list.pop" T50:=by
 intro pins s σ H x vs v us Q I rx rv h;obtain⟨l,xs,y,rfl,rfl,hH,hy,q⟩:=h;cases rx;have O:=rv.zero;subst O;obtain⟨z,its,n,r,hl,e⟩:=I.lstM hH;obtain⟨u,hu,ru⟩:=r.get hy;have J:its.toArray[its.toArray.size - 1]?=some u:=by
  show its.toArray[its.length - 1]?=some u;rw[← Array.getElem?_toList,← hl];exact hu
 refine E6 F.slot_list_pop ⟨_,e,rfl⟩ F.entry_list_pop (F.args_list_pop_1 _) (MeetsSeq.list_pop_last l its.toArray n u J (by rw[List.size_toArray];omega)) ⟨e,?_⟩;refine⟨y,_,I.lset (its':=its.dropLast) hH e ?_ r.dropLast ?_,ru,q⟩
 ·show its.toArray.eraseIdxIfInBounds (its.toArray.size - 1)=its.dropLast.toArray
  rw[List.size_toArray,List.eraseIdxIfInBounds_toArray,g00]
 ·rw[List.length_dropLast]
  omega
theorem len_rep(xs:List α)(k:Nat):(List.replicate k xs).flatten.length=k*xs.length:=by
 induction k with
 | zero=>simp
 | succ k ih=>rw[List.replicate_succ,List.flatten_cons,List.length_append,ih,Nat.succ_mul,Nat.add_comm]
end L2
namespace Att
open PySem.W PySem.Calls PyProof.Rows
theorem p50{P:Params}{h:Heap}:∀(ns:List Int) (vs:List Value),WellAll P h vs (ns.map WData.int)->IntsAre vs ns:=by
 intro ns
 induction ns with
 | nil =>
  intro vs w;rw[List.map_nil] at w;cases w;exact .nil
 | cons n ns ih =>
  intro vs w;rw[List.map_cons] at w;cases w with
  | cons a b =>
   cases a;exact .cons _ _ (ih _ b)
theorem fm0{l:OpenLaw}(hn:l.most=some n){P:Params}{h:Heap}{args:List WData}{vals:List Value}
  (hpre:l.row.toRowW.claim.pre args=true) (hwl:WellAll P h vals args) :
  ∃a vs ns,vals=[Value.ref a]/\args=[WData.list (ns.map WData.int)]/\h.get? a=some { cls:=.type "list",data:=.seq vs.toArray }/\IntsAre vs ns/\ns.length<=n:=by
 have O:WShape.hasAll [] args [.list .int]=true:=(pre_splitW hpre).1;have hc:l.pre.holds [] { args:=args }=true:=(pre_splitW hpre).2;obtain⟨d,r,rfl,h1,h2⟩:=hasAllW_cons O;obtain rfl:=hasAllW_nil h2;obtain⟨xs,rfl,h3⟩:=hasW_list h1;obtain⟨ns,rfl⟩:=items_int h3;have J:ns.length<=n:=by
  unfold OpenLaw.pre at hc;have h4:(WTm.not (.lt (.lit (.int (n:Int))) (.len (.arg 0)))).holds [] { args:=[.list (ns.map .int)] }=true:=by
   have h4:=(holds_andW hc).1;rw[hn] at h4;exact h4
  have h5:=condW_of h4 (w_not (w_lt w_lit (w_len_list (w_arg rfl))));rw[List.length_map] at h5;refine Nat.le_of_not_lt λq=>?_
  have q':(n:Int)<((ns.length:Nat):Int):=by omega
  first
   | (rw[decide_eq_true q'] at h5;exact absurd h5 (by decide))
   | (simp at h5;omega)
 cases hwl with
 | cons w1 w2 =>
  cases w2;cases w1 with
  | list ho hall=>exact⟨_,_,ns,rfl,rfl,ho,p50 ns _ hall,J⟩
theorem e60(l:OpenLaw)(args:List WData):l.row.toRowW.claim.post args (.bool true) args=true :=
 postW_of (r:=l.row.toRowW) (X:=(true==true))
  (show WShape.has [] (.bool true) .bool=true by first|rfl|decide|simp[WShape.has,WShape.arms,WShape.armsAll])
  (show (WTm.eq .res (.lit (.bool true))).value [] { args:=args,res:=some (.bool true),after:=args }=some (.bool (true==true)) from w_eq_bool (w_res rfl) w_lit) rfl
end Att
namespace L2
open Spec PyProof.Rows
theorem oz0:∀{vs:List Value} {ns:List Int},IntsAre vs ns->Vals (ns.map V.int) vs
 | _,_,.nil=>.nil
 | _,_,.cons n t h=>.cons ⟨t,rfl⟩ (oz0 h)
def V2(s:Stmt):Arguments:=match s with
 | .FunctionDef _ a _ _ _ _ _ _ _ _=>a
 | _=>{ posonlyargs:=[],args:=[],vararg:=none,kwonlyargs:=[],kw_defaults:=[],kwarg:=none,defaults:=[] }
def Z4(s:Stmt):List Stmt:=match s with
 | .FunctionDef _ _ b _ _ _ _ _ _ _=>b
 | _=>[]
def u6(s:Stmt):Scope:=match s with
 | .FunctionDef _ _ _ _ _ _ sc _ _ _=>sc
 | _=>{ kind:=.function,names:=[],isGenerator:=false,isCoroutine:=false }
abbrev CX0:CXT:=λ_ _ _ _ _ _=>False
abbrev E0:XK:=λ_ _ _=>False
theorem mf0:p40 CX0 X E0:=λ_ _ _ _ _ _ _ h=>h.elim
structure Fun(K:W.Frag)(x qual:Str)(st:Stmt)(f:Addr)(fd:FuncData):Prop where
 ex:∃(oc:Value) (od:Option Addr) (kV doc pm:Value) (an:Option Addr) (cdv ct:Value) (osl:Array (Option Value)),
  fd=W.fnOf x qual (V2 st) (Z4 st) (u6 st) .none kV doc pm an cdv ct/\K.lookup f=some ⟨oc,od,.func fd,osl⟩/\W.codeIn K cdv qual=true
 kp:W.keepIn K (.ref f)=true
section
variable{P:Program}{w:World}
theorem Fun.ok{f:Addr}{ps:List Str}{k:Nat}(F:Fun K x qual st f fd)(S:FnScope N ps (u6 st))(len:∀vs H Q E,sp vs H Q E->vs.length=ps.length)
  (hbody:∀(cdv:Value) (A:Around) (outer:List Env) (s:Shared) (H:Hp) (vs:List V) (Q:VK) (E:XK),Room k (A.deeper (envOfC qual (u6 st) s.heap.objs.size f cdv))->sp vs H Q E ->
   ∃t,PSs (zv0 CX0 P w K mg base N qual (u6 st) f cdv A outer s H E).nox (Z4 st) t/\t { nx:=λ_ H'=>Q .non H',rt:=Q } (start N vs) H):FnOk P w K mg base CX0 (k+1) f fd ps sp:=by
 obtain⟨oc,od,kV,doc,pm,an,cdv,ct,osl,rfl,lk,hcd⟩:=F.ex;refine hf0 lk hcd S len λA outer s H vs Q E hr J=>?_
 obtain⟨t,h,q⟩:=hbody cdv A outer s H vs Q E hr J;exact⟨t,h.nox,q⟩
theorem Fun.binds{f:Addr}{ps:List Str}(F:Fun K x qual st f fd)
  (h:∀(kV doc pm:Value) (an:Option Addr) (cdv ct:Value) (us:List Value),us.length=ps.length->bindArgs (W.fnOf x qual (V2 st) (Z4 st) (u6 st) .none kV doc pm an cdv ct) ⟨us,[]⟩=pure (ps.zip us)):Binds K fd ps []:=by
 obtain⟨oc,od,kV,doc,pm,an,cdv,ct,osl,rfl,lk,hcd⟩:=F.ex;exact .all (h kV doc pm an cdv ct)
theorem mz0{f:Addr}{kV:Value}(l:K.lookup f=some ⟨oc,od,.func (W.fnOf x qual (V2 st) (Z4 st) (u6 st) .none kV doc pm an cdv ct),osl⟩)
  (c:W.codeIn K cdv qual=true) (k:W.keepIn K (.ref f)=true):Fun K x qual st f (W.fnOf x qual (V2 st) (Z4 st) (u6 st) .none kV doc pm an cdv ct):=⟨⟨oc,od,kV,doc,pm,an,cdv,ct,osl,rfl,l,c⟩,k⟩
end
theorem wa0{A:Around}{k:Nat}(hr:Room k A):A.units+1<cLine:=L7 (Nat.add_le_add_left (by decide:1<=64) _) hr.units
def Same(H H':Hp):Prop:=∀b o,H b=some o->H' b=some o
theorem Same.refl(H:Hp):Same H H:=λ_ _ h=>h
theorem Same.trans(a:Same H H1)(b:Same H1 H2):Same H H2:=λc o h=>b c o (a c o h)
theorem Same.free(e:Same H H'){l:Addr}(h:H' l=Option.none):H l=Option.none:=by
 cases q:H l with
 | none=>rfl
 | some o =>
  rw[e l o q] at h;cases h
def Its(x:Str):It:=⟨λi _=>i<x.cps.size,λi H v H'=>H'=H/\∃c,x.cps[i]?=some c/\v=.str ⟨#[c]⟩,λi _=>x.cps.size<=i⟩
theorem kx0{P:Program}{w:World}{K:W.Frag}{tg:Expr}(it:Addr)(T:String)(hT:T = "str_ascii_iterator"∨T = "str_iterator")(x:Str)(t:Tok) :
  Turn P w K tg (Its x) [it] it (λi h=>h.IsStrIter it T x t i) where
 mem:=by simp
 obj:=λi h st b hb=>by
  have e:b=it:=by simpa using hb
  subst e;obtain⟨o,e,c,d⟩:=st;exact⟨o,e,λv z=>by rw[d] at z;cases z⟩
 keep:=λi h h' st k=>by
  obtain⟨o,e,r⟩:=st;exact⟨o,k it (by simp) o e,r⟩
 item:=by
  intro X hP hw hK hc i pins s σ H E I hf st hg;subst hP hw hK;have Y:i<x.cps.size:=hg;have hx:x.cps[i]?=some x.cps[i]:=by simp[Y]
  obtain⟨f0,f1,f2,f3,f4,f5⟩:=hf it (by simp);have O:∀h',h'.IsStrIter it T x t (i+1)->Heap.SameBut it s.heap h' ->
    ∃u,(some (Value.str ⟨#[x.cps[i]]⟩ s.toks))=some u/\wpAny (model X.prog X.w) X.A (letOwnedTupleGo tg (.ref it) u) (λ_ s2=>∃x_1 H',Inv X pins σ H' s2/\RelV x_1 u/\(Its x).yld i H x_1 H'/\s2.heap.IsStrIter it T x t (i+1)/\∀b∈[it],H' b=none) E { s with heap:=h',toks:=s.toks+1 }:=by
   intro h' J sb;have I1:Inv X pins σ H { s with heap:=h',toks:=s.toks+1 }:=I.turned (λb o hb e=>(sb.2 b hb).trans e) f0 f1 f3 f4 f5;obtain⟨o,e,c,d⟩:=id J;refine⟨_,rfl,md0 (s:={ s with heap:=h',toks:=s.toks+1 }) (n:=T) e c d (by rcases hT with rfl|rfl<;>decide) ⟨.str ⟨#[x.cps[i]]⟩,H,I1,⟨_,rfl⟩,⟨rfl,_,hx,rfl⟩,J,λb hb=>(hf b hb).1⟩⟩
  rcases hT with rfl|rfl
  ·exact wpAny_pyNext_ascii_item st hx λh' J sb=>O h' J sb
  ·exact wpAny_pyNext_wide_item st hx λh' J sb=>O h' J sb
 done:=by
  intro X hP hw hK hc i pins s σ H E I hf st hg;subst hP hw hK;have Z:x.cps.size<=i:=hg;have hx:x.cps[i]?=none:=by simp[Z]
  obtain⟨f0,f1,f2,f3,f4,f5⟩:=hf it (by simp);rcases hT with rfl|rfl
  ·exact wpAny_pyNext_ascii_end (I.ok.hd hc) st hx λh' eb=>⟨rfl,I.turned (t':=s.toks) (λb o hb e=>eb b o hb e) f0 f1 f3 f4 f5⟩
  ·exact wpAny_pyNext_wide_end (I.ok.hd hc) st hx λh' eb=>⟨rfl,I.turned (t':=s.toks) (λb o hb e=>eb b o hb e) f0 f1 f3 f4 f5⟩
 self:=λ_ _ _ _ _ st h=>by
  rcases hT with rfl|rfl
  ·exact wpAny_pyIter_striter_ascii st h
  ·exact wpAny_pyIter_striter_wide st h
def Ul0(te:TE):TI:=fun σ H R=>te σ H λv H1=>∃x,v=.str x/\R (Its x) H1
theorem Yf0(he:PE X e te):PI X tg e (Ul0 te):=by
 intro pins s σ H R I h;refine thn (he pins s σ H _ I h) λv s1 ⟨y,H1,I1,r1,q1⟩=>?_
 obtain⟨x,rfl,q⟩:=q1;obtain⟨t,rfl⟩:=r1;have fp:∀(o:Obj),∀b∈[s1.heap.objs.size],wm0 X pins H1 b:=λo b hb=>by
  have e:b=s1.heap.objs.size:=by simpa using hb
  subst e;exact I1.fpOk (A1 _) (I1.hok.fresh (A1 _))
 cases ha:x.cps.all (·<128) with
 | true =>
  exact wpAny_pyIter_ascii ha ⟨s1.heap.objs.size,[s1.heap.objs.size],_,_,H1,rfl,I1.kept (t':=s1.toks) λb o e=>A6 _ e,kx0 _ "str_ascii_iterator" (.inl rfl) x t,⟨_,B7 _ rfl,rfl,rfl⟩,fp default,q⟩
 | false =>
  exact wpAny_pyIter_wide ha ⟨s1.heap.objs.size,[s1.heap.objs.size],_,_,H1,rfl,I1.kept (t':=s1.toks) λb o e=>A6 _ e,kx0 _ "str_iterator" (.inr rfl) x t,⟨_,B7 _ rfl,rfl,rfl⟩,fp default,q⟩
def Y0(X:Cx)(scope:Scope)(cl:List (Str×Addr))(N':List Str)(s:Shared)(H:Hp)(ex:List Addr):Cx :=
 { X with N:=N',s₀:=s,H₀:=H,env:=compEnvC scope cl s.heap.objs.size X.env,outer:=X.stack,ex:=ex,fn:=λ_=>false,pn:=[],xe:=λ_ _=>False }
structure CompOk(sc scope:Scope)(N N':List Str)(n:Nat)(caps:List Nat):Prop where
 kind:scope.kind=.function
 nocell:∀y∈scope.names,y.2≠.cell
 loc:∀y∈scope.names,y.2=.local->scope.names.lookup y.1=some .local
 free:∀y∈scope.names,y.2=.free->sc.names.lookup y.1=some .cell∨sc.names.lookup y.1=some .free
 nd:N'.Nodup
 len:N'.length=n+caps.length
 cap:∀k∈List.range caps.length,N'[n+k]?=(caps[k]?).bind (N[·]?)/\(N'[n+k]?).all (λy=>scope.names.lookup y==some .free)=true
def Q8(n:Nat)(caps:List Nat)(σ:St):St:=List.replicate n none++caps.map λj=>(σ[j]?).join
theorem fn0(n:Nat)(caps:List Nat)(σ:St):(Q8 n caps σ).length=n+caps.length:=by simp[Q8]
theorem wf0{env:Env}:∀(names:List (Str×NameKind)),(∀x∈names,x.2=.free->∃c,env.cells.lookup x.1=some c)->∀acc:List (Str×Addr),
  ∃cl:List (Str×Addr),(forIn names acc (λ(x:Str×NameKind) (cs:List (Str×Addr))=>if (x.2==.free)=true then do let a ← cellOf env x.1;pure (ForInStep.yield ((x.1,a)::cs)) else pure (ForInStep.yield cs)):Sem (List (Str×Addr)))=pure cl /\
   (∀y c,cl.lookup y=some c->env.cells.lookup y=some c∨acc.lookup y=some c)/\(∀x∈names,x.2=.free->∃c,cl.lookup x.1=some c)/\(∀y c,acc.lookup y=some c->∃c',cl.lookup y=some c')
 | [],_,acc=>⟨acc,rfl,λ_ _ h=>.inr h,(λ_ h=>nomatch h),λ_ c h=>⟨c,h⟩⟩
 | (n,k)::r,h,acc=>by
  cases hk:(k==NameKind.free) with
  | true =>
   have hk':k=.free:=by simpa using hk
   obtain⟨c,hc⟩:=h (n,k) A9 hk';obtain⟨cl,e,h1,h2,h3⟩:=wf0 r (λx hx=>h x (A7 _ hx)) ((n,c)::acc);refine⟨cl,?_,λy d hy=>?_,λx hx hf=>?_,λy d hy=>?_⟩
   ·rw[List.forIn_cons]
    simp only[hk,if_true,cellOf,hc,pure_bind];exact e
   ·rcases h1 y d hy with z|z
    ·exact .inl z
    ·rw[List.lookup_cons] at z
     cases q:(y==n) with
     | true =>
      rw[q] at z;cases z;have:y=n:=by simpa using q
      subst this;exact .inl hc
     | false =>
      rw[q] at z;exact .inr z
   ·rcases B4.mp hx with rfl|hx
    ·exact h3 n c (by simp[List.lookup_cons])
    ·exact h2 x hx hf
   ·by_cases q:y=n
    ·subst q
     exact h3 y c (by simp[List.lookup_cons])
    ·refine h3 y d ?_
     have:(y==n)=false:=by simpa using q
     rw[List.lookup_cons,this];exact hy
  | false =>
   obtain⟨cl,e,h1,h2,h3⟩:=wf0 r (λx hx=>h x (A7 _ hx)) acc;refine⟨cl,?_,h1,λx hx hf=>?_,h3⟩
   ·rw[List.forIn_cons]
    simp only[hk,Bool.false_eq_true,if_false,pure_bind];exact e
   ·rcases B4.mp hx with rfl|hx
    ·have:k=.free:=hf
     rw[this] at hk;exact absurd hk (by decide)
    ·exact h2 x hx hf
theorem v20{env:Env}(h:∀x∈scope.names,x.2=.free->∃c,env.cells.lookup x.1=some c) :
  ∃cl:List (Str×Addr),closureFor scope env=pure cl/\(∀y c,cl.lookup y=some c->env.cells.lookup y=some c)/\∀x∈scope.names,x.2=.free->∃c,cl.lookup x.1=some c:=by
 obtain⟨cl,e,h1,h2,_⟩:=wf0 scope.names h [];refine⟨cl,?_,λy c hy=>(h1 y c hy).elim id (λz=>nomatch z),h2⟩;simp only[closureFor];rw[← bind_pure (forIn _ _ _)] at e
 first
  | exact e
  | (refine o0 ?_ e;rfl)
theorem yq0{env:Env}:∀(names:List (Str×NameKind)) (x:Str),
  (names.map λ(n,k)=>if (k==NameKind.free&&env.scope.kind==.function&&env.kindOf n==some .cell) then (n,NameKind.cell) else (n,k)).lookup x =
   (names.lookup x).map λk=>if (k==NameKind.free&&env.scope.kind==.function&&env.kindOf x==some .cell)=true then NameKind.cell else k
 | [],_=>rfl
 | (n,k)::r,x=>by
  have ih:=@yq0 env r x;have l1:List.lookup x (((n,k)::r).map λ(n,k)=>if (k==NameKind.free&&env.scope.kind==.function&&env.kindOf n==some .cell) then (n,NameKind.cell) else (n,k)) =
    List.lookup x ((if (k==NameKind.free&&env.scope.kind==.function&&env.kindOf n==some .cell)=true then (n,NameKind.cell) else (n,k))::r.map λ(n,k)=>if (k==NameKind.free&&env.scope.kind==.function&&env.kindOf n==some .cell) then (n,NameKind.cell) else (n,k)):=rfl
  rw[l1,List.lookup_cons (as:=r)]
  by_cases hc:(k==NameKind.free&&env.scope.kind==.function&&env.kindOf n==some .cell)=true
  ·rw[if_pos hc,List.lookup_cons]
   cases hx:x==n with
   | true =>
    have e:x=n:=by simpa using hx
    subst e;show some NameKind.cell=some (if (k==NameKind.free&&env.scope.kind==.function&&env.kindOf x==some .cell)=true then NameKind.cell else k);rw[if_pos hc]
   | false=>exact ih
  ·rw[if_neg hc,List.lookup_cons]
   cases hx:x==n with
   | true =>
    have e:x=n:=by simpa using hx
    subst e;show some k=some (if (k==NameKind.free&&env.scope.kind==.function&&env.kindOf x==some .cell)=true then NameKind.cell else k);rw[if_neg hc]
   | false=>exact ih
section
variable{w:World}{A:Around}{s:Shared}
theorem kp0{elt target iter:Expr}{ifs:List Expr}{scope:Scope}{pos:Pos}{it acc:Value}{env:Env}(I:Nat->Shared->Prop)
  (turn:∀n s,I n s->wpAny (model prog w) A (pyNext it) (λr s₁=>match r with
   | none=>R (.ok .next) s₁
   | some v=>wpAny (model prog w) A (letOwnedTupleGo target it v) (λ_ s₁'=>wpAny (model prog w) A (assign target env v) (λ_ s₂ =>
     wpAny (model prog w) A (forIn ifs true λc r=>if r=true then do let ok ← isTrue c env (eval c env);pure (ForInStep.yield ok) else pure (ForInStep.yield r)) (λok s₃ =>
      if ok=true then wpAny (model prog w) A (eval elt env) (λx s₄ =>
       wpAny (model prog w) A (call (.builtin "list.append") [acc,x]) (λ_ s₅=>∃m,m<n/\I m s₅) (λ_ _=>False) s₄) (λ_ _=>False) s₃
      else ∃m,m<n/\I m s₃) (λ_ _=>False) s₂) (λ_ _=>False) s₁') (λ_ _=>False) s₁) (λ_ _=>False) s)
  (n:Nat) (h:I n s) :
  codeAny (model prog w) A (.compLoop (.ListComp elt [⟨target,iter,ifs,0⟩] scope pos) 0 it acc env) R s:=by
 refine codeAny_loop rfl I (λn s hI=>?_) n h;show wpAny _ A ((compTurn (.ListComp elt [⟨target,iter,ifs,0⟩] scope pos) 0 it acc env).onRaise (λx=>do noteFrame x env;theTreesLotGoes x)) _ _ s;refine wpAny_noted ?_;rw[compTurn_list];refine A0 (g7 (A0 (C9 (turn n s hI) (λr s₁ h₁=>?_) λ_ _ h'=>h'.elim)));cases r with
 | none=>exact A2 h₁
 | some v =>
  refine A0 (C9 h₁ (λ_ s₁' J=>?_) λ_ _ h'=>h'.elim);refine A0 (C9 J (λ_ s₂ h₂=>A0 (C9 h₂ (λok s₃ h₃=>?_) λ_ _ h'=>h'.elim)) λ_ _ h'=>h'.elim);cases ok with
  | false=>exact A2 ⟨rfl,h₃⟩
  | true =>
   exact A0 (A0 (C9 h₃ (λx s₄ h₄=>A0 (C9 h₄ (λ_ s₅ h₅=>A2 (A2 ⟨rfl,h₅⟩)) λ_ _ h'=>h'.elim)) λ_ _ h'=>h'.elim))
end
def PF(X:Cx)(ifs:List Expr)(t:TT):Prop :=
 ∀(pins:List (Addr×Obj)) (s:Shared) (σ:St) (H:Hp) (Q:Bool->Hp->Prop),Inv X pins σ H s->t σ H Q ->
  wpAny (model X.prog X.w) X.A (forIn ifs true λc r=>if r=true then do let ok ← isTrue c X.env (eval c X.env);pure (ForInStep.yield ok) else pure (ForInStep.yield r)) (TP X pins σ Q) X.xe s
theorem Yu0:PF X [] λ_ H Q=>Q true H:=λ_ _ _ H _ I h=>wpAny_tests_nil ⟨H,I,h⟩
theorem Xq0{t:TT}(h:PT X c t):PF X [c] t:=λpins s σ H Q I q=>wpAny_tests_one (h pins s σ H Q I q)
def Wk(σ σ':St):Prop:=σ'.length=σ.length/\∀(j:Nat) (v:V),σ[j]?=some (some v)->σ'[j]?=some (some v)
def im0(n:Nat)(caps:List Nat)(wi:TI)(g:TG)(tt:TT)(te:TE):TE:=fun σ H Q=>wi σ H λJ H1=>∀D,H1 D=none ->
 ∃W:Nat->Nat->List V->Hp->Prop,(∃m,W 0 m [] (upd H1 D (.lst [])))/\∀i m ys H2,W i m ys H2 ->
  (J.stop i H2/\Q (.ref D) H2)∨(J.go i H2/\∀x H3,J.yld i H2 x H3->g x (Q8 n caps σ) H3 fun σ4 H4=>Wk (Q8 n caps σ) σ4/\tt σ4 H4 λb H5 =>
   if b=true then te σ4 H5 λy H6=>H6 D=some (.lst ys)/\ys.length<sizeLine/\∃m',m'<m/\W (i+1) m' (ys++[y]) (upd H6 D (.lst (ys++[y]))) else ∃m',m'<m/\W (i+1) m' ys H5)
section
variable{wi:TI}{g:TG}{tt:TT}
def Vu0(X:Cx)(pins:List (Addr×Obj))(H:Hp)(C:Addr):Prop :=
 H C=none/\C≠X.env.locals/\X.s₀.heap.objs.size<=C/\(∀x c,X.env.cells.lookup x=some c->c≠C)/\∀p∈X.pn++pins,p.1≠C
theorem oa0{pins:List (Addr×Obj)}{σ:St}{H2:Hp}{s2:Shared}{it:Addr}{fp:List Addr}{tn:Nat->Heap->Prop}{J:It}{cl:List (Str×Addr)}{Q:VK}{RR:Value->Addr->Result->Shared->Prop}{E:Value->Shared->Prop}
  (hc:X.calm=true) (hsc:X.env.scope=sc) (ok:CompOk sc scope X.N N' n caps)
  (hcl1:∀y c,cl.lookup y=some c->X.env.cells.lookup y=some c) (hcl2:∀x∈scope.names,x.2=.free->∃c,cl.lookup x.1=some c)
  (hg:∀s H ex,PG (Y0 X scope cl N' s H ex) tg g) (ht:∀s H ex,PF (Y0 X scope cl N' s H ex) ifs tt) (he:∀s H ex,PE (Y0 X scope cl N' s H ex) elt te)
  (I2:Inv X pins σ H2 s2) (T:Turn X.prog X.w X.K tg J fp it tn) (st2:tn 0 s2.heap) (f2:∀b∈fp,wm0 X pins H2 b)
  (q:∀D,H2 D=none->∃W:Nat->Nat->List V->Hp->Prop,(∃m,W 0 m [] (upd H2 D (.lst [])))/\∀i m ys H2,W i m ys H2 ->
   (J.stop i H2/\Q (.ref D) H2)∨(J.go i H2/\∀x H3,J.yld i H2 x H3->g x (Q8 n caps σ) H3 fun σ4 H4=>Wk (Q8 n caps σ) σ4/\tt σ4 H4 λb H5 =>
    if b=true then te σ4 H5 λy H6=>H6 D=some (.lst ys)/\ys.length<sizeLine/\∃m',m'<m/\W (i+1) m' (ys++[y]) (upd H6 D (.lst (ys++[y]))) else ∃m',m'<m/\W (i+1) m' ys H5))
  (hend:∀(D C:Addr) (H':Hp) (s':Shared) (m:Str->Option Value),Inv X pins σ H' s'->Vu0 X pins H' C->s'.heap.Ns C m->Q (.ref D) H'->RR (.ref D) C (.ok .next) s') :
  wpAny (model X.prog X.w) X.A (newList []) (λacc s₃=>wpAny (model X.prog X.w) X.A (newFunctionEnv scope X.env.globals cl [] X.env.qual none .none (some X.env)) (λcenv s₄ =>
   codeAny (model X.prog X.w) X.A (.compStart (.ListComp elt [⟨tg,iter,ifs,0⟩] scope pos) 0 (.ref it) acc { cenv with scope:=relabel scope X.env }) (RR acc cenv.locals) s₄) E s₃) E s2:=by
 refine E5 (wpAny_newFunctionEnv ok.nocell (by intro y hy;simp at hy) (λh₁ a3 a4=>?_) ok.kind);dsimp only at a3 a4 ⊢;obtain⟨D,hD⟩:∃D,D=s2.heap.objs.size:=⟨_,rfl⟩;have I3:Inv X pins σ (upd H2 s2.heap.objs.size (.lst [])) { s2 with heap:=s2.heap.push { cls:=.type "list",data:=.seq ([]:List Value).toArray } }:=I2.lnew (its:=[]) (t':=s2.toks) .nil (B9 _);have e4:H2 s2.heap.objs.size=none:=I2.fresh;obtain⟨W,⟨m0,w0⟩,b2⟩:=q s2.heap.objs.size e4;generalize hs3:({ s2 with heap:=s2.heap.push { cls:=.type "list",data:=.seq ([]:List Value).toArray } }:Shared)=s3 at *;have b0:s2.heap.push { cls:=.type "list",data:=.seq ([]:List Value).toArray }=s3.heap:=by rw[← hs3]
 have i0:s2.toks=s3.toks:=by rw[← hs3]
 rw[b0] at a3 a4 ⊢;generalize hH3:upd H2 s2.heap.objs.size (HO.lst [])=H3 at *;rw[← hD] at b2 hH3 e4 ⊢;have Z:∀b o,s3.heap.get? b=some o->h₁.get? b=some o:=λb o e=>a4.extBut b o (A5 (A3 e)) (A6 _ e)
 have b6:∀b o,s2.heap.get? b=some o->s3.heap.get? b=some o:=λb o e=>by rw[← b0];exact A6 _ e
 have d2:∀b∈fp,b<s3.heap.objs.size:=λb hb=>by
  obtain⟨o,e,_⟩:=T.obj _ _ st2 b hb;exact A3 (b6 b o e)
 have f7:∀b∈fp,b≠D:=λb hb z=>by
  obtain⟨o,e,_⟩:=T.obj _ _ st2 b hb;rw[z,hD] at e;exact absurd (A3 e) (D0 _)
 obtain⟨X',O⟩:∃X',X'=Y0 X scope cl N' s3 H3 fp:=⟨_,rfl⟩;have okX:X'.Ok:=by
  subst O;refine⟨I3.ok.mod,ok.kind,I3.ok.glob,I3.ok.blt,A1 _,λx y c h1 h2=>I3.ok.inj x y c (hcl1 x c h1) (hcl1 y c h2),λx hx=>?_,λx c h _=>absurd h (by simp[Y0]),I3.ok.hd,I3.ok.frames,.inl rfl,
   λb hb=>⟨A5 (d2 b hb),λx c e=>(f2 b hb).2.2.2.2.1 x c (hcl1 x c e)⟩,λb o e=>I3.bs b o e,C5 I3.ok.bsz I3.sz,λb o e hb=>?_,λb hb hf=>?_,I3.stack,I3.stkFree⟩
  ·have a8:((relabel scope X.env).names.lookup x=some .cell)∨((relabel scope X.env).names.lookup x=some .free):=hx
   have q2:=yq0 (env:=X.env) scope.names x;have q3:(relabel scope X.env).names.lookup x=(scope.names.lookup x).map λk=>if (k==NameKind.free&&X.env.scope.kind==.function&&X.env.kindOf x==some .cell)=true then NameKind.cell else k:=q2
   cases e:scope.names.lookup x with
   | none =>
    rw[q3,e] at a8;rcases a8 with z|z<;>cases z
   | some k =>
    have hk:k=.free:=by
     rw[q3,e] at a8;have nc:=ok.nocell (x,k) (D9 e);cases k<;>first
      | rfl
      | exact absurd rfl nc
      | (rcases a8 with z|z<;>simp at z)
    subst hk;exact hcl2 (x,.free) (D9 e) rfl
  ·rcases (f2 b hb).2.2.2.1 with z|z
   ·exact I3.ok.noex b o e z
   ·exact absurd (A8 (A3 (I3.ok.bs b o e).1) z) (D0 _)
  ·rcases B4.mp (I3.stkSub b hf) with z|z
   ·exact(f2 b hb).2.1 z
   ·exact(f2 b hb).2.2.1 z
 have I4:Inv X' [] (Q8 n caps σ) H3 { s3 with heap:=h₁,toks:=s2.toks+([]:List (Str×Value)).length }:=by
  refine⟨okX,?_,?_,?_,?_,λx c e=>?_,?_,λx c e=>?_,λp hp=>?_,(by subst O;exact I3.hok.kept Z),?_⟩
  ·subst O;rfl
  ·exact I3.bare
  ·subst O;exact Un.kept Z
  ·subst O
   refine⟨_,a3,λi x v e1 e2 e3=>?_⟩;have hi:n<=i:=by
    by_cases hi:i<n
    ·unfold Q8 at e2
     rw[List.getElem?_append_left (by simpa using hi),List.getElem?_replicate,if_pos hi] at e2;cases e2
    ·omega
   obtain⟨k,rfl⟩:∃k,i=n+k:=⟨i - n,by omega⟩;have hk:k<caps.length:=by
    have:=(C0.mp e1).1;have e5:(Y0 X scope cl N' s3 H3 fp).N.length=n+caps.length:=ok.len;omega
   obtain⟨c1,c2⟩:=ok.cap k (C8.mpr hk);have d3:N'[n+k]?=some x:=e1;unfold Q8 at e2;rw[List.getElem?_append_right (by simp),List.length_replicate,Nat.add_sub_cancel_left,List.getElem?_map] at e2;obtain⟨j,hj⟩:∃j,caps[k]?=some j:=⟨caps[k],by simp[hk]⟩;rw[hj] at e2 c1;have h3:X.N[j]?=some x:=by rw[← d3,c1];rfl
   have a7:(σ[j]?).join=some v:=B3 e2;have f4:σ[j]?=some (some v):=by
    cases q:σ[j]? with
    | none=>rw[q] at a7;cases a7
    | some o=>rw[q] at a7;rw[show o=some v from a7]
   rw[d3] at c2;have Y:scope.names.lookup x=some .free:=by simpa using c2
   have c3:=ok.free (x,.free) (D9 Y) rfl;obtain⟨m,hn,hl⟩:=I3.loc;obtain⟨u,ru,l⟩:=hl j x v h3 f4 (by
    rcases c3 with z|z
    ·exact .inr (.inl (by rw[hsc];exact z))
    ·exact .inr (.inr (by rw[hsc];exact z)))
   refine⟨u,ru,.inr ⟨?_,?_⟩⟩
   ·have q3:(relabel scope X.env).names.lookup x=(scope.names.lookup x).map λk=>if (k==NameKind.free&&X.env.scope.kind==.function&&X.env.kindOf x==some .cell)=true then NameKind.cell else k:=yq0 scope.names x
    rw[Y] at q3;show (relabel scope X.env).names.lookup x=_∨(relabel scope X.env).names.lookup x=_;rw[q3]
    by_cases hcc:(NameKind.free==NameKind.free&&X.env.scope.kind==.function&&X.env.kindOf x==some .cell)=true
    ·left;simp only[Option.map_some,if_pos hcc]
    ·right;simp only[Option.map_some,if_neg hcc]
   ·obtain⟨c',e6⟩:=hcl2 (x,.free) (D9 Y) rfl
    rcases l with⟨g6,_⟩|⟨_,c,f8,c4⟩
    ·have b4:X.env.scope.names.lookup x=some .local:=g6
     rw[hsc] at b4;rcases c3 with z|z<;>(rw[b4] at z;cases z)
    ·have:=hcl1 x c' e6
     rw[f8] at this;cases this;obtain⟨o,ho,hd⟩:=c4;exact⟨_,e6,o,Z _ o ho,hd⟩
  ·have e':cl.lookup x=some c:=by subst O;exact e
   obtain⟨v,o,ho,hd⟩:=I3.cell x c (hcl1 x c e');exact⟨v,o,Z _ o ho,hd⟩
  ·subst O;exact I3.hok.fresh (A1 _)
  ·have e':cl.lookup x=some c:=by subst O;exact e
   exact I3.freeC x c (hcl1 x c e')
  ·subst O;exact absurd hp (by simp[Y0])
  ·subst O
   show _=N'.length;rw[fn0,ok.len]
 have b7:X'.calm=true:=by subst O;exact hc
 have a2:∀{H':Hp},(∀b∈fp,H' b=none)->∀b∈fp,wm0 X' [] H' b:=λ{H'} hn b hb=>by
  subst O;refine⟨hn b hb,A5 (d2 b hb),λhf=>?_,.inl hb,λx c e=>(f2 b hb).2.2.2.2.1 x c (hcl1 x c e),λp hp=>absurd hp (by simp[Y0])⟩;rcases B4.mp (I3.stkSub b hf) with z|z
  ·exact(f2 b hb).2.1 z
  ·exact(f2 b hb).2.2.1 z
 have g9:∀b∈fp,H3 b=none:=λb hb=>by rw[← hH3,o6 (f7 b hb)];exact(f2 b hb).1
 have d4:tn 0 h₁:=T.keep _ _ _ st2 λb hb o e=>Z b o (b6 b o e)
 have loop:∀s4:Shared,s4={ s3 with heap:=h₁,toks:=s2.toks+([]:List (Str×Value)).length } ->
   codeAny (model X.prog X.w) X.A (.compLoop (.ListComp elt [⟨tg,iter,ifs,0⟩] scope pos) 0 (.ref it) (.ref D) X'.env) (RR (.ref D) s3.heap.objs.size) s4:=by
  rintro s4 rfl;refine kp0 (λk s'=>∃i ys H',Inv X' [] (Q8 n caps σ) H' s'/\tn i s'.heap/\(∀b∈fp,H' b=none)/\W i k ys H') ?_ m0 ⟨0,[],H3,I4,d4,g9,w0⟩;rintro k s5 ⟨i,ys,H5,I5,d0,c7,w5⟩;have eP:X'.prog=X.prog:=by subst O;rfl
  have ew:X'.w=X.w:=by subst O;rfl
  have eK:X'.K=X.K:=by subst O;rfl
  have eA:X'.A=X.A:=by subst O;rfl
  rcases b2 i k ys H5 w5 with⟨stop,qe⟩|⟨go,step⟩
  ·have T':=T.done X' eP ew eK b7 i [] s5 (Q8 n caps σ) H5 (λ_ _=>False) I5 (a2 c7) d0 stop
   rw[eA] at T';refine thn T' λr s6 ⟨hr,I6⟩=>?_
   subst hr;have g8:Un (frs X.stack) fp H3 H5 s3.heap s6.heap:=by have:=I6.base;subst O;exact this
   have f9:s6.os=s3.os:=by have:=I6.os;subst O;exact this
   have f1:HOk X.prog X.w H5 s6.heap:=by have:=I6.hok;subst O;exact this
   have IX:Inv X pins σ H5 s6:=I3.call' f9 g8 f1 I6.bare λb hb=>⟨(f2 b hb).2.2.2.1,(f2 b hb).2.1,(f2 b hb).2.2.2.2.1,(f2 b hb).2.2.2.2.2⟩
   obtain⟨m6,h9,_⟩:=I6.loc;have e9:s6.heap.Ns s3.heap.objs.size m6:=by subst O;exact h9
   refine hend D s3.heap.objs.size H5 s6 m6 IX ⟨by have:=I6.free;subst O;exact this,B6 I3.lt,I3.sz,λx c e z=>?_,λp hp z=>?_⟩ e9 qe
   ·obtain⟨v,qc⟩:=I3.cell x c e
    exact absurd (A8 qc.lt (p9 z.symm)) (D0 _)
   ·exact absurd (A8 (A3 (I3.pin p hp).1) (p9 z.symm)) (D0 _)
  ·have T':=T.item X' eP ew eK b7 i [] s5 (Q8 n caps σ) H5 (λ_ _=>False) I5 (a2 c7) d0 go
   rw[eA] at T';refine thn T' λr s6 ⟨u,hr,h6⟩=>?_
   subst hr;refine thn h6 λ_ s7 ⟨x,H7,I7,r7,y7,b1,h8⟩=>?_
   have h7:=I7.pinned (a2 h8) (T.obj _ _ b1);have e8:=hg s3 H3 fp;have d1:=ht s3 H3 fp;have e7:=he s3 H3 fp;rw[← O] at e8 d1 e7;have g1:=e8 _ s7 (Q8 n caps σ) H7 x u _ h7 r7 (step x H7 y7);rw[eP,ew,eA] at g1;have a5:X'.xe=λ_ _=>False:=by subst O;rfl
   rw[a5] at g1;refine thn g1 λ_ s8 ⟨σ8,H8,I8,a6,q8⟩=>?_
   have t1:=d1 _ s8 σ8 H8 _ I8 q8;rw[eP,ew,eA,a5] at t1;refine thn t1 λb s9 ⟨H9,I9,q9⟩=>?_
   have b5:∀{σa:St} {Ha:Hp} {sa:Shared} {b3:List V} {ma:Nat},Inv X' ([]++s30 fp s7.heap) σa Ha sa->σa.length=(Q8 n caps σ).length->(∀(j:Nat) v,(Q8 n caps σ)[j]?=some (some v)->σa[j]?=some (some v))->W (i+1) ma b3 Ha ->
     ∃i ys H',Inv X' [] (Q8 n caps σ) H' sa/\tn i sa.heap/\(∀b∈fp,H' b=none)/\W i ma ys H':=λ{σa Ha sa b3 ma} Ia hl hw wa=>by
    refine⟨i+1,b3,Ha,(Ia.weak hl.symm hw).unpinned,T.keep _ _ _ b1 λb hb o e=>(Ia.pin (b,o) (C6 _ (C6 _ (wb0 hb e)))).1,λb hb=>?_,wa⟩;obtain⟨o,e,d⟩:=T.obj _ _ b1 b hb;exact(Ia.pin (b,o) (C6 _ (C6 _ (wb0 hb e)))).2.1
   cases b with
   | false =>
    rw[if_neg B8];rw[if_neg B8] at q9;obtain⟨m',hm,w9⟩:=q9;exact⟨m',hm,b5 I9 a6.1 a6.2 w9⟩
   | true =>
    rw[if_pos rfl];rw[if_pos rfl] at q9;have e1:=e7 _ s9 σ8 H9 _ I9 q9;rw[eP,ew,eA,a5] at e1;refine thn e1 λv f5 ⟨y,g4,g5,h4,f3,f0,m',hm,h5⟩=>?_
    have a1:=tn0 (X:=X') _ f5 σ8 g4 (.ref D) [y] (.ref D) [v] (λ_ H'=>W (i+1) m' (ys++[y]) H') g5 rfl (.cons h4 .nil) ⟨D,ys,y,rfl,rfl,f3,f0,h5⟩;rw[eP,ew,eA,a5] at a1;refine thn a1 λ_ j0 ⟨_,i3,g3,_,f6⟩=>?_
    exact⟨m',hm,b5 g3 a6.1 a6.2 f6⟩
 subst O;exact codeAny_compStart_list (loop _ (by rw[← hs3])) (T.self X.A 0 _ _ _ d4 (loop _ (by rw[← hs3])))
theorem Zo0(hc:X.calm=true)(hsc:X.env.scope=sc)(ok:CompOk sc scope X.N N' n caps)(hi:PI X tg iter wi)
  (hg:∀cl s H ex,PG (Y0 X scope cl N' s H ex) tg g) (ht:∀cl s H ex,PF (Y0 X scope cl N' s H ex) ifs tt) (he:∀cl s H ex,PE (Y0 X scope cl N' s H ex) elt te)
  (hs:∀x,foldedSetIterable iter X.env x=pure x:=by intro _;rfl) :
  PE X (.ListComp elt [⟨tg,iter,ifs,0⟩] scope pos) (im0 n caps wi g tt te):=by
 intro pins s σ H Q I h;obtain⟨cl,O,Z,Y⟩:=v20 (env:=X.env) (scope:=scope) λx hx hf=>I.ok.has x.1 (by
  rcases ok.free x hx hf with z|z
  ·exact .inl (by show X.env.scope.names.lookup x.1=_;rw[hsc];exact z)
  ·exact .inr (by show X.env.scope.names.lookup x.1=_;rw[hsc];exact z))
 rw[eval_ListComp];refine Ao0 (use:=none) rfl hs O ok.kind ok.loc (thn (hi pins s σ H _ I h) λv s1 h1=>thn h1 λa3 s2 h2=>?_);obtain⟨it,fp,tn,J,H2,rfl,I2,T,a2,f2,q2⟩:=h2;refine oa0 (Q:=Q) (RR:=λa1 C=>compPost (model X.prog X.w) X.A X.xe none (EP X pins σ Q) a1 C) hc hsc ok Z Y (hg cl) (ht cl) (he cl) I2 T a2 f2 q2 ?_;intro D C H' s' m IX as hn qe;refine⟨m,hn,λh' sb=>⟨.ref D,H',IX.turned (t':=s'.toks) (λb o hb e=>(sb.2 b hb).trans e) as.1 as.2.1 (.inr as.2.2.1) as.2.2.2.1 as.2.2.2.2,rfl,qe⟩⟩
theorem g70{py spos:Pos}(hN:X.N.Nodup)(hiN:X.N[i]?=some y)(hy:Loc X.env.scope y)(hc:X.calm=true)(hsc:X.env.scope=sc)(ok:CompOk sc scope X.N N' n caps)(hi:PI X tg iter wi)
  (hg:∀cl s H ex,PG (Y0 X scope cl N' s H ex) tg g) (ht:∀cl s H ex,PF (Y0 X scope cl N' s H ex) ifs tt) (he:∀cl s H ex,PE (Y0 X scope cl N' s H ex) elt te)
  (hsw:swapsWith (.ListComp elt [⟨tg,iter,ifs,0⟩] scope pos) (some (.Name y py)) spos.line X.env=pure true:=by rfl)
  (hs:∀x,foldedSetIterable iter X.env x=pure x:=by intro _;rfl)
  (hf:X.fn y=true∨X.env.scope.names.lookup y=some .local:=by first|exact .inl rfl|exact .inr rfl|assumption) :
  PS X (.Assign [.Name y py] (.ListComp elt [⟨tg,iter,ifs,0⟩] scope pos) spos) (λD σ H=>im0 n caps wi g tt te σ H λv H'=>D.nx (σ.set i (some v)) H'):=by
 intro pins s σ H D I h;obtain⟨cl,O,Z,Y⟩:=v20 (env:=X.env) (scope:=scope) λx hx hf=>I.ok.has x.1 (by
  rcases ok.free x hx hf with z|z
  ·exact .inl (by show X.env.scope.names.lookup x.1=_;rw[hsc];exact z)
  ·exact .inr (by show X.env.scope.names.lookup x.1=_;rw[hsc];exact z))
 rw[exec_Assign_Name_used _ _ _ _ hsw];refine A0 (g7 (A0 ?_));show wpAny _ X.A (do let _ ← comprehension (.ListComp elt [⟨tg,iter,ifs,0⟩] scope pos) scope X.env _ (newList []) false (eval iter X.env) (some (assign (.Name y py) X.env))) _ _ s;refine A0 (C9 (Ao0 (use:=some (assign (.Name y py) X.env)) (Q:=λ_ s'=>SP X pins D .next s') rfl hs O ok.kind ok.loc
  (thn (hi pins s σ H _ I h) λv s1 h1=>thn h1 λa7 s2 h2=>?_)) (λ_ s' hq=>A2 (A2 hq)) λ_ _ e=>e)
 obtain⟨it,fp,tn,J,H2,rfl,I2,T,a5,f2,q2⟩:=h2;refine oa0 (Q:=λv H'=>D.nx (σ.set i (some v)) H') (RR:=λa2 C=>compPost (model X.prog X.w) X.A X.xe (some (assign (.Name y py) X.env)) (λ_ s'=>SP X pins D .next s') a2 C) hc hsc ok Z Y (hg cl) (ht cl) (he cl) I2 T a5 f2 q2 ?_;intro Da C H' s' m IX as hn qe;show wpAny _ X.A (assign (.Name y py) X.env (.ref Da)) _ _ _;refine wpAny_assign_Name (n70 IX hN hiN hy (v:=.ref Da) rfl (λa3 a6 ⟨a,sb,ha⟩=>?_) hf);have a4:C≠a:=by
  rcases ha with z|z
  ·rw[z];exact as.2.1
  ·exact A4 (as.2.2.2.1 y a z)
 refine⟨m,hn.sameBut sb a4,λh' a1=>⟨_,H',a6.turned (t':=a3.toks) (λb o hb e=>(a1.2 b hb).trans e) as.1 as.2.1 (.inr as.2.2.1) as.2.2.2.1 as.2.2.2.2,qe⟩⟩
end
end L2
namespace DL
open Spec PyProof.Rows
inductive D where
 | non|bl (b:Bool)|int (i:Int)|str (x:Str)|tup (ds:List D)|lst (ds:List D)|dct (ks:Sum (List (Sum Int Str)) (List (List (Sum Int Str)))) (ds:List D)|fn (ks:List (Sum Int Str)) (ds:List D)
 deriving Inhabited
variable{ds:List DL.D}{L:Bool->List DL.D}{F:DL.D}
@[simp] def unl:D->D
 | .tup [_,d]=>d
 | d=>d
@[simp] def isL:D->Bool
 | .tup _=>true
 | _=>false
inductive Sl where
 | un|sh (d:D)|ow (d:D)
 | ex (c:Str) (n:Option Int)
abbrev Ds:=List Sl
inductive Res where
 | nx (δ:Ds)|rt (d:D)|bk (δ:Ds)|ct (δ:Ds)|rf (d:D)
variable{g ge gb:DL.Ds->Option DL.D}{gt:DL.Ds->Option Bool}{δ δ':DL.Ds}{G:DL.Ds->Option DL.Res}{gi gA:DL.Ds->Option (List DL.D)}
abbrev GE:=Ds->Option D
abbrev GB:=Ds->Option Bool
variable{g0:DL.GE}
abbrev GA:=Ds->Option (List D)
variable{g1 g2:DL.GB}
abbrev GS:=Ds->Option Res
@[simp] def asB:D->Option Bool
 | .bl b=>some b
 | _=>none
@[simp] def asI:D->Option Int
 | .int i=>some i
 | _=>none
@[simp] def gv(i:Nat):GE:=fun δ=>match δ[i]? with
 | some (.sh d)=>some d
 | _=>none
@[simp] def gc(d:D):GE:=λ_=>some d
@[simp] def o2(ga gb:GE)(f:D->D->Option D):GE:=fun δ=>(ga δ).bind λx=>(gb δ).bind λy=>f x y
@[simp] def ob(g:GE):GB:=fun δ=>(g δ).bind asB
@[simp] def z00(gt gu:GB):GB:=fun δ=>(gt δ).bind λt=>if t=true then some true else gu δ
@[simp] def he0(ga gb:GE):GE:=fun δ=>(ob ga δ).bind λt=>if t=true then gb δ else some (.bl false)
@[simp] def ifG(gt:GB)(ga gb:GE):GE:=fun δ=>(gt δ).bind λt=>if t=true then ga δ else gb δ
@[simp] def v6:GA:=λ_=>some []
@[simp] def z7(g:GE)(gA:GA):GA:=fun δ=>(g δ).bind λd=>(gA δ).map λds=>d::ds
@[simp] def R0(gA:GA):GE:=fun δ=>(gA δ).bind λds=>if ds.length<=sizeLine then some (.tup ds) else none
@[simp] def W5(gA:GA):GE:=fun δ=>(gA δ).bind λds=>if ds.length<=sizeLine then some (.lst ds) else none
@[simp] def oA(gA:GA)(f:List D->Option D):GE:=fun δ=>(gA δ).bind f
@[simp] def vf0(f:D->Bool)(g:GE):GE:=fun δ=>(g δ).map λd=>.bl (f d)
@[simp] def xx0(d:D):Option D:=match d with
 | .int i=>some (.int (-i))
 | _=>none
@[simp] def unG(f:D->Option D)(g:GE):GE:=fun δ=>(g δ).bind f
@[simp] def v9(G1 G2:GS):GS:=fun δ=>match G1 δ with
 | some (.nx δ')=>G2 δ'
 | r=>r
@[simp] def u9:GS:=fun δ=>some (.nx δ)
@[simp] def d9(g:GE):GS:=fun δ=>(g δ).map .rt
@[simp] def gN(i:Nat):D->Ds->Option Ds:=λd δ=>some (δ.set i (.sh d))
@[simp] def j6(f:D->Ds->Option Ds)(g:GE):GS:=fun δ=>(g δ).bind λd=>(f d δ).map .nx
@[simp] def ifD(gt:GB)(Ga Gb:GS):GS:=fun δ=>(gt δ).bind λt=>if t=true then Ga δ else Gb δ
def N7(f:D->Ds->Option Ds)(G:GS):List D->Ds->Option Res
 | [],δ=>some (.nx δ)
 | d::ds,δ=>match (f d δ).bind G with
  | some (.nx δ')=>N7 f G ds δ'
  | some (.ct δ')=>N7 f G ds δ'
  | some (.bk δ')=>some (.nx δ')
  | r=>r
@[simp] def J9(gi:GA)(f:D->Ds->Option Ds)(G:GS):GS:=fun δ=>(gi δ).bind λitems=>N7 f G items δ
@[simp] def mk0:D->Option (List D)
 | .lst ds=>some ds
 | _=>none
@[simp] def be0:D->Option (List D)
 | .tup ds=>some ds
 | _=>none
def signs(x:Str):List D:=x.cps.toList.map λc=>.str ⟨#[c]⟩
@[simp] def i80:D->Option (List D)
 | .str x=>some (signs x)
 | _=>none
@[simp] def zs0(g:GE):GA:=fun δ=>(g δ).bind mk0
@[simp] def tupI(g:GE):GA:=fun δ=>(g δ).bind be0
@[simp] def kc0(g:GE):GA:=fun δ=>(g δ).bind i80
def V9(lo hi:Int):List D:=(List.range (hi - lo).toNat).map λk=>.int (lo+(k:Nat))
@[simp] def gk0(ds:List D):Option (List D):=match ds with
 | [.int j]=>if -(2 ^ 62)<=j/\j<2 ^ 62 then some (V9 0 j) else none
 | _=>none
@[simp] def g90(ds:List D):Option (List D):=match ds with
 | [.int i,.int j]=>if (-(2 ^ 62)<=i/\i<2 ^ 62)/\-(2 ^ 62)<=j/\j<2 ^ 62 then some (V9 i j) else none
 | _=>none
@[simp] def O9(gA:GA):GA:=fun δ=>(gA δ).bind gk0
@[simp] def qn0(gA:GA):GA:=fun δ=>(gA δ).bind g90
@[simp] def noT:GB:=λ_=>some true
@[simp] def mo0:Option Sl->Sl
 | some (.sh d)=>.sh d
 | _=>.un
@[simp] def zn0(n:Nat)(caps:List Nat)(δ:Ds):Ds:=List.replicate n .un++caps.map λj=>mo0 δ[j]?
def T8(f:D->Ds->Option Ds)(gt:GB)(ge:GE)(δ:Ds):List D->Option (List D)
 | []=>some []
 | d::ds=>match f d δ with
  | none=>none
  | some δ'=>match gt δ' with
   | none=>none
   | some false=>T8 f gt ge δ ds
   | some true=>match ge δ' with
    | none=>none
    | some y=>(T8 f gt ge δ ds).map λr=>y::r
@[simp] def X8(n:Nat)(caps:List Nat)(gi:GA)(f:D->Ds->Option Ds)(gt:GB)(ge:GE):GE :=
 fun δ=>(gi δ).bind λitems=>if items.length<=sizeLine then (T8 f gt ge (zn0 n caps δ) items).map .lst else none
@[simp] def j8(N:List Str)(ds:List D):Ds:=ds.map .sh++List.replicate (N.length - ds.length) .un
@[simp] def isStr:D->Bool
 | .str _=>true|_=>false
@[simp] def isTup:D->Bool
 | .tup _=>true|_=>false
@[simp] def ii(f:Int->Int->Option D):D->D->Option D
 | .int i,.int j=>f i j
 | _,_=>none
@[simp] def xv0:D->D->Option D:=ii λi j=>some (.int (i - j))
@[simp] def zc0:D->D->Option D:=ii λi j=>if 0<j/\j<1073741824 then some (.int (i/j)) else none
@[simp] def Z6:D->D->Option D:=ii λi j=>if 0<j then some (.int (i%j)) else none
@[simp] def q10:D->D->Option D:=ii λi j=>if 0<=j/\j<=1000000/\i.natAbs<2 ^ 64 then some (.int (i ^ j.toNat)) else none
@[simp] def ltD:D->D->Option D:=ii λi j=>some (.bl (decide (i<j)))
@[simp] def leD:D->D->Option D:=ii λi j=>some (.bl (decide (i<=j)))
@[simp] def gtD:D->D->Option D:=ii λi j=>some (.bl (decide (j<i)))
@[simp] def geD:D->D->Option D:=ii λi j=>some (.bl (decide (j<=i)))
@[simp] def eqS:D->D->Option Bool
 | .non,.non=>some true
 | .non,.int _=>some false|.int _,.non=>some false|.non,.bl _=>some false|.bl _,.non=>some false|.non,.str _=>some false|.str _,.non=>some false
 | .int i,.int j=>some (decide (i=j))
 | .bl i,.bl j=>some (decide (i=j))
 | .str i,.str j=>some (decide (i=j))
 | .int _,.str _=>some false|.str _,.int _=>some false|.bl _,.str _=>some false|.str _,.bl _=>some false
 | _,_=>none
@[simp] def eqD(x y:D):Option D:=(eqS x y).map .bl
@[simp] def U80:D->Bool
 | .non=>true|_=>false
@[simp] def c20(x y:D):Option D:=match y with
 | .non=>some (.bl (U80 x))
 | _=>none
def ixN(n:Nat)(i:Int):Option Nat:=if 0<=i then (if i<n then some i.toNat else none) else if -(n:Int)<=i then some (i+n).toNat else none
def atI{α:Type}(xs:List α)(i:Int):Option α:=(ixN xs.length i).bind λj=>xs[j]?
@[simp] def ixD:D->D->Option D
 | .lst xs,.int i=>atI xs i
 | .tup xs,.int i=>atI xs i
 | .str z,.int i=>if z.length<=sizeLine then (atI z.cps.toList i).map λc=>.str ⟨#[c]⟩ else none
 | _,_=>none
def sIx(n d:Nat):Option Int->Nat
 | none=>d
 | some v=>if v<0 then (v+(n:Int)).toNat else min v.toNat n
def cutD(xs:List D)(lo hi:Option Int):List D:=(xs.drop (sIx xs.length 0 lo)).take (sIx xs.length xs.length hi - sIx xs.length 0 lo)
abbrev GO:=Ds->Option (Option Int)
@[simp] def z10:GO:=λ_=>some none
@[simp] def someO(g:GE):GO:=fun δ=>(g δ).bind λd=>(asI d).map some
@[simp] def Z2:List D->Option D
 | [.str z]=>if z.length<=sizeLine then some (.int z.length) else none
 | [.lst xs]=>some (.int xs.length)
 | [.tup xs]=>some (.int xs.length)
 | _=>none
def z50:List D->Option (List Str)
 | []=>some []
 | .str b::ds=>(z50 ds).map λr=>b::r
 | _=>none
@[simp] def ug0(d:D)(ds:List D):Option D:=match d,ds with
 | .str sep,[.lst xs]=>(z50 xs).bind λys=>if (ys.map (·.length)).sum+ys.length*sep.length<=16777216 then some (.str (Txt.join sep ys)) else none
 | _,_=>none
@[simp] def zl0(g:GE)(gA:GA):GE:=fun δ=>(g δ).bind λd=>(gA δ).bind λds=>ug0 d ds
@[simp] def Q3:List D->Option D
 | [.lst ds]=>some (.tup ds)
 | [.tup ds]=>some (.tup ds)
 | _=>none
theorem tv0{f:D->Ds->Option Ds}{gt:GB}{ge:GE}(p:D->Bool)(h:D->D):∀{items:List D},(∀d∈items,∃δ',f d δ=some δ'/\gt δ'=some (p d)/\(p d=true->ge δ'=some (h d))) ->
  T8 f gt ge δ items=some ((items.filter p).map h)
 | [],_=>rfl
 | d::ds,H=>by
  obtain⟨δ',e1,e2,e3⟩:=H d A9;have ih:=tv0 p h λd hd=>H d (A7 _ hd)
  unfold T8;rw[e1];dsimp only;rw[e2];cases hp:p d with
  | false =>
   dsimp only;rw[List.filter_cons_of_neg (by simp[hp])];exact ih
  | true =>
   dsimp only;rw[e3 hp,ih,List.filter_cons_of_pos hp];rfl
theorem xd0{f:D->Ds->Option Ds}{gt:GB}{ge:GE}(h:D->D){items:List D}(H:∀d∈items,∃δ',f d δ=some δ'/\gt δ'=some true/\ge δ'=some (h d)):T8 f gt ge δ items=some (items.map h):=by
 have:=tv0 (f:=f) (gt:=gt) (ge:=ge) (δ:=δ) (λ_=>true) h (items:=items) λd hd=>by
  obtain⟨δ',a,b,c⟩:=H d hd;exact⟨δ',a,b,λ_=>c⟩
 rw[List.filter_eq_self.mpr (by simp)] at this;exact this
theorem strs_map(h:α->Str):∀l:List α,z50 (l.map λa=>.str (h a))=some (l.map h)
 | []=>rfl
 | a::l=>by
  show (z50 (l.map λa=>.str (h a))).map (λr=>h a::r)=_;rw[strs_map h l];rfl
theorem R6{f:D->Ds->Option Ds}{G:GS}(P:Nat->Ds->Prop):∀(items:List D) (i:Nat) (δ:Ds),(∀j d δ,items[j]?=some d->P (i+j) δ->∃δ1 δ2,f d δ=some δ1/\G δ1=some (.nx δ2)/\P (i+j+1) δ2)->P i δ ->
  ∃δ',N7 f G items δ=some (.nx δ')/\P (i+items.length) δ'
 | [],i,δ,_,h=>⟨δ,rfl,h⟩
 | d::ds,i,δ,H,h=>by
  obtain⟨δ1,δ2,e1,e2,h2⟩:=H 0 d δ rfl h;obtain⟨δ',e3,h3⟩:=R6 P ds (i+1) δ2 (λj d δ hj hp=>by
   have q:i+(j+1)=i+1+j:=by omega
   obtain⟨a,b,c,d',e⟩:=H (j+1) d δ (by simpa using hj) (by rw[q];exact hp);exact⟨a,b,c,d',by rw[q] at e;exact e⟩) h2
  have q:i+(d::ds).length=i+1+ds.length:=by rw[List.length_cons];omega
  refine⟨δ',?_,by rw[q];exact h3⟩;unfold N7;rw[e1];simp only[Option.bind_some,e2];exact e3
theorem Yd0{G1 G2:GS}(h:G1 δ=some (.nx δ')):v9 G1 G2 δ=G2 δ':=by unfold v9;rw[h]
theorem o4{G1 G2:GS}{d:D}(h:G1 δ=some (.rt d)):v9 G1 G2 δ=some (.rt d):=by unfold v9;rw[h]
theorem d7{g:GE}{d:D}(h:g δ=some d):d9 g δ=some (.rt d):=by unfold d9;rw[h];rfl
theorem m9{g:GE}{d:D}(h:g δ=some d):j6 (gN i) g δ=some (.nx (δ.set i (.sh d))):=by unfold j6;rw[h];rfl
theorem T3{g:GB}{Ga Gb:GS}(h:g δ=some true):ifD g Ga Gb δ=Ga δ:=by unfold ifD;rw[h];rfl
theorem Z8{g:GB}{Ga Gb:GS}(h:g δ=some false):ifD g Ga Gb δ=Gb δ:=by unfold ifD;rw[h];rfl
theorem U8{gi:GA}{f:D->Ds->Option Ds}{gt:GB}{ge:GE}{items out:List D}(h1:gi δ=some items)(h2:items.length<=sizeLine)(h3:T8 f gt ge (zn0 n caps δ) items=some out):X8 n caps gi f gt ge δ=some (.lst out):=by
 unfold X8;rw[h1];show (if items.length<=sizeLine then (T8 f gt ge (zn0 n caps δ) items).map D.lst else none)=_;rw[if_pos h2,h3];rfl
theorem O6{gi:GA}{f:D->Ds->Option Ds}{G:GS}{items:List D}{r:Option Res}(h1:gi δ=some items)(h2:N7 f G items δ=r):J9 gi f G δ=r:=by
 unfold J9;rw[h1];exact h2
theorem cons_of{g:GE}{gA:GA}{d:D}(h1:g δ=some d)(h2:gA δ=some ds):z7 g gA δ=some (d::ds):=by unfold z7;rw[h1,h2];rfl
theorem p7{gA:GA}{f:List D->Option D}(h:gA δ=some ds):oA gA f δ=f ds:=by unfold oA;rw[h];rfl
theorem p6{ga gb:GE}{x y:D}{f:D->D->Option D}(h1:ga δ=some x)(h2:gb δ=some y):o2 ga gb f δ=f x y:=by unfold o2;rw[h1,h2];rfl
theorem sd0{g:GE}{gA:GA}{x:D}(h1:g δ=some x)(h2:gA δ=some ds):zl0 g gA δ=ug0 x ds:=by unfold zl0;rw[h1,h2];rfl
theorem z40{xs:List α}{i:Int}(h0:0<=i)(h1:i<xs.length)(d:α):atI xs i=some (xs.getD i.toNat d):=by
 unfold atI ixN;rw[if_pos h0,if_pos h1];show xs[i.toNat]?=_;have:i.toNat<xs.length:=by omega
 simp[List.getD_eq_getElem?_getD,this]
end DL
variable{g ge gb:DL.Ds->Option DL.D}{ds:List DL.D}{gt:DL.Ds->Option Bool}{δ δ':DL.Ds}{G:DL.Ds->Option DL.Res}{gi gA:DL.Ds->Option (List DL.D)}{L:Bool->List DL.D}{F:DL.D}{g0:DL.GE}{g1 g2:DL.GB}
namespace DL
open Spec PyProof.Rows L2
abbrev BS:=Addr->Prop
abbrev St:=L2.St
variable{B B' B₀:DL.BS}
abbrev noH:Hp:=λ_=>none
structure NB(o:Option HO):Prop where
 ne:o≠none
 nf:∀ob u,o≠some (.frz ob u)
instance{o:Option HO}:CoeFun (NB o) (λ_=>o=none->False):=⟨λh e=>h.ne e⟩
theorem NB.of{o:Option HO}{u:HO}(h:o=some u)(n:∀ob u',u≠.frz ob u'):NB o:=by
 subst h;exact⟨λz=>(by cases z),λob u' z=>n ob u' (B3 z)⟩
theorem NB.same(q:Same H H')(h:NB (H a)):NB (H' a):=by
 cases e:H a with
 | none=>exact absurd e h.ne
 | some o=>exact .of (q a o e) λob u z=>h.nf ob u (by rw[e,z])
def SqT'(K:W.Frag)(H:Hp)(B:BS)(a:Addr)(xs:List V):Prop:=¬B a/\H a=some (.tup xs)
def SqL'(K:W.Frag)(H:Hp)(B:BS)(a:Addr)(xs:List V):Prop:=(¬B a/\Rd H a (.lst xs))∨SqL K noH a xs
theorem Uc0{u:HO}(h:Rd noH a u):False:=by
 rcases h with h|⟨o,h⟩<;>cases h
theorem SqT'.to(h:SqT' K H B a xs):SqT K H a xs:=.inl (.inl h.2)
theorem SqL'.to(h:SqL' K H B a xs):SqL K H a xs:=by
 rcases h with h|h|h
 ·exact .inl h.2
 ·exact(Uc0 h).elim
 ·exact .inr h
def Gr(H H':Hp)(B B':BS):Prop:=∀b o,¬B b->H b=some o->¬B' b/\H' b=some o
theorem SqT'.mono(g:Gr H H' B B')(h:SqT' K H B a xs):SqT' K H' B' a xs:=g _ _ h.1 h.2
theorem SqL'.mono(g:Gr H H' B B')(h:SqL' K H B a xs):SqL' K H' B' a xs:=by
 rcases h with⟨n,h|⟨o,h⟩⟩|h
 ·exact .inl ⟨(g _ _ n h).1,.inl (g _ _ n h).2⟩
 ·exact .inl ⟨(g _ _ n h).1,.inr ⟨o,(g _ _ n h).2⟩⟩
 ·exact .inr h
theorem Gr.same(s:Same H H'):Gr H H' B B:=λb o n h=>⟨n,s b o h⟩
theorem Gr.less(h:∀a,B' a->B a):Gr H H B B':=λb o n e=>⟨λz=>n (h b z),e⟩
abbrev KS:=Sum (List Key) (List (List Key))
def dOb:KS->List V->HO
 | .inl ks,xs=>.dK (ks.zip xs)
 | .inr ks,xs=>.dT (ks.zip xs)
def dLn:KS->Nat
 | .inl ks=>ks.length
 | .inr ks=>ks.length
def ml0(fd:FuncData)(x y:Str)(c cd:Addr):Prop :=
 ∃p1 p2 p3,fd.body=.expr (.Subscript (.Name x p1) (.Name y p2) p3)/\fd.scope.isCoroutine=false/\fd.scope.isGenerator=false/\fd.scope.kind=.function/\fd.scope.names.lookup y=some .local/\fd.scope.names.lookup x=some .free /\
  (∀z∈fd.scope.names,z.2≠.cell)/\fd.closure=[(x,c)]/\fd.code=.ref cd/\fd.globals=mainGlobals/\(x==("__debug__" : Str))=false/\(x==("__classdict__" : Str))=false/\(y==("__debug__" : Str))=false /\
  ∀u:Value,bindArgs fd ⟨[u],[]⟩=pure [(y,u)]
def rk(n:Nat):List Key:=(List.range n).map λ(i:Nat)=>Sum.inl (i:Int)
def TelO(K:W.Frag)(H:Hp)(B:BS)(p:Addr)(kvs:List (Key×V)):Prop:=(¬B p/\H p=some (.dK kvs))∨∃xs,SqL' K H B p xs/\kvs=(rk xs.length).zip xs
theorem TelO.mono{p:Addr}(g:Gr H H' B B')(h:TelO K H B p kvs):TelO K H' B' p kvs:=by
 rcases h with h|⟨xs,h,e⟩
 ·exact .inl (g _ _ h.1 h.2)
 ·exact .inr ⟨xs,h.mono g,e⟩
def FnAtH(K:W.Frag)(H:Hp)(B:BS)(f:Addr)(kvs:List (Key×V)):Prop :=
 ∃(oF oC oK:Obj) (fd:FuncData) (c cd p:Addr) (x y:Str),(¬B f/\H f=some (.frz oF (.own f)))/\(oF.cls=.type "function"/\oF.data=.func fd/\ml0 fd x y c cd)/\(¬B c/\H c=some (.frz oC (.own c)))/\oC.data=.cell (some (.ref p)) /\
  (¬B cd/\H cd=some (.frz oK (.own cd)))/\(∃vs t,oK.data=.fields vs/\vs[1]?=some (.str fd.qualname t))/\TelO K H B p kvs
theorem FnAtH.mono{f:Addr}(g:Gr H H' B B')(h:FnAtH K H B f kvs):FnAtH K H' B' f kvs:=by
 obtain⟨oF,oC,oK,fd,c,cd,p,x,y,⟨b1,h1⟩,a,⟨b2,h2⟩,e,⟨b3,h3⟩,q,h4⟩:=h;exact⟨oF,oC,oK,fd,c,cd,p,x,y,g _ _ b1 h1,a,g _ _ b2 h2,e,g _ _ b3 h3,q,h4.mono g⟩
mutual
def Rp(K:W.Frag)(H:Hp)(B:BS):D->V->Prop
 | .non,v=>v=.non
 | .bl b,v=>v=.bl b
 | .int i,v=>v=.int i
 | .str x,v=>v=.str x
 | .tup ds,v=>∃a xs,v=.ref a/\SqT' K H B a xs/\Rps K H B ds xs
 | .lst ds,v=>∃a xs,v=.ref a/\SqL' K H B a xs/\Rps K H B ds xs
 | .dct ks ds,v=>∃a xs,v=.ref a/\¬B a/\H a=some (dOb ks xs)/\dLn ks=xs.length/\Rps K H B ds xs
 | .fn ks ds,v=>∃a xs,v=.ref a/\FnAtH K H B a (ks.zip xs)/\ks.length=xs.length/\Rps K H B ds xs
def Rps(K:W.Frag)(H:Hp)(B:BS):List D->List V->Prop
 | [],xs=>xs=[]
 | d::ds,xs=>∃x r,xs=x::r/\Rp K H B d x/\Rps K H B ds r
end
mutual
theorem Rp.mono(g:Gr H H' B B'):∀{d:D} {v:V},Rp K H B d v->Rp K H' B' d v
 | .non,_,h=>by unfold Rp at h ⊢;exact h
 | .bl _,_,h=>by unfold Rp at h ⊢;exact h
 | .int _,_,h=>by unfold Rp at h ⊢;exact h
 | .str _,_,h=>by unfold Rp at h ⊢;exact h
 | .tup ds,_,h=>by
  unfold Rp at h ⊢;obtain⟨a,xs,e,q,r⟩:=h;exact⟨a,xs,e,q.mono g,Rps.mono g r⟩
 | .lst ds,_,h=>by
  unfold Rp at h ⊢;obtain⟨a,xs,e,q,r⟩:=h;exact⟨a,xs,e,q.mono g,Rps.mono g r⟩
 | .dct ks ds,_,h=>by
  unfold Rp at h ⊢;obtain⟨a,xs,e,n,q,l,r⟩:=h;exact⟨a,xs,e,(g _ _ n q).1,(g _ _ n q).2,l,Rps.mono g r⟩
 | .fn ks ds,_,h=>by
  unfold Rp at h ⊢;obtain⟨a,xs,e,q,l,r⟩:=h;exact⟨a,xs,e,q.mono g,l,Rps.mono g r⟩
theorem Rps.mono(g:Gr H H' B B'):∀{ds:List D} {xs:List V},Rps K H B ds xs->Rps K H' B' ds xs
 | [],_,h=>by unfold Rps at h ⊢;exact h
 | d::ds,_,h=>by
  unfold Rps at h ⊢;obtain⟨x,r,e,h1,h2⟩:=h;exact⟨x,r,e,Rp.mono g h1,Rps.mono g h2⟩
end
theorem U4:Rp K H B .non v=(v=.non):=by unfold Rp;rfl
theorem W7{b:Bool}:Rp K H B (.bl b) v=(v=.bl b):=by unfold Rp;rfl
theorem j5{i:Int}:Rp K H B (.int i) v=(v=.int i):=by unfold Rp;rfl
theorem Z9:Rp K H B (.str x) v=(v=.str x):=by unfold Rp;rfl
theorem X4:Rp K H B (.tup ds) v=∃a xs,v=.ref a/\SqT' K H B a xs/\Rps K H B ds xs:=by conv=>lhs;unfold Rp
theorem Z5:Rp K H B (.lst ds) v=∃a xs,v=.ref a/\SqL' K H B a xs/\Rps K H B ds xs:=by conv=>lhs;unfold Rp
theorem u30{ks:KS}:Rp K H B (.dct ks ds) v=∃a xs,v=.ref a/\¬B a/\H a=some (dOb ks xs)/\dLn ks=xs.length/\Rps K H B ds xs:=by conv=>lhs;unfold Rp
theorem mg0:Rp K H B (.fn ks ds) v=∃a xs,v=.ref a/\FnAtH K H B a (ks.zip xs)/\ks.length=xs.length/\Rps K H B ds xs:=by conv=>lhs;unfold Rp
theorem p20:Rp K H B (.dct (.inl ks) ds) v=∃a xs,v=.ref a/\¬B a/\H a=some (.dK (ks.zip xs))/\ks.length=xs.length/\Rps K H B ds xs:=u30
theorem jx0{ks:List (List Key)}:Rp K H B (.dct (.inr ks) ds) v=∃a xs,v=.ref a/\¬B a/\H a=some (.dT (ks.zip xs))/\ks.length=xs.length/\Rps K H B ds xs:=u30
theorem n6:Rps K H B [] xs=(xs=[]):=by unfold Rps;rfl
theorem p8{d:D}:Rps K H B (d::ds) xs=∃x r,xs=x::r/\Rp K H B d x/\Rps K H B ds r:=by conv=>lhs;unfold Rps
theorem Rps.length:∀{ds:List D} {xs:List V},Rps K H B ds xs->xs.length=ds.length
 | [],_,h=>by rw[n6] at h;subst h;rfl
 | d::ds,_,h=>by
  rw[p8] at h;obtain⟨x,r,rfl,_,h2⟩:=h;simp[Rps.length h2]
theorem Rps.get:∀{ds:List D} {xs:List V} {i:Nat} {d:D},Rps K H B ds xs->ds[i]?=some d->∃x,xs[i]?=some x/\Rp K H B d x
 | [],_,_,_,_,e=>by simp at e
 | d::ds,_,0,d',h,e=>by
  rw[p8] at h;obtain⟨x,r,rfl,h1,_⟩:=h;simp at e;subst e;exact⟨x,rfl,h1⟩
 | d::ds,_,i+1,d',h,e=>by
  rw[p8] at h;obtain⟨x,r,rfl,_,h2⟩:=h;obtain⟨y,e1,e2⟩:=Rps.get (i:=i) h2 (by simpa using e);exact⟨y,by simpa using e1,e2⟩
theorem Rps.snoc:∀{ds:List D} {xs:List V} {d:D} {x:V},Rps K H B ds xs->Rp K H B d x->Rps K H B (ds++[d]) (xs++[x])
 | [],_,_,_,h,r=>by
  rw[n6] at h;subst h;rw[List.nil_append,List.nil_append,p8];exact⟨_,[],rfl,r,by rw[n6]⟩
 | d::ds,_,_,_,h,r=>by
  rw[p8] at h;obtain⟨y,t,rfl,h1,h2⟩:=h;rw[List.cons_append,List.cons_append,p8];exact⟨y,_,rfl,h1,Rps.snoc h2 r⟩
theorem Rps.append:∀{ds es:List D} {xs ys:List V},Rps K H B ds xs->Rps K H B es ys->Rps K H B (ds++es) (xs++ys)
 | [],_,_,_,h,r=>by rw[n6] at h;subst h;exact r
 | d::ds,_,_,_,h,r=>by
  rw[p8] at h;obtain⟨y,t,rfl,h1,h2⟩:=h;rw[List.cons_append,List.cons_append,p8];exact⟨y,_,rfl,h1,Rps.append h2 r⟩
theorem Rps.drop:∀{ds:List D} {xs:List V} (n:Nat),Rps K H B ds xs->Rps K H B (ds.drop n) (xs.drop n)
 | _,_,0,h=>h
 | [],_,n+1,h=>by rw[n6] at h;subst h;simpa [n6]
 | d::ds,_,n+1,h=>by
  rw[p8] at h;obtain⟨y,t,rfl,h1,h2⟩:=h
  simpa using Rps.drop n h2
theorem Rps.take:∀{ds:List D} {xs:List V} (n:Nat),Rps K H B ds xs->Rps K H B (ds.take n) (xs.take n)
 | _,_,0,h=>by simp[n6]
 | [],_,n+1,h=>by rw[n6] at h;subst h;simp[n6]
 | d::ds,_,n+1,h=>by
  rw[p8] at h;obtain⟨y,t,rfl,h1,h2⟩:=h;rw[List.take_succ_cons,List.take_succ_cons,p8];exact⟨y,_,rfl,h1,Rps.take n h2⟩
theorem Rps.same(s:Same H H')(h:Rps K H B ds xs):Rps K H' B ds xs:=Rps.mono (Gr.same s) h
theorem Rp.same{d:D}(s:Same H H')(h:Rp K H B d v):Rp K H' B d v:=Rp.mono (Gr.same s) h
def RpO(K:W.Frag)(H:Hp)(B:BS)(d:D)(a:Addr):Prop:=match d with
 | .lst ds=>∃xs,H a=some (.lst xs)/\Rps K H B ds xs
 | .dct ks ds=>∃xs,H a=some (dOb ks xs)/\dLn ks=xs.length/\Rps K H B ds xs
 | _=>False
theorem RpO.same{d:D}(s:Same H H')(h:RpO K H B d a):RpO K H' B d a:=by
 cases d<;>try exact h.elim
 ·obtain⟨xs,e,r⟩:=h;exact⟨xs,s _ _ e,r.same s⟩
 ·obtain⟨xs,e,l,r⟩:=h;exact⟨xs,s _ _ e,l,r.same s⟩
theorem RpO.rp{d:D}(l:∀a,B' a->B a)(n:¬B' a)(h:RpO K H B d a):Rp K H B' d (.ref a):=by
 cases d<;>try exact h.elim
 ·obtain⟨xs,e,r⟩:=h
  rw[Z5];exact⟨a,xs,rfl,.inl ⟨n,.inl e⟩,r.mono (Gr.less l)⟩
 ·obtain⟨xs,e,q,r⟩:=h
  rw[u30];exact⟨a,xs,rfl,n,e,q,r.mono (Gr.less l)⟩
theorem RpO.live{d:D}(h:RpO K H B d a):NB (H a):=by
 cases d<;>try exact h.elim
 ·obtain⟨xs,e,r⟩:=h;exact .of e λ_ _=>λz=>nomatch z
 ·obtain⟨xs,e,q,r⟩:=h;refine .of e λ_ _ z=>?_;unfold dOb at z;split at z<;>cases z
def RpL(K:W.Frag)(H:Hp)(B:BS)(d:D)(a:Addr):Prop:=match d with
 | .tup es=>∃ds,es=[.int (a:Int),.lst ds]/\∃xs,H a=some (.lst xs)/\Rps K H B ds xs
 | d=>RpO K H B d a
theorem RpO.toL{d:D}(h:RpO K H B d a):RpL K H B d a:=by
 cases d with
 | tup es=>exact(show False from h).elim
 | _=>exact h
theorem RpL.toO{d:D}(n:isL d=false)(h:RpL K H B d a):RpO K H B d a:=by
 cases d with
 | tup es=>cases n
 | _=>exact h
theorem RpL.same{d:D}(s:Same H H')(h:RpL K H B d a):RpL K H' B d a:=by
 cases d with
 | tup es=>obtain⟨ds,q,xs,e,r⟩:=h;exact⟨ds,q,xs,s _ _ e,r.same s⟩
 | _=>exact(RpO.same s (RpL.toO rfl h)).toL
theorem RpL.rp{d:D}(l:∀a,B' a->B a)(n:¬B' a)(h:RpL K H B d a):Rp K H B' (unl d) (.ref a):=by
 cases d with
 | tup es=>obtain⟨ds,rfl,xs,e,r⟩:=h;exact RpO.rp (d:=.lst ds) l n ⟨xs,e,r⟩
 | _=>exact RpO.rp l n (RpL.toO rfl h)
theorem RpL.live{d:D}(h:RpL K H B d a):NB (H a):=by
 cases d with
 | tup es=>obtain⟨ds,q,xs,e,r⟩:=h;exact .of e λ_ _=>λz=>nomatch z
 | _=>exact RpO.live (RpL.toO rfl h)
def Ui0(a C:Addr)(od:Option Addr):Heap->Prop:=λh=>∃oe,h.get? a=some oe/\oe.cls=.ref C/\(∀dx,od=some dx->oe.dict=some dx)/\∃vs,oe.data=.fields vs
def Up0(H:Hp)(B:BS)(od:Option Addr):Option Int->Prop
 | none=>True
 | some n=>∃dx,od=some dx/\¬B dx/\H dx=some (.xd [("at",.int n)])
def XcR(K:W.Frag)(H:Hp)(B:BS)(c:Str)(n:Option Int)(a:Addr):Prop:=∃C od,¬B a/\H a=some (.ext (Ui0 a C od))/\W.nsIn K mainGlobals c=some (some (.ref C))/\Up0 H B od n
theorem XcR.mono{c:Str}{n:Option Int}(g:Gr H H' B B')(h:XcR K H B c n a):XcR K H' B' c n a:=by
 obtain⟨C,od,h1,h2,h3,h4⟩:=h;refine⟨C,od,(g _ _ h1 h2).1,(g _ _ h1 h2).2,h3,?_⟩;cases n with
 | none=>trivial
 | some n=>obtain⟨dx,e,q1,q2⟩:=h4;exact⟨dx,e,(g _ _ q1 q2).1,(g _ _ q1 q2).2⟩
def SlR(K:W.Frag)(H:Hp)(B:BS)(o:Option V):Sl->Prop
 | .un=>True
 | .sh d=>∃v,o=some v/\Rp K H B d v
 | .ow d=>∃a,o=some (.ref a)/\B a/\RpL K H B d a
 | .ex c n=>∃a,o=some (.ref a)/\XcR K H B c n a
theorem Pd.get{F:α->β->Prop}:∀{l:List α} {m:List β} {i:Nat} {b:β},Paired F l m->m[i]?=some b->∃a,l[i]?=some a/\F a b
 | _,_,_,_,.nil,e=>by simp at e
 | _,_,0,_,.cons r _,e=>by simp at e;subst e;exact⟨_,rfl,r⟩
 | _,_,i+1,b,.cons _ t,e=>by
  obtain⟨u,h1,h2⟩:=Pd.get (i:=i) (b:=b) t (by simpa using e);exact⟨u,by simpa using h1,h2⟩
theorem Pd.imp{F G:α->β->Prop}(h:∀a b,F a b->G a b):∀{l:List α} {m:List β},Paired F l m->Paired G l m
 | _,_,.nil=>.nil
 | _,_,.cons r t=>.cons (h _ _ r) (Pd.imp h t)
theorem Pd.set{F:α->β->Prop}{a:α}{b:β}(r:F a b):∀{l:List α} {m:List β} (i:Nat),Paired F l m->Paired F (l.set i a) (m.set i b)
 | _,_,_,.nil=>.nil
 | _,_,0,.cons _ t=>.cons r t
 | _,_,i+1,.cons q t=>.cons q (Pd.set r i t)
theorem Pd.len{F:α->β->Prop}:∀{l:List α} {m:List β},Paired F l m->l.length=m.length
 | _,_,.nil=>rfl
 | _,_,.cons _ t=>by simp[Pd.len t]
theorem Pd.app{F:α->β->Prop}:∀{l l':List α} {m m':List β},Paired F l m->Paired F l' m'->Paired F (l++l') (m++m')
 | _,_,_,_,.nil,s=>s
 | _,_,_,_,.cons r t,s=>.cons r (Pd.app t s)
structure Env(K:W.Frag)(H:Hp)(B:BS)(σ:St)(δ:Ds):Prop where
 all:Paired (SlR K H B) σ δ
 bad:∀a,B a->NB (H a)
 own:∀(i j:Nat) (a:Addr) (ds es:D),δ[i]?=some (.ow ds)->δ[j]?=some (.ow es)->σ[i]?=some (some (.ref a))->σ[j]?=some (some (.ref a))->i=j
section
variable{σ σ':St}
theorem SlR.same{o:Option V}{s:Sl}(q:Same H H')(h:SlR K H B o s):SlR K H' B o s:=by
 cases s with
 | un=>trivial
 | sh d=>obtain⟨v,e,r⟩:=h;exact⟨v,e,r.same q⟩
 | ow d=>obtain⟨a,e,b,r⟩:=h;exact⟨a,e,b,r.same q⟩
 | ex c n=>obtain⟨a,e,r⟩:=h;exact⟨a,e,r.mono (Gr.same q)⟩
theorem Env.same(q:Same H H')(e:Env K H B σ δ):Env K H' B σ δ :=
 ⟨Pd.imp (λ_ _ h=>h.same q) e.all,(λa b=>(e.bad a b).same q),e.own⟩
theorem Env.free(e:Env K H B σ δ){p:Addr}(h:H p=none):¬B p:=λz=>e.bad p z h
theorem Env.get(e:Env K H B σ δ){d:D}(h:δ[i]?=some (.sh d)):∃v,σ[i]?=some (some v)/\Rp K H B d v:=by
 obtain⟨o,h1,v,rfl,r⟩:=Pd.get e.all h;exact⟨v,h1,r⟩
theorem Env.set(e:Env K H B σ δ)(i:Nat){d:D}(r:Rp K H B d v):Env K H B (σ.set i (some v)) (δ.set i (.sh d)):=by
 refine⟨Pd.set ⟨v,rfl,r⟩ i e.all,e.bad,λj k a ds es h1 h2 h3 h4=>?_⟩;have hj:j≠i:=by
  rintro rfl
  by_cases hl:j<δ.length
  ·rw[List.getElem?_set_self hl] at h1;cases h1
  ·rw[List.getElem?_eq_none (by simpa using hl)] at h1;cases h1
 have hk:k≠i:=by
  rintro rfl
  by_cases hl:k<δ.length
  ·rw[List.getElem?_set_self hl] at h2;cases h2
  ·rw[List.getElem?_eq_none (by simpa using hl)] at h2;cases h2
 rw[List.getElem?_set_ne (A4 hj)] at h1 h3;rw[List.getElem?_set_ne (A4 hk)] at h2 h4;exact e.own j k a ds es h1 h2 h3 h4
end
theorem Z1{p:Addr}{o:HO}(h:H p=none):Same H (upd H p o):=λb u e=>by rw[o6 (T9 e h)];exact e
def tD(K:W.Frag)(B:BS)(δ:Ds)(g:Ds->Option D):TE:=fun σ H Q=>∃d,Env K H B σ δ/\g δ=some d/\∀v H',Same H H'->Rp K H' B d v->Q v H'
structure PD(X:Cx)(e:Expr)(g:Ds->Option D):Prop where
 mk::go:∀B δ,PE X e (tD X.K B δ g)
instance{X:Cx}{e:Expr}{g:Ds->Option D}:CoeFun (PD X e g) (λ_=>∀B δ,PE X e (tD X.K B δ g)):=⟨PD.go⟩
def tDT(K:W.Frag)(B:BS)(δ:Ds)(g:Ds->Option Bool):TT:=fun σ H Q=>∃b,Env K H B σ δ/\g δ=some b/\∀H',Same H H'->Q b H'
structure PTD(X:Cx)(e:Expr)(g:Ds->Option Bool):Prop where
 mk::go:∀B δ,PT X e (tDT X.K B δ g)
instance{X:Cx}{e:Expr}{g:Ds->Option Bool}:CoeFun (PTD X e g) (λ_=>∀B δ,PT X e (tDT X.K B δ g)):=⟨PTD.go⟩
structure PWD(X:Cx)(e:Expr)(g:Ds->Option Bool):Prop where
 mk::go:∀B δ,PW X e (tDT X.K B δ g)
instance{X:Cx}{e:Expr}{g:Ds->Option Bool}:CoeFun (PWD X e g) (λ_=>∀B δ,PW X e (tDT X.K B δ g)):=⟨PWD.go⟩
def tDA(K:W.Frag)(B:BS)(δ:Ds)(g:Ds->Option (List D)):TA:=fun σ H Q=>∃ds,Env K H B σ δ/\g δ=some ds/\∀vs H',Same H H'->Rps K H' B ds vs->Q vs H'
structure PDA(X:Cx)(es:List Expr)(g:Ds->Option (List D)):Prop where
 mk::go:∀B δ,PA X es (tDA X.K B δ g)
instance{X:Cx}{es:List Expr}{g:Ds->Option (List D)}:CoeFun (PDA X es g) (λ_=>∀B δ,PA X es (tDA X.K B δ g)):=⟨PDA.go⟩
theorem qy0{d:D}{b:Bool}(h:asB d=some b):d=.bl b:=by
 cases d<;>simp[asB] at h
 subst h;rfl
def Op2(K:W.Frag)(r:R2)(f:D->D->Option D):Prop:=∀(H:Hp) (B:BS) (x y:V) (dx dy d:D) (Q:VK),(∀a,B a->NB (H a))->Rp K H B dx x->Rp K H B dy y->f dx dy=some d->(∀v H',Same H H'->Rp K H' B d v->Q v H')->r x y H Q
def FnR(K:W.Frag)(r:List V->Hp->VK->Prop)(f:List D->Option D):Prop:=∀(H:Hp) (B:BS) (xs:List V) (ds:List D) (d:D) (Q:VK),(∀a,B a->NB (H a))->Rps K H B ds xs->f ds=some d->(∀v H',Same H H'->Rp K H' B d v->Q v H')->r xs H Q
section
variable{a:Expr}{ga:Ds->Option D}{gu:Ds->Option Bool}{rest:List Expr}
theorem _root_.L2.PE.imp{t t':TE}(h:PE X e t)(q:∀σ H Q,t' σ H Q->t σ H Q):PE X e t':=λpins s σ H Q I z=>h pins s σ H Q I (q σ H Q z)
theorem _root_.L2.PT.imp{t t':TT}(h:PT X e t)(q:∀σ H Q,t' σ H Q->t σ H Q):PT X e t':=λpins s σ H Q I z=>h pins s σ H Q I (q σ H Q z)
theorem _root_.L2.PW.imp{t t':TT}(h:PW X e t)(q:∀σ H Q,t' σ H Q->t σ H Q):PW X e t':=λw pins s σ H Q I z=>h w pins s σ H Q I (q σ H Q z)
theorem _root_.L2.PA.imp{t t':TA}(h:PA X es t)(q:∀σ H Q,t' σ H Q->t σ H Q):PA X es t':=λp pins s σ H Q I z=>h p pins s σ H Q I (q σ H Q z)
theorem V50{d:D}(h:gv i δ=some d):δ[i]?=some (.sh d):=by
 unfold gv at h;split at h
 ·cases h;assumption
 ·cases h
theorem z9(i:Nat)(hN:X.N[i]?=some x:=by rfl)(hv:Vis X.env.scope x:=by first|exact Or.inl rfl|exact Or.inr (Or.inl rfl)|exact Or.inr (Or.inr rfl))(hd:(x==("__debug__" : Str))=false:=by decide)
  (hcd:(x==("__classdict__" : Str))=false:=by decide):PD X (.Name x pos) (gv i):=.mk λB δ=>(xl0 (i:=i) hN hv hd hcd).imp fun σ H Q ⟨d,en,h,k⟩=>by
 obtain⟨v,e,r⟩:=en.get (V50 h);exact⟨v,e,k v H (Same.refl H) r⟩
theorem u5{i:Int}:PD X (.Constant (.int i) j pos) (gc (.int i)):=.mk λB δ=>ms0.imp fun σ H Q ⟨d,en,h,k⟩=>by cases h;exact k _ H (Same.refl H) (by rw[j5])
theorem ge0{i:Bool}:PD X (.Constant (.bool i) j pos) (gc (.bl i)):=.mk λB δ=>V90.imp fun σ H Q ⟨d,en,h,k⟩=>by cases h;exact k _ H (Same.refl H) (by rw[W7])
theorem t40:PD X (.Constant .none j pos) (gc .non):=.mk λB δ=>Yo0.imp fun σ H Q ⟨d,en,h,k⟩=>by cases h;exact k _ H (Same.refl H) (by rw[U4])
theorem j7:PD X (.Constant (.str x) j pos) (gc (.str x)):=.mk λB δ=>X60.imp fun σ H Q ⟨d,en,h,k⟩=>by cases h;exact k _ H (Same.refl H) (by rw[Z9])
theorem jd0(hm:∃t,X.mg x=some (.str y t))(hg:Gl X x:=by rfl)(hd:(x==("__debug__" : Str))=false:=by decide):PD X (.Name x pos) (gc (.str y)):=.mk λB δ=>by
 obtain⟨t,hm⟩:=hm;exact(sl0 (v:=.str y) hg hm ⟨t,rfl⟩ hd).imp fun σ H Q ⟨d,en,h,k⟩=>by cases h;exact k _ H (Same.refl H) (by rw[Z9])
theorem zb0{i:Int}(hm:∃t,X.mg x=some (.int i t))(hg:Gl X x:=by rfl)(hd:(x==("__debug__" : Str))=false:=by decide):PD X (.Name x pos) (gc (.int i)):=.mk λB δ=>by
 obtain⟨t,hm⟩:=hm;exact(sl0 (v:=.int i) hg hm ⟨t,rfl⟩ hd).imp fun σ H Q ⟨d,en,h,k⟩=>by cases h;exact k _ H (Same.refl H) (by rw[j5])
theorem pd0{r:R2}{f:D->D->Option D}(hf:Op2 K r f){σ:St}{Q:VK}(h:tD K B δ (o2 ga gb f) σ H Q):tOp r (tD K B δ ga) (tD K B δ gb) σ H Q:=by
 obtain⟨d,en,h,k⟩:=h;unfold o2 at h;cases e1:ga δ with
 | none=>rw[e1] at h;cases h
 | some x =>
  cases e2:gb δ with
  | none=>rw[e1,e2] at h;cases h
  | some y =>
   rw[e1,e2] at h;refine⟨x,en,e1,λv1 H1 s1 r1=>⟨y,en.same s1,e2,λv2 H2 s2 r2=>?_⟩⟩;exact hf H2 B v1 v2 x y d Q ((en.same s1).same s2).bad (r1.same s2) r2 h λv H' s r=>k v H' ((s1.trans s2).trans s) r
theorem v90{op:Operator}{r:R2}{f:D->D->Option D}(ho:OpR X (binaryOp op) r)(hf:Op2 X.K r f)(ha:PD X a ga)(hb:PD X b gb):PD X (.BinOp a op b pos) (o2 ga gb f):=.mk λB δ=>(bb0 ho (ha B δ) (hb B δ)).imp fun σ H Q h=>pd0 hf h
theorem ea0{op:CmpOp}{r:R2}{f:D->D->Option D}(ho:OpR X (compareOp op) r)(hf:Op2 X.K r f)(ha:PD X a ga)(hb:PD X b gb)(hm:behindInMarks op b=false:=by first|exact eb0 _|with_unfolding_all rfl):PD X (.Compare a [op] [b] pos) (o2 ga gb f) :=
 .mk λB δ=>(Y10 ho (ha B δ) (hb B δ) hm).imp fun σ H Q h=>pd0 hf h
theorem Vs0{r:R2}{f:D->D->Option D}(ho:IxR X r)(hf:Op2 X.K r f)(ha:PD X a ga)(hb:PD X b gb)(hs:u80 b:=by exact λ_ _=>rfl):PD X (.Subscript a b pos) (o2 ga gb f) :=
 .mk λB δ=>(me0 ho (ha B δ) (hb B δ) hs).imp fun σ H Q h=>pd0 hf h
theorem o8{op:CmpOp}{r:R2}{f:D->D->Option D}(ho:OpR X (compareOp op) r)(hf:Op2 X.K r f)(ha:PD X a ga)(hb:PD X b gb)(hm:behindInMarks op b=false:=by first|exact eb0 _|with_unfolding_all rfl):PTD X (.Compare a [op] [b] pos) (ob (o2 ga gb f)) :=
 .mk λB δ=>(Z30 ho (ha B δ) (hb B δ) hm).imp fun σ H Q ⟨t,en,h,k⟩=>by
  unfold ob at h;cases e:o2 ga gb f δ with
  | none=>rw[e] at h;cases h
  | some d =>
   rw[e] at h;cases qy0 h;exact pd0 hf ⟨_,en,e,λv H' s r=>⟨t,by rw[W7] at r;exact r,k H' s⟩⟩
theorem vs0(h:PD X e g)(he:∀whole,isTrue e X.env whole=(do let v ← whole;standAt e.pos;holding [v] (truthy v)):=by intro _;rfl):PTD X e (ob g) :=
 .mk λB δ=>(Ye0 (h B δ) he).imp fun σ H Q ⟨t,en,h,k⟩=>by
  unfold ob at h;cases e:g δ with
  | none=>rw[e] at h;cases h
  | some d =>
   rw[e] at h;cases qy0 h;exact⟨_,en,e,λv H' s r=>⟨t,by rw[W7] at r;exact r,k H' s⟩⟩
theorem vu0(h:PTD X a gt):PWD X (.BoolOp .Or [a] pos) gt:=.mk λB δ=>Wh0 (h B δ)
theorem vk0(ha:PTD X a gt)(hb:PWD X (.BoolOp .Or (b::rest) pos) gu):PWD X (.BoolOp .Or (a::b::rest) pos) (z00 gt gu) :=
 .mk λB δ=>(Ua0 (ha B δ) (hb B δ)).imp fun σ H Q ⟨t,en,h,k⟩=>by
  unfold z00 at h;cases e:gt δ with
  | none=>rw[e] at h;cases h
  | some b =>
   rw[e] at h;refine⟨b,en,e,λH' s=>?_⟩;cases b with
   | false=>exact⟨t,en.same s,h,λJ s'=>k J (s.trans s')⟩
   | true =>
    simp at h;subst h;rw[if_pos rfl];exact k H' s
theorem PWD.pt(h:PWD X e gt):PTD X e gt:=.mk λB δ=>(h B δ).pt
theorem Yx0{op}(h:PD X a g):PD X (.BoolOp op [a] pos) g:=.mk λB δ=>W60 (h B δ)
theorem Ya0(ha:PD X a ga)(hb:PD X (.BoolOp .And (b::rest) pos) gb):PD X (.BoolOp .And (a::b::rest) pos) (he0 ga gb) :=
 .mk λB δ=>(Yb0 (ha B δ) (hb B δ)).imp fun σ H Q ⟨d,en,h,k⟩=>by
  unfold he0 ob at h;cases e:ga δ with
  | none=>rw[e] at h;cases h
  | some x =>
   rw[e] at h;refine⟨x,en,e,λv H' s r=>?_⟩;cases x with
   | bl c =>
    rw[W7] at r;refine⟨c,r,?_⟩;cases c with
    | true=>exact⟨d,en.same s,h,λv J s'=>k v J (s.trans s')⟩
    | false =>
     simp[asB] at h;rw[if_neg B8];exact k _ H' s (by rw[← h,W7])
   | _=>simp[asB] at h
theorem Vh0(hc:PTD X c gt)(ha:PD X a ga)(hb:PD X b gb):PD X (.IfExp c a b pos) (ifG gt ga gb) :=
 .mk λB δ=>(dg0 (hc B δ) (ha B δ) (hb B δ)).imp fun σ H Q ⟨d,en,h,k⟩=>by
  unfold ifG at h;cases e:gt δ with
  | none=>rw[e] at h;cases h
  | some t =>
   rw[e] at h;refine⟨t,en,e,λH' s=>?_⟩;cases t with
   | true=>exact⟨d,en.same s,h,λv J s'=>k v J (s.trans s')⟩
   | false=>exact⟨d,en.same s,h,λv J s'=>k v J (s.trans s')⟩
theorem v5:PDA X [] v6:=.mk λB δ=>J0.imp fun σ H Q ⟨ds,en,h,k⟩=>by cases h;exact k [] H (Same.refl H) (by rw[n6])
theorem z8(ha:PD X e g)(hr:PDA X es gA)(hs:starEach (e::es) X.env=(false,eval e X.env)::starEach es X.env:=by rfl):PDA X (e::es) (z7 g gA) :=
 .mk λB δ=>(R5 (ha B δ) (hr B δ) hs).imp fun σ H Q ⟨ds,en,h,k⟩=>by
  unfold z7 at h;cases e1:g δ with
  | none=>rw[e1] at h;cases h
  | some d =>
   cases e2:gA δ with
   | none=>rw[e1,e2] at h;cases h
   | some es' =>
    rw[e1,e2] at h;cases h;refine⟨d,en,e1,λv H1 s1 r1=>⟨es',en.same s1,e2,λvs H2 s2 r2=>k _ H2 (s1.trans s2) ?_⟩⟩;rw[p8];exact⟨v,vs,rfl,r1.same s2,r2⟩
theorem T6{x1}(h:PDA X es gA):PD X (.Tuple es x1 pos) (R0 gA) :=
 .mk λB δ=>(Xr0 (h B δ)).imp fun σ H Q ⟨d,en,h,k⟩=>by
  unfold R0 at h;cases e1:gA δ with
  | none=>rw[e1] at h;cases h
  | some ds =>
   rw[e1] at h
   by_cases hl:ds.length<=sizeLine
   ·simp only[Option.bind_some,if_pos hl] at h
    cases h;refine⟨ds,en,e1,λvs H1 s1 r1=>⟨by rw[r1.length];exact hl,λp hp=>k _ _ (s1.trans (Z1 hp)) ?_⟩⟩;rw[X4];exact⟨p,vs,rfl,⟨(en.same s1).free hp,m8⟩,r1.same (Z1 hp)⟩
   ·simp only[Option.bind_some,if_neg hl] at h
    cases h
theorem xj0(h:PDA X es gA):PD X (.List es pos) (W5 gA) :=
 .mk λB δ=>(tt0 (h B δ)).imp fun σ H Q ⟨d,en,h,k⟩=>by
  unfold W5 at h;cases e1:gA δ with
  | none=>rw[e1] at h;cases h
  | some ds =>
   rw[e1] at h
   by_cases hl:ds.length<=sizeLine
   ·simp only[Option.bind_some,if_pos hl] at h
    cases h;refine⟨ds,en,e1,λvs H1 s1 r1=>⟨by rw[r1.length];exact hl,λp hp=>k _ _ (s1.trans (Z1 hp)) ?_⟩⟩;rw[Z5];exact⟨p,vs,rfl,.inl ⟨(en.same s1).free hp,.inl m8⟩,r1.same (Z1 hp)⟩
   ·simp only[Option.bind_some,if_neg hl] at h
    cases h
theorem le0{f:List D->Option D}(hf:FnR K r f){σ:St}{Q:VK}(h:tD K B δ (oA gA f) σ H Q):tCB r (tDA K B δ gA) σ H Q:=by
 obtain⟨d,en,h,k⟩:=h;unfold oA at h;cases e1:gA δ with
 | none=>rw[e1] at h;cases h
 | some ds =>
  rw[e1] at h;exact⟨ds,en,e1,λvs H1 s1 r1=>hf H1 B vs ds d Q (en.same s1).bad r1 h λv H' s r=>k v H' (s1.trans s) r⟩
theorem wj0{id:String}{p:Pos}{f:List D->Option D}(hc:CallR X (.builtin id) r)(hf:FnR X.K r f)(hm:X.mg x=none)(hv:bootBuiltins x=some (.builtin id))(ha:PDA X (e::es) gA)(hg:Gl X x:=by rfl)
  (hn:x ≠"__name__" := by decide) (hdb:(x==("__debug__" : Str))=false:=by decide) (he:starEach (e::es) X.env=(false,eval e X.env)::starEach es X.env:=by rfl) (hpl:(backTo pos (starEach es X.env)).any (·.1)=false:=by rfl) :
  PD X (.Call (.Name x p) (e::es) [] pos) (oA gA f):=.mk λB δ=>(km0 hc hg hm hv (ha B δ) hn hdb he hpl).imp fun σ H Q h=>le0 hf h
theorem S9{T:String}{p:Pos}{f:List D->Option D}(hc:CallR X (.type T) r)(hf:FnR X.K r f)(hm:X.mg x=none)(hv:bootBuiltins x=some (.type T))(ha:PDA X (e::es) gA)(hg:Gl X x:=by rfl)
  (hn:x ≠"__name__" := by decide) (hdb:(x==("__debug__" : Str))=false:=by decide) (he:starEach (e::es) X.env=(false,eval e X.env)::starEach es X.env:=by rfl) (hpl:(backTo pos (starEach es X.env)).any (·.1)=false:=by rfl) :
  PD X (.Call (.Name x p) (e::es) [] pos) (oA gA f):=.mk λB δ=>(ty0 hc hg hm hv (ha B δ) hn hdb he hpl).imp fun σ H Q h=>le0 hf h
def spD(K:W.Frag)(f:List D->Option D):Sp:=λvs H Q _=>∃(B:BS) (ds:List D) (d:D),(∀a,B a->NB (H a))/\Rps K H B ds vs/\f ds=some d/\∀v H',Same H H'->Rp K H' B d v->Q v H'
theorem ai0{k:Nat}{ps:List Str}{p:Pos}{f:List D->Option D}(F:FnOk X.prog X.w X.K X.mg X.base CX0 k fa fd ps (spD X.K f))(hr:Room k X.A)(hm:X.mg x=some (.ref fa))(hk:W.keepIn X.K (.ref fa)=true)(hb:Binds X.K fd ps [])
  (ha:PDA X (e::es) gA) (hg:Gl X x:=by rfl) (hdb:(x==("__debug__" : Str))=false:=by decide) (he:starEach (e::es) X.env=(false,eval e X.env)::starEach es X.env:=by rfl) (hpl:(backTo pos (starEach es X.env)).any (·.1)=false:=by rfl) :
  PD X (.Call (.Name x p) (e::es) [] pos) (oA gA f):=.mk λB δ=>(pq0 (E:=E0) F hr hg hm hk hb .nil mf0 (ha B δ) hdb he hpl).imp fun σ H Q h=>by
 obtain⟨d,en,h,k⟩:=h;unfold oA at h;cases e1:gA δ with
 | none=>rw[e1] at h;cases h
 | some ds =>
  rw[e1] at h;refine⟨ds,en,e1,λvs H1 s1 r1=>?_⟩;show spD X.K f (vs++[]) H1 Q E0;rw[List.append_nil];exact⟨B,ds,d,(en.same s1).bad,r1,h,λv H' s r=>k v H' (s1.trans s) r⟩
end
end DL
variable{B B' B₀:DL.BS}
namespace DL
open Spec PyProof.Rows L2
structure EnvS(K:W.Frag)(H₀:Hp)(B₀:BS)(H:Hp)(σ:St)(δ:Ds):Prop where
 same:Same H₀ H
 ex:∃B:BS,(∀a,B₀ a->B a)/\(∀a,B a->B₀ a∨H₀ a=none)/\Env K H B σ δ
 fr:∀(i:Nat) (ds:D) (a:Addr),δ[i]?=some (.ow ds)->σ[i]?=some (some (.ref a))->H₀ a=none
 b0:∀a,B₀ a->NB (H₀ a)
def W30(K:W.Frag)(H₀:Hp)(B₀:BS)(D:Ends):Res->Prop
 | .nx δ=>∀σ H,EnvS K H₀ B₀ H σ δ->D.nx σ H
 | .rt d=>∀v H,Same H₀ H->Rp K H B₀ d v->D.rt v H
 | .bk δ=>∀σ H,EnvS K H₀ B₀ H σ δ->D.bk σ H
 | .ct δ=>∀σ H,EnvS K H₀ B₀ H σ δ->D.ct σ H
 | .rf d=>∀p H,H₀ p=none->Same H₀ H->RpL K H (λa=>B₀ a∨a=p) d p->D.rt (.ref p) H
def tDS(K:W.Frag)(H₀:Hp)(B₀:BS)(δ:Ds)(G:Ds->Option Res):TS:=λD σ H=>∃r,EnvS K H₀ B₀ H σ δ/\G δ=some r/\W30 K H₀ B₀ D r
structure PSD(X:Cx)(st:Stmt)(G:Ds->Option Res):Prop where
 mk::go:∀H₀ B₀ δ,PS X st (tDS X.K H₀ B₀ δ G)
instance{X:Cx}{st:Stmt}{G:Ds->Option Res}:CoeFun (PSD X st G) (λ_=>∀H₀ B₀ δ,PS X st (tDS X.K H₀ B₀ δ G)):=⟨PSD.go⟩
structure PSsD(X:Cx)(st:List Stmt)(G:Ds->Option Res):Prop where
 mk::go:∀H₀ B₀ δ,PSs X st (tDS X.K H₀ B₀ δ G)
instance{X:Cx}{st:List Stmt}{G:Ds->Option Res}:CoeFun (PSsD X st G) (λ_=>∀H₀ B₀ δ,PSs X st (tDS X.K H₀ B₀ δ G)):=⟨PSsD.go⟩
section
variable{σ:St}
theorem EnvS.grow(e:EnvS K H₀ B₀ H σ δ)(s:Same H H'):EnvS K H₀ B₀ H' σ δ:=⟨e.same.trans s,let ⟨B,b1,b2,en⟩:=e.ex;⟨B,b1,b2,en.same s⟩,e.fr,e.b0⟩
end
structure Wr(idx:List Nat)(σ σ':St)(δ δ':Ds):Prop where
 len:σ'.length=σ.length
 oth:∀j,j∉idx->σ'[j]?=σ[j]?/\δ'[j]?=δ[j]?
 own:∀j∈idx,∀ds,δ'[j]?≠some (.ow ds)
def tDG(K:W.Frag)(idx:List Nat)(f:D->Ds->Option Ds)(B:BS)(d:D)(δ:Ds):TG:=λv σ H Q=>∃δ',Rp K H B d v/\Env K H B σ δ/\f d δ=some δ'/\∀σ',Wr idx σ σ' δ δ'->Env K H B σ' δ'->Q σ' H
structure PGD(X:Cx)(tg:Expr)(idx:List Nat)(f:D->Ds->Option Ds):Prop where
 mk::go:∀B d δ,PG X tg (tDG X.K idx f B d δ)
instance{X:Cx}{tg:Expr}{idx:List Nat}{f:D->Ds->Option Ds}:CoeFun (PGD X tg idx f) (λ_=>∀B d δ,PG X tg (tDG X.K idx f B d δ)):=⟨PGD.go⟩
theorem _root_.L2.PG.imp{t t':TG}(h:PG X tg t)(q:∀v σ H Q,t' v σ H Q->t v σ H Q):PG X tg t':=λpins s σ H v u Q I r z=>h pins s σ H v u Q I r (q v σ H Q z)
theorem pl0{σ:St}{d:D}:Wr [i] σ (σ.set i (some v)) δ (δ.set i (.sh d)):=by
 refine⟨by simp,λj hj=>?_,λj hj ds h=>?_⟩
 ·have:j≠i:=by simpa using hj
  rw[List.getElem?_set_ne (A4 this),List.getElem?_set_ne (A4 this)];exact⟨rfl,rfl⟩
 ·have:j=i:=by simpa using hj
  subst this
  by_cases hl:j<δ.length
  ·rw[List.getElem?_set_self hl] at h;cases h
  ·rw[List.getElem?_eq_none (by simpa using hl)] at h;cases h
theorem t6(i:Nat){pos:Pos}(hN:X.N.Nodup)(hi:X.N[i]?=some x:=by rfl)(hx:Loc X.env.scope x:=by first|exact Or.inl rfl|exact Or.inr rfl)
  (hf:X.fn x=true∨X.env.scope.names.lookup x=some .local:=by first|exact .inl rfl|exact .inr rfl|assumption):PGD X (.Name x pos) [i] (gN i):=.mk λB d δ=>(zx0 (i:=i) hN hi hx hf).imp λv σ H Q ⟨δ',r,en,e,k⟩=>by
 cases e;exact k _ pl0 (en.set i r)
section
variable{G1 G2 Ga Gb:Ds->Option Res}{as bs body:List Stmt}
theorem v7:PSsD X [] u9:=.mk λH₀ B₀ δ pins s σ H D I ⟨r,en,e,k⟩=>by
 cases e;exact u90 pins s σ H D I (k σ H en)
theorem w6(h1:PSD X st G1)(h2:PSsD X rest G2):PSsD X (st::rest) (v9 G1 G2):=.mk λH₀ B₀ δ pins s σ H D I ⟨r,en,e,k⟩=>by
 unfold v9 at e;cases e1:G1 δ with
 | none=>rw[e1] at e;cases e
 | some r1 =>
  rw[e1] at e;cases r1 with
  | nx δ'=>exact U5 (h1 H₀ B₀ δ) (h2 H₀ B₀ δ') pins s σ H D I ⟨_,en,e1,fun σ' H' en'=>⟨r,en',e,k⟩⟩
  | rt d=>cases e;exact U5 (h1 H₀ B₀ δ) M9 pins s σ H D I ⟨_,en,e1,k⟩
  | bk δ'=>cases e;exact U5 (h1 H₀ B₀ δ) M9 pins s σ H D I ⟨_,en,e1,k⟩
  | ct δ'=>cases e;exact U5 (h1 H₀ B₀ δ) M9 pins s σ H D I ⟨_,en,e1,k⟩
  | rf d=>cases e;exact U5 (h1 H₀ B₀ δ) M9 pins s σ H D I ⟨_,en,e1,k⟩
theorem o7(h:PD X e g):PSD X (.Return (some e) pos) (d9 g):=.mk λH₀ B₀ δ pins s σ H D I ⟨r,en,e1,k⟩=>by
 unfold d9 at e1;obtain⟨B,b1,b2,env⟩:=en.ex;cases e2:g δ with
 | none=>rw[e2] at e1;cases e1
 | some d =>
  rw[e2] at e1;cases e1;exact ph0 (h B δ) pins s σ H D I ⟨d,env,e2,λv H' s' r=>k v H' (en.same.trans s') (r.mono (Gr.less b1))⟩
theorem EnvS.wr{σ σ':St}(e:EnvS K H₀ B₀ H σ δ)(b1:∀a,B₀ a->B a)(b2:∀a,B a->B₀ a∨H₀ a=none)(s:Same H H')(w:Wr idx σ σ' δ δ')(en:Env K H' B σ' δ'):EnvS K H₀ B₀ H' σ' δ':=by
 refine⟨e.same.trans s,⟨B,b1,b2,en⟩,λi ds a h1 h2=>?_,e.b0⟩
 by_cases hi:i∈idx
 ·exact absurd h1 (w.own i hi ds)
 ·rw[(w.oth i hi).2] at h1
  rw[(w.oth i hi).1] at h2;exact e.fr i ds a h1 h2
theorem j4{f:D->Ds->Option Ds}(h:PD X e g)(hg:PGD X tg idx f)(hs:swapsWithSole [tg] e pos.line X.env=pure false:=by rfl)(hw:swappedStores [tg] e X.env=pure none:=by rfl)
  (h1:(assignEach [tg] X.env).map (·.2)=[assign tg X.env]:=by rfl):PSD X (.Assign [tg] e pos) (j6 f g):=.mk λH₀ B₀ δ pins s σ H D I ⟨r,en,e1,k⟩=>by
 unfold j6 at e1;obtain⟨B,b1,b2,env⟩:=en.ex;cases e2:g δ with
 | none=>rw[e2] at e1;cases e1
 | some d =>
  rw[e2] at e1;simp only[Option.bind_some] at e1;cases e3:f d δ with
  | none=>rw[e3] at e1;cases e1
  | some δ' =>
   rw[e3] at e1;cases e1;exact po0 (h B δ) (hg B d δ) hs hw h1 pins s σ H D I ⟨d,env,e2,λv H' s' r=>⟨δ',r,env.same s',e3,fun σ' w en'=>k σ' H' (en.wr b1 b2 s' w en')⟩⟩
theorem b8(hc:PTD X c gt)(ha:PSsD X as Ga)(hb:PSsD X bs Gb):PSD X (.If c as bs pos) (ifD gt Ga Gb):=.mk λH₀ B₀ δ pins s σ H D I ⟨r,en,e1,k⟩=>by
 unfold ifD at e1;obtain⟨B,b1,b2,env⟩:=en.ex;cases e2:gt δ with
 | none=>rw[e2] at e1;cases e1
 | some t =>
  rw[e2] at e1;refine h70 (hc B δ) (ha H₀ B₀ δ) (hb H₀ B₀ δ) pins s σ H D I ⟨t,env,e2,λH' s'=>?_⟩;cases t with
  | true=>exact⟨r,en.grow s',e1,k⟩
  | false=>exact⟨r,en.grow s',e1,k⟩
structure ItD(K:W.Frag)(B:BS)(J:It)(items:List D)(H₁:Hp):Prop where
 go:∀i H,Gr H₁ H B B->i<items.length->J.go i H
 yld:∀i H x H',Gr H₁ H B B->J.yld i H x H'->i<items.length->Same H H'/\∃d,items[i]?=some d/\∀B':BS,Gr H₁ H' B B'->(∀a,B' a->NB (H a))->Rp K H' B' d x
 stop:∀i H,Gr H₁ H B B->items.length<=i->J.stop i H
def tDI(K:W.Frag)(B:BS)(δ:Ds)(g:Ds->Option (List D)):TI:=fun σ H R=>∃items,Env K H B σ δ/\g δ=some items/\∀J H',Same H H'->ItD K B J items H'->R J H'
structure PID(X:Cx)(tg e:Expr)(g:Ds->Option (List D)):Prop where
 mk::go:∀B δ,PI X tg e (tDI X.K B δ g)
instance{X:Cx}{tg e:Expr}{g:Ds->Option (List D)}:CoeFun (PID X tg e g) (λ_=>∀B δ,PI X tg e (tDI X.K B δ g)):=⟨PID.go⟩
theorem _root_.L2.PI.imp{t t':TI}(h:PI X tg e t)(q:∀σ H R,t' σ H R->t σ H R):PI X tg e t':=λpins s σ H R I z=>h pins s σ H R I (q σ H R z)
theorem K4(h:PD X e g):PID X tg e (zs0 g):=.mk λB δ=>L2.PI.imp (a90 (h B δ)) fun σ H R ⟨items,en,e1,k⟩=>by
 unfold zs0 at e1;cases e2:g δ with
 | none=>rw[e2] at e1;cases e1
 | some d =>
  rw[e2] at e1;cases d<;>simp[mk0] at e1
  subst e1;refine⟨_,en,e2,λv H' s' r=>?_⟩;rw[Z5] at r;obtain⟨a,xs,rfl,q,rs⟩:=r;refine⟨a,rfl,⟨xs,q.to⟩,k _ H' s' ⟨λi H2 g2 hi=>?_,λi H2 x H3 g2 y hi=>?_,λi H2 g2 hi=>?_⟩⟩
  ·have:i<xs.length:=by rw[rs.length];exact hi
   exact⟨xs,xs[i],(q.mono g2).to,by simp[this]⟩
  ·obtain⟨e3,y⟩:=y
   obtain⟨x',e4,r'⟩:=rs.get (i:=i) (d:=_) (C7 hi);have:=y xs (q.mono g2).to;rw[e4] at this;cases this;subst e3;exact⟨Same.refl _,_,C7 hi,λB' gB _=>r'.mono gB⟩
  ·exact⟨xs,(q.mono g2).to,by rw[rs.length];exact hi⟩
theorem ys0(h:PD X e g):PID X tg e (tupI g):=.mk λB δ=>L2.PI.imp (W00 (h B δ)) fun σ H R ⟨items,en,e1,k⟩=>by
 unfold tupI at e1;cases e2:g δ with
 | none=>rw[e2] at e1;cases e1
 | some d =>
  rw[e2] at e1;cases d<;>simp[be0] at e1
  subst e1;refine⟨_,en,e2,λv H' s' r=>?_⟩;rw[X4] at r;obtain⟨a,xs,rfl,q,rs⟩:=r;refine⟨a,rfl,⟨xs,q.to⟩,k _ H' s' ⟨λi H2 g2 hi=>?_,λi H2 x H3 g2 y hi=>?_,λi H2 g2 hi=>?_⟩⟩
  ·have:i<xs.length:=by rw[rs.length];exact hi
   exact⟨xs,xs[i],(q.mono g2).to,by simp[this]⟩
  ·obtain⟨e3,y⟩:=y
   obtain⟨x',e4,r'⟩:=rs.get (i:=i) (d:=_) (C7 hi);have:=y xs (q.mono g2).to;rw[e4] at this;cases this;subst e3;exact⟨Same.refl _,_,C7 hi,λB' gB _=>r'.mono gB⟩
  ·exact⟨xs,(q.mono g2).to,by rw[rs.length];exact hi⟩
theorem nc0(x:Str):(signs x).length=x.cps.size:=by simp[signs]
theorem o90(h:PD X e g):PID X tg e (kc0 g):=.mk λB δ=>L2.PI.imp (Yf0 (h B δ)) fun σ H R ⟨items,en,e1,k⟩=>by
 unfold kc0 at e1;cases e2:g δ with
 | none=>rw[e2] at e1;cases e1
 | some d =>
  rw[e2] at e1;cases d<;>simp[i80] at e1
  subst e1;refine⟨_,en,e2,λv H' s' r=>?_⟩;rw[Z9] at r;refine⟨_,r,k _ H' s' ⟨λi H2 g2 hi=>?_,λi H2 x H3 g2 y hi=>?_,λi H2 g2 hi=>?_⟩⟩
  ·rw[nc0] at hi;exact hi
  ·obtain⟨e3,c,hc,rfl⟩:=y
   subst e3;refine⟨Same.refl _,.str ⟨#[c]⟩,?_,λB' gB _=>by rw[Z9]⟩;unfold signs;rw[List.getElem?_map,Array.getElem?_toList,hc];rfl
  ·rw[nc0] at hi;exact hi
theorem q00(lo hi:Int):(V9 lo hi).length=(hi - lo).toNat:=by simp[V9]
theorem jw0(lo hi:Int):ItD K B (Itr lo (hi - lo).toNat) (V9 lo hi) H:=by
 refine⟨λi H2 g2 hi=>?_,λi H2 x H3 g2 y hi=>?_,λi H2 g2 hi=>?_⟩
 ·rw[q00] at hi;exact hi
 ·obtain⟨e3,rfl⟩:=y
  rw[q00] at hi;subst e3;exact⟨Same.refl _,.int (lo+i),by simp[V9,hi],λB' gB _=>by rw[j5]⟩
 ·rw[q00] at hi;exact hi
theorem R9{a:Expr}(hm:X.mg "range"=none)(ha:PDA X [a] gA)(hg:Gl X "range" := by rfl)(hs:starEach [a] X.env=[(false,eval a X.env)]:=by rfl):PID X tg (.Call (.Name "range" p) [a] [] pos) (O9 gA) :=
 .mk λB δ=>L2.PI.imp (ft0 hg hm (ha B δ) hs) fun σ H R ⟨items,en,e1,k⟩=>by
 unfold O9 at e1;cases e2:gA δ with
 | none=>rw[e2] at e1;cases e1
 | some ds =>
  rw[e2] at e1;simp only[Option.bind_some] at e1;unfold gk0 at e1;split at e1
  ·split at e1
   ·rename_i j hj
    cases e1;refine⟨_,en,e2,λvs H' s' r=>?_⟩;rw[p8] at r;obtain⟨x,t,rfl,r1,r2⟩:=r;rw[n6] at r2;subst r2;rw[j5] at r1;subst r1;refine⟨j,rfl,hj.1,hj.2,k _ H' s' ?_⟩;have:=jw0 (K:=X.K) (B:=B) (H:=H') 0 j;rw[Int.sub_zero] at this;exact this
   ·cases e1
  ·cases e1
theorem h00{a:Expr}{p:Pos}(hm:X.mg "range"=none)(ha:PDA X [a,b] gA)(hg:Gl X "range" := by rfl)(hs:starEach [a,b] X.env=[(false,eval a X.env),(false,eval b X.env)]:=by rfl)(hs2:starEach [b] X.env=[(false,eval b X.env)]:=by rfl) :
  PID X tg (.Call (.Name "range" p) [a,b] [] pos) (qn0 gA):=.mk λB δ=>L2.PI.imp (gv0 hg hm (ha B δ) hs hs2) fun σ H R ⟨items,en,e1,k⟩=>by
 unfold qn0 at e1;cases e2:gA δ with
 | none=>rw[e2] at e1;cases e1
 | some ds =>
  rw[e2] at e1;simp only[Option.bind_some] at e1;unfold g90 at e1;split at e1
  ·split at e1
   ·rename_i i j hj
    cases e1;refine⟨_,en,e2,λvs H' s' r=>?_⟩;rw[p8] at r;obtain⟨x,t,rfl,r1,r2⟩:=r;rw[p8] at r2;obtain⟨y,t',rfl,r2,r3⟩:=r2;rw[n6] at r3;subst r3;rw[j5] at r1 r2;subst r1 r2;exact⟨i,j,rfl,⟨hj.1.1,hj.1.2,hj.2.1,hj.2.2⟩,k _ H' s' (jw0 i j)⟩
   ·cases e1
  ·cases e1
theorem EnvS.lower{H₁:Hp}{σ:St}(e:EnvS K H₁ B₀ H σ δ)(s:Same H₀ H₁)(b0:∀a,B₀ a->NB (H₀ a)):EnvS K H₀ B₀ H σ δ:=by
 obtain⟨B,b1,b2,en⟩:=e.ex;exact⟨s.trans e.same,⟨B,b1,λa z=>(b2 a z).imp id λq=>s.free q,en⟩,λi ds a h1 h2=>s.free (e.fr i ds a h1 h2),b0⟩
open Classical in
theorem Q6{f:D->Ds->Option Ds}(hp:PassesOwn (model X.prog X.w) X.A X.env X.xe)(hc:X.calm=true)(hi:PID X tg iter gi)(hg:PGD X tg idx f)(hb:PSsD X body G)
  (hs:∀x,foldedSetIterable iter X.env x=pure x:=by intro _;rfl):PSD X (.For tg iter body [] pos) (J9 gi f G):=.mk λH₀ B₀ δ pins s σ H D I ⟨r,en,e1,k⟩=>by
 unfold J9 at e1;obtain⟨B,b1,b2,env⟩:=en.ex;cases e2:gi δ with
 | none=>rw[e2] at e1;cases e1
 | some items =>
  rw[e2] at e1;simp only[Option.bind_some] at e1;have b3:PG X tg (λv σ H Q=>∃B d δ,tDG X.K idx f B d δ v σ H Q):=λpins s σ H v u Q I r ⟨B,d,δ,h⟩=>hg B d δ pins s σ H v u Q I r h
  have a6:PSs X body (λD σ H=>∃H₀ B₀ δ,tDS X.K H₀ B₀ δ G D σ H):=λpins s σ H D I ⟨H₀,B₀,δ,h⟩=>hb H₀ B₀ δ pins s σ H D I h
  refine em0 hp hc (hi B δ) b3 a6 hs pins s σ H D I ⟨items,env,e2,λJ H1 s1 it=>?_⟩;obtain⟨Hh,a2⟩:∃Hh:Hp,Hh=λb=>if B b/\¬B₀ b then none else H1 b:=⟨_,rfl⟩
  have Z:∀b,¬B b->Hh b=H1 b:=λb n=>by rw[a2];exact if_neg λz=>n z.1
  have Y:∀b,B b->¬B₀ b->Hh b=none:=λb n n'=>by rw[a2];exact if_pos ⟨n,n'⟩
  have a4:∀b,B₀ b->Hh b=H1 b:=λb n=>by rw[a2];exact if_neg λz=>z.2 n
  have a8:Same Hh H1:=λb o h=>by
   by_cases z:B b/\¬B₀ b
   ·rw[Y b z.1 z.2] at h;cases h
   ·rw[a2] at h
    have h':(if B b/\¬B₀ b then none else H1 b)=some o:=h;rw[if_neg z] at h';exact h'
  have hS:Same H₀ Hh:=λb o h=>by
   have h1:=s1 b o (en.same b o h)
   by_cases z:B b
   ·rcases b2 b z with q|q
    ·rw[a4 b q];exact h1
    ·rw[h] at q;cases q
   ·rw[Z b z];exact h1
  have a1:=env.same s1;have start:EnvS X.K Hh B₀ H1 σ δ:=by
   refine⟨a8,⟨B,b1,λa z=>?_,a1⟩,λi ds a h1 h2=>?_,λa z=>?_⟩
   ·by_cases q:B₀ a
    ·exact .inl q
    ·exact .inr (Y a z q)
   ·have hn:=en.fr i ds a h1 h2
    have nb:¬B₀ a:=λz=>en.b0 a z hn
    obtain⟨o,e3,a',e4,hB,_⟩:=Pd.get a1.all h1;rw[h2] at e3;cases e3;cases e4;exact Y a hB nb
   ·rw[a4 a z]
    exact a1.bad a (b1 a z)
  refine⟨λi m σ H=>m=items.length - i/\i<=items.length/\∃δi,EnvS X.K Hh B₀ H σ δi/\N7 f G (items.drop i) δi=some r,⟨_,rfl,B9 _,δ,start,e1⟩,?_⟩;rintro i m σi Hi ⟨rfl,b5,δi,O,ei⟩;have gr:Gr H1 Hi B B:=λb o n h=>⟨n,O.same b o (by rw[Z b n];exact h)⟩
  by_cases hlt:i<items.length
  ·refine .inr ⟨it.go i Hi gr hlt,fun σ' H'=>∃δn,EnvS X.K Hh B₀ H' σ' δn/\N7 f G (items.drop (i+1)) δn=some r,fun σ' H' ⟨δn,en',e'⟩=>⟨items.length - (i+1),by omega,rfl,hlt,δn,en',e'⟩,λx H' y=>?_⟩
   obtain⟨sm,d,hd,rd⟩:=it.yld i Hi x H' gr y hlt;obtain⟨B',c1,c2,env0⟩:=O.ex;have a7:Rp X.K H' B' d x:=rd B' (λb o n h=>by
    have h':Hh b=some o:=by rw[Z b n];exact h
    refine⟨λz=>?_,sm b o (O.same b o h')⟩;rcases c2 b z with q|q
    ·exact n (b1 b q)
    ·rw[h'] at q;cases q) env0.bad
   have a5:=env0.same sm
   replace O:=O.grow sm
   have a3:items.drop i=d::items.drop (i+1):=by
    rw[List.drop_eq_getElem_cons hlt];congr 1;rw[List.getElem?_eq_getElem hlt] at hd;exact B3 hd
   rw[a3] at ei;unfold N7 at ei;cases e3:f d δi with
   | none=>rw[e3] at ei;cases ei
   | some δ2 =>
    rw[e3] at ei;simp only[Option.bind_some] at ei;refine⟨B',d,δi,δ2,a7,a5,e3,fun σ' w en'=>?_⟩;have b4:EnvS X.K Hh B₀ H' σ' δ2:=O.wr c1 c2 (Same.refl _) w en';cases e4:G δ2 with
    | none=>rw[e4] at ei;cases ei
    | some rb =>
     rw[e4] at ei;refine⟨Hh,B₀,δ2,rb,b4,e4,?_⟩;cases rb with
     | nx δn=>exact fun σ' H' en'=>⟨δn,en',ei⟩
     | ct δn=>exact fun σ' H' en'=>⟨δn,en',ei⟩
     | bk δn =>
      cases ei;exact fun σ' H' en'=>k σ' H' (en'.lower hS en.b0)
     | rt d' =>
      cases ei;exact λv H' s' r'=>k v H' (hS.trans s') r'
     | rf d' =>
      cases ei;exact λp H' hp s' r'=>k p H' (hS.free hp) (hS.trans s') r'
  ·have e:i=items.length:=by omega
   subst e;refine .inl ⟨it.stop _ Hi gr (A1 _),?_⟩;rw[List.drop_length] at ei;cases ei;exact k σi Hi (O.lower hS en.b0)
structure PFD(X:Cx)(ifs:List Expr)(g:Ds->Option Bool):Prop where
 mk::go:∀B δ,PF X ifs (tDT X.K B δ g)
instance{X:Cx}{ifs:List Expr}{g:Ds->Option Bool}:CoeFun (PFD X ifs g) (λ_=>∀B δ,PF X ifs (tDT X.K B δ g)):=⟨PFD.go⟩
theorem S6:PFD X [] noT:=.mk λB δ pins s σ H Q I ⟨b,en,e,k⟩=>by
 cases e;exact Yu0 pins s σ H Q I (k H (Same.refl H))
theorem Zq0(h:PTD X c gt):PFD X [c] gt:=.mk λB δ=>Xq0 (h B δ)
theorem dj0{σ:St}(h:j<n):(Q8 n caps σ)[j]?=some none:=by
 unfold Q8;rw[List.getElem?_append_left (by simpa using h),List.getElem?_replicate,if_pos h]
theorem yj0:∀n:Nat,Paired (SlR K H B) (List.replicate n (none:Option V)) (List.replicate n Sl.un)
 | 0=>.nil
 | n+1=>.cons trivial (yj0 n)
theorem lh0{σ:St}(en:Env K H B σ δ):∀caps:List Nat,Paired (SlR K H B) (caps.map λj=>(σ[j]?).join) (caps.map λj=>mo0 δ[j]?)
 | []=>.nil
 | j::caps=>by
  refine .cons ?_ (lh0 en caps);show SlR K H B (σ[j]?).join (mo0 δ[j]?);cases h:δ[j]? with
  | none=>trivial
  | some sl =>
   cases sl with
   | un=>trivial
   | ow ds=>trivial
   | ex c n=>trivial
   | sh d =>
    obtain⟨v,e,r⟩:=en.get h;rw[e];exact⟨v,rfl,r⟩
theorem dq0{o:Option Sl}{ds:D}(h:mo0 o=.ow ds):False:=by
 cases o with
 | none=>cases h
 | some s=>cases s<;>cases h
theorem ro0{ds:D}(h:(zn0 n caps δ)[i]?=some (.ow ds)):False:=by
 unfold zn0 at h
 by_cases hi:i<n
 ·rw[List.getElem?_append_left (by simpa using hi),List.getElem?_replicate,if_pos hi] at h
  cases h
 ·rw[List.getElem?_append_right (by simpa using hi),List.getElem?_map] at h
  cases q:caps[i - (List.replicate n Sl.un).length]? with
  | none=>rw[q] at h;cases h
  | some j =>
   rw[q] at h;exact dq0 (B3 h)
theorem Env.comp{σ:St}(en:Env K H B σ δ)(n:Nat)(caps:List Nat):Env K H B (Q8 n caps σ) (zn0 n caps δ) :=
 ⟨Pd.app (yj0 n) (lh0 en caps),en.bad,λi j a ds es h1 _ _ _=>(ro0 h1).elim⟩
theorem SlR.gr{o:Option V}{s:Sl}(g:Gr H H' B B')(no:∀ds,s≠.ow ds)(h:SlR K H B o s):SlR K H' B' o s:=by
 cases s with
 | un=>trivial
 | sh d=>obtain⟨v,e,r⟩:=h;exact⟨v,e,r.mono g⟩
 | ow ds=>exact absurd rfl (no ds)
 | ex c n=>obtain⟨a,e,r⟩:=h;exact⟨a,e,r.mono g⟩
theorem Pd.impG(g:Gr H H' B B'):∀{σ:St} {δ:Ds},(∀(i:Nat) (ds:D),δ[i]?≠some (.ow ds))->Paired (SlR K H B) σ δ->Paired (SlR K H' B') σ δ
 | _,_,_,.nil=>.nil
 | _,_,no,.cons r t=>.cons (r.gr g λds z=>no 0 ds (by rw[← z];rfl)) (Pd.impG g (λi ds z=>no (i+1) ds (by simpa using z)) t)
def tDF(K:W.Frag)(B:BS)(δ:Ds)(g:Ds->Option D):TE:=fun σ H Q=>∃d,Env K H B σ δ/\g δ=some d/\∀p H',H p=none->Same H H'->RpO K H' (λa=>B a∨a=p) d p->Q (.ref p) H'
structure PDF(X:Cx)(e:Expr)(g:Ds->Option D):Prop where
 mk::go:∀B δ,PE X e (tDF X.K B δ g)
instance{X:Cx}{e:Expr}{g:Ds->Option D}:CoeFun (PDF X e g) (λ_=>∀B δ,PE X e (tDF X.K B δ g)):=⟨PDF.go⟩
theorem tD.toF{σ:St}{Q:VK}(h:tD K B δ g σ H Q):tDF K B δ g σ H Q:=by
 obtain⟨d,en,e,k⟩:=h;exact⟨d,en,e,λp H' hp s r=>k _ H' s (r.rp (λa z=>.inl z) (en.free hp))⟩
theorem PDF.pd(h:PDF X e g):PD X e g:=.mk λB δ=>(h B δ).imp fun σ H Q z=>z.toF
theorem oy0{K:W.Frag}{B:BS}{δ:Ds}{σ:St}{H:Hp}{Q:VK}{caps:List Nat}{gi:Ds->Option (List D)}{f:D->Ds->Option Ds}{gt:Ds->Option Bool}{ge:Ds->Option D}(hidx:∀j∈idx,j<n)
  (h:tDF K B δ (X8 n caps gi f gt ge) σ H Q) :
  im0 n caps (tDI K B δ gi) (λv σ H Q=>∃B d δ,tDG K idx f B d δ v σ H Q) (fun σ H Q=>∃B δ,tDT K B δ gt σ H Q) (fun σ H Q=>∃B δ,tD K B δ ge σ H Q) σ H Q:=by
 obtain⟨d,en,h,k⟩:=h;unfold X8 at h;cases e1:gi δ with
 | none=>rw[e1] at h;cases h
 | some items =>
  rw[e1] at h;simp only[Option.bind_some] at h
  by_cases hsz:items.length<=sizeLine
  ·rw[if_pos hsz] at h
   cases e2:T8 f gt ge (zn0 n caps δ) items with
   | none=>rw[e2] at h;cases h
   | some out =>
    rw[e2] at h;cases h;refine⟨items,en,e1,λJ H1 s1 it=>λL hL=>?_⟩;have Z:=en.same s1;have b1:¬B L:=Z.free hL;obtain⟨Bp,Y⟩:∃Bp:BS,Bp=λa=>B a∨a=L:=⟨_,rfl⟩
    have a5:Bp L:=by rw[Y];exact .inr rfl
    have b2:∀a,B a->Bp a:=λa z=>by rw[Y];exact .inl z
    have a3:∀a,Bp a->B a∨a=L:=λa z=>by rw[Y] at z;exact z
    have gr:∀{H2:Hp},Same H1 H2->Gr H1 H2 B Bp:=λ{H2} s2 b o nb hb=>⟨(λz=>by
     rcases a3 b z with q|q
     ·exact nb q
     ·subst q;rw[hL] at hb;cases hb),s2 b o hb⟩
    refine⟨λi m ys H2=>m=items.length - i/\i<=items.length/\H2 L=some (.lst ys)/\Same H1 H2/\ys.length<=i/\∃pre rest,out=pre++rest/\Rps K H2 Bp pre ys/\T8 f gt ge (zn0 n caps δ) (items.drop i)=some rest,
     ⟨_,rfl,B9 _,m8,Z1 hL,A1 _,[],out,rfl,by rw[n6],e2⟩,?_⟩
    rintro i m ys H2 ⟨rfl,b0,hD,s2,b3,pre,rest,ho,rp,ec⟩;have O:Env K H2 Bp (Q8 n caps σ) (zn0 n caps δ):=by
     refine⟨Pd.impG (gr s2) (λi ds z=>ro0 z) (Z.comp n caps).all,λa z=>?_,λi j a ds es h1 _ _ _=>(ro0 h1).elim⟩;rcases a3 a z with q|q
     ·exact(Z.same s2).bad a q
     ·subst q;rw[hD];exact .of rfl λ_ _ z=>nomatch z
    by_cases hlt:i<items.length
    ·refine .inr ⟨it.go i H2 (Gr.same s2) hlt,λx H3 y=>?_⟩
     obtain⟨sm,dx,a2,rx⟩:=it.yld i H2 x H3 (Gr.same s2) y hlt;have a6:Rp K H3 Bp dx x:=rx Bp (gr (s2.trans sm)) O.bad
     replace O:=O.same sm
     replace s2:=s2.trans sm
     replace hD:=sm _ _ hD
     replace rp:=rp.same sm
     have a1:items.drop i=dx::items.drop (i+1):=by
      rw[List.drop_eq_getElem_cons hlt];congr 1;rw[List.getElem?_eq_getElem hlt] at a2;exact B3 a2
     rw[a1] at ec;unfold T8 at ec;cases e3:f dx (zn0 n caps δ) with
     | none=>rw[e3] at ec;cases ec
     | some δ' =>
      rw[e3] at ec;dsimp only at ec;refine⟨Bp,dx,zn0 n caps δ,δ',a6,O,e3,fun σ4 w en4=>⟨⟨w.len,λj v z=>?_⟩,?_⟩⟩
      ·by_cases hj:j∈idx
       ·rw[dj0 (hidx j hj)] at z;cases z
       ·rw[(w.oth j hj).1];exact z
      ·cases e4:gt δ' with
       | none=>rw[e4] at ec;cases ec
       | some t =>
        rw[e4] at ec;refine⟨Bp,δ',t,en4,e4,λH5 s5=>?_⟩;cases t with
        | false =>
         rw[if_neg B8];exact⟨items.length - (i+1),by omega,rfl,hlt,s5 _ _ hD,s2.trans s5,by omega,pre,rest,ho,rp.same s5,ec⟩
        | true =>
         rw[if_pos rfl];dsimp only at ec;cases e5:ge δ' with
         | none=>rw[e5] at ec;cases ec
         | some yd =>
          rw[e5] at ec;dsimp only at ec;cases e6:T8 f gt ge (zn0 n caps δ) (items.drop (i+1)) with
          | none=>rw[e6] at ec;cases ec
          | some rest' =>
           rw[e6] at ec;cases ec;refine⟨Bp,δ',yd,en4.same s5,e5,λv H6 s6 r6=>?_⟩;have a8:H6 L=some (.lst ys):=s6 _ _ (s5 _ _ hD);have g6:Gr H6 (upd H6 L (.lst (ys++[v]))) Bp Bp:=λb o nb hb=>⟨nb,by
            rw[o6 (λz=>nb (by rw[z];exact a5))];exact hb⟩
           refine⟨a8,by omega,items.length - (i+1),by omega,rfl,hlt,m8,λb o hb=>?_,by simp;omega,pre++[yd],rest',by rw[ho];simp,?_,e6⟩
           ·have a7:b≠L:=λz=>by rw[z,hL] at hb;cases hb
            rw[o6 a7];exact s6 _ _ (s5 _ _ (s2 _ _ hb))
           ·exact(Rps.snoc ((rp.same s5).same s6) r6).mono g6
    ·have e:i=items.length:=by omega
     subst e;refine .inl ⟨it.stop _ H2 (Gr.same s2) (A1 _),?_⟩;rw[List.drop_length] at ec;have a4:([]:List D)=rest:=B3 ec;subst a4;rw[List.append_nil] at ho;subst ho;refine k L H2 (s1.free hL) (s1.trans s2) ⟨ys,hD,?_⟩;rw[Y] at rp;exact rp
  ·rw[if_neg hsz] at h;cases h
theorem l60{sc scope:Scope}{elt iter:Expr}{ifs:List Expr}{N':List Str}{n:Nat}{caps:List Nat}{gi:Ds->Option (List D)}{idx:List Nat}{f:D->Ds->Option Ds}{ge:Ds->Option D}
  (hc:X.calm=true) (hsc:X.env.scope=sc) (ok:CompOk sc scope X.N N' n caps) (hidx:∀j∈idx,j<n) (hi:PID X tg iter gi)
  (hg:∀cl s H ex,PGD (Y0 X scope cl N' s H ex) tg idx f) (ht:∀cl s H ex,PFD (Y0 X scope cl N' s H ex) ifs gt) (he:∀cl s H ex,PD (Y0 X scope cl N' s H ex) elt ge)
  (hs:∀x,foldedSetIterable iter X.env x=pure x:=by intro _;rfl) :
  PDF X (.ListComp elt [⟨tg,iter,ifs,0⟩] scope pos) (X8 n caps gi f gt ge):=.mk λB δ =>
 (Zo0 hc hsc ok (hi B δ) (g:=λv σ H Q=>∃B d δ,tDG X.K idx f B d δ v σ H Q) (tt:=fun σ H Q=>∃B δ,tDT X.K B δ gt σ H Q) (te:=fun σ H Q=>∃B δ,tD X.K B δ ge σ H Q)
  (λcl s H ex pins s' σ H v u Q I r ⟨B,d,δ,h⟩=>hg cl s _ ex B d δ pins s' σ H v u Q I r h)
  (λcl s H ex pins s' σ H Q I ⟨B,δ,h⟩=>ht cl s _ ex B δ pins s' σ H Q I h)
  (λcl s H ex pins s' σ H Q I ⟨B,δ,h⟩=>he cl s _ ex B δ pins s' σ H Q I h) hs).imp fun σ H Q h=>oy0 hidx h
theorem Z40{sc scope:Scope}{elt iter:Expr}{ifs:List Expr}{N':List Str}{n:Nat}{caps:List Nat}{gi:Ds->Option (List D)}{idx:List Nat}{f:D->Ds->Option Ds}{ge:Ds->Option D}
  (hc:X.calm=true) (hsc:X.env.scope=sc) (ok:CompOk sc scope X.N N' n caps) (hidx:∀j∈idx,j<n) (hi:PID X tg iter gi)
  (hg:∀cl s H ex,PGD (Y0 X scope cl N' s H ex) tg idx f) (ht:∀cl s H ex,PFD (Y0 X scope cl N' s H ex) ifs gt) (he:∀cl s H ex,PD (Y0 X scope cl N' s H ex) elt ge)
  (hs:∀x,foldedSetIterable iter X.env x=pure x:=by intro _;rfl) :
  PD X (.ListComp elt [⟨tg,iter,ifs,0⟩] scope pos) (X8 n caps gi f gt ge):=(l60 hc hsc ok hidx hi hg ht he hs).pd
theorem j90(i:Nat){y:Str}{py spos:Pos}{sc scope:Scope}{elt iter:Expr}{ifs:List Expr}{N':List Str}{n:Nat}{caps:List Nat}{gi:Ds->Option (List D)}{idx:List Nat}{f:D->Ds->Option Ds}{ge:Ds->Option D}
  (hN:X.N.Nodup) (hc:X.calm=true) (hsc:X.env.scope=sc) (ok:CompOk sc scope X.N N' n caps) (hidx:∀j∈idx,j<n) (hi:PID X tg iter gi)
  (hg:∀cl s H ex,PGD (Y0 X scope cl N' s H ex) tg idx f) (ht:∀cl s H ex,PFD (Y0 X scope cl N' s H ex) ifs gt) (he:∀cl s H ex,PD (Y0 X scope cl N' s H ex) elt ge)
  (hiN:X.N[i]?=some y:=by rfl) (hy:Loc X.env.scope y:=by first|exact Or.inl rfl|exact Or.inr rfl)
  (hsw:swapsWith (.ListComp elt [⟨tg,iter,ifs,0⟩] scope pos) (some (.Name y py)) spos.line X.env=pure true:=by rfl)
  (hs:∀x,foldedSetIterable iter X.env x=pure x:=by intro _;rfl)
  (hf:X.fn y=true∨X.env.scope.names.lookup y=some .local:=by first|exact .inl rfl|exact .inr rfl|assumption) :
  PSD X (.Assign [.Name y py] (.ListComp elt [⟨tg,iter,ifs,0⟩] scope pos) spos) (j6 (gN i) (X8 n caps gi f gt ge)):=.mk λH₀ B₀ δ pins s σ H D I ⟨r,en,e1,k⟩=>by
 unfold j6 at e1;obtain⟨B,b1,b2,env⟩:=en.ex;cases e2:X8 n caps gi f gt ge δ with
 | none=>rw[e2] at e1;cases e1
 | some d =>
  rw[e2] at e1;cases e1;refine g70 (i:=i) hN hiN hy hc hsc ok (hi B δ) (g:=λv σ H Q=>∃B d δ,tDG X.K idx f B d δ v σ H Q) (tt:=fun σ H Q=>∃B δ,tDT X.K B δ gt σ H Q) (te:=fun σ H Q=>∃B δ,tD X.K B δ ge σ H Q)
   (λcl s H ex pins s' σ H v u Q I r ⟨B,d,δ,h⟩=>hg cl s _ ex B d δ pins s' σ H v u Q I r h)
   (λcl s H ex pins s' σ H Q I ⟨B,δ,h⟩=>ht cl s _ ex B δ pins s' σ H Q I h)
   (λcl s H ex pins s' σ H Q I ⟨B,δ,h⟩=>he cl s _ ex B δ pins s' σ H Q I h) hsw hs hf pins s σ H D I (oy0 hidx (tD.toF ⟨d,env,e2,λv H' s' r'=>k _ H' (en.wr b1 b2 s' pl0 ((env.same s').set i r'))⟩))
end
theorem J4{N:List Str}:∀{ds:List D} {vs:List V},Rps K H B ds vs->Paired (SlR K H B) (vs.map some) (ds.map Sl.sh)
 | [],_,h=>by rw[n6] at h;subst h;exact .nil
 | d::ds,_,h=>by
  rw[p8] at h;obtain⟨x,r,rfl,h1,h2⟩:=h;exact .cons ⟨x,rfl,h1⟩ (J4 (N:=N) h2)
theorem U7{es:D}(h:(j8 N ds)[i]?=some (.ow es)):False:=by
 unfold j8 at h
 by_cases hi:i<ds.length
 ·rw[List.getElem?_append_left (by simpa using hi),List.getElem?_map] at h
  cases q:ds[i]? with
  | none=>rw[q] at h;cases h
  | some d=>rw[q] at h;cases h
 ·rw[List.getElem?_append_right (by simpa using hi),List.getElem?_replicate] at h
  split at h<;>cases h
section
variable{P:Program}{w:World}
theorem okD{ps:List Str}{k:Nat}{f:List D->Option D}{G:Ds->Option Res}(F:Fun K x qual st fa fd)(S:FnScope N ps (u6 st))
  (body:∀(cdv:Value) (A:Around) (outer:List PySem.Env) (s:Shared) (H:Hp) (E:XK),Room k (A.deeper (envOfC qual (u6 st) s.heap.objs.size fa cdv))->PSsD (zv0 CX0 P w K mg base N qual (u6 st) fa cdv A outer s H E).nox (Z4 st) G)
  (hf:∀ds d,f ds=some d->ds.length=ps.length/\(G (j8 N ds)=some (.rt d)∨(d=.non/\∃δ,G (j8 N ds)=some (.nx δ))∨G (j8 N ds)=some (.rf d)/\isL d=false)) :
  FnOk P w K mg base CX0 (k+1) fa fd ps (spD K f):=by
 refine F.ok S (λvs H Q E ⟨B,ds,d,_,r,h,_⟩=>?_) (λcdv A outer s H vs Q E hr ⟨B,ds,d,hb,r,h,q⟩=>?_)
 ·rw[r.length];exact(hf ds d h).1
 ·refine⟨_,body cdv A outer s H E hr H B (j8 N ds),?_⟩
  have en:EnvS K H B H (L2.start N vs) (j8 N ds):=by
   refine⟨Same.refl H,⟨B,λ_ z=>z,λ_ z=>.inl z,⟨?_,hb,λi j a J es h1 _ _ _=>(U7 h1).elim⟩⟩,λi J a h1 _=>(U7 h1).elim,hb⟩;unfold L2.start j8;rw[r.length];exact Pd.app (J4 (N:=N) r) (yj0 _)
  rcases (hf ds d h).2 with e|⟨rfl,δ,e⟩|⟨e,hn⟩
  ·exact⟨_,en,e,λv H' s' r'=>q v H' s' r'⟩
  ·exact⟨_,en,e,fun σ' H' en'=>q .non H' en'.same (by rw[U4])⟩
  ·exact⟨_,en,e,λp H' hp s' r'=>q _ H' s' ((r'.toO hn).rp (λa z=>.inl z) (λz=>hb p z hp))⟩
def spN(K:W.Frag)(f:List D->Option D):Sp:=λvs H Q _=>∃(B:BS) (ds:List D) (d:D),(∀a,B a->NB (H a))/\Rps K H B ds vs/\f ds=some d/\∀p H',H p=none->Same H H'->RpO K H' (λa=>B a∨a=p) d p->Q (.ref p) H'
theorem okN{ps:List Str}{k:Nat}{f:List D->Option D}{G:Ds->Option Res}(F:Fun K x qual st fa fd)(S:FnScope N ps (u6 st))
  (body:∀(cdv:Value) (A:Around) (outer:List PySem.Env) (s:Shared) (H:Hp) (E:XK),Room k (A.deeper (envOfC qual (u6 st) s.heap.objs.size fa cdv))->PSsD (zv0 CX0 P w K mg base N qual (u6 st) fa cdv A outer s H E).nox (Z4 st) G)
  (hf:∀ds d,f ds=some d->ds.length=ps.length/\G (j8 N ds)=some (.rf d)/\isL d=false) :
  FnOk P w K mg base CX0 (k+1) fa fd ps (spN K f):=by
 refine F.ok S (λvs H Q E ⟨B,ds,d,_,r,h,_⟩=>?_) (λcdv A outer s H vs Q E hr ⟨B,ds,d,hb,r,h,q⟩=>?_)
 ·rw[r.length];exact(hf ds d h).1
 ·refine⟨_,body cdv A outer s H E hr H B (j8 N ds),?_⟩
  have en:EnvS K H B H (L2.start N vs) (j8 N ds):=by
   refine⟨Same.refl H,⟨B,λ_ z=>z,λ_ z=>.inl z,⟨?_,hb,λi j a J es h1 _ _ _=>(U7 h1).elim⟩⟩,λi J a h1 _=>(U7 h1).elim,hb⟩;unfold L2.start j8;rw[r.length];exact Pd.app (J4 (N:=N) r) (yj0 _)
  exact⟨_,en,(hf ds d h).2.1,λp H' hp s' r'=>q p H' hp s' (r'.toO (hf ds d h).2.2)⟩
end
end DL
namespace L2
open Spec PyProof.Rows
theorem mx0:∀{ys:List Str} {us:List Value},Vals (ys.map V.str) us->StrsAre us ys
 | [],_,r=>by rw[List.map_nil] at r;cases r;exact .nil
 | y::ys,_,r=>by
  rw[List.map_cons] at r;cases r with
  | cons r1 r2 =>
   obtain⟨t,e⟩:=r1;subst e;exact .cons y t (mx0 r2)
theorem Zj0:MtR X "str.join" (λx xs H Q=>∃(sep:Str) (p:Addr) (ys:List Str),x=.str sep/\xs=[.ref p]/\SqL X.K H p (ys.map V.str)/\(ys.map (·.length)).sum+ys.length*sep.length<=16777216/\Q (.str (Txt.join sep ys)) H):=by
 intro pins s σ H x xs v us Q I rx rs h;obtain⟨sep,p,ys,rfl,rfl,hq,hz,q⟩:=h;obtain⟨t,rfl⟩:=rx;obtain⟨u,rfl,ru⟩:=rs.one;cases ru;obtain⟨its,rv,pl,_⟩:=I.list hq;exact join_list pl.isList (by simpa using mx0 rv) hz λt' k=>⟨.str _,H,I.tok k,⟨t',rfl⟩,q⟩
theorem part_of{o:Option Int}(p:IsPart u o):∃l:Option (Int×Tok),u=partValue l/\l.map (·.1)=o:=by
 cases p with
 | none=>exact⟨none,rfl,rfl⟩
 | int i t=>exact⟨some (i,t),rfl,rfl⟩
theorem W80:SlR X (λx lo hi H Q=>∃z,x=.str z/\z.length<=sizeLine/\Q (.str (Txt.slice z lo hi)) H):=by
 intro pins s σ H x v vl vu lo hi sl Q I rx hs pl pu h;obtain⟨z,rfl,hz,q⟩:=h;obtain⟨t,rfl⟩:=rx;obtain⟨l,rfl,rfl⟩:=part_of pl;obtain⟨u,rfl,rfl⟩:=part_of pu;refine⟨"str",_,F.slot_str_getitem.lookup,L6 _ _ _,wpAny_getItem_str_slice (l:=l) (u:=u) (st:=none) ?_ rfl (post_val_or_str ⟨C5 (Txt.slice_le z _ _) hz,λt' k=>⟨.str _,H,I.tok k,⟨t',rfl⟩,q⟩⟩)⟩;obtain⟨o,h1,h2,h3⟩:=hs;exact⟨o,h1,h2,h3⟩
end L2
namespace DL
open Spec PyProof.Rows L2
def tyD:D->String
 | .non => "NoneType"|.bl _ => "bool"|.int _ => "int"|.str _ => "str"|.tup _ => "tuple"|.lst _ => "list"|.dct _ _ => "dict"|.fn _ _ => "function"
def okT(T:String)(f:D->Bool):Prop:=∀(K:W.Frag) (d:D),W.kitOne K (.type (tyD d)) (.type T)=some (f d)
theorem Y20:okT "str" isStr:=λK d=>by cases d<;>kernel_rfl
theorem va0:okT "tuple" isTup:=λK d=>by cases d<;>kernel_rfl
section
theorem c80{T:String}{f:D->Bool}(hT:okT T f):CallR X (.builtin "isinstance") (λxs H Q=>∃B d x,xs=[x,.ty T]/\Rp X.K H B d x/\Q (.bl (f d)) H):=by
 intro pins s σ H xs us Q I rs h;obtain⟨B,d,x,rfl,r,q⟩:=h;obtain⟨u,c,rfl,ru,rc⟩:=rs.two;obtain rfl:c=Value.type T:=rc;have J:∀tk,EP X pins σ Q (.bool (f d)) { s with toks:=tk }:=λtk=>⟨.bl _,H,I.tok tk,rfl,q⟩
 have e:=hT X.K d;cases d with
 | non=>rw[U4] at r;subst r;cases (show u=Value.none from ru);exact E2 W.kitx_none I.kIn True.intro e (λz=>nomatch z) J
 | bl y=>rw[W7] at r;subst r;cases (show u=Value.bool y from ru);exact E2 W.kitx_bool I.kIn True.intro e (λz=>nomatch z) J
 | int i=>rw[j5] at r;subst r;obtain⟨t,rfl⟩:=(show ∃t,u=Value.int i t from ru);exact E2 W.kitx_int I.kIn True.intro e (λz=>nomatch z) J
 | str y=>rw[Z9] at r;subst r;obtain⟨t,rfl⟩:=(show ∃t,u=Value.str y t from ru);exact E2 W.kitx_str I.kIn True.intro e (λz=>nomatch z) J
 | tup ds =>
  rw[X4] at r;obtain⟨a,xs,rfl,hq,_⟩:=r;cases (show u=Value.ref a from ru);obtain⟨its,_,p,_⟩:=I.tuple hq.to;obtain⟨o,h1,h2,_⟩:=p;exact E2 W.kitx_tuple I.kIn ⟨o,h1,h2⟩ e (λz=>nomatch z) J
 | lst ds =>
  rw[Z5] at r;obtain⟨a,xs,rfl,hq,_⟩:=r;cases (show u=Value.ref a from ru);obtain⟨its,_,p,_⟩:=I.list hq.to;obtain⟨o,n,h1,h2,_⟩:=p;exact E2 W.kitx_list I.kIn ⟨o,h1,h2⟩ e (λz=>nomatch z) J
 | dct ks ds =>
  rw[u30] at r;obtain⟨a,xs,rfl,_,hq,_⟩:=r;cases (show u=Value.ref a from ru);cases ks with
  | inl ks =>
   obtain⟨_,_,vs,_,p⟩:=(show ObjOk X.prog X.w H s.heap a (.dK (ks.zip xs)) from I.hok a _ hq);obtain⟨o,es,ep,h1,h2,_⟩:=p;exact E2 W.kitx_dict I.kIn ⟨o,h1,h2.1⟩ e (λz=>nomatch z) J
  | inr ks =>
   obtain⟨_,_,vs,_,o,es,ep,h1,h2,_⟩:=(show ObjOk X.prog X.w H s.heap a (.dT (ks.zip xs)) from I.hok a _ hq);exact E2 W.kitx_dict I.kIn ⟨o,h1,h2.1⟩ e (λz=>nomatch z) J
 | fn ks ds =>
  rw[mg0] at r;obtain⟨a,xs,rfl,hq,_⟩:=r;cases (show u=Value.ref a from ru);obtain⟨oF,_,_,_,_,_,_,_,_,⟨_,h1⟩,⟨h2,_⟩,_⟩:=hq;exact E2 KfT.kit I.kIn ⟨oF,(I.hok a _ h1).1,h2⟩ e (λz=>nomatch z) J
theorem t00{T:String}{f:D->Bool}{Tn:Str}{p p2 pos:Pos}(hT:okT T f)(hb:bootBuiltins Tn=some (.type T))(hm:X.mg "isinstance"=none)(hmT:X.mg Tn=none)(h:PD X e g)(hg:Gl X "isinstance" := by rfl)(hgT:Gl X Tn:=by rfl)
  (hn:Tn ≠"__name__" := by decide) (hd:(Tn==("__debug__" : Str))=false:=by decide)
  (he:starEach [e,.Name Tn p2] X.env=(false,eval e X.env)::starEach [.Name Tn p2] X.env:=by rfl) (he2:starEach [.Name Tn p2] X.env=(false,eval (.Name Tn p2) X.env)::starEach [] X.env:=by rfl)
  (hpl:(backTo pos (starEach [.Name Tn p2] X.env)).any (·.1)=false:=by rfl) :
  PD X (.Call (.Name "isinstance" p) [e,.Name Tn p2] [] pos) (vf0 f g) :=
 .mk λB δ=>(km0 (c80 hT) hg hm PyProof.Rows.boot_isinstance (R5 (h B δ) (R5 (Zz0 (v:=.ty T) hgT hmT hb rfl hn hd) J0 he2) he) (by decide) (by decide) he hpl).imp fun σ H Q ⟨d,en,h,k⟩=>by
  unfold vf0 at h;cases e1:g δ with
  | none=>rw[e1] at h;cases h
  | some x =>
   rw[e1] at h;cases h;exact⟨x,en,e1,λv H1 s1 r1=>⟨B,x,v,rfl,r1,k _ H1 s1 (by rw[W7])⟩⟩
theorem tf0{C:Int->Int->Prop}[∀i j,Decidable (C i j)]{g:Int->Int->V}{g':Int->Int->D}(hg:∀i j H B,Rp K H B (g' i j) (g i j)):Op2 K (rI C g) (ii λi j=>if C i j then some (g' i j) else none):=by
 intro H B x y dx dy d Q hb rx ry h k;cases dx<;>cases dy<;>simp only[ii] at h<;>try cases h
 rename_i i j;split at h
 ·cases h
  rw[j5] at rx ry;subst rx ry;exact⟨i,j,rfl,rfl,by assumption,k _ H (Same.refl H) (hg i j H B)⟩
 ·cases h
theorem tw0{g:Int->Int->V}{g':Int->Int->D}(hg:∀i j H B,Rp K H B (g' i j) (g i j)):Op2 K (rI0 g) (ii λi j=>some (g' i j)):=by
 intro H B x y dx dy d Q hb rx ry h k;cases dx<;>cases dy<;>simp only[ii] at h<;>try cases h
 rename_i i j;rw[j5] at rx ry;subst rx ry;exact⟨i,j,rfl,rfl,k _ H (Same.refl H) (hg i j H B)⟩
instance decDiv(i j:Int):Decidable (c70 i j):=inferInstanceAs (Decidable (0<j/\j<1073741824))
instance decPow(i j:Int):Decidable (dz0 i j):=inferInstanceAs (Decidable (0<=j/\j<=1000000/\i.natAbs<2 ^ 64))
variable{a:Expr}{ga:Ds->Option D}
theorem yh0(ha:PD X a ga)(hb:PD X b gb):PD X (.BinOp a .Sub b pos) (o2 ga gb xv0):=v90 Yl0 (tw0 (g':=λi j=>.int (i - j)) λ_ _ _ _=>by rw[j5]) ha hb
theorem ze0(ha:PD X a ga)(hb:PD X b gb):PD X (.BinOp a .FloorDiv b pos) (o2 ga gb zc0):=v90 Z10 (tf0 (C:=c70) (g':=λi j=>.int (i/j)) λ_ _ _ _=>by rw[j5]) ha hb
theorem X7(ha:PD X a ga)(hb:PD X b gb):PD X (.BinOp a .Mod b pos) (o2 ga gb Z6):=v90 Yh0 (tf0 (C:=λ_ j=>0<j) (g':=λi j=>.int (i%j)) λ_ _ _ _=>by rw[j5]) ha hb
theorem kv0(ha:PD X a ga)(hb:PD X b gb):PD X (.BinOp a .Pow b pos) (o2 ga gb q10):=v90 X30 (tf0 (C:=dz0) (g':=λi j=>.int (i ^ j.toNat)) λ_ _ _ _=>by rw[j5]) ha hb
end
end DL
namespace L2
open Spec PyProof.Rows
def bj0(K:W.Frag):R2:=λx y H Q=>∃l b xs zs,x=.ref l/\y=.ref b/\SqL K H l xs/\SqL K H b zs/\xs.length+zs.length<=sizeLine/\∀p,H p=none->Q (.ref p) (upd H p (.lst (xs++zs)))
theorem i50:OpR X (binaryOp .Add) (bj0 X.K):=by
 intro pins s σ H x y v u Q I rx ry h;obtain⟨l,b,xs,zs,rfl,rfl,hH,hB,hz,q⟩:=h;cases rx;cases ry;obtain⟨its,r,p1,z1⟩:=I.list hH;obtain⟨J,r2,p2,z2⟩:=I.list hB;obtain⟨⟨cls,dd,data,sl⟩,ho,hc,n,hd⟩:=p1.isList;obtain⟨⟨a4,a2,data2,a3⟩,Z,O,n2,Y⟩:=p2.isList;simp only at hc hd O Y;subst hc hd O Y;have e:its.toArray++J.toArray=(its++J).toArray:=by simp
 have a1:its.toArray.size+J.toArray.size<=sizeLine:=by
  rw[List.size_toArray,List.size_toArray,← r.length,← r2.length];exact hz
 refine S3 ⟨_,ho,rfl⟩ ⟨_,Z,rfl⟩ noFill_list_add seq_list_add PySem.F.slot_list_add PySem.F.entry_list_add (PySem.F.args_list_add_2 _ _) (list_addW l b its.toArray J.toArray n n2 dd a2 sl a3 a1) ⟨ho,Z,?_⟩;rw[e];exact⟨.ref _,_,I.lnew (t':=s.toks) (r.append r2) (by rw[List.length_append];exact hz),rfl,q _ I.fresh⟩
end L2
namespace DL
open Spec PyProof.Rows L2
section
variable{a:Expr}{ga:Ds->Option D}
theorem oc0(hb:∀a,B a->NB (H a)){p:Addr}(h:H p=none):¬B p:=λz=>hb p z h
theorem vr0{p:Addr}(hb:∀a,B a->NB (H a))(h:H p=none)(r:Rps K H B ds xs):Rp K (upd H p (.lst xs)) B (.lst ds) (.ref p):=by
 rw[Z5];exact⟨p,xs,rfl,.inl ⟨oc0 hb h,.inl m8⟩,r.same (Z1 h)⟩
theorem o40{p:Addr}(hb:∀a,B a->NB (H a))(h:H p=none)(r:Rps K H B ds xs):Rp K (upd H p (.tup xs)) B (.tup ds) (.ref p):=by
 rw[X4];exact⟨p,xs,rfl,⟨oc0 hb h,m8⟩,r.same (Z1 h)⟩
theorem zk0:Op2 K (rI0 λi j=>.bl (decide (i<j))) ltD:=tw0 (g':=λi j=>.bl (decide (i<j))) λ_ _ _ _=>by rw[W7]
theorem Ws0:Op2 K (rI0 λi j=>.bl (decide (i<=j))) leD:=tw0 (g':=λi j=>.bl (decide (i<=j))) λ_ _ _ _=>by rw[W7]
theorem qj0:Op2 K (rI0 λi j=>.bl (decide (j<i))) gtD:=tw0 (g':=λi j=>.bl (decide (j<i))) λ_ _ _ _=>by rw[W7]
theorem fq0:Op2 K (rI0 λi j=>.bl (decide (j<=i))) geD:=tw0 (g':=λi j=>.bl (decide (j<=i))) λ_ _ _ _=>by rw[W7]
theorem Yg0{x y:V}{dx dy:D}{b:Bool}(rx:Rp K H B dx x)(ry:Rp K H B dy y)(h:eqS dx dy=some b):Wb0 x y=true/\decide (x=y)=b:=by
 cases dx<;>cases dy<;>simp only[eqS] at h<;>try cases h
 all_goals
  simp only[U4,W7,j5,Z9] at rx ry;subst rx ry;refine⟨rfl,?_⟩;simp
theorem Y4:Op2 K rEq eqD:=by
 intro H B x y dx dy d Q hb rx ry h k;unfold eqD at h;cases e:eqS dx dy with
 | none=>rw[e] at h;cases h
 | some b =>
  rw[e] at h;cases h;obtain⟨h1,h2⟩:=Yg0 rx ry e;exact⟨h1,by rw[h2];exact k _ H (Same.refl H) (by rw[W7])⟩
theorem jo0:Op2 K (λx y H Q=>y=.non/\Q (.bl (decide (x=.non))) H) c20:=by
 intro H B x y dx dy d Q hb rx ry h k;have hy:dy=.non:=by cases dy<;>first|rfl|cases h
 subst hy;cases h;rw[U4] at ry;refine⟨ry,k _ H (Same.refl H) ?_⟩;rw[W7];cases dx<;>simp only[U4,W7,j5,Z9,X4,Z5,u30,mg0] at rx
 all_goals first
  | (subst rx;rfl)
  | (obtain⟨a,xs,rfl,_⟩:=rx;rfl)
theorem Yw0(xs:List α)(i:Int):L2.atI xs i=DL.atI xs i:=rfl
theorem u10(n d:Nat)(o:Option Int):HT.sIx n d o=sIx n d o:=by cases o<;>rfl
theorem jk0{i:Int}{d:D}(r:Rps K H B ds xs)(h:DL.atI ds i=some d):∃v,L2.atI xs i=some v/\Rp K H B d v:=by
 rw[Yw0];unfold DL.atI at h ⊢;rw[r.length];cases e:DL.ixN ds.length i with
 | none=>rw[e] at h;cases h
 | some j =>
  rw[e] at h;exact r.get h
theorem fx0:Op2 K (rIx K) ixD:=by
 intro H B x y dx dy d Q hb rx ry h k;cases dx<;>cases dy<;>simp only[ixD] at h<;>try cases h
 ·split at h
  ·rename_i hz
   rw[Z9] at rx;rw[j5] at ry;subst rx ry;obtain⟨c,hc,rfl⟩:=O0.mp h;exact .inr (.inr ⟨_,_,c,rfl,rfl,hz,hc,k _ H (Same.refl H) (by rw[Z9])⟩)
  ·cases h
 ·rw[X4] at rx
  rw[j5] at ry;subst ry;obtain⟨a,xs,rfl,q,r⟩:=rx;obtain⟨v,hv,rv⟩:=jk0 r h;exact .inr (.inl ⟨a,xs,_,v,rfl,rfl,q.to,hv,k _ H (Same.refl H) rv⟩)
 ·rw[Z5] at rx
  rw[j5] at ry;subst ry;obtain⟨a,xs,rfl,q,r⟩:=rx;obtain⟨v,hv,rv⟩:=jk0 r h;exact .inl ⟨a,xs,_,v,rfl,rfl,q.to,hv,k _ H (Same.refl H) rv⟩
theorem o5(ha:PD X a ga)(hb:PD X b gb)(hs:u80 b:=by exact λ_ _=>rfl):PD X (.Subscript a b pos) (o2 ga gb ixD):=Vs0 gx0 fx0 ha hb hs
structure PDO(X:Cx)(e:Option Expr)(g:Ds->Option (Option Int)):Prop where
 mk::go:∀B δ,PO X e (fun σ H Q=>∃o,Env X.K H B σ δ/\g δ=some o/\∀H',Same H H'->Q o H')
instance{X:Cx}{e:Option Expr}{g:Ds->Option (Option Int)}:CoeFun (PDO X e g) (λ_=>∀B δ,PO X e (fun σ H Q=>∃o,Env X.K H B σ δ/\g δ=some o/\∀H',Same H H'->Q o H')):=⟨PDO.go⟩
theorem v00:PDO X none z10:=.mk λB δ pins s σ H Q I ⟨o,en,h,k⟩=>by
 cases h;exact Z90 pins s σ H Q I (k H (Same.refl H))
theorem zu0(h:PD X e g):PDO X (some e) (someO g):=.mk λB δ pins s σ H Q I ⟨o,en,hq,k⟩=>by
 unfold someO at hq;cases e1:g δ with
 | none=>rw[e1] at hq;cases hq
 | some d =>
  rw[e1] at hq;cases d<;>simp[asI] at hq
  subst hq;exact bv0 (h B δ) pins s σ H Q I ⟨_,en,e1,λv H' s' r=>⟨_,by rw[j5] at r;exact r,k H' s'⟩⟩
theorem ji0(r:Rps K H B ds xs)(lo hi:Option Int):Rps K H B (cutD ds lo hi) (te0 xs lo hi):=by
 unfold cutD te0;rw[r.length,u10,u10];exact(r.drop _).take _
theorem G7{d:D}(h:Rps K H B [d] xs):∃v,xs=[v]/\Rp K H B d v:=by
 rw[p8] at h;obtain⟨x,r,rfl,h1,h2⟩:=h;rw[n6] at h2;subst h2;exact⟨x,rfl,h1⟩
theorem Y90:FnR K (λxs H Q=>(∃z,xs=[.str z]/\z.length<=sizeLine/\Q (.int z.length) H)∨∃p ys,xs=[.ref p]/\(SqL K H p ys∨SqT K H p ys)/\Q (.int ys.length) H) Z2:=by
 intro H B xs ds d Q hb r h k;unfold Z2 at h;split at h
 ·split at h
  ·cases h
   obtain⟨v,rfl,r1⟩:=G7 r;rw[Z9] at r1;subst r1;exact .inl ⟨_,rfl,by assumption,k _ H (Same.refl H) (by rw[j5])⟩
  ·cases h
 ·cases h
  obtain⟨v,rfl,r1⟩:=G7 r;rw[Z5] at r1;obtain⟨a,ys,rfl,q,rr⟩:=r1;exact .inr ⟨a,ys,rfl,.inl q.to,k _ H (Same.refl H) (by rw[j5,rr.length])⟩
 ·cases h
  obtain⟨v,rfl,r1⟩:=G7 r;rw[X4] at r1;obtain⟨a,ys,rfl,q,rr⟩:=r1;exact .inr ⟨a,ys,rfl,.inr q.to,k _ H (Same.refl H) (by rw[j5,rr.length])⟩
 ·cases h
theorem V1(hm:X.mg "len"=none)(ha:PDA X [e] gA)(hg:Gl X "len" := by rfl)(he:starEach [e] X.env=(false,eval e X.env)::starEach [] X.env:=by rfl)(hpl:(backTo pos (starEach [] X.env)).any (·.1)=false:=by rfl) :
  PD X (.Call (.Name "len" p) [e] [] pos) (oA gA Z2):=wj0 (lf0.or lv0) Y90 hm PySem.boot_len ha hg (by decide) (by decide) he hpl
theorem lo0:∀{ds:List D} {xs:List V} {bs:List Str},Rps K H B ds xs->z50 ds=some bs->xs=bs.map V.str
 | [],_,_,r,h=>by
  cases h;rw[n6] at r;exact r
 | d::ds,_,bs,r,h=>by
  rw[p8] at r;obtain⟨x,t,rfl,r1,r2⟩:=r;cases d<;>simp only[z50] at h<;>try cases h
  obtain⟨t',e,rfl⟩:=O0.mp h;rw[Z9] at r1;rw[r1,lo0 r2 e];rfl
theorem sr0{apos cpos:Pos}(ho:PD X o g)(ha:PDA X [e] gA)(hbase:attributeBase o "join" X.env (eval o X.env)=eval o X.env:=by rfl)
  (hfew:((backTo cpos (starEach [e] X.env)).all (λx=>!x.1)&&(backToKw cpos (keywordEach [] X.env)).all (λx=>x.1.isSome)
  &&decide ([e].length+([]:List Keyword).length+(if ([]:List Keyword).isEmpty then 0 else 1)<30))=true:=by rfl)
  (hline:(apos.endLine==cpos.line)=true:=by rfl) (hs:starEach [e] X.env=(false,eval e X.env)::starEach [] X.env:=by rfl) (hplain:(backTo cpos (starEach [] X.env)).any (·.1)=false:=by rfl) :
  PD X (.Call (.Attribute o "join" apos) [e] [] cpos) (zl0 g gA):=.mk λB δ =>
 (ue0 F.plainAttrs_str F.slot_str_join F.type_str_join Zj0 (ho B δ) (ha B δ) hbase hfew hline hs hplain).imp fun σ H Q ⟨d,en,h,k⟩=>by
  unfold zl0 at h;cases e1:g δ with
  | none=>rw[e1] at h;cases h
  | some x =>
   cases e2:gA δ with
   | none=>rw[e1,e2] at h;cases h
   | some ds =>
    rw[e1,e2] at h;simp only[Option.bind_some] at h;unfold ug0 at h;split at h
    ·cases e3:z50 _ with
     | none=>rw[e3] at h;cases h
     | some ys =>
      rw[e3] at h;simp only[Option.bind_some] at h;split at h
      ·cases h
       refine⟨_,en,e1,λv H1 s1 r1=>?_⟩;rw[Z9] at r1;subst r1;refine⟨rfl,_,en.same s1,e2,λvs H2 s2 r2=>?_⟩;obtain⟨w,rfl,r3⟩:=G7 r2;rw[Z5] at r3;obtain⟨a,zs,rfl,q,rr⟩:=r3;have:=lo0 rr e3;subst this;exact⟨_,a,ys,rfl,rfl,q.to,by assumption,k _ H2 (s1.trans s2) (by rw[Z9])⟩
      ·cases h
    ·cases h
theorem z60:FnR K (λxs H Q=>∃p ys,xs=[.ref p]/\((SqL K H p ys/\∀l,H l=none->Q (.ref l) (upd H l (.tup ys)))∨(SqT K H p ys/\Q (.ref p) H))) Q3:=by
 intro H B xs ds d Q hb r h k;unfold Q3 at h;split at h
 ·cases h
  obtain⟨v,rfl,r1⟩:=G7 r;rw[Z5] at r1;obtain⟨a,ys,rfl,q,rr⟩:=r1;exact⟨a,ys,rfl,.inl ⟨q.to,λl hl=>k _ _ (Z1 hl) (o40 hb hl rr)⟩⟩
 ·cases h
  obtain⟨v,rfl,r1⟩:=G7 r;have J:=r1;rw[X4] at r1;obtain⟨a,ys,rfl,q,rr⟩:=r1;exact⟨a,ys,rfl,.inr ⟨q.to,k _ H (Same.refl H) J⟩⟩
 ·cases h
end
section
variable{a:Expr}{ga:Ds->Option D}
theorem yz0(h:PD X a ga):PD X (.UnaryOp .USub a pos) (unG xx0 ga):=.mk λB δ=>(U70 W90 (h B δ)).imp fun σ H Q ⟨d,en,h,k⟩=>by
 unfold unG at h;cases e1:ga δ with
 | none=>rw[e1] at h;cases h
 | some x =>
  rw[e1] at h;cases x<;>simp[xx0] at h
  subst h;exact⟨_,en,e1,λv H' s r=>⟨_,by rw[j5] at r;exact r,k _ H' s (by rw[j5])⟩⟩
theorem dn0:PD X (.Dict [] [] pos) (gc (.dct (.inl []) [])):=.mk λB δ pins s σ H Q I ⟨d,en,h,k⟩=>by
 cases h;have hb:sysModules<s.heap.objs.size:=E7 (by decide) ((I.mod.glob.keeps I.bk).lt:mainGlobals<s.heap.objs.size);have hf:H s.heap.objs.size=none:=I.hok.fresh (A1 _);refine wpAny_Dict_empty ⟨.ref s.heap.objs.size,_,I.laid (a:=s.heap.objs.size) (o:=.dK []) (t':=s.toks) (λ_ _ q=>A6 _ q) (A1 _)
  ⟨B9 _,P8.mpr (A4 (A5 hb)),[],.nil,Heap.DictOf.new s.heap⟩,rfl,k _ _ (Z1 hf) ?_⟩
 rw[p20];exact⟨_,[],rfl,en.free hf,m8,rfl,by rw[n6]⟩
def FnD(P:Program)(w:World)(K:W.Frag)(mg:Str->Option Value)(base:Heap)(x:Str)(k:Nat)(ps:List Str)(f:List D->Option D):Prop :=
 ∃(fa:Addr) (fd:FuncData),FnOk P w K mg base CX0 k fa fd ps (spD K f)/\mg x=some (.ref fa)/\W.keepIn K (.ref fa)=true/\Binds K fd ps []
theorem d8{k m:Nat}{ps:List Str}{f:List D->Option D}(C:FnD X.prog X.w X.K X.mg X.base x k ps f)(hr:Room m X.A)(hk:k<=m)(ha:PDA X (e::es) gA)(hg:Gl X x:=by rfl)(hdb:(x==("__debug__" : Str))=false:=by decide)
  (he:starEach (e::es) X.env=(false,eval e X.env)::starEach es X.env:=by rfl) (hpl:(backTo pos (starEach es X.env)).any (·.1)=false:=by rfl):PD X (.Call (.Name x p) (e::es) [] pos) (oA gA f):=by
 obtain⟨fa,fd,F,hm,kp,hb⟩:=C;exact ai0 F (hr.mono hk) hm kp hb ha hg hdb he hpl
theorem yr0{sc scope:Scope}{elt iter tg:Expr}{ifs:List Expr}{N N':List Str}{n:Nat}{caps:List Nat}{gi:Ds->Option (List D)}{idx:List Nat}{f:D->Ds->Option Ds}{gt:Ds->Option Bool}{ge:Ds->Option D}
  (ok:CompOk sc scope N N' n caps) (hidx:∀j∈idx,j<n) (hi:PID X tg iter gi)
  (hg:∀cl s H ex,PGD (Y0 X scope cl N' s H ex) tg idx f) (ht:∀cl s H ex,PFD (Y0 X scope cl N' s H ex) ifs gt) (he:∀cl s H ex,PD (Y0 X scope cl N' s H ex) elt ge)
  (hc:X.calm=true:=by rfl) (hsc:X.env.scope=sc:=by rfl) (hN:X.N=N:=by rfl) (hs:∀x,foldedSetIterable iter X.env x=pure x:=by intro _;rfl) :
  PD X (.ListComp elt [⟨tg,iter,ifs,0⟩] scope pos) (X8 n caps gi f gt ge):=Z40 hc hsc (hN▸ok) hidx hi hg ht he hs
theorem rv0(i:Nat){y:Str}{py spos:Pos}{sc scope:Scope}{elt iter tg:Expr}{ifs:List Expr}{N N':List Str}{n:Nat}{caps:List Nat}{gi:Ds->Option (List D)}{idx:List Nat}{f:D->Ds->Option Ds}{gt:Ds->Option Bool}{ge:Ds->Option D}
  (hnd:N.Nodup) (ok:CompOk sc scope N N' n caps) (hidx:∀j∈idx,j<n) (hi:PID X tg iter gi)
  (hg:∀cl s H ex,PGD (Y0 X scope cl N' s H ex) tg idx f) (ht:∀cl s H ex,PFD (Y0 X scope cl N' s H ex) ifs gt) (he:∀cl s H ex,PD (Y0 X scope cl N' s H ex) elt ge)
  (hc:X.calm=true:=by rfl) (hsc:X.env.scope=sc:=by rfl) (hN:X.N=N:=by rfl)
  (hiN:X.N[i]?=some y:=by rfl) (hy:Loc X.env.scope y:=by first|exact Or.inl rfl|exact Or.inr rfl)
  (hsw:swapsWith (.ListComp elt [⟨tg,iter,ifs,0⟩] scope pos) (some (.Name y py)) spos.line X.env=pure true:=by rfl)
  (hs:∀x,foldedSetIterable iter X.env x=pure x:=by intro _;rfl)
  (hf:X.fn y=true∨X.env.scope.names.lookup y=some .local:=by first|exact .inl rfl|exact .inr rfl|assumption) :
  PSD X (.Assign [.Name y py] (.ListComp elt [⟨tg,iter,ifs,0⟩] scope pos) spos) (j6 (gN i) (X8 n caps gi f gt ge)):=j90 i (hN▸hnd) hc hsc (hN▸ok) hidx hi hg ht he hiN hy hsw hs hf
end
end DL
namespace DL
open Spec PyProof.Rows
@[simp] def yc0:Sl->Sl
 | .ow d=>.sh (unl d)
 | s=>s
@[simp] def frz(δ:Ds):Ds:=δ.map yc0
@[simp] def flat:D->Bool
 | .non=>true|.bl _=>true|.int _=>true|.str _=>true|_=>false
@[simp] def zt0(g:GE):GE:=fun δ=>(g (frz δ)).bind λd=>if flat d=true then some d else none
@[simp] def rr0(g:GB):GB:=fun δ=>g (frz δ)
@[simp] def ui0(g:GE):GE:=fun δ=>g (frz δ)
@[simp] def frzAt(i:Nat)(δ:Ds):Ds:=match δ[i]? with
 | some s=>δ.set i (yc0 s)
 | none=>δ
@[simp] def ie0(i:Nat)(G:GS):GS:=fun δ=>G (frzAt i δ)
@[simp] def M5(i:Nat)(g:GE):GS:=fun δ=>(g δ).map λd=>.nx (δ.set i (.ow d))
abbrev GX:=Ds->Option (D×Ds)
@[simp] def J7(g:GE):GX:=fun δ=>(g δ).map λd=>(d,δ)
variable{gx:DL.GX}
@[simp] def M3(gx:GX)(ft:D->Ds->Option Ds):GS:=fun δ=>(gx δ).bind λr=>(ft r.1 r.2).map .nx
@[simp] def Z0(gx:GX):GS:=fun δ=>(gx δ).map λr=>.nx r.2
@[simp] def owL(i:Nat)(δ:Ds):Option (List D):=match δ[i]? with
 | some (.ow (.lst ds))=>some ds
 | _=>none
@[simp] def N6(i:Nat)(g:GE):GX:=fun δ=>(owL i δ).bind λds=>(g δ).bind λd=>if ds.length<sizeLine then some (.non,δ.set i (.ow (.lst (ds++[d])))) else none
@[simp] def O7(i:Nat)(g:GE):GX:=fun δ=>(owL i δ).bind λds=>(g δ).bind λd=>match d with
 | .lst es=>if ds.length+es.length<=sizeLine then some (.non,δ.set i (.ow (.lst (ds++es)))) else none
 | _=>none
@[simp] def vi0(i:Nat):GX:=fun δ=>(owL i δ).bind λds=>(ds.getLast?).map λd=>(d,δ.set i (.ow (.lst ds.dropLast)))
abbrev Q4:=Sum Int Str
@[simp] def zp0:D->Option Q4
 | .int i=>some (.inl i)
 | .str x=>some (.inr x)
 | _=>none
def s20:List D->Option (List Q4)
 | []=>some []
 | d::ds=>(zp0 d).bind λk=>(s20 ds).map (k::·)
@[simp] def vo0:D->Option (List Q4)
 | .tup ds=>s20 ds
 | _=>none
def K6{κ:Type}[DecidableEq κ]:List κ->List D->κ->Option D
 | k::ks,d::ds,q=>if k=q then some d else K6 ks ds q
 | _,_,_=>none
def M6{κ:Type}[DecidableEq κ](ks:List κ)(k:κ):Bool:=ks.any λq=>decide (q=k)
def J5{κ:Type}[DecidableEq κ](ks:List κ)(k:κ):List κ:=if M6 ks k=true then ks else ks++[k]
def zh0{κ:Type}[DecidableEq κ](ks:List κ)(ds:List D)(q:κ)(v:D):List D:=if M6 ks q=true then (ks.zip ds).map (λp=>if p.1=q then v else p.2) else ds++[v]
@[simp] def gd0(i:Nat)(δ:Ds):Option (List Q4×List D):=match δ[i]? with
 | some (.ow (.dct (.inl ks) ds))=>some (ks,ds)
 | _=>none
@[simp] def putAt(i:Nat)(g:GE):D->Ds->Option Ds:=λv δ=>(gd0 i δ).bind λr=>(g δ).bind λd=>(zp0 d).bind λk =>
 if r.1.length<sizeLine then some (δ.set i (.ow (.dct (.inl (J5 r.1 k)) (zh0 r.1 r.2 k v)))) else none
@[simp] def M8:D->D->Option D
 | .dct ks ds,d=>match ks with
  | .inl ks=>(zp0 d).bind λk=>K6 ks ds k
  | .inr ks=>(vo0 d).bind λk=>K6 ks ds k
 | _,_=>none
@[simp] def xa0(neg:Bool):D->D->Option D
 | d,.dct ks ds=>match ks with
  | .inl ks=>(zp0 d).map λk=>.bl (xor neg (M6 ks k))
  | .inr ks=>(vo0 d).map λk=>.bl (xor neg (M6 ks k))
 | _,_=>none
def Y5(gt:GB)(G:GS):Nat->Ds->Option Res
 | 0,_=>none
 | n+1,δ=>match gt δ with
  | some false=>some (.nx δ)
  | some true=>match G δ with
   | some (.nx δ')=>Y5 gt G n δ'
   | some (.ct δ')=>Y5 gt G n δ'
   | some (.bk δ')=>some (.nx δ')
   | r=>r
  | none=>none
@[simp] def rq0(i j:Nat):D->Ds->Option Ds
 | .tup [a,b],δ=>some ((δ.set i (.sh a)).set j (.sh b))
 | _,_=>none
mutual
def deq:D->D->Bool
 | .non,.non=>true
 | .bl a,.bl b=>a==b
 | .bl a,.int b=>(if a then 1 else 0)==b
 | .int a,.bl b=>a==(if b then 1 else 0)
 | .int a,.int b=>a==b
 | .str a,.str b=>a==b
 | .tup xs,.tup ys=>y50 xs ys
 | .lst xs,.lst ys=>y50 xs ys
 | _,_=>false
def y50:List D->List D->Bool
 | [],[]=>true
 | x::xs,y::ys=>deq x y&&y50 xs ys
 | _,_=>false
end
mutual
def lean:D->Nat->Bool
 | .dct _ _,_=>false
 | .fn _ _,_=>false
 | .tup xs,n+1=>leans xs n
 | .lst xs,n+1=>leans xs n
 | .tup _,0=>false
 | .lst _,0=>false
 | _,_=>true
def leans:List D->Nat->Bool
 | [],_=>true
 | x::xs,n=>lean x n&&leans xs n
end
@[simp] def o50(x y:D):Option D:=if lean x 50=true/\lean y 50=true then some (.bl (deq x y)) else none
@[simp] def xu0(x y:D):Option D:=if lean x 50=true/\lean y 50=true then some (.bl (!deq x y)) else none
@[simp] def yb0:List D->Option D
 | [.lst ds]=>some (.lst ds)
 | [.tup ds]=>some (.lst ds)
 | _=>none
def mkF(n:Nat)(N:List Str)(G:GS)(ds:List D):Option D:=if ds.length=n then (match G (j8 N ds) with
 | some (.rt d)=>some d
 | some (.rf d)=>if isL d=true then none else some d
 | some (.nx _)=>some .non
 | _=>none) else none
theorem W0{G:GS}{d:D}(h:mkF n N G ds=some d):ds.length=n/\(G (j8 N ds)=some (.rt d)∨(d=.non/\∃δ,G (j8 N ds)=some (.nx δ))∨G (j8 N ds)=some (.rf d)/\isL d=false):=by
 unfold mkF at h;split at h
 ·rename_i hl
  refine⟨hl,?_⟩;split at h
  ·rename_i e;cases h;exact .inl e
  ·rename_i e
   split at h
   ·cases h
   ·rename_i hn
    cases h;exact .inr (.inr ⟨e,As0.mpr hn⟩)
  ·rename_i e;cases h;exact .inr (.inl ⟨rfl,_,e⟩)
  ·cases h
 ·cases h
def mkN(n:Nat)(N:List Str)(G:GS)(ds:List D):Option D:=if ds.length=n then (match G (j8 N ds) with
 | some (.rf d)=>if isL d=true then none else some d
 | _=>none) else none
theorem O5{G:GS}{d:D}(h:mkN n N G ds=some d):ds.length=n/\G (j8 N ds)=some (.rf d)/\isL d=false:=by
 unfold mkN at h;split at h
 ·rename_i hl
  refine⟨hl,?_⟩;split at h
  ·rename_i e
   split at h
   ·cases h
   ·rename_i hn
    cases h;exact⟨e,As0.mpr hn⟩
  ·cases h
 ·cases h
theorem W4{G:GS}{d:D}(hl:ds.length=n)(h:G (j8 N ds)=some (.rf d))(hn:isL d=false:=by rfl):mkN n N G ds=some d:=by
 unfold mkN;rw[if_pos hl,h];simp only[];rw[hn];rfl
@[simp] def O1(g:GE):GS:=fun δ=>(g δ).map .rf
@[simp] def q90(i:Nat):GS:=fun δ=>match δ[i]? with
 | some (.ow d)=>some (.rf d)
 | _=>none
theorem Y8{G1 G2:GS}{d:D}(h:G1 δ=some (.rf d)):v9 G1 G2 δ=some (.rf d):=by unfold v9;rw[h]
theorem R4{g:GE}{d:D}(h:g δ=some d):O1 g δ=some (.rf d):=by unfold O1;rw[h];rfl
theorem j9{G:GS}{d:D}(hl:ds.length=n)(h:G (j8 N ds)=some (.rt d)):mkF n N G ds=some d:=by
 unfold mkF;rw[if_pos hl,h]
theorem v8{G1 G2:GS}{r:Option Res}(h:G1 δ=some (.nx δ'))(k:G2 δ'=r):v9 G1 G2 δ=r:=(Yd0 h).trans k
@[simp] def o9:D->D->Option D
 | .int i,.int j=>some (.int (i+j))
 | .str x,.str y=>if x.length+y.length<=sizeLine then some (.str (x++y)) else none
 | .lst xs,.lst ys=>if xs.length+ys.length<=sizeLine then some (.lst (xs++ys)) else none
 | .tup xs,.tup ys=>if xs.length+ys.length<=sizeLine then some (.tup (xs++ys)) else none
 | _,_=>none
@[simp] def U3:D->D->Option D
 | .int i,.int j=>if (-(2 ^ 64)<i/\i<2 ^ 64)∨(-(2 ^ 64)<j/\j<2 ^ 64) then some (.int (i*j)) else none
 | _,_=>none
@[simp] def slA(d:D)(lo hi:Option Int):Option D:=match d with
 | .str z=>if z.length<=sizeLine then some (.str (Txt.slice z lo hi)) else none
 | .lst xs=>some (.lst (cutD xs lo hi))
 | .tup xs=>some (.tup (cutD xs lo hi))
 | _=>none
@[simp] def xq0(g:GE)(gl gh:GO):GE:=fun δ=>(g δ).bind λd=>(gl δ).bind λl=>(gh δ).bind λh=>slA d l h
end DL
variable{gx:DL.GX}
namespace L2
open Spec PyProof.Rows
section
variable[DecidableEq κ]
def K3(kvs:List (κ×V))(k:κ):Option V:=(kvs.find? λkv=>decide (kv.1=k)).map (·.2)
def putK(kvs:List (κ×V))(k:κ)(v:V):List (κ×V) :=
 if (kvs.any λkv=>decide (kv.1=k))=true then kvs.map (λkv=>if kv.1=k then (kv.1,v) else kv) else kvs++[(k,v)]
theorem wk0{p:κ×V}{r:List (κ×V)}{k:κ}(e:p.1=k):K3 (p::r) k=some p.2:=by simp[K3,List.find?_cons,e]
theorem wu0{p:κ×V}{r:List (κ×V)}{k:κ}(e:¬p.1=k):K3 (p::r) k=K3 r k:=by simp[K3,List.find?_cons,e]
theorem k00(k:κ):∀kvs:List (κ×V),(kvs.any λkv=>decide (kv.1=k))=(K3 kvs k).isSome
 | []=>rfl
 | p::r=>by
  rw[List.any_cons]
  by_cases e:p.1=k
  ·simp only[wk0 e,decide_eq_true e,Bool.true_or,Option.isSome_some]
  ·rw[wu0 e,decide_eq_false e,Bool.false_or];exact k00 k r
theorem r00(kvs:List (κ×V))(k:κ)(v:V):(putK kvs k v).length<=kvs.length+1:=by
 unfold putK;split
 ·rw[List.length_map];omega
 ·rw[List.length_append,List.length_cons,List.length_nil];omega
theorem RelO.isSome_eq{o:Option V}{u:Option Value}(r:RelO o u):o.isSome=u.isSome:=by
 cases o with
 | none=>cases u with
  | none=>rfl
  | some _=>exact(show False from r).elim
 | some _=>cases u with
  | none=>exact(show False from r).elim
  | some _=>rfl
theorem KV.val{kvs:List (κ×V)}{vs:List (κ×Value)}(r:KV kvs vs)(k:κ):RelO (K3 kvs k) (valueAt vs k):=by
 unfold KV at r
 induction r with
 | nil=>exact True.intro
 | @cons p q ps qs h t ih =>
  obtain⟨h1,h2⟩:=h
  by_cases e:p.1=k
  ·have e':q.1=k:=h1.symm.trans e
   have b:valueAt (q::qs) k=some q.2:=by simp[valueAt,List.find?_cons,e']
   rw[wk0 e,b];exact h2
  ·have e':¬q.1=k:=λz=>e (h1.trans z)
   have b:valueAt (q::qs) k=valueAt qs k:=by simp[valueAt,List.find?_cons,e']
   rw[wu0 e,b];exact ih
theorem KV.any{kvs:List (κ×V)}{vs:List (κ×Value)}(r:KV kvs vs)(k:κ):(kvs.any λkv=>decide (kv.1=k))=vs.any λkv=>decide (kv.1=k):=by
 unfold KV at r
 induction r with
 | nil=>rfl
 | cons h t ih=>rw[List.any_cons,List.any_cons,ih,h.1]
theorem KV.repl{kvs:List (κ×V)}{vs:List (κ×Value)}(r:KV kvs vs)(k:κ){y:V}(ry:RelV y u) :
  KV (kvs.map λkv=>if kv.1=k then (kv.1,y) else kv) (vs.map λkv=>if kv.1=k then (kv.1,u) else kv):=by
 unfold KV at r ⊢
 induction r with
 | nil=>exact .nil
 | @cons p q ps qs h t ih =>
  rw[List.map_cons,List.map_cons];refine .cons ?_ ih;obtain⟨h1,h2⟩:=h
  by_cases e:p.1=k
  ·rw[if_pos e,if_pos (h1.symm.trans e)];exact⟨h1,ry⟩
  ·rw[if_neg e,if_neg (λz=>e (h1.trans z))];exact⟨h1,h2⟩
theorem KV.put{kvs:List (κ×V)}{vs:List (κ×Value)}(r:KV kvs vs)(k:κ){y:V}(ry:RelV y u):KV (putK kvs k y) (stored vs k u):=by
 unfold putK stored;rw[r.any k]
 by_cases e:(vs.any λkv=>decide (kv.1=k))=true
 ·rw[if_pos e,if_pos e];exact r.repl k ry
 ·rw[if_neg e,if_neg e];exact Paired.snoc r ⟨rfl,ry⟩
theorem KV.length{kvs:List (κ×V)}{vs:List (κ×Value)}(r:KV kvs vs):kvs.length=vs.length:=c9 r
end
theorem mn0{P:Program}{w:World}{k:Key}(r:RelV (kV k) u):(Q7 P w).is k u=true:=by
 cases k with
 | inl i=>obtain⟨t,e⟩:=(show ∃t,u=Value.int i t from r);subst e;exact ky0 P w i t
 | inr x=>obtain⟨t,e⟩:=(show ∃t,u=Value.str x t from r);subst e;exact j20 P w x t
theorem ol0{P:Program}{w:World}:∀{ks:List Key} {us:List Value},Vals (ks.map kV) us->ItemsAre (Q7 P w) ks us
 | [],_,r=>by rw[List.map_nil] at r;cases r;exact .nil
 | k::ks,_,r=>by
  rw[List.map_cons] at r;cases r with
  | cons h t=>exact .cons (mn0 h) (ol0 t)
abbrev KT(H:Hp):List (List Key×V)->List (List Key×Addr×Value)->Prop:=Paired λp q=>p.1=q.1/\H q.2.1=some (.tup (p.1.map kV))/\RelV p.2 q.2.2
theorem KT.val{kvs:List (List Key×V)}{xs:List (List Key×Addr×Value)}(r:KT H kvs xs)(k:List Key):RelO (K3 kvs k) ((atKey xs k).map (·.2)):=by
 induction r with
 | nil=>exact True.intro
 | @cons p q ps qs h t ih =>
  obtain⟨h1,_,h2⟩:=h
  by_cases e:p.1=k
  ·have e':q.1=k:=h1.symm.trans e
   have b:atKey (q::qs) k=some q.2:=by simp[atKey,List.find?_cons,e']
   rw[wk0 e,b];exact h2
  ·have e':¬q.1=k:=λz=>e (h1.trans z)
   have b:atKey (q::qs) k=atKey qs k:=by simp[atKey,List.find?_cons,e']
   rw[wu0 e,b];exact ih
theorem KT.repl{kvs:List (List Key×V)}{xs:List (List Key×Addr×Value)}(r:KT H kvs xs)(k:List Key){y:V}(ry:RelV y u) :
  KT H (kvs.map λkv=>if kv.1=k then (kv.1,y) else kv) (xs.map (putAt k u)):=by
 induction r with
 | nil=>exact .nil
 | @cons p q ps qs h t ih =>
  rw[List.map_cons,List.map_cons];refine .cons ?_ ih;obtain⟨h1,h2,h3⟩:=h;unfold putAt
  by_cases e:p.1=k
  ·rw[if_pos e,if_pos (h1.symm.trans e)];exact⟨h1,h2,ry⟩
  ·rw[if_neg e,if_neg (λz=>e (h1.trans z))];exact⟨h1,h2,h3⟩
theorem KT.put{kvs:List (List Key×V)}{xs:List (List Key×Addr×Value)}(r:KT H kvs xs)(k:List Key){b:Addr}{y:V}(hb:H b=some (.tup (k.map kV)))(ry:RelV y u) :
  KT H (putK kvs k y) (storedH xs k b u):=by
 have e:(kvs.any λkv=>decide (kv.1=k))=(atKey xs k).isSome:=by
  rw[k00,(r.val k).isSome_eq,Option.isSome_map]
 unfold putK storedH;rw[e]
 by_cases q:(atKey xs k).isSome=true
 ·rw[if_pos q,if_pos q];exact r.repl k ry
 ·rw[if_neg q,if_neg q];exact Paired.snoc r ⟨rfl,hb,ry⟩
theorem KT.keeps{kvs:List (List Key×V)}{xs:List (List Key×Addr×Value)}(r:KT H kvs xs)(ht:∀b ys,H b=some (.tup ys)->H' b=some (.tup ys)):KT H' kvs xs :=
 Paired.mapP r λ_ _ z=>⟨z.1,ht _ _ z.2.1,z.2.2⟩
section
variable{P:Program}{w:World}{h:Heap}
theorem cr0{u:HO}(ok:HOk P w H h)(e:Rd H a u):ObjOk P w H h a u:=e.ok ok
theorem mc0(ok:HOk P w H h)(e:Rd H a (.dK kvs)):kvs.length<=sizeLine/\(a==sysModules)=false/\∃vs,KV kvs vs/\h.DictOf (Q7 P w) a vs :=
 show ObjOk P w H h a (.dK kvs) from cr0 ok e
theorem Vr0(ok:HOk P w H h)(e:H a=some (.dK kvs)):kvs.length<=sizeLine/\(a==sysModules)=false/\∃vs,KV kvs vs/\h.DictOf (Q7 P w) a vs:=mc0 ok (.inl e)
theorem p30(ok:HOk P w H h)(e:H a=some (.tup (ks.map kV))):(tupleKind (Q7 P w)).is h ks a:=by
 obtain⟨_,its,r,o,h1,h2,n,h3,_⟩:=(show ObjOk P w H h a (.tup (ks.map kV)) from ok a _ e);exact⟨o,its.toArray,n,h1,h2,h3,by simpa using ol0 r⟩
theorem mm0{kvs:List (List Key×V)}(ok:HOk P w H h)(e:Rd H a (.dT kvs)):kvs.length<=sizeLine/\(a==sysModules)=false /\
  ∃xs,KT H kvs xs/\h.DictOfH (tupleKind (Q7 P w)) a xs:=by
 obtain⟨z,y,xs,r,o,es,ep,h1,h2,h3,h4,h5⟩:=(show ObjOk P w H h a (.dT kvs) from cr0 ok e);refine⟨z,y,xs,r,o,es,ep,h1,h2,h3,h4,λx hx=>?_,h5⟩;have all:∀{l:List (List Key×V)} {m:List (List Key×Addr×Value)},KT H l m->∀x∈m,(tupleKind (Q7 P w)).is h x.1 x.2.1:=by
  intro l m q
  induction q with
  | nil=>intro x hx;exact nomatch hx
  | @cons p q ps qs hq t ih =>
   intro x hx;rcases B4.mp hx with e|hx
   ·subst e
    exact p30 ok (by rw[← hq.1];exact hq.2.1)
   ·exact ih x hx
 exact all r x hx
theorem Vx0{kvs:List (List Key×V)}(ok:HOk P w H h)(e:H a=some (.dT kvs)):kvs.length<=sizeLine/\(a==sysModules)=false /\
  ∃xs,KT H kvs xs/\h.DictOfH (tupleKind (Q7 P w)) a xs:=mm0 ok (.inl e)
end
def DGet(H:Hp)(a:Addr)(y:V)(r:Option V):Prop :=
 (∃kvs k,Rd H a (.dK kvs)/\y=kV k/\r=K3 kvs k)∨∃kvs k b,Rd H a (.dT kvs)/\y=.ref b/\H b=some (.tup (k.map kV))/\r=K3 kvs k
def DPut(H:Hp)(a:Addr)(y v:V)(H':Hp):Prop :=
 (∃kvs k,H a=some (.dK kvs)/\y=kV k/\kvs.length<sizeLine/\H'=upd H a (.dK (putK kvs k v))) ∨
 ∃kvs k b,H a=some (.dT kvs)/\y=.ref b/\H b=some (.tup (k.map kV))/\kvs.length<sizeLine/\H'=upd H a (.dT (putK kvs k v))
theorem DGet.k{k:Key}(e:H a=some (.dK kvs)):DGet H a (kV k) (K3 kvs k):=.inl ⟨kvs,k,.inl e,rfl,rfl⟩
theorem DGet.t{b:Addr}{kvs:List (List Key×V)}{k:List Key}(e:H a=some (.dT kvs))(eb:H b=some (.tup (k.map kV))):DGet H a (.ref b) (K3 kvs k):=.inr ⟨kvs,k,b,.inl e,rfl,eb,rfl⟩
theorem DPut.k{k:Key}(e:H a=some (.dK kvs))(hl:kvs.length<sizeLine):DPut H a (kV k) v (upd H a (.dK (putK kvs k v))):=.inl ⟨kvs,k,e,rfl,hl,rfl⟩
section
variable{σ:St}{s:Shared}{y:V}{r:Value}{o:Option V}{A:Around}
theorem Inv.big(I:Inv X pins σ H s):sysModules<s.heap.objs.size:=by
 have h:mainGlobals<s.heap.objs.size:=(I.mod.glob.keeps I.bk).lt;exact E7 (by decide) h
theorem on0(hu:A.units+1<cLine)(I:Inv X pins σ H s)(g:DGet H a y (some v))(ry:RelV y u)(h:∀w' s',Inv X pins σ H s'->RelV v w'->Q w' s') :
  wpAny (model X.prog X.w) A (getItem (.ref a) u) Q E s:=by
 rcases g with⟨kvs,k,e,ey,l⟩|⟨kvs,k,b,e,ey,eb,l⟩
 ·subst ey
  obtain⟨z,hd,vs,rel,dd⟩:=mc0 I.hok e;obtain⟨w',hw,J⟩:=RelO.some_of (v:=v) (o:=valueAt vs k) (by rw[l];exact rel.val k);exact wpAny_getItem_of (mn0 ry) dd.mapOf hw (h w' _ (I.tok _) J)
 ·subst ey
  cases (show u=Value.ref b from ry);obtain⟨z,hd,xs,rel,dd⟩:=mm0 I.hok e;obtain⟨w',hw,J⟩:=RelO.some_of (v:=v) (o:=(atKey xs k).map (·.2)) (by rw[l];exact rel.val k);obtain⟨p,hp,O⟩:=O0.mp hw;refine wpAny_getItem_heap (r8 hu) (p30 I.hok eb) dd hp ?_;rw[O];exact h w' _ (I.tok _) J
theorem Z60(hu:A.units+1<cLine)(I:Inv X pins σ H s)(g:DGet H a y o)(ry:RelV y u)(h:∀s',Inv X pins σ H s'->Q (.bool (!o.isSome)) s') :
  wpAny (model X.prog X.w) A (compareOp .NotIn u (.ref a)) Q E s:=by
 rcases g with⟨kvs,k,e,ey,l⟩|⟨kvs,k,b,e,ey,eb,l⟩
 ·subst ey
  obtain⟨z,hd,vs,rel,dd⟩:=mc0 I.hok e;refine wpAny_notIn_of (mn0 ry) hd dd.mapOf ?_;rw[← (rel.val k).isSome_eq,← l];exact h _ (I.tok _)
 ·subst ey
  cases (show u=Value.ref b from ry);obtain⟨z,hd,xs,rel,dd⟩:=mm0 I.hok e;refine wpAny_notIn_heap (r8 hu) (p30 I.hok eb) hd dd ?_;have q:=(rel.val k).isSome_eq;rw[Option.isSome_map] at q;rw[← q,← l];exact h _ (I.tok _)
theorem i20{t':Nat}{ob:HO}(I:Inv X pins σ H s)(mu:Mut (H a))(hs:Heap.SameBut a s.heap h')(he:∃q,h'.get? a=some q)(new:ObjOk X.prog X.w (upd H a ob) h' a ob) :
  Inv X pins σ (upd H a ob) { s with heap:=h',toks:=t' } :=
 I.write (x:=a) (e:=a) mu (.inl rfl) (λb q hb z=>(hs.2 b hb).trans z) he new
theorem Yp0{P:Program}{w:World}{H':Hp}{vs:List (Key×Value)}(z:kvs.length<=sizeLine)(hd:(a==sysModules)=false)(rel:KV kvs vs)(dd:h'.DictOf (Q7 P w) a vs) :
  ObjOk P w H' h' a (.dK kvs):=⟨z,hd,vs,rel,dd⟩
theorem eq0{Q:Unit->Shared->Prop}(hu:A.units+1<cLine)(I:Inv X pins σ H s)(g:DPut H a y v H')(ry:RelV y u)(rv:RelV v r)(h:∀s',Inv X pins σ H' s'->Q () s') :
  wpAny (model X.prog X.w) A (setItem (.ref a) u r) Q E s:=by
 rcases g with⟨kvs,k,e,ey,l,eH⟩|⟨kvs,k,b,e,ey,eb,l,eH⟩
 ·subst ey eH
  obtain⟨z,hd,vs,rel,dd⟩:=Vr0 I.hok e;have hz:vs.length<=sizeLine:=by rw[← rel.length];exact z
  have hl:(putK kvs k v).length<=sizeLine:=by have:=r00 kvs k v;omega
  refine wpAny_setItem_pairs (hsz:=hz) (mn0 ry) dd λh' J hs=>h _ ?_
  have he:∃q,h'.get? a=some q:=let ⟨q,_,_,hq,_⟩:=J;⟨q,hq⟩
  exact i20 I (by rw[e];exact True.intro) hs he (Yp0 hl hd (rel.put k rv) J)
 ·subst ey eH
  cases (show u=Value.ref b from ry);obtain⟨z,hd,xs,rel,dd⟩:=Vx0 I.hok e;have hz:xs.length<=sizeLine:=by rw[← Paired.length rel];exact z
  have hl:(putK kvs k v).length<=sizeLine:=by have:=r00 kvs k v;omega
  refine wpAny_setItem_heap (hsz:=hz) (r8 hu) (p30 I.hok eb) dd λh' J hs=>h _ ?_
  obtain⟨q,es,ep,hq,h2,h3,h4,_,h5⟩:=J;refine i20 I (by rw[e];exact True.intro) hs ⟨q,hq⟩ ⟨hl,hd,_,(rel.put k eb rv).keeps λc ys ec=>?_,q,es,ep,hq,h2,h3,h4,h5⟩;rw[o6 (Wx0 ec e (λz=>nomatch z))];exact ec
end
def ey0(i:Expr):Prop:=∀ov iv,subscripted i false ov iv=operate [ov,iv] (getItem ov iv)
theorem o20{prog:Program}{w:World}{A:Around}{E:Value->Shared->Prop}{s:Shared}{env:Env}{value slice:Expr}{pos:Pos}{T id:String}{Q:Value->Shared->Prop}
  (hl:typeLookup (.type T) "__getitem__"=pure (some (.builtin id))) (hs:ey0 slice)
  (h:wpAny (model prog w) A (eval value env) (λo s₁=>wpAny (model prog w) A (eval slice env) (λi s₂=>s₂.TypeIs o T/\wpAny (model prog w) A (getItem o i) Q E s₂) E s₁) E s) :
  wpAny (model prog w) A (eval (.Subscript value slice pos) env) Q E s:=by
 refine Subscript_ (C9 h (λo s₁ h₁=>C9 h₁ (λi s₂ h₂=>?_) λ_ _ x=>x) λ_ _ x=>x);obtain⟨hT,h₂⟩:=h₂;unfold subscriptTail;refine A0 ?_;rw[getitemInPython_of_ne hT.not_modules];refine A0 (P1 hT hl ?_);have J:wpAny (model prog w) A (subscripted slice false o i) (λr s₃=>wpAny (model prog w) A (letTemporaryGo value o r>>=λ_=>pure r) Q E s₃) E s₂:=by
  rw[hs o i];exact wpAny_operating (C9 h₂ (λr s₃ h₃=>A0 (wpAny_letTemporaryGo (A2 h₃))) λ_ _ x=>x)
 first
  | exact A2 (A0 J)
  | exact A0 (A2 (A0 J))
  | exact A0 J
theorem rj0{σ:St}{s:Shared}{y:V}{o:Option V}(I:Inv X pins σ H s)(g:DGet H a y o):s.TypeIs (.ref a) "dict" := by
 rcases g with⟨kvs,k,e,_,_⟩|⟨kvs,k,b,e,_,_,_⟩
 ·obtain⟨_,_,vs,_,dd⟩:=mc0 I.hok e
  exact dd.typeIs
 ·obtain⟨_,_,xs,_,dd⟩:=mm0 I.hok e
  exact dd.typeIs
def Vp0(td ty:TE):TE:=fun σ H Q=>td σ H λx H1=>ty σ H1 λy H2=>∃a v,x=.ref a/\DGet H2 a y (some v)/\Q v H2
def ad0(ty td:TE):TE:=fun σ H Q=>ty σ H λy H1=>td σ H1 λx H2=>∃a o,x=.ref a/\DGet H2 a y o/\Q (.bl (!o.isSome)) H2
section
variable{i:Expr}{td tv:TE}
theorem Zw0(hu:X.A.units+1<cLine)(ho:PE X o td)(hi:PE X i ty)(hs:ey0 i):PE X (.Subscript o i pos) (Vp0 td ty):=by
 intro pins s σ H Q I h;refine o20 Au0.lookup hs (thn (ho pins s σ H _ I h) λu s1 ⟨x,H1,I1,rx,q1⟩=>thn (hi pins s1 σ H1 _ I1 q1) λiv s2 ⟨y,H2,I2,ry,a,v,ex,g,q2⟩=>?_);subst ex;obtain rfl:u=Value.ref a:=rx;exact⟨rj0 I2 g,on0 hu I2 g ry λw' s3 I3 J=>⟨v,H2,I3,J,q2⟩⟩
theorem es0(hu:X.A.units+1<cLine)(hi:PE X i ty)(ho:PE X o td):PC X .NotIn i o (ad0 ty td):=by
 intro pins s σ H Q I h;refine thn (hi pins s σ H _ I h) λiv s1 ⟨y,H1,I1,ry,q1⟩=>thn (ho pins s1 σ H1 _ I1 q1) λu s2 ⟨x,H2,I2,rx,a,ov,ex,g,q2⟩=>?_
 subst ex;obtain rfl:u=Value.ref a:=rx;exact Z60 hu I2 g ry λs3 I3=>⟨.bl (!ov.isSome),H2,I3,rfl,q2⟩
end
theorem co0{P:Program}{w:World}(h:Heap)(hb:sysModules<h.objs.size):ObjOk P w H (h.push { cls:=.type "dict",data:=.dict #[] }) h.objs.size (.dK []) :=
 ⟨B9 _,P8.mpr (A4 (A5 hb)),[],.nil,Heap.DictOf.new h⟩
def X90:TE:=λ_ H Q=>∀p,H p=none->Q (.ref p) (upd H p (.dK []))
theorem cg0:PE X (.Dict [] [] pos) X90:=λpins s σ H Q I h =>
 wpAny_Dict_empty ⟨.ref s.heap.objs.size,_,I.laid (a:=s.heap.objs.size) (o:=.dK []) (t':=s.toks) (λ_ _ q=>A6 _ q) (A1 _) (co0 s.heap I.big),rfl,h _ (I.hok.fresh (A1 _))⟩
end L2
namespace DL
open Spec PyProof.Rows L2
section
variable{σ σ':St}
theorem Gr.fresh{p:Addr}{o:HO}(h:H p=none):Gr H (upd H p o) B (λa=>B a∨a=p):=λb u n e=>by
 have hb:b≠p:=T9 e h;exact⟨λz=>z.elim n hb,by rw[o6 hb];exact e⟩
theorem Gr.own{o:HO}(h:B a):Gr H (upd H a o) B B:=λb u n e=>⟨n,by rw[o6 (λz=>n (by rw[z];exact h))];exact e⟩
theorem RpO.mono{d:D}(s:∀o,H a=some o->H' a=some o)(g:Gr H H' B B')(h:RpO K H B d a):RpO K H' B' d a:=by
 cases d<;>try exact h.elim
 ·obtain⟨xs,e,r⟩:=h;exact⟨xs,s _ e,r.mono g⟩
 ·obtain⟨xs,e,l,r⟩:=h;exact⟨xs,s _ e,l,r.mono g⟩
theorem RpL.mono{d:D}(s:∀o,H a=some o->H' a=some o)(g:Gr H H' B B')(h:RpL K H B d a):RpL K H' B' d a:=by
 cases d with
 | tup es=>obtain⟨ds,q,xs,e,r⟩:=h;exact⟨ds,q,xs,s _ e,r.mono g⟩
 | _=>exact(RpO.mono s g (RpL.toO rfl h)).toL
theorem Pd.impI{F G:α->β->Prop}:∀{l:List α} {m:List β},(∀(i:Nat) a b,l[i]?=some a->m[i]?=some b->F a b->G a b)->Paired F l m->Paired G l m
 | _,_,_,.nil=>.nil
 | _,_,h,.cons r t=>.cons (h 0 _ _ rfl rfl r) (Pd.impI (λi a b e1 e2=>h (i+1) a b (by simpa using e1) (by simpa using e2)) t)
theorem wl0:∀{l:List α} {i:Nat} {a:α},l[i]?=some a->l.set i a=l
 | [],_,_,h=>by simp at h
 | x::l,0,a,h=>by simp at h;subst h;rfl
 | x::l,i+1,a,h=>by rw[List.set_cons_succ,wl0 (by simpa using h)]
theorem Pd.setR{F:α->β->Prop}{a:α}{b:β}(r:F a b){l:List α}{m:List β}(e:l[i]?=some a)(h:Paired F l m):Paired F l (m.set i b):=by
 have:=Pd.set r i h
 rwa [wl0 e] at this
theorem get_set{l:List α}{a b:α}(h:(l.set i a)[j]?=some b):(i=j/\a=b/\j<l.length)∨(i≠j/\l[j]?=some b):=by
 by_cases e:i=j
 ·subst e
  by_cases hl:i<l.length
  ·rw[List.getElem?_set_self hl] at h
   exact .inl ⟨rfl,B3 h,hl⟩
  ·rw[List.getElem?_eq_none (by simpa using hl)] at h;cases h
 ·rw[List.getElem?_set_ne e] at h
  exact .inr ⟨e,h⟩
theorem Env.at(e:Env K H B σ δ){d:D}(h:δ[i]?=some (.ow d)):∃a,σ[i]?=some (some (.ref a))/\B a/\RpL K H B d a:=by
 obtain⟨o,h1,a,rfl,hb,r⟩:=Pd.get e.all h;exact⟨a,h1,hb,r⟩
theorem Env.mut(e:Env K H B σ δ){d0 d:D}{o:HO}(hi:δ[i]?=some (.ow d0))(hs:σ[i]?=some (some (.ref a)))(r:RpL K (upd H a o) B d a):Env K (upd H a o) B σ (δ.set i (.ow d)):=by
 obtain⟨a',h1,hb,_⟩:=e.at hi;rw[hs] at h1;cases h1;refine⟨?_,λb z=>?_,λj k b ds es h1 h2 h3 h4=>?_⟩
 ·
  have h0:Paired (λ(o':Option V) (s:Sl)=>SlR K (upd H a o) B o' s∨(∃d,s=.ow d/\o'=some (.ref a))) σ δ:=Pd.imp (λo' s h=>by
   cases s with
   | un=>exact .inl trivial
   | ex c n=>obtain⟨v,e,r⟩:=h;exact .inl ⟨v,e,r.mono (Gr.own hb)⟩
   | sh d=>obtain⟨v,e,r⟩:=h;exact .inl ⟨v,e,r.mono (Gr.own hb)⟩
   | ow d =>
    obtain⟨b,e,O,r⟩:=h
    by_cases z:b=a
    ·subst z;exact .inr ⟨d,rfl,e⟩
    ·exact .inl ⟨b,e,O,r.mono (λo h=>by rw[o6 z];exact h) (Gr.own hb)⟩) e.all
  have h1:=Pd.setR (i:=i) (b:=Sl.ow d) (.inl ⟨a,rfl,hb,r⟩) hs h0;refine Pd.impI (λj o' s e1 e2 h=>?_) h1;rcases h with h|⟨d',rfl,rfl⟩
  ·exact h
  ·rcases get_set e2 with⟨rfl,e3,_⟩|⟨J,e3⟩
   ·cases e3;exact⟨a,rfl,hb,r⟩
   ·exact absurd (e.own i j a d0 d' hi e3 hs e1) J
 ·by_cases z':b=a
  ·subst z';exact r.live
  ·rw[o6 z'];exact e.bad b z
 ·have q1:∃d,δ[j]?=some (.ow d):=by
   rcases get_set h1 with⟨rfl,_,_⟩|⟨_,h⟩
   ·exact⟨_,hi⟩
   ·exact⟨_,h⟩
  have q2:∃d,δ[k]?=some (.ow d):=by
   rcases get_set h2 with⟨rfl,_,_⟩|⟨_,h⟩
   ·exact⟨_,hi⟩
   ·exact⟨_,h⟩
  obtain⟨d1,q1⟩:=q1;obtain⟨d2,q2⟩:=q2;exact e.own j k b d1 d2 q1 q2 h3 h4
theorem EnvS.mut(en:EnvS K H₀ B₀ H σ δ)(s:Same H H')(b1:∀a,B₀ a->B a)(b2:∀a,B a->B₀ a∨H₀ a=none){d0 d:D}{o:HO}(hi:δ[i]?=some (.ow d0))(hs:σ[i]?=some (some (.ref a)))
  (env:Env K (upd H' a o) B σ (δ.set i (.ow d))):EnvS K H₀ B₀ (upd H' a o) σ (δ.set i (.ow d)):=by
 have h0:=en.fr i d0 a hi hs;refine⟨λb u h=>?_,⟨B,b1,b2,env⟩,λj ds b h1 h2=>?_,en.b0⟩
 ·have:b≠a:=λz=>by rw[z,h0] at h;cases h
  rw[o6 this];exact s _ _ (en.same b u h)
 ·rcases get_set h1 with⟨rfl,_,_⟩|⟨_,h⟩
  ·rw[hs] at h2;cases h2;exact h0
  ·exact en.fr j ds b h h2
theorem EnvS.take(en:EnvS K H₀ B₀ H σ δ)(b1:∀a,B₀ a->B a)(b2:∀a,B a->B₀ a∨H₀ a=none)(e:Env K H B σ δ)(i:Nat){d:D}{p:Addr}(hp:H p=none)(s:Same H H')
  (r:RpO K H' (λa=>B a∨a=p) d p):EnvS K H₀ B₀ H' (σ.set i (some (.ref p))) (δ.set i (.ow d)):=by
 have g:Gr H H' B (λa=>B a∨a=p):=λb u n h=>⟨λz=>z.elim n (T9 h hp),s _ _ h⟩
 have J:H₀ p=none:=en.same.free hp;have live:∀{j:Nat} {d':D} {b:Addr},δ[j]?=some (.ow d')->σ[j]?=some (some (.ref b))->b≠p:=λ{j d' b} h1 h2=>by
  obtain⟨a,q1,q2,q3⟩:=e.at h1;rw[h2] at q1;cases q1;exact λz=>e.bad _ q2 (by rw[z];exact hp)
 refine⟨en.same.trans s,⟨λa=>B a∨a=p,λa z=>.inl (b1 a z),λa z=>?_,?_,λa z=>?_,λj k a ds es h1 h2 h3 h4=>?_⟩,λj ds a h1 h2=>?_,en.b0⟩
 ·rcases z with z|rfl
  ·exact b2 a z
  ·exact .inr J
 ·refine Pd.set ⟨p,rfl,.inr rfl,r.toL⟩ i (Pd.imp (λo sl h=>?_) e.all)
  cases sl with
  | un=>trivial
  | ex c n=>obtain⟨v,e,r⟩:=h;exact⟨v,e,r.mono g⟩
  | sh d=>obtain⟨v,e,r⟩:=h;exact⟨v,e,r.mono g⟩
  | ow d=>obtain⟨b,e,O,r⟩:=h;exact⟨b,e,.inl O,r.mono (λo h=>s _ _ h) g⟩
 ·rcases z with z|rfl
  ·exact(e.bad a z).same s
  ·exact r.live
 ·rcases get_set h1 with⟨rfl,_,_⟩|⟨n1,h1⟩
  ·rcases get_set h2 with⟨rfl,_,_⟩|⟨n2,h2⟩
   ·rfl
   ·rcases get_set h3 with⟨_,e3,_⟩|⟨n3,_⟩
    ·cases e3
     rw[List.getElem?_set_ne n2] at h4;exact absurd rfl (live h2 h4)
    ·exact absurd rfl n3
  ·rcases get_set h2 with⟨rfl,_,_⟩|⟨n2,h2⟩
   ·rcases get_set h4 with⟨_,e4,_⟩|⟨n4,_⟩
    ·cases e4
     rw[List.getElem?_set_ne n1] at h3;exact absurd rfl (live h1 h3)
    ·exact absurd rfl n4
   ·rw[List.getElem?_set_ne n1] at h3
    rw[List.getElem?_set_ne n2] at h4;exact e.own j k a ds es h1 h2 h3 h4
 ·rcases get_set h1 with⟨rfl,_,_⟩|⟨n1,h1⟩
  ·rcases get_set h2 with⟨_,e3,_⟩|⟨n3,_⟩
   ·cases e3;exact J
   ·exact absurd rfl n3
  ·rw[List.getElem?_set_ne n1] at h2
   exact en.fr j ds a h1 h2
theorem Env.frz(e:Env K H B σ δ):∃B':BS,(∀a,B' a->B a)/\(∀a,B a->B' a∨∃(i:Nat) (d:D),δ[i]?=some (.ow d)/\σ[i]?=some (some (.ref a)))/\Env K H B' σ (DL.frz δ):=by
 refine⟨λa=>B a/\¬∃(i:Nat) (d:D),δ[i]?=some (.ow d)/\σ[i]?=some (some (.ref a)),λa z=>z.1,λa z=>?_,?_,λa z=>e.bad a z.1,λi j a ds es h1 _ _ _=>?_⟩
 ·by_cases q:∃(i:Nat) (d:D),δ[i]?=some (.ow d)/\σ[i]?=some (some (.ref a))
  ·exact .inr q
  ·exact .inl ⟨z,q⟩
 ·have:Paired (λo s=>SlR K H (λa=>B a/\¬∃(i:Nat) (d:D),δ[i]?=some (.ow d)/\σ[i]?=some (some (.ref a))) o (yc0 s)) σ δ:=Pd.impI (λi o s e1 e2 h=>by
   cases s with
   | un=>trivial
   | ex c n=>obtain⟨v,e,r⟩:=h;exact⟨v,e,r.mono (Gr.less λa z=>z.1)⟩
   | sh d=>obtain⟨v,e,r⟩:=h;exact⟨v,e,r.mono (Gr.less λa z=>z.1)⟩
   | ow d =>
    obtain⟨a,rfl,hb,r⟩:=h;exact⟨_,rfl,r.rp (λa z=>z.1) λz=>z.2 ⟨i,d,e2,e1⟩⟩) e.all
  have mp:∀{l:St} {m:Ds} {F:Option V->Sl->Prop},Paired (λo s=>F o (yc0 s)) l m->Paired F l (m.map yc0):=by
   intro l m F h
   induction h with
   | nil=>exact .nil
   | cons r t ih=>exact .cons r ih
  exact mp this
 ·unfold DL.frz at h1
  rw[List.getElem?_map] at h1;cases q:δ[i]? with
  | none=>rw[q] at h1;cases h1
  | some s=>rw[q] at h1;cases s<;>cases h1
theorem EnvS.frz(en:EnvS K H₀ B₀ H σ δ):EnvS K H₀ B₀ H σ (DL.frz δ):=by
 obtain⟨B,b1,b2,env⟩:=en.ex;obtain⟨B',c1,c2,J⟩:=env.frz;refine⟨en.same,⟨B',λa z=>?_,λa z=>b2 a (c1 a z),J⟩,λi ds a h1 _=>?_,en.b0⟩
 ·rcases c2 a (b1 a z) with q|⟨i,d,q1,q2⟩
  ·exact q
  ·exact absurd (en.fr i d a q1 q2) (en.b0 a z)
 ·unfold DL.frz at h1
  rw[List.getElem?_map] at h1;cases q:δ[i]? with
  | none=>rw[q] at h1;cases h1
  | some s=>rw[q] at h1;cases s<;>cases h1
theorem Env.frzAt(e:Env K H B σ δ)(i:Nat):∃B':BS,(∀a,B' a->B a)/\(∀a,B a->B' a∨∃(d:D),δ[i]?=some (.ow d)/\σ[i]?=some (some (.ref a)))/\Env K H B' σ (DL.frzAt i δ):=by
 unfold DL.frzAt;cases h:δ[i]? with
 | none=>exact⟨B,λ_ z=>z,λ_ z=>.inl z,e⟩
 | some s =>
  cases s with
  | un=>dsimp only [yc0];rw[wl0 h];exact⟨B,λ_ z=>z,λ_ z=>.inl z,e⟩
  | ex c n=>dsimp only [yc0];rw[wl0 h];exact⟨B,λ_ z=>z,λ_ z=>.inl z,e⟩
  | sh d=>dsimp only [yc0];rw[wl0 h];exact⟨B,λ_ z=>z,λ_ z=>.inl z,e⟩
  | ow d =>
   obtain⟨a,h1,hb,r⟩:=e.at h;refine⟨λb=>B b/\b≠a,λb z=>z.1,λb z=>?_,?_,λb z=>e.bad b z.1,λj k b ds es O Z h3 h4=>?_⟩
   ·by_cases q:b=a
    ·subst q;exact .inr ⟨d,rfl,h1⟩
    ·exact .inl ⟨z,q⟩
   ·have h0:Paired (λ(o':Option V) (s:Sl)=>SlR K H (λb=>B b/\b≠a) o' s∨(∃d,s=.ow d/\o'=some (.ref a))) σ δ:=Pd.imp (λo' s h=>by
     cases s with
     | un=>exact .inl trivial
     | ex c n=>obtain⟨v,e,r⟩:=h;exact .inl ⟨v,e,r.mono (Gr.less λa z=>z.1)⟩
     | sh d=>obtain⟨v,e,r⟩:=h;exact .inl ⟨v,e,r.mono (Gr.less λa z=>z.1)⟩
     | ow d =>
      obtain⟨b,e,Y,r⟩:=h
      by_cases z:b=a
      ·subst z;exact .inr ⟨d,rfl,e⟩
      ·exact .inl ⟨b,e,⟨Y,z⟩,r.mono (λo h=>h) (Gr.less λa z=>z.1)⟩) e.all
    have h2:=Pd.setR (i:=i) (b:=Sl.sh (unl d)) (.inl ⟨.ref a,rfl,r.rp (λb z=>z.1) λz=>z.2 rfl⟩) h1 h0;refine Pd.impI (λj o' s e1 e2 hh=>?_) h2;rcases hh with hh|⟨d',rfl,rfl⟩
    ·exact hh
    ·rcases get_set e2 with⟨rfl,e3,_⟩|⟨J,e3⟩
     ·cases e3
     ·exact absurd (e.own i j a d d' h e3 h1 e1) J
   ·rcases get_set O with⟨_,q,_⟩|⟨_,q1⟩
    ·cases q
    ·rcases get_set Z with⟨_,q,_⟩|⟨_,q2⟩
     ·cases q
     ·exact e.own j k b ds es q1 q2 h3 h4
theorem EnvS.frzAt(en:EnvS K H₀ B₀ H σ δ)(i:Nat):EnvS K H₀ B₀ H σ (DL.frzAt i δ):=by
 obtain⟨B,b1,b2,env⟩:=en.ex;obtain⟨B',c1,c2,J⟩:=env.frzAt i;refine⟨en.same,⟨B',λa z=>?_,λa z=>b2 a (c1 a z),J⟩,λj ds a h1 h2=>?_,en.b0⟩
 ·rcases c2 a (b1 a z) with q|⟨d,q1,q2⟩
  ·exact q
  ·exact absurd (en.fr i d a q1 q2) (en.b0 a z)
 ·unfold DL.frzAt at h1
  cases q:δ[i]? with
  | none=>rw[q] at h1;exact en.fr j ds a h1 h2
  | some s =>
   rw[q] at h1;rcases get_set h1 with⟨rfl,q',_⟩|⟨_,q1⟩
   ·cases s<;>cases q'
   ·exact en.fr j ds a q1 h2
theorem jg0{d:D}(h:flat d=true)(r:Rp K H B d v):Rp K H' B' d v:=by
 cases d<;>simp[flat] at h
 ·rw[U4] at r ⊢;exact r
 ·rw[W7] at r ⊢;exact r
 ·rw[j5] at r ⊢;exact r
 ·rw[Z9] at r ⊢;exact r
end
section
variable{g:GE}{gt:GB}{G:GS}
theorem p70(h:PD X e g):PD X e (zt0 g):=.mk λB δ pins s σ H Q I ⟨d,en,hq,k⟩=>by
 obtain⟨B',c1,c2,J⟩:=en.frz;unfold zt0 at hq;cases e1:g (frz δ) with
 | none=>rw[e1] at hq;cases hq
 | some x =>
  rw[e1] at hq
  by_cases hf:flat x=true
  ·simp only[Option.bind_some,if_pos hf] at hq
   cases hq;exact h B' (frz δ) pins s σ H Q I ⟨_,J,e1,λv H' s' r=>k v H' s' (jg0 hf r)⟩
  ·simp only[Option.bind_some,if_neg hf] at hq
   cases hq
theorem jm0(h:PTD X e gt):PTD X e (rr0 gt):=.mk λB δ pins s σ H Q I ⟨d,en,hq,k⟩=>by
 obtain⟨B',c1,c2,J⟩:=en.frz;exact h B' (frz δ) pins s σ H Q I ⟨d,J,hq,k⟩
theorem kq0(i:Nat)(h:PSD X st G):PSD X st (ie0 i G):=.mk λH₀ B₀ δ pins s σ H D I ⟨r,en,hq,k⟩=>h H₀ B₀ _ pins s σ H D I ⟨r,en.frzAt i,hq,k⟩
theorem wg0(h:PD X e g):PSD X (.Return (some e) pos) (d9 (ui0 g)):=.mk λH₀ B₀ δ pins s σ H D I ⟨r,en,hq,k⟩ =>
 o7 h H₀ B₀ (frz δ) pins s σ H D I ⟨r,en.frz,hq,k⟩
theorem S7{gA:GA}(h:PDA X es gA):PDF X (.List es pos) (W5 gA) :=
 .mk λB δ=>(tt0 (h B δ)).imp fun σ H Q ⟨d,en,h,k⟩=>by
  unfold W5 at h;cases e1:gA δ with
  | none=>rw[e1] at h;cases h
  | some ds =>
   rw[e1] at h
   by_cases hl:ds.length<=sizeLine
   ·simp only[Option.bind_some,if_pos hl] at h
    cases h;refine⟨ds,en,e1,λvs H1 s1 r1=>⟨by rw[r1.length];exact hl,λp hp=>k _ _ (s1.free hp) (s1.trans (Z1 hp)) ⟨vs,m8,r1.mono (Gr.fresh hp)⟩⟩⟩
   ·simp only[Option.bind_some,if_neg hl] at h
    cases h
theorem nq0:PDF X (.Dict [] [] pos) (gc (.dct (.inl []) [])):=.mk λB δ=>cg0.imp fun σ H Q ⟨d,en,h,k⟩=>by
 cases h;exact λp hp=>k p _ hp (Z1 hp) ⟨[],m8,rfl,by rw[n6]⟩
theorem T5(i:Nat){px:Pos}(h:PDF X e g)(hN:X.N.Nodup)(hi:X.N[i]?=some x:=by rfl)(hx:Loc X.env.scope x:=by first|exact Or.inl rfl|exact Or.inr rfl)
  (hs:swapsWithSole [.Name x px] e pos.line X.env=pure false:=by rfl) (hw:swappedStores [.Name x px] e X.env=pure none:=by rfl)
  (h1:(assignEach [.Name x px] X.env).map (·.2)=[assign (.Name x px) X.env]:=by rfl)
  (hf:X.fn x=true∨X.env.scope.names.lookup x=some .local:=by first|exact .inl rfl|exact .inr rfl|assumption):PSD X (.Assign [.Name x px] e pos) (M5 i g):=.mk λH₀ B₀ δ pins s σ H D I ⟨r,en,e1,k⟩=>by
 unfold M5 at e1;obtain⟨B,b1,b2,env⟩:=en.ex;cases e2:g δ with
 | none=>rw[e2] at e1;cases e1
 | some d =>
  rw[e2] at e1;cases e1;exact po0 (h B δ) (zx0 (i:=i) hN hi hx hf) hs hw h1 pins s σ H D I ⟨d,env,e2,λp H' hp s' r=>k _ H' (en.take b1 b2 env i hp s' r)⟩
end
end DL
namespace L2
open Spec PyProof.Rows
open PySem.AutoSeq1 (wpAny_loadPart')
theorem gj0(p:Addr)(xs:Array Value)(k:Nat)(q:Addr)(ys:Array Value)(m:Nat)(dq:Option Addr)(sq:Array (Option Value))(h0:¬(!xs.isEmpty&&Builtin.List.listTooLong (xs.size+ys.size))=true)(h1:xs.size<=sizeLine)(h2:xs.size+ys.size<=sizeLine+1) :
  Meets (Builtin.«list.extend» ⟨[.ref p,.ref q],[]⟩) (λ_ R s=>s.heap.get? p=some { cls:=.type "list",dict:=none,data:=.seq xs k,slots:=#[] }/\s.heap.get? q=some { cls:=.type "list",dict:=dq,data:=.seq ys m,slots:=sq }/\R (.ok (.ret Value.none)) { s with heap:=s.heap.update p (Obj.mapSeq λz=>z++ys) }) :=
 .of_wp λprog w A R s h=>by
  obtain⟨hp,g,d,tk,os⟩:=s;obtain⟨hl,hb,h⟩:=h;have f1:=AutoSeq1.idx_int;have f2:=AutoSeq1.sub_tuple_tuple;have f3:=AutoSeq1.sub_list_list;have f4:=AutoSeq1.sub_tuple_list;have f5:=AutoSeq1.sub_list_tuple;have J:(xs++ys).size<=sizeLine+1:=by rw[Array.size_append];exact h2
  wp_walk using (P2 hl rfl (hz:=h1) (_hz':=J)),r9 hl,r9 hb
  exact⟨_,rfl,h⟩
def ci0(K:W.Frag):V->List V->Hp->VK->Prop:=λx vs H Q=>∃l b xs zs,x=.ref l/\vs=[.ref b]/\H l=some (.lst xs)/\SqL K H b zs/\xs.length+zs.length<=sizeLine/\Q .non (upd H l (.lst (xs++zs)))
theorem iw0:MtM X "list.extend" (ci0 X.K):=by
 intro pins s σ H x vs v us Q I rx rv h;obtain⟨l,b,xs,zs,rfl,rfl,hH,hB,hz,q⟩:=h;cases rx;obtain⟨u,rfl,ru⟩:=rv.one;cases ru;obtain⟨z,its,n,r,hl,e⟩:=I.lstM hH;obtain⟨J,r2,p2,z2⟩:=I.list hB;obtain⟨⟨a5,a2,data2,a4⟩,a3,Y,n2,Z⟩:=p2.isList;simp only at Y Z;subst Y Z;have hl2:=r2.length;have a1:its.toArray.size+J.toArray.size<=sizeLine:=by rw[List.size_toArray,List.size_toArray];omega
 have O:¬(!its.toArray.isEmpty&&Builtin.List.listTooLong (its.toArray.size+J.toArray.size))=true:=by
  rw[dx0 a1,Bool.and_false];exact B8
 refine E6 F.slot_list_extend ⟨_,e,rfl⟩ F.entry_list_extend (F.args_list_extend_2 _ _)
  (gj0 l its.toArray n b J.toArray n2 a2 a4 O (by rw[List.size_toArray];omega) (by omega)) ⟨e,a3,?_⟩
 refine⟨.non,_,I.lset (its':=its++J) hH e (by simp) (r.append r2) ?_,rfl,q⟩;rw[List.length_append];omega
def Wr0:V->V->V->Hp->(Hp->Prop)->Prop:=λo i v H Q=>∃a H',o=.ref a/\DPut H a i v H'/\Q H'
theorem set_dict(hu:X.A.units+1<cLine):X00 X Wr0:=by
 intro pins s σ H o i v ov iv u Q I ro ri rv h;obtain⟨a,H',rfl,g,q⟩:=h;cases ro;exact eq0 hu I g ri rv λs3 I3=>⟨H',I3,q⟩
end L2
namespace DL
open Spec PyProof.Rows L2
section
variable{σ σ':St}
theorem Rps.dropLast(h:Rps K H B ds xs):Rps K H B ds.dropLast xs.dropLast:=by
 rw[List.dropLast_eq_take,List.dropLast_eq_take,h.length];exact h.take _
structure EnvV(K:W.Frag)(H₀:Hp)(B₀:BS)(H:Hp)(σ:St)(δ:Ds)(d:D)(v:V):Prop where
 same:Same H₀ H
 ex:∃B:BS,(∀a,B₀ a->B a)/\(∀a,B a->B₀ a∨H₀ a=none)/\Env K H B σ δ/\Rp K H B d v
 fr:∀(i:Nat) (ds:D) (a:Addr),δ[i]?=some (.ow ds)->σ[i]?=some (some (.ref a))->H₀ a=none
 b0:∀a,B₀ a->NB (H₀ a)
theorem EnvV.s{d:D}(h:EnvV K H₀ B₀ H σ δ d v):EnvS K H₀ B₀ H σ δ:=⟨h.same,let ⟨B,b1,b2,e,_⟩:=h.ex;⟨B,b1,b2,e⟩,h.fr,h.b0⟩
theorem EnvV.mk'{d:D}(h:EnvS K H₀ B₀ H σ δ)(b1:∀a,B₀ a->B a)(b2:∀a,B a->B₀ a∨H₀ a=none)(e:Env K H B σ δ)(r:Rp K H B d v):EnvV K H₀ B₀ H σ δ d v:=⟨h.same,⟨B,b1,b2,e,r⟩,h.fr,h.b0⟩
end
def tX(K:W.Frag)(H₀:Hp)(B₀:BS)(δ:Ds)(gx:GX):TE:=fun σ H Q=>∃r,EnvS K H₀ B₀ H σ δ/\gx δ=some r/\∀v H',EnvV K H₀ B₀ H' σ r.2 r.1 v->Q v H'
structure PX(X:Cx)(e:Expr)(gx:GX):Prop where
 mk::go:∀H₀ B₀ δ,PE X e (tX X.K H₀ B₀ δ gx)
instance{X:Cx}{e:Expr}{gx:GX}:CoeFun (PX X e gx) (λ_=>∀H₀ B₀ δ,PE X e (tX X.K H₀ B₀ δ gx)):=⟨PX.go⟩
def tTG(K:W.Frag)(H₀:Hp)(B₀:BS)(ft:D->Ds->Option Ds)(d:D)(δ:Ds):TG:=λv σ H Q=>∃δ',EnvV K H₀ B₀ H σ δ d v/\ft d δ=some δ'/\∀σ' H',EnvS K H₀ B₀ H' σ' δ'->Q σ' H'
structure PTG(X:Cx)(tg:Expr)(ft:D->Ds->Option Ds):Prop where
 mk::go:∀H₀ B₀ d δ,PG X tg (tTG X.K H₀ B₀ ft d δ)
instance{X:Cx}{tg:Expr}{ft:D->Ds->Option Ds}:CoeFun (PTG X tg ft) (λ_=>∀H₀ B₀ d δ,PG X tg (tTG X.K H₀ B₀ ft d δ)):=⟨PTG.go⟩
section
variable{g:GE}{gt:GB}{G:GS}
theorem sg0(h:PD X e g):PX X e (J7 g):=.mk λH₀ B₀ δ pins s σ H Q I ⟨r,en,e1,k⟩=>by
 unfold J7 at e1;obtain⟨B,b1,b2,env⟩:=en.ex;cases e2:g δ with
 | none=>rw[e2] at e1;cases e1
 | some d =>
  rw[e2] at e1;cases e1;exact h B δ pins s σ H Q I ⟨d,env,e2,λv H' s' r=>k v H' (EnvV.mk' (en.grow s') b1 b2 (env.same s') r)⟩
theorem qu0(h:owL i δ=some ds):δ[i]?=some (.ow (.lst ds)):=by
 unfold owL at h;split at h
 ·cases h;assumption
 ·cases h
theorem Zm0{r:List Q4×List D}(h:gd0 i δ=some r):δ[i]?=some (.ow (.dct (.inl r.1) r.2)):=by
 unfold gd0 at h;split at h
 ·cases h;assumption
 ·cases h
theorem yg0(i:Nat)(h:PD X e g)(hN:X.N[i]?=some x:=by rfl)(hv:Vis X.env.scope x:=by first|exact Or.inl rfl|exact Or.inr (Or.inl rfl)|exact Or.inr (Or.inr rfl))(hd:(x==("__debug__" : Str))=false:=by decide)(hcd:(x==("__classdict__" : Str))=false:=by decide)
  (hbase:attributeBase (.Name x px) "append" X.env (eval (.Name x px) X.env)=eval (.Name x px) X.env:=by rfl)
  (hfew:((backTo cpos (starEach [e] X.env)).all (λx=>!x.1)&&(backToKw cpos (keywordEach [] X.env)).all (λx=>x.1.isSome)
  &&decide (([e]:List Expr).length+([]:List Keyword).length+(if ([]:List Keyword).isEmpty then 0 else 1)<30))=true:=by rfl)
  (hline:(apos.endLine==cpos.line)=true:=by rfl) (hs:starEach [e] X.env=(false,eval e X.env)::starEach [] X.env:=by rfl) (hplain:(backTo cpos (starEach [] X.env)).any (·.1)=false:=by rfl) :
  PX X (.Call (.Attribute (.Name x px) "append" apos) [e] [] cpos) (N6 i g):=.mk λH₀ B₀ δ pins s σ H Q I ⟨r,en,e1,k⟩=>by
 unfold N6 at e1;obtain⟨B,b1,b2,env⟩:=en.ex;cases e2:owL i δ with
 | none=>rw[e2] at e1;cases e1
 | some ds =>
  cases e3:g δ with
  | none=>rw[e2,e3] at e1;cases e1
  | some d =>
   rw[e2,e3] at e1;simp only[Option.bind_some] at e1;split at e1
   ·rename_i hz
    cases e1;have hi:=qu0 e2;obtain⟨a,J,hb,xs,hx,rx⟩:=env.at hi;refine ue0 P3 Av0 Aw0 tn0 (xl0 (i:=i) hN hv hd hcd) (R5 (h B δ) J0 hs) hbase hfew hline hs hplain pins s σ H Q I
     ⟨_,J,.inl ⟨rfl,xs,.inl (.inl hx)⟩,d,env,e3,λv H1 s1 r1=>⟨a,xs,v,rfl,rfl,s1 _ _ hx,by rw[rx.length];exact hz,?_⟩⟩
    have O:Env X.K (upd H1 a (.lst (xs++[v]))) B σ (δ.set i (.ow (.lst (ds++[d])))):=(env.same s1).mut hi J ⟨_,m8,(Rps.snoc (rx.same s1) r1).mono (Gr.own hb)⟩;exact k _ _ (EnvV.mk' (en.mut s1 b1 b2 hi J O) b1 b2 O (by rw[U4]))
   ·cases e1
theorem wn0(i:Nat)(h:PD X e g)(hN:X.N[i]?=some x:=by rfl)(hv:Vis X.env.scope x:=by first|exact Or.inl rfl|exact Or.inr (Or.inl rfl)|exact Or.inr (Or.inr rfl))(hd:(x==("__debug__" : Str))=false:=by decide)(hcd:(x==("__classdict__" : Str))=false:=by decide)
  (hbase:attributeBase (.Name x px) "extend" X.env (eval (.Name x px) X.env)=eval (.Name x px) X.env:=by rfl)
  (hfew:((backTo cpos (starEach [e] X.env)).all (λx=>!x.1)&&(backToKw cpos (keywordEach [] X.env)).all (λx=>x.1.isSome)
  &&decide (([e]:List Expr).length+([]:List Keyword).length+(if ([]:List Keyword).isEmpty then 0 else 1)<30))=true:=by rfl)
  (hline:(apos.endLine==cpos.line)=true:=by rfl) (hs:starEach [e] X.env=(false,eval e X.env)::starEach [] X.env:=by rfl) (hplain:(backTo cpos (starEach [] X.env)).any (·.1)=false:=by rfl) :
  PX X (.Call (.Attribute (.Name x px) "extend" apos) [e] [] cpos) (O7 i g):=.mk λH₀ B₀ δ pins s σ H Q I ⟨r,en,e1,k⟩=>by
 unfold O7 at e1;obtain⟨B,b1,b2,env⟩:=en.ex;cases e2:owL i δ with
 | none=>rw[e2] at e1;cases e1
 | some ds =>
  cases e3:g δ with
  | none=>rw[e2,e3] at e1;cases e1
  | some d =>
   rw[e2,e3] at e1;simp only[Option.bind_some] at e1;cases d<;>try cases e1
   rename_i es;dsimp only at e1;split at e1
   ·rename_i hz
    cases e1;have hi:=qu0 e2;obtain⟨a,J,hb,xs,hx,rx⟩:=env.at hi;refine ue0 P3 PySem.F.slot_list_extend PySem.F.type_list_extend iw0 (xl0 (i:=i) hN hv hd hcd) (R5 (h B δ) J0 hs) hbase hfew hline hs hplain pins s σ H Q I
     ⟨_,J,.inl ⟨rfl,xs,.inl (.inl hx)⟩,_,env,e3,λv H1 s1 r1=>?_⟩
    rw[Z5] at r1;obtain⟨b,zs,rfl,hq,rz⟩:=r1;refine⟨a,b,xs,zs,rfl,rfl,s1 _ _ hx,hq.to,by rw[rx.length,rz.length];exact hz,?_⟩;have O:Env X.K (upd H1 a (.lst (xs++zs))) B σ (δ.set i (.ow (.lst (ds++es)))):=(env.same s1).mut hi J ⟨_,m8,(Rps.append (rx.same s1) rz).mono (Gr.own hb)⟩;exact k _ _ (EnvV.mk' (en.mut s1 b1 b2 hi J O) b1 b2 O (by rw[U4]))
   ·cases e1
theorem eu0(i:Nat)(hN:X.N[i]?=some x:=by rfl)(hv:Vis X.env.scope x:=by first|exact Or.inl rfl|exact Or.inr (Or.inl rfl)|exact Or.inr (Or.inr rfl))(hd:(x==("__debug__" : Str))=false:=by decide)(hcd:(x==("__classdict__" : Str))=false:=by decide)
  (hbase:attributeBase (.Name x px) "pop" X.env (eval (.Name x px) X.env)=eval (.Name x px) X.env:=by rfl) (hline:(apos.endLine==cpos.line)=true:=by rfl) :
  PX X (.Call (.Attribute (.Name x px) "pop" apos) [] [] cpos) (vi0 i):=.mk λH₀ B₀ δ pins s σ H Q I ⟨r,en,e1,k⟩=>by
 unfold vi0 at e1;obtain⟨B,b1,b2,env⟩:=en.ex;cases e2:owL i δ with
 | none=>rw[e2] at e1;cases e1
 | some ds =>
  rw[e2] at e1;simp only[Option.bind_some] at e1;cases e3:ds.getLast? with
  | none=>rw[e3] at e1;cases e1
  | some d =>
   rw[e3] at e1;cases e1;have hi:=qu0 e2;obtain⟨a,J,hb,xs,hx,rx⟩:=env.at hi;rw[List.getLast?_eq_getElem?] at e3;obtain⟨y,hy,ry⟩:=rx.get e3;refine Y80 P3 PySem.F.slot_list_pop PySem.F.type_list_pop Xb0 (xl0 (i:=i) hN hv hd hcd) hbase hline pins s σ H Q I
    ⟨_,J,.inl ⟨rfl,xs,.inl (.inl hx)⟩,a,xs,y,rfl,rfl,hx,by rw[rx.length];exact hy,?_⟩
   have O:Env X.K (upd H a (.lst xs.dropLast)) B σ (δ.set i (.ow (.lst ds.dropLast))):=env.mut hi J ⟨_,m8,rx.dropLast.mono (Gr.own hb)⟩;exact k _ _ (EnvV.mk' (en.mut (Same.refl _) b1 b2 hi J O) b1 b2 O (ry.mono (Gr.own hb)))
theorem ka0{f:D->Ds->Option Ds}(h:PGD X tg idx f):PTG X tg f:=.mk λH₀ B₀ d δ pins s σ H v u Q I r ⟨δ',en,e1,k⟩=>by
 obtain⟨B,b1,b2,env,rv⟩:=en.ex;exact h B d δ pins s σ H v u Q I r ⟨δ',rv,env,e1,fun σ' w en'=>k σ' H (en.s.wr b1 b2 (Same.refl _) w en')⟩
theorem yu0{ft:D->Ds->Option Ds}(h:PX X e gx)(hg:PTG X tg ft)(hs:swapsWithSole [tg] e pos.line X.env=pure false:=by rfl)(hw:swappedStores [tg] e X.env=pure none:=by rfl)
  (h1:(assignEach [tg] X.env).map (·.2)=[assign tg X.env]:=by rfl):PSD X (.Assign [tg] e pos) (M3 gx ft):=.mk λH₀ B₀ δ pins s σ H D I ⟨r,en,e1,k⟩=>by
 unfold M3 at e1;cases e2:gx δ with
 | none=>rw[e2] at e1;cases e1
 | some q =>
  rw[e2] at e1;simp only[Option.bind_some] at e1;cases e3:ft q.1 q.2 with
  | none=>rw[e3] at e1;cases e1
  | some δ' =>
   rw[e3] at e1;cases e1;exact po0 (h H₀ B₀ δ) (hg H₀ B₀ q.1 q.2) hs hw h1 pins s σ H D I ⟨q,en,e2,λv H' J=>⟨δ',J,e3,fun σ' H'' en''=>k σ' H'' en''⟩⟩
theorem W3(h:PX X e gx)(hs:swapsWith e none pos.line X.env=pure false:=by rfl):PSD X (.Expr e pos) (Z0 gx):=.mk λH₀ B₀ δ pins s σ H D I ⟨r,en,e1,k⟩=>by
 unfold Z0 at e1;cases e2:gx δ with
 | none=>rw[e2] at e1;cases e1
 | some q =>
  rw[e2] at e1;cases e1;exact i90 (h H₀ B₀ δ) hs pins s σ H D I ⟨q,en,e2,λv H' J=>k σ H' J.s⟩
theorem y20(n:Nat){body:List Stmt}(hp:PassesOwn (model X.prog X.w) X.A X.env X.xe)(hc:PTD X c gt)(hb:PSsD X body G):PSD X (.While c body [] pos) (Y5 gt G n):=.mk λH₀ B₀ δ pins s σ H D I ⟨r,en,e1,k⟩=>by
 have Y:PT X c (fun σ H Q=>∃B δ,tDT X.K B δ gt σ H Q):=λpins s σ H Q I ⟨B,δ,h⟩=>hc B δ pins s σ H Q I h
 have O:PSs X body (λD σ H=>∃δ,tDS X.K H₀ B₀ δ G D σ H):=λpins s σ H D I ⟨δ,h⟩=>hb H₀ B₀ δ pins s σ H D I h
 refine c00 hp Y O pins s σ H D I ⟨λm σ H=>∃δ',EnvS X.K H₀ B₀ H σ δ'/\Y5 gt G m δ'=some r,⟨n,δ,en,e1⟩,?_⟩;rintro m σ1 H1 ⟨δ1,J,e2⟩;cases m with
 | zero=>cases e2
 | succ m =>
  unfold Y5 at e2;obtain⟨B,b1,b2,env⟩:=J.ex;cases e3:gt δ1 with
  | none=>rw[e3] at e2;cases e2
  | some t =>
   rw[e3] at e2;refine⟨B,δ1,t,env,e3,λH2 s2=>?_⟩;cases t with
   | false =>
    rw[if_neg B8];cases e2;exact k σ1 H2 (J.grow s2)
   | true =>
    rw[if_pos rfl];dsimp only at e2;refine⟨fun σ' H'=>∃δ',EnvS X.K H₀ B₀ H' σ' δ'/\Y5 gt G m δ'=some r,fun σ' H' z=>⟨m,t5 m,z⟩,δ1,?_⟩;cases e4:G δ1 with
    | none=>rw[e4] at e2;cases e2
    | some rb =>
     rw[e4] at e2;refine⟨rb,J.grow s2,e4,?_⟩;cases rb with
     | nx δn=>exact fun σ' H' en'=>⟨δn,en',e2⟩
     | ct δn=>exact fun σ' H' en'=>⟨δn,en',e2⟩
     | bk δn=>cases e2;exact fun σ' H' en'=>k σ' H' en'
     | rt d'=>cases e2;exact λv H' s' r'=>k v H' s' r'
     | rf d'=>cases e2;exact λp H' hp s' r'=>k p H' hp s' r'
theorem lt0(i j:Nat){p2 p3:Pos}{kk}(hN:X.N.Nodup)(hij:i≠j)(hc:X.calm=true:=by rfl)(hi:X.N[i]?=some x:=by rfl)(hj:X.N[j]?=some y:=by rfl)
  (hx:Loc X.env.scope x:=by first|exact Or.inl rfl|exact Or.inr rfl) (hy:Loc X.env.scope y:=by first|exact Or.inl rfl|exact Or.inr rfl)
  (hf:X.fn x=true∨X.env.scope.names.lookup x=some .local:=by first|exact .inl rfl|exact .inr rfl|assumption) (hf2:X.fn y=true∨X.env.scope.names.lookup y=some .local:=by first|exact .inl rfl|exact .inr rfl|assumption)
  (hs1:(assignEach [.Name x p2,.Name y p3] X.env).map (·.2)=assign (.Name x p2) X.env::(assignEach [.Name y p3] X.env).map (·.2):=by rfl) (hs2:(assignEach [.Name y p3] X.env).map (·.2)=assign (.Name y p3) X.env::(assignEach [] X.env).map (·.2):=by rfl)
  (hn:(assignEach [.Name x p2,.Name y p3] X.env).length=2:=by rfl) (hst:(assignEach [.Name x p2,.Name y p3] X.env).findIdx? (·.1)=none:=by rfl) :
  PGD X (.Tuple [.Name x p2,.Name y p3] kk pos) [i,j] (rq0 i j):=.mk λB d δ=>(gu0 hc (ww0 (zx0 (i:=i) hN hi hx hf) (ww0 (zx0 (i:=j) hN hj hy hf2) jq0 hs2) hs1) hn hst).imp λv σ H Q ⟨δ',r,en,e1,k⟩=>by
 unfold rq0 at e1;split at e1
 ·rename_i da db
  cases e1;rw[X4] at r;obtain⟨p,xs,rfl,hq,rs⟩:=r;rw[p8] at rs;obtain⟨va,t1,rfl,ra,rs⟩:=rs;rw[p8] at rs;obtain⟨vb,t2,rfl,rb,rs⟩:=rs;rw[n6] at rs;subst rs;refine⟨p,_,rfl,hq.to,rfl,va,[vb],rfl,vb,[],rfl,rfl,k _ ?_ ((en.set i ra).set j rb)⟩;refine⟨by simp,λq hq=>?_,λq hq ds h=>?_⟩
  ·have h1:q≠i:=λz=>hq (by rw[z];exact A9)
   have h2:q≠j:=λz=>hq (by rw[z];exact A7 _ A9)
   rw[List.getElem?_set_ne (A4 h2),List.getElem?_set_ne (A4 h1),List.getElem?_set_ne (A4 h2),List.getElem?_set_ne (A4 h1)];exact⟨rfl,rfl⟩
  ·rcases get_set h with⟨rfl,e3,_⟩|⟨n1,e3⟩
   ·cases e3
   ·rcases get_set e3 with⟨rfl,e4,_⟩|⟨n2,e4⟩
    ·cases e4
    ·simp at hq
     rcases hq with z|z
     ·exact n2 z.symm
     ·exact n1 z.symm
 ·cases e1
end
end DL
namespace HT
open PyProof.Rows
section
variable{w:World}{A:Around}{s:Shared}
theorem ur0{t sl:Addr}{hi:Option Int}{Q:Value->Shared->Prop}(ht:IsTup s.heap t items)(hs:s.heap.IsSliceOf sl vl vu .none)(pl:IsPart vl lo)(pu:IsPart vu hi)
  (hw:sIx items.size 0 lo=0/\sIx items.size items.size hi=items.size) (h:Q (.ref t) s):wpAny (model prog w) A (getItem (.ref t) (.ref sl)) Q E s:=by
 obtain⟨os,Y,Z,a1⟩:=id hs;have O:s.TypeIs (.ref sl) "slice" := ⟨os,Y,Z⟩;unfold getItem
 try with_reducible refine D7 ?_
 first|refine A0 (A2 ?_)|skip
 refine A0 (wpAny_sequenceKey ht.typeIs (by decide) ?_);refine A0 (S4 (name:=Str.ofString "__getitem__") ht.typeIs L4
  (U1 L4 ht.typeIs entry_tuple_getitem ?_ (args_tuple_getitem _ _)))
 show wpAny _ _ (Builtin.Tuple.tupleItemsOf (.ref t)>>=_) _ _ s;refine A0 (tupleItemsOf_ ht ?_);refine A0 (L5 O ?_);rw[if_pos (by decide)];refine A0 (wt0 hs pl pu ?_);have J:(((sIx items.size 0 lo:Nat):Int)==0&&(1:Int)==1&&(sIx items.size items.size hi - sIx items.size 0 lo)==items.size)=true:=by
  rw[hw.1,hw.2];simp
 show wpAny _ _ (if (((sIx items.size 0 lo:Nat):Int)==0&&(1:Int)==1&&(sIx items.size items.size hi - sIx items.size 0 lo)==items.size)=true then _ else _) _ _ s;rw[if_pos J];unfold Builtin.Tuple.tupleIsExact;refine A0 (A0 (L5 ht.typeIs (A2 ?_)));rw[if_pos (by decide)];exact A0 (wpAny_rule (A2 ⟨_,rfl,A2 h⟩))
end
end HT
namespace L2
open Spec PyProof.Rows
def Vg0(K:W.Frag):V->Option Int->Option Int->Hp->VK->Prop:=λx lo hi H Q=>∃a xs,x=.ref a/\SqT K H a xs/\(HT.sIx xs.length 0 lo=0/\HT.sIx xs.length xs.length hi=xs.length)/\Q (.ref a) H
theorem by0:SlR X (Vg0 X.K):=by
 intro pins s σ H x v vl vu lo hi sl Q I rx hs pl pu h;obtain⟨a,xs,rfl,hx,hw,q⟩:=h;cases rx;obtain⟨its,r,ht,hz⟩:=I.tuple hx;have J:its.toArray.size=xs.length:=by rw[List.size_toArray];exact r.length.symm
 exact⟨"tuple",_,L4.lookup,ht.typeIs,HT.ur0 ht hs pl pu (by rw[J];exact hw) ⟨.ref a,H,I,rfl,q⟩⟩
def ej0(K:W.Frag):R2:=λx y H Q=>∃a b ys,x=.ref a/\y=.ref b/\SqT K H a []/\SqT K H b ys/\Q (.ref b) H
theorem du0:OpR X (binaryOp .Add) (ej0 X.K):=by
 intro pins s σ H x y v u Q I rx ry h;obtain⟨a,b,ys,rfl,rfl,ha,hb,q⟩:=h;cases rx;cases ry;obtain⟨its,r1,p1,_⟩:=I.tuple ha;obtain⟨Z,r2,p2,_⟩:=I.tuple hb;have e:its=[]:=r1.zero;subst e;obtain⟨⟨cls,dd,data,sl⟩,ho,hc,n,hd⟩:=id p1;obtain⟨⟨a3,a1,data2,a2⟩,Y,J,n2,O⟩:=id p2;simp only at hc hd J O;subst hc hd J O;exact S3 ⟨_,ho,rfl⟩ ⟨_,Y,rfl⟩ i6 i7 i8 i9 (j2 _ _)
  (tuple_addW0 a b _ Z.toArray n n2 dd a1 sl a2 rfl) ⟨ho,Y,⟨.ref b,H,I,rfl,q⟩⟩
end L2
namespace DL
open Spec PyProof.Rows L2
mutual
theorem rz0:∀(d:D) (n:Nat),lean d n=true->deq d d=true
 | .non,_,_=>by unfold deq;rfl
 | .bl b,_,_=>by unfold deq;simp
 | .int b,_,_=>by unfold deq;simp
 | .str b,_,_=>by unfold deq;simp
 | .tup ds,0,h=>by unfold lean at h;cases h
 | .tup ds,n+1,h=>by unfold lean at h;unfold deq;exact s60 ds n h
 | .lst ds,0,h=>by unfold lean at h;cases h
 | .lst ds,n+1,h=>by unfold lean at h;unfold deq;exact s60 ds n h
 | .dct _ _,n,h=>by unfold lean at h;cases h
 | .fn _ _,n,h=>by unfold lean at h;cases h
theorem s60:∀(ds:List D) (n:Nat),leans ds n=true->y50 ds ds=true
 | [],_,_=>by unfold y50;rfl
 | d::ds,n,h=>by
  unfold leans at h;rw[Bool.and_eq_true] at h;unfold y50;rw[rz0 d n h.1,s60 ds n h.2];rfl
end
theorem ym0:∀ds es:List D,y50 ds es=((List.range (min ds.length es.length)).all (λj=>deq (ds.getD j .non) (es.getD j .non))&&ds.length==es.length)
 | [],[]=>by unfold y50;simp
 | [],_::_=>by unfold y50;simp
 | _::_,[]=>by unfold y50;simp
 | d::ds,e::es=>by
  unfold y50;rw[ym0 ds es];have h1:min (d::ds).length (e::es).length=min ds.length es.length+1:=by simp only[List.length_cons];omega
  rw[h1,List.range_succ_eq_map,List.all_cons,List.all_map];have h2:((d::ds).length==(e::es).length)=(ds.length==es.length):=by
   rw[Bool.eq_iff_iff];simp
  rw[h2,Bool.and_assoc];rfl
theorem to0:∀{ds:List D} {n j:Nat} {d:D},leans ds n=true->ds[j]?=some d->lean d n=true
 | [],_,_,_,_,h=>by simp at h
 | d::ds,n,0,_,h,e=>by
  unfold leans at h;rw[Bool.and_eq_true] at h;simp at e;subst e;exact h.1
 | d::ds,n,j+1,_,h,e=>by
  unfold leans at h;rw[Bool.and_eq_true] at h;exact to0 (j:=j) h.2 (by simpa using e)
section
variable{σ:St}{s:Shared}
mutual
theorem Rp.inj(I:Inv X pins σ H s):∀{d e:D} {n m:Nat} {v:V},lean d n=true->lean e m=true->Rp X.K H B d v->Rp X.K H B' e v->d=e
 | .non,e,_,m,v,_,le,h,h'=>by
  rw[U4] at h;subst h;cases e with
  | non=>rfl
  | bl b=>rw[W7] at h';cases h'
  | int b=>rw[j5] at h';cases h'
  | str b=>rw[Z9] at h';cases h'
  | tup b=>rw[X4] at h';obtain⟨_,_,z,_⟩:=h';cases z
  | lst b=>rw[Z5] at h';obtain⟨_,_,z,_⟩:=h';cases z
  | dct a b=>unfold lean at le;cases le
  | fn a b=>unfold lean at le;cases le
 | .bl c,e,_,m,v,_,le,h,h'=>by
  rw[W7] at h;subst h;cases e with
  | non=>rw[U4] at h';cases h'
  | bl b=>rw[W7] at h';cases h';rfl
  | int b=>rw[j5] at h';cases h'
  | str b=>rw[Z9] at h';cases h'
  | tup b=>rw[X4] at h';obtain⟨_,_,z,_⟩:=h';cases z
  | lst b=>rw[Z5] at h';obtain⟨_,_,z,_⟩:=h';cases z
  | dct a b=>unfold lean at le;cases le
  | fn a b=>unfold lean at le;cases le
 | .int c,e,_,m,v,_,le,h,h'=>by
  rw[j5] at h;subst h;cases e with
  | non=>rw[U4] at h';cases h'
  | bl b=>rw[W7] at h';cases h'
  | int b=>rw[j5] at h';cases h';rfl
  | str b=>rw[Z9] at h';cases h'
  | tup b=>rw[X4] at h';obtain⟨_,_,z,_⟩:=h';cases z
  | lst b=>rw[Z5] at h';obtain⟨_,_,z,_⟩:=h';cases z
  | dct a b=>unfold lean at le;cases le
  | fn a b=>unfold lean at le;cases le
 | .str c,e,_,m,v,_,le,h,h'=>by
  rw[Z9] at h;subst h;cases e with
  | non=>rw[U4] at h';cases h'
  | bl b=>rw[W7] at h';cases h'
  | int b=>rw[j5] at h';cases h'
  | str b=>rw[Z9] at h';cases h';rfl
  | tup b=>rw[X4] at h';obtain⟨_,_,z,_⟩:=h';cases z
  | lst b=>rw[Z5] at h';obtain⟨_,_,z,_⟩:=h';cases z
  | dct a b=>unfold lean at le;cases le
  | fn a b=>unfold lean at le;cases le
 | .tup ds,e,0,m,v,ld,_,_,_=>by unfold lean at ld;cases ld
 | .tup ds,e,n+1,m,v,ld,le,h,h'=>by
  rw[X4] at h;obtain⟨a,xs,rfl,q,r⟩:=h;unfold lean at ld;cases e with
  | non=>rw[U4] at h';cases h'
  | bl b=>rw[W7] at h';cases h'
  | int b=>rw[j5] at h';cases h'
  | str b=>rw[Z9] at h';cases h'
  | tup es =>
   cases m with
   | zero=>unfold lean at le;cases le
   | succ m =>
    unfold lean at le;rw[X4] at h';obtain⟨a',ys,z,q',r'⟩:=h';cases z;have:=I.tuple_inj q.to q'.to;subst this;rw[Rps.inj I ld le r r']
  | lst es =>
   rw[Z5] at h';obtain⟨a',ys,z,q',r'⟩:=h';cases z;obtain⟨_,_,⟨o,e1,c1,_⟩,_⟩:=I.tuple q.to;obtain⟨_,_,p,_⟩:=I.list q'.to;obtain⟨o',e2,c2,_⟩:=p.isList;rw[e1] at e2;cases e2;rw[c1] at c2;injection c2 with z
   exact absurd z (by decide)
  | dct a b=>unfold lean at le;cases le
  | fn a b=>unfold lean at le;cases le
 | .lst ds,e,0,m,v,ld,_,_,_=>by unfold lean at ld;cases ld
 | .lst ds,e,n+1,m,v,ld,le,h,h'=>by
  rw[Z5] at h;obtain⟨a,xs,rfl,q,r⟩:=h;unfold lean at ld;cases e with
  | non=>rw[U4] at h';cases h'
  | bl b=>rw[W7] at h';cases h'
  | int b=>rw[j5] at h';cases h'
  | str b=>rw[Z9] at h';cases h'
  | lst es =>
   cases m with
   | zero=>unfold lean at le;cases le
   | succ m =>
    unfold lean at le;rw[Z5] at h';obtain⟨a',ys,z,q',r'⟩:=h';cases z;have:=I.list_inj q.to q'.to;subst this;rw[Rps.inj I ld le r r']
  | tup es =>
   rw[X4] at h';obtain⟨a',ys,z,q',r'⟩:=h';cases z;obtain⟨_,_,⟨o,e1,c1,_⟩,_⟩:=I.tuple q'.to;obtain⟨_,_,p,_⟩:=I.list q.to;obtain⟨o',e2,c2,_⟩:=p.isList;rw[e1] at e2;cases e2;rw[c1] at c2;injection c2 with z
   exact absurd z (by decide)
  | dct a b=>unfold lean at le;cases le
  | fn a b=>unfold lean at le;cases le
 | .dct a b,e,n,m,v,ld,_,_,_=>by unfold lean at ld;cases ld
 | .fn a b,e,n,m,v,ld,_,_,_=>by unfold lean at ld;cases ld
theorem Rps.inj(I:Inv X pins σ H s):∀{ds es:List D} {n m:Nat} {xs:List V},leans ds n=true->leans es m=true->Rps X.K H B ds xs->Rps X.K H B' es xs->ds=es
 | [],es,_,_,_,_,_,h,h'=>by
  rw[n6] at h;subst h;have:=h'.length;cases es with
  | nil=>rfl
  | cons a b=>simp at this
 | d::ds,es,n,m,_,ld,le,h,h'=>by
  rw[p8] at h;obtain⟨x,r,rfl,h1,h2⟩:=h;cases es with
  | nil=>rw[n6] at h';cases h'
  | cons e es =>
   rw[p8] at h';obtain⟨x',r',z,J,O⟩:=h';cases z;unfold leans at ld le;rw[Bool.and_eq_true] at ld le;rw[Rp.inj I ld.1 le.1 h1 J,Rps.inj I ld.2 le.2 h2 O]
end
theorem view(I:Inv X pins σ H s){d:D}{x:V}(l:lean d n=true)(h:Rp X.K H B d x)(r:RelV x u) :
  (d=.non/\u=.none)∨(∃b,d=.bl b/\u=.bool b)∨(∃i t,d=.int i/\u=.int i t)∨(∃z t,d=.str z/\u=.str z t) ∨
  (∃m ds a xs its,n=m+1/\leans ds m=true/\d=.tup ds/\x=.ref a/\u=.ref a/\Rps X.K H B ds xs/\Vals xs its/\s.heap.IsTuple a its.toArray) ∨
  (∃m ds a xs its,n=m+1/\leans ds m=true/\d=.lst ds/\x=.ref a/\u=.ref a/\Rps X.K H B ds xs/\Vals xs its/\s.heap.IsList a its.toArray):=by
 cases d with
 | non=>rw[U4] at h;subst h;exact .inl ⟨rfl,r⟩
 | bl b=>rw[W7] at h;subst h;exact .inr (.inl ⟨b,rfl,r⟩)
 | int i=>rw[j5] at h;subst h;obtain⟨t,e⟩:=r;exact .inr (.inr (.inl ⟨i,t,rfl,e⟩))
 | str z=>rw[Z9] at h;subst h;obtain⟨t,e⟩:=r;exact .inr (.inr (.inr (.inl ⟨z,t,rfl,e⟩)))
 | tup ds =>
  cases n with
  | zero=>unfold lean at l;cases l
  | succ m =>
   unfold lean at l;rw[X4] at h;obtain⟨a,xs,rfl,q,rr⟩:=h;obtain⟨its,rv,p,_⟩:=I.tuple q.to;exact .inr (.inr (.inr (.inr (.inl ⟨m,ds,a,xs,its,rfl,l,rfl,rfl,r,rr,rv,p⟩))))
 | lst ds =>
  cases n with
  | zero=>unfold lean at l;cases l
  | succ m =>
   unfold lean at l;rw[Z5] at h;obtain⟨a,xs,rfl,q,rr⟩:=h;obtain⟨its,rv,p,_⟩:=I.list q.to;exact .inr (.inr (.inr (.inr (.inr ⟨m,ds,a,xs,its,rfl,l,rfl,rfl,r,rr,rv,p.isList⟩))))
 | dct a b=>unfold lean at l;cases l
 | fn a b=>unfold lean at l;cases l
theorem in1_units{A:Around}:A.in1.units=A.units+1:=rfl
theorem ud0{es:List D}{ys:List V}{ws:List Value}{m:Nat}{A:Around}(ld:leans ds n=true)(le:leans es m=true)(r1:Rps X.K H B ds xs)(r2:Rps X.K H B' es ys)(v1:Vals xs us)(v2:Vals ys ws)
  (ih:∀d e x y u w,lean d n=true->lean e m=true->Rp X.K H B d x->Rp X.K H B' e y->RelV x u->RelV y w->SeqAt.EqAt A s u w (deq d e)) :
  ∀j (h1:j<us.toArray.size) (h2:j<ws.toArray.size),SeqAt.EqAt A s us.toArray[j] ws.toArray[j] (deq (ds.getD j .non) (es.getD j .non)):=by
 intro j h1 h2;have l1:j<ds.length:=by rw[← r1.length,v1.length];simpa using h1
 have l2:j<es.length:=by rw[← r2.length,v2.length];simpa using h2
 obtain⟨x,ex,rx⟩:=r1.get (C7 l1);obtain⟨y,ey,ry⟩:=r2.get (C7 l2);obtain⟨u,eu,ru⟩:=v1.get ex;obtain⟨w,ew,J⟩:=v2.get ey;have hu:us.toArray[j]=u:=by
  have:us[j]?=some u:=eu;simp at h1;rw[List.getElem?_eq_getElem h1] at this
  simpa using B3 this
 have hw:ws.toArray[j]=w:=by
  have:ws[j]?=some w:=ew;simp at h2;rw[List.getElem?_eq_getElem h2] at this
  simpa using B3 this
 rw[hu,hw];have e1:ds.getD j .non=ds[j]:=by simp[List.getD_eq_getElem?_getD,l1]
 have e2:es.getD j .non=es[j]:=by simp[List.getD_eq_getElem?_getD,l2]
 rw[e1,e2];exact ih _ _ _ _ _ _ (to0 ld (C7 l1)) (to0 le (C7 l2)) rx ry ru J
theorem ed0(I:Inv X pins σ H s):∀(n m:Nat) (d e:D) (x y:V) (u w:Value) (A:Around),A.units+n<cLine->lean d n=true->lean e m=true->Rp X.K H B d x->Rp X.K H B' e y->RelV x u->RelV y w->SeqAt.EqAt A s u w (deq d e):=by
 intro n
 induction n with
 | zero =>
  intro m d e x y u w A hu ld le hx hy rx ry;have J:A.units<cLine:=by omega
  rcases view I ld hx rx with⟨rfl,rfl⟩|⟨b,rfl,rfl⟩|⟨i,t,rfl,rfl⟩|⟨z,t,rfl,rfl⟩|⟨n',_,_,_,_,hn,_⟩|⟨n',_,_,_,_,hn,_⟩<;>(try (exact absurd hn (by omega))) <;>
  rcases view I le hy ry with⟨rfl,rfl⟩|⟨b',rfl,rfl⟩|⟨i',t',rfl,rfl⟩|⟨z',t',rfl,rfl⟩|⟨m',es,a',ys,Z,rfl,a1,rfl,rfl,rfl,O,Y,p'⟩|⟨m',es,a',ys,Z,rfl,a1,rfl,rfl,rfl,O,Y,p'⟩ <;>
  unfold deq <;>
  first
  | with_reducible exact N4 _|with_reducible exact l0 _ _|with_reducible exact m3 _ _ _ _|with_reducible exact n9 _ _ _ _|with_reducible exact l5 _ _ _|with_reducible exact l9 _ _ _
  | with_reducible exact k4 _|with_reducible exact k6 _ _|with_reducible exact k8 _ _|with_reducible exact k9 _|with_reducible exact l6 _ _ _|with_reducible exact l8 _ _|with_reducible exact Q2 _ _ _ _
  | with_reducible exact m4 _ _|with_reducible exact n5 _ _ _|with_reducible exact R1 _ _ _ _
  | with_reducible exact SeqAt.EqAt.none_list p' J|with_reducible exact SeqAt.EqAt.bool_list _ p' J|with_reducible exact SeqAt.EqAt.int_list _ _ p' J|with_reducible exact SeqAt.EqAt.str_list _ _ p' J
  | with_reducible exact SeqAt.EqAt.none_tuple p' J|with_reducible exact SeqAt.EqAt.bool_tuple _ p' J|with_reducible exact SeqAt.EqAt.int_tuple _ _ p' J|with_reducible exact SeqAt.EqAt.str_tuple _ _ p' J
 | succ n ih =>
  intro m d e x y u w A hu ld le hx hy rx ry;have J:A.units<cLine:=by omega
  have a3:A.in1.units+n<cLine:=by rw[in1_units];omega
  rcases view I ld hx rx with⟨rfl,rfl⟩|⟨b,rfl,rfl⟩|⟨i,t,rfl,rfl⟩|⟨z,t,rfl,rfl⟩|⟨n',ds,a,xs,its,hn,a2,rfl,rfl,rfl,rr,rv,p⟩|⟨n',ds,a,xs,its,hn,a2,rfl,rfl,rfl,rr,rv,p⟩ <;>
  rcases view I le hy ry with⟨rfl,rfl⟩|⟨b',rfl,rfl⟩|⟨i',t',rfl,rfl⟩|⟨z',t',rfl,rfl⟩|⟨m',es,a',ys,Z,rfl,a1,rfl,rfl,rfl,O,Y,p'⟩|⟨m',es,a',ys,Z,rfl,a1,rfl,rfl,rfl,O,Y,p'⟩
  case inr.inr.inr.inr.inl.inr.inr.inr.inr.inl =>
   cases hn
   by_cases hab:a=a'
   ·subst hab
    have e:D.tup ds=D.tup es:=Rp.inj I ld le hx hy;rw[← e,rz0 _ _ ld];exact N4 _
   ·refine SeqAt.EqAt.of_refs hab ?_
    have:=SeqAt.RcAt.tuples (e:=λj=>deq (ds.getD j .non) (es.getD j .non)) p p' J (ud0 a2 a1 rr O rv Y λd e x y u w h1 h2 h3 h4 h5 h6=>ih m' d e x y u w A.in1 a3 h1 h2 h3 h4 h5 h6);unfold deq;rw[ym0]
    simpa [← rv.length,← Y.length,rr.length,O.length] using this
  case inr.inr.inr.inr.inr.inr.inr.inr.inr.inr =>
   cases hn
   by_cases hab:a=a'
   ·subst hab
    have e:D.lst ds=D.lst es:=Rp.inj I ld le hx hy;rw[← e,rz0 _ _ ld];exact N4 _
   ·refine SeqAt.EqAt.of_refs hab ?_
    have s1:its.toArray.size=ds.length:=by rw[List.size_toArray,← rv.length,rr.length]
    have s2:Z.toArray.size=es.length:=by rw[List.size_toArray,← Y.length,O.length]
    unfold deq;rw[ym0]
    by_cases hl:ds.length=es.length
    ·have:=SeqAt.RcAt.lists (e:=λj=>deq (ds.getD j .non) (es.getD j .non)) p p' (by rw[s1,s2,hl]) J (ud0 a2 a1 rr O rv Y λd e x y u w h1 h2 h3 h4 h5 h6=>ih m' d e x y u w A.in1 a3 h1 h2 h3 h4 h5 h6)
     rw[s1] at this;rw[hl] at this ⊢
     simpa using this
    ·have:=B90 (A:=A) p p' (by rw[s1,s2];simpa using hl) J
     rw[beq_eq_false_iff_ne.mpr hl,Bool.and_false];exact this
  all_goals
   unfold deq
   first
   | with_reducible exact N4 _|with_reducible exact l0 _ _|with_reducible exact m3 _ _ _ _|with_reducible exact n9 _ _ _ _|with_reducible exact l5 _ _ _|with_reducible exact l9 _ _ _
   | with_reducible exact k4 _|with_reducible exact k6 _ _|with_reducible exact k8 _ _|with_reducible exact k9 _|with_reducible exact l6 _ _ _|with_reducible exact l8 _ _|with_reducible exact Q2 _ _ _ _
   | with_reducible exact m4 _ _|with_reducible exact n5 _ _ _|with_reducible exact R1 _ _ _ _
   | with_reducible exact SeqAt.EqAt.none_list p' J|with_reducible exact SeqAt.EqAt.bool_list _ p' J|with_reducible exact SeqAt.EqAt.int_list _ _ p' J|with_reducible exact SeqAt.EqAt.str_list _ _ p' J
   | with_reducible exact SeqAt.EqAt.none_tuple p' J|with_reducible exact SeqAt.EqAt.bool_tuple _ p' J|with_reducible exact SeqAt.EqAt.int_tuple _ _ p' J|with_reducible exact SeqAt.EqAt.str_tuple _ _ p' J
   | with_reducible exact SeqAt.EqAt.list_none p J|with_reducible exact SeqAt.EqAt.list_bool _ p J|with_reducible exact SeqAt.EqAt.list_int _ _ p J|with_reducible exact SeqAt.EqAt.list_str _ _ p J
   | with_reducible exact SeqAt.EqAt.tuple_none p J|with_reducible exact SeqAt.EqAt.tuple_bool _ p J|with_reducible exact SeqAt.EqAt.tuple_int _ _ p J|with_reducible exact SeqAt.EqAt.tuple_str _ _ p J
   | with_reducible exact SeqAt.EqAt.list_tuple p p' J|with_reducible exact SeqAt.EqAt.tuple_list p p' J
end
end DL
namespace DL
open Spec PyProof.Rows L2
section
variable{σ:St}{s:Shared}
theorem gp0(I:Inv X pins σ H s)(n m:Nat)(d e:D)(x y:V)(u w:Value)(A:Around)(hu:A.units+n<cLine)(ld:lean d n=true)(le:lean e m=true)(hx:Rp X.K H B d x)(hy:Rp X.K H B' e y)(rx:RelV x u)(ry:RelV y w) :
  SeqAt.RcAt A s u w (deq d e)/\SeqAt.RcNeAt A s u w (!deq d e):=by
 have J:A.units<cLine:=by omega
 rcases view I ld hx rx with⟨rfl,rfl⟩|⟨b,rfl,rfl⟩|⟨i,t,rfl,rfl⟩|⟨z,t,rfl,rfl⟩|⟨n',ds,a,xs,its,hn,a2,rfl,rfl,rfl,rr,rv,p⟩|⟨n',ds,a,xs,its,hn,a2,rfl,rfl,rfl,rr,rv,p⟩ <;>
 rcases view I le hy ry with⟨rfl,rfl⟩|⟨b',rfl,rfl⟩|⟨i',t',rfl,rfl⟩|⟨z',t',rfl,rfl⟩|⟨m',es,a',ys,a1,rfl,a3,rfl,rfl,rfl,Y,Z,p'⟩|⟨m',es,a',ys,a1,rfl,a3,rfl,rfl,rfl,Y,Z,p'⟩
 case inr.inr.inr.inr.inl.inr.inr.inr.inr.inl =>
  subst hn;have a4:A.in1.units+n'<cLine:=by rw[in1_units];omega
  have O:=ud0 (A:=A.in1) a2 a3 rr Y rv Z λd e x y u w h1 h2 h3 h4 h5 h6=>ed0 I n' m' d e x y u w A.in1 a4 h1 h2 h3 h4 h5 h6
  have q1:=SeqAt.RcAt.tuples (e:=λj=>deq (ds.getD j .non) (es.getD j .non)) p p' J O;have q2:=SeqAt.RcNeAt.tuples (e:=λj=>deq (ds.getD j .non) (es.getD j .non)) p p' J O;unfold deq;rw[ym0];have s1:its.toArray.size=ds.length:=by rw[List.size_toArray,← rv.length,rr.length]
  have s2:a1.toArray.size=es.length:=by rw[List.size_toArray,← Z.length,Y.length]
  rw[s1,s2] at q1 q2;exact⟨q1,q2⟩
 case inr.inr.inr.inr.inr.inr.inr.inr.inr.inr =>
  subst hn;have a4:A.in1.units+n'<cLine:=by rw[in1_units];omega
  have O:=ud0 (A:=A.in1) a2 a3 rr Y rv Z λd e x y u w h1 h2 h3 h4 h5 h6=>ed0 I n' m' d e x y u w A.in1 a4 h1 h2 h3 h4 h5 h6
  have s1:its.toArray.size=ds.length:=by rw[List.size_toArray,← rv.length,rr.length]
  have s2:a1.toArray.size=es.length:=by rw[List.size_toArray,← Z.length,Y.length]
  unfold deq;rw[ym0]
  by_cases hl:ds.length=es.length
  ·have q1:=SeqAt.RcAt.lists (e:=λj=>deq (ds.getD j .non) (es.getD j .non)) p p' (by rw[s1,s2,hl]) J O
   have q2:=SeqAt.RcNeAt.lists (e:=λj=>deq (ds.getD j .non) (es.getD j .non)) p p' (by rw[s1,s2,hl]) J O;rw[s1] at q1 q2;rw[hl] at q1 q2 ⊢;simp only[Nat.min_self,beq_self_eq_true,Bool.and_true];exact⟨q1,q2⟩
  ·have q1:=B90 (A:=A) p p' (by rw[s1,s2];simpa using hl) J
   have q2:=SeqAt.RcNeAt.lists_lengths (A:=A) p p' (by rw[s1,s2];simpa using hl) J;rw[beq_eq_false_iff_ne.mpr hl,Bool.and_false];exact⟨q1,q2⟩
 all_goals
  unfold deq;constructor
  ·first
   | with_reducible exact SeqAt.RcAt.none_none|with_reducible exact SeqAt.RcAt.bool_bool _ _|with_reducible exact SeqAt.RcAt.int_int _ _ _ _|with_reducible exact SeqAt.RcAt.str_str _ _ _ _|with_reducible exact SeqAt.RcAt.bool_int _ _ _|with_reducible exact SeqAt.RcAt.int_bool _ _ _
   | with_reducible exact SeqAt.RcAt.none_bool _|with_reducible exact SeqAt.RcAt.none_int _ _|with_reducible exact SeqAt.RcAt.none_str _ _|with_reducible exact SeqAt.RcAt.bool_none _|with_reducible exact SeqAt.RcAt.bool_str _ _ _|with_reducible exact SeqAt.RcAt.int_none _ _|with_reducible exact SeqAt.RcAt.int_str _ _ _ _
   | with_reducible exact SeqAt.RcAt.str_none _ _|with_reducible exact SeqAt.RcAt.str_bool _ _ _|with_reducible exact SeqAt.RcAt.str_int _ _ _ _
   | with_reducible exact SeqAt.RcAt.none_list p' J|with_reducible exact SeqAt.RcAt.bool_list _ p' J|with_reducible exact SeqAt.RcAt.int_list _ _ p' J|with_reducible exact SeqAt.RcAt.str_list _ _ p' J
   | with_reducible exact SeqAt.RcAt.none_tuple p' J|with_reducible exact SeqAt.RcAt.bool_tuple _ p' J|with_reducible exact SeqAt.RcAt.int_tuple _ _ p' J|with_reducible exact SeqAt.RcAt.str_tuple _ _ p' J
   | with_reducible exact SeqAt.RcAt.list_none p J|with_reducible exact SeqAt.RcAt.list_bool _ p J|with_reducible exact SeqAt.RcAt.list_int _ _ p J|with_reducible exact SeqAt.RcAt.list_str _ _ p J
   | with_reducible exact SeqAt.RcAt.tuple_none p J|with_reducible exact SeqAt.RcAt.tuple_bool _ p J|with_reducible exact SeqAt.RcAt.tuple_int _ _ p J|with_reducible exact SeqAt.RcAt.tuple_str _ _ p J
   | with_reducible exact SeqAt.RcAt.list_tuple p p' J|with_reducible exact SeqAt.RcAt.tuple_list p p' J
  ·try rw[Bool.not_false]
   try rw[Bool.not_true]
   first
   | with_reducible exact SeqAt.RcNeAt.none_none|with_reducible exact SeqAt.RcNeAt.bool_bool _ _|with_reducible exact SeqAt.RcNeAt.int_int _ _ _ _|with_reducible exact SeqAt.RcNeAt.str_str _ _ _ _|with_reducible exact SeqAt.RcNeAt.bool_int _ _ _|with_reducible exact SeqAt.RcNeAt.int_bool _ _ _
   | with_reducible exact SeqAt.RcNeAt.none_bool _|with_reducible exact SeqAt.RcNeAt.none_int _ _|with_reducible exact SeqAt.RcNeAt.none_str _ _|with_reducible exact SeqAt.RcNeAt.bool_none _|with_reducible exact SeqAt.RcNeAt.bool_str _ _ _|with_reducible exact SeqAt.RcNeAt.int_none _ _|with_reducible exact SeqAt.RcNeAt.int_str _ _ _ _
   | with_reducible exact SeqAt.RcNeAt.str_none _ _|with_reducible exact SeqAt.RcNeAt.str_bool _ _ _|with_reducible exact SeqAt.RcNeAt.str_int _ _ _ _
   | with_reducible exact SeqAt.RcNeAt.none_list p' J|with_reducible exact SeqAt.RcNeAt.bool_list _ p' J|with_reducible exact SeqAt.RcNeAt.int_list _ _ p' J|with_reducible exact SeqAt.RcNeAt.str_list _ _ p' J
   | with_reducible exact SeqAt.RcNeAt.none_tuple p' J|with_reducible exact SeqAt.RcNeAt.bool_tuple _ p' J|with_reducible exact SeqAt.RcNeAt.int_tuple _ _ p' J|with_reducible exact SeqAt.RcNeAt.str_tuple _ _ p' J
   | with_reducible exact SeqAt.RcNeAt.list_none p J|with_reducible exact SeqAt.RcNeAt.list_bool _ p J|with_reducible exact SeqAt.RcNeAt.list_int _ _ p J|with_reducible exact SeqAt.RcNeAt.list_str _ _ p J
   | with_reducible exact SeqAt.RcNeAt.tuple_none p J|with_reducible exact SeqAt.RcNeAt.tuple_bool _ p J|with_reducible exact SeqAt.RcNeAt.tuple_int _ _ p J|with_reducible exact SeqAt.RcNeAt.tuple_str _ _ p J
   | with_reducible exact SeqAt.RcNeAt.list_tuple p p' J|with_reducible exact SeqAt.RcNeAt.tuple_list p p' J
end
section
variable{a:Expr}{ga:Ds->Option D}
def iu0(K:W.Frag)(neg:Bool):R2:=λx y H Q=>∃B B' dx dy,Rp K H B dx x/\Rp K H B' dy y/\lean dx 50=true/\lean dy 50=true/\Q (.bl (xor neg (deq dx dy))) H
theorem fi0(hu:X.A.units+64<cLine):OpR X (compareOp .Eq) (iu0 X.K false):=by
 intro pins s σ H x y v u Q I rx ry h;obtain⟨B,B',dx,dy,hx,hy,lx,ly,q⟩:=h;exact(gp0 I 50 50 dx dy x y v u X.A (by omega) lx ly hx hy rx ry).1 _ _ _ _ ⟨.bl _,H,I,rfl,by rw[Bool.false_xor] at q;exact q⟩
theorem s70(hu:X.A.units+64<cLine):OpR X (compareOp .NotEq) (iu0 X.K true):=by
 intro pins s σ H x y v u Q I rx ry h;obtain⟨B,B',dx,dy,hx,hy,lx,ly,q⟩:=h;exact(gp0 I 50 50 dx dy x y v u X.A (by omega) lx ly hx hy rx ry).2 _ _ _ _ ⟨.bl _,H,I,rfl,by rw[Bool.true_xor] at q;exact q⟩
theorem ju0:Op2 K (iu0 K false) o50:=by
 intro H B x y dx dy d Q hb rx ry h k;unfold o50 at h;split at h
 ·rename_i hl
  cases h;exact⟨B,B,dx,dy,rx,ry,hl.1,hl.2,k _ H (Same.refl H) (by rw[W7,Bool.false_xor])⟩
 ·cases h
theorem vl0:Op2 K (iu0 K true) xu0:=by
 intro H B x y dx dy d Q hb rx ry h k;unfold xu0 at h;split at h
 ·rename_i hl
  cases h;exact⟨B,B,dx,dy,rx,ry,hl.1,hl.2,k _ H (Same.refl H) (by rw[W7,Bool.true_xor])⟩
 ·cases h
theorem d60:Op2 K (λx y H Q=>rI0 (λi j=>.int (i+j)) x y H Q∨(∃i j,x=.str i/\y=.str j/\i.length+j.length<=sizeLine/\Q (.str (i++j)) H)∨bj0 K x y H Q∨bn0 K x y H Q∨ej0 K x y H Q) o9:=by
 intro H B x y dx dy d Q hb rx ry h k;cases dx<;>cases dy<;>simp only[o9] at h<;>try cases h
 ·rw[j5] at rx ry
  subst rx ry;exact .inl ⟨_,_,rfl,rfl,k _ H (Same.refl H) (by rw[j5])⟩
 ·split at h
  ·cases h
   rw[Z9] at rx ry;subst rx ry;exact .inr (.inl ⟨_,_,rfl,rfl,by assumption,k _ H (Same.refl H) (by rw[Z9])⟩)
  ·cases h
 ·split at h
  ·rename_i hz
   cases h;have O:=ry;have Y:=rx;rw[X4] at rx ry;obtain⟨a,xs,rfl,q1,r1⟩:=rx;obtain⟨b,ys,rfl,q2,r2⟩:=ry
   by_cases he:xs=[]
   ·subst he
    have e:‹List D›=‹List D›:=rfl;have hn:=r1.length;simp at hn;have J:=X0.mp hn.symm;subst J;exact .inr (.inr (.inr (.inr ⟨a,b,ys,rfl,rfl,q1.to,q2.to,k _ H (Same.refl H) (by rw[List.nil_append];exact O)⟩)))
   ·refine .inr (.inr (.inr (.inl ⟨a,b,xs,ys,rfl,rfl,q1.to,q2.to,he,by rw[r1.length,r2.length];exact hz,λz=>?_,λz p hp=>k _ _ (Z1 hp) (o40 hb hp (r1.append r2))⟩)))
    subst z;have hn:=r2.length;simp at hn;have J:=X0.mp hn.symm;subst J;exact k _ H (Same.refl H) (by rw[List.append_nil];exact Y)
  ·cases h
 ·split at h
  ·rename_i hz
   cases h;rw[Z5] at rx ry;obtain⟨a,xs,rfl,q1,r1⟩:=rx;obtain⟨b,ys,rfl,q2,r2⟩:=ry;exact .inr (.inr (.inl ⟨a,b,xs,ys,rfl,rfl,q1.to,q2.to,by rw[r1.length,r2.length];exact hz,λp hp=>k _ _ (Z1 hp) (vr0 hb hp (r1.append r2))⟩))
  ·cases h
theorem m7(ha:PD X a ga)(hb:PD X b gb):PD X (.BinOp a .Add b pos) (o2 ga gb o9):=v90 (Xz0.or (iy0.or (i50.or (an0.or du0)))) d60 ha hb
theorem i70(h:Rps K H B ds xs):∀k:Nat,Rps K H B (List.replicate k ds).flatten (List.replicate k xs).flatten
 | 0=>by simp[n6]
 | k+1=>by
  rw[List.replicate_succ,List.replicate_succ,List.flatten_cons,List.flatten_cons];exact h.append (i70 h k)
instance decMul(i j:Int):Decidable (CMul i j):=inferInstanceAs (Decidable ((-(2 ^ 64)<i/\i<2 ^ 64)∨(-(2 ^ 64)<j/\j<2 ^ 64)))
theorem V0(ha:PD X a ga)(hb:PD X b gb):PD X (.BinOp a .Mult b pos) (o2 ga gb U3):=v90 Wt0 ((show (ii λi j=>if (-(2 ^ 64)<i/\i<2 ^ 64)∨(-(2 ^ 64)<j/\j<2 ^ 64) then some (.int (i*j)) else none)=U3 from by funext x y;cases x<;>cases y<;>rfl)▸tf0 (C:=CMul) (g':=λi j=>.int (i*j)) λ_ _ _ _=>by rw[j5]) ha hb
theorem e00{xs:List D}{hi:Option Int}(h:sIx xs.length 0 lo=0/\sIx xs.length xs.length hi=xs.length):cutD xs lo hi=xs:=by
 unfold cutD;rw[h.1,h.2];simp
theorem tb0{lo hi:Option Expr}{gl gh:Ds->Option (Option Int)}{p2:Pos}(he:PD X e g)(hl:PDO X lo gl)(hh:PDO X hi gh) :
  PD X (.Subscript e (.Slice lo hi none p2) pos) (xq0 g gl gh):=.mk λB δ =>
 (di0 (W80.or (bp0.or (Wu0.or by0))) (he B δ) (hl B δ) (hh B δ)).imp fun σ H Q ⟨d,en,h,k⟩=>by
  unfold xq0 at h;cases e1:g δ with
  | none=>rw[e1] at h;cases h
  | some x =>
   cases e2:gl δ with
   | none=>rw[e1,e2] at h;cases h
   | some l =>
    cases e3:gh δ with
    | none=>rw[e1,e2,e3] at h;cases h
    | some u =>
     rw[e1,e2,e3] at h;simp only[Option.bind_some] at h;refine⟨x,en,e1,λv H1 s1 r1=>⟨l,en.same s1,(by first|exact e2|rfl),λH2 s2=>⟨u,(en.same s1).same s2,(by first|exact e3|rfl),λH3 s3=>?_⟩⟩⟩;have S:=(s1.trans s2).trans s3;have r3:=(r1.same s2).same s3;have hb:=(((en.same s1).same s2).same s3).bad;cases x<;>simp only[slA] at h<;>try cases h
     ·split at h
      ·cases h
       rw[Z9] at r3;exact .inl ⟨_,r3,by assumption,k _ H3 S (by rw[Z9])⟩
      ·cases h
     ·have r4:=r3
      rw[X4] at r3;obtain⟨a,xs,rfl,q,r⟩:=r3;rename_i dxs
      by_cases hw:sIx dxs.length 0 l=0/\sIx dxs.length dxs.length u=dxs.length
      ·refine .inr (.inr (.inr ⟨a,xs,rfl,q.to,by rw[r.length,u10,u10];exact hw,k _ _ S ?_⟩))
       rw[e00 hw];exact r4
      ·exact .inr (.inr (.inl ⟨a,xs,rfl,q.to,by rw[r.length,u10,u10];exact hw,λp hp=>k _ _ (S.trans (Z1 hp)) (o40 hb hp (ji0 r l u))⟩))
     ·rw[Z5] at r3
      obtain⟨a,xs,rfl,q,r⟩:=r3;exact .inr (.inl ⟨a,xs,rfl,q.to,λp hp=>k _ _ (S.trans (Z1 hp)) (vr0 hb hp (ji0 r l u))⟩)
theorem aa0{d d':D}(h:Rps K H B [d,d'] xs):∃v v',xs=[v,v']/\Rp K H B d v/\Rp K H B d' v':=by
 rw[p8] at h;obtain⟨x,r,rfl,h1,h2⟩:=h;obtain⟨y,rfl,h3⟩:=G7 h2;exact⟨x,y,rfl,h1,h3⟩
theorem Zd0:FnR K (λxs H Q=>∃p ys,xs=[.ref p]/\(SqL K H p ys∨SqT K H p ys)/\∀l,H l=none->Q (.ref l) (upd H l (.lst ys))) yb0:=by
 intro H B xs ds d Q hb r h k;unfold yb0 at h;split at h
 ·cases h
  obtain⟨v,rfl,r1⟩:=G7 r;rw[Z5] at r1;obtain⟨a,ys,rfl,q,rr⟩:=r1;exact⟨a,ys,rfl,.inl q.to,λl hl=>k _ _ (Z1 hl) (vr0 hb hl rr)⟩
 ·cases h
  obtain⟨v,rfl,r1⟩:=G7 r;rw[X4] at r1;obtain⟨a,ys,rfl,q,rr⟩:=r1;exact⟨a,ys,rfl,.inr q.to,λl hl=>k _ _ (Z1 hl) (vr0 hb hl rr)⟩
 ·cases h
end
end DL
namespace DL
open Spec PyProof.Rows
@[simp] def l80:D->D->Option D
 | .lst xs,.lst ys=>if xs.length+ys.length<=sizeLine then some (.lst (xs++ys)) else none
 | _,_=>none
theorem Q5{gA:GA}(h:gA δ=some ds)(hl:ds.length<=sizeLine):R0 gA δ=some (.tup ds):=by
 unfold R0;rw[h,Option.bind_some,if_pos hl]
theorem s50{gA:GA}(h:gA δ=some ds)(hl:ds.length<=sizeLine):W5 gA δ=some (.lst ds):=by
 unfold W5;rw[h,Option.bind_some,if_pos hl]
theorem Zg0{n:Int}{d:D}(h:d∈V9 0 n):∃k:Nat,(k:Int)<n/\d=.int (k:Int):=by
 obtain⟨k,hk,rfl⟩:=B0.mp h;have:=C8.mp hk;exact⟨k,by omega,by rw[Int.zero_add]⟩
theorem Za0(f:D->α)(n:Int):(V9 0 n).map f=(List.range n.toNat).map λ(k:Nat)=>f (.int (k:Int)):=by
 unfold V9;rw[List.map_map];have:n - 0=n:=by omega
 rw[this];refine List.map_congr_left λk _=>?_
 show f (.int (0+(k:Int)))=_;rw[Int.zero_add]
theorem G5(n:Int):(V9 0 n).length=n.toNat:=by unfold V9;simp
theorem o10{n:Int}{d:D}(h:(V9 0 n)[j]?=some d):j<n.toNat/\d=.int (j:Int):=by
 have hj:j<n.toNat:=by
  have:=(C0.mp h).1
  rwa [G5] at this
 refine⟨hj,?_⟩;unfold V9 at h;rw[List.getElem?_map,List.getElem?_range (by simpa using hj)] at h;have:=B3 h;rw[← this];show D.int (0+(j:Int))=_;rw[Int.zero_add]
theorem yt0{gt:GB}{ge:GE}{n:Int}(h:Nat->D)(H:∀k:Nat,(k:Int)<n->∃δ',gN 0 (.int (k:Int)) δ=some δ'/\gt δ'=some true/\ge δ'=some (h k)) :
  T8 (gN 0) gt ge δ (V9 0 n)=some ((List.range n.toNat).map h):=by
 rw[xd0 (λd=>match d with|.int j=>h j.toNat|_=>.non) (λd hd=>by
  obtain⟨k,hk,rfl⟩:=Zg0 hd;exact H k hk),Za0]
 rfl
end DL
namespace DL
open Spec PyProof.Rows L2
section
variable{a:Expr}{ga:Ds->Option D}
theorem az0(ha:PD X a ga)(hb:PD X b gb):PDF X (.BinOp a .Add b pos) (o2 ga gb l80):=.mk λB δ=>(bb0 i50 (ha B δ) (hb B δ)).imp fun σ H Q ⟨d,en,h,k⟩=>by
 unfold o2 at h;cases e1:ga δ with
 | none=>rw[e1] at h;cases h
 | some x =>
  cases e2:gb δ with
  | none=>rw[e1,e2] at h;cases h
  | some y =>
   rw[e1,e2] at h;simp only[Option.bind_some] at h;refine⟨x,en,e1,λv1 H1 s1 r1=>⟨y,en.same s1,e2,λv2 H2 s2 r2=>?_⟩⟩;cases x<;>cases y<;>simp only[l80] at h<;>try cases h
   split at h
   ·rename_i hz
    cases h;have r1:=r1.same s2;rw[Z5] at r1 r2;obtain⟨a,xs,rfl,q1,r1⟩:=r1;obtain⟨b,ys,rfl,q2,r2⟩:=r2;exact⟨a,b,xs,ys,rfl,rfl,q1.to,q2.to,by rw[r1.length,r2.length];exact hz,λp hp=>k p _ ((s1.trans s2).free hp) ((s1.trans s2).trans (Z1 hp)) ⟨_,m8,(r1.append r2).mono (Gr.fresh hp)⟩⟩
   ·cases h
theorem rw0(hm:X.mg x=none)(hv:bootBuiltins x=some (.type "list"))(ha:PD X e g)(hg:Gl X x:=by rfl)
  (hn:x ≠"__name__" := by decide) (hdb:(x==("__debug__" : Str))=false:=by decide) (he:starEach [e] X.env=(false,eval e X.env)::starEach [] X.env:=by rfl) (hpl:(backTo pos (starEach [] X.env)).any (·.1)=false:=by rfl) :
  PDF X (.Call (.Name x p) [e] [] pos) (oA (z7 g v6) yb0):=.mk λB δ=>(ty0 t50 hg hm hv (R5 (ha B δ) J0 he) hn hdb he hpl).imp fun σ H Q ⟨d,en,h,k⟩=>by
 unfold oA z7 v6 at h;cases e1:g δ with
 | none=>rw[e1] at h;cases h
 | some x =>
  rw[e1] at h;simp only[Option.bind_some,Option.map_some] at h;refine⟨x,en,e1,λv H1 s1 r1=>?_⟩;cases x<;>simp only[yb0] at h<;>try cases h
  ·rw[X4] at r1
   obtain⟨q,xs,rfl,hq,rr⟩:=r1;exact⟨q,xs,rfl,.inr hq.to,λl hl=>k l _ (s1.free hl) (s1.trans (Z1 hl)) ⟨_,m8,rr.mono (Gr.fresh hl)⟩⟩
  ·rw[Z5] at r1
   obtain⟨q,xs,rfl,hq,rr⟩:=r1;exact⟨q,xs,rfl,.inl hq.to,λl hl=>k l _ (s1.free hl) (s1.trans (Z1 hl)) ⟨_,m8,rr.mono (Gr.fresh hl)⟩⟩
end
def FnN(P:Program)(w:World)(K:W.Frag)(mg:Str->Option Value)(base:Heap)(x:Str)(k:Nat)(ps:List Str)(f:List D->Option D):Prop :=
 ∃(fa:Addr) (fd:FuncData),FnOk P w K mg base CX0 k fa fd ps (spN K f)/\mg x=some (.ref fa)/\W.keepIn K (.ref fa)=true/\Binds K fd ps []
theorem xb0{k m:Nat}{ps:List Str}{f:List D->Option D}(C:FnN X.prog X.w X.K X.mg X.base x k ps f)(hr:Room m X.A)(hk:k<=m)(ha:PDA X (e::es) gA)(hg:Gl X x:=by rfl)(hdb:(x==("__debug__" : Str))=false:=by decide)
  (he:starEach (e::es) X.env=(false,eval e X.env)::starEach es X.env:=by rfl) (hpl:(backTo pos (starEach es X.env)).any (·.1)=false:=by rfl):PDF X (.Call (.Name x p) (e::es) [] pos) (oA gA f):=by
 obtain⟨fa,fd,F,hm,kp,hb⟩:=C;exact .mk λB δ=>(pq0 (E:=E0) F (hr.mono hk) hg hm kp hb .nil mf0 (ha B δ) hdb he hpl).imp fun σ H Q h=>by
  obtain⟨d,en,h,k⟩:=h;unfold oA at h;cases e1:gA δ with
  | none=>rw[e1] at h;cases h
  | some ds =>
   rw[e1] at h;refine⟨ds,en,e1,λvs H1 s1 r1=>?_⟩;show spN X.K f (vs++[]) H1 Q E0;rw[List.append_nil];exact⟨B,ds,d,(en.same s1).bad,r1,h,λp H' hp s r=>k p H' (s1.free hp) (s1.trans s) r⟩
theorem Y6{k m:Nat}{ps:List Str}{f:List D->Option D}(C:FnN X.prog X.w X.K X.mg X.base x k ps f)(hr:Room m X.A)(hk:k<=m)(ha:PDA X (e::es) gA)(hg:Gl X x:=by rfl)(hdb:(x==("__debug__" : Str))=false:=by decide)
  (he:starEach (e::es) X.env=(false,eval e X.env)::starEach es X.env:=by rfl) (hpl:(backTo pos (starEach es X.env)).any (·.1)=false:=by rfl):PD X (.Call (.Name x p) (e::es) [] pos) (oA gA f):=(xb0 C hr hk ha hg hdb he hpl).pd
theorem X6(h:PDF X e g):PSD X (.Return (some e) pos) (O1 g):=.mk λH₀ B₀ δ pins s σ H D I ⟨r,en,e1,k⟩=>by
 unfold O1 at e1;obtain⟨B,b1,b2,env⟩:=en.ex;cases e2:g δ with
 | none=>rw[e2] at e1;cases e1
 | some d =>
  rw[e2] at e1;cases e1;exact ph0 (h B δ) pins s σ H D I ⟨d,env,e2,λp H' hp s' r=>k p H' (en.same.free hp) (en.same.trans s') (r.mono (λo h=>h) (Gr.less λa z=>z.imp (b1 a) id)).toL⟩
theorem wx0(i:Nat){px:Pos}(hN:X.N[i]?=some x:=by rfl)(hv:Vis X.env.scope x:=by first|exact Or.inl rfl|exact Or.inr (Or.inl rfl)|exact Or.inr (Or.inr rfl))(hd:(x==("__debug__" : Str))=false:=by decide)(hcd:(x==("__classdict__" : Str))=false:=by decide) :
  PSD X (.Return (some (.Name x px)) pos) (q90 i):=.mk λH₀ B₀ δ pins s σ H D I ⟨r,en,e1,k⟩=>by
 unfold q90 at e1;obtain⟨B,b1,b2,env⟩:=en.ex;split at e1
 ·rename_i d hi
  obtain⟨a,hs,hb,ro⟩:=env.at hi;cases e1;exact ph0 (xl0 (i:=i) hN hv hd hcd) pins s σ H D I ⟨_,hs,k a H (en.fr i d a hi hs) en.same (ro.mono (λo h=>h) (Gr.less λb z=>z.elim (b1 b) λq=>by rw[q];exact hb))⟩
 ·cases e1
end DL
namespace DL
@[simp] def sb0:List D->Option D
 | [.lst ds,.lst es]=>some (.tup ((ds.zip es).map λp=>.tup [p.1,p.2]))
 | _=>none
@[simp] def q60:List D->Option D
 | [.lst ds]=>some (.lst ds.reverse)
 | _=>none
def y70(ds:List D):List D:=(List.range ds.length).map λ(k:Nat)=>.tup [.int (k:Int),ds.getD k .non]
def f50:List D->Option (List D)
 | [.lst ds]=>some (y70 ds)
 | _=>none
def qf0(gA:GA):GA:=fun δ=>(gA δ).bind f50
@[simp] def u00:List D->Option D
 | [.dct (.inl ks) ds]=>some (.dct (.inl ks) ds)
 | _=>none
mutual
def tree:D->Bool
 | .lst _=>false
 | .dct _ _=>false
 | .fn _ _=>false
 | .tup ds=>trees ds
 | _=>true
def trees:List D->Bool
 | []=>true
 | d::ds=>tree d&&trees ds
end
def ta0(g:GE):GE:=fun δ=>(g (frz δ)).bind λd=>if tree d=true then some d else none
theorem Zu0{g:GE}{d:D}(h:g (frz δ)=some d)(ht:tree d=true):ta0 g δ=some d:=by
 unfold ta0;rw[h,Option.bind_some,if_pos ht]
def mh0(g:GE)(gA:GA)(f:D->List D->Option D):GE:=fun δ=>(g δ).bind λd=>(gA δ).bind λds=>f d ds
theorem za0{gA:GA}{n:Int}(h:gA δ=some [.int n])(h1:-(2 ^ 62)<=n)(h2:n<2 ^ 62):O9 gA δ=some (V9 0 n):=by
 unfold O9;rw[h,Option.bind_some];simp only[gk0];rw[if_pos ⟨h1,h2⟩]
theorem vx0{g:GE}(h:g δ=some (.lst ds)):oA (z7 g v6) Z2 δ=some (.int (ds.length:Int)):=by
 rw[p7 (cons_of h rfl)];rfl
end DL
namespace RevL
open Spec PyProof.Rows
theorem h80:typeLookup (.type "list_reverseiterator") "__len__"=pure none:=by rw[typeLookup_type,builtinLookup_eq_fast];kernel_rfl
theorem c60:typeLookup (.type "list_reverseiterator") "__length_hint__"=pure (some (.builtin "list_reverseiterator.__length_hint__")):=by rw[typeLookup_type,builtinLookup_eq_fast];kernel_rfl
theorem Zt0:isSubtype (.type "list_reverseiterator") (.type "list_reverseiterator")=pure true:=by rw[isSubtype_type];kernel_rfl
section
variable{w:World}{A:Around}{s:Shared}
variable{wr:List Addr}{G:Array GenState->Array GenState->Prop}{P:Nat->Value->Prop}{St:Nat->Shared->Prop}
theorem au0(W:WalksS prog w A.in1 I fp wr G n P St)(hT:∀i s,St i s->s.TypeIs (.ref I) "list_reverseiterator")(C:Addr)(res:Value)(c0:Nat)(st:St 0 s)(hC:C∉fp)(hI:I∈fp)
  (gC:s.heap.get? C=some { cls:=.type "list",data:=.seq #[] c0 })
  (hR:∀s' acc' c',Moved (C::wr) G s s'->s'.heap.get? C=some { cls:=.type "list",dict:=none,data:=.seq acc' c',slots:=#[] }->ItemsOf P acc' n->R (.ok (.ret res)) s') (hn:n<=sizeLine) :
  wpAny (model prog w) A.in1 (Builtin.List.listExtendWith (.ref C) (.ref I) res)
   (λfin s'=>match fin with|.done f=>R (.ok f) s'|.again c'=>c'.quiet=true/\codeAny (model prog w) A c' R s') (λe s'=>R (.error e) s') s:=by
 have ne:C≠I:=λe=>hC (e▸hI)
 unfold Builtin.List.listExtendWith;refine A0 (L5 (hT 0 _ st) (by
  have q1:Builtin.List.listSameRef (.ref C) (.ref I)=false:=by simp[Builtin.List.listSameRef,ne]
  have q2:(Value.type "list_reverseiterator"==Value.type "list")=false:=by decide
  have q3:(Value.type "list_reverseiterator"==Value.type "tuple")=false:=by decide
  simp only[q1,q2,q3,Bool.or_false,Bool.false_eq_true,if_false];refine A0 (W.self 0 _ _ _ st (A0 (D7 (by
   unfold Builtin.List.listLengthHint;refine A0 (P1 (hT 0 _ st) h80 (by
    show wpAny _ A.in1 (specialOf (Value.ref I) (Str.ofString "__length_hint__")>>=_) _ _ _;refine A0 (P1 (hT 0 _ st) c60 ?_);refine A0 (wpAny_isInstance (hT 0 _ st) Zt0 ?_);rw[if_neg (by decide)];dsimp only;rw[if_pos (by decide +kernel),if_neg (by decide)];refine A2 ?_;rw[if_neg (by decide +kernel)];refine A2 ⟨P4 PySem.F.plain_extend_loop _,?_⟩;exact codeAny_extend_loopS W hn _ hC _ n 0 _ _ _ rfl (B9 _) st gC (ItemsOf.nil P) λs' acc' c' m e J=>hR s' acc' c' m e J))))))))
theorem d20(W:WalksS prog w A.in1 I fp wr G n P St)(hT:∀i s,St i s->s.TypeIs (.ref I) "list_reverseiterator")(C:Addr)(st:St 0 s)(hC:C∉fp)(hI:I∈fp)
  (gC:s.heap.get? C=some { cls:=.type "list",data:=.seq #[] })
  (hR:∀s' acc' c',Moved (C::wr) G s s'->s'.heap.get? C=some { cls:=.type "list",dict:=none,data:=.seq acc' c',slots:=#[] }->ItemsOf P acc' n->R (.ok (.ret .none)) s') (hn:n<=sizeLine) :
  wpAny (model prog w) A.in1 (Builtin.«list.__init__» ⟨[.ref C,.ref I],[]⟩)
   (λfin s'=>match fin with|.done f=>R (.ok f) s'|.again c'=>c'.quiet=true/\codeAny (model prog w) A c' R s') (λe s'=>R (.error e) s') s:=by
 show wpAny _ A.in1 (do let old ← Builtin.List.listItems (.ref C);Builtin.List.listUpdate (.ref C) (λ_=>#[]);letGo old.toList.reverse;Builtin.List.listExtendWith (.ref C) (.ref I) .none) _ _ s;refine A0 (by
  unfold Builtin.List.listItems;refine A0 (u2 gC rfl (A2 (by
   show wpAny _ A.in1 (updateSeq C (λ_=>#[])>>=λ_=>letGo (#[]:Array Value).toList.reverse>>=λ_=>Builtin.List.listExtendWith (.ref C) (.ref I) .none) _ _ s;have g2:=I0 (Obj.mapSeq (λ_=>(#[]:Array Value))) gC rfl;have oth:∀b o,b≠C->s.heap.get? b=some o->(s.heap.update C (Obj.mapSeq (λ_=>(#[]:Array Value)))).get? b=some o:=λb o hb e=>(G0 _ _ (A4 hb)).trans e
   refine A0 (P2 gC rfl (A0 (wpAny_letGo (au0 W hT C .none _ (W.frame 0 s _ s.toks st (A1 _) λb hb o e=>oth b o (λh=>hC (h▸hb)) e) hC hI g2 (λs' acc' c' m e J=>?_) hn))));exact hR s' acc' c' (Moved.trans W.gtrans ((Moved.refl W.grefl).then_heap (A1 _) λb o hb e=>oth b o (λh=>hb (h▸A9)) e) m) e J))))
end
section
variable{w:World}{A:Around}{s:Shared}
variable{wr:List Addr}{G:Array GenState->Array GenState->Prop}{P:Nat->Value->Prop}{St:Nat->Shared->Prop}
theorem m40{Q:Value->Shared->Prop}(W:WalksS prog w A.in1.in1 I fp wr G n P St)(hT:∀i s,St i s->s.TypeIs (.ref I) "list_reverseiterator")(st:St 0 s)(hfp:∀b∈fp,b<s.heap.objs.size)(hI:I∈fp)
  (hQ:∀s' acc' c',Moved (s.heap.objs.size::wr) G { s with heap:=s.heap.push { cls:=.type "list",data:=.seq #[] } } s' ->
   s'.heap.get? s.heap.objs.size=some { cls:=.type "list",dict:=none,data:=.seq acc' c',slots:=#[] }->ItemsOf P acc' n->Q (.ref s.heap.objs.size) s') (hn:n<=sizeLine) :
  wpAny (model prog w) A (call (.type "list") [.ref I]) Q E s:=by
 have hC:s.heap.objs.size∉fp:=λz=>D0 _ (hfp _ z)
 refine callType_codes (Q₁:=λob s1=>ob=.ref s.heap.objs.size/\s1={ s with heap:=s.heap.push { cls:=.type "list",data:=.seq #[] } }) PySem.F.called_list (PySem.F.typeCall_list_1 _) PySem.F.entry_list_init (code_list_new _ ⟨rfl,rfl⟩) λob s1 h1=>?_
 obtain⟨rfl,rfl⟩:=h1;have gC:(s.heap.push { cls:=.type "list",data:=.seq #[] }).get? s.heap.objs.size=some { cls:=.type "list",data:=.seq #[] }:=B7 _ rfl;exact⟨⟨_,gC,rfl⟩,PySem.F.args_list_init_2 _ _,d20 W hT _ (W.frame 0 s _ s.toks st (A1 _) λb _ o e=>A6 _ e) hC hI gC (λs' acc' c' m e J=>⟨rfl,hQ s' acc' c' m e J⟩) hn⟩
theorem m70{l:Addr}{its:Array Value}{Q:Value->Shared->Prop}(hh:A.handled=none)(hl:s.heap.IsList l its)(hz:its.size<=sizeLine)
  (h:∀(h':Heap) (tk c:Nat) (a:Addr),s.heap.objs.size<=a->h'.get? a=some { cls:=.type "list",dict:=none,data:=.seq its.reverse c,slots:=#[] }->(∀b o,s.heap.get? b=some o->h'.get? b=some o)->Q (.ref a) { s with heap:=h',toks:=tk }) :
  wpAny (model prog w) A (call (.type "reversed") [.ref l]) (λv s1=>wpAny (model prog w) A (call (.type "list") [v]) Q E s1) E s:=by
 refine call_reversed_list hl ?_;obtain⟨ol,gl,_,_⟩:=id hl;have Y:l<s.heap.objs.size:=A3 gl;have a1:A.in1.in1.handled=none:=by simp[hh]
 have Wk:=(Walks.listRev (prog:=prog) (w:=w) a1 s.heap.objs.size l (A5 Y) its).toS;refine m40 Wk (λi s x=>x.2.1.typeIs) ⟨B9 _,⟨_,B7 _ rfl,rfl,by
  show Data.fields #[.ref l,rawInt ((its.size:Int) - 1)]=_;have z:(its.size:Int) - 1 - ((0:Nat):Int)=(its.size:Int) - 1:=by omega
  rw[z]⟩,hl.push _⟩ (λb hb=>?_) (by simp) (λs' O c' m e J=>?_) hz
 ·show b<(s.heap.push _).objs.size
  rw[Heap.size_push];simp only[List.mem_cons,List.not_mem_nil,or_false] at hb;rcases hb with rfl|rfl
  ·exact t5 _
  ·exact Bc0 Y
 ·obtain⟨h',g',d',Z,a2⟩:=s'
  obtain rfl:g'=s.gens:=m.gens;obtain rfl:d'=s.drawn:=m.drawn;obtain rfl:a2=s.os:=m.os;have ea:O=its.reverse:=by
   apply Array.ext
   ·rw[J.1,Array.size_reverse]
   ·intro i h1 h2
    have q:its[its.size - 1 - i]?=some O[i]:=J.2 i O[i] (P5 h1);have hi:i<its.size:=by rw[← J.1];exact h1
    rw[Array.getElem?_eq_getElem (by omega)] at q;rw[Array.getElem_reverse];exact(B3 q).symm
  subst ea;have a3:(s.heap.push (revObj l ((its.size:Int) - 1))).objs.size=s.heap.objs.size+1:=Heap.size_push ..;refine h h' Z c' _ ?_ e λb o eb=>?_
  ·show s.heap.objs.size<=(s.heap.push _).objs.size
   rw[Heap.size_push];exact Nat.le_succ _
  ·have lb:=A3 eb
   refine m.heap b o ?_ (A6 _ (A6 _ eb));simp only[List.mem_cons,List.not_mem_nil,or_false,not_or];refine⟨?_,A5 lb⟩;show b≠(s.heap.push _).objs.size;rw[Heap.size_push];exact A5 (Bc0 lb)
end
end RevL
namespace DL
open Spec PyProof.Rows L2
theorem Rps.reverse:∀{ds:List D} {xs:List V},Rps K H B ds xs->Rps K H B ds.reverse xs.reverse
 | [],_,h=>by rw[n6] at h;subst h;simp[n6]
 | d::ds,_,h=>by
  rw[p8] at h;obtain⟨x,r,rfl,h1,h2⟩:=h;rw[List.reverse_cons,List.reverse_cons];exact Rps.snoc (Rps.reverse h2) h1
theorem j40:bootBuiltins "reversed"=some (.type "reversed"):=by decide +kernel
theorem aq0:bootBuiltins "list"=some (.type "list"):=by decide +kernel
theorem Ze0(hc:X.calm=true)(hl:X.mg "list"=none)(hs:X.mg "reversed"=none)(he:PE X e te)(hgl:Gl X "list" := by rfl)(hgs:Gl X "reversed" := by rfl)
  (e1:starEach [.Call (.Name "reversed" p2) [e] [] pos2] X.env=(false,eval (.Call (.Name "reversed" p2) [e] [] pos2) X.env)::starEach [] X.env:=by rfl) (e2:starEach [e] X.env=(false,eval e X.env)::starEach [] X.env:=by rfl)
  (h1:(backTo pos (starEach [] X.env)).any (·.1)=false:=by rfl) (h2:(backTo pos2 (starEach [] X.env)).any (·.1)=false:=by rfl) :
  PE X (.Call (.Name "list" p) [.Call (.Name "reversed" p2) [e] [] pos2] [] pos) (fun σ H Q=>te σ H λv H'=>∃q xs,v=.ref q/\SqL X.K H' q xs/\∀l,H' l=none->Q (.ref l) (upd H' l (.lst xs.reverse))):=by
 intro pins s σ H Q I h;refine D8 (zi0 I hgl hl aq0 ?_ (by decide) (by decide));refine E4 ?_ e1 h1;rw[e1];show wpAny _ _ (spliced ((false,eval (.Call (.Name "reversed" p2) [e] [] pos2) X.env)::backTo pos (starEach [] X.env))) _ _ s;refine N1 ?_;refine D8 (zi0 I hgs hs j40 ?_ (by decide) (by decide));refine E4 ?_ e2 h2;rw[e2];show wpAny _ _ (spliced ((false,eval e X.env)::backTo pos2 (starEach [] X.env))) _ _ s;refine N1 (thn (he pins s σ H _ I h) λu s1 ⟨v,H1,I1,r1,q,xs,ev,hq,k⟩=>N0 ?_);subst ev;obtain rfl:u=Value.ref q:=r1;obtain⟨its,rv,pl,hz⟩:=I1.list hq;have J:=rv.length;refine thn (RevL.m70 (I1.ok.hd hc) pl.isList (by rw[List.size_toArray,← J];exact hz) (Q:=EP X pins σ Q) (E:=X.xe) λh' tk c a ha ga hk=>?_) λv s2 hv=>N0 hv
 have hf:H1 a=none:=I1.hok.fresh ha;refine⟨.ref a,_,I1.laid (a:=a) (o:=.lst xs.reverse) (t':=tk) hk ha ?_,rfl,k a hf⟩;exact⟨by rw[List.length_reverse];exact hz,its.reverse,c,rv.reverse,by rw[ga];simp⟩
theorem l30(hl:X.mg "list"=none)(hs:X.mg "reversed"=none)(he:PD X e g)(hc:X.calm=true:=by rfl)(hgl:Gl X "list" := by rfl)(hgs:Gl X "reversed" := by rfl)
  (e1:starEach [.Call (.Name "reversed" p2) [e] [] pos2] X.env=(false,eval (.Call (.Name "reversed" p2) [e] [] pos2) X.env)::starEach [] X.env:=by rfl) (e2:starEach [e] X.env=(false,eval e X.env)::starEach [] X.env:=by rfl)
  (h1:(backTo pos (starEach [] X.env)).any (·.1)=false:=by rfl) (h2:(backTo pos2 (starEach [] X.env)).any (·.1)=false:=by rfl) :
  PDF X (.Call (.Name "list" p) [.Call (.Name "reversed" p2) [e] [] pos2] [] pos) (oA (z7 g v6) q60):=.mk λB δ =>
 (Ze0 hc hl hs (he B δ) hgl hgs e1 e2 h1 h2).imp fun σ H Q ⟨d,en,h,k⟩=>by
  unfold oA z7 v6 at h;cases e3:g δ with
  | none=>rw[e3] at h;cases h
  | some x =>
   rw[e3] at h;simp only[Option.bind_some,Option.map_some] at h;cases x<;>simp only[q60] at h<;>try cases h
   refine⟨_,en,e3,λv H1 s1 r=>?_⟩;rw[Z5] at r;obtain⟨q,xs,rfl,hq,rr⟩:=r;exact⟨q,xs,rfl,hq.to,λl hl=>k l _ (s1.free hl) (s1.trans (Z1 hl)) ⟨_,m8,rr.reverse.mono (Gr.fresh hl)⟩⟩
theorem wd0[DecidableEq κ]:∀{ks:List κ} {ds:List D} {xs:List V} {q:κ},Rps K H B ds xs->(∀d,K6 ks ds q=some d->∃x,K3 (ks.zip xs) q=some x/\Rp K H B d x)/\(ks.length=xs.length->(K3 (ks.zip xs) q).isSome=M6 ks q)
 | [],ds,xs,q,h=>by
  refine⟨λd e=>?_,λ_=>?_⟩
  ·unfold K6 at e;cases e
  ·rfl
 | k::ks,[],xs,q,h=>by
  rw[n6] at h;subst h;refine⟨λd e=>?_,λz=>?_⟩
  ·unfold K6 at e;cases e
  ·simp at z
 | k::ks,d::ds,xs,q,h=>by
  rw[p8] at h;obtain⟨x,r,rfl,h1,h2⟩:=h;obtain⟨i1,i2⟩:=wd0 (ks:=ks) (q:=q) h2
  by_cases e:k=q
  ·subst e
   refine⟨λd' e'=>?_,λ_=>?_⟩
   ·unfold K6 at e'
    rw[if_pos rfl] at e';cases e';exact⟨x,wk0 rfl,h1⟩
   ·rw[List.zip_cons_cons,wk0 rfl]
    unfold M6;simp
  ·refine⟨λd' e'=>?_,λz=>?_⟩
   ·unfold K6 at e'
    rw[if_neg e] at e';rw[List.zip_cons_cons,wu0 e];exact i1 d' e'
   ·rw[List.zip_cons_cons,wu0 e,i2 (by simpa using z)]
    unfold M6;simp[e]
theorem jv0[DecidableEq κ]:∀{ks:List κ} {xs:List V} {q:κ},ks.length=xs.length->((ks.zip xs).any λkv=>decide (kv.1=q))=M6 ks q
 | [],_,_,_=>rfl
 | k::ks,[],_,h=>by simp at h
 | k::ks,x::xs,q,h=>by
  rw[List.zip_cons_cons,List.any_cons,jv0 (by simpa using h)];rfl
theorem bu0[DecidableEq κ]{ks:List κ}{q:κ}(h:ks.length=xs.length):∃ys,putK (ks.zip xs) q v=(J5 ks q).zip ys/\(J5 ks q).length=ys.length/\(M6 ks q=true->ys=(ks.zip xs).map λp=>if p.1=q then v else p.2)/\(M6 ks q=false->ys=xs++[v]):=by
 unfold putK J5;rw[jv0 h];cases hk:M6 ks q with
 | true =>
  rw[if_pos rfl,if_pos rfl];refine⟨(ks.zip xs).map λp=>if p.1=q then v else p.2,?_,by simp[h],λ_=>rfl,λz=>by cases z⟩;clear hk
  induction ks generalizing xs with
  | nil=>rfl
  | cons k ks ih =>
   cases xs with
   | nil=>simp at h
   | cons x xs =>
    rw[List.zip_cons_cons,List.map_cons,List.map_cons,List.zip_cons_cons,ih (by simpa using h)]
    by_cases e:k=q<;>simp[e]
 | false =>
  rw[if_neg (by simp),if_neg (by simp)];refine⟨xs++[v],?_,by simp[h],λz=>(by cases z),λ_=>rfl⟩;rw[List.zip_append h];rfl
theorem qq0[DecidableEq κ]{q:κ}{d:D}(hv:Rp K H B d v):∀{ks:List κ} {ds:List D} {xs:List V},Rps K H B ds xs->Rps K H B ((ks.zip ds).map λp=>if p.1=q then d else p.2) ((ks.zip xs).map λp=>if p.1=q then v else p.2)
 | [],_,_,_=>by simp[n6]
 | k::ks,[],xs,h=>by rw[n6] at h;subst h;simp[n6]
 | k::ks,d'::ds,xs,h=>by
  rw[p8] at h;obtain⟨x,r,rfl,h1,h2⟩:=h;rw[List.zip_cons_cons,List.zip_cons_cons,List.map_cons,List.map_cons,p8];refine⟨_,_,rfl,?_,qq0 hv h2⟩
  by_cases e:k=q
  ·simp only[e,if_true];exact hv
  ·simp only[e,if_false];exact h1
section
variable{a:Expr}{ga:Ds->Option D}
theorem qi0{d:D}{k:Q4}(h:zp0 d=some k)(r:Rp K H B d v):v=kV k:=by
 cases d<;>simp[zp0] at h
 ·subst h;rw[j5] at r;subst r;rfl
 ·subst h;rw[Z9] at r;subst r;rfl
theorem fj0:∀{ds:List D} {ks:List Q4} {xs:List V},s20 ds=some ks->Rps K H B ds xs->xs=ks.map kV
 | [],ks,xs,h,r=>by cases h;rw[n6] at r;exact r
 | d::ds,ks,xs,h,r=>by
  unfold s20 at h;rw[p8] at r;obtain⟨x,r',rfl,h1,h2⟩:=r;cases e1:zp0 d with
  | none=>rw[e1] at h;cases h
  | some k =>
   cases e2:s20 ds with
   | none=>rw[e1,e2] at h;cases h
   | some l =>
    rw[e1,e2] at h;cases h;rw[qi0 e1 h1,fj0 e2 h2];rfl
theorem ek0{d:D}{k:List Q4}(h:vo0 d=some k)(r:Rp K H B d v):∃b,v=.ref b/\H b=some (.tup (k.map kV)):=by
 cases d<;>simp only[vo0] at h<;>try cases h
 rw[X4] at r;obtain⟨a,xs,rfl,q,rr⟩:=r;exact⟨a,rfl,by rw[← fj0 h rr];exact q.2⟩
theorem sf0(hu:X.A.units+1<cLine)(ha:PD X a ga)(hb:PD X b gb)(hs:ey0 b:=by exact λ_ _=>rfl):PD X (.Subscript a b pos) (o2 ga gb M8):=.mk λB δ=>(Zw0 hu (ha B δ) (hb B δ) hs).imp fun σ H Q ⟨d,en,h,k⟩=>by
 unfold o2 at h;cases e1:ga δ with
 | none=>rw[e1] at h;cases h
 | some x =>
  cases e2:gb δ with
  | none=>rw[e1,e2] at h;cases h
  | some y =>
   rw[e1,e2] at h;simp only[Option.bind_some] at h;refine⟨x,en,e1,λv1 H1 s1 r1=>⟨y,en.same s1,e2,λv2 H2 s2 r2=>?_⟩⟩;cases x<;>simp only[M8] at h<;>try cases h
   rename_i ks ds;have r1:=r1.same s2;cases ks with
   | inl ks =>
    simp only at h;cases e3:zp0 y with
    | none=>rw[e3] at h;cases h
    | some q =>
     rw[e3] at h;simp only[Option.bind_some] at h;rw[p20] at r1;obtain⟨p,xs,rfl,_,hp,hl,rr⟩:=r1;obtain⟨v,hv,rv⟩:=(wd0 rr).1 d h;have:=qi0 e3 r2;subst this;exact⟨p,v,rfl,by rw[← hv];exact DGet.k hp,k v H2 (s1.trans s2) rv⟩
   | inr ks =>
    simp only at h;cases e3:vo0 y with
    | none=>rw[e3] at h;cases h
    | some q =>
     rw[e3] at h;simp only[Option.bind_some] at h;rw[jx0] at r1;obtain⟨p,xs,rfl,_,hp,hl,rr⟩:=r1;obtain⟨v,hv,rv⟩:=(wd0 rr).1 d h;obtain⟨b,rfl,hb⟩:=ek0 e3 r2;exact⟨p,v,rfl,by rw[← hv];exact DGet.t hp hb,k v H2 (s1.trans s2) rv⟩
theorem l70(hu:X.A.units+1<cLine)(ha:PD X a ga)(hb:PD X b gb)(hm:behindInMarks .NotIn b=false:=by first|rfl|with_unfolding_all rfl):PTD X (.Compare a [.NotIn] [b] pos) (ob (o2 ga gb (xa0 true))):=.mk λB δ=>(Xi0 (es0 hu (ha B δ) (hb B δ)) hm).imp fun σ H Q ⟨t,en,h,k⟩=>by
 unfold ob o2 at h;cases e1:ga δ with
 | none=>rw[e1] at h;cases h
 | some x =>
  cases e2:gb δ with
  | none=>rw[e1,e2] at h;cases h
  | some y =>
   rw[e1,e2] at h;simp only[Option.bind_some] at h;refine⟨x,en,e1,λv1 H1 s1 r1=>⟨y,en.same s1,e2,λv2 H2 s2 r2=>?_⟩⟩;cases y<;>simp only[xa0] at h<;>try cases h
   rename_i ks ds;cases ks with
   | inl ks =>
    simp only at h;cases e3:zp0 x with
    | none=>rw[e3] at h;cases h
    | some q =>
     rw[e3] at h;simp only[Option.map_some,Option.bind_some,asB,Bool.true_xor] at h;cases h;rw[p20] at r2;obtain⟨p,xs,rfl,_,hp,hl,rr⟩:=r2;have:=qi0 e3 r1;subst this;refine⟨p,_,rfl,DGet.k hp,_,rfl,?_⟩;rw[(wd0 rr).2 hl];exact k H2 (s1.trans s2)
   | inr ks =>
    simp only at h;cases e3:vo0 x with
    | none=>rw[e3] at h;cases h
    | some q =>
     rw[e3] at h;simp only[Option.map_some,Option.bind_some,asB,Bool.true_xor] at h;cases h;rw[jx0] at r2;obtain⟨p,xs,rfl,_,hp,hl,rr⟩:=r2;obtain⟨b,rfl,hb⟩:=ek0 e3 (r1.same s2);refine⟨p,_,rfl,DGet.t hp hb,_,rfl,?_⟩;rw[(wd0 rr).2 hl];exact k H2 (s1.trans s2)
theorem px0(i:Nat)(hu:X.A.units+1<cLine)(h:PD X e g)(hN:X.N[i]?=some x:=by rfl)(hv:Vis X.env.scope x:=by first|exact Or.inl rfl|exact Or.inr (Or.inl rfl)|exact Or.inr (Or.inr rfl))(hd:(x==("__debug__" : Str))=false:=by decide)(hcd:(x==("__classdict__" : Str))=false:=by decide)
  (ha:∀v,assign (.Subscript (.Name x px) e pos) X.env v=(do
   let ov ← holding [v] (eval (.Name x px) X.env)
   let iv ← holding [v,ov] (eval e X.env)
   standAt pos
   holding [v,ov,iv] (setItem ov iv v)
   release [v,ov,iv] []):=by intro _;rfl):PTG X (.Subscript (.Name x px) e pos) (putAt i g):=.mk λH₀ B₀ d δ pins s σ H v u Q I r ⟨δ',en,e1,k⟩=>by
 unfold putAt at e1;obtain⟨B,b1,b2,env,rv⟩:=en.ex;cases e2:gd0 i δ with
 | none=>rw[e2] at e1;cases e1
 | some pr =>
  cases e3:g δ with
  | none=>rw[e2,e3] at e1;cases e1
  | some dk =>
   rw[e2,e3] at e1;simp only[Option.bind_some] at e1;cases e4:zp0 dk with
   | none=>rw[e4] at e1;cases e1
   | some q =>
    rw[e4] at e1;simp only[Option.bind_some] at e1;split at e1
    ·rename_i hz
     cases e1;have hi:=Zm0 e2;obtain⟨a,J,hb,xs,hx,hl,rx⟩:=env.at hi;have hl:pr.1.length=xs.length:=hl;refine Xd0 (xl0 (i:=i) hN hv hd hcd) (h B δ) (set_dict hu) ha pins s σ H v u Q I r ⟨_,J,_,env,e3,λiv H1 s1 r1=>?_⟩;have:=qi0 e4 r1;subst this;obtain⟨ys,hy,Z,Y,a1⟩:=bu0 (q:=q) (v:=v) hl;refine⟨a,_,rfl,DPut.k (s1 _ _ hx) (by rw[List.length_zip,← hl,Nat.min_self];exact hz),?_⟩;have rr:Rps X.K H1 B (zh0 pr.1 pr.2 q d) ys:=by
      unfold zh0;cases hk:M6 pr.1 q with
      | true=>rw[if_pos rfl,Y hk];exact qq0 (rv.same s1) (rx.same s1)
      | false=>rw[if_neg (by simp),a1 hk];exact Rps.snoc (rx.same s1) (rv.same s1)
     rw[hy];have O:Env X.K (upd H1 a (.dK ((J5 pr.1 q).zip ys))) B σ (δ.set i (.ow (.dct (.inl (J5 pr.1 q)) (zh0 pr.1 pr.2 q d)))):=(env.same s1).mut hi J ⟨ys,m8,Z,rr.mono (Gr.own hb)⟩;exact k _ _ (en.s.mut s1 b1 b2 hi J O)
    ·cases e1
end
section
variable{σ:St}{s:Shared}{Q:VK}{f:Addr}
theorem Zr0{q:Key}(h:K3 ((rk xs.length).zip xs) q=some v):∃j:Nat,q=.inl (j:Int)/\xs[j]?=some v:=by
 unfold K3 at h;obtain⟨kv,h1,rfl⟩:=O0.mp h;have hm:=List.mem_of_find?_eq_some h1;have hk:kv.1=q:=P6 (List.find?_some (p:=λkv:Key×V=>decide (kv.1=q)) h1);obtain⟨j,hj,e⟩:=u3.mp hm;have hl:j<xs.length:=by rw[List.length_zip] at hj;omega
 refine⟨j,?_,?_⟩
 ·rw[← hk,← e,List.getElem_zip]
  unfold rk;simp
 ·rw[← e,List.getElem_zip,List.getElem?_eq_getElem hl]
theorem ac0{k:Nat}{q:Key}(hr:Room k X.A)(I:Inv X pins σ H s)(F:FnAtH X.K H B f kvs)(ry:RelV (kV q) u)(hv:K3 kvs q=some v)(h:Q v H) :
  wpAny (model X.prog X.w) X.A (call (.ref f) [u]) (EP X pins σ Q) X.xe s:=by
 obtain⟨oF,oC,oK,fd,c,cd,p,x,y,⟨_,h1⟩,⟨h2,h3,p1,p2,p3,e1,e2,e3,e4,e5,e6,e7,e8,e9,a5,Y,a2,Z,hb⟩,⟨_,h4⟩,h5,⟨_,h6⟩,⟨vs,t,h7,h8⟩,h9⟩:=F;have o1:=(I.hok f _ h1).1;have o2:=(I.hok c _ h4).1;have o3:=(I.hok cd _ h6).1;refine wpAny_call (W.kla_callFunE hr.depth o1 h3 e2 e3 e1 ⟨cd,oK,vs,t,e9,o3,h7,h8⟩ ?_);rw[hb];refine A2 (wpAny_newFunctionEnv e7 (λz hz=>by rw[List.mem_singleton.mp hz];exact e5) (λh₁ a1 a3=>⟨I.nolimit.fresh _ a3,?_⟩) e4);have J:∀b o,s.heap.get? b=some o->h₁.get? b=some o:=λb o e=>a3.extBut b o (A5 (A3 e)) (A6 _ e)
 have I1:∀t',Inv X pins σ H { s with heap:=h₁,toks:=t' }:=λt'=>I.un (Un.kept J) (I.hok.kept J)
 refine W.kla_codeExpr ?_;have hu:(X.A.deeper (newEnv fd.scope s.heap.objs.size fd.globals fd.closure (fd.qualname ++ ".<locals>.") (some f) fd.code none fd.builtins)).units+1<cLine:=by
  have:=hr.un;show X.A.units+3+1<cLine;omega
 have hc:(newEnv fd.scope s.heap.objs.size fd.globals fd.closure (fd.qualname ++ ".<locals>.") (some f) fd.code none fd.builtins).cells.lookup x=some c:=by
  show fd.closure.lookup x=some c;rw[e8];simp
 rcases h9 with⟨_,h9⟩|⟨xs,h9,rfl⟩
 ·have g:DGet H p (kV q) (some v):=by rw[← hv];exact DGet.k h9
  refine o20 Au0.lookup (λ_ _=>rfl) (E8 (d5 e4 e6 hc ⟨oC,J _ _ o2,h5⟩ ?_ a2) Y);refine E8 (S1 e4 e5 a1 (by show List.lookup y [(y,u)]=some u;simp) ⟨rj0 (I1 _) g,?_⟩) Z;exact on0 hu (I1 _) g ry λw' s' I' O=>⟨v,H,I',O,h⟩
 ·obtain⟨j,rfl,hj⟩:=Zr0 hv
  obtain⟨t,rfl⟩:=ry;obtain⟨its,r,ht,hz⟩:=(I1 s.toks).list h9.to;obtain⟨w',ew,O⟩:=r.get hj;refine o20 W1.lookup (λ_ _=>rfl) (E8 (d5 e4 e6 hc ⟨oC,J _ _ o2,h5⟩ ?_ a2) Y);refine E8 (S1 e4 e5 a1 (by show List.lookup y [(y,Value.int (j:Int) t)]=some (Value.int (j:Int) t);simp) ⟨ht.isList.typeIs,?_⟩) Z;have hl:=r.length;have a4:=(C0.mp hj).1;have hn:=vz0;exact wpAny_getItem_list ht.isList (by omega) (by omega) (by rw[Int.toNat_natCast];simpa using ew) ⟨v,H,I1 _,O,h⟩
theorem FnAtH.at(I:Inv X pins σ H s)(F:FnAtH X.K H B f kvs):W.FnAt f s.heap:=by
 obtain⟨oF,oC,oK,fd,c,cd,p,x,y,⟨_,h1⟩,⟨h2,h3,_⟩,_⟩:=F;have o1:=(I.hok f _ h1).1;obtain⟨a,b,d,e⟩:=oF;obtain rfl:d=.func fd:=h3;exact⟨a,b,fd,e,o1⟩
end
def tCL(K:W.Frag)(ta tb:TE):TE:=fun σ H Q=>ta σ H λv H1=>∃f B kvs,v=.ref f/\FnAtH K H1 B f kvs/\tb σ H1 λy H2=>∃B2 kvs2 q w,FnAtH K H2 B2 f kvs2/\y=kV q/\K3 kvs2 q=some w/\Q w H2
section
variable{k:Nat}{ga:Ds->Option D}
theorem dc0(hr:Room k X.A)(ha:PE X (.Name x p) ta)(hb:PE X e tb)(he:starEach [e] X.env=(false,eval e X.env)::starEach [] X.env:=by rfl)(hpl:(backTo pos (starEach [] X.env)).any (·.1)=false:=by rfl) :
  PE X (.Call (.Name x p) [e] [] pos) (tCL X.K ta tb):=by
 intro pins s σ H Q I h;refine D8 (thn (ha pins s σ H _ I h) λfv s1 ⟨v,H1,I1,rv,f,B,kvs,ev,F,h1⟩=>?_);subst ev;cases (show fv=Value.ref f from rv);refine W.callWith_F (F.at I1) (thn (R5 hb J0 he pos pins s1 σ H1 (λvs H2=>∃y,vs=[y]/\∃B2 J q w,FnAtH X.K H2 B2 f J/\y=kV q/\K3 J q=some w/\Q w H2) I1 (by
  show tb σ H1 (λx H1=>ij0 σ H1 λxs H2=>_);have:(λy H2=>∃B2 J q w,FnAtH X.K H2 B2 f J/\y=kV q/\K3 J q=some w/\Q w H2)=λx H1=>ij0 σ H1 λxs H2=>∃y,x::xs=[y]/\∃B2 J q w,FnAtH X.K H2 B2 f J/\y=kV q/\K3 J q=some w/\Q w H2:=by
   funext x H1
   unfold ij0;simp
  rw[← this];exact h1)) λus s2 ⟨vs,H2,I2,r2,y,ey,B2,J,q,w,F2,eq,hv,hQ⟩=>⟨F2.at I2,?_⟩) he hpl
 subst ey eq;cases r2 with
 | cons ry rn =>
  cases rn;exact ac0 hr I2 F2 ry hv hQ
@[simp] def G4:D->D->Option D
 | .fn ks ds,d=>(zp0 d).bind λk=>K6 ks ds k
 | _,_=>none
theorem uh0(hr:Room k X.A)(ha:PD X (.Name x p) ga)(hb:PD X e gb)(he:starEach [e] X.env=(false,eval e X.env)::starEach [] X.env:=by rfl)(hpl:(backTo pos (starEach [] X.env)).any (·.1)=false:=by rfl) :
  PD X (.Call (.Name x p) [e] [] pos) (o2 ga gb G4):=.mk λB δ=>(dc0 hr (ha B δ) (hb B δ) he hpl).imp fun σ H Q ⟨d,en,h,k⟩=>by
 unfold o2 at h;cases e1:ga δ with
 | none=>rw[e1] at h;cases h
 | some x =>
  cases e2:gb δ with
  | none=>rw[e1,e2] at h;cases h
  | some y =>
   rw[e1,e2] at h;simp only[Option.bind_some] at h;refine⟨x,en,e1,λv1 H1 s1 r1=>?_⟩;cases x<;>simp only[G4] at h<;>try cases h
   rename_i ks ds;cases e3:zp0 y with
   | none=>rw[e3] at h;cases h
   | some q =>
    rw[e3] at h;simp only[Option.bind_some] at h;rw[mg0] at r1;obtain⟨f,xs,rfl,F,l,rr⟩:=r1;refine⟨f,B,_,rfl,F,y,en.same s1,e2,λv2 H2 s2 r2=>?_⟩;obtain⟨w,hw,J⟩:=(wd0 (ks:=ks) (q:=q) (rr.same s2)).1 d h;exact⟨B,_,q,w,F.mono (Gr.same s2),qi0 e3 r2,hw,k w H2 (s1.trans s2) J⟩
end
theorem h50{c cv:Value}:∀l:List Value,TriplesOk l->codeAmong pos (l++[rawInt pos'.line,rawInt pos'.col,c])=some cv->codeAmong pos l=some cv∨cv=c:=by
 intro l h
 fun_induction TriplesOk l with
 | case1 =>
  intro e;simp only[List.nil_append,codeAmong,rawInt] at e;split at e
  ·exact .inr (B3 e).symm
  ·cases e
 | case2 a t b u x rest ih =>
  intro e;simp only[List.cons_append,codeAmong] at e ⊢;split at e
  ·rename_i hc
   rw[if_pos hc];exact .inl e
  ·rename_i hc
   rw[if_neg hc];exact ih h e
 | case3 l h1 h2=>exact h.elim
structure LamDone(X:Cx)(H:Hp)(s:Shared)(x y:Str)(c p:Addr)(f cd:Addr)(oF oC oK:Obj)(fd:FuncData)(H2:Hp)(s':Shared):Prop where
 os:s'.os=s.os
 gens:s'.gens=s.gens
 same:Same H H2
 hok:HOk X.prog X.w H2 s'.heap
 new:∀b,H b=none->H2 b≠none->b=c∨s.heap.objs.size<=b
 keep:∀b o,H b=none->s.heap.get? b=some o->s'.heap.get? b=some o
 there:∀b o,s.heap.get? b=some o->∃o',s'.heap.get? b=some o'
 hf:H2 f=some (.frz oF (.own f))
 fn:oF.cls=.type "function"/\oF.data=.func fd/\ml0 fd x y c cd
 hc:H2 c=some (.frz oC (.own c))
 cell:oC.data=.cell (some (.ref p))
 hcd:H2 cd=some (.frz oK (.own cd))
 code:∃vs t,oK.data=.fields vs/\vs[1]?=some (.str fd.qualname t)
section
variable{σ:St}{s:Shared}{Pt c f:Addr}{tp:Array Value}{oC oF:Obj}
theorem fv0(I:Inv X pins σ H s)(hT:H Pt=some (.tbl tp))(kp:Heap.ExtBut Pt s.heap h')(h1:Same H H1)(hc:H1 c=none)(hf:H1 f=none)(ne:f≠c)(eC:h'.get? c=some oC)(eF:h'.get? f=some oF)
  (new:∀b u,H b=none->H1 b=some u->∃o,u=.frz o (.own b)/\h'.get? b=some o) (tab:TabOk H1 h' Pt (qOf tp)) :
  Same H (upd (upd H1 c (.frz oC (.own c))) f (.frz oF (.own f)))/\HOk X.prog X.w (upd (upd H1 c (.frz oC (.own c))) f (.frz oF (.own f))) h':=by
 have up:Same H1 (upd (upd H1 c (.frz oC (.own c))) f (.frz oF (.own f))):=λb u q=>by
  rw[o6 (T9 q hf),o6 (T9 q hc)];exact q
 refine⟨h1.trans up,λb u q=>?_⟩
 by_cases bf:b=f
 ·subst bf
  rw[m8] at q;cases q;exact⟨eF,_,eF⟩
 rw[o6 bf] at q
 by_cases bc:b=c
 ·subst bc
  rw[m8] at q;cases q;exact⟨eC,_,eC⟩
 rw[o6 bc] at q;cases e:H b with
 | none =>
  obtain⟨o,rfl,eo⟩:=new b u e q;exact⟨eo,_,eo⟩
 | some w =>
  have q2:=h1 b w e;rw[q] at q2;cases q2
  by_cases bT:b=Pt
  ·subst bT
   rw[hT] at e;cases e;obtain⟨cont,t1,t2,t3⟩:=tab;exact⟨cont,t1,t2,λpos cv z=>let ⟨c',oc,vs,tq,z1,z2,z3⟩:=t3 pos cv z;⟨c',oc,vs,tq,z1,up _ _ z2,z3⟩⟩
  ·exact(I.hok b u e).stay (λb' w J r=>kp b' w (by
    rcases J with rfl|J
    ·exact bT
    ·rintro rfl
     rw[hT] at J;cases J) r) (λb' z=>up _ _ (h1 _ _ z)) (λb' xs z=>up _ _ (h1 _ _ z)) λb' ob u' z=>up _ _ (h1 _ _ z)
end
section
variable{σ:St}{s:Shared}{lp:Arguments}{lpos:Pos}{Pt c p:Addr}{tp:Array Value}
theorem X80(I:Inv X pins σ H s)(hN:X.N[i]?=some x)(hs:σ[i]?=some (some (.ref p)))(hk:X.env.kindOf x=some .cell)(hkl:X.env.scope.names.lookup x=some .cell)(hc:X.env.cells.lookup x=some c)(hcl:closureFor lsc X.env=pure [(x,c)])
  (hdef:defaultsOf lp X.env=([],[])) (hcode:X.env.code=.ref c0) (C:W.CodeHd X.base c0 Pt) (hB:X.base.BuiltinsAt X.mg Pt) (hT:H Pt=some (.tbl tp)) (hq:qOf tp=X.env.qual ++ "<lambda>")
  (hfd:∀pm ctv cd,ml0 (W.kla_fn "<lambda>" (X.env.qual ++ "<lambda>") lp (.Subscript (.Name x p1) (.Name y p2) p3) lsc [(x,c)] pm (.ref cd) ctv) x y c cd) :
  wpAny (model X.prog X.w) X.A (eval (.Lambda lp (.Subscript (.Name x p1) (.Name y p2) p3) lsc lpos) X.env) (λu s'=>∃f cd oF oC oK fd H2,u=.ref f/\LamDone X H s x y c p f cd oF oC oK fd H2 s') E s:=by
 refine W.kla_eval hdef ?_;obtain⟨m,hn,hl⟩:=id I.loc;obtain⟨u,r,l⟩:=hl i x _ hN hs (.inr (.inl hkl));cases (show u=Value.ref p from r);have a8:s.heap.IsCell c (some (.ref p)):=by
  rcases l with⟨z,_⟩|⟨_,c',z1,z2⟩
  ·rw[hk] at z;cases z
  ·rw[hc] at z1
   cases z1;exact z2
 obtain⟨oC,a6,b1⟩:=a8;obtain⟨cont,e,t,cs⟩:=(show TabOk H s.heap Pt (qOf tp) from I.hok Pt _ hT);have hg:=I.mod.glob.keeps I.bk;have Y:=I.freeC x c hc;have b3:c≠Pt:=λz=>by rw[z,hT] at Y;cases Y
 have b6:mainGlobals≠Pt:=λz=>by
  obtain⟨o,es,ep,eo,_⟩:=I.mod.glob;have:=(I.bs _ _ eo).2;rw[z,hT] at this;cases this
 have a7:c<s.heap.objs.size:=A3 a6;cases hca:codeAmong lpos cont.toList with
 | none =>
  refine W.kla_makeFunction hcl I.ok.glob hg hcode (C.keeps I.bk) e t hca b6 (hB.keeps I.bk) λc' ctv h' tk hx a2 a4 b2 a3=>?_
  obtain⟨c2,oK,vs,tq,b5,c3,dK,vK⟩:=b2;cases b5;have a5:H c'=none:=I.hok.fresh a2;have J:∀b o,h'.get? b=some o->(h'.push (W.kla_obj "<lambda>" (X.env.qual ++ "<lambda>") lp (.Subscript (.Name x p1) (.Name y p2) p3) lsc [(x,c)] ((X.mg "__name__").getD .none) c' ctv)).get? b=some o:=λb o z=>A6 _ z
  have O:s.heap.objs.size<=h'.objs.size:=C5 a2 (E1 a4);have a1:H h'.objs.size=none:=I.hok.fresh O;have b0:c≠c':=A5 (A8 a7 a2);have Z:h'.objs.size≠c:=B6 (A8 a7 O);have kp:Heap.ExtBut Pt s.heap (h'.push (W.kla_obj "<lambda>" (X.env.qual ++ "<lambda>") lp (.Subscript (.Name x p1) (.Name y p2) p3) lsc [(x,c)] ((X.mg "__name__").getD .none) c' ctv)):=λb o nb z=>J _ _ (hx b o nb z)
  obtain⟨sm,ok⟩:=fv0 (H1:=upd H c' (.frz oK (.own c'))) (f:=h'.objs.size) I hT kp (Z1 a5) (by rw[o6 b0];exact Y) (by rw[o6 (B6 a4)];exact a1) Z (J _ _ (hx c oC b3 a6)) (B7 _ rfl) (λb u z1 z2=>by
   by_cases bc:b=c'
   ·subst bc
    rw[m8] at z2;cases z2;exact⟨oK,rfl,J _ _ c3⟩
   ·rw[o6 bc,z1] at z2
    cases z2) ⟨_,J _ _ a3,by rw[Array.toList_append];exact TriplesOk_snoc _ _ _ _ t,λpos cv z=>by
    rw[Array.toList_append] at z;rcases h50 _ t z with z|rfl
    ·obtain⟨c1,oc,ws,c7,z1,z2,z3⟩:=cs pos cv z
     exact⟨c1,oc,ws,c7,z1,Z1 a5 _ _ z2,z3⟩
    ·exact⟨c',oK,vs,tq,rfl,m8,dK,by rw[hq];exact vK⟩⟩
  refine⟨h'.objs.size,c',_,oC,oK,_,_,rfl,⟨rfl,rfl,sm,ok,λb z1 z2=>?_,λb o z1 z2=>kp b o (λz=>by rw[z,hT] at z1;cases z1) z2,λb o z=>?_,m8,⟨rfl,rfl,hfd _ _ _⟩,?_,b1,?_,vs,tq,dK,vK⟩⟩
  ·by_cases bf:b=h'.objs.size
   ·exact .inr (by rw[bf];exact O)
   ·rw[o6 bf] at z2
    by_cases bc:b=c
    ·exact .inl bc
    ·rw[o6 bc] at z2
     by_cases bc':b=c'
     ·exact .inr (by rw[bc'];exact a2)
     ·rw[o6 bc'] at z2
      exact absurd z1 z2
  ·by_cases bT:b=Pt
   ·subst bT
    exact⟨_,J _ _ a3⟩
   ·exact⟨o,kp b o bT z⟩
  ·rw[o6 (A4 Z),m8]
  ·rw[o6 (A5 a4),o6 (A4 b0),m8]
 | some cv =>
  obtain⟨cd,oK,vs,tq,rfl,hcd,dK,vK⟩:=cs _ _ hca;refine W.kla_makeFunctionHit hcl I.ok.glob hg hcode (C.keeps I.bk) e t hca (hB.keeps I.bk) λctv h' tk b7 O=>?_
  have a1:H h'.objs.size=none:=I.hok.fresh O;have J:∀b o,h'.get? b=some o->(h'.push { cls:=.type "function",data:=.func (W.kla_fn "<lambda>" (X.env.qual ++ "<lambda>") lp (.Subscript (.Name x p1) (.Name y p2) p3) lsc [(x,c)] ((X.mg "__name__").getD .none) (.ref cd) ctv) }).get? b=some o:=λb o z=>A6 _ z
  have kp:∀b o,s.heap.get? b=some o->_:=λb o z=>J _ _ (b7 b o z)
  have Z:h'.objs.size≠c:=B6 (A8 a7 O);have b4:cd≠c:=λz=>by rw[z,Y] at hcd;cases hcd
  have c4:cd≠h'.objs.size:=λz=>by rw[z,a1] at hcd;cases hcd
  obtain⟨sm,ok⟩:=fv0 (H1:=H) (f:=h'.objs.size) I hT (λb o _ z=>kp b o z) (Same.refl H) Y a1 Z (kp c oC a6) (B7 _ rfl) (λb u z1 z2=>by rw[z1] at z2;cases z2) ⟨cont,kp _ _ e,t,cs⟩;refine⟨h'.objs.size,cd,_,oC,oK,_,_,rfl,⟨rfl,rfl,sm,ok,λb z1 z2=>?_,λb o _ z2=>kp b o z2,λb o z=>⟨o,kp b o z⟩,m8,⟨rfl,rfl,hfd _ _ _⟩,?_,b1,?_,vs,tq,dK,by rw[hq] at vK;exact vK⟩⟩
  ·by_cases bf:b=h'.objs.size
   ·exact .inr (by rw[bf];exact O)
   ·rw[o6 bf] at z2
    by_cases bc:b=c
    ·exact .inl bc
    ·rw[o6 bc] at z2
     exact absurd z1 z2
  ·rw[o6 (A4 Z),m8]
  ·rw[o6 c4,o6 b4]
   exact hcd
end
theorem ni0(env:PySem.Env)(b:List Stmt):∀a:List Stmt,execs (a++b) env=(execs a env>>=λf=>match f with|.next=>execs b env|f=>pure f)
 | []=>by rw[List.nil_append,execs];simp
 | st::a=>by
  rw[List.cons_append,execs_cons,execs_cons,bind_assoc];congr 1
  funext f
  cases f<;>simp[ni0 env b a]
def TQ(H:Hp)(Pt:Addr)(q:Str):Prop:=∃t ps,H Pt=some (.tbl (#[.str q t]++ps))
theorem Zv0(q:Str)(t:Tok)(ps:Array Value):qOf (#[.str q t]++ps)=q:=by
 have:((#[Value.str q t]++ps)[0]?:Option Value)=some (.str q t):=by
  rw[Array.getElem?_append_left (by simp)];rfl
 unfold qOf;rw[this]
theorem TQ.same{Pt:Addr}(s:Same H H')(h:TQ H Pt q):TQ H' Pt q:=let ⟨t,ps,e⟩:=h;⟨t,ps,s _ _ e⟩
def spT(Pt:Addr)(q:Str)(sp:Sp):Sp:=λvs H Q E=>TQ H Pt q/\sp vs H Q E
structure FunL(K:W.Frag)(x qual:Str)(st:Stmt)(f:Addr)(fd:FuncData)(c0:Addr):Prop where
 ex:∃(oc:Value) (od:Option Addr) (kV doc pm:Value) (an:Option Addr) (ct:Value) (osl:Array (Option Value)),
  fd=W.fnOf x qual (V2 st) (Z4 st) (u6 st) .none kV doc pm an (.ref c0) ct/\K.lookup f=some ⟨oc,od,.func fd,osl⟩/\W.codeIn K (.ref c0) qual=true
section
variable{P:Program}{w:World}
theorem Env.sh_at{σ:St}(e:Env K H B σ δ){d:D}(h:δ[i]?=some (.sh d)):∃o,σ[i]?=some o/\∃v,o=some v/\Rp K H B d v:=by
 obtain⟨o,ho,r⟩:=Pd.get e.all h;exact⟨o,ho,r⟩
theorem okL{x qual:Str}{st:Stmt}{init:List Stmt}{rpos lpos p1 p2 p3:Pos}{lp:Arguments}{lsc:Scope}{vn yn:Str}{fa c0 Pt:Addr}{fd:FuncData}{N ps:List Str}{k i:Nat}{f:List D->Option D}{G:Ds->Option Res}
  (F:FunL K x qual st fa fd c0) (S:FnScope N ps (u6 st)) (C:W.CodeHd base c0 Pt) (hB:base.BuiltinsAt mg Pt)
  (hst:Z4 st=init++[.Return (some (.Lambda lp (.Subscript (.Name vn p1) (.Name yn p2) p3) lsc lpos)) rpos]) (hv:(u6 st).names.lookup vn=some .cell) (hN:N[i]?=some vn)
  (hcl:∀(env:PySem.Env) (c:Addr),env.cells.lookup vn=some c->closureFor lsc env=pure [(vn,c)]) (hdef:∀env:PySem.Env,defaultsOf lp env=([],[]))
  (hfd:∀(qn:Str) (c:Addr) (pm ctv:Value) (cd:Addr),ml0 (W.kla_fn "<lambda>" qn lp (.Subscript (.Name vn p1) (.Name yn p2) p3) lsc [(vn,c)] pm (.ref cd) ctv) vn yn c cd)
  (body:∀(cdv:Value) (A:Around) (outer:List PySem.Env) (s:Shared) (H:Hp) (E:XK),Room k (A.deeper (envOfC qual (u6 st) s.heap.objs.size fa cdv))->PSsD (zv0 CX0 P w K mg base N qual (u6 st) fa cdv A outer s H E).nox init G)
  (hf:∀ds d,f ds=some d->ds.length=ps.length/\∃δ,G (j8 N ds)=some (.nx δ)/\((∃ks es,δ[i]?=some (.ow (.dct (.inl ks) es))/\d=.fn ks es)∨∃es,δ[i]?=some (.sh (.lst es))/\d=.fn (rk es.length) es)) :
  FnOk P w K mg base CX0 (k+1) fa fd ps (spT Pt (qual ++ ".<locals>." ++ "<lambda>") (spD K f)):=by
 obtain⟨oc,od,kV,doc,pm,an,ct,osl,rfl,lk,hcd⟩:=F.ex;have len:∀vs H Q E,spT Pt (qual ++ ".<locals>." ++ "<lambda>") (spD K f) vs H Q E->vs.length=ps.length:=λvs H Q E ⟨_,B,ds,d,_,r,h,_⟩=>by rw[r.length];exact(hf ds d h).1
 refine⟨len,λA outer s H b5 us vs Q E hr e0 hb r a2=>?_⟩;have hl:=len _ _ _ _ a2;obtain⟨a4,B,ds,d,O,rr,b3,q⟩:=a2;have KX:K.In s.heap:=e0.mod.kin.keeps λb o e=>(e0.bs b o e).1
 have a6:s.heap.NoLimit:=e0.mod.nolimit.keeps λb o e=>(e0.bs b o e).1
 have a1:∀y∈ps.zip us,(u6 st).names.lookup y.1=some .local∨((u6 st).names.lookup y.1=some .cell/\((cellsFrom (s.heap.objs.size+1) (u6 st).names []).lookup y.1).isSome=true):=λ⟨n,v⟩ hy=>by
  rcases S.par n (N3 hy).1 with q|q
  ·exact .inl q
  ·exact .inr ⟨q,i5 _ _ _ (.inl q)⟩
 refine codeAny_call_function hr.depth (KX _ _ lk) rfl S.co S.gen rfl (W.codeRec_of KX hcd) (hb _ _ _ _ ?_);refine A70 S.kind a1 λenv he s1 xx=>?_
 subst he;refine⟨a6.keeps xx.toInCall.keep,codeAny_func ?_⟩;have I:Inv (zv0 CX0 P w K mg base N qual (u6 st) fa (.ref c0) A outer s H E) [] (start N vs) H s1:=oo0 S hr.hd e0 hl r xx;obtain⟨b4,δ,hG,hδ⟩:=hf ds d b3;have en:EnvS K H B H (L2.start N vs) (j8 N ds):=by
  refine⟨Same.refl H,⟨B,λ_ z=>z,λ_ z=>.inl z,⟨?_,O,λi j a a8 es h1 _ _ _=>(U7 h1).elim⟩⟩,λi a8 a h1 _=>(U7 h1).elim,O⟩;unfold L2.start j8;rw[rr.length];exact Pd.app (J4 (N:=N) rr) (yj0 _)
 obtain⟨c,hc⟩:=rp0 (n:=s.heap.objs.size+1) hv;have run:=((body (.ref c0) A outer s H E (hr.deeper _)).go H B (j8 N ds)).nox [] s1 (start N vs) H { nx:=fun σ' H'=>EnvS K H B H' σ' δ,rt:=λ_ _=>False } I ⟨_,en,hG,fun σ' H' z=>z⟩;rw[hst,ni0];refine A0 (C9 run (λfl s' hs=>?_) λe s' hs=>hs);cases fl with
 | ret u=>obtain⟨_,_,_,_,_,z⟩:=hs;exact False.elim z
 | brk=>obtain⟨_,_,_,z⟩:=hs;exact False.elim z
 | cont=>obtain⟨_,_,_,z⟩:=hs;exact False.elim z
 | next =>
  obtain⟨σ',H',J,Y⟩:=hs;obtain⟨B',b1,b2,env⟩:=Y.ex;obtain⟨p,ks,es,xs,rfl,hσ,e3,e2,e1⟩:∃(p:Addr) (ks:List Key) (es:List D) (xs:List V),d=.fn ks es/\σ'[i]?=some (some (.ref p))/\Rps K H' B' es xs/\ks.length=xs.length/\TelO K H' B p (ks.zip xs):=by
   rcases hδ with⟨ks,es,hδ,rfl⟩|⟨es,hδ,rfl⟩
   ·obtain⟨p,hσ,b6,rL⟩:=env.at hδ
    obtain⟨xs,e1,e2,e3⟩:=(show RpO K H' B' (.dct (.inl ks) es) p from rL);exact⟨p,ks,es,xs,rfl,hσ,e3,e2,.inl ⟨λz=>O p z (Y.fr i _ p hδ hσ),e1⟩⟩
   ·obtain⟨o,ho,v,a5,rL⟩:=env.sh_at hδ
    rw[Z5] at rL;obtain⟨p,xs,rfl,hq,Z⟩:=rL;refine⟨p,rk es.length,es,xs,rfl,by rw[ho,a5],Z,?_,.inr ⟨xs,hq.mono (Gr.less b1),by rw[Z.length]⟩⟩;unfold rk;rw[List.length_map,List.length_range,Z.length]
  obtain⟨t,tp,hT⟩:=a4.same Y.same;refine wpAny_execs_cons (wpAny_Return_some (thn (X80 (i:=i) (c:=c) (c0:=c0) (Pt:=Pt) J hN hσ hv hv hc (hcl _ _ hc) (hdef _) rfl C hB hT (Zv0 _ _ _) λpm ctv cd=>hfd _ _ _ _ _) λu s2 ⟨f',cd,oF,oC,oK,a7,H2,eu,L⟩=>?_));subst eu;have sm:Same H H2:=Y.same.trans L.same;have b0:∀b o,s.heap.get? b=some o->b≠c:=λb o e z=>by
   have h1:s.heap.objs.size<=c:=E1 (xx.above vn c (D9 hc));have h2:=A3 e;rw[z] at h2;exact absurd h2 (Nat.not_lt.mpr h1)
  have nB:∀{z:Addr} {o:Obj},H2 z=some (.frz o (.own z))->¬B z:=λe z=>((O _ z).same sm).nf _ _ e
  have un:Un (frs outer) [] H H2 s.heap s2.heap:=by
   have jb:Un (frs outer) [] H H' s.heap s'.heap:=J.base;refine⟨λb o e n hb hx=>L.keep b o (jb.free b o e n hx) (jb.keep b o e n hb hx),λb o e n hb hx=>?_,λb o e n hx=>?_,λb o e hx=>?_,λb xs e=>L.same _ _ (jb.tups b xs e),λb o u e=>L.same _ _ (jb.frzs b o u e),λb ps e=>?_⟩
   ·obtain⟨sl,z⟩:=jb.slot b o e n hb hx
    exact⟨sl,L.keep b _ (jb.free b o e n hx) z⟩
   ·cases z:H2 b with
    | none=>rfl
    | some o' =>
     have z0:=jb.free b o e n hx;rcases L.new b z0 (by rw[z];exact λz=>nomatch z) with y|y
     ·exact absurd y (b0 b o e)
     ·have h1:s.heap.objs.size<=s'.heap.objs.size:=J.sz
      exact absurd (A8 (A3 e) (C5 h1 y)) (D0 _)
   ·obtain⟨o',z⟩:=jb.there b o e hx
    exact L.there b o' z
   ·obtain⟨a3,z⟩:=jb.tbls b ps e
    exact⟨a3,L.same _ _ z⟩
  refine⟨.ref f',H2,L.os.trans J.os,by rw[L.gens];exact J.bare,un,L.hok,rfl,q _ _ sm ?_⟩;rw[mg0];exact⟨f',xs,rfl,⟨oF,oC,oK,a7,c,cd,p,vn,yn,⟨nB L.hf,L.hf⟩,L.fn,⟨nB L.hc,L.hc⟩,L.cell,⟨nB L.hcd,L.hcd⟩,L.code,e1.mono (Gr.same L.same)⟩,e2,(e3.mono (Gr.less b1)).same L.same⟩
end
end DL
namespace L2
open Spec PyProof.Rows DL
theorem gs0{P:Program}{w:World}{K:W.Frag}{mg mb:Str->Option Value}{CX:CXT}{k:Nat}{fa a Pt c0:Addr}{fd:FuncData}{x q:Str}{sp:Sp}{s₁:Shared}{vs:List Value}{ns:List Int}
  (KX:K.In s₁.heap) (hns:s₁.heap.Ns mainGlobals mg) (hb:s₁.heap.Ns builtinsNs mb) (hbb:∀x:Str,x ≠"__name__"->mb x=bootBuiltins x) (hlim:s₁.heap.NoLimit) (hg:s₁.gens=#[])
  (ha:s₁.heap.get? a=some { cls:=.type "list",data:=.seq vs.toArray }) (hi:IntsAre vs ns) (hl:ns.length<=sizeLine) (hr:Room k callerA)
  (hP:s₁.heap.get? Pt=some { cls:=.none,data:=.fields #[] }) (hKP:K.lookup Pt=none) (C:W.CodeHd s₁.heap c0 Pt) (hB:s₁.heap.BuiltinsAt mg Pt)
  (F:∀base:Heap,K.In base->base.Ns mainGlobals mg->W.CodeHd base c0 Pt->base.BuiltinsAt mg Pt->FnOk P w K mg base CX k fa fd [x] (spT Pt q sp)) (hbind:∀(s:Shared) (u:Value),BindsTo s fd ⟨[u],[]⟩ [(x,u)])
  (hsp:∀H:Hp,SqL K H a (ns.map V.int)->sp [.ref a] H (λv _=>v=.bl true) λ_ _ _=>False)
  (hCX:∀H e s',CX [] H s₁ (λ_ _ _=>False) e s'->False) :
  codeAny (model P w) callerA (.call (.ref fa) ⟨[.ref a],[]⟩) (λr s'=>r=.ok (.ret (.bool true))/\OldK s₁.heap s'.heap/\s'.os=s₁.os/\AllBare s'.gens) s₁:=by
 have rv:=oz0 hi;have a5:=hi.length;have a7:a≠Pt:=λz=>by rw[z,hP] at ha;cases ha
 have Y:∀H0:Hp,(∀b,H0 b=none∨(b=a/\K.lookup a=none/\∃o xs,H0 b=some (.frz o (.lst xs))/\s₁.heap.get? a=some o/\ObjOk P w H0 s₁.heap a (.lst xs)))->SqL K (upd H0 Pt (.tbl #[.str q 0])) a (ns.map V.int) ->
   codeAny (model P w) callerA (.call (.ref fa) ⟨[.ref a],[]⟩) (λr s'=>r=.ok (.ret (.bool true))/\OldK s₁.heap s'.heap/\s'.os=s₁.os/\AllBare s'.gens) s₁:=by
  intro H0 hO hS;obtain⟨H,eH⟩:∃H,H=upd H0 Pt (.tbl #[.str q 0]):=⟨_,rfl⟩;rw[← eH] at hS;have hT:H Pt=some (.tbl #[.str q 0]):=by rw[eH,m8]
  have none_of:∀{b:Addr} {o:Obj},s₁.heap.get? b=some o->o.cls≠.none->o.cls≠.type "list"->H b=none:=λ{b o} e n1 n2=>by
   have h1:b≠Pt:=λz=>by rw[z,hP] at e;cases e;exact n1 rfl
   rw[eH,o6 h1];rcases hO b with z|⟨rfl,_⟩
   ·exact z
   ·rw[ha] at e;cases e;exact absurd rfl n2
  have Z:∀{b:Addr} {o:Obj},K.lookup b=some o->H b=none:=λ{b o} e=>by
   have h1:b≠Pt:=λz=>by rw[z,hKP] at e;cases e
   rw[eH,o6 h1];rcases hO b with z|⟨rfl,z,_⟩
   ·exact z
   ·rw[z] at e;cases e
  have a1:∀{b:Addr} {o:Obj} {es:Array DictEntry} {ep:Nat},s₁.heap.get? b=some o->o.data=.dict es ep->H b=none:=λ{b o es ep} e d=>by
   have h1:b≠Pt:=λz=>by rw[z,hP] at e;cases e;cases d
   rw[eH,o6 h1];rcases hO b with z|⟨rfl,_⟩
   ·exact z
   ·rw[ha] at e;cases e
    have d':Data.seq vs.toArray _=Data.dict es ep:=d;cases d'
  have O:∀{b:Addr} {m:Str->Option Value},s₁.heap.Ns b m->(vj0 s₁.heap H).Ns b m:=λ{b m} ⟨o,es,ep,e,d,r⟩=>⟨o,es,ep,ua0 e (a1 e d),d,r⟩
  have a4:K.In (vj0 s₁.heap H):=λb o e=>ua0 (KX b o e) (Z e)
  have hM:Mod K mg (vj0 s₁.heap H):=⟨a4,O hns,⟨mb,O hb,hbb⟩,let ⟨mc,h1,h2⟩:=hlim;⟨mc,O h1,h2⟩⟩;have hok:HOk P w H s₁.heap:=λb u e=>by
   by_cases hbP:b=Pt
   ·subst hbP
    rw[hT] at e;cases e;exact⟨#[],hP,trivial,λpos cv z=>by cases z⟩
   ·rw[eH,o6 hbP] at e
    rcases hO b with z|⟨rfl,_,o,xs,z,z2,z3⟩
    ·rw[z] at e;cases e
    ·rw[z] at e
     cases e;exact⟨z2,z3⟩
  have Cb:W.CodeHd (vj0 s₁.heap H) c0 Pt:=by
   obtain⟨o,ws,a6,tf,a3,tg,a8,text,tt,e1,e2,r⟩:=C;exact⟨o,ws,a6,tf,a3,tg,a8,text,tt,ua0 e1 (none_of e1 (by rw[e2];exact λz=>nomatch z) (by rw[e2];intro z;injection z with z;exact absurd z (by decide))),e2,r⟩
  have Bb:(vj0 s₁.heap H).BuiltinsAt mg Pt:=by
   obtain⟨bm,o,b1,b2,b3,b4,b5,b6,b7⟩:=hB;exact⟨bm,o,b1,b2,b3,b4,ua0 b5 (none_of b5 (by rw[b6];exact λz=>nomatch z) (by rw[b6];intro z;injection z with z;exact absurd z (by decide))),b6,b7⟩
  have e0:Env0 P w K mg (vj0 s₁.heap H) callerA [] s₁ H:=⟨rfl,hM,λb o e=>ak0 e,p9 (ep0 _ _),trivial,λb hb=>absurd (show b∈([]:List Addr) from hb) (by simp),hok,.of_eq hg⟩;refine N2 ((F _ a4 (O hns) Cb Bb).run callerA [] s₁ H ⟨[.ref a],[]⟩ [.ref a] [.ref a] _ _ hr e0 (hbind s₁ (.ref a)) (.cons rfl .nil) ⟨⟨0,#[],by rw[hT];rfl⟩,hsp H hS⟩) λr s' h=>?_
  cases r with
  | error e=>exact(hCX H e s' h).elim
  | ok fl =>
   cases fl with
   | next=>exact False.elim h
   | brk=>exact False.elim h
   | cont=>exact False.elim h
   | ret u =>
    obtain⟨v,H',os,bare,un,a2,r',qv⟩:=h;have q':v=.bl true:=qv;subst q';obtain rfl:u=Value.bool true:=r';have J:∃cont,s'.heap.get? Pt=some { cls:=.none,data:=.fields cont }:=by
     obtain⟨b0,e⟩:=un.tbls Pt _ hT;obtain⟨cont,e1,_⟩:=(show TabOk H' s'.heap Pt _ from a2 Pt _ e);exact⟨cont,e1⟩
    have kept:∀b o,b≠Pt->s₁.heap.get? b=some o->s'.heap.get? b=some o:=λb o nb e=>by
     cases z:H b with
     | none=>exact un.keep b o e z (by intro y;exact absurd (show b∈([]:List Addr) from y) (by simp)) (by simp)
     | some u =>
      have z':=z;rw[eH,o6 nb] at z';rcases hO b with y|⟨rfl,_,ob,xs,y,y2,_⟩
      ·rw[y] at z';cases z'
      ·rw[y] at z'
       cases z';obtain⟨e2,_⟩:=a2 _ _ (un.frzs _ _ _ z);rw[e] at y2;cases y2;exact e2
    refine⟨rfl,⟨λb o e=>?_,λb o e=>?_⟩,os,bare⟩
    ·by_cases nb:b=Pt
     ·subst nb
      rw[hP] at e;cases e;obtain⟨cont,e1⟩:=J;exact .inr (.inl ⟨(C.tab hP).isCodeTable,rfl,#[],cont,rfl,by rw[Array.empty_append];exact e1⟩)
     ·exact .inl (kept b o nb e)
    ·by_cases nb:b=Pt
     ·subst nb
      obtain⟨cont,e1⟩:=J;exact⟨_,e1⟩
     ·exact⟨o,kept b o nb e⟩
 cases hk:K.lookup a with
 | some o =>
  have e:=KX a o hk;rw[ha] at e;cases e;exact Y (λ_=>none) (λ_=>.inl rfl) (.inr ⟨_,vs.toArray,_,hk,rfl,rfl,rfl,by rw[List.size_toArray,a5];exact hl,by simpa using rv⟩)
 | none =>
  refine Y (λb=>if b=a then some (.frz { cls:=.type "list",data:=.seq vs.toArray } (.lst (ns.map V.int))) else none) (λb=>?_) (.inl (.inr ⟨{ cls:=.type "list",data:=.seq vs.toArray },by rw[o6 a7];exact if_pos rfl⟩))
  by_cases hb:b=a
  ·exact .inr ⟨hb,hk,_,_,if_pos hb,ha,by rw[List.length_map];exact hl,vs,_,rv,ha⟩
  ·exact .inl (if_neg hb)
end L2
namespace L2
open Spec PyProof.Rows
structure FunV(K:W.Frag)(x qual:Str)(st:Stmt)(f:Addr)(fd:FuncData)(dV:Value):Prop where
 ex:∃(oc:Value) (od:Option Addr) (kV doc pm:Value) (an:Option Addr) (cdv ct:Value) (osl:Array (Option Value)),
  fd=W.fnOf x qual (V2 st) (Z4 st) (u6 st) dV kV doc pm an cdv ct/\K.lookup f=some ⟨oc,od,.func fd,osl⟩/\W.codeIn K cdv qual=true
 kp:W.keepIn K (.ref f)=true
section
variable{P:Program}{w:World}
theorem FunV.ok{f:Addr}{ps:List Str}{k:Nat}(F:FunV K x qual st f fd dV)(S:FnScope N ps (u6 st))(len:∀vs H Q E,sp vs H Q E->vs.length=ps.length)
  (hbody:∀(cdv:Value) (A:Around) (outer:List Env) (s:Shared) (H:Hp) (vs:List V) (Q:VK) (E:XK),Room k (A.deeper (envOfC qual (u6 st) s.heap.objs.size f cdv))->sp vs H Q E ->
   ∃t,PSs (zv0 CX0 P w K mg base N qual (u6 st) f cdv A outer s H E).nox (Z4 st) t/\t { nx:=λ_ H'=>Q .non H',rt:=Q } (start N vs) H):FnOk P w K mg base CX0 (k+1) f fd ps sp:=by
 obtain⟨oc,od,kV,doc,pm,an,cdv,ct,osl,rfl,lk,hcd⟩:=F.ex;refine hf0 lk hcd S len λA outer s H vs Q E hr J=>?_
 obtain⟨t,h,q⟩:=hbody cdv A outer s H vs Q E hr J;exact⟨t,h.nox,q⟩
theorem i00{f:Addr}{kV:Value}(l:K.lookup f=some ⟨oc,od,.func (W.fnOf x qual (V2 st) (Z4 st) (u6 st) dV kV doc pm an cdv ct),osl⟩)
  (c:W.codeIn K cdv qual=true) (k:W.keepIn K (.ref f)=true):FunV K x qual st f (W.fnOf x qual (V2 st) (Z4 st) (u6 st) dV kV doc pm an cdv ct) dV:=⟨⟨oc,od,kV,doc,pm,an,cdv,ct,osl,rfl,l,c⟩,k⟩
end
end L2
namespace DL
open Spec PyProof.Rows L2
section
variable{P:Program}{w:World}
theorem T40{ps:List Str}{k:Nat}{f:List D->Option D}{G:Ds->Option Res}(F:FunV K x qual st fa fd dV)(S:FnScope N ps (u6 st))
  (body:∀(cdv:Value) (A:Around) (outer:List PySem.Env) (s:Shared) (H:Hp) (E:XK),Room k (A.deeper (envOfC qual (u6 st) s.heap.objs.size fa cdv))->PSsD (zv0 CX0 P w K mg base N qual (u6 st) fa cdv A outer s H E).nox (Z4 st) G)
  (hf:∀ds d,f ds=some d->ds.length=ps.length/\(G (j8 N ds)=some (.rt d)∨(d=.non/\∃δ,G (j8 N ds)=some (.nx δ))∨G (j8 N ds)=some (.rf d)/\isL d=false)) :
  FnOk P w K mg base CX0 (k+1) fa fd ps (spD K f):=by
 refine F.ok S (λvs H Q E ⟨B,ds,d,_,r,h,_⟩=>?_) (λcdv A outer s H vs Q E hr ⟨B,ds,d,hb,r,h,q⟩=>?_)
 ·rw[r.length];exact(hf ds d h).1
 ·refine⟨_,body cdv A outer s H E hr H B (j8 N ds),?_⟩
  have en:EnvS K H B H (L2.start N vs) (j8 N ds):=by
   refine⟨Same.refl H,⟨B,λ_ z=>z,λ_ z=>.inl z,⟨?_,hb,λi j a J es h1 _ _ _=>(U7 h1).elim⟩⟩,λi J a h1 _=>(U7 h1).elim,hb⟩;unfold L2.start j8;rw[r.length];exact Pd.app (J4 (N:=N) r) (yj0 _)
  rcases (hf ds d h).2 with e|⟨rfl,δ,e⟩|⟨e,hn⟩
  ·exact⟨_,en,e,λv H' s' r'=>q v H' s' r'⟩
  ·exact⟨_,en,e,fun σ' H' en'=>q .non H' en'.same (by rw[U4])⟩
  ·exact⟨_,en,e,λp H' hp s' r'=>q _ H' s' ((r'.toO hn).rp (λa z=>.inl z) (λz=>hb p z hp))⟩
theorem Uf0{ps:List Str}{k:Nat}{f:List D->Option D}{G:Ds->Option Res}(F:FunV K x qual st fa fd dV)(S:FnScope N ps (u6 st))
  (body:∀(cdv:Value) (A:Around) (outer:List PySem.Env) (s:Shared) (H:Hp) (E:XK),Room k (A.deeper (envOfC qual (u6 st) s.heap.objs.size fa cdv))->PSsD (zv0 CX0 P w K mg base N qual (u6 st) fa cdv A outer s H E).nox (Z4 st) G)
  (hf:∀ds d,f ds=some d->ds.length=ps.length/\G (j8 N ds)=some (.rf d)/\isL d=false) :
  FnOk P w K mg base CX0 (k+1) fa fd ps (spN K f):=by
 refine F.ok S (λvs H Q E ⟨B,ds,d,_,r,h,_⟩=>?_) (λcdv A outer s H vs Q E hr ⟨B,ds,d,hb,r,h,q⟩=>?_)
 ·rw[r.length];exact(hf ds d h).1
 ·refine⟨_,body cdv A outer s H E hr H B (j8 N ds),?_⟩
  have en:EnvS K H B H (L2.start N vs) (j8 N ds):=by
   refine⟨Same.refl H,⟨B,λ_ z=>z,λ_ z=>.inl z,⟨?_,hb,λi j a J es h1 _ _ _=>(U7 h1).elim⟩⟩,λi J a h1 _=>(U7 h1).elim,hb⟩;unfold L2.start j8;rw[r.length];exact Pd.app (J4 (N:=N) r) (yj0 _)
  exact⟨_,en,(hf ds d h).2.1,λp H' hp s' r'=>q p H' hp s' (r'.toO (hf ds d h).2.2)⟩
end
section
variable{a:Expr}{ga:Ds->Option D}
def T30(P:Program)(w:World)(K:W.Frag)(mg:Str->Option Value)(base:Heap)(x:Str)(k:Nat)(ps:List Str)(f:List D->Option D)(dd:List D):Prop :=
 ∃(fa:Addr) (fd:FuncData) (us:List Value) (vs:List V),FnOk P w K mg base CX0 k fa fd ps (spN K f)/\mg x=some (.ref fa)/\W.keepIn K (.ref fa)=true/\Binds K fd ps us/\Vals vs us/\∀H B,Rps K H B dd vs
def Uz0(P:Program)(w:World)(K:W.Frag)(mg:Str->Option Value)(base:Heap)(x:Str)(k:Nat)(ps:List Str)(f:List D->Option D)(dd:List D):Prop :=
 ∃(fa:Addr) (fd:FuncData) (us:List Value) (vs:List V),FnOk P w K mg base CX0 k fa fd ps (spD K f)/\mg x=some (.ref fa)/\W.keepIn K (.ref fa)=true/\Binds K fd ps us/\Vals vs us/\∀H B,Rps K H B dd vs
theorem zw0{sc scope:Scope}{elt iter tg:Expr}{ifs:List Expr}{N N':List Str}{n:Nat}{caps:List Nat}{gi:Ds->Option (List D)}{idx:List Nat}{f:D->Ds->Option Ds}{gt:Ds->Option Bool}{ge:Ds->Option D}
  (ok:CompOk sc scope N N' n caps) (hidx:∀j∈idx,j<n) (hi:PID X tg iter gi)
  (hg:∀cl s H ex,PGD (Y0 X scope cl N' s H ex) tg idx f) (ht:∀cl s H ex,PFD (Y0 X scope cl N' s H ex) ifs gt) (he:∀cl s H ex,PD (Y0 X scope cl N' s H ex) elt ge)
  (hc:X.calm=true:=by rfl) (hsc:X.env.scope=sc:=by rfl) (hN:X.N=N:=by rfl) (hs:∀x,foldedSetIterable iter X.env x=pure x:=by intro _;rfl) :
  PDF X (.ListComp elt [⟨tg,iter,ifs,0⟩] scope pos) (X8 n caps gi f gt ge):=l60 hc hsc (hN▸ok) hidx hi hg ht he hs
end
end DL
namespace ZipL
open Spec PyProof.Rows
abbrev IsZ(h:Heap)(z TI TO a:Addr)(f:Bool):Prop :=
 h.get? z=some { cls:=.type "zip",dict:=none,data:=.fields #[rawInt a,.bool f,.bool false,.ref TI,.ref TO],slots:=#[] }
section
variable{w:World}{A:Around}{s:Shared}
theorem alive{o:Obj}{Q:Option Obj->Shared->Prop}(ho:s.heap.get? a=some o)(h:Q (some o) s):wpAny (model prog w) A (loadIfAlive a) Q E s:=by
 have h':Q (s.heap.get? a) s:=by rw[ho];exact h
 exact λ_ _ _=>h'
theorem mu0{TI TO:Addr}{f:Bool}{Q:Bool->Shared->Prop}(hz:IsZ s.heap z TI TO a f)(ha:s.heap.get? a=some oa)
  (hQ:∀h',IsZ h' z TI TO a true->Heap.SameBut z s.heap h'->Q false { s with heap:=h' }):wpAny (model prog w) A (Builtin.SmallTypes.ownedTupleIsFree (.ref z)) Q E s:=by
 unfold Builtin.SmallTypes.ownedTupleIsFree;refine A0 (D2 hz rfl (x:=rawInt a) rfl ?_);show wpAny _ _ (loadIfAlive ((a:Int).toNat)>>=_) _ _ _;rw[Int.toNat_natCast];refine A0 (alive ha ?_);simp only[Option.isNone_some,Bool.false_eq_true,if_false];refine A0 (D2 hz rfl (x:=.bool f) rfl ?_);cases f with
 | true =>
  rw[if_neg (show ¬((Value.bool true != Value.bool true)=true) from B8)];exact A2 (hQ _ hz (Heap.SameBut.refl _ _))
 | false =>
  rw[if_pos (show (Value.bool false != Value.bool true)=true from rfl)];exact A0 (wpAny_setField_rec hz (by simp) λh3 J O=>A2 (hQ h3 J O))
theorem ch0{TI TO i2 a:Addr}{f:Bool}{oa:Obj}{k1 k2:Nat}{xs ys:Array Value}{x y:Value}{Q:Value->Shared->Prop}(D:ZipApart z TI TO i1 i2 l1 l2)
  (hz:IsZ s.heap z TI TO a f) (ha:s.heap.get? a=some oa) (hTI:IsPair s.heap TI (.ref i1) (.ref i2))
  (h1:s.heap.IsListIter i1 l1 k1) (h2:s.heap.IsListIter i2 l2 k2) (hl1:s.heap.IsList l1 xs) (hl2:s.heap.IsList l2 ys) (hx:xs[k1]?=some x) (hy:ys[k2]?=some y)
  (hQ:∀h',IsZ h' z TI TO a true->h'.IsListIter i1 l1 (k1+1)->h'.IsListIter i2 l2 (k2+1)->IsPair h' s.heap.objs.size x y->h'.objs.size=s.heap.objs.size+1 ->
   (∀c o,c≠z->c≠i1->c≠i2->s.heap.get? c=some o->h'.get? c=some o)->Q (.ref s.heap.objs.size) { s with heap:=h' }) :
  wpAny (model prog w) A (Builtin.«zip.__next__» ⟨[.ref z],[]⟩) (λfin s'=>∃v,fin=.done (.ret v)/\Q v s') E s:=by
 show wpAny _ _ (field (.ref z) 2>>=_) _ _ _;refine A0 (D2 hz rfl (x:=.bool false) rfl ?_);show wpAny _ _ (field (.ref z) 3>>=_) _ _ _;refine A0 (D2 hz rfl (x:=.ref TI) rfl ?_);refine A0 (u2 hTI rfl ?_);show wpAny _ _ (Builtin.SmallTypes.ownedTupleIsFree (.ref z)>>=_) _ _ _;refine A0 (mu0 hz ha λh₁ a2 J=>?_);simp only[Bool.false_eq_true,if_false];refine A0 ?_;simp only[List.forIn_toArray,List.forIn_cons,List.forIn_nil];refine A0 (A0 (D7 ?_));show wpAny _ _ (Builtin.SmallTypes.nextOf (.ref i1)>>=_) _ _ _;refine A0 (u4 (h1.extBut J.extBut D.i1z) (hl1.extBut J.extBut D.l1z) hx λh₂ a3 O=>A2 ?_);refine A2 ?_;refine A0 (A0 (D7 ?_));show wpAny _ _ (Builtin.SmallTypes.nextOf (.ref i2)>>=_) _ _ _;refine A0 (u4 ((h2.extBut J.extBut D.i2z).extBut O.extBut D.i12.symm) ((hl2.extBut J.extBut D.l2z).extBut O.extBut D.l2i1) hy λh₄ a1 Z=>A2 ?_);refine A2 (A2 ?_);refine A0 (wpAny_newTuple (hsz:=by show 2<=sizeLine;decide) ?_);have Y:h₄.objs.size=s.heap.objs.size:=by rw[Z.1,O.1,J.1]
 have a5:IsZ h₄ z TI TO a true:=Z.extBut _ _ D.i2z.symm (O.extBut _ _ D.i1z.symm a2);have a4:∀c o,c≠z->c≠i1->c≠i2->s.heap.get? c=some o->h₄.get? c=some o:=λc o c1 c3 c4 e=>Z.extBut _ _ c4 (O.extBut _ _ c3 (J.extBut _ _ c1 e))
 refine A2 ⟨_,rfl,?_⟩;show Q (.ref h₄.objs.size) _;have hq:=hQ (h₄.push { cls:=.type "tuple",data:=.seq #[x,y] }) (A6 _ a5) ((a3.extBut Z.extBut D.i12).at λo e=>A6 _ e) (a1.at λo e=>A6 _ e)
  (by rw[← Y];exact B7 _ rfl) (by rw[Heap.size_push,Y]) λc o c1 c3 c4 e=>A6 _ (a4 c o c1 c3 c4 e)
 rw[Y];exact hq
theorem ae0{TI TO i2 a:Addr}{f:Bool}{oa:Obj}{k1 k2:Nat}{xs ys:Array Value}{Q:Fin->Shared->Prop}(hh:A.handled=none)(D:ZipApart z TI TO i1 i2 l1 l2)
  (hz:IsZ s.heap z TI TO a f) (ha:s.heap.get? a=some oa) (hTI:IsPair s.heap TI (.ref i1) (.ref i2))
  (h1:s.heap.IsListIter i1 l1 k1) (h2:s.heap.IsListIter i2 l2 k2) (hl1:s.heap.IsList l1 xs) (hl2:s.heap.IsList l2 ys) (hend:xs[k1]?=none∨ys[k2]?=none)
  (hE:∀h' e,(∀c o,c≠z->c≠i1->c≠i2->s.heap.get? c=some o->h'.get? c=some o)->(∃o,h'.get? e=some o/\o.cls=.type "StopIteration")->E (.ref e) { s with heap:=h' }) :
  wpAny (model prog w) A (Builtin.«zip.__next__» ⟨[.ref z],[]⟩) Q E s:=by
 show wpAny _ _ (field (.ref z) 2>>=_) _ _ _;refine A0 (D2 hz rfl (x:=.bool false) rfl ?_);show wpAny _ _ (field (.ref z) 3>>=_) _ _ _;refine A0 (D2 hz rfl (x:=.ref TI) rfl ?_);refine A0 (u2 hTI rfl ?_);show wpAny _ _ (Builtin.SmallTypes.ownedTupleIsFree (.ref z)>>=_) _ _ _;refine A0 (mu0 hz ha λh₁ Z J=>?_);simp only[Bool.false_eq_true,if_false];refine A0 ?_;simp only[List.forIn_toArray,List.forIn_cons,List.forIn_nil];refine A0 (A0 (D7 ?_));show wpAny _ _ (Builtin.SmallTypes.nextOf (.ref i1)>>=_) _ _ _;cases hx:xs[k1]? with
 | none =>
  refine A0 (wpAny_nextOf_list_end hh (h1.extBut J.extBut D.i1z) (hl1.extBut J.extBut D.l1z) hx λh₂ e O he=>?_);exact hE h₂ e (λc o c1 c3 _ x=>O _ _ c3 (J.extBut _ _ c1 x)) he
 | some x =>
  have hy:ys[k2]?=none:=by rcases hend with h|h;rw[hx] at h;cases h;exact h
  refine A0 (u4 (h1.extBut J.extBut D.i1z) (hl1.extBut J.extBut D.l1z) hx λh₂ a1 O=>A2 ?_);refine A2 ?_;refine A0 (A0 (D7 ?_));show wpAny _ _ (Builtin.SmallTypes.nextOf (.ref i2)>>=_) _ _ _;refine A0 (wpAny_nextOf_list_end hh ((h2.extBut J.extBut D.i2z).extBut O.extBut D.i12.symm) ((hl2.extBut J.extBut D.l2z).extBut O.extBut D.l2i1) hy λh₄ e Y he=>?_);exact hE h₄ e (λc o c1 c3 c4 x=>Y _ _ c4 (O.extBut _ _ c3 (J.extBut _ _ c1 x))) he
theorem ia0{TI TO i2 a:Addr}{f:Bool}{oa:Obj}{k1 k2:Nat}{xs ys:Array Value}{x y:Value}{Q:Option Value->Shared->Prop}(D:ZipApart z TI TO i1 i2 l1 l2)
  (hz:IsZ s.heap z TI TO a f) (ha:s.heap.get? a=some oa) (hTI:IsPair s.heap TI (.ref i1) (.ref i2))
  (h1:s.heap.IsListIter i1 l1 k1) (h2:s.heap.IsListIter i2 l2 k2) (hl1:s.heap.IsList l1 xs) (hl2:s.heap.IsList l2 ys) (hx:xs[k1]?=some x) (hy:ys[k2]?=some y)
  (hQ:∀h',IsZ h' z TI TO a true->h'.IsListIter i1 l1 (k1+1)->h'.IsListIter i2 l2 (k2+1)->IsPair h' s.heap.objs.size x y->h'.objs.size=s.heap.objs.size+1 ->
   (∀c o,c≠z->c≠i1->c≠i2->s.heap.get? c=some o->h'.get? c=some o)->Q (some (.ref s.heap.objs.size)) { s with heap:=h' }) :
  wpAny (model prog w) A (pyNext (.ref z)) Q E s:=by
 have hT:s.TypeIs (.ref z) "zip" := ⟨_,hz,rfl⟩;unfold pyNext;exact A0 (wpAny_attempt (S4 (name:=Str.ofString "__next__") hT X1
  (U1 X1 hT F.entry_zip_next
   (ch0 D hz ha hTI h1 h2 hl1 hl2 hx hy λh' a1 a3 a4 a5 a6 a7=>A2 (hQ h' a1 a3 a4 a5 a6 a7)) (F.args_zip_next_1 _))))
theorem ps0{TI TO i2 a:Addr}{f:Bool}{oa:Obj}{k1 k2:Nat}{xs ys:Array Value}{Q:Option Value->Shared->Prop}(hh:A.handled=none)(D:ZipApart z TI TO i1 i2 l1 l2)
  (hz:IsZ s.heap z TI TO a f) (ha:s.heap.get? a=some oa) (hTI:IsPair s.heap TI (.ref i1) (.ref i2))
  (h1:s.heap.IsListIter i1 l1 k1) (h2:s.heap.IsListIter i2 l2 k2) (hl1:s.heap.IsList l1 xs) (hl2:s.heap.IsList l2 ys) (hend:xs[k1]?=none∨ys[k2]?=none)
  (hQ:∀h',(∀c o,c≠z->c≠i1->c≠i2->s.heap.get? c=some o->h'.get? c=some o)->Q none { s with heap:=h' }):wpAny (model prog w) A (pyNext (.ref z)) Q E s:=by
 have hT:s.TypeIs (.ref z) "zip" := ⟨_,hz,rfl⟩;unfold pyNext;refine A0 (wpAny_attempt (S4 (name:=Str.ofString "__next__") hT X1
  (U1 X1 hT F.entry_zip_next (ae0 hh D hz ha hTI h1 h2 hl1 hl2 hend λh' e hk he=>?_) (F.args_zip_next_1 _))))
 obtain⟨o,ho,hc⟩:=he;refine A0 (wpAny_isInstance (T := "StopIteration") (b:=true) ⟨o,ho,hc⟩ isSubtype_stop ?_);exact A2 (hQ _ hk)
end
structure ZSt(h:Heap)(z TI TO i1 i2 l1 l2 S:Addr)(xs ys:Array Value)(i:Nat):Prop where
 own:(i=0/\IsZip h z TI TO .none/\∃p q,IsPair h TO p q)∨∃a f oa,IsZ h z TI TO a f/\h.get? a=some oa/\a≠z/\a≠i1/\a≠i2/\a≠S
 hTI:IsPair h TI (.ref i1) (.ref i2)
 h1:h.IsListIter i1 l1 i
 h2:h.IsListIter i2 l2 i
 hl1:h.IsList l1 xs
 hl2:h.IsList l2 ys
structure ZLow(z TI TO i1 i2 l1 l2 S:Addr):Prop where
 z:z<S
 TI:TI<S
 TO:TO<S
 i1:i1<S
 i2:i2<S
 l1:l1<S
 l2:l2<S
structure ZG(xs ys:Array Value)(S:Addr)(h:Heap)(as:List Addr):Prop where
 rise:as.Pairwise (·<·)
 above:∀a∈as,S<a
 pairs:∀(j:Nat) (a:Addr),as[j]?=some a->∃x y,xs[j]?=some x/\ys[j]?=some y/\IsPair h a x y
section
variable{w:World}{A:Around}{s:Shared}{TI TO i2 S:Addr}{xs:Array Value}{h:Heap}
theorem ZG.there{as:List Addr}(g:ZG xs ys S h as)(ha:a∈as):a<h.objs.size:=by
 obtain⟨j,hj⟩:=List.mem_iff_getElem?.mp ha;obtain⟨_,_,_,_,e⟩:=g.pairs j a hj;exact A3 e
theorem ZSt.keep(x:ZSt h z TI TO i1 i2 l1 l2 S xs ys i)(L:ZLow z TI TO i1 i2 l1 l2 S)(hk:∀b o,b≠S->h.get? b=some o->h'.get? b=some o):ZSt h' z TI TO i1 i2 l1 l2 S xs ys i:=by
 refine⟨?_,hk _ _ (A5 L.TI) x.hTI,x.h1.at λo e=>hk _ o (A5 L.i1) e,x.h2.at λo e=>hk _ o (A5 L.i2) e,x.hl1.at λo e=>hk _ o (A5 L.l1) e,x.hl2.at λo e=>hk _ o (A5 L.l2) e⟩;rcases x.own with⟨e,hz,p,q,hp⟩|⟨a,f,oa,hz,ha,n1,n2,n3,n4⟩
 ·exact .inl ⟨e,hk _ _ (A5 L.z) hz,p,q,hk _ _ (A5 L.TO) hp⟩
 ·exact .inr ⟨a,f,oa,hk _ _ (A5 L.z) hz,hk _ _ n4 ha,n1,n2,n3,n4⟩
theorem Vt0{x y:Value}{Q:Option Value->Shared->Prop}(D:ZipApart z TI TO i1 i2 l1 l2)(st:ZSt s.heap z TI TO i1 i2 l1 l2 S xs ys i)(hS:S<s.heap.objs.size)(hx:xs[i]?=some x)(hy:ys[i]?=some y)
  (hQ:∀h',ZSt h' z TI TO i1 i2 l1 l2 S xs ys (i+1)->IsPair h' s.heap.objs.size x y->(∀c o,c≠z->c≠TO->c≠i1->c≠i2->s.heap.get? c=some o->h'.get? c=some o)->Q (some (.ref s.heap.objs.size)) { s with heap:=h' }) :
  wpAny (model prog w) A (pyNext (.ref z)) Q E s:=by
 obtain⟨o1,e1,_⟩:=id st.h1;obtain⟨o2,e2,_⟩:=id st.h2;rcases st.own with⟨rfl,hz,p,q,hp⟩|⟨a,f,oa,hz,ha,n1,n2,n3,n4⟩
 ·refine wpAny_pyNext_zip_item D hz st.hTI hp st.h1 st.h2 st.hl1 st.hl2 hx hy λh' a1 a2 a3 a4 a5 a6 hk=>hQ h' ⟨.inr ⟨_,false,_,a1,a5,B6 (A3 hz),B6 (A3 e1),B6 (A3 e2),B6 hS⟩,hk _ _ D.TIz D.TITO D.TIi1 D.TIi2 st.hTI,a3,a4,
   st.hl1.at λo e=>hk _ o D.l1z D.l1TO D.l1i1 D.l1i2 e,st.hl2.at λo e=>hk _ o D.l2z D.l2TO D.l2i1 D.l2i2 e⟩ a5 hk
 ·refine ia0 D hz ha st.hTI st.h1 st.h2 st.hl1 st.hl2 hx hy λh' a1 a3 a4 a5 a6 hk=>hQ h' ⟨.inr ⟨a,true,oa,a1,hk _ _ n1 n2 n3 ha,n1,n2,n3,n4⟩,hk _ _ D.TIz D.TIi1 D.TIi2 st.hTI,a3,a4,
   st.hl1.at λo e=>hk _ o D.l1z D.l1i1 D.l1i2 e,st.hl2.at λo e=>hk _ o D.l2z D.l2i1 D.l2i2 e⟩ a5 λc o c1 _ c3 c4 e=>hk c o c1 c3 c4 e
theorem Vz0{Q:Option Value->Shared->Prop}(hh:A.handled=none)(D:ZipApart z TI TO i1 i2 l1 l2)(st:ZSt s.heap z TI TO i1 i2 l1 l2 S xs ys i)(hend:xs[i]?=none∨ys[i]?=none)
  (hQ:∀h',(∀c o,c≠z->c≠TO->c≠i1->c≠i2->s.heap.get? c=some o->h'.get? c=some o)->Q none { s with heap:=h' }):wpAny (model prog w) A (pyNext (.ref z)) Q E s:=by
 rcases st.own with⟨rfl,hz,p,q,hp⟩|⟨a,f,oa,hz,ha,n1,n2,n3,n4⟩
 ·exact wpAny_pyNext_zip_end hh D hz st.hTI hp st.h1 st.h2 st.hl1 st.hl2 hend hQ
 ·exact ps0 hh D hz ha st.hTI st.h1 st.h2 st.hl1 st.hl2 hend λh' hk=>hQ h' λc o c1 _ c3 c4 e=>hk c o c1 c3 c4 e
end
section
variable{w:World}{A:Around}{s:Shared}{TI TO i2 S lo:Addr}{xs:Array Value}{h₁:Heap}
theorem Vk0(hh:A.handled=none)(D:ZipApart z TI TO i1 i2 l1 l2)(L:ZLow z TI TO i1 i2 l1 l2 S)(hlo:lo<=z/\lo<=TO/\lo<=i1/\lo<=i2)(hn:min xs.size ys.size<=sizeLine)(res:Value)
  (hR:∀h' tk acc c as,(∀b o,b<lo->h₁.get? b=some o->h'.get? b=some o)->h'.get? S=some { cls:=.type "list",dict:=none,data:=.seq acc c,slots:=#[] }->as.length=min xs.size ys.size->ZG xs ys S h' as ->
   acc.toList=as.map Value.ref->R (.ok (.ret res)) { s with heap:=h',toks:=tk }) :
  ∀(k i:Nat) (h:Heap) (tk c:Nat) (acc:Array Value) (as:List Addr),min xs.size ys.size - i=k->i<=min xs.size ys.size->ZSt h z TI TO i1 i2 l1 l2 S xs ys i->(∀b o,b<lo->h₁.get? b=some o->h.get? b=some o) ->
   h.get? S=some { cls:=.type "list",dict:=none,data:=.seq acc c,slots:=#[] }->acc.toList=as.map Value.ref->as.length=i->ZG xs ys S h as ->
   codeAny (model prog w) A (.builtin "list.extend.loop" ⟨[.ref S,.ref z,res],[]⟩) R { s with heap:=h,toks:=tk }:=by
 have b4:=hlo.1;have b3:lo<S:=L7 hlo.1 L.z;have lk:∀(h h':Heap),(∀c o,c≠z->c≠TO->c≠i1->c≠i2->h.get? c=some o->h'.get? c=some o)->∀b o,b<lo->h.get? b=some o->h'.get? b=some o:=λh h' hk b o hb e =>
  hk b o (A5 (A8 hb hlo.1)) (A5 (A8 hb hlo.2.1)) (A5 (A8 hb hlo.2.2.1)) (A5 (A8 hb hlo.2.2.2)) e
 have Z:∀(h h':Heap),(∀c o,c≠z->c≠TO->c≠i1->c≠i2->h.get? c=some o->h'.get? c=some o)->∀b o,S<=b->h.get? b=some o->h'.get? b=some o:=λh h' hk b o hb e =>
  hk b o (B6 (A8 L.z hb)) (B6 (A8 L.TO hb)) (B6 (A8 L.i1 hb)) (B6 (A8 L.i2 hb)) e
 intro k
 induction k with
 | zero =>
  intro i h tk c acc as hk hi a4 O hS J Y hG;have b2:xs[i]?=none∨ys[i]?=none:=by
   rcases Nat.le_total xs.size ys.size with q|q
   ·exact .inl (Bh0 (by omega))
   ·exact .inr (Bh0 (by omega))
  refine K2 F.entry_extend_loop ?_;rw[Around.under_plainId X2 _];show wpAny _ A.in1 (pyNext (.ref z)>>=_) _ _ _;refine A0 (Vz0 (s:={ s with heap:=h,toks:=tk }) (A:=A.in1) hh D a4 b2 λh' he=>?_);refine A2 (hR h' tk acc c as (λb o h1 e=>lk h h' he b o h1 (O b o h1 e)) (Z h h' he S _ (A1 _) hS) (by omega) ⟨hG.rise,hG.above,λj a hj=>?_⟩ J);obtain⟨x,y,e1,e2,e3⟩:=hG.pairs j a hj;exact⟨x,y,e1,e2,Z h h' he a _ (E1 (hG.above a (D1 hj))) e3⟩
 | succ k ih =>
  intro i h tk c acc as hk hi a4 O hS J Y hG;have a3:i<min xs.size ys.size:=by omega
  have a7:i<xs.size:=A8 a3 (Nat.min_le_left ..);have b0:i<ys.size:=A8 a3 (A90 ..);have a8:acc.size=i:=by rw[← Array.length_toList,J,List.length_map,Y]
  have a2:S<h.objs.size:=A3 hS;refine K2 F.entry_extend_loop ?_;rw[Around.under_plainId X2 _];show wpAny _ A.in1 (pyNext (.ref z)>>=_) _ _ _;refine A0 (Vt0 (s:={ s with heap:=h,toks:=tk }) D a4 a2 (P5 a7) (P5 b0) λh' b1 ht a1=>?_);dsimp only at ht a1 ⊢;have a6:=Z h h' a1 S _ (A1 _) hS;have up:∀b o,b≠S->h'.get? b=some o->(h'.update S (Obj.mapSeq (·.push (Value.ref h.objs.size)))).get? b=some o:=λb o hb e=>(G0 _ _ (A4 hb)).trans e
  show wpAny _ A.in1 (updateSeq S (·.push (Value.ref h.objs.size))>>=_) _ _ _;refine A0 ?_;refine P2 a6 rfl (A2 ⟨P4 X2 _,ih (i+1) _ tk _ (acc.push (Value.ref h.objs.size)) (as++[h.objs.size]) (by omega) a3 (b1.keep L up)
   (λb o h1 e=>up b o (A5 (E7 h1 b3)) (lk h h' a1 b o h1 (O b o h1 e))) (I0 _ a6 rfl) (by rw[Array.toList_push,J,List.map_append];rfl) (by rw[List.length_append,Y];rfl) ⟨?_,?_,?_⟩⟩) (by rw[a8];omega) (by show (acc.push (Value.ref h.objs.size)).size<=sizeLine+1;rw[Array.size_push,a8];omega)
  ·refine List.pairwise_append.mpr ⟨hG.rise,List.pairwise_singleton _ _,λa ha b hb=>?_⟩
   rw[List.mem_singleton.mp hb];exact hG.there ha
  ·intro a ha
   rcases B5.mp ha with ha|ha
   ·exact hG.above a ha
   ·rw[List.mem_singleton.mp ha];exact a2
  ·intro j b hj
   rcases Nat.lt_trichotomy j as.length with h1|h1|h1
   ·rw[List.getElem?_append_left h1] at hj
    obtain⟨x',y',e1,e2,e3⟩:=hG.pairs j b hj;have hb:=hG.above b (D1 hj);exact⟨x',y',e1,e2,up b _ (B6 hb) (Z h h' a1 b _ (E1 hb) e3)⟩
   ·subst h1
    have hb:h.objs.size=b:=by simpa using hj
    subst hb;exact⟨_,_,by rw[Y];exact P5 a7,by rw[Y];exact P5 b0,up _ _ (B6 a2) ht⟩
   ·have a5:(as++[h.objs.size])[j]?=none:=List.getElem?_eq_none (by rw[List.length_append,List.length_singleton];omega)
    rw[a5] at hj;cases hj
end
theorem g10:typeLookup (.type "zip") "__len__"=pure none:=by rw[typeLookup_type,builtinLookup_eq_fast];kernel_rfl
theorem j10:typeLookup (.type "zip") "__length_hint__"=pure none:=by rw[typeLookup_type,builtinLookup_eq_fast];kernel_rfl
section
variable{w:World}{A:Around}{s:Shared}{TI TO i2 lo:Addr}{xs:Array Value}
def Yz0(xs ys:Array Value)(lo:Addr)(s:Shared)(h':Heap)(as:List Addr):Prop :=
 (∀b o,b<lo->s.heap.get? b=some o->h'.get? b=some o)/\as.length=min xs.size ys.size/\ZG xs ys s.heap.objs.size h' as
theorem j60{Q:List Value->Shared->Prop}(hh:A.handled=none)(D:ZipApart z TI TO i1 i2 l1 l2)(hlo:lo<=z/\lo<=TO/\lo<=i1/\lo<=i2)
  (st:∀S,S≠z->S≠i1->S≠i2->ZSt s.heap z TI TO i1 i2 l1 l2 S xs ys 0) (hn:min xs.size ys.size<=sizeLine) (L:ZLow z TI TO i1 i2 l1 l2 s.heap.objs.size)
  (hT:s.TypeIs (.ref z) "zip") (hI:∃f0,IsZip s.heap z TI TO f0)
  (hQ:∀h' tk as,Yz0 xs ys lo s h' as->s.heap.objs.size<h'.objs.size->Q (as.map Value.ref) { s with heap:=h',toks:=tk }):wpAny (model prog w) A (collect (.ref z)) Q E s:=by
 have a1:s.heap.objs.size≠z:=B6 L.z;obtain⟨f0,hI⟩:=hI;unfold collect;refine A0 (wpAny_runValue (K2 F.entry_proto_collect ?_));rw[Around.under_plainId F.plain_proto_collect _];show wpAny _ A.in1 (newList []>>=λl=>again (.builtin "list.__iadd__" ⟨[l,.ref z],[]⟩)) _ _ s;refine A0 (E5 ?_);refine A2 ⟨P4 F.plain_list_iadd _,K2 F.entry_list_iadd ?_⟩;rw[Around.under_plainId F.plain_list_iadd _];have O:(s.heap.push { cls:=.type "list",data:=.seq ([]:List Value).toArray }).get? s.heap.objs.size=some { cls:=.type "list",data:=.seq ([]:List Value).toArray }:=B7 _ rfl;have Z:=A6 { cls:=.type "list",data:=.seq ([]:List Value).toArray } hI;have J:Shared.TypeIs { s with heap:=s.heap.push { cls:=.type "list",data:=.seq ([]:List Value).toArray } } (.ref z) "zip" := ⟨_,Z,rfl⟩;show wpAny _ A.in1 (Builtin.List.listExtendWith (.ref s.heap.objs.size) (.ref z) (.ref s.heap.objs.size)) _ _ _;unfold Builtin.List.listExtendWith;refine A0 (L5 J ?_);have h1:Builtin.List.listSameRef (.ref s.heap.objs.size) (.ref z)=false:=by simp[Builtin.List.listSameRef,a1]
 have h2:(Value.type "zip"==Value.type "list")=false:=by decide
 have h3:(Value.type "zip"==Value.type "tuple")=false:=by decide
 simp only[h1,h2,h3,Bool.or_false,Bool.false_eq_true,if_false];refine A0 (wpAny_pyIter_zip (s:={ s with heap:=s.heap.push { cls:=.type "list",data:=.seq ([]:List Value).toArray } }) Z ?_);refine A0 (D7 ?_);unfold Builtin.List.listLengthHint;refine A0 (P1 J g10 ?_);show wpAny _ A.in1 (specialOf (Value.ref z) (Str.ofString "__length_hint__")>>=_) _ _ _;refine A0 (P1 J j10 ?_);refine A2 ?_;show wpAny _ A.in1 (rule "list.extend.makes-room">>=λ_=>Builtin.List.listTouch (.ref s.heap.objs.size)>>=λ_ =>
  again (.builtin "list.extend.loop" ⟨[.ref s.heap.objs.size,.ref z,.ref s.heap.objs.size],[]⟩)) _ _ _
 refine A0 (wpAny_rule ?_);refine A0 ?_;show wpAny _ A.in1 (updateSeq s.heap.objs.size (·.push .none)>>=λ_=>updateSeq s.heap.objs.size (·.pop)) _ _ _;refine A0 (P2 O rfl ?_);have a2:=I0 (Obj.mapSeq (·.push Value.none)) O rfl;refine P2 a2 rfl ?_;have a4:=I0 (Obj.mapSeq (·.pop)) a2 rfl;have oth:∀b o,b≠s.heap.objs.size->s.heap.get? b=some o ->
   (((s.heap.push { cls:=.type "list",data:=.seq ([]:List Value).toArray }).update s.heap.objs.size (Obj.mapSeq (·.push Value.none))).update s.heap.objs.size (Obj.mapSeq (·.pop))).get? b=some o :=
  λb o hb e=>(G0 _ _ (A4 hb)).trans ((G0 _ _ (A4 hb)).trans (A6 _ e))
 refine A2 ⟨P4 X2 _,Vk0 (s:=s) (lo:=lo) (h₁:=s.heap) hh D L hlo hn _ (λh' tk a5 c as hk Y hl hG a3=>?_) _ 0 _ s.toks _ #[] [] rfl (B9 _)
  ((st _ a1 (B6 L.i1) (B6 L.i2)).keep L oth) (λb o hb e=>oth b o (A5 (A3 e)) e) a4 rfl rfl ⟨List.Pairwise.nil,(λ_ ha=>nomatch ha),(λj a hj=>by simp at hj)⟩⟩
 show wpAny _ A (load s.heap.objs.size>>=_) _ _ _;refine A0 (wpAny_load Y ?_);refine A2 ?_;have:=hQ h' tk as ⟨hk,hl,hG⟩ (A3 Y);rw[← a3] at this;exact this
end
section
variable{w:World}{A:Around}{s:Shared}{TI TO i2 lo:Addr}{xs:Array Value}
theorem tz0{Q₁:Value->Shared->Prop}(hh:A.handled=none)(D:ZipApart z TI TO i1 i2 l1 l2)(hlo:lo<=z/\lo<=TO/\lo<=i1/\lo<=i2)
  (st:∀S,S≠z->S≠i1->S≠i2->ZSt s.heap z TI TO i1 i2 l1 l2 S xs ys 0) (hn:min xs.size ys.size<=sizeLine) (L:ZLow z TI TO i1 i2 l1 l2 s.heap.objs.size)
  (hT:s.TypeIs (.ref z) "zip") (hI:∃f0,IsZip s.heap z TI TO f0)
  (h:∀h' tk as,Yz0 xs ys lo s h' as->s.heap.objs.size<h'.objs.size->Q₁ (.ref h'.objs.size) { s with heap:=h'.push { cls:=.type "tuple",data:=.seq (as.map Value.ref).toArray },toks:=tk }) :
  codeAny (model prog w) A (.call (.builtin "tuple.__new__") ⟨[.type "tuple",.ref z],[]⟩) (wants Q₁ E) s:=by
 refine codeAny_of_tree ?_;show wpAny _ A.in1 (do checkBuiltinCall "tuple.__new__" ⟨[.type "tuple",.ref z],[]⟩;again (.builtin "tuple.__new__" ⟨[.type "tuple",.ref z],[]⟩)) _ _ s;refine A0 (wpAny_of_eq (F.newCall_tuple_1 _) (A2 ⟨P4 F.plain_tuple_new _,K2 F.entry_tuple_new ?_⟩));rw[Around.under_plainId F.plain_tuple_new _];have Z:=sub_tuple_self;have Y:=init_tuple_lookup;have a1:=madeHere_tuple;have O:A.in1.handled=none:=by simp[hh]
 wp_walk using L5 hT,j60 (lo:=lo) O D hlo st hn L hT hI
 intro h' tk as hz J;show wpAny _ _ (Builtin.Tuple.tupleExact (as.map Value.ref).toArray>>=λv=>ret v) _ _ _;unfold Builtin.Tuple.tupleExact;refine A0 (E5 ?_ (by show (as.map Value.ref).toArray.size<=sizeLine;rw[List.size_toArray,List.length_map,hz.2.1];exact hn));exact A2 (h h' tk as hz J)
theorem et0{Q:Value->Shared->Prop}(hh:A.handled=none)(hl1:s.heap.IsList l1 xs)(hl2:s.heap.IsList l2 ys)(hn:min xs.size ys.size<=sizeLine)
  (h:∀(h':Heap) (tk:Nat) (as:List Addr) (t:Addr),(∀b o,s.heap.get? b=some o->h'.get? b=some o)->as.length=min xs.size ys.size->(∀a∈as,s.heap.objs.size<=a/\a<t)->as.Nodup->s.heap.objs.size<=t ->
   (∀(j:Nat) (a:Addr),as[j]?=some a->∃x y,xs[j]?=some x/\ys[j]?=some y/\IsPair h' a x y)->h'.get? t=some { cls:=.type "tuple",data:=.seq (as.map Value.ref).toArray }->Q (.ref t) { s with heap:=h',toks:=tk }) :
  wpAny (model prog w) A (call (.type "zip") [.ref l1,.ref l2]) (λv s1=>wpAny (model prog w) A (call (.type "tuple") [v]) Q E s1) E s:=by
 have a1:l1<s.heap.objs.size:=by obtain⟨_,e,_⟩:=hl1;exact A3 e
 have a2:l2<s.heap.objs.size:=by obtain⟨_,e,_⟩:=hl2;exact A3 e
 refine call_zip_2 hl1 hl2 λh1 hz hTI Y Z a5 a3 hk=>?_
 have O:h1.IsList l1 xs:=hl1.at λo e=>hk _ o e
 have J:h1.IsList l2 ys:=hl2.at λo e=>hk _ o e
 have H:∀k,k<5->s.heap.objs.size+k<h1.objs.size:=λk hk=>by rw[a3];exact Nat.add_lt_add_left hk _
 refine callType_codes (Q₁:=λobj s₁=>s₁.TypeIs obj "tuple"/\Q obj s₁) F.called_tuple (F.typeCall_tuple_1 _) F.entry_object_init
  (tz0 (lo:=s.heap.objs.size) (xs:=xs) (ys:=ys) (by simp[hh]) (zipApart_new a1 a2) ⟨P7 _ 4,P7 _ 3,A1 _,P7 _ 1⟩ (λS n1 n2 n3=>⟨.inl ⟨rfl,hz,_,_,Y⟩,hTI,Z,a5,O,J⟩) hn
   ⟨H 4 (by decide),H 2 (by decide),H 3 (by decide),H 0 (by decide),H 1 (by decide),E7 a1 (H 0 (by decide)),E7 a2 (H 0 (by decide))⟩
   ⟨_,hz,rfl⟩ ⟨_,hz⟩ λh' tk as ze a4=>⟨⟨_,B7 _ rfl,rfl⟩,?_⟩) λobj s₁ h₁=>?_
 ·obtain⟨k1,k2,g⟩:=ze
  refine h (h'.push _) tk as h'.objs.size (λb o e=>A6 _ (k1 b o (A3 e) (hk b o e))) k2 (λa ha=>⟨?_,g.there ha⟩) (g.rise.imp λh=>A5 h) ?_ (λj a hj=>?_) (B7 _ rfl)
  ·exact E1 (E7 (H 0 (by decide)) (g.above a ha))
  ·exact E1 (E7 (H 0 (by decide)) a4)
  ·obtain⟨x,y,e1,e2,e3⟩:=g.pairs j a hj
   exact⟨x,y,e1,e2,A6 _ e3⟩
 ·exact⟨h₁.1,F.args_object_init_2 obj _,object_init_meets F.called_tuple.init.lookup F.called_tuple.made (by decide) prog w A.in1 _ s₁ ⟨h₁.1,rfl,h₁.2⟩⟩
end
end ZipL
namespace L2
open Spec PyProof.Rows
def xr0(H:Hp):List (Addr×HO)->Hp
 | []=>H
 | p::l=>upd (xr0 H l) p.1 p.2
theorem qa0{b:Addr}:∀{l:List (Addr×HO)},(∀p∈l,p.1≠b)->xr0 H l b=H b
 | [],_=>rfl
 | p::l,h=>by
  show upd (xr0 H l) p.1 p.2 b=_;rw[o6 (A4 (h p A9)),qa0 λq hq=>h q (A7 _ hq)]
theorem na0{b:Addr}{u:HO}:∀{l:List (Addr×HO)},xr0 H l b=some u->(∃p∈l,p.1=b/\p.2=u)∨H b=some u
 | [],e=>.inr e
 | p::l,e=>by
  by_cases h:b=p.1
  ·subst h
   have e':upd (xr0 H l) p.1 p.2 p.1=some u:=e;rw[m8] at e';exact .inl ⟨p,A9,rfl,B3 e'⟩
  ·have e':upd (xr0 H l) p.1 p.2 b=some u:=e
   rw[o6 h] at e';rcases na0 e' with⟨q,hq,x⟩|x
   ·exact .inl ⟨q,A7 _ hq,x⟩
   ·exact .inr x
theorem rk0:∀{l:List (Addr×HO)},(l.map Prod.fst).Nodup->∀p∈l,xr0 H l p.1=some p.2
 | [],_,p,h=>nomatch h
 | q::l,n,p,h=>by
  rw[List.map_cons,List.nodup_cons] at n;show upd (xr0 H l) q.1 q.2 p.1=_;rcases B4.mp h with rfl|h
  ·rw[m8]
  ·rw[o6 (λz=>n.1 (by rw[← z];exact Bl0 h)),rk0 n.2 p h]
section
variable{s:Shared}
theorem Inv.laidL{l:List (Addr×HO)}{t':Nat}(I:Inv X pins σ H s)(k:∀b u,s.heap.get? b=some u->h'.get? b=some u)
  (hl:∀p∈l,s.heap.objs.size<=p.1/\∃xs,p.2=.tup xs/\ObjOk X.prog X.w H h' p.1 (.tup xs)):Inv X pins σ (xr0 H l) { s with heap:=h',toks:=t' }:=by
 have J:∀b,b<s.heap.objs.size->xr0 H l b=H b:=λb hb=>qa0 λp hp z=>by
  have:=(hl p hp).1;rw[z] at this;exact D0 _ (A8 hb this)
 refine I.un ⟨λb u q _ _ _=>k b u q,λb u q _ _ _=>⟨u.slots,k b u q⟩,λb u q n _=>by rw[J b (A3 q)];exact n,λb u q _=>⟨u,k b u q⟩,λb xs q=>by rw[J b (I.hok.lt q)];exact q,
  λb u xs q=>by rw[J b (I.hok.lt q)];exact q,λb ps q=>⟨#[],by rw[J b (I.hok.lt q),q];simp⟩⟩ λb u e=>?_
 rcases na0 e with⟨p,hp,rfl,rfl⟩|e'
 ·obtain⟨_,xs,ex,ok⟩:=hl p hp
  rw[ex];exact ok
 ·exact(I.hok b u e').stay (λc v _ q=>k c v q) (λc q=>by rw[J c (I.hok.lt q)];exact q) (λc xs q=>by rw[J c (I.hok.lt q)];exact q) λc ob u' q=>by rw[J c (I.hok.lt q)];exact q
end
def lk0(X:Cx)(f1 f2:Value)(r:List V->Hp->VK->Prop):Prop :=
 ∀(pins:List (Addr×Obj)) (s:Shared) (σ:St) (H:Hp) (xs:List V) (us:List Value) (Q:VK),Inv X pins σ H s->Vals xs us->r xs H Q ->
  wpAny (model X.prog X.w) X.A (call f2 us) (λv s1=>wpAny (model X.prog X.w) X.A (call f1 [v]) (EP X pins σ Q) X.xe s1) X.xe s
section
variable{x1:Str}{T1 T2:String}{t:TA}
theorem e40(hc:lk0 X (.type T1) (.type T2) r)(hg1:Gl X x1)(hg2:Gl X x2)(hm1:X.mg x1=none)(hm2:X.mg x2=none)(hv1:bootBuiltins x1=some (.type T1))(hv2:bootBuiltins x2=some (.type T2))(ha:PA X (e::es) t)
  (hn1:x1 ≠"__name__" := by decide) (hd1:(x1==("__debug__" : Str))=false:=by decide) (hn2:x2 ≠"__name__" := by decide) (hd2:(x2==("__debug__" : Str))=false:=by decide)
  (e1:starEach [.Call (.Name x2 p2) (e::es) [] pos2] X.env=(false,eval (.Call (.Name x2 p2) (e::es) [] pos2) X.env)::starEach [] X.env:=by rfl) (h1:(backTo pos (starEach [] X.env)).any (·.1)=false:=by rfl)
  (he:starEach (e::es) X.env=(false,eval e X.env)::starEach es X.env:=by rfl) (hpl:(backTo pos2 (starEach es X.env)).any (·.1)=false:=by rfl) :
  PE X (.Call (.Name x1 p) [.Call (.Name x2 p2) (e::es) [] pos2] [] pos) (tCB r t):=by
 intro pins s σ H Q I h;refine D8 (zi0 I hg1 hm1 hv1 ?_ hn1 hd1);refine E4 ?_ e1 h1;rw[e1];show wpAny _ _ (spliced ((false,eval (.Call (.Name x2 p2) (e::es) [] pos2) X.env)::backTo pos (starEach [] X.env))) _ _ s;refine N1 ?_;refine D8 (zi0 I hg2 hm2 hv2 ?_ hn2 hd2);refine E4 (thn (ha pos2 pins s σ H _ I h) λus s1 ⟨vs,H1,I1,r1,q1⟩=>?_) he hpl;exact thn (hc pins s1 σ H1 vs us Q I1 r1 q1) λv s2 hv=>N0 hv
end
end L2
namespace DL
open Spec PyProof.Rows L2
section
variable{x1:Str}{T1 T2:String}{f:List D->Option D}
theorem oe0(hc:lk0 X (.type T1) (.type T2) r)(hf:FnR X.K r f)(hm1:X.mg x1=none)(hm2:X.mg x2=none)(hv1:bootBuiltins x1=some (.type T1))(hv2:bootBuiltins x2=some (.type T2))(ha:PDA X (e::es) gA)(hg1:Gl X x1:=by rfl)(hg2:Gl X x2:=by rfl)
  (hn1:x1 ≠"__name__" := by decide) (hd1:(x1==("__debug__" : Str))=false:=by decide) (hn2:x2 ≠"__name__" := by decide) (hd2:(x2==("__debug__" : Str))=false:=by decide)
  (e1:starEach [.Call (.Name x2 p2) (e::es) [] pos2] X.env=(false,eval (.Call (.Name x2 p2) (e::es) [] pos2) X.env)::starEach [] X.env:=by rfl) (h1:(backTo pos (starEach [] X.env)).any (·.1)=false:=by rfl)
  (he:starEach (e::es) X.env=(false,eval e X.env)::starEach es X.env:=by rfl) (hpl:(backTo pos2 (starEach es X.env)).any (·.1)=false:=by rfl) :
  PD X (.Call (.Name x1 p) [.Call (.Name x2 p2) (e::es) [] pos2] [] pos) (oA gA f) :=
 .mk λB δ=>(e40 hc hg1 hg2 hm1 hm2 hv1 hv2 (ha B δ) hn1 hd1 hn2 hd2 e1 h1 he hpl).imp fun σ H Q h=>le0 hf h
end
def zf0:List Addr->List (V×V)->List (Addr×HO)
 | a::as,p::ps=>(a,.tup [p.1,p.2])::zf0 as ps
 | _,_=>[]
theorem nh0:∀{as:List Addr} {ps:List (V×V)},as.length=ps.length->(zf0 as ps).map Prod.fst=as
 | [],[],_=>rfl
 | [],_::_,h=>by simp at h
 | _::_,[],h=>by simp at h
 | a::as,p::ps,h=>by
  show a::(zf0 as ps).map Prod.fst=_;rw[nh0 (by simpa using h)]
theorem n00:∀{as:List Addr} {ps:List (V×V)} {q:Addr×HO},q∈zf0 as ps->∃(j:Nat) (p:V×V),as[j]?=some q.1/\ps[j]?=some p/\q.2=.tup [p.1,p.2]
 | [],_,q,h=>by simp[zf0] at h
 | _::_,[],q,h=>by simp[zf0] at h
 | a::as,p::ps,q,h=>by
  rcases B4.mp h with rfl|h
  ·exact⟨0,p,rfl,rfl,rfl⟩
  ·obtain⟨j,p',h1,h2,h3⟩:=n00 h
   exact⟨j+1,p',by simpa using h1,by simpa using h2,h3⟩
def b80(K:W.Frag):List V->Hp->VK->Prop:=λvs H Q=>∃q1 q2 xs ys,vs=[.ref q1,.ref q2]/\SqL K H q1 xs/\SqL K H q2 ys /\
 ∀(t:Addr) (as:List Addr),as.length=(xs.zip ys).length->as.Nodup->t∉as->H t=none->(∀a∈as,H a=none)->Q (.ref t) (xr0 H ((t,.tup (as.map V.ref))::zf0 as (xs.zip ys)))
theorem ot0:∀as:List Addr,Vals (as.map V.ref) (as.map Value.ref)
 | []=>.nil
 | a::as=>.cons rfl (ot0 as)
theorem vy0(hc:X.calm=true:=by rfl):lk0 X (.type "tuple") (.type "zip") (b80 X.K):=by
 intro pins s σ H vs us Q I r h;obtain⟨q1,q2,xs,ys,rfl,h1,h2,k⟩:=h;cases r with
 | cons r1 r =>
  cases r with
  | cons r2 r =>
   cases r;obtain rfl:=r1;obtain rfl:=r2;obtain⟨us1,v1,p1,z1⟩:=I.list h1;obtain⟨us2,v2,p2,z2⟩:=I.list h2;have l1:=v1.length;have l2:=v2.length;refine ZipL.et0 (I.ok.hd hc) p1.isList p2.isList (by rw[List.size_toArray,List.size_toArray];omega) λh' tk as t hk hl ha O ht hp gt=>?_
   rw[List.size_toArray,List.size_toArray] at hl;have Y:as.length=(xs.zip ys).length:=by rw[List.length_zip,hl];omega
   refine⟨.ref t,_,I.laidL (t':=tk) hk λp J=>?_,rfl,k t as Y O (λz=>D0 _ (ha t z).2) (I.hok.fresh ht) λa h=>I.hok.fresh (ha a h).1⟩;rcases B4.mp J with rfl|J
   ·refine⟨ht,_,rfl,?_,as.map Value.ref,ot0 as,⟨_,gt,rfl,_,rfl,rfl⟩⟩
    rw[List.length_map,hl];omega
   ·obtain⟨j,⟨x,y⟩,e1,e2,e3⟩:=n00 J
    obtain⟨u,w,f1,f2,f3⟩:=hp j p.1 e1;have hz:=List.getElem?_zip_eq_some.mp e2;obtain⟨u',g1,g2⟩:=v1.get hz.1;obtain⟨w',g3,g4⟩:=v2.get hz.2;have eu:u'=u:=by
     have:us1.toArray[j]?=some u':=by simpa using g1
     rw[f1] at this;exact(B3 this).symm
    have ew:w'=w:=by
     have:us2.toArray[j]?=some w':=by simpa using g3
     rw[f2] at this;exact(B3 this).symm
    subst eu;subst ew;exact⟨(ha p.1 (D1 e1)).1,_,e3,(by show 2<=sizeLine;decide),[u',w'],.cons g2 (.cons g4 .nil),⟨_,f3,rfl,_,rfl,rfl⟩⟩
theorem ou0:∀{ds es:List D} {xs ys:List V} {as:List Addr},Rps K H B ds xs->Rps K H B es ys->as.length=(xs.zip ys).length->(∀p∈zf0 as (xs.zip ys),H p.1=some p.2/\¬B p.1) ->
  Rps K H B ((ds.zip es).map λp=>D.tup [p.1,p.2]) (as.map V.ref)
 | [],es,xs,ys,as,r1,r2,hl,h=>by
  rw[n6] at r1;subst r1;simp at hl;subst hl;simp[n6]
 | d::ds,[],xs,ys,as,r1,r2,hl,h=>by
  rw[n6] at r2;subst r2;simp at hl;subst hl;simp[n6]
 | d::ds,e::es,xs,ys,as,r1,r2,hl,h=>by
  rw[p8] at r1 r2;obtain⟨x,xs',rfl,a1,a2⟩:=r1;obtain⟨y,J,rfl,b1,b2⟩:=r2;cases as with
  | nil=>simp at hl
  | cons a as =>
   have h0:=h (a,.tup [x,y]) A9;rw[List.zip_cons_cons,List.map_cons,List.map_cons,p8];refine⟨_,_,rfl,?_,ou0 a2 b2 (by simpa using hl) λp hp=>h p (A7 _ hp)⟩;rw[X4];refine⟨a,[x,y],rfl,⟨h0.2,h0.1⟩,?_⟩;rw[p8];refine⟨_,_,rfl,a1,?_⟩;rw[p8];exact⟨_,_,rfl,b1,by rw[n6]⟩
theorem oq0:FnR K (b80 K) sb0:=by
 intro H B xs ds d Q bad r h k;unfold sb0 at h;split at h<;>try cases h
 rename_i ds es;rw[p8] at r;obtain⟨x,r',rfl,r1,r⟩:=r;rw[p8] at r;obtain⟨y,r',rfl,r2,r⟩:=r;rw[n6] at r;subst r;rw[Z5] at r1 r2;obtain⟨q1,us,rfl,s1,t1⟩:=r1;obtain⟨q2,ws,rfl,s2,t2⟩:=r2;refine⟨q1,q2,us,ws,rfl,s1.to,s2.to,λt as hl O ht ft fa=>?_⟩;have J:(((t,HO.tup (as.map V.ref))::zf0 as (us.zip ws)).map Prod.fst)=t::as:=by rw[List.map_cons,nh0 hl]
 have hN:(((t,HO.tup (as.map V.ref))::zf0 as (us.zip ws)).map Prod.fst).Nodup:=by rw[J];exact L3.mpr ⟨ht,O⟩
 have fr:∀p∈((t,HO.tup (as.map V.ref))::zf0 as (us.zip ws)),H p.1=none:=λp hp=>by
  have:p.1∈t::as:=by rw[← J];exact Bl0 hp
  rcases B4.mp this with e|e
  ·rw[e];exact ft
  ·exact fa _ e
 have sm:Same H (xr0 H ((t,HO.tup (as.map V.ref))::zf0 as (us.zip ws))):=λb u e=>by
  rw[qa0 λp hp z=>by rw[← z,fr p hp] at e;cases e];exact e
 have nb:∀p∈((t,HO.tup (as.map V.ref))::zf0 as (us.zip ws)),¬B p.1:=λp hp z=>bad _ z (fr p hp)
 refine k _ _ sm ?_;rw[X4];refine⟨t,as.map V.ref,rfl,⟨nb _ A9,rk0 hN _ A9⟩,ou0 (t1.same sm) (t2.same sm) hl λp hp=>⟨rk0 hN p (A7 _ hp),nb p (A7 _ hp)⟩⟩
end DL
namespace L2
open Spec PyProof.Rows
section
variable{s:Shared}
theorem Inv.turnedL(I:Inv X pins σ H s)(hf:∀b∈fp,wm0 X pins H b)(k:∀b o,b∉fp->s.heap.get? b=some o->h'.get? b=some o):Inv X pins σ H { s with heap:=h',toks:=t' }:=by
 have J:∀b u,H b=some u->b∉fp:=λb u e z=>by rw[(hf b z).1] at e;cases e
 refine I.step (g':=s.gens) (d':=s.drawn) (ch:=fp) (λb hb=>⟨(hf b hb).2.2.2.1,(hf b hb).2.1,(hf b hb).2.2.2.2.1,(hf b hb).2.2.2.2.2⟩) (λb o _ _ hc e _=>k b o hc e) (λb o _ _ hc e _=>⟨o.slots,k b o hc e⟩) (λ_ _ _ _ n=>n)
  (λb o hc e=>⟨o,k b o hc e⟩) (λ_ _ e=>e) (λ_ _ _ e=>e) (λb ps e=>⟨#[],by rw[e];simp⟩) (λm hm=>?_) (λb u e=>?_) I.bare
 ·obtain⟨o,es,ep,ho,r⟩:=hm
  exact⟨o,es,ep,k _ o (λz=>(hf _ z).2.1 rfl) ho,r⟩
 ·refine(I.hok b u e).stay (λc v hc q=>k c v ?_ q) (λ_ q=>q) (λ_ _ q=>q) λ_ _ _ q=>q
  rcases hc with z|z
  ·rw[z];exact J b u e
  ·exact J c _ z
theorem Inv.turnedNew{t':Nat}{x y:V}{w:Value}(I:Inv X pins σ H s)(hf:∀b∈fp,wm0 X pins H b)(rx:RelV x u)(ry:RelV y w)(hlt:∀b∈fp,b<s.heap.objs.size)
  (hob:h'.get? s.heap.objs.size=some { cls:=.type "tuple",data:=.seq #[u,w] }) (k:∀b o,b∉fp->s.heap.get? b=some o->h'.get? b=some o) :
  Inv X pins σ (upd H s.heap.objs.size (.tup [x,y])) { s with heap:=h',toks:=t' }/\∀b∈fp,upd H s.heap.objs.size (.tup [x,y]) b=none:=by
 have ne:∀b∈fp,b≠s.heap.objs.size:=λb hb=>A5 (hlt b hb)
 have fr:∀b∈fp,upd H s.heap.objs.size (.tup [x,y]) b=none:=λb hb=>by rw[o6 (ne b hb)];exact(hf b hb).1
 have I1:Inv X pins σ (upd H s.heap.objs.size (.tup [x,y])) { s with heap:=s.heap.push { cls:=.type "tuple",data:=.seq #[u,w] },toks:=t' } :=
  I.laid (λb o e=>A6 _ e) (A1 _) ⟨(by show 2<=sizeLine;decide),[u,w],.cons rx (.cons ry .nil),⟨_,B7 _ rfl,rfl,_,rfl,rfl⟩⟩
 refine⟨Inv.turnedL (s:={ s with heap:=s.heap.push { cls:=.type "tuple",data:=.seq #[u,w] },toks:=t' }) (t':=t') (fp:=fp) I1 (λb hb=>⟨fr b hb,(hf b hb).2⟩) λb o hb e=>?_,fr⟩;rcases Heap.get?_push_cases e with⟨rfl,rfl⟩|e
 ·exact hob
 ·exact k b o hb e
end
def Ite(K:W.Frag)(a:Addr):It :=
 ⟨λi H=>∃xs x,SqL K H a xs/\xs[i]?=some x,
   λi H v H'=>∃t x,v=.ref t/\H t=none/\H'=upd H t (.tup [.int (i:Int),x])/\∀xs,SqL K H a xs->xs[i]?=some x,
   λi H=>∃xs,SqL K H a xs/\xs.length<=i⟩
theorem f80{P:Program}{w:World}{x1}{e:Addr}(hei:e≠it):Turn P w K (.Tuple elts x1 pos) (Ite K a) [e,it] e
  (λi h=>(∃old,IsEnum h e it i old)/\h.IsListIter it a i) where
 mem:=by simp
 obj:=λi h st c hc=>by
  obtain⟨⟨old,he⟩,⟨o1,e1,c1,d1⟩⟩:=st;simp only[List.mem_cons,List.not_mem_nil,or_false] at hc;rcases hc with rfl|rfl
  ·exact⟨_,he,λv z=>nomatch z⟩
  ·exact⟨_,e1,λv z=>by rw[d1] at z;cases z⟩
 keep:=λi h h' st k=>by
  obtain⟨⟨old,he⟩,h1⟩:=st;exact⟨⟨old,k e (by simp) _ he⟩,h1.at λo x=>k it (by simp) o x⟩
 item:=by
  intro X hP hw hK hc i pins s σ H E I hf st hg;subst hP hw hK;obtain⟨⟨old,he⟩,h1⟩:=st;obtain⟨xs,x,hq,hx⟩:=hg;obtain⟨us,rv,p1,z1⟩:=I.list hq;obtain⟨u,hu,ru⟩:=rv.get hx;refine wpAny_pyNext_enum_item he h1 p1.isList (x:=u) (by simpa using hu) hei λh' a1 a2 a3 a4 hk=>?_
  refine⟨_,rfl,wpAny_letOwnedTupleGo_enum (s:={ s with heap:=h',toks:=s.toks+1 }) a1 λJ b1 hs=>?_⟩;have le:=A3 he;obtain⟨o1,e1,_⟩:=id h1;have l1:=A3 e1;obtain⟨I1,fr⟩:=I.turnedNew (h':=J) (t':=s.toks+1) (fp:=[e,it]) (x:=.int (i:Int)) (u:=.int i s.toks) hf ⟨_,rfl⟩ ru (λc hc=>by
   simp only[List.mem_cons,List.not_mem_nil,or_false] at hc;rcases hc with rfl|rfl<;>assumption) ((hs.2 _ (B6 le)).trans a3) (λc o hc x=>by
   simp only[List.mem_cons,List.not_mem_nil,or_false,not_or] at hc;exact(hs.2 _ hc.1).trans (hk c o hc.1 hc.2 x))
  exact⟨.ref s.heap.objs.size,_,I1,rfl,⟨_,x,rfl,I.hok.fresh (A1 _),rfl,λys hy=>by rw[I.list_inj hy hq];exact hx⟩,⟨⟨_,by simpa using b1⟩,a2.at λo y=>(hs.2 it hei.symm).trans y⟩,fr⟩
 done:=by
  intro X hP hw hK hc i pins s σ H E I hf st hg;subst hP hw hK;obtain⟨⟨old,he⟩,h1⟩:=st;obtain⟨xs,hq,O⟩:=hg;obtain⟨us,rv,p1,z1⟩:=I.list hq;have l1:=rv.length;refine wpAny_pyNext_enum_end (I.ok.hd hc) he h1 p1.isList (by simp;omega) λh' hk=>⟨rfl,I.turnedL (t':=s.toks) (fp:=[e,it]) hf λc o hc x=>?_⟩
  simp only[List.mem_cons,List.not_mem_nil,or_false,not_or] at hc;exact hk c o hc.2 x
 self:=λ_ _ _ _ _ st h=>by
  obtain⟨⟨old,he⟩,_⟩:=st;exact wpAny_pyIter_enum he h
theorem gn0:bootBuiltins "enumerate"=some (.type "enumerate"):=by decide +kernel
def Vm0(K:W.Frag)(ta:TA):TI:=fun σ H R=>ta σ H λvs H1=>∃a,vs=[.ref a]/\(∃xs,SqL K H1 a xs)/\R (Ite K a) H1
theorem Z50{a:Expr}{ta:TA}{p pos:Pos}(hg:Gl X "enumerate")(hm:X.mg "enumerate"=none)(ha:PA X [a] ta)(hs:starEach [a] X.env=[(false,eval a X.env)]:=by rfl) :
  PI X (.Tuple elts x1 tpos) (.Call (.Name "enumerate" p) [a] [] pos) (Vm0 X.K ta):=by
 intro pins s σ H R I h;refine Call_ (zi0 I hg hm gn0 (E4 (thn (ha pos pins s σ H _ I h) λus s1 ⟨vs,H1,I1,r1,q1⟩=>?_) hs rfl));obtain⟨qa,e,⟨xs,h1⟩,q⟩:=q1;subst e;cases r1 with
 | cons r rr =>
  cases rr;obtain rfl:=r;obtain⟨us1,v1,p1,z1⟩:=I1.list h1;refine call_enumerate_list p1.isList λh' hz J O hk=>?_
  refine wpAny_pyIter_enum (s:={ s1 with heap:=h' }) hz ?_;refine⟨_,_,_,_,H1,rfl,I1.kept (t':=s1.toks) hk,f80 (B6 (t5 _)),⟨⟨_,hz⟩,J⟩,λb hb=>?_,q⟩;simp only[List.mem_cons,List.not_mem_nil,or_false] at hb;rcases hb with rfl|rfl
  ·exact I1.fpOk (P7 _ 1) (I1.hok.fresh (P7 _ 1))
  ·exact I1.fpOk (A1 _) (I1.hok.fresh (A1 _))
end L2
namespace DL
open Spec PyProof.Rows L2
section
variable{a:Expr}
theorem Zh0{t:Addr}{x y:V}{d e:D}(hn:¬B t)(ht:H t=some (.tup [x,y]))(r1:Rp K H B d x)(r2:Rp K H B e y):Rp K H B (.tup [d,e]) (.ref t):=by
 rw[X4];refine⟨t,[x,y],rfl,⟨hn,ht⟩,?_⟩;rw[p8];refine⟨_,_,rfl,r1,?_⟩;rw[p8];exact⟨_,_,rfl,r2,by rw[n6]⟩
theorem dw0(hm:X.mg "enumerate"=none)(ha:PDA X [a] gA)(hg:Gl X "enumerate" := by rfl)(hs:starEach [a] X.env=[(false,eval a X.env)]:=by rfl) :
  PID X (.Tuple elts x1 tpos) (.Call (.Name "enumerate" p) [a] [] pos) (qf0 gA):=.mk λB δ=>L2.PI.imp (Z50 hg hm (ha B δ) hs) fun σ H R ⟨items,en,e1,k⟩=>by
 unfold qf0 at e1;cases e2:gA δ with
 | none=>rw[e2] at e1;cases e1
 | some ds =>
  rw[e2] at e1;simp only[Option.bind_some] at e1;unfold f50 at e1;split at e1<;>try cases e1
  rename_i ds;refine⟨_,en,e2,λvs H' s' r=>?_⟩;rw[p8] at r;obtain⟨x,t,rfl,r1,r⟩:=r;rw[n6] at r;subst r;rw[Z5] at r1;obtain⟨q1,us,rfl,s1,t1⟩:=r1;have J:(y70 ds).length=us.length:=by unfold y70;simp[t1.length]
  refine⟨q1,rfl,⟨us,s1.to⟩,k _ H' s' ⟨λi H2 g2 hi=>?_,λi H2 v H3 g2 y hi=>?_,λi H2 g2 hi=>?_⟩⟩
  ·rw[J] at hi
   exact⟨us,us[i],(s1.mono g2).to,by simp[hi]⟩
  ·obtain⟨t,x,rfl,ht,rfl,hx⟩:=y
   rw[J,t1.length] at hi;obtain⟨x',e4,rx⟩:=t1.get (i:=i) (C7 hi);have ex:=hx us (s1.mono g2).to;rw[e4] at ex;cases ex;refine⟨Z1 ht,.tup [.int (i:Int),ds[i]],by unfold y70;simp[hi],λB' gB hb=>?_⟩;exact Zh0 (λz=>hb t z ht) m8 (by rw[j5]) (rx.mono gB)
  ·rw[J] at hi
   exact⟨us,(s1.mono g2).to,hi⟩
end
mutual
theorem je0(hB:∀a,B a->B' a∨(∃xs,H a=some (.lst xs))∨∃ks xs,H a=some (dOb ks xs)):∀(d:D) (v:V),tree d=true->Rp K H B' d v->Rp K H B d v
 | .non,v,_,r=>by rw[U4] at r ⊢;exact r
 | .bl _,v,_,r=>by rw[W7] at r ⊢;exact r
 | .int _,v,_,r=>by rw[j5] at r ⊢;exact r
 | .str _,v,_,r=>by rw[Z9] at r ⊢;exact r
 | .lst _,v,h,_=>by unfold tree at h;cases h
 | .dct _ _,v,h,_=>by unfold tree at h;cases h
 | .fn _ _,v,h,_=>by unfold tree at h;cases h
 | .tup ds,v,h,r=>by
  unfold tree at h;rw[X4] at r ⊢;obtain⟨a,xs,rfl,q,rs⟩:=r;refine⟨a,xs,rfl,?_,la0 hB ds xs h rs⟩;obtain⟨n,q⟩:=q;refine⟨λz=>?_,q⟩;rcases hB a z with z|⟨ys,z⟩|⟨ks,ys,z⟩
  ·exact n z
  ·rw[z] at q;cases q
  ·rw[z] at q;cases ks<;>cases q
theorem la0(hB:∀a,B a->B' a∨(∃xs,H a=some (.lst xs))∨∃ks xs,H a=some (dOb ks xs)):∀(ds:List D) (vs:List V),trees ds=true->Rps K H B' ds vs->Rps K H B ds vs
 | [],vs,_,r=>by rw[n6] at r ⊢;exact r
 | d::ds,vs,h,r=>by
  unfold trees at h;rw[Bool.and_eq_true] at h;rw[p8] at r ⊢;obtain⟨x,t,rfl,r1,r2⟩:=r;exact⟨x,t,rfl,je0 hB d x h.1 r1,la0 hB ds t h.2 r2⟩
end
theorem ag0{g:GE}(h:PD X e g):PD X e (ta0 g):=.mk λB δ pins s σ H Q I ⟨d,en,hq,k⟩=>by
 obtain⟨B',c1,c2,J⟩:=en.frz;unfold ta0 at hq;cases e1:g (frz δ) with
 | none=>rw[e1] at hq;cases hq
 | some x =>
  rw[e1] at hq
  by_cases hf:tree x=true
  ·simp only[Option.bind_some,if_pos hf] at hq
   cases hq;refine h B' (frz δ) pins s σ H Q I ⟨_,J,e1,λv H' s' r=>k v H' s' (je0 (λa z=>?_) _ _ hf r)⟩;rcases c2 a z with q|⟨i,d',h1,h2⟩
   ·exact .inl q
   ·obtain⟨o,h3,a',e4,_,ro⟩:=Pd.get en.all h1
    rw[h2] at h3;cases h3;cases e4;cases d'<;>try exact ro.elim
    ·obtain⟨_,_,xs,e5,_⟩:=ro;exact .inr (.inl ⟨xs,s' _ _ e5⟩)
    ·obtain⟨xs,e5,_⟩:=ro;exact .inr (.inl ⟨xs,s' _ _ e5⟩)
    ·obtain⟨xs,e5,_⟩:=ro;exact .inr (.inr ⟨_,_,s' _ _ e5⟩)
  ·simp only[Option.bind_some,if_neg hf] at hq
   cases hq
def av0:List V->Hp->VK->Prop:=λvs H Q=>∃a kvs,vs=[.ref a]/\H a=some (.dK kvs)/\∀l,H l=none->Q (.ref l) (upd H l (.dK kvs))
theorem ke0:CallR X (.type "dict") av0:=by
 intro pins s σ H vs us Q I r h;obtain⟨a,kvs,rfl,ha,k⟩:=h;cases r with
 | cons r rr =>
  cases rr;obtain rfl:=r;obtain⟨hz,hS,ws,rv,m⟩:kvs.length<=sizeLine/\(a==sysModules)=false/\∃vs,KV kvs vs/\s.heap.DictOf (Q7 X.prog X.w) a vs:=I.hok a _ ha;have hl:kvs.length=ws.length:=c9 rv;have hb:sysModules<s.heap.objs.size:=E7 (by decide) ((I.mod.glob.keeps I.bk).lt:mainGlobals<s.heap.objs.size);refine kt_call_dict hS m (by rw[← hl];exact hz) λh' hd hs=>?_
  have hf:H s.heap.objs.size=none:=I.hok.fresh (A1 _);refine⟨.ref s.heap.objs.size,_,I.laid (a:=s.heap.objs.size) (o:=.dK kvs) (t':=s.toks) (λb o q=>(hs.2 b (A5 (A3 q))).trans (A6 _ q)) (A1 _)
   ⟨hz,P8.mpr (A4 (A5 hb)),ws,rv,hd⟩,rfl,k _ hf⟩
theorem ho0(hm:X.mg "dict"=none)(hv:bootBuiltins "dict"=some (.type "dict"))(ha:PD X e g)(hg:Gl X "dict" := by rfl)
  (he:starEach [e] X.env=(false,eval e X.env)::starEach [] X.env:=by rfl) (hpl:(backTo pos (starEach [] X.env)).any (·.1)=false:=by rfl) :
  PDF X (.Call (.Name "dict" p) [e] [] pos) (oA (z7 g v6) u00):=.mk λB δ=>(ty0 ke0 hg hm hv (R5 (ha B δ) J0 he) (by decide) (by decide) he hpl).imp fun σ H Q ⟨d,en,h,k⟩=>by
 unfold oA z7 v6 at h;cases e1:g δ with
 | none=>rw[e1] at h;cases h
 | some x =>
  rw[e1] at h;simp only[Option.bind_some,Option.map_some] at h;refine⟨x,en,e1,λv H1 s1 r1=>?_⟩;cases x<;>try (simp only[u00] at h;cases h;done)
  rename_i ks ds;cases ks with
  | inr ks=>simp only[u00] at h;cases h
  | inl ks =>
  simp only[u00] at h;cases h;rw[p20] at r1;obtain⟨q,xs,rfl,nq,hq,hl,rr⟩:=r1;exact⟨q,_,rfl,hq,λl J=>k l _ (s1.free J) (s1.trans (Z1 J)) ⟨xs,m8,hl,rr.mono (Gr.fresh J)⟩⟩
end DL
namespace DL
open Spec PyProof.Rows L2
@[simp] def y90(ga gb gc:GE)(f f':D->D->Option D):GE:=fun δ=>(ga δ).bind λx=>(gb δ).bind λy=>(f x y).bind λt=>(asB t).bind λk=>if k=true then (gc δ).bind λz=>f' y z else some (.bl false)
section
variable{a:Expr}{ga gc:Ds->Option D}
theorem eg0{r r':R2}{f f':D->D->Option D}(hf:Op2 K r f)(hf':Op2 K r' f'){σ:St}{Q:VK}(h:tD K B δ (y90 ga gb gc f f') σ H Q):e80 r r' (tD K B δ ga) (tD K B δ gb) (tD K B δ gc) σ H Q:=by
 obtain⟨d,en,h,k⟩:=h;unfold y90 at h;cases e1:ga δ with
 | none=>rw[e1] at h;cases h
 | some x =>
  cases e2:gb δ with
  | none=>rw[e1,e2] at h;cases h
  | some y =>
   rw[e1,e2] at h;simp only[Option.bind_some] at h;cases e3:f x y with
   | none=>rw[e3] at h;cases h
   | some t =>
    rw[e3] at h;simp only[Option.bind_some] at h;cases e4:asB t with
    | none=>rw[e4] at h;cases h
    | some kb =>
     rw[e4] at h;simp only[Option.bind_some] at h;cases qy0 e4;refine⟨x,en,e1,λv1 H1 s1 r1=>⟨y,en.same s1,e2,λv2 H2 s2 r2=>?_⟩⟩;refine hf H2 B v1 v2 x y _ _ ((en.same s1).same s2).bad (r1.same s2) r2 e3 λv H3 s3 r3=>?_
     rw[W7] at r3;refine⟨kb,r3,?_⟩;cases kb with
     | false =>
      rw[if_neg B8] at h ⊢;cases h;exact k _ H3 ((s1.trans s2).trans s3) (by rw[W7])
     | true =>
      rw[if_pos rfl] at h ⊢;cases e5:gc δ with
      | none=>rw[e5] at h;cases h
      | some z =>
       rw[e5] at h;simp only[Option.bind_some] at h;refine⟨z,((en.same s1).same s2).same s3,e5,λv4 H4 s4 r4=>?_⟩;exact hf' H4 B v2 v4 y z d _ ((((en.same s1).same s2).same s3).same s4).bad ((r2.same s3).same s4) r4 h λv' H5 s5 r5=>k v' H5 ((((s1.trans s2).trans s3).trans s4).trans s5) r5
theorem fb0{op op':CmpOp}{r r':R2}{f f':D->D->Option D}(ho:OpR X (compareOp op) r)(hf:Op2 X.K r f)(ho':OpR X (compareOp op') r')(hf':Op2 X.K r' f')(ha:PD X a ga)(hb:PD X b gb)(hc:PD X c gc)
  (hm:lastMarks [op,op'] [b,c]=false:=by with_unfolding_all rfl):PTD X (.Compare a [op,op'] [b,c] pos) (ob (y90 ga gb gc f f')) :=
 .mk λB δ=>(dk0 ho ho' (ha B δ) (hb B δ) (hc B δ) hm).imp fun σ H Q ⟨t,en,h,k⟩=>by
  unfold ob at h;cases e:y90 ga gb gc f f' δ with
  | none=>rw[e] at h;cases h
  | some d =>
   rw[e] at h;cases qy0 h;exact eg0 hf hf' ⟨_,en,e,λv H' s r=>⟨t,by rw[W7] at r;exact r,k H' s⟩⟩
open Builtin Builtin.Str Builtin.Int in
theorem Vv0{prog:Program}{w:World}{A:Around}{E:Value->Shared->Prop}{s:Shared}{x:Str}{n:Int}{t u:Tok}{Q:Value->Shared->Prop}(hr:(decide (n < -(2 ^ 63:Int))||decide (n ≥ 2 ^ 63))=false)
  (hb:¬n<1->(n==1||x.length==0)=false->¬((x.length:Int) > (2 ^ 63 - 1)/n)) (hl:¬n<1->(n==1||x.length==0)=false->tooLong (x.length*n.toNat)=false)
  (h:(if n<1 then Made.str Str.empty else if (n==1||x.length==0)=true then Made.val (.str x t) else Made.str ⟨(List.replicate n.toNat x.cps).foldl (·++·) #[]⟩).post Q s) :
  wpAny (model prog w) A (binaryOp .Mult (.int n u) (.str x t)) Q E s :=
 PySem.lm_binaryOp_repeat_right (T := "str") (U := "int") (by decide) (λs'=>N9 s' n u) (L6 s x t) PySem.F.fills_int_mul PySem.noFill_str_mul Bn0 PySem.lm_noRepeat_int PySem.repeat_str PySem.F.slot_int_index.lookup
  (call_gives Bn0 (N9 s n u) PySem.F.entry_int_mul (PySem.F.args_int_mul_2 _ _) (PySem.AutoIntG3.int___mul___int_str_0 n u x t)
   ⟨rfl,L6 _ x t,call_gives PySem.F.slot_str_mul (L6 s x t) PySem.F.entry_str_mul (PySem.F.args_str_mul_2 _ _) (gives_str_mul x n t u hr hb hl) h⟩)
end
end DL
namespace DL
open Spec PyProof.Rows L2
@[simp] def mr0:List D->Option D
 | [.int i,.int j]=>some (.int (if j > i then j else i))
 | _=>none
theorem Wm0:FnR K (λxs H Q=>∃i j,xs=[.int i,.int j]/\Q (.int (if j > i then j else i)) H) mr0:=by
 intro H B xs ds d Q hb r h k;unfold mr0 at h;split at h
 ·cases h
  obtain⟨v,v',rfl,r1,r2⟩:=aa0 r;rw[j5] at r1 r2;subst r1 r2;exact⟨_,_,rfl,k _ H (Same.refl H) (by rw[j5])⟩
 ·cases h
def rn0(i:Nat)(g:GE):GS:=fun δ=>match δ[i]? with
 | some (.sh (.int a))=>(g δ).bind λd=>match d with
  | .int b=>some (.nx (δ.set i (.sh (.int (a+b)))))
  | _=>none
 | _=>none
theorem i10(i:Nat)(hN:X.N.Nodup)(h:PD X e g)(hi:X.N[i]?=some x:=by rfl)(hx:Loc X.env.scope x:=by first|exact Or.inl rfl|exact Or.inr rfl)
  (hf:X.fn x=true∨X.env.scope.names.lookup x=some .local:=by first|exact .inl rfl|exact .inr rfl|assumption):PSD X (.AugAssign (.Name x pos') .Add e pos) (rn0 i g):=.mk λH₀ B₀ δ pins s σ H D I ⟨r,en,e1,k⟩=>by
 unfold rn0 at e1;obtain⟨B,b1,b2,env⟩:=en.ex;split at e1
 ·rename_i a ha
  cases e2:g δ with
  | none=>rw[e2] at e1;cases e1
  | some d =>
   rw[e2] at e1;simp only[Option.bind_some] at e1;cases d<;>simp only at e1<;>try cases e1
   rename_i b;obtain⟨v,hv,rv⟩:=env.get ha;rw[j5] at rv;subst rv;refine Xu0 hN hi hx (h B δ) Xf0 hf pins s σ H D I ⟨_,hv,.int b,env,e2,λv2 H1 s1 r1=>?_⟩;rw[j5] at r1;subst r1;refine⟨a,b,rfl,rfl,?_⟩;exact k _ H1 (en.wr b1 b2 s1 pl0 ((env.same s1).set i (by rw[j5])))
 ·cases e1
def flats(ds:List D):Bool:=ds.all flat
def lg0(g:GE):GE:=fun δ=>(g (frz δ)).bind λd=>match d with
 | .lst ds=>if flats ds=true then some (.lst ds) else none
 | _=>none
theorem am0{g:GE}(h:g (frz δ)=some (.lst ds))(hf:flats ds=true):lg0 g δ=some (.lst ds):=by
 unfold lg0;rw[h,Option.bind_some];simp only[];rw[if_pos hf]
section
variable{g:GE}
theorem nd0:∀{ds:List D} {xs:List V},flats ds=true->Rps K H B ds xs->Rps K H' B' ds xs
 | [],xs,_,r=>by rw[n6] at r ⊢;exact r
 | d::ds,xs,h,r=>by
  rw[p8] at r ⊢;obtain⟨x,r',e1,r1,r2⟩:=r;unfold flats at h;rw[List.all_cons,Bool.and_eq_true] at h;exact⟨x,r',e1,jg0 h.1 r1,nd0 (ds:=ds) h.2 r2⟩
theorem gr0(h:PDF X e g):PSD X (.Return (some e) pos) (O1 (ui0 g)):=.mk λH₀ B₀ δ pins s σ H D I ⟨r,en,hq,k⟩ =>
 X6 h H₀ B₀ (frz δ) pins s σ H D I ⟨r,en.frz,hq,k⟩
theorem dm0(h:PDF X e g):PDF X e (lg0 g):=.mk λB δ pins s σ H Q I ⟨d,en,hq,k⟩=>by
 obtain⟨B',c1,c2,J⟩:=en.frz;unfold lg0 at hq;cases e1:g (frz δ) with
 | none=>rw[e1] at hq;cases hq
 | some x =>
  rw[e1,Option.bind_some] at hq;cases x with
  | lst ds =>
   simp only[] at hq
   by_cases hf:flats ds=true
   ·rw[if_pos hf] at hq
    cases hq;exact h B' (frz δ) pins s σ H Q I ⟨_,J,e1,λp H' hp s' r=>k p H' hp s' (by
     obtain⟨xs,e5,r5⟩:=r;exact⟨xs,e5,nd0 hf r5⟩)⟩
   ·rw[if_neg hf] at hq;cases hq
  | non=>cases hq
  | bl _=>cases hq
  | int _=>cases hq
  | str _=>cases hq
  | tup _=>cases hq
  | dct _ _=>cases hq
  | fn _ _=>cases hq
end
end DL
namespace L2
open Spec PyProof.Rows
def Vc0:V->List V->Hp->VK->Prop:=λx vs H Q=>∃l xs y,x=.ref l/\vs=[.int 0,y]/\H l=some (.lst xs)/\xs.length<sizeLine/\Q .non (upd H l (.lst (y::xs)))
theorem Zn0:MtM X "list.insert" Vc0:=by
 intro pins s σ H x vs v us Q I rx rv h;obtain⟨l,xs,y,rfl,rfl,hH,hz,q⟩:=h;cases rx;obtain⟨u0,u,rfl,J,ru⟩:=rv.two;obtain⟨t0,rfl⟩:=J;obtain⟨z,its,n,r,hl,e⟩:=I.lstM hH;refine E6 F.slot_list_insert ⟨_,e,rfl⟩ F.entry_list_insert (F.args_list_insert_3 _ _ _) (PySem.AutoListH.list_insert_list_int_val_1 l its.toArray n 0 t0 u (by decide +kernel) (by rw[List.size_toArray];omega)) ⟨e,?_⟩;refine⟨.non,_,I.lset (its':=u::its) hH e ?_ (.cons ru r) ?_,rfl,q⟩
 ·simp
 ·rw[List.length_cons];omega
end L2
namespace DL
open Spec PyProof.Rows L2
@[simp] def th0:List D->Option D
 | [.str x]=>match x.cps.toList with
  | [c]=>some (.int (c:Nat))
  | _=>none
 | _=>none
theorem lc0:FnR K (λxs H Q=>∃x,xs=[.str x]/\x.length=1/\Q (.int (x.cps.getD 0 0:Nat)) H) th0:=by
 intro H B xs ds d Q hb r h k;unfold th0 at h;split at h
 ·rename_i x
  split at h
  ·rename_i c hc
   cases h;obtain⟨v,rfl,r1⟩:=G7 r;rw[Z9] at r1;subst r1;obtain⟨⟨l⟩⟩:=x;have:l=[c]:=hc;subst this;exact⟨_,rfl,rfl,k _ H (Same.refl H) (by rw[j5];rfl)⟩
  ·cases h
 ·cases h
def sm0(i:Nat)(g:GE):GX:=fun δ=>(owL i δ).bind λds=>(g δ).bind λd=>if ds.length<sizeLine then some (.non,δ.set i (.ow (.lst (d::ds)))) else none
section
variable{g:GE}
theorem bq0(i:Nat)(h:PD X e g)(hN:X.N[i]?=some x:=by rfl)(hv:Vis X.env.scope x:=by first|exact Or.inl rfl|exact Or.inr (Or.inl rfl)|exact Or.inr (Or.inr rfl))(hd:(x==("__debug__" : Str))=false:=by decide)(hcd:(x==("__classdict__" : Str))=false:=by decide)
  (hbase:attributeBase (.Name x px) "insert" X.env (eval (.Name x px) X.env)=eval (.Name x px) X.env:=by rfl)
  (hfew:((backTo cpos (starEach [.Constant (.int 0) j p0,e] X.env)).all (λx=>!x.1)&&(backToKw cpos (keywordEach [] X.env)).all (λx=>x.1.isSome)
  &&decide (([.Constant (.int 0) j p0,e]:List Expr).length+([]:List Keyword).length+(if ([]:List Keyword).isEmpty then 0 else 1)<30))=true:=by rfl)
  (hline:(apos.endLine==cpos.line)=true:=by rfl) (hs:starEach [.Constant (.int 0) j p0,e] X.env=(false,eval (.Constant (.int 0) j p0) X.env)::starEach [e] X.env:=by rfl) (hs1:starEach [e] X.env=(false,eval e X.env)::starEach [] X.env:=by rfl) (hplain:(backTo cpos (starEach [e] X.env)).any (·.1)=false:=by rfl) :
  PX X (.Call (.Attribute (.Name x px) "insert" apos) [.Constant (.int 0) j p0,e] [] cpos) (sm0 i g):=.mk λH₀ B₀ δ pins s σ H Q I ⟨r,en,e1,k⟩=>by
 unfold sm0 at e1;obtain⟨B,b1,b2,env⟩:=en.ex;cases e2:owL i δ with
 | none=>rw[e2] at e1;cases e1
 | some ds =>
  cases e3:g δ with
  | none=>rw[e2,e3] at e1;cases e1
  | some d =>
   rw[e2,e3] at e1;simp only[Option.bind_some] at e1;split at e1
   ·rename_i hz
    cases e1;have hi:=qu0 e2;obtain⟨a,J,hb,xs,hx,rx⟩:=env.at hi;refine ue0 P3 PySem.F.slot_list_insert PySem.F.type_list_insert Zn0 (xl0 (i:=i) hN hv hd hcd) (R5 ms0 (R5 (h B δ) J0 hs1) hs) hbase hfew hline hs hplain pins s σ H Q I
     ⟨_,J,.inl ⟨rfl,xs,.inl (.inl hx)⟩,d,env,e3,λv H1 s1 r1=>⟨a,xs,v,rfl,rfl,s1 _ _ hx,by rw[rx.length];exact hz,?_⟩⟩
    have O:Env X.K (upd H1 a (.lst (v::xs))) B σ (δ.set i (.ow (.lst (d::ds)))):=(env.same s1).mut hi J ⟨_,m8,by
     rw[p8];exact⟨v,xs,rfl,r1.mono (Gr.own hb),(rx.same s1).mono (Gr.own hb)⟩⟩
    exact k _ _ (EnvV.mk' (en.mut s1 b1 b2 hi J O) b1 b2 O (by rw[U4]))
   ·cases e1
end
end DL
namespace L2
open Spec PyProof.Rows
def U40(K:W.Frag):V->List V->Hp->VK->Prop:=λx vs H Q=>∃(p:Addr) (ys:List Str) (z:Str) (j:Nat),x=.ref p/\vs=[.str z]/\SqL K H p (ys.map V.str)/\ys[j]?=some z/\(∀m,m<j->ys[m]?≠some z)/\Q (.int (j:Int)) H
theorem s80:∀{ys:List Str} {us:List Value},Vals (ys.map V.str) us->∀(m:Nat) (y:Str),ys[m]?=some y->∃t,us[m]?=some (.str y t)
 | [],_,.nil,m,y,h=>by cases h
 | y'::ys,_,.cons r t,0,y,h=>by
  cases h;obtain⟨tk,rfl⟩:=r;exact⟨tk,rfl⟩
 | y'::ys,_,.cons r t,m+1,y,h=>by
  obtain⟨tk,e⟩:=s80 t m y (by simpa using h);exact⟨tk,by simpa using e⟩
theorem tc0:∀ys:List Str,(ys.map V.str).all sj0=true
 | []=>rfl
 | y::ys=>by
  rw[List.map_cons,List.all_cons,tc0 ys];rfl
theorem al0:MtR X "list.index" (U40 X.K):=by
 intro pins s σ H x vs v us Q I rx rv h;obtain⟨p,ys,z,j,rfl,rfl,hq,hj,Z,q⟩:=h;cases rx;obtain⟨u,rfl,ru⟩:=rv.one;obtain⟨its,r,pl,hz⟩:=I.list hq;obtain⟨o,n,h1,h2,h3⟩:=id pl;have a3:its.length=ys.length:=by rw[← r.length,List.length_map]
 have a4:j<ys.length:=(C0.mp hj).1;have J:∀m (hm:m<its.toArray.size),∃y t,ys[m]?=some y/\its.toArray[m]=.str y t:=λm hm=>by
  have Y:m<ys.length:=by rw[List.size_toArray] at hm;omega
  obtain⟨t,e⟩:=s80 r m ys[m] (C7 Y);refine⟨ys[m],t,C7 Y,?_⟩;have:its[m]?=some its[m]:=C7 (by omega);rw[this] at e;have e':=B3 e
  simpa using e'
 obtain⟨c0,dd,dt,sl⟩:=o;obtain rfl:c0=.type "list" := h2;obtain⟨rfl,rfl⟩:dd=none/\dt=.seq its.toArray n:=h3;obtain⟨t,rfl⟩:=ru;have O:∀(y:Str) (tk:Tok),eqU (.str z) (.str y tk)=true↔y=z:=λy tk=>by
  show (eqV (.str y) (.str z))=true↔_;simp[eqV]
 have a2:(j:Int)<2 ^ 63 - 1:=by
  have h5:ys.length<=sizeLine:=by rw[List.length_map] at hz;exact hz
  have h6:sizeLine<2 ^ 62:=by decide
  omega
 refine E6 (T := "list") F.slot_list_index (show s.TypeIs (.ref p) "list" from ⟨_,h1,rfl⟩) F.entry_list_index (F.args_list_index_2 _ _) (SeqAt.list_indexAt p its.toArray n none sl (.str z t) (eqU (.str z)) j (by rw[List.size_toArray];omega) a2 ?_ ?_) ⟨h1,λy hy=>q80 (x:=.str z) ⟨t,rfl⟩ rfl r (tc0 ys) y (by simpa using hy),⟨.int (j:Int),H,I.tok _,⟨_,rfl⟩,q⟩⟩
 ·obtain⟨y,tk,e1,e2⟩:=J j (by rw[List.size_toArray];omega)
  rw[e2,O];rw[hj] at e1;cases e1;rfl
 ·intro m hm a1
  obtain⟨y,tk,e1,e2⟩:=J m hm;rw[e2];cases hb:eqU (.str z) (.str y tk) with
  | false=>rfl
  | true=>exact absurd ((O y tk).mp hb▸e1) (Z m a1)
end L2
namespace DL
open Spec PyProof.Rows L2
def ix0:D->List D->Option D
 | .lst ds,[.str z]=>(z50 ds).bind λys=>(ys.findIdx? λy=>decide (y=z)).map λj=>.int (j:Int)
 | _,_=>none
theorem c40:∀{ds:List D} {ys:List Str} {xs:List V},z50 ds=some ys->Rps K H B ds xs->xs=ys.map V.str:=by
 intro ds
 induction ds with
 | nil =>
  intro ys xs h r;rw[n6] at r;subst r;simp only[z50] at h;cases h;rfl
 | cons d ds ih =>
  intro ys xs h r;rw[p8] at r;obtain⟨x,r',rfl,r1,r2⟩:=r;cases d<;>simp only[z50] at h<;>try cases h
  rename_i s;cases e1:z50 ds with
  | none=>rw[e1] at h;cases h
  | some zs =>
   rw[e1] at h;cases h;rw[Z9] at r1;subst r1;rw[ih e1 r2];rfl
theorem X40(ho:PD X o g)(ha:PDA X [e] gA)(hbase:attributeBase o "index" X.env (eval o X.env)=eval o X.env:=by rfl)
  (hfew:((backTo cpos (starEach [e] X.env)).all (λx=>!x.1)&&(backToKw cpos (keywordEach [] X.env)).all (λx=>x.1.isSome)
  &&decide ([e].length+([]:List Keyword).length+(if ([]:List Keyword).isEmpty then 0 else 1)<30))=true:=by rfl)
  (hline:(apos.endLine==cpos.line)=true:=by rfl) (hs:starEach [e] X.env=(false,eval e X.env)::starEach [] X.env:=by rfl) (hplain:(backTo cpos (starEach [] X.env)).any (·.1)=false:=by rfl) :
  PD X (.Call (.Attribute o "index" apos) [e] [] cpos) (mh0 g gA ix0):=.mk λB δ =>
 (ue0 F.plainAttrs_list F.slot_list_index F.type_list_index al0 (ho B δ) (ha B δ) hbase hfew hline hs hplain).imp fun σ H Q ⟨d,en,h,k⟩=>by
  unfold mh0 at h;cases e1:g δ with
  | none=>rw[e1] at h;cases h
  | some x =>
   cases e2:gA δ with
   | none=>rw[e1,e2] at h;cases h
   | some es =>
    rw[e1,e2] at h;simp only[Option.bind_some] at h;unfold ix0 at h;split at h
    ·rename_i ds z
     cases e3:z50 ds with
     | none=>rw[e3] at h;cases h
     | some ys =>
      rw[e3,Option.bind_some] at h;cases e4:ys.findIdx? (λy=>decide (y=z)) with
      | none=>rw[e4] at h;cases h
      | some j =>
       rw[e4] at h;cases h;refine⟨_,en,e1,λv H1 s1 r1=>?_⟩;rw[Z5] at r1;obtain⟨p,xs,rfl,hq,rx⟩:=r1;obtain rfl:=c40 e3 rx;refine⟨.inl ⟨rfl,_,hq.to⟩,_,en.same s1,e2,λvs H2 s2 r2=>?_⟩;rw[p8] at r2;obtain⟨y,rr,rfl,r3,r4⟩:=r2;rw[n6] at r4;subst r4;rw[Z9] at r3;subst r3;obtain⟨hj,h1,h2⟩:=Bq0.mp e4;refine⟨p,ys,z,j,rfl,rfl,(hq.mono (Gr.same s2)).to,?_,λm hm he=>?_,k _ _ (s1.trans s2) (by rw[j5])⟩
       ·rw[List.getElem?_eq_getElem hj,of_decide_eq_true h1]
       ·have J:m<ys.length:=by omega
        rw[List.getElem?_eq_getElem J] at he;exact h2 m hm (Y1 (B3 he))
    ·cases h
end DL
namespace PySem.SeqAt
open PySem.AutoSeq1 (wpAny_loadPart')
open MeetsSeq MeetsSeq2 MeetsSeq3 SeqRoads2
theorem sw0{M:Model}{A:Around}{E:Value->Shared->Prop}{s:Shared}(f:Nat->β->Sem (ForInStep β))(I:List Nat->β->Shared->Prop)(Q:β->Shared->Prop)
  (turn:∀x rest b s,I (x::rest) b s->wpAny M A (f x b) (λr s'=>match r with|.yield b'=>I rest b' s'|.done b'=>Q b' s') E s)
  (fin:∀b s,I [] b s->Q b s) (lo hi:Nat) (b:β) (h:I (List.range' lo (hi - lo)) b s):wpAny M A (forIn [lo:hi] b f) Q E s:=by
 have e:(forIn [lo:hi] b f:Sem β)=forIn (List.range' lo (hi - lo)) b f:=by simp
 rw[e];exact wpAny_forIn_list f I Q turn fin _ b h
theorem tuple_indexAt(l:Addr)(items:Array Value)(n:Nat)(dd:Option Addr)(sl:Array (Option Value))(x:Value)(e:Value->Bool)(j:Nat)(hj:j<items.size)
  (hit:e items[j]=true) (hno:∀m (hm:m<items.size),m<j->e items[m]=false) :
  Meets (Builtin.«tuple.index» ⟨[.ref l,x],[]⟩)
   (λA R s=>s.heap.get? l=some { cls:=.type "tuple",dict:=dd,data:=.seq items n,slots:=sl }/\(∀y,y∈items->EqAt A.in1 s y x (e y))/\R (.ok (.ret (.int j s.toks))) { s with toks:=s.toks+1 }) :=
 .of_wp λprog w A R s h=>by
  obtain⟨hp,g,d,tk,os⟩:=s;obtain⟨hl,he,h⟩:=h
  wp_walk using r9 hl,sw0 _ (λrest b s'=>b.1=none/\s'=⟨hp,g,d,tk,os⟩/\∃i,i<=j/\rest=List.range' i (items.size - i)) _
  case turn =>
   rintro y rest b s' ⟨hb,rfl,i,hi,hr⟩;have J:i<items.size:=by omega
   have e1:items.size - i=(items.size - (i+1))+1:=by omega
   rw[e1,List.range'_succ] at hr;obtain⟨rfl,rfl⟩:=List.cons.inj hr;have hy:items[y]?=some items[y]:=by simp[J]
   rw[hy];refine A0 (he items[y] (Array.getElem_mem J) prog w _ _ ?_)
   by_cases hyj:y=j
   ·subst hyj
    rw[hit]
    wp_walk
    exact⟨_,rfl,h⟩
   ·rw[hno y J (by omega)]
    wp_walk
    exact⟨rfl,rfl,y+1,by omega,rfl⟩
  case fin =>
   rintro b s' ⟨hb,rfl,i,hi,hr⟩;have:=E3 List.length hr;simp at this;omega
  case h =>
   exact⟨rfl,rfl,0,B9 _,by simp⟩
end PySem.SeqAt
namespace L2
open Spec PyProof.Rows
def CMulW(i j:Int):Prop:=i.natAbs.log2<=2000000/\j.natAbs.log2<=2000
instance decMulW(i j:Int):Decidable (CMulW i j):=inferInstanceAs (Decidable (i.natAbs.log2<=2000000/\j.natAbs.log2<=2000))
theorem CMulW.ok{i j:Int}(h:CMulW i j):IntMulOk i j:=by
 obtain⟨h1,h2⟩:=h;have b1:Builtin.Int.intBits i<=2000001:=by unfold Builtin.Int.intBits;split<;>omega
 have b2:Builtin.Int.intBits j<=2001:=by unfold Builtin.Int.intBits;split<;>omega
 unfold IntMulOk Builtin.Int.intTooBig;intro h;rw[Bool.and_eq_true] at h;have h3:=P6 h.2;rw[bitsLine_eq] at h3;omega
theorem Z20:OpR X (binaryOp .Mult) (rI CMulW λi j=>.int (i*j)):=opI λ_ _ _ _ _ _ _ hc q=>mul_int q hc.ok
def V30(K:W.Frag):V->List V->Hp->VK->Prop:=λx vs H Q=>∃(p:Addr) (ys:List Str) (z:Str) (j:Nat),x=.ref p/\vs=[.str z]/\SqT K H p (ys.map V.str)/\ys[j]?=some z/\(∀m,m<j->ys[m]?≠some z)/\Q (.int (j:Int)) H
theorem Zx0:MtR X "tuple.index" (V30 X.K):=by
 intro pins s σ H x vs v us Q I rx rv h;obtain⟨p,ys,z,j,rfl,rfl,hq,hj,Z,q⟩:=h;cases rx;obtain⟨u,rfl,ru⟩:=rv.one;obtain⟨its,r,pl,hz⟩:=I.tuple hq;obtain⟨o,h1,h2,n,h3⟩:=id pl;have a2:its.length=ys.length:=by rw[← r.length,List.length_map]
 have a3:j<ys.length:=(C0.mp hj).1;have J:∀m (hm:m<its.toArray.size),∃y t,ys[m]?=some y/\its.toArray[m]=.str y t:=λm hm=>by
  have Y:m<ys.length:=by rw[List.size_toArray] at hm;omega
  obtain⟨t,e⟩:=s80 r m ys[m] (C7 Y);refine⟨ys[m],t,C7 Y,?_⟩;have:its[m]?=some its[m]:=C7 (by omega);rw[this] at e;have e':=B3 e
  simpa using e'
 obtain⟨c0,dd,dt,sl⟩:=o;obtain rfl:c0=.type "tuple" := h2;obtain rfl:dt=.seq its.toArray n:=h3;obtain⟨t,rfl⟩:=ru;have O:∀(y:Str) (tk:Tok),eqU (.str z) (.str y tk)=true↔y=z:=λy tk=>by
  show (eqV (.str y) (.str z))=true↔_;simp[eqV]
 refine E6 (T := "tuple") F.slot_tuple_index (show s.TypeIs (.ref p) "tuple" from ⟨_,h1,rfl⟩) F.entry_tuple_index (F.args_tuple_index_2 _ _) (SeqAt.tuple_indexAt p its.toArray n dd sl (.str z t) (eqU (.str z)) j (by rw[List.size_toArray];omega) ?_ ?_) ⟨h1,λy hy=>q80 (x:=.str z) ⟨t,rfl⟩ rfl r (tc0 ys) y (by simpa using hy),⟨.int (j:Int),H,I.tok _,⟨_,rfl⟩,q⟩⟩
 ·obtain⟨y,tk,e1,e2⟩:=J j (by rw[List.size_toArray];omega)
  rw[e2,O];rw[hj] at e1;cases e1;rfl
 ·intro m hm a1
  obtain⟨y,tk,e1,e2⟩:=J m hm;rw[e2];cases hb:eqU (.str z) (.str y tk) with
  | false=>rfl
  | true=>exact absurd ((O y tk).mp hb▸e1) (Z m a1)
def l40(K:W.Frag)(mg:Str->Option Value)(x:Str)(ys:List Str):Prop :=
 ∃(a:Addr) (o:Obj) (its:Array Value) (n:Nat),mg x=some (.ref a)/\K.lookup a=some o/\o.cls=.type "tuple"/\o.dict=none/\o.data=.seq its n/\its.size<=sizeLine/\Vals (ys.map V.str) its.toList
end L2
namespace DL
open Spec PyProof.Rows L2
@[simp] def dl0:D->D->Option D:=ii λi j=>if i.natAbs.log2<=2000000/\j.natAbs.log2<=2000 then some (.int (i*j)) else none
def g50(ys:List Str):List D->Option D
 | [.str z]=>(ys.findIdx? λy=>decide (y=z)).map λj=>.int (j:Int)
 | _=>none
section
variable{a:Expr}{ga gb:GE}{gA:GA}{ys:List Str}
theorem Zp0(ha:PD X a ga)(hb:PD X b gb):PD X (.BinOp a .Mult b pos) (o2 ga gb dl0):=v90 Z20 (tf0 (C:=CMulW) (g':=λi j=>.int (i*j)) λ_ _ _ _=>by rw[j5]) ha hb
theorem a00(hK:l40 X.K X.mg x ys)(ha:PDA X [e] gA)(hg:Gl X x:=by rfl)(hd:(x==("__debug__" : Str))=false:=by decide)
  (hbase:attributeBase (.Name x p0) "index" X.env (eval (.Name x p0) X.env)=eval (.Name x p0) X.env:=by rfl)
  (hfew:((backTo cpos (starEach [e] X.env)).all (λx=>!x.1)&&(backToKw cpos (keywordEach [] X.env)).all (λx=>x.1.isSome)
  &&decide ([e].length+([]:List Keyword).length+(if ([]:List Keyword).isEmpty then 0 else 1)<30))=true:=by rfl)
  (hline:(apos.endLine==cpos.line)=true:=by rfl) (hs:starEach [e] X.env=(false,eval e X.env)::starEach [] X.env:=by rfl) (hplain:(backTo cpos (starEach [] X.env)).any (·.1)=false:=by rfl) :
  PD X (.Call (.Attribute (.Name x p0) "index" apos) [e] [] cpos) (oA gA (g50 ys)):=.mk λB δ=>by
 obtain⟨p,o,its,n,hm,hk,hc,J,O,Y,hv⟩:=hK;refine(ue0 F.plainAttrs_tuple F.slot_tuple_index F.type_tuple_index Zx0 (sl0 (v:=.ref p) hg hm rfl hd) (ha B δ) hbase hfew hline hs hplain).imp fun σ H Q ⟨d,en,h,k⟩=>?_
 unfold oA at h;cases e2:gA δ with
 | none=>rw[e2] at h;cases h
 | some es =>
  rw[e2,Option.bind_some] at h;unfold g50 at h;split at h
  ·rename_i z
   cases e4:ys.findIdx? (λy=>decide (y=z)) with
   | none=>rw[e4] at h;cases h
   | some j =>
    rw[e4] at h;cases h;refine⟨.inr (.inl ⟨rfl,o,hk,hc,J⟩),_,en,e2,λvs H2 s2 r2=>?_⟩;rw[p8] at r2;obtain⟨y,rr,rfl,r3,r4⟩:=r2;rw[n6] at r4;subst r4;rw[Z9] at r3;subst r3;obtain⟨hj,h1,h2⟩:=Bq0.mp e4;refine⟨p,ys,z,j,rfl,rfl,.inr ⟨o,its,n,hk,hc,O,Y,hv⟩,?_,λm hm he=>?_,k _ _ s2 (by rw[j5])⟩
    ·rw[List.getElem?_eq_getElem hj,of_decide_eq_true h1]
    ·have Z:m<ys.length:=by omega
     rw[List.getElem?_eq_getElem Z] at he;exact h2 m hm (Y1 (B3 he))
  ·cases h
end
end DL
namespace Att
open PySem.W PySem.Calls PyProof.Rows
theorem jp0(W:Nat):∀ns:List Int,WData.weightAll (ns.map .int)<=W->∀z∈ns,z.natAbs.log2<=W
 | [],_,z,hz=>by cases hz
 | n::ns,h,z,hz=>by
  rw[List.map_cons,WData.weightAll] at h;rcases B4.mp hz with rfl|hz
  ·have h1:WData.weight (.int z)<=W:=by omega
   unfold WData.weight at h1
   by_cases q:z=0
   ·subst q;exact B9 _
   ·rw[if_neg (by simpa using q)] at h1
    omega
  ·exact jp0 W ns (by omega) z hz
theorem k30{l:OpenLaw}{n:Nat}{q:Program}{loose:List Str}{XP:(Str->Option Value)->Heap->Prop}{YP:World->Heap->Prop}{d:DefRec}
  (hn:l.most=some n) (hdf:d.params.defaults=[])
  (call:∀(w:World) (s₀ s₁:Shared) (mg mb:Str->Option Value) (fa:Addr) (o:Obj) (pm cd doc:Value) (a:Addr) (vs:List Value) (ns:List Int),
   Ground q loose [] XP w s₀ mg mb s₁.heap->YP w s₁.heap ->
   s₁.heap.get? fa=some o->o.data=.func (docDef d.name d.params d.body d.scope pm cd doc)->s₁.heap.CodeRec cd d.name->mg d.name=some (.ref fa) ->
   s₁.heap.get? a=some { cls:=.type "list",data:=.seq vs.toArray }->IntsAre vs ns->ns.length<=n->(∀z∈ns,z.natAbs.log2<=1048576)->s₁.gens=#[] ->
   codeAny (model l.prog w) callerA (.call (.ref fa) ⟨[.ref a],[]⟩) (λr s'=>r=.ok (.ret (.bool true))/\OldK s₁.heap s'.heap/\s'.os=s₁.os/\AllBare s'.gens) s₁) :
  WalkO q loose XP YP l.row.toRowW d [] (λf vs=>PySem.call f vs):=by
 intro w s₀ s₁ mg mb G Y fa o pm cd doc dV kV ho hd hcd hD a3 hg a5 vals as a2 Z a7 a4 a6;obtain rfl:dV=.none:=Dflts.none hD hdf;obtain rfl:kV=.none:=Dflts.noKw hD;obtain⟨a,vs,ns,rfl,rfl,O,J,a1⟩:=fm0 hn a2 a4;have hw:∀z∈ns,z.natAbs.log2<=1048576:=by
  have h1:(WData.layable (.list (ns.map .int))&&true)=true:=Z;rw[Bool.and_true] at h1;unfold WData.layable at h1;rw[Bool.and_eq_true] at h1;have h2:WData.weight (.list (ns.map .int))<=2 ^ 20:=P6 h1.2;rw[WData.weight] at h2;exact jp0 (2 ^ 20) ns h2
 refine enter_call (N2 (call w s₀ s₁ mg mb fa o pm cd doc a vs ns G Y ho (fd_plain hd) hcd a3 O J a1 hw hg) λr s' hq=>?_);obtain⟨rfl,h2,h3,h4⟩:=hq;exact⟨.inl ⟨.bool true,.bool true,[],rfl,λ_=>rfl,.bool true,e60 l _,λ_=>⟨List.Pairwise.nil,λ_ hm=>(nomatch hm)⟩⟩,h2,h3,h4⟩
end Att
namespace DL
open Spec PyProof.Rows L2
section
variable{σ:St}{s:Shared}{Pt:Addr}
theorem V00(I:Inv X pins σ H s)(h:TQ X.H₀ Pt q):TQ H Pt q:=by
 obtain⟨t,ps,e⟩:=h;obtain⟨J,e'⟩:=I.base.tbls Pt _ e;exact⟨t,ps++J,by rw[e',Array.append_assoc]⟩
theorem ez0{k:Nat}{f:Addr}{ps:List Str}{dvs:List V}{ds:List Value}{E:XK}{t:TA}(F:FnOk X.prog X.w X.K X.mg X.base CX k f fd ps (spT Pt q sp))(hT:TQ X.H₀ Pt q)(hr:Room k X.A)(hg:Gl X x)(hm:X.mg x=some (.ref f))
  (hk:W.keepIn X.K (.ref f)=true) (hb:Binds X.K fd ps ds) (hd:Vals dvs ds) (hx:p40 CX X E) (ha:PA X (e::es) t) (hdb:(x==("__debug__" : Str))=false:=by decide) (he:starEach (e::es) X.env=(false,eval e X.env)::starEach es X.env:=by rfl)
  (hpl:(backTo pos (starEach es X.env)).any (·.1)=false:=by rfl):PE X (.Call (.Name x p) (e::es) [] pos) (bf0 sp dvs E t):=by
 intro pins s σ H Q I h;refine D8 (u60 I hg hm ?_ hdb);refine i4 (h₀:=X.base) I.ok.mod.kin hk (thn (ha pos pins s σ H _ I h) λus s1 ⟨vs,H1,I1,r,q⟩=>⟨I1.kIn,?_⟩) he hpl;exact fh0 F hr hb hd hx I1 r ⟨V00 I1 hT,q⟩
def d40(P:Program)(w:World)(K:W.Frag)(mg:Str->Option Value)(base:Heap)(Pt:Addr)(q:Str)(x:Str)(k:Nat)(ps:List Str)(f:List D->Option D):Prop :=
 ∃(fa:Addr) (fd:FuncData),FnOk P w K mg base CX0 k fa fd ps (spT Pt q (spD K f))/\mg x=some (.ref fa)/\W.keepIn K (.ref fa)=true/\Binds K fd ps []
theorem qz0{k m:Nat}{ps:List Str}{f:List D->Option D}(C:d40 X.prog X.w X.K X.mg X.base Pt q x k ps f)(hT:TQ X.H₀ Pt q)(hr:Room m X.A)(hk:k<=m)(ha:PDA X (e::es) gA)(hg:Gl X x:=by rfl)(hdb:(x==("__debug__" : Str))=false:=by decide)
  (he:starEach (e::es) X.env=(false,eval e X.env)::starEach es X.env:=by rfl) (hpl:(backTo pos (starEach es X.env)).any (·.1)=false:=by rfl):PD X (.Call (.Name x p) (e::es) [] pos) (oA gA f):=by
 obtain⟨fa,fd,F,hm,kp,hb⟩:=C;exact .mk λB δ=>(ez0 (E:=E0) F hT (hr.mono hk) hg hm kp hb .nil mf0 (ha B δ) hdb he hpl).imp fun σ H Q h=>by
  obtain⟨d,en,h,k⟩:=h;unfold oA at h;cases e1:gA δ with
  | none=>rw[e1] at h;cases h
  | some ds =>
   rw[e1] at h;refine⟨ds,en,e1,λvs H1 s1 r1=>?_⟩;show spD X.K f (vs++[]) H1 Q E0;rw[List.append_nil];exact⟨B,ds,d,(en.same s1).bad,r1,h,λv H' s r=>k v H' (s1.trans s) r⟩
end
def mkL(n i:Nat)(N:List Str)(G:GS):List D->Option D:=λds =>
 if ds.length=n then match G (j8 N ds) with
  | some (.nx δ)=>match δ[i]? with
   | some (.ow (.dct (.inl ks) es))=>some (.fn ks es)
   | some (.sh (.lst es))=>some (.fn (rk es.length) es)
   | _=>none
  | _=>none
 else none
theorem Xy0{G:GS}{d:D}(h:mkL n i N G ds=some d):ds.length=n/\∃δ,G (j8 N ds)=some (.nx δ)/\((∃ks es,δ[i]?=some (.ow (.dct (.inl ks) es))/\d=.fn ks es)∨∃es,δ[i]?=some (.sh (.lst es))/\d=.fn (rk es.length) es):=by
 unfold mkL at h;split at h
 ·rename_i hn
  split at h
  ·rename_i δ e1
   refine⟨hn,δ,e1,?_⟩;split at h
   ·rename_i ks es e2
    cases h;exact .inl ⟨ks,es,e2,rfl⟩
   ·rename_i es e2
    cases h;exact .inr ⟨es,e2,rfl⟩
   ·cases h
  ·cases h
 ·cases h
section
variable{P:Program}{w:World}{Pt:Addr}
theorem Uu0{ps:List Str}{k:Nat}{f:List D->Option D}{G:Ds->Option Res}(F:Fun K x qual st fa fd)(S:FnScope N ps (u6 st))
  (body:∀(cdv:Value) (A:Around) (outer:List PySem.Env) (s:Shared) (H:Hp) (E:XK),TQ H Pt q->Room k (A.deeper (envOfC qual (u6 st) s.heap.objs.size fa cdv))->PSsD (zv0 CX0 P w K mg base N qual (u6 st) fa cdv A outer s H E).nox (Z4 st) G)
  (hf:∀ds d,f ds=some d->ds.length=ps.length/\(G (j8 N ds)=some (.rt d)∨(d=.non/\∃δ,G (j8 N ds)=some (.nx δ))∨G (j8 N ds)=some (.rf d)/\isL d=false)) :
  FnOk P w K mg base CX0 (k+1) fa fd ps (spT Pt q (spD K f)):=by
 refine F.ok S (λvs H Q E ⟨_,B,ds,d,_,r,h,_⟩=>?_) (λcdv A outer s H vs Q E hr ⟨hT,B,ds,d,hb,r,h,q⟩=>?_)
 ·rw[r.length];exact(hf ds d h).1
 ·refine⟨_,body cdv A outer s H E hT hr H B (j8 N ds),?_⟩
  have en:EnvS K H B H (L2.start N vs) (j8 N ds):=by
   refine⟨Same.refl H,⟨B,λ_ z=>z,λ_ z=>.inl z,⟨?_,hb,λi j a J es h1 _ _ _=>(U7 h1).elim⟩⟩,λi J a h1 _=>(U7 h1).elim,hb⟩;unfold L2.start j8;rw[r.length];exact Pd.app (J4 (N:=N) r) (yj0 _)
  rcases (hf ds d h).2 with e|⟨rfl,δ,e⟩|⟨e,hn⟩
  ·exact⟨_,en,e,λv H' s' r'=>q v H' s' r'⟩
  ·exact⟨_,en,e,fun σ' H' en'=>q .non H' en'.same (by rw[U4])⟩
  ·exact⟨_,en,e,λp H' hp s' r'=>q _ H' s' ((r'.toO hn).rp (λa z=>.inl z) (λz=>hb p z hp))⟩
end
theorem Wo0:∀z∈[(y,NameKind.local),(x,NameKind.free)],z.2≠.cell:=λz hz=>by
 rcases B4.mp hz with rfl|hz
 ·exact λq=>nomatch q
 ·rw[List.mem_singleton.mp hz]
  exact λq=>nomatch q
theorem de0(h:lsc.names=[(y,.local),(x,.free)])(env:PySem.Env)(c:Addr)(hc:env.cells.lookup x=some c):closureFor lsc env=pure [(x,c)]:=by
 unfold closureFor;rw[h];simp[cellOf,hc]
end DL
namespace L2
open Spec PyProof.Rows DL
theorem dt0{l:W.OpenLaw}{n k:Nat}{qp:Program}{loose:List Str}{XP:(Str->Option Value)->Heap->Prop}{d:DefRec}{K:Params->W.Frag}{as:List Addr}{ee:∀P,as=(K P).map (·.1)}{Pt c0:Addr}{q:Str}{CX:CXT}{sp:W.Frag->Sp}{x:Str}
  (hn:l.most=some n) (hn2:n<=sizeLine) (hdf:d.params.defaults=[]) (hr:Room k callerA)
  (hKP:∀P:Params,(K P).lookup Pt=none) (hC:∀P:Params,W.codeHdIn (K P) c0 Pt=true)
  (F:∀(w:World) (mg:Str->Option Value) (fa:Addr) (h:Heap),(K w.params).In h->h.Ns mainGlobals mg->mg d.name=some (.ref fa) ->
   ∃fd:FuncData,(∀(s:Shared) (u:Value),BindsTo s fd ⟨[u],[]⟩ [(x,u)]) /\
    ∀base:Heap,(K w.params).In base->base.Ns mainGlobals mg->W.CodeHd base c0 Pt->base.BuiltinsAt mg Pt->FnOk l.prog w (K w.params) mg base CX k fa fd [x] (spT Pt q (sp (K w.params))))
  (hsp:∀(K:W.Frag) (H:Hp) (a:Addr) (ns:List Int),ns.length<=n->(∀z∈ns,z.natAbs.log2<=1048576)->SqL K H a (ns.map V.int)->sp K [.ref a] H (λv _=>v=.bl true) λ_ _ _=>False)
  (hCX:∀(H:Hp) (s:Shared) (e:Value) (s':Shared),CX [] H s (λ_ _ _=>False) e s'->False) :
  W.WalkO qp loose XP (W.kmHook K as ee [Pt]).says l.row.toRowW d [] (λf vs=>PySem.call f vs):=by
 refine Att.k30 hn hdf λw s₀ s₁ mg mb fa o pm cd doc a vs ns G Y ho hd hcd a1 Z O J hw hg=>?_
 have KX:=W.km_in_of Y;have hP:=W.km_tabs_of Y Pt (D4.mpr rfl);obtain⟨fd,hb,hF⟩:=F w mg fa _ KX G.T.g a1;have hB:s₁.heap.BuiltinsAt mg Pt:=by
  obtain⟨bm,ob,b1,b2,b3,b4,b5,b6⟩:=G.T.bmain;refine⟨bm,ob,b1,b2,λz=>?_,λz=>?_,b3,b4,b5,b6⟩
  ·obtain⟨o',es,ep,e',d',_⟩:=G.T.g
   rw[z,e'] at b3;cases b3;rw[d'] at b6;cases b6
  ·rw[z,hP] at b3
   cases b3;cases b4
 exact gs0 KX G.T.g G.T.b G.T.builtins G.T.nolimit hg Z O (C5 J hn2) hr hP (hKP _) (W.codeHd_of_K KX (hC _)) hB hF hb (λH hS=>hsp (K w.params) H a ns J hw hS) λH e s'=>hCX H s₁ e s'
end L2
namespace XC
def qe0:List Str:=["__class__", "__getattribute__", "__getattr__"]
abbrev bmV:List Value:=[.type "ValueError",.type "Exception",.type "BaseException",.type "object"]
inductive Row (h:Heap):List Value->Prop
 | end:Row h bmV
 | own {C:Addr} {cls:Value} {dd:Option Addr} {cd:ClassData} {sl:Array (Option Value)} {m:Str->Option Value} {tl:List Value} :
   h.get? C=some { cls:=cls,dict:=dd,data:=.cls cd,slots:=sl }->h.Ns cd.ns m->(∀n∈qe0,m n=none)->Row h tl->Row h (.ref C::tl)
structure Cl(h:Heap)(C:Addr)(tl:List Value):Prop where
 obj:∃(nm q:Str) (N:Addr) (bs:List Value) (hdct:Bool) (sn:List Str) (sub:List Value) (ab:Bool) (col:Option Bool) (dd:Option Addr) (k0 k1 k2 k3 k5:Option Value) (newId:String),
  h.get? C=some (excClassObj nm q C N bs tl hdct sn sub ab col dd k0 k1 k2 k3 k5 newId)
 row:Row h (.ref C::tl)
end XC
namespace XC
open PySem.W
def ic0(K:Frag):List Value->Bool
 | []=>false
 | v::r=>(v::r)==bmV||match v with
  | .ref A=>(match K.lookup A with
   | some ⟨_,_,.cls cd,_⟩=>nsOkIn K cd.ns&&qe0.all (λn=>nsIn K cd.ns n==some none)&&ic0 K r
   | _=>false)
  | _=>false
theorem eo0{K:Frag}{h:Heap}(X:K.In h):∀{l:List Value},ic0 K l=true->Row h l
 | [],e=>by cases e
 | v::r,e=>by
  unfold ic0 at e;rcases Bool.or_eq_true_iff.mp e with q|q
  ·rw[beq_iff_eq.mp q]
   exact .end
  ·split at q
   ·split at q
    ·rename_i ho
     simp only[Bool.and_eq_true,List.all_eq_true,beq_iff_eq] at q;exact .own (X _ _ ho) (.of_isNs (isNs_of_in X q.1.1)) (λn hn=>nsMap_none_of_in X q.1.1 (q.1.2 n hn)) (eo0 X q.2)
    ·cases q
   ·cases q
def clB(K:Frag)(C:Addr)(tl:List Value):Bool:=match K.lookup C with
 | some ⟨.type "type",_,.cls cd,sl⟩=>(match sl.toList with
  | [_,_,_,_,some (.builtin _),_]=>cd.mro==.ref C::tl&&!cd.hasDel&&ic0 K (.ref C::tl)
  | _=>false)
 | _=>false
theorem b50{K:Frag}{h:Heap}{C:Addr}(X:K.In h)(e:clB K C tl=true):Cl h C tl:=by
 unfold clB at e;split at e
 ·rename_i dd cd sl ho
  split at e
  ·rename_i k0 k1 k2 k3 n k5 hs
   simp only[Bool.and_eq_true,beq_iff_eq,Bool.not_eq_true'] at e;obtain⟨⟨hm,J⟩,hr⟩:=e;obtain⟨nm,bs,mro,ns,qn,hd,sn,sub,ab,col,Y⟩:=cd;dsimp only at hm J;subst hm J;have O:sl=#[k0,k1,k2,k3,some (.builtin n),k5]:=by
    obtain⟨l⟩:=sl;simp only at hs;rw[hs]
   subst O;exact⟨⟨nm,qn,ns,bs,hd,sn,sub,ab,col,dd,k0,k1,k2,k3,k5,_,X _ _ ho⟩,eo0 X hr⟩
  ·cases e
 ·cases e
structure Rs(h:Heap)(C:Addr)(tl:List Value):Prop where
 obj:∃(nm q:Str) (N:Addr) (bs:List Value) (hdct:Bool) (sn:List Str) (sub:List Value) (ab:Bool) (col:Option Bool) (dd:Option Addr) (k0 k1 k2 k3 k5:Option Value) (mN:Str->Option Value),
  h.get? C=some (excClassObj nm q C N bs tl hdct sn sub ab col dd k0 k1 k2 k3 k5 "ValueError.__new__")/\h.Ns N mN/\mN "__init__"=none/\OwnTail h bmV tl
def rsB(K:Frag)(C:Addr)(tl:List Value):Bool:=match K.lookup C with
 | some ⟨.type "type",_,.cls cd,sl⟩=>(match sl.toList with
  | [_,_,_,_,some (.builtin n),_]=>cd.mro==.ref C::tl&&n == "ValueError.__new__"&&!cd.hasDel&&tailIn K bmV tl&&nsOkIn K cd.ns&&nsIn K cd.ns "__init__"==some none
  | _=>false)
 | _=>false
theorem U50{K:Frag}{h:Heap}{C:Addr}(X:K.In h)(e:rsB K C tl=true):Rs h C tl:=by
 unfold rsB at e;split at e
 ·rename_i dd cd sl ho
  split at e
  ·rename_i k0 k1 k2 k3 n k5 hs
   simp only[Bool.and_eq_true,beq_iff_eq,Bool.not_eq_true'] at e;obtain⟨⟨⟨⟨⟨hm,rfl⟩,J⟩,ht⟩,hok⟩,O⟩:=e;obtain⟨nm,bs,mro,ns,qn,hd,sn,sub,ab,col,Z⟩:=cd;dsimp only at hm J hok O;subst hm J;have Y:sl=#[k0,k1,k2,k3,some (.builtin "ValueError.__new__"),k5]:=by
    obtain⟨l⟩:=sl;simp only at hs;rw[hs]
   subst Y;exact⟨⟨nm,qn,ns,bs,hd,sn,sub,ab,col,dd,k0,k1,k2,k3,k5,_,X _ _ ho,.of_isNs (isNs_of_in X hok),nsMap_none_of_in X hok O,tail_of_in X ht⟩⟩
  ·cases e
 ·cases e
def Xs0(K:Frag)(r:Addr)(c:Str):Bool:=match nsIn K mainGlobals c with
 | some (some (.ref C))=>clB K C (.ref r::bmV)
 | _=>false
def Xj0(K:Frag)(r:Addr)(c:Str):Bool:=match nsIn K mainGlobals c with
 | some (some (.ref C))=>rsB K C (.ref r::bmV)
 | _=>false
def d50(K:Frag)(root:Str)(cs rs:List Str):Bool:=match nsIn K mainGlobals root with
 | some (some (.ref r))=>clB K r bmV&&cs.all (Xs0 K r)&&rs.all (Xj0 K r)&&(root::cs).all λc=>(root::cs).all λc'=>c==c'||!(nsIn K mainGlobals c==nsIn K mainGlobals c')
 | _=>false
structure At(K:Frag)(mg:Str->Option Value)(c:Str)(C:Addr)(tl:List Value):Prop where
 mg:mg c=some (.ref C)
 ns:nsIn K mainGlobals c=some (some (.ref C))
 cl:∀h:Heap,K.In h->Cl h C tl
structure Tab(K:Frag)(mg:Str->Option Value)(root:Str)(r:Addr)(cs rs:List Str):Prop where
 top:At K mg root r bmV
 all:∀c∈cs,∃C,At K mg c C (.ref r::bmV)
 rai:∀c∈rs,∃C,nsIn K mainGlobals c=some (some (.ref C))/\∀h:Heap,K.In h->Rs h C (.ref r::bmV)
 diff:∀c∈root::cs,∀c'∈root::cs,nsIn K mainGlobals c=nsIn K mainGlobals c'->c=c'
theorem tab_of{K:Frag}{h:Heap}(X:K.In h)(G:h.Ns mainGlobals mg)(e:d50 K root cs rs=true):∃r,Tab K mg root r cs rs:=by
 unfold d50 at e;split at e
 ·rename_i r hr
  simp only[Bool.and_eq_true,List.all_eq_true] at e;obtain⟨⟨⟨h1,h2⟩,h3⟩,h4⟩:=e;refine⟨r,⟨⟨mg_of X G hr,hr,λh X=>b50 X h1⟩,λc hc=>?_,λc hc=>?_,λc hc c' J q=>?_⟩⟩
  ·have q:=h2 c hc
   unfold Xs0 at q;split at q
   ·rename_i C hC
    exact⟨C,mg_of X G hC,hC,λh X=>b50 X q⟩
   ·cases q
  ·have q:=h3 c hc
   unfold Xj0 at q;split at q
   ·rename_i C hC
    exact⟨C,hC,λh X=>U50 X q⟩
   ·cases q
  ·have z:=h4 c hc c' J
   rw[q] at z;simp only[beq_self_eq_true,Bool.not_true,Bool.or_false,beq_iff_eq] at z;exact z
 ·cases e
end XC
namespace L2
def Lie(ok:Addr->Prop)(h:Heap)(C:Value)(od:Option Addr)(e:Addr):Prop:=∃oe vs,h.get? e=some oe/\oe.cls=C/\oe.dict=od/\oe.data=.fields vs/\1<vs.size/\ok e /\
 (vs[1]?=some .none∨∃T oT ts,vs[1]?=some (.ref T)/\T≠e/\ok T/\h.get? T=some oT/\oT.data=.fields ts/\ts[3]?=some .none)
structure Noted(ok:Addr->Prop)(F:List Addr)(h h':Heap):Prop where
 keep:∀b o,h.get? b=some o->¬ok b->b∉F->h'.get? b=some o
 slot:∀b o,h.get? b=some o->¬ok b->∃sl,h'.get? b=some { o with slots:=sl }
 there:∀b o,h.get? b=some o->∃o',h'.get? b=some o'
section
variable{M:Model}{A:Around}{s:Shared}
theorem i60{base:Heap}{ok:Addr->Prop}{env:Env}{outer:List Env}{L e:Addr}{oe:Obj}{vs:Array Value}{head:Value}{hadNext:Bool}{Q:Unit->Shared->Prop}
  (hfr:A.frames=some (env::outer)) (hl:s.heap.FunFrames base (env::outer)) (hf:env.frame=some L) (he:s.heap.get? e=some oe) (hd:oe.data=.fields vs) (hsz:1<vs.size) (oke:ok e)
  (new:∀b,s.heap.objs.size<=b->ok b)
  (h:∀h',Noted ok ((env::outer).filterMap (·.frame)) s.heap h'->Lie ok h' oe.cls oe.dict e->Q () { s with heap:=h' }) :
  wpAny M A (do let a ← frameOf env;let pl ← entryPlaceOf L hadNext;let b ← EntryCells.newEntry head a .none (rawInt L) .none pl;setField (.ref e) 1 b) (λ_ s'=>wpAny M A (setFlight (.ref e) none) Q E s') E s:=by
 have Z:e∉(env::outer).filterMap (·.frame):=λz=>by
  obtain⟨_,o,q,n⟩:=hl.mem z;rw[he] at q;cases q;exact n vs hd
 refine A0 (wpAny_frameOf_fun hfr hl hf λg sl=>A0 (wpAny_entryPlaceOf λpl hp=>?_));unfold EntryCells.newEntry newFields;refine A0 (E5 ?_ (hp.sizeOk5 _ _ _ _ _));obtain⟨ar,J⟩:∃ar,ar=([head,.ref L,.none,rawInt L,.none]++(if pl.isEmpty then List.replicate 6 Value.none else pl)).toArray:=⟨_,rfl⟩;have O:3<ar.size:=by rw[J];simp only[List.size_toArray,List.length_append,List.length_cons,List.length_nil];omega
 rw[← J];have ge:g.get? e=some oe:=(sl.2.1 e Z).trans he;have nT:g.objs.size≠e:=B6 (A3 ge);have pe:=A6 (h:=g) { cls:=.type "traceback",dict:=none,data:=.fields ar } ge;refine u7 pe hd hsz ?_;have d3:=Y2 hd (·.setIfInBounds 1 (Value.ref g.objs.size));have e3:=I0 (Obj.mapFields (·.setIfInBounds 1 (Value.ref g.objs.size))) pe (u8 d3);have t3:=(G0 (g.push { cls:=.type "traceback",dict:=none,data:=.fields ar }) (Obj.mapFields (·.setIfInBounds 1 (Value.ref g.objs.size))) (A4 nT)).trans (B7 g rfl);unfold setFlight;refine A0 (D2 e3 d3 (x:=.ref g.objs.size) (by simp[hsz]) ?_);rw[if_pos (by simp)];refine u7 t3 rfl O (h _ ?_ ?_)
 ·have oth:∀b o,g.get? b=some o->b≠e->(((g.push { cls:=.type "traceback",dict:=none,data:=.fields ar }).update e (Obj.mapFields (·.setIfInBounds 1 (Value.ref g.objs.size)))).update g.objs.size (Obj.mapFields (·.setIfInBounds 3 ((none:Option Addr).elim Value.none λf=>rawInt f)))).get? b=some o:=λb o q n=>by
   rw[Heap.get?_update_other _ _ (B6 (A3 q)),Heap.get?_update_other _ _ (A4 n)];exact A6 _ q
  refine⟨λb o q n1 n2=>oth b o ((sl.2.1 b n2).trans q) (λz=>n1 (z▸oke)),λb o q n1=>?_,λb o q=>?_⟩
  ·obtain⟨x,hx⟩:=sl.2.2 b o q
   exact⟨x,oth b _ hx (λz=>n1 (z▸oke))⟩
  ·by_cases z:b=e
   ·subst z
    rw[Heap.get?_update_other _ _ nT];exact⟨_,e3⟩
   ·obtain⟨x,hx⟩:=sl.2.2 b o q
    exact⟨_,oth b _ hx z⟩
 ·have Y:(((g.push { cls:=.type "traceback",dict:=none,data:=.fields ar }).update e (Obj.mapFields (·.setIfInBounds 1 (Value.ref g.objs.size)))).update g.objs.size (Obj.mapFields (·.setIfInBounds 3 ((none:Option Addr).elim Value.none λf=>rawInt f)))).get? e=some (oe.mapFields (·.setIfInBounds 1 (Value.ref g.objs.size))):=by
   rw[Heap.get?_update_other _ _ nT];exact e3
  refine⟨_,_,Y,Obj.cls_mapFields _ _,?_,d3,by simp[hsz],oke,.inr ⟨g.objs.size,_,_,by simp[hsz],nT,new _ (by rw[sl.1];exact A1 _),I0 _ t3 (u8 (Y2 rfl _)),Y2 rfl _,?_⟩⟩
  ·obtain⟨c,d,dt,x⟩:=oe
   cases dt<;>rfl
  ·simp[O]
theorem note{base:Heap}{ok:Addr->Prop}{env:Env}{outer:List Env}{L e:Addr}{C:Value}{od:Option Addr}{Q:Unit->Shared->Prop}
  (hfr:A.frames=some (env::outer)) (hl:s.heap.FunFrames base (env::outer)) (hf:env.frame=some L) (lie:Lie ok s.heap C od e)
  (new:∀b,s.heap.objs.size<=b->ok b)
  (h:∀h',Noted ok ((env::outer).filterMap (·.frame)) s.heap h'->Lie ok h' C od e->Q () { s with heap:=h' }) :
  wpAny M A (noteFrame (.ref e) env) (λ_ s'=>wpAny M A (setFlight (.ref e) none) Q E s') E s:=by
 obtain⟨oe,vs,he,rfl,rfl,hd,O,Y,q⟩:=lie;unfold noteFrame;simp only[hf];rcases q with q|⟨T,oT,ts,q,nT,okT,hT,J,q3⟩
 ·refine A0 (D2 he hd q ?_)
  rw[if_neg (by decide)];exact i60 hfr hl hf he hd O Y new h
 ·refine A0 (D2 he hd q ?_)
  rw[if_pos (by simp)];refine A0 (D2 hT J q3 ?_);rw[if_neg (by simp[rawInt])];refine A0 (u7 hT J (Array.getElem?_eq_some_iff.mp q3).1 ?_);have oth:∀b,b≠T->(s.heap.update T (Obj.mapFields (·.setIfInBounds 3 Value.none))).get? b=s.heap.get? b:=λb n=>G0 _ _ (A4 n)
  have self:∃o',(s.heap.update T (Obj.mapFields (·.setIfInBounds 3 Value.none))).get? T=some o':=⟨_,I0 _ hT (u8 (Y2 J _))⟩;have nr:∀b o,s.heap.get? b=some o->(∀vs,o.data≠.fields vs)->b≠T:=λb o h1 h2 z=>by
   rw[z,hT] at h1;cases h1;exact h2 ts J
  refine i60 hfr (hl.of_keeps λb o h1 h2=>⟨o,(oth b (nr b o h1 h2)).trans h1,rfl⟩) hf ((oth e (A4 nT)).trans he) hd O Y (λb hb=>new b (by rw[Heap.size_after_update] at hb;exact hb)) λh' nd le=>h h' ⟨λb o h1 n1 n2=>nd.keep b o ((oth b (λz=>n1 (z▸okT))).trans h1) n1 n2,λb o h1 n1=>nd.slot b o ((oth b (λz=>n1 (z▸okT))).trans h1) n1,λb o h1=>?_⟩ le
  by_cases z:b=T
  ·obtain⟨o',Z⟩:=self
   exact nd.there b o' (by rw[z];exact Z)
  ·exact nd.there b o ((oth b z).trans h1)
end
end L2
namespace L2
open Spec PyProof.Rows
theorem Lie.mono{ok ok':Addr->Prop}{h:Heap}{C:Value}{e:Addr}(q:∀b,ok b->ok' b)(l:Lie ok h C od e):Lie ok' h C od e:=by
 obtain⟨oe,vs,h1,h2,h3,h4,h5,h6,h7⟩:=l;refine⟨oe,vs,h1,h2,h3,h4,h5,q _ h6,h7.imp id ?_⟩;rintro⟨T,oT,ts,t1,t2,t3,t4⟩;exact⟨T,oT,ts,t1,t2,q _ t3,t4⟩
def FpW(X:Cx)(pins:List (Addr×Obj))(H:Hp)(b:Addr):Prop :=
 H b=none/\b≠X.env.locals/\b∉X.fs/\(b∈X.ex∨X.s₀.heap.get? b=none)/\(∀x c,X.env.cells.lookup x=some c->c≠b)/\∀p∈X.pn++pins,p.1≠b
abbrev ce0(X:Cx)(pins:List (Addr×Obj))(H:Hp)(h:Heap)(C:Addr)(od:Option Addr)(e:Addr):Prop:=Lie (FpW X pins H) h (.ref C) od e
section
variable{σ:St}{s:Shared}
theorem Inv.fpW{b:Addr}(I:Inv X pins σ H s)(hb:s.heap.get? b=none)(hn:H' b=none):FpW X pins H' b:=by
 refine⟨hn,λz=>?_,λz=>?_,?_,λx c e z=>?_,λp hp z=>?_⟩
 ·obtain⟨m,⟨o,_,_,ho,_⟩,_⟩:=I.loc
  rw[← z,hb] at ho;cases ho
 ·obtain⟨_,o,ho,_⟩:=I.funs.mem z
  rw[hb] at ho;cases ho
 ·by_cases q:b∈X.ex
  ·exact .inl q
  ·refine .inr ?_
   cases e:X.s₀.heap.get? b with
   | none=>rfl
   | some o =>
    obtain⟨o',h'⟩:=I.base.there b o e q;rw[hb] at h';cases h'
 ·obtain⟨v,o,q,_⟩:=I.cell x c e
  rw[z,hb] at q;cases q
 ·have q:=(I.pin p hp).1
  rw[z,hb] at q;cases q
theorem Inv.dead{b:Addr}(I:Inv X pins σ H s)(hb:s.heap.get? b=none):H b=none:=by
 cases e:H b with
 | none=>rfl
 | some o =>
  have:∃u,s.heap.get? b=some u:=by
   have z:=I.hok b o e;clear e
   induction o with
   | lst xs=>obtain⟨_,_,_,_,q⟩:=z;exact⟨_,q⟩
   | tup xs=>obtain⟨_,_,_,_,q,_⟩:=z;exact⟨_,q⟩
   | dK kvs=>obtain⟨_,_,_,_,_,_,_,q,_⟩:=z;exact⟨_,q⟩
   | dT kvs=>obtain⟨_,_,_,_,_,_,_,q,_⟩:=z;exact⟨_,q⟩
   | set S n=>obtain⟨_,_,_,_,q,_⟩:=z;exact⟨_,q⟩
   | ins C dx fs=>obtain⟨_,_,_,q,_⟩:=z;exact⟨_,q⟩
   | own y=>exact z
   | xd fs=>obtain⟨_,⟨_,_,_,q,_⟩,_⟩:=z;exact⟨_,q⟩
   | rng lo hi=>obtain⟨_,_,_,q⟩:=z;exact⟨_,q⟩
   | frz ob u ih=>exact⟨_,z.1⟩
   | tbl ps=>obtain⟨_,q,_⟩:=(show TabOk H s.heap _ _ from z);exact⟨_,q⟩
   | met f y=>exact⟨_,z⟩
   | ext φ=>exact z.2.1
  obtain⟨u,q⟩:=this;rw[hb] at q;cases q
theorem Inv.afterNote{F:List Addr}(I:Inv X pins σ H s)(hF:∀b∈F,b∈frs X.stack)(nd:Noted (FpW X pins H) F s.heap h'):Inv X pins σ H { s with heap:=h' }:=by
 have nt:∀b u,H b=some u->¬FpW X pins H b:=λb u q z=>by
  rw[z.1] at q;cases q
 have hok:HOk X.prog X.w H h':=λa o q=>(I.hok a o q).stay (λb u hb e=>by
  have tr:∃v,H b=some v:=by
   rcases hb with rfl|hb
   ·exact⟨_,q⟩
   ·exact⟨_,hb⟩
  obtain⟨v,tr⟩:=tr;exact nd.keep b u e (nt b v tr) λz=>by
   rw[I.stkFree b (hF b z)] at tr;cases tr) (λ_ q=>q) (λ_ _ q=>q) λ_ _ _ q=>q
 have nF:∀b,b≠X.env.locals->b∉X.fs->b∉F:=λb n1 n2 z=>(B4.mp (I.stkSub b (hF b z))).elim n1 n2
 have up:∀b o,X.s₀.heap.get? b=some o->b≠X.env.locals:=λb o e=>A5 (A8 (A3 e) I.ok.above)
 have J:∀b o,X.s₀.heap.get? b=some o->b∉X.ex->¬FpW X pins H b:=λb o e hx z=>by
  rcases z.2.2.2.1 with q|q
  ·exact hx q
  ·rw[e] at q
   cases q
 have O:∀x c,X.env.cells.lookup x=some c->∀v,s.heap.IsCell c v->h'.IsCell c v:=λx c e v ⟨o,ho,hd⟩=>by
  obtain⟨sl,q⟩:=nd.slot c o ho λz=>z.2.2.2.2.1 x c e rfl
  exact⟨_,q,hd⟩
 refine⟨I.ok,I.os,I.bare,⟨λb o e n hb hx=>nd.keep b o (I.base.keep b o e n hb hx) (J b o e hx) (nF b (up b o e) hb),λb o e n hb hx=>?_,I.base.free,λb o e hx=>?_,I.base.tups,I.base.frzs,I.base.tbls⟩,?_,λx c e=>?_,I.free,I.freeC,λp hp=>?_,hok,I.len⟩
 ·obtain⟨sl,e1⟩:=I.base.slot b o e n hb hx
  obtain⟨Y,e2⟩:=nd.slot b _ e1 (J b o e hx);exact⟨Y,e2⟩
 ·obtain⟨o',e1⟩:=I.base.there b o e hx
  exact nd.there b o' e1
 ·obtain⟨m,⟨o,es,ep,ho,r⟩,hl⟩:=I.loc
  obtain⟨sl,hL⟩:=nd.slot _ o ho λz=>z.2.1 rfl
  refine⟨m,⟨_,es,ep,hL,r⟩,λi x v e1 e2 e3=>?_⟩;obtain⟨u,r,l⟩:=hl i x v e1 e2 e3;refine⟨u,r,?_⟩;rcases l with l|⟨k,c,e,z⟩
  ·exact .inl l
  ·exact .inr ⟨k,c,e,O x c e _ z⟩
 ·obtain⟨v,z⟩:=I.cell x c e
  exact⟨v,O x c e v z⟩
 ·obtain⟨e,n,ne,nf,d⟩:=I.pin p hp
  exact⟨nd.keep p.1 p.2 e (λz=>z.2.2.2.2.2 p hp rfl) (nF p.1 ne nf),n,ne,nf,d⟩
theorem Inv.frame(I:Inv X pins σ H s)(st:X.stack=X.env::X.outer):X.env.frame=some X.env.locals:=by
 rcases I.ok.stk with q|q
 ·rw[st] at q
  exact absurd (E3 List.length q) (by simp)
 ·exact q.2
theorem Inv.noted{M:Model}{E:Value->Shared->Prop}{C e:Addr}{Q:Unit->Shared->Prop}(I:Inv X pins σ H s)(st:X.stack=X.env::X.outer)(lie:ce0 X pins H s.heap C od e)
  (h:∀h',Inv X pins σ H { s with heap:=h' }->ce0 X pins H h' C od e->Q () { s with heap:=h' }) :
  wpAny M X.A (noteFrame (.ref e) X.env) (λ_ s1=>wpAny M X.A (setFlight (.ref e) none) Q E s1) E s:=by
 refine note (base:=X.base) (outer:=X.outer) (by rw[I.ok.frames,st]) (st▸I.stack) (I.frame st) lie (λb hb=>I.fpW (x6 hb) (I.hok.fresh hb)) λh' nd le=>h h' (I.afterNote (λb hb=>?_) nd) le
 rw[st];exact hb
end
def CXE(P:Program)(w:World):CXT:=λouter H s E e s'=>∃ea C od H',e=.ref ea/\s'.os=s.os/\AllBare s'.gens/\Un (frs outer) [] H H' s.heap s'.heap/\HOk P w H' s'.heap /\
 Lie (λb=>H' b=none/\s.heap.get? b=none) s'.heap (.ref C) od ea/\E (.ref C) od H'
def if0(X:Cx)(σ:St)(H:Hp)(C:Addr)(od:Option Addr):Prop:=∀pins s e,Inv X pins σ H s->ce0 X pins H s.heap C od e->X.xe (.ref e) s
section
variable{k:Nat}{f C:Addr}{ps:List Str}{ds:List Value}{c:Str}{t:TA}
def Xw0(X:Cx)(sp:Sp)(dvs:List V)(t:TA):TE:=fun σ H Q=>t σ H λvs H1=>sp (vs++dvs) H1 Q λc od H'=>∀C,c=.ref C->if0 X σ H' C od
theorem lx0(F:FnOk X.prog X.w X.K X.mg X.base (CXE X.prog X.w) k f fd ps sp)(hr:Room k X.A)(hg:Gl X x)(hm:X.mg x=some (.ref f))(hk:W.keepIn X.K (.ref f)=true)(hb:Binds X.K fd ps ds)(hd:Vals dvs ds)
  (ha:PA X (e::es) t) (hdb:(x==("__debug__" : Str))=false:=by decide) (he:starEach (e::es) X.env=(false,eval e X.env)::starEach es X.env:=by rfl) (hpl:(backTo pos (starEach es X.env)).any (·.1)=false:=by rfl) :
  PE X (.Call (.Name x p) (e::es) [] pos) (Xw0 X sp dvs t):=by
 intro pins s σ H Q I h;refine D8 (u60 I hg hm ?_ hdb);refine i4 (h₀:=X.base) I.ok.mod.kin hk (thn (ha pos pins s σ H _ I h) λus s1 ⟨vs,H1,I1,r,q⟩=>⟨I1.kIn,?_⟩) he hpl;have r2:Vals (vs++dvs) (us++ds):=r.append hd;have hl:(us++ds).length=ps.length:=by rw[← r2.length];exact F.len _ _ _ _ q
 refine wpAny_call (N2 (F.run X.A X.stack s1 H1 ⟨us,[]⟩ (us++ds) (vs++dvs) Q _ hr I1.env0 (hb s1 us I1.kIn hl) r2 q) λr s' hq=>?_);cases r with
 | error ex =>
  obtain⟨ea,C,od,H',rfl,os,bare,un,hok,J,wish⟩:=hq;exact wish C rfl pins s' ea (I1.call' (ch:=[]) os un hok bare λb z=>by cases z) (J.mono λb z=>I1.fpW z.2 z.1)
 | ok fl =>
  cases fl with
  | ret u=>exact I1.after hq
  | next=>exact False.elim hq
  | brk=>exact False.elim hq
  | cont=>exact False.elim hq
theorem cc0{y:Str}{j:Nat}{cp:Pos}(hm:X.mg c=some (.ref C))(rs:∀h:Heap,X.K.In h->XC.Rs h C tl)(hbase:tl.contains (.type "BaseException")=true)(hc:X.calm=true)(hg:Gl X c)
  (hd:(c==("__debug__" : Str))=false:=by decide) (he:starEach [.Constant (.str y) j cp] X.env=[(false,eval (.Constant (.str y) j cp) X.env)]:=by rfl)
  (hbt:backTo cpos [(false,eval (.Constant (.str y) j cp) X.env)]=[(false,eval (.Constant (.str y) j cp) X.env)]:=by rfl) :
  PS X (.Raise (some (.Call (.Name c np) [.Constant (.str y) j cp] [] cpos)) none pos) (λ_ σ H=>if0 X σ H C none):=by
 intro pins s σ H D I h;obtain⟨nm,q,N,bs,J,sn,sub,ab,col,dd,k0,k1,k2,k3,k5,mN,hC,hN,O,ht⟩:=(rs s.heap I.kIn).obj;refine wpAny_Raise_call_subU F.excBase_ValueError (by decide +kernel) F.excBase_ValueError (bm:=tl) (C:=C) (N:=N) (nm:=nm) (q:=q) (bs:=bs) (hdct:=J) (sn:=sn) (sub:=sub) (ab:=ab) (col:=col) (dd:=dd) (k0:=k0) (k1:=k1) (k2:=k2) (k3:=k3) (k5:=k5) (mN:=mN) hbase (I.ok.hd hc) (by rw[he,hbt];rfl) O (u60 I hg hm ⟨rfl,?_⟩ hd);rw[he,hbt];refine Calls.evalArgs_plain (N1 (Calls.Constant_str (N0 ⟨rfl,by show (1:Nat)<=sizeLine;decide,hC,hN,ht,λh' e hm=>?_⟩)));obtain⟨t,h1,h2,h3⟩:=hm.there;have I':Inv X pins σ H { s with heap:=h',toks:=s.toks+1 }:=I.kept hm.keeps;exact h pins _ e I' ⟨_,_,h1,rfl,rfl,rfl,(by show 1<6;decide),I.fpW hm.new (I.dead hm.new),.inl rfl⟩
end
end L2
namespace DL
open Spec PyProof.Rows L2
inductive DX where
 | ok (d:D)|ex (c:Str) (n:Option Int)
inductive RX where
 | ok (r:Res)|ex (c:Str) (n:Option Int) (δ:Ds)
abbrev GZ:=Ds->Option RX
def okZ(G:GS):GZ:=fun δ=>(G δ).map .ok
variable{Gb:DL.GZ}
def vg0:GZ:=fun δ=>some (.ok (.nx δ))
def T4(G1 G2:GZ):GZ:=fun δ=>match G1 δ with
 | some (.ok (.nx δ'))=>G2 δ'
 | r=>r
def ifZ(gt:GB)(Ga Gb:GZ):GZ:=fun δ=>(gt δ).bind λt=>if t=true then Ga δ else Gb δ
def kh0(c:Str):GZ:=fun δ=>some (.ex c none δ)
def XdX(K:W.Frag)(H₀:Hp)(B₀:BS)(H:Hp)(σ:St)(δ:Ds)(od:Option Addr):Option Int->Prop
 | none=>True
 | some k=>∃(dx:Addr) (B:BS),od=some dx/\H₀ dx=none/\H dx=some (.xd [("at",.int k)])/\(∀a,B₀ a->B a)/\(∀a,B a->B₀ a∨H₀ a=none)/\Env K H B σ δ/\¬B dx
def XdS(H H':Hp)(od:Option Addr):Option Int->Prop
 | none=>True
 | some k=>∃dx,od=some dx/\H dx=none/\H' dx=some (.xd [("at",.int k)])
theorem XdX.out{σ:St}{n:Option Int}(x:XdX K H₀ B₀ H σ δ od n):XdS H₀ H od n:=by
 cases n with
 | none=>trivial
 | some k=>obtain⟨dx,B,e,h1,h2,_⟩:=x;exact⟨dx,e,h1,h2⟩
theorem oj0(s:Same H H')(h:H' a=none):H a=none:=by
 cases e:H a with
 | none=>rfl
 | some o=>rw[s a o e] at h;cases h
def Ue0(i:Nat)(δ:Ds):DX->RX
 | .ok d=>.ok (.nx (δ.set i (.sh d)))
 | .ex c n=>.ex c n δ
def g80(gA:GA)(f:List D->Option DX)(i:Nat):GZ:=fun δ=>(gA δ).bind λds=>(f ds).map (Ue0 i δ)
def Uo0(X:Cx)(H₀:Hp)(B₀:BS)(D:Ends):RX->Prop
 | .ok r=>W30 X.K H₀ B₀ D r
 | .ex c n δ=>∀σ H C od,EnvS X.K H₀ B₀ H σ δ->W.nsIn X.K mainGlobals c=some (some (.ref C))->XdX X.K H₀ B₀ H σ δ od n->if0 X σ H C od
def tXS(X:Cx)(H₀:Hp)(B₀:BS)(δ:Ds)(G:GZ):TS:=λD σ H=>∃r,EnvS X.K H₀ B₀ H σ δ/\G δ=some r/\Uo0 X H₀ B₀ D r
structure PSX(X:Cx)(st:Stmt)(G:GZ):Prop where
 mk::go:∀H₀ B₀ δ,PS X st (tXS X H₀ B₀ δ G)
structure PSsX(X:Cx)(st:List Stmt)(G:GZ):Prop where
 mk::go:∀H₀ B₀ δ,PSs X st (tXS X H₀ B₀ δ G)
section
variable{as bs:List Stmt}{G:GS}{G1 G2 Ga:GZ}{gt:GB}{gA:GA}
theorem z30(h:PSD X st G):PSX X st (okZ G):=.mk λH₀ B₀ δ pins s σ H D I ⟨r,en,e,k⟩=>by
 unfold okZ at e;cases e1:G δ with
 | none=>rw[e1] at e;cases e
 | some r1 =>
  rw[e1] at e;cases e;exact h H₀ B₀ δ pins s σ H D I ⟨r1,en,e1,k⟩
theorem wp0:PSsX X [] vg0:=.mk λH₀ B₀ δ pins s σ H D I ⟨r,en,e,k⟩=>by
 cases e;exact u90 pins s σ H D I (k σ H en)
theorem V8(h1:PSX X st G1)(h2:PSsX X rest G2):PSsX X (st::rest) (T4 G1 G2):=.mk λH₀ B₀ δ pins s σ H D I ⟨r,en,e,k⟩=>by
 unfold T4 at e;cases e1:G1 δ with
 | none=>rw[e1] at e;cases e
 | some r1 =>
  rw[e1] at e;cases r1 with
  | ex c n δ'=>cases e;exact U5 (h1.go H₀ B₀ δ) M9 pins s σ H D I ⟨_,en,e1,k⟩
  | ok r1 =>
   cases r1 with
   | nx δ'=>exact U5 (h1.go H₀ B₀ δ) (h2.go H₀ B₀ δ') pins s σ H D I ⟨_,en,e1,fun σ' H' en'=>⟨r,en',e,k⟩⟩
   | rt d=>cases e;exact U5 (h1.go H₀ B₀ δ) M9 pins s σ H D I ⟨_,en,e1,k⟩
   | bk δ'=>cases e;exact U5 (h1.go H₀ B₀ δ) M9 pins s σ H D I ⟨_,en,e1,k⟩
   | ct δ'=>cases e;exact U5 (h1.go H₀ B₀ δ) M9 pins s σ H D I ⟨_,en,e1,k⟩
   | rf d=>cases e;exact U5 (h1.go H₀ B₀ δ) M9 pins s σ H D I ⟨_,en,e1,k⟩
theorem We0(hc:PTD X c gt)(ha:PSsX X as Ga)(hb:PSsX X bs Gb):PSX X (.If c as bs pos) (ifZ gt Ga Gb):=.mk λH₀ B₀ δ pins s σ H D I ⟨r,en,e1,k⟩=>by
 unfold ifZ at e1;obtain⟨B,b1,b2,env⟩:=en.ex;cases e2:gt δ with
 | none=>rw[e2] at e1;cases e1
 | some t =>
  rw[e2] at e1;refine h70 (hc B δ) (ha.go H₀ B₀ δ) (hb.go H₀ B₀ δ) pins s σ H D I ⟨t,env,e2,λH' s'=>?_⟩;cases t with
  | true=>exact⟨r,en.grow s',e1,k⟩
  | false=>exact⟨r,en.grow s',e1,k⟩
theorem da0{r:Addr}:(Value.ref r::XC.bmV).contains (.type "BaseException")=true:=by
 rw[List.contains_cons];rfl
theorem fy0{r:Addr}{cn y:Str}{j:Nat}{np cp cpos:Pos}(T:XC.Tab X.K X.mg root r cs rs)(h1:cn∈rs)(h2:cn∈cs)(hcalm:X.calm=true:=by rfl)(hg:Gl X cn:=by rfl)
  (hd:(cn==("__debug__" : Str))=false:=by decide) (he:starEach [.Constant (.str y) j cp] X.env=[(false,eval (.Constant (.str y) j cp) X.env)]:=by rfl)
  (hbt:backTo cpos [(false,eval (.Constant (.str y) j cp) X.env)]=[(false,eval (.Constant (.str y) j cp) X.env)]:=by rfl) :
  PSX X (.Raise (some (.Call (.Name cn np) [.Constant (.str y) j cp] [] cpos)) none pos) (kh0 cn):=.mk λH₀ B₀ δ pins s σ H D I ⟨r',en,e1,k⟩=>by
 cases e1;obtain⟨C,J⟩:=T.all cn h2;obtain⟨C',n,O⟩:=T.rai cn h1;have:C'=C:=by
  have:=n.symm.trans J.ns;cases this;rfl
 subst this;exact cc0 J.mg O da0 hcalm hg hd he hbt pins s σ H D I (k σ H C' none en J.ns trivial)
end
def spX(K:W.Frag)(f:List D->Option DX):Sp:=λvs H Q E=>∃(B:BS) (ds:List D) (r:DX),(∀a,B a->NB (H a))/\Rps K H B ds vs/\f ds=some r/\match r with
 | .ok d=>∀v H',Same H H'->Rp K H' B d v->Q v H'
 | .ex c n=>∀C od H',Same H H'->W.nsIn K mainGlobals c=some (some (.ref C))->XdS H H' od n->E (.ref C) od H'
structure FnX(P:Program)(w:World)(K:W.Frag)(mg:Str->Option Value)(base:Heap)(x:Str)(k:Nat)(ps:List Str)(f:List D->Option DX):Prop where
 ex:∃fa fd,FnOk P w K mg base (CXE P w) k fa fd ps (spX K f)/\mg x=some (.ref fa)/\W.keepIn K (.ref fa)=true/\Binds K fd ps []
section
variable{gA:GA}
theorem dv0(i:Nat){y:Str}{k m:Nat}{ps:List Str}{f:List D->Option DX}(C:FnX X.prog X.w X.K X.mg X.base x k ps f)(hr:Room m X.A)(hk:k<=m)(ha:PDA X (e::es) gA)(hN:X.N.Nodup)
  (hi:X.N[i]?=some y:=by rfl) (hx:Loc X.env.scope y:=by first|exact Or.inl rfl|exact Or.inr rfl) (hf:X.fn y=true∨X.env.scope.names.lookup y=some .local:=by first|exact .inl rfl|exact .inr rfl|assumption)
  (hg:Gl X x:=by rfl) (hdb:(x==("__debug__" : Str))=false:=by decide) (he:starEach (e::es) X.env=(false,eval e X.env)::starEach es X.env:=by rfl) (hpl:(backTo pos (starEach es X.env)).any (·.1)=false:=by rfl)
  {ap:Pos} (hs:swapsWithSole [.Name y px] (.Call (.Name x p) (e::es) [] pos) ap.line X.env=pure false:=by rfl) (hw:swappedStores [.Name y px] (.Call (.Name x p) (e::es) [] pos) X.env=pure none:=by rfl)
  (h1:(assignEach [.Name y px] X.env).map (·.2)=[assign (.Name y px) X.env]:=by rfl) :
  PSX X (.Assign [.Name y px] (.Call (.Name x p) (e::es) [] pos) ap) (g80 gA f i):=.mk λH₀ B₀ δ pins s σ H D I ⟨r,en,e1,k⟩=>by
 unfold g80 at e1;obtain⟨B,b1,b2,env⟩:=en.ex;obtain⟨fa,fd,F,hm,J,hb⟩:=C.ex;cases e2:gA δ with
 | none=>rw[e2] at e1;cases e1
 | some ds =>
  rw[e2,Option.bind_some] at e1;cases e3:f ds with
  | none=>rw[e3] at e1;cases e1
  | some dx =>
   rw[e3] at e1;cases e1;refine po0 (lx0 (dvs:=[]) (ds:=[]) F (hr.mono hk) hg hm J hb .nil (ha B δ) hdb he hpl) (zx0 (i:=i) hN hi hx hf) hs hw h1 pins s σ H D I ⟨ds,env,e2,λvs H1 s1 r1=>?_⟩;show spX X.K f (vs++[]) H1 _ _;rw[List.append_nil];refine⟨B,ds,dx,(env.same s1).bad,r1,e3,?_⟩;cases dx with
   | ok d=>exact λv H' s2 r2=>k _ H' (en.wr b1 b2 (s1.trans s2) pl0 ((env.same (s1.trans s2)).set i r2))
   | ex c m =>
    intro C od H' s2 n x C' q;cases q;refine k σ H' C od (en.grow (s1.trans s2)) n ?_;cases m with
    | none=>trivial
    | some m =>
     obtain⟨dx,e,x1,x2⟩:=x;exact⟨dx,B,e,oj0 (en.same.trans s1) x1,x2,b1,b2,env.same (s1.trans s2),λz=>(env.same s1).bad dx z x1⟩
end
section
variable{P:Program}{w:World}
def mkX(n:Nat)(N:List Str)(G:GZ)(ds:List D):Option DX:=if ds.length=n then (match G (j8 N ds) with
 | some (.ok (.rt d))=>some (.ok d)
 | some (.ex c n _)=>some (.ex c n)
 | _=>none) else none
theorem fk0{G:GZ}{r:DX}(h:mkX n N G ds=some r):ds.length=n/\((∃d,r=.ok d/\G (j8 N ds)=some (.ok (.rt d)))∨∃c n δ,r=.ex c n/\G (j8 N ds)=some (.ex c n δ)):=by
 unfold mkX at h;split at h
 ·rename_i hl
  refine⟨hl,?_⟩;split at h
  ·rename_i e;cases h;exact .inl ⟨_,rfl,e⟩
  ·rename_i e;cases h;exact .inr ⟨_,_,_,rfl,e⟩
  ·cases h
 ·cases h
theorem lq0{G:GZ}{d:D}(hl:ds.length=n)(h:G (j8 N ds)=some (.ok (.rt d))):mkX n N G ds=some (.ok d):=by
 unfold mkX;rw[if_pos hl,h]
theorem okX{ps:List Str}{k:Nat}{G:GZ}(F:Fun K x qual st fa fd)(S:FnScope N ps (u6 st))
  (body:∀(cdv:Value) (A:Around) (outer:List PySem.Env) (s:Shared) (H:Hp) (E:XK),Room k (A.deeper (envOfC qual (u6 st) s.heap.objs.size fa cdv))->PSsX (zv0 (CXE P w) P w K mg base N qual (u6 st) fa cdv A outer s H E) (Z4 st) G) :
  FnOk P w K mg base (CXE P w) (k+1) fa fd ps (spX K (mkX ps.length N G)):=by
 obtain⟨oc,od,kV,doc,pm,an,cdv,ct,osl,rfl,lk,hcd⟩:=F.ex;refine hf0 lk hcd S (λvs H Q E ⟨B,ds,r,_,rr,h,_⟩=>by rw[rr.length];exact(fk0 h).1) λA outer s H vs Q E hr Y=>?_
 obtain⟨B,ds,r,hb,rr,h,q⟩:=Y;refine⟨_,(body cdv A outer s H E hr).go H B (j8 N ds),?_⟩;have en:EnvS K H B H (L2.start N vs) (j8 N ds):=by
  refine⟨Same.refl H,⟨B,λ_ z=>z,λ_ z=>.inl z,⟨?_,hb,λi j a O es h1 _ _ _=>(U7 h1).elim⟩⟩,λi O a h1 _=>(U7 h1).elim,hb⟩;unfold L2.start j8;rw[rr.length];exact Pd.app (J4 (N:=N) rr) (yj0 _)
 rcases (fk0 h).2 with⟨d,rfl,e⟩|⟨c,m,δ,rfl,e⟩
 ·exact⟨_,en,e,λv H' s' r'=>q v H' s' r'⟩
 ·refine⟨_,en,e,fun σ H' C od' en' n x pins s1 ea I lie=>?_⟩
  refine A0 (I.noted rfl lie λh' I' J=>?_);refine⟨ea,C,od',H',rfl,I'.os,I'.bare,I'.base,I'.hok,J.mono λb z=>⟨z.1,?_⟩,q C od' H' en'.same n x.out⟩;rcases z.2.2.2.1 with y|y
  ·exact absurd (show b∈([]:List Addr) from y) (by simp)
  ·exact y
end
end DL
variable{Gb:DL.GZ}
namespace DL
open Spec PyProof.Rows L2
section
variable{σ:St}{C:Addr}{c:Str}
theorem li0{s:Sl}{d:D}(hs:∀d,s≠.ow d)(h:(δ.set i s)[j]?=some (.ow d)):j≠i:=by
 rintro rfl
 by_cases hl:j<δ.length
 ·rw[List.getElem?_set_self hl] at h
  cases h;exact hs _ rfl
 ·rw[List.getElem?_eq_none (by simpa using hl)] at h
  cases h
theorem Env.setSl{o:Option V}{s:Sl}(e:Env K H B σ δ)(hs:∀d,s≠.ow d)(r:SlR K H B o s):Env K H B (σ.set i o) (δ.set i s):=by
 refine⟨Pd.set r i e.all,e.bad,λj k b ds es h1 h2 h3 h4=>?_⟩;have hj:=li0 hs h1;have hk:=li0 hs h2;rw[List.getElem?_set_ne (A4 hj)] at h1 h3;rw[List.getElem?_set_ne (A4 hk)] at h2 h4;exact e.own j k b ds es h1 h2 h3 h4
end
end DL
namespace DL
open Spec PyProof.Rows L2
def U9(f:List D->Option DX)(ds:List D):Option D:=match f ds with
 | some (.ok d)=>some d
 | _=>none
theorem kz0{f:List D->Option DX}{d:D}(h:U9 f ds=some d):f ds=some (.ok d):=by
 unfold U9 at h;split at h
 ·rename_i e;cases h;exact e
 ·cases h
theorem v40{f:List D->Option DX}{d:D}(h:f ds=some (.ok d)):U9 f ds=some d:=by
 unfold U9;rw[h]
section
variable{P:Program}{w:World}
theorem Yn0{k:Nat}{ps:List Str}{f:List D->Option DX}(F:FnOk P w K mg base (CXE P w) k fa fd ps (spX K f)):FnOk P w K mg base CX0 k fa fd ps (spD K (U9 f)):=by
 have cv:∀{vs H Q E},spD K (U9 f) vs H Q E->spX K f vs H Q (λ_ _ _=>False):=λ{vs H Q E} ⟨B,ds,d,hb,r,h,q⟩=>⟨B,ds,.ok d,hb,r,kz0 h,q⟩
 refine⟨λvs H Q E h=>F.len vs H Q _ (cv h),λA outer s H J us vs Q E hr e0 hb r sp=>N2 (F.run A outer s H J us vs Q _ hr e0 hb r (cv sp)) λr s' hq=>?_⟩;cases r with
 | error ex =>
  obtain⟨_,_,_,_,_,_,_,_,_,_,z⟩:=hq;exact z.elim
 | ok fl =>
  cases fl with
  | ret u=>exact hq
  | next=>exact hq
  | brk=>exact hq
  | cont=>exact hq
theorem FnX.plain{k:Nat}{ps:List Str}{f:List D->Option DX}(C:FnX P w K mg base x k ps f):FnD P w K mg base x k ps (U9 f):=by
 obtain⟨fa,fd,F,h⟩:=C.ex;exact⟨fa,fd,Yn0 F,h⟩
end
end DL
namespace DL
open Spec PyProof.Rows L2
@[simp] def d70(i j k:Nat):D->Ds->Option Ds
 | .tup [a,b,c],δ=>some (((δ.set i (.sh a)).set j (.sh b)).set k (.sh c))
 | _,_=>none
section
variable{e0:Expr}{g:GE}{gA:GA}
theorem cj0(i j k:Nat){z:Str}{p2 p3 p4:Pos}{kk}(hN:X.N.Nodup)(hij:i≠j/\i≠k/\j≠k)(hc:X.calm=true:=by rfl)(hi:X.N[i]?=some x:=by rfl)(hj:X.N[j]?=some y:=by rfl)(hk:X.N[k]?=some z:=by rfl)
  (hx:Loc X.env.scope x:=by first|exact Or.inl rfl|exact Or.inr rfl) (hy:Loc X.env.scope y:=by first|exact Or.inl rfl|exact Or.inr rfl) (hz:Loc X.env.scope z:=by first|exact Or.inl rfl|exact Or.inr rfl)
  (hf:X.fn x=true∨X.env.scope.names.lookup x=some .local:=by first|exact .inl rfl|exact .inr rfl|assumption) (hf2:X.fn y=true∨X.env.scope.names.lookup y=some .local:=by first|exact .inl rfl|exact .inr rfl|assumption) (hf3:X.fn z=true∨X.env.scope.names.lookup z=some .local:=by first|exact .inl rfl|exact .inr rfl|assumption)
  (hs1:(assignEach [.Name x p2,.Name y p3,.Name z p4] X.env).map (·.2)=assign (.Name x p2) X.env::(assignEach [.Name y p3,.Name z p4] X.env).map (·.2):=by rfl) (hs2:(assignEach [.Name y p3,.Name z p4] X.env).map (·.2)=assign (.Name y p3) X.env::(assignEach [.Name z p4] X.env).map (·.2):=by rfl) (hs3:(assignEach [.Name z p4] X.env).map (·.2)=assign (.Name z p4) X.env::(assignEach [] X.env).map (·.2):=by rfl)
  (hn:(assignEach [.Name x p2,.Name y p3,.Name z p4] X.env).length=3:=by rfl) (hst:(assignEach [.Name x p2,.Name y p3,.Name z p4] X.env).findIdx? (·.1)=none:=by rfl) :
  PGD X (.Tuple [.Name x p2,.Name y p3,.Name z p4] kk pos) [i,j,k] (d70 i j k):=.mk λB d δ=>(gu0 hc (ww0 (zx0 (i:=i) hN hi hx hf) (ww0 (zx0 (i:=j) hN hj hy hf2) (ww0 (zx0 (i:=k) hN hk hz hf3) jq0 hs3) hs2) hs1) hn hst).imp λv σ H Q ⟨δ',r,en,e1,kq⟩=>by
 unfold d70 at e1;split at e1
 ·rename_i da db dc
  cases e1;rw[X4] at r;obtain⟨p,xs,rfl,hq,rs⟩:=r;rw[p8] at rs;obtain⟨va,t1,rfl,ra,rs⟩:=rs;rw[p8] at rs;obtain⟨vb,t2,rfl,rb,rs⟩:=rs;rw[p8] at rs;obtain⟨vc,t3,rfl,rc,rs⟩:=rs;rw[n6] at rs;subst rs;refine⟨p,_,rfl,hq.to,rfl,va,[vb,vc],rfl,vb,[vc],rfl,vc,[],rfl,rfl,kq _ ?_ (((en.set i ra).set j rb).set k rc)⟩;refine⟨by simp,λq hq=>?_,λq hq ds h=>?_⟩
  ·have h1:q≠i:=λz=>hq (by rw[z];exact A9)
   have h2:q≠j:=λz=>hq (by rw[z];exact A7 _ A9)
   have h3:q≠k:=λz=>hq (by rw[z];exact A7 _ (A7 _ A9))
   rw[List.getElem?_set_ne (A4 h3),List.getElem?_set_ne (A4 h2),List.getElem?_set_ne (A4 h1),List.getElem?_set_ne (A4 h3),List.getElem?_set_ne (A4 h2),List.getElem?_set_ne (A4 h1)];exact⟨rfl,rfl⟩
  ·rcases get_set h with⟨rfl,e3,_⟩|⟨n1,e3⟩
   ·cases e3
   ·rcases get_set e3 with⟨rfl,e4,_⟩|⟨n2,e4⟩
    ·cases e4
    ·rcases get_set e4 with⟨rfl,e5,_⟩|⟨n3,e5⟩
     ·cases e5
     ·simp at hq
      rcases hq with z|z|z
      ·exact n3 z.symm
      ·exact n2 z.symm
      ·exact n1 z.symm
 ·cases e1
end
end DL
namespace L2
open Spec PyProof.Rows
def bo0(K:W.Frag):R2:=λx y H Q=>∃a xs k,x=.ref a/\y=.int k/\SqL K H a xs/\xs≠[]/\0<=k/\k<2 ^ 62/\xs.length*k.toNat<=2 ^ 20/\∀p,H p=none->Q (.ref p) (upd H p (.lst (List.replicate k.toNat xs).flatten))
theorem ab0:OpR X (binaryOp .Mult) (bo0 X.K):=by
 intro pins s σ H x y v u Q I rx ry h;obtain⟨a,xs,k,rfl,rfl,ha,hx,h2,h3,hz,q⟩:=h;cases rx;obtain⟨t,rfl⟩:=ry;obtain⟨its,r1,p1,_⟩:=I.list ha;obtain⟨⟨cls,dd,data,sl⟩,ho,hc,n,hd⟩:=p1.isList;simp only at hc hd;subst hc hd;have hl:=r1.length;have he:its.toArray.isEmpty=false:=by
  cases its with
  | nil=>exact absurd (r1.nil_iff.mp rfl) hx
  | cons a b=>rfl
 have J:its.toArray.size*k.toNat<=2 ^ 20:=by rw[List.size_toArray,← hl];exact hz
 have O:(List.replicate (if its.toArray.isEmpty=true then 0 else k.toNat) its.toArray).foldl (·++·) #[]=(List.replicate k.toNat its).flatten.toArray:=by
  rw[he];have:=foldl_rep its k.toNat [];rw[List.nil_append] at this;exact this
 have a1:¬(!Builtin.List.listFitsIndex k)=true:=by
  have:Builtin.List.listFitsIndex k=true:=by unfold Builtin.List.listFitsIndex;simp;omega
  rw[this];decide
 have Z:¬its.toArray.size*k.toNat > (2 ^ 63 - 1)/8:=by omega
 have Y:¬Builtin.List.listTooLong (its.toArray.size*k.toNat)=true:=by
  rw[List.size_toArray] at J ⊢;unfold Builtin.List.listTooLong;simp;unfold sizeLine;omega
 refine wpAny_binaryOp_repeat_ref (T := "list") (U := "int") (by decide) ⟨_,ho,rfl⟩ (λs'=>N9 s' k t) noFill_list_mul F.fills_int_mul F.slot_int_rmul repeat_list F.slot_int_index.lookup
  (E6 F.slot_int_rmul (N9 s k t) F.entry_int_rmul (F.args_int_rmul_2 _ _) (lm_int_rmul_list_any k t a its.toArray n dd sl)
   ⟨ho,rfl,⟨_,ho,rfl⟩,E6 F.slot_list_mul ⟨_,ho,rfl⟩ F.entry_list_mul (F.args_list_mul_2 _ _) (lm_list_mul_any a its.toArray n dd sl k t a1 Z Y) ⟨ho,?_⟩⟩)
 rw[O];exact⟨.ref _,_,I.lnew (t':=s.toks) (r1.rep k.toNat) (by rw[len_rep,Nat.mul_comm];unfold sizeLine;omega),rfl,q _ I.fresh⟩
end L2
namespace DL
open Spec PyProof.Rows L2
def mulL:D->D->Option D
 | .lst xs,.int k=>if xs≠[]/\0<=k/\k<2 ^ 62/\xs.length*k.toNat<=2 ^ 20 then some (.lst (List.replicate k.toNat xs).flatten) else none
 | _,_=>none
section
variable{a:Expr}{ga gb:GE}
theorem do0:Op2 K (bo0 K) mulL:=by
 intro H B x y dx dy d Q hb rx ry h k;unfold mulL at h;split at h
 ·split at h
  ·rename_i hz
   cases h;rw[Z5] at rx;rw[j5] at ry;subst ry;obtain⟨a,xs,rfl,q1,r1⟩:=rx;refine⟨a,xs,_,rfl,rfl,q1.to,λz=>hz.1 ?_,hz.2.1,hz.2.2.1,by rw[r1.length];exact hz.2.2.2,λp hp=>k _ _ (Z1 hp) (vr0 hb hp (i70 r1 _))⟩;subst z;have hn:=r1.length;simp at hn;exact X0.mp hn.symm
  ·cases h
 ·cases h
theorem sa0(ha:PD X a ga)(hb:PD X b gb):PD X (.BinOp a .Mult b pos) (o2 ga gb mulL):=v90 ab0 do0 ha hb
end
def mj0(g0:GE)(gA:GA)(f:List D->Option DX)(gi:GE)(m:List D->Option D):GZ:=fun δ=>(g0 δ).bind λd0=>(gA δ).bind λds=>(f ds).bind λr=>match r with
 | .ok d=>(gi δ).bind λk=>(ixD d k).bind λw=>(m [d0,w]).map λv=>.ok (.rt v)
 | .ex c n=>some (.ex c n δ)
def atC(ys:List Str):D->Option D
 | .int i=>(L2.atI ys i).map D.str
 | _=>none
section
variable{a0 ix:Expr}{gi gb:GE}{gA:GA}{posg pg p5 rp:Pos}
theorem ds0{gn:Str}{k kg m:Nat}{ps psg:List Str}{f:List D->Option DX}{mf:List D->Option D}(C:FnX X.prog X.w X.K X.mg X.base x k ps f)(Cg:FnD X.prog X.w X.K X.mg X.base gn kg psg mf)(hr:Room m X.A)(hk:k<=m)(hkg:kg<=m)
  (h0:PD X a0 g0) (ha:PDA X (e::es) gA) (hi:PD X ix gi) (hs:u80 ix:=by exact λ_ _=>rfl)
  (hg:Gl X x:=by rfl) (hgg:Gl X gn:=by rfl) (hdb:(x==("__debug__" : Str))=false:=by decide) (hdbg:(gn==("__debug__" : Str))=false:=by decide)
  (he:starEach (e::es) X.env=(false,eval e X.env)::starEach es X.env:=by rfl) (hpl:(backTo pos (starEach es X.env)).any (·.1)=false:=by rfl)
  (he2:starEach [.Subscript (.Call (.Name x p) (e::es) [] pos) ix p5] X.env=(false,eval (.Subscript (.Call (.Name x p) (e::es) [] pos) ix p5) X.env)::starEach [] X.env:=by rfl)
  (he1:starEach [a0,.Subscript (.Call (.Name x p) (e::es) [] pos) ix p5] X.env=(false,eval a0 X.env)::starEach [.Subscript (.Call (.Name x p) (e::es) [] pos) ix p5] X.env:=by rfl)
  (hplg:(backTo posg (starEach [.Subscript (.Call (.Name x p) (e::es) [] pos) ix p5] X.env)).any (·.1)=false:=by rfl) :
  PSX X (.Return (some (.Call (.Name gn pg) [a0,.Subscript (.Call (.Name x p) (e::es) [] pos) ix p5] [] posg)) rp) (mj0 g0 gA f gi mf):=.mk λH₀ B₀ δ pins s σ H D I ⟨r,en,e1,k⟩=>by
 unfold mj0 at e1;obtain⟨B,b1,b2,env⟩:=en.ex;obtain⟨fa,fd,F,hm,a5,hb⟩:=C.ex;obtain⟨ga,gd,G,a3,a1,a4⟩:=Cg;cases e0:g0 δ with
 | none=>rw[e0] at e1;cases e1
 | some d0 =>
  rw[e0,Option.bind_some] at e1;cases e2:gA δ with
  | none=>rw[e2] at e1;cases e1
  | some ds =>
   rw[e2,Option.bind_some] at e1;cases e3:f ds with
   | none=>rw[e3] at e1;cases e1
   | some dx =>
    rw[e3,Option.bind_some] at e1;refine ph0 (pq0 (E:=E0) G (hr.mono hkg) hgg a3 a1 a4 .nil mf0 (R5 (h0 B δ) (R5 (me0 gx0 (lx0 (dvs:=[]) (ds:=[]) F (hr.mono hk) hg hm a5 hb .nil (ha B δ) hdb he hpl) (hi B δ) hs) J0 he2) he1) hdbg he1 hplg) pins s σ H D I
     ⟨d0,env,e0,λv0 H0 s0 r0=>⟨ds,env.same s0,e2,λvs H1 s1 r1=>?_⟩⟩
    show spX X.K f (vs++[]) H1 _ _;rw[List.append_nil];have a2:=env.same (s0.trans s1);refine⟨B,ds,dx,a2.bad,r1,e3,?_⟩;cases dx with
    | ok d =>
     simp only[] at e1;cases e4:gi δ with
     | none=>rw[e4] at e1;cases e1
     | some dk =>
      rw[e4,Option.bind_some] at e1;cases e5:ixD d dk with
      | none=>rw[e5] at e1;cases e1
      | some dw =>
       rw[e5,Option.bind_some] at e1;cases e6:mf [d0,dw] with
       | none=>rw[e6] at e1;cases e1
       | some dv =>
        rw[e6] at e1;cases e1;intro v H2 s2 r2;have O:=(s0.trans s1).trans s2;refine⟨dk,env.same O,e4,λvk H3 s3 r3=>?_⟩;have Z:=O.trans s3;refine fx0 H3 B v vk d dk dw _ (env.same Z).bad (r2.same s3) r3 e5 λw H4 s4 r4=>?_
        have Y:=Z.trans s4;show spD X.K mf ([v0,w]++[]) H4 _ E0;rw[List.append_nil];refine⟨B,[d0,dw],dv,(env.same Y).bad,?_,e6,λu H5 s5 r5=>?_⟩
        ·rw[p8]
         refine⟨v0,[w],rfl,r0.same (((s1.trans s2).trans s3).trans s4),?_⟩;rw[p8];exact⟨w,[],rfl,r4,by rw[n6]⟩
        ·exact k u H5 (en.same.trans (Y.trans s5)) (r5.mono (Gr.less b1))
    | ex c m =>
     simp only[Option.some.injEq] at e1;subst e1;intro C od H' s2 n x C' q;cases q;have J:=s0.trans s1;refine k σ H' C od (en.grow (J.trans s2)) n ?_;cases m with
     | none=>trivial
     | some m =>
      obtain⟨dx,e,x1,x2⟩:=x;exact⟨dx,B,e,oj0 (en.same.trans J) x1,x2,b1,b2,env.same (J.trans s2),λz=>(env.same J).bad dx z x1⟩
theorem c90(ys:List Str)(i:Int):L2.atI (ys.map V.str) i=(L2.atI ys i).map V.str:=by
 unfold L2.atI;rw[List.length_map];cases L2.ixN ys.length i with
 | none=>rfl
 | some j=>simp
theorem Xo0{ys:List Str}(hK:l40 X.K X.mg x ys)(hb:PD X b gb)(hg:Gl X x:=by rfl)(hd:(x==("__debug__" : Str))=false:=by decide)(hs:u80 b:=by exact λ_ _=>rfl) :
  PD X (.Subscript (.Name x p0) b pos) (unG (atC ys) gb):=.mk λB δ=>by
 obtain⟨p,o,its,n,hm,hk,hc,Y,J,O,hv⟩:=hK;refine(me0 er0 (sl0 (v:=.ref p) hg hm rfl hd) (hb B δ) hs).imp fun σ H Q ⟨d,en,h,k⟩=>?_
 unfold unG at h;cases e2:gb δ with
 | none=>rw[e2] at h;cases h
 | some dk =>
  rw[e2,Option.bind_some] at h;unfold atC at h;split at h
  ·rename_i i
   cases e3:L2.atI ys i with
   | none=>rw[e3] at h;cases h
   | some y =>
    rw[e3] at h;cases h;refine⟨_,en,e2,λv H1 s1 r1=>?_⟩;rw[j5] at r1;subst r1;exact⟨p,ys.map V.str,i,.str y,rfl,rfl,.inr ⟨o,its,n,hk,hc,J,O,hv⟩,by rw[c90,e3];rfl,k _ H1 s1 (by rw[Z9])⟩
  ·cases h
end
def O8{α:Type}(xs:List α)(lo hi st:Option Int):List α:=(sliceRange (sliceBounds lo hi st xs.length).1 (sliceBounds lo hi st xs.length).2.1 (sliceBounds lo hi st xs.length).2.2).filterMap (xs[·]?)
theorem ko0(r:Rps K H B ds xs):∀l:List Nat,Rps K H B (l.filterMap (ds[·]?)) (l.filterMap (xs[·]?))
 | []=>by rw[List.filterMap_nil,List.filterMap_nil,n6]
 | i::l=>by
  have ih:=ko0 r l;cases e:ds[i]? with
  | none =>
   have e2:xs[i]?=none:=S0.mpr (by rw[r.length];exact S0.mp e);rw[List.filterMap_cons_none e,List.filterMap_cons_none e2];exact ih
  | some d =>
   obtain⟨x,ex,rx⟩:=r.get e;rw[List.filterMap_cons_some e,List.filterMap_cons_some ex,p8];exact⟨_,_,rfl,rx,ih⟩
theorem or0(r:Vals xs us):∀l:List Nat,Vals (l.filterMap (xs[·]?)) (l.filterMap (us[·]?))
 | []=>.nil
 | i::l=>by
  have ih:=or0 r l;cases e:xs[i]? with
  | none =>
   rw[List.filterMap_cons_none e,List.filterMap_cons_none (r.none_of e)];exact ih
  | some d =>
   obtain⟨u,eu,ru⟩:=r.get e;rw[List.filterMap_cons_some e,List.filterMap_cons_some eu];exact .cons ru ih
section
variable{lo hi st:Option Expr}{tl th ts:TO}
def Ub0(K:W.Frag)(te:TE)(tl th ts:TO):TE:=fun σ H Q=>te σ H λx H1=>tl σ H1 λl H2=>th σ H2 λu H3=>ts σ H3 λc H4=>∃a xs,x=.ref a/\SqL K H4 a xs/\c≠some 0/\∀p,H4 p=none->Q (.ref p) (upd H4 p (.lst (O8 xs l u c)))
theorem bz0(he:PE X e te)(hl:PO X lo tl)(hu:PO X hi th)(hst:PO X st ts)(hsub:∀o i,subscripted (.Slice lo hi st p2) false o i=operate [o,i] (getItem o i):=by intros;with_unfolding_all rfl):PE X (.Subscript e (.Slice lo hi st p2) pos) (Ub0 X.K te tl th ts):=by
 intro pins s σ H Q I h;refine Subscript_ (thn (he pins s σ H _ I h) λv s1 ⟨x,H1,I1,r1,q1⟩=>?_);refine wpAny_Slice (thn (hl pins s1 σ H1 _ I1 q1) λvl s2 ⟨l,H2,I2,pl,q2⟩=>thn (hu pins s2 σ H2 _ I2 q2) λvu s3 ⟨u,H3,I3,pu,q3⟩=>thn (hst pins s3 σ H3 _ I3 q3) λvc s4 ⟨c,H4,I4,pc,a,xs,ex,hx,hc,q⟩=>?_);subst ex;cases r1;have I5:Inv X pins σ H4 { s4 with heap:=s4.heap.push { cls:=.type "slice",data:=.fields #[vl,vu,vc] } }:=I4.kept (t':=s4.toks) λb ob q=>A6 _ q
 obtain⟨its,r,ht,hz⟩:=I5.list hx;have O:=r.length;have hg:wpAny (model X.prog X.w) X.A (getItem (.ref a) (.ref s4.heap.objs.size)) (EP X pins σ Q) X.xe { s4 with heap:=s4.heap.push { cls:=.type "slice",data:=.fields #[vl,vu,vc] } }:=by
  refine Aj0 ht.isList (Heap.IsSliceOf.new ..) pl pu pc hc ?_ (by rw[List.size_toArray]<;>omega);refine⟨.ref _,_,I5.laid (t':=s4.toks) (o:=.lst (O8 xs l u c)) (λb ob q=>A6 _ q) (A1 _) ?_,rfl,q _ (I5.hok.fresh (A1 _))⟩;have hp:slicePick its.toArray l u c=(O8 its l u c).toArray:=by
   unfold slicePick O8;simp
  have Y:(O8 its l u c).length<=its.length:=by
   have:=slicePick_size_le its.toArray l u c;rw[hp] at this
   simpa using this
  have J:Vals (O8 xs l u c) (O8 its l u c):=by
   unfold O8;rw[O];exact or0 r _
  exact⟨by rw[J.length];omega,O8 its l u c,0,J,by rw[hp];exact B7 _ rfl⟩
 exact tail_any (ops:=[.ref a,.ref s4.heap.objs.size]) ht.isList.typeIs W1.lookup hg (hsub _ _)
def sq0(g:GE)(gl gh gs:Ds->Option (Option Int)):GE:=fun δ=>(g δ).bind λd=>(gl δ).bind λlo=>(gh δ).bind λhi=>(gs δ).bind λc=>match d with
 | .lst xs=>if c≠some 0 then some (.lst (O8 xs lo hi c)) else none
 | _=>none
theorem jr0{g:GE}{gl gh gs:Ds->Option (Option Int)}(he:PD X e g)(hl:PDO X lo gl)(hh:PDO X hi gh)(hs:PDO X st gs)(hsub:∀o i,subscripted (.Slice lo hi st p2) false o i=operate [o,i] (getItem o i):=by intros;with_unfolding_all rfl) :
  PD X (.Subscript e (.Slice lo hi st p2) pos) (sq0 g gl gh gs):=.mk λB δ=>(bz0 (he B δ) (hl B δ) (hh B δ) (hs B δ) hsub).imp fun σ H Q ⟨d,en,h,k⟩=>by
 unfold sq0 at h;cases e1:g δ with
 | none=>rw[e1] at h;cases h
 | some x =>
  rw[e1,Option.bind_some] at h;cases e2:gl δ with
  | none=>rw[e2] at h;cases h
  | some l =>
   rw[e2,Option.bind_some] at h;cases e3:gh δ with
   | none=>rw[e3] at h;cases h
   | some u =>
    rw[e3,Option.bind_some] at h;cases e4:gs δ with
    | none=>rw[e4] at h;cases h
    | some c =>
     rw[e4,Option.bind_some] at h;split at h
     ·rename_i xs
      split at h
      ·rename_i hc
       cases h;refine⟨_,en,e1,λv H1 s1 r1=>⟨l,en.same s1,(by first|exact e2|rfl),λH2 s2=>⟨u,en.same (s1.trans s2),(by first|exact e3|rfl),λH3 s3=>⟨c,en.same ((s1.trans s2).trans s3),(by first|exact e4|rfl),λH4 s4=>?_⟩⟩⟩⟩;have r4:=((r1.same s2).same s3).same s4;rw[Z5] at r4;obtain⟨a,ys,rfl,hq,rr⟩:=r4;have J:=((s1.trans s2).trans s3).trans s4;refine⟨a,ys,rfl,hq.to,hc,λp hp=>k _ _ (J.trans (Z1 hp)) ?_⟩;rw[Z5];refine⟨p,_,rfl,.inl ⟨(en.same J).free hp,.inl m8⟩,?_⟩;have:Rps X.K H4 B (O8 xs l u c) (O8 ys l u c):=by
        unfold O8;rw[rr.length];exact ko0 rr _
       exact this.same (Z1 hp)
      ·cases h
     ·cases h
end
def tp0(δ:Ds):Prop:=∀(i:Nat) (d:D),δ[i]?≠some (.ow d)
instance{δ:Ds}:Decidable (tp0 δ):=by
 have:tp0 δ↔(δ.all λs=>match s with|.ow _=>false|_=>true)=true:=by
  rw[List.all_eq_true];constructor
  ·intro h s hs
   obtain⟨i,hi,e⟩:=u3.mp hs;cases s<;>first|rfl|(exact absurd (by rw[List.getElem?_eq_getElem hi,e]) (h i _))
  ·intro h i d e
   have:=h _ (D1 e);cases this
 exact decidable_of_iff _ this.symm
def apL(L:Bool->List D)(s:Bool)(d:D):Bool->List D:=λt=>if t=s then L s++[d] else L t
structure TwoS(K:W.Frag)(Hh:Hp)(x:Nat)(B:BS)(p:Addr)(Q:Bool->Addr)(L:Bool->List D)(δ:Ds)(σ:St)(H:Hp):Prop where
 env:Env K H B σ δ
 no:tp0 δ
 un:δ[x]?=some .un
 sx:σ[x]?=some (some (.ref p))
 hp:H p=some (.lst [.ref (Q false),.ref (Q true)])
 bp:B p
 bq:∀s,B (Q s)
 ne:∀s t,Q s=Q t->s=t
 np:∀s,p≠Q s
 hl:∀s,∃xs,H (Q s)=some (.lst xs)/\Rps K H B (L s) xs
 sm:Same Hh H
 hn:∀s,Hh (Q s)=none
section
variable{Hh:Hp}{x:Nat}{p:Addr}{Q:Bool->Addr}{σ:St}
theorem TwoS.same(T:TwoS K Hh x B p Q L δ σ H)(s:Same H H'):TwoS K Hh x B p Q L δ σ H' :=
 ⟨T.env.same s,T.no,T.un,T.sx,s _ _ T.hp,T.bp,T.bq,T.ne,T.np,λt=>let ⟨xs,e,r⟩:=T.hl t;⟨xs,s _ _ e,r.same s⟩,T.sm.trans s,T.hn⟩
theorem TwoS.app(T:TwoS K Hh x B p Q L δ σ H)(s:Bool){d:D}(e:H (Q s)=some (.lst xs))(r:Rps K H B (L s) xs)(rd:Rp K H B d v):TwoS K Hh x B p Q (apL L s d) δ σ (upd H (Q s) (.lst (xs++[v]))):=by
 have g:Gr H (upd H (Q s) (.lst (xs++[v]))) B B:=Gr.own (T.bq s);refine⟨⟨Pd.impG g T.no T.env.all,λa z=>?_,λi j a ds es h1=>absurd h1 (T.no i ds)⟩,T.no,T.un,T.sx,by rw[o6 (T.np s)];exact T.hp,T.bp,T.bq,T.ne,T.np,λt=>?_,λb o h=>?_,T.hn⟩
 ·by_cases q:a=Q s
  ·rw[q]
   exact .of m8 λob u z=>nomatch z
  ·rw[o6 q]
   exact T.env.bad a z
 ·unfold apL
  by_cases q:t=s
  ·subst q
   rw[if_pos rfl];exact⟨_,m8,(Rps.snoc r rd).mono g⟩
  ·rw[if_neg q]
   obtain⟨ys,e2,r2⟩:=T.hl t;exact⟨ys,by rw[o6 (λz=>q (T.ne _ _ z))];exact e2,r2.mono g⟩
 ·have h1:=T.sm b o h
  rw[o6 (λz=>by rw[z,T.hn s] at h;cases h)];exact h1
end
section
variable{gt:GB}{ge:GE}{pk ps epos ipos:Pos}{kk:Nat}
def stepT(gt:GB)(ge:GE)(s:Bool)(L:Bool->List D):Ds->Option (Bool->List D):=fun δ=>(gt δ).bind λt=>if t=true then (ge δ).bind λd=>if (L s).length<sizeLine then some (apL L s d) else none else some L
theorem fz0(Hh:Hp)(x:Nat)(s:Bool){i0:Int}(hi:i0=if s=true then 1 else 0)(hc:PTD X c gt)(he:PD X e ge)(hN:X.N[x]?=some nx)(hv:Vis X.env.scope nx)(hd:(nx==("__debug__" : Str))=false)(hcd:(nx==("__classdict__" : Str))=false)
  (hbase:attributeBase (.Subscript (.Name nx px) (.Constant (.int i0) kk pk) ps) "append" X.env (eval (.Subscript (.Name nx px) (.Constant (.int i0) kk pk) ps) X.env)=eval (.Subscript (.Name nx px) (.Constant (.int i0) kk pk) ps) X.env)
  (hfew:((backTo cpos (starEach [e] X.env)).all (λx=>!x.1)&&(backToKw cpos (keywordEach [] X.env)).all (λx=>x.1.isSome)
  &&decide (([e]:List Expr).length+([]:List Keyword).length+(if ([]:List Keyword).isEmpty then 0 else 1)<30))=true)
  (hline:(apos.endLine==cpos.line)=true) (hs:starEach [e] X.env=(false,eval e X.env)::starEach [] X.env) (hplain:(backTo cpos (starEach [] X.env)).any (·.1)=false)
  (hsw:swapsWith (.Call (.Attribute (.Subscript (.Name nx px) (.Constant (.int i0) kk pk) ps) "append" apos) [e] [] cpos) none epos.line X.env=pure false) :
  PS X (.If c [.Expr (.Call (.Attribute (.Subscript (.Name nx px) (.Constant (.int i0) kk pk) ps) "append" apos) [e] [] cpos) epos] [] ipos)
   (λD σ H=>∃B p Q L L' δ,TwoS X.K Hh x B p Q L δ σ H/\stepT gt ge s L δ=some L'/\∀H',TwoS X.K Hh x B p Q L' δ σ H'->D.nx σ H'):=by
 intro pins s0 σ H D I ⟨B,p,Q,L,L',δ,T,e1,k⟩;unfold stepT at e1;cases e2:gt δ with
 | none=>rw[e2] at e1;cases e1
 | some t =>
  rw[e2,Option.bind_some] at e1;refine h70 (hc B δ) (U5 (i90 (ue0 P3 Av0 Aw0 tn0 (me0 jn0 (xl0 hN hv hd hcd) ms0 (λ_ _=>rfl)) (R5 (he B δ) J0 hs) hbase hfew hline hs hplain) hsw) u90) u90 pins s0 σ H D I ⟨t,T.env,e2,λH1 s1=>?_⟩;have T1:=T.same s1;cases t with
  | false =>
   rw[if_neg (by simp)] at e1;cases e1;show D.nx σ H1;exact k H1 T1
  | true =>
   rw[if_pos rfl] at e1;show Yq0 (bl0 _) b90 D σ H1;cases e3:ge δ with
   | none=>rw[e3] at e1;cases e1
   | some d =>
    rw[e3,Option.bind_some] at e1;split at e1
    ·rename_i hz
     cases e1;obtain⟨xs,hx,rx⟩:=T1.hl s;refine⟨_,T1.sx,p,_,i0,.ref (Q s),rfl,rfl,.inl (.inl T1.hp),?_,.inl ⟨rfl,xs,.inl (.inl hx)⟩,d,T1.env,e3,λv H2 s2 r2=>⟨Q s,xs,v,rfl,rfl,s2 _ _ hx,by rw[rx.length];exact hz,?_⟩⟩
     ·rw[hi]
      cases s<;>rfl
     ·exact k _ ((T1.same s2).app s (s2 _ _ hx) (rx.same s2) r2)
    ·cases e1
end
def w70(f:D->Ds->Option Ds)(t1:GB)(e1:GE)(t2:GB)(e2:GE):List D->(Bool->List D)->Ds->Option ((Bool->List D)×Ds)
 | [],L,δ=>some (L,δ)
 | d::ds,L,δ=>(f d δ).bind fun δ1=>(stepT t1 e1 false L δ1).bind λL1=>(stepT t2 e2 true L1 δ1).bind λL2=>w70 f t1 e1 t2 e2 ds L2 δ1
def ll0(x:Nat)(gi:GA)(f:D->Ds->Option Ds)(t1:GB)(e1:GE)(t2:GB)(e2:GE):GS:=fun δ =>
 if tp0 δ/\x<δ.length then (gi (δ.set x .un)).bind λitems=>(w70 f t1 e1 t2 e2 items (λ_=>[]) (δ.set x .un)).map λr=>.nx (r.2.set x (.sh (.lst [.lst (r.1 false),.lst (r.1 true)]))) else none
theorem rl0(h:tp0 δ)(x:Nat){s:Sl}(hs:∀d,s≠.ow d):tp0 (δ.set x s):=λj d e=>by
 have hj:=li0 hs e;rw[List.getElem?_set_ne (A4 hj)] at e;exact h j d e
section
variable{c1 c2 x1 x2:Expr}{t1 t2:GB}{e1 e2:GE}{kx:Str}{px1 pk1 ps1 apos1 cpos1 epos1 ipos1 px2 pk2 ps2 apos2 cpos2 epos2 ipos2 pa pa2 pkx fpos:Pos}{kk1 kk2:Nat}{gi:GA}{G:GS}
abbrev so0(c:Expr)(nx:Str)(i0:Int)(e:Expr)(px pk ps apos cpos epos ipos:Pos)(kk:Nat):Stmt:=.If c [.Expr (.Call (.Attribute (.Subscript (.Name nx px) (.Constant (.int i0) kk pk) ps) "append" apos) [e] [] cpos) epos] [] ipos
def Wf0(K:W.Frag)(x:Nat)(t1:GB)(e1:GE)(t2:GB)(e2:GE):TS:=λD σ H=>∃Hh B p Q L L1 L2 δ,TwoS K Hh x B p Q L δ σ H/\stepT t1 e1 false L δ=some L1/\stepT t2 e2 true L1 δ=some L2/\∀H',TwoS K Hh x B p Q L2 δ σ H'->D.nx σ H'
theorem Z80(x:Nat)(hc1:PTD X c1 t1)(he1:PD X x1 e1)(hc2:PTD X c2 t2)(he2:PD X x2 e2)(hN:X.N[x]?=some nx:=by rfl)(hv:Vis X.env.scope nx:=by first|exact Or.inl rfl|exact Or.inr (Or.inl rfl)|exact Or.inr (Or.inr rfl))(hd:(nx==("__debug__" : Str))=false:=by decide)(hcd:(nx==("__classdict__" : Str))=false:=by decide)
  (hb1:attributeBase (.Subscript (.Name nx px1) (.Constant (.int 0) kk1 pk1) ps1) "append" X.env (eval (.Subscript (.Name nx px1) (.Constant (.int 0) kk1 pk1) ps1) X.env)=eval (.Subscript (.Name nx px1) (.Constant (.int 0) kk1 pk1) ps1) X.env:=by rfl)
  (hw1:((backTo cpos1 (starEach [x1] X.env)).all (λx=>!x.1)&&(backToKw cpos1 (keywordEach [] X.env)).all (λx=>x.1.isSome)&&decide (([x1]:List Expr).length+([]:List Keyword).length+(if ([]:List Keyword).isEmpty then 0 else 1)<30))=true:=by rfl)
  (hl1:(apos1.endLine==cpos1.line)=true:=by rfl) (hs1:starEach [x1] X.env=(false,eval x1 X.env)::starEach [] X.env:=by rfl) (hp1:(backTo cpos1 (starEach [] X.env)).any (·.1)=false:=by rfl)
  (hq1:swapsWith (.Call (.Attribute (.Subscript (.Name nx px1) (.Constant (.int 0) kk1 pk1) ps1) "append" apos1) [x1] [] cpos1) none epos1.line X.env=pure false:=by rfl)
  (hb2:attributeBase (.Subscript (.Name nx px2) (.Constant (.int 1) kk2 pk2) ps2) "append" X.env (eval (.Subscript (.Name nx px2) (.Constant (.int 1) kk2 pk2) ps2) X.env)=eval (.Subscript (.Name nx px2) (.Constant (.int 1) kk2 pk2) ps2) X.env:=by rfl)
  (hw2:((backTo cpos2 (starEach [x2] X.env)).all (λx=>!x.1)&&(backToKw cpos2 (keywordEach [] X.env)).all (λx=>x.1.isSome)&&decide (([x2]:List Expr).length+([]:List Keyword).length+(if ([]:List Keyword).isEmpty then 0 else 1)<30))=true:=by rfl)
  (hl2:(apos2.endLine==cpos2.line)=true:=by rfl) (hs2:starEach [x2] X.env=(false,eval x2 X.env)::starEach [] X.env:=by rfl) (hp2:(backTo cpos2 (starEach [] X.env)).any (·.1)=false:=by rfl)
  (hq2:swapsWith (.Call (.Attribute (.Subscript (.Name nx px2) (.Constant (.int 1) kk2 pk2) ps2) "append" apos2) [x2] [] cpos2) none epos2.line X.env=pure false:=by rfl) :
  PSs X [so0 c1 nx 0 x1 px1 pk1 ps1 apos1 cpos1 epos1 ipos1 kk1,so0 c2 nx 1 x2 px2 pk2 ps2 apos2 cpos2 epos2 ipos2 kk2] (Wf0 X.K x t1 e1 t2 e2):=λpins s σ H D I ⟨Hh,B,p,Q,L,L1,L2,δ,T,f1,f2,k⟩ =>
 U5 (fz0 Hh x false rfl hc1 he1 hN hv hd hcd hb1 hw1 hl1 hs1 hp1 hq1) (U5 (fz0 Hh x true rfl hc2 he2 hN hv hd hcd hb2 hw2 hl2 hs2 hp2 hq2) u90) pins s σ H D I ⟨B,p,Q,L,L1,δ,T,f1,λH' T'=>⟨B,p,Q,L1,L2,δ,T',f2,λJ O=>k J O⟩⟩
open Classical in
theorem cp0(x k:Nat)(hxk:k≠x)(hNd:X.N.Nodup)(hb:PSs X [so0 c1 nx 0 x1 px1 pk1 ps1 apos1 cpos1 epos1 ipos1 kk1,so0 c2 nx 1 x2 px2 pk2 ps2 apos2 cpos2 epos2 ipos2 kk2] (Wf0 X.K x t1 e1 t2 e2))
  (hp:PassesOwn (model X.prog X.w) X.A X.env X.xe) (hc:X.calm=true) (hi:PID X (.Name kx pkx) iter gi) (hr:PSsD X rest G)
  (hN:X.N[x]?=some nx:=by rfl) (hx:Loc X.env.scope nx:=by first|exact Or.inl rfl|exact Or.inr rfl) (hf:X.fn nx=true∨X.env.scope.names.lookup nx=some .local:=by first|exact .inl rfl|exact .inr rfl|assumption)
  (hNk:X.N[k]?=some kx:=by rfl) (hkx:Loc X.env.scope kx:=by first|exact Or.inl rfl|exact Or.inr rfl) (hfk:X.fn kx=true∨X.env.scope.names.lookup kx=some .local:=by first|exact .inl rfl|exact .inr rfl|assumption)
  (hsw:swapsWith (.List [.List [] p1,.List [] p2] p3) (some (.Name nx pa)) pa2.line X.env=pure false:=by rfl)
  (hs1:starEach [.List [] p1,.List [] p2] X.env=(false,eval (.List [] p1) X.env)::starEach [.List [] p2] X.env:=by rfl) (hs2:starEach [.List [] p2] X.env=(false,eval (.List [] p2) X.env)::starEach [] X.env:=by rfl)
  (hs:∀x,foldedSetIterable iter X.env x=pure x:=by intro _;rfl) :
  PSsD X (.Assign [.Name nx pa] (.List [.List [] p1,.List [] p2] p3) pa2::.For (.Name kx pkx) iter [so0 c1 nx 0 x1 px1 pk1 ps1 apos1 cpos1 epos1 ipos1 kk1,so0 c2 nx 1 x2 px2 pk2 ps2 apos2 cpos2 epos2 ipos2 kk2] [] fpos::rest)
   (v9 (ll0 x gi (gN k) t1 e1 t2 e2) G):=.mk λH₀ B₀ δ pins s σ H D I ⟨r,en,e,kk⟩=>by
 unfold v9 ll0 at e
 by_cases O:tp0 δ/\x<δ.length
 case neg=>rw[if_neg O] at e;cases e
 rw[if_pos O] at e;obtain⟨O,b4⟩:=O;cases eg:gi (δ.set x .un) with
 | none=>rw[eg] at e;cases e
 | some items =>
  rw[eg,Option.bind_some] at e;cases el:w70 (gN k) t1 e1 t2 e2 items (λ_=>[]) (δ.set x .un) with
  | none=>rw[el] at e;cases e
  | some res =>
   rw[el] at e;have e:G (res.2.set x (.sh (.lst [.lst (res.1 false),.lst (res.1 true)])))=some r:=e;obtain⟨B,b1,b2,env⟩:=en.ex;have zs:(2:Nat)<=sizeLine:=by decide
   have e6:PG X (.Name kx pkx) (λv σ H Q=>∃B d δ,tDG X.K [k] (gN k) B d δ v σ H Q):=λpins s σ H v u Q I r ⟨B,d,δ,h⟩=>(t6 k hNd hNk hkx hfk).go B d δ pins s σ H v u Q I r h
   refine U5 (Y60 (i:=x) hNd hN hx (tt0 (R5 (tt0 J0) (R5 (tt0 J0) J0 hs2) hs1)) hsw hf) (U5 (em0 hp hc (wi:=fun σ H R=>∃B δ,tDI X.K B δ gi σ H R) (λpins s σ H R I ⟨B,δ,h⟩=>hi B δ pins s σ H R I h) e6 hb hs) (hr H₀ B₀ (res.2.set x (.sh (.lst [.lst (res.1 false),.lst (res.1 true)]))))) pins s σ H D I ⟨B9 _,λq0 d3=>⟨B9 _,λq1 a1=>⟨zs,λp hp=>?_⟩⟩⟩;have n1:q1≠q0:=λz=>by rw[z,m8] at a1;cases a1
   rw[o6 n1] at a1;have n2:p≠q1:=λz=>by rw[z,m8] at hp;cases hp
   rw[o6 n2] at hp;have n3:p≠q0:=λz=>by rw[z,m8] at hp;cases hp
   rw[o6 n3] at hp;obtain⟨H3,Z⟩:∃H3,H3=upd (upd (upd H q0 (.lst [])) q1 (.lst [])) p (.lst [.ref q0,.ref q1]):=⟨_,rfl⟩;have b3:H3 p=some (.lst [.ref q0,.ref q1]):=by rw[Z,m8]
   have e7:H3 q0=some (.lst []):=by rw[Z,o6 (A4 n3),o6 (A4 n1),m8]
   have c4:H3 q1=some (.lst []):=by rw[Z,o6 (A4 n2),m8]
   have s3:Same H H3:=λb o h=>by
    rw[Z,o6 (λz=>by rw[z,hp] at h;cases h),o6 (λz=>by rw[z,a1] at h;cases h),o6 (λz=>by rw[z,d3] at h;cases h)];exact h
   obtain⟨Q,hQ⟩:∃Q:Bool->Addr,Q=λs=>if s=true then q1 else q0:=⟨_,rfl⟩
   obtain⟨B',Y⟩:∃B':BS,B'=λa=>B a∨a=p∨∃s,a=Q s:=⟨_,rfl⟩
   have Q0:Q false=q0:=by rw[hQ];rfl
   have Q1:Q true=q1:=by rw[hQ];rfl
   have HQ:∀s,H (Q s)=none:=λs=>by cases s<;>simp only[Q0,Q1]<;>assumption
   have free:∀a,a=p∨(∃s,a=Q s)->H a=none:=λa z=>by
    rcases z with rfl|⟨s,rfl⟩
    ·exact hp
    ·exact HQ s
   have g3:Gr H H3 B B':=λb o n h=>by
    refine⟨λz=>?_,s3 b o h⟩;rw[Y] at z;rcases z with z|z
    ·exact n z
    ·rw[free b z] at h;cases h
   have b6:∀d,Sl.un≠.ow d:=λd z=>nomatch z
   have c3:=rl0 O x b6;have a5:Env X.K H3 B' (σ.set x (some (.ref p))) (δ.set x .un):=by
    have:Env X.K H3 B' σ δ:=⟨Pd.impG g3 O env.all,λa z=>?_,λi j a ds es h1=>absurd h1 (O i ds)⟩
    ·exact this.setSl b6 trivial
    ·rw[Y] at z
     rcases z with z|rfl|⟨s,rfl⟩
     ·exact(env.bad a z).same s3
     ·exact .of b3 λob u z=>nomatch z
     ·cases s
      ·rw[Q0];exact .of e7 λob u z=>nomatch z
      ·rw[Q1];exact .of c4 λob u z=>nomatch z
   have a3:∀a,a=p∨(∃s,a=Q s)->H₀ a=none/\¬B₀ a:=λa z=>by
    have h0:H₀ a=none:=en.same.free (free a z);exact⟨h0,λq=>en.b0 a q h0⟩
   rw[← Z];show ∃B δ',tDI X.K B δ' gi (σ.set x (some (.ref p))) H3 _;refine⟨B',δ.set x .un,items,a5,eg,λJ H1 s1 it=>?_⟩;obtain⟨Hh,a4⟩:∃Hh:Hp,Hh=λb=>if B' b/\¬B₀ b then none else H1 b:=⟨_,rfl⟩
   have a7:∀b,¬B' b->Hh b=H1 b:=λb n=>by rw[a4];exact if_neg λz=>n z.1
   have a6:∀b,B' b->¬B₀ b->Hh b=none:=λb n n'=>by rw[a4];exact if_pos ⟨n,n'⟩
   have e4:∀b,B₀ b->Hh b=H1 b:=λb n=>by rw[a4];exact if_neg λz=>z.2 n
   have d4:Same Hh H1:=λb o h=>by
    by_cases z:B' b/\¬B₀ b
    ·rw[a6 b z.1 z.2] at h;cases h
    ·rw[a4] at h
     have h':(if B' b/\¬B₀ b then none else H1 b)=some o:=h;rw[if_neg z] at h';exact h'
   have Bp:B' p:=by rw[Y];exact .inr (.inl rfl)
   have BQ:∀s,B' (Q s):=λs=>by rw[Y];exact .inr (.inr ⟨s,rfl⟩)
   have hS:Same H₀ Hh:=λb o h=>by
    have h1:=s1 b o (s3 b o (en.same b o h))
    by_cases z:B' b
    ·by_cases q:B₀ b
     ·rw[e4 b q];exact h1
     ·have z':=z
      rw[Y] at z';rcases z' with z'|z'
      ·rcases b2 b z' with q'|q'
       ·exact absurd q' q
       ·rw[h] at q';cases q'
      ·rw[(a3 b z').1] at h;cases h
    ·rw[a7 b z];exact h1
   have T0:TwoS X.K Hh x B' p Q (λ_=>[]) (δ.set x .un) (σ.set x (some (.ref p))) H1:=by
    have e5:x<σ.length:=by rw[Pd.len env.all];exact b4
    refine⟨a5.same s1,c3,by rw[List.getElem?_set_self b4],by rw[List.getElem?_set_self e5],by rw[Q0,Q1];exact s1 _ _ b3,Bp,BQ,λs t z=>?_,λs=>?_,λs=>⟨[],?_,by rw[n6]⟩,d4,λs=>a6 _ (BQ s) (a3 _ (.inr ⟨s,rfl⟩)).2⟩
    ·cases s<;>cases t<;>simp only[Q0,Q1] at z<;>first|rfl|exact absurd z n1|exact absurd z.symm n1
    ·cases s<;>simp only[Q0,Q1]<;>assumption
    ·cases s<;>simp only[Q0,Q1]<;>(apply s1;assumption)
   refine⟨λi m σ H=>m=items.length - i/\i<=items.length/\∃L δi,TwoS X.K Hh x B' p Q L δi σ H/\w70 (gN k) t1 e1 t2 e2 (items.drop i) L δi=some res,⟨_,rfl,B9 _,_,_,T0,el⟩,?_⟩;rintro i m σi Hi ⟨rfl,e8,L,δi,T,ei⟩;have gr:Gr H1 Hi B' B':=λb o n h=>⟨n,T.sm b o (by rw[a7 b n];exact h)⟩
   by_cases hlt:i<items.length
   ·refine .inr ⟨it.go i Hi gr hlt,fun σ' H'=>∃L2 δn,TwoS X.K Hh x B' p Q L2 δn σ' H'/\w70 (gN k) t1 e1 t2 e2 (items.drop (i+1)) L2 δn=some res,fun σ' H' ⟨L2,δn,T',e'⟩=>⟨items.length - (i+1),by omega,rfl,hlt,L2,δn,T',e'⟩,λv H' y=>?_⟩
    obtain⟨sm,d,hd,rd⟩:=it.yld i Hi v H' gr y hlt;have d2:Rp X.K H' B' d v:=rd B' (λb o n h=>⟨n,sm b o (gr b o n h).2⟩) T.env.bad;have T':=T.same sm;have a8:items.drop i=d::items.drop (i+1):=by
     rw[List.drop_eq_getElem_cons hlt];congr 1;rw[List.getElem?_eq_getElem hlt] at hd;exact B3 hd
    rw[a8] at ei;unfold w70 at ei;have ei:(stepT t1 e1 false L (δi.set k (.sh d))).bind (λL1=>(stepT t2 e2 true L1 (δi.set k (.sh d))).bind λL2=>w70 (gN k) t1 e1 t2 e2 (items.drop (i+1)) L2 (δi.set k (.sh d)))=some res:=ei;refine⟨B',d,δi,δi.set k (.sh d),d2,T'.env,rfl,fun σ' w en'=>?_⟩;have T2:TwoS X.K Hh x B' p Q L (δi.set k (.sh d)) σ' H':=⟨en',rl0 T.no k (λd z=>nomatch z),by rw[List.getElem?_set_ne hxk];exact T.un,by rw[(w.oth x (by simpa using A4 hxk)).1];exact T.sx,T'.hp,T.bp,T.bq,T.ne,T.np,T'.hl,T'.sm,T.hn⟩;cases f1:stepT t1 e1 false L (δi.set k (.sh d)) with
    | none=>rw[f1] at ei;cases ei
    | some L1 =>
     rw[f1,Option.bind_some] at ei;cases f2:stepT t2 e2 true L1 (δi.set k (.sh d)) with
     | none=>rw[f2] at ei;cases ei
     | some L2 =>
      rw[f2,Option.bind_some] at ei;exact⟨Hh,B',p,Q,L,L1,L2,_,T2,f1,f2,λe9 e3=>⟨L2,_,e3,ei⟩⟩
   ·have e':i=items.length:=by omega
    subst e';refine .inl ⟨it.stop _ Hi gr (A1 _),?_⟩;rw[List.drop_length] at ei;cases ei;refine⟨r,?_,e,kk⟩;obtain⟨Bf,a2⟩:∃Bf:BS,Bf=λa=>B' a/\¬(a=p∨∃s,a=Q s):=⟨_,rfl⟩
    have less:∀a,Bf a->B' a:=λa z=>by rw[a2] at z;exact z.1
    have c7:¬Bf p:=λz=>by rw[a2] at z;exact z.2 (.inl rfl)
    have d1:∀s,¬Bf (Q s):=λs z=>by rw[a2] at z;exact z.2 (.inr ⟨s,rfl⟩)
    have gl:Gr Hi Hi B' Bf:=Gr.less less;have b5:∀d',Sl.sh (.lst [.lst (L false),.lst (L true)])≠.ow d':=λd' z=>nomatch z
    have one:∀s,Rp X.K Hi Bf (.lst (L s)) (.ref (Q s)):=λs=>by
     obtain⟨xs,e1,r1⟩:=T.hl s;rw[Z5];exact⟨Q s,xs,rfl,.inl ⟨d1 s,.inl e1⟩,r1.mono gl⟩
    have b7:Env X.K Hi Bf σi (δi.set x (.sh (.lst [.lst (L false),.lst (L true)]))):=by
     have h0:Env X.K Hi Bf σi δi:=⟨Pd.impG gl T.no T.env.all,λa z=>T.env.bad a (less a z),λi j a ds es h1=>absurd h1 (T.no i ds)⟩;have h1:=h0.setSl (i:=x) (o:=some (.ref p)) b5 ⟨.ref p,rfl,by
      rw[Z5];refine⟨p,_,rfl,.inl ⟨c7,.inl T.hp⟩,?_⟩;rw[p8];refine⟨_,_,rfl,one false,?_⟩;rw[p8];exact⟨_,_,rfl,one true,by rw[n6]⟩⟩
     have d0:σi.set x (some (.ref p))=σi:=by
      obtain⟨h,e⟩:=C0.mp T.sx;rw[← e];exact List.set_getElem_self h
     rw[d0] at h1;exact h1
    refine⟨hS.trans T.sm,⟨Bf,λa z=>?_,λa z=>?_,b7⟩,λj ds a h1=>absurd h1 (rl0 T.no x b5 j ds),en.b0⟩
    ·rw[a2,Y]
     exact⟨.inl (b1 a z),λq=>(a3 a q).2 z⟩
    ·have z':=less a z
     rw[Y] at z';rcases z' with z'|z'
     ·exact b2 a z'
     ·exact .inr (a3 a z').1
end
end DL
namespace DL
open Spec PyProof.Rows L2
def orE(g1 g2:GE):GE:=fun δ=>match g1 δ with
 | some r=>some r
 | none=>g2 δ
theorem fg0{g1 g2:GE}(h1:PD X e g1)(h2:PD X e g2):PD X e (orE g1 g2):=.mk λB δ=>by
 cases e1:g1 δ with
 | some r =>
  have q:orE g1 g2 δ=g1 δ:=by unfold orE;rw[e1]
  intro pins s σ H Q I ⟨d,en,h,k⟩;exact h1 B δ pins s σ H Q I ⟨d,en,q.symm.trans h,k⟩
 | none =>
  have q:orE g1 g2 δ=g2 δ:=by unfold orE;rw[e1]
  intro pins s σ H Q I ⟨d,en,h,k⟩;exact h2 B δ pins s σ H Q I ⟨d,en,q.symm.trans h,k⟩
end DL
namespace W
open DL
def hasAll(x s:Str):Bool:=x.cps.toList.all λc=>decide (c∈s.cps.toList)
def nameS:Str := "0123456789abcdefghijklmnopqrstuvwxyz"
def v60:Str := " 0123456789abcdefghijklmnopqrstuvwxyz"
def isName(x:Str):Bool:=(decide ((x.length:Int)<=8)&&hasAll x nameS)&&decide (0<(x.length:Int))
def Uq0:D->Str
 | .tup (.str n::_)=>n
 | _ => ""
inductive Pt where
 | text (w:Str)|row (vs:List D)|table (ps:List (Str×D))|rcd (c:Str) (ps:List (Str×D))
variable{ps qs:List W.Pt}
def pr(p:Str×D):D:=.tup [.str p.1,p.2]
def Pt.d:Pt->D
 | .text w=>.tup [.str "text",.str w]
 | .row vs=>.tup [.str "row",.tup vs]
 | .table ps=>.tup [.str "table",.tup (ps.map pr)]
 | .rcd c ps=>.tup [.str "record",.str c,.tup (ps.map pr)]
def Pt.vals:Pt->List D
 | .text _=>[]
 | .row vs=>vs
 | .table ps=>ps.map (·.2)
 | .rcd _ ps=>ps.map (·.2)
def Pt.pnames:Pt->List Str
 | .text _=>[]
 | .row _=>[]
 | .table ps=>ps.map (·.1)
 | .rcd _ ps=>ps.map (·.1)
def Pt.cls:Pt->List Str
 | .rcd c _=>[c]
 | _=>[]
def Pt.all(p:Pt):List Str:=p.pnames++p.cls
theorem il0{n:Str}(h:isName n=true):n.length<=8:=by
 unfold isName at h;simp only[Bool.and_eq_true,decide_eq_true_eq] at h;omega
theorem lb0(ps:List (Str×D)):T8 (gN 0) noT (o2 (gv 0) (gc (.int 1)) ixD) [.un] (ps.map pr)=some (ps.map (·.2)):=by
 rw[xd0 (λd=>match d with|.tup [_,v]=>v|_=>.non) (λd hd=>by
  obtain⟨p,hp,rfl⟩:=B0.mp hd;exact⟨[.sh (pr p)],rfl,rfl,rfl⟩),List.map_map]
 rfl
theorem l20(ps:List (Str×D)):T8 (gN 0) noT (o2 (gv 0) (gc (.int 0)) ixD) [.un] (ps.map pr)=some ((ps.map (·.1)).map .str):=by
 rw[xd0 (λd=>.str (Uq0 d)) (λd hd=>by
  obtain⟨p,hp,rfl⟩:=B0.mp hd;exact⟨[.sh (pr p)],rfl,rfl,rfl⟩),List.map_map,List.map_map]
 rfl
def Pt.few(p:Pt):Prop:=p.vals.length<=sizeLine
def N5:Str := "abcdefghijklmnopqrstuvwxyz0123456789"
def cg(i:Int):Nat:=N5.cps.toList.getD i.toNat 0
theorem jj0(i:Int)(h0:0<=i)(h1:i<36):ixD (.str N5) (.int i)=some (.str ⟨#[cg i]⟩):=by
 have hl:N5.cps.toList.length=36:=by decide +kernel
 have hz:N5.length<=sizeLine:=by decide +kernel
 have:=z40 (xs:=N5.cps.toList) (i:=i) h0 (by rw[hl];omega) 0;simp only[ixD,if_pos hz,this,Option.map_some];rfl
theorem eh0(i:Int)(h0:0<=i)(h1:i<36):cg i∈nameS.cps.toList:=by
 have h:∀n:Nat,n<36->N5.cps.toList.getD n 0∈nameS.cps.toList:=by decide +kernel
 exact h i.toNat (by omega)
theorem Yv0(i j:Int)(h0:0<=i)(h1:i<36)(h2:0<=j)(h3:j<36)(e:cg i=cg j):i=j:=by
 have h:∀n:Nat,n<36->∀m:Nat,m<36->N5.cps.toList.getD n 0=N5.cps.toList.getD m 0->n=m:=by decide +kernel
 have:=h i.toNat (by omega) j.toNat (by omega) e;omega
def ones(l:List Nat):List Str:=l.map λc=>⟨#[c]⟩
def strOf(l:List Nat):Str:=⟨l.toArray⟩
theorem join_ones(l:List Nat):Txt.join "" (ones l)=strOf l:=by
 have O:∀(l:List Nat) (J:List Nat),(ones l).foldl (λa p=>a++("" : Str).cps++p.cps) J.toArray=(J++l).toArray:=by
  intro l
  induction l with
  | nil=>intro J;simp[ones]
  | cons c l ih =>
   intro J;show (ones l).foldl _ (J.toArray++("" : Str).cps++#[c])=_;have e:J.toArray++("" : Str).cps++#[c]=(J++[c]).toArray:=by
    have:("" : Str).cps=#[]:=rfl;rw[this];simp
   rw[e,ih];simp
 cases l with
 | nil=>rfl
 | cons c l =>
  show (⟨_⟩:Str)=_;unfold strOf;congr 1;exact O l [c]
theorem xh0:∀l:List Nat,((ones l).map (·.length)).sum=l.length
 | []=>rfl
 | c::l=>by
  show 1+((ones l).map (·.length)).sum=l.length+1;rw[xh0 l];omega
theorem f60(l:List Nat)(h1:0<l.length)(h2:l.length<=8)(h3:∀c∈l,c∈nameS.cps.toList):isName (strOf l)=true:=by
 unfold isName hasAll;have e:(strOf l).length=l.length:=by show l.toArray.size=_;simp
 have e2:(strOf l).cps.toList=l:=by simp[strOf]
 rw[e,e2];simp only[Bool.and_eq_true,decide_eq_true_eq,List.all_eq_true];exact⟨⟨by omega,λc hc=>by simpa using h3 c hc⟩,by omega⟩
theorem gl0{l m:List Nat}(h:strOf l=strOf m):l=m:=by
 unfold strOf at h;injection h with h
 simpa using E3 Array.toList h
end W
variable{ps qs:List W.Pt}
namespace Ga
open DL
def u20:GS:=(v9 (M5 1 (W5 (z7 (o2 (gv 0) (gc (.int 128)) Z6) v6)))
 (v9 (j6 (gN 2) (o2 (gv 0) (gc (.int 128)) zc0))
 (v9 (Y5 (ob (o2 (gv 2) (gc (.int 0)) gtD))
 (v9 (Z0 (N6 1 (o2 (gc (.int 128)) (o2 (gv 2) (gc (.int 128)) Z6) o9)))
 (v9 (j6 (gN 2) (o2 (gv 2) (gc (.int 128)) zc0))
 u9)) 100000)
 (v9 (O1 (ui0 (oA (z7 (gv 1) v6) q60)))
 u9))))
def vw0:List Str:=["number", "out", "rest"]
def X5:List D->Option D:=mkN 1 vw0 u20
def kg0:GS:=(v9 (ifD (ob (o2 (gv 0) (gc (.int 0)) ltD))
 (v9 (d9 (o2 (o2 (unG xx0 (gc (.int 2))) (gv 0) U3) (gc (.int 1)) xv0))
 u9)
 u9)
 (v9 (d9 (o2 (gc (.int 2)) (gv 0) U3))
 u9))
def my0:List Str:=["number"]
def ub0:List D->Option D:=mkF 1 my0 kg0
def qm0:GS:=(v9 (ifD (ob (o2 (o2 (gv 0) (gc (.int 2)) Z6) (gc (.int 1)) eqD))
 (v9 (d9 (o2 (unG xx0 (o2 (gv 0) (gc (.int 2)) zc0)) (gc (.int 1)) xv0))
 u9)
 u9)
 (v9 (d9 (o2 (gv 0) (gc (.int 2)) zc0))
 u9))
def p90:List Str:=["number"]
def w90:List D->Option D:=mkF 1 p90 qm0
def ow0:GS:=(v9 (J9 (kc0 (gv 1)) (gN 2)
 (v9 (ifD (ob (o2 (oA (z7 (gv 2) v6) th0) (gv 0) eqD))
 (v9 (d9 (gv 2))
 u9)
 u9)
 u9))
 (v9 (d9 (gc .non))
 u9))
def og0:List Str:=["byte", "signs", "sign"]
def zz0:List D->Option D:=mkF 2 og0 ow0
def u50:GS:=(v9 (ifD (ob (o2 (gv 0) (gc (.str "text")) eqD))
 (v9 (d9 (o2 (W5 (z7 (gc (.str "sign")) v6)) (gv 1) mulL))
 u9)
 u9)
 (v9 (ifD (ob (o2 (gv 0) (gc (.str "row")) eqD))
 (v9 (d9 (o2 (W5 (z7 (gc (.str "value")) v6)) (gv 1) mulL))
 u9)
 u9)
 (v9 (ifD (ob (o2 (gv 0) (gc (.str "table")) eqD))
 (v9 (d9 (o2 (W5 (z7 (gc (.str "name")) (z7 (gc (.str "value")) v6))) (gv 1) mulL))
 u9)
 u9)
 (v9 (d9 (o2 (W5 (z7 (gc (.str "class")) v6)) (o2 (W5 (z7 (gc (.str "name")) (z7 (gc (.str "value")) v6))) (gv 1) mulL) o9))
 u9))))
def u70:List Str:=["kind", "size"]
def J2:List D->Option D:=mkF 2 u70 u50
def uy0:GS:=(v9 (d9 (oA (z7 (sq0 (gv 0) (someO (gc (.int 0))) z10 (someO (gc (.int 2)))) (z7 (sq0 (gv 0) (someO (gc (.int 1))) z10 (someO (gc (.int 2)))) v6)) sb0))
 u9)
def t80:List Str:=["held"]
def z90:List D->Option D:=mkF 1 t80 uy0
def rh0:GS:=(v9 (ifD (ob (o2 (gv 0) (gc (.str "text")) eqD))
 (v9 (d9 (R0 (z7 (gc (.str "text")) (z7 (zl0 (gc (.str "")) (z7 (gv 1) v6)) v6))))
 u9)
 u9)
 (v9 (ifD (ob (o2 (gv 0) (gc (.str "row")) eqD))
 (v9 (d9 (R0 (z7 (gc (.str "row")) (z7 (oA (z7 (gv 1) v6) Q3) v6))))
 u9)
 u9)
 (v9 (ifD (ob (o2 (gv 0) (gc (.str "table")) eqD))
 (v9 (d9 (R0 (z7 (gc (.str "table")) (z7 (oA (z7 (gv 1) v6) z90) v6))))
 u9)
 u9)
 (v9 (d9 (R0 (z7 (gc (.str "record")) (z7 (o2 (gv 1) (gc (.int 0)) ixD) (z7 (oA (z7 (xq0 (gv 1) (someO (gc (.int 1))) z10) v6) z90) v6)))))
 u9))))
def rd0:List Str:=["kind", "held"]
def yy0:List D->Option D:=mkF 2 rd0 rh0
def uv0:GS:=(v9 (O1 (X8 1 [] (kc0 (gv 0)) (gN 0) noT (oA (z7 (gv 0) v6) th0)))
 u9)
def wz0:List Str:=["signs"]
def K8:List D->Option D:=mkN 1 wz0 uv0
def up0:GS:=(v9 (d9 (o2 (o2 (gc (.int 4)) (oA (z7 (o2 (gv 0) (unG xx0 (gc (.int 1))) ixD) v6) Z2) U3) (oA (z7 (o2 (gv 0) (gc (.int 0)) ixD) v6) (g50 ["text", "row", "table", "record"])) o9))
 u9)
def uq0:List Str:=["part"]
def zr0:List D->Option D:=mkF 1 uq0 up0
def tg0:GS:=(v9 (ifD (ob (o2 (o2 (gv 0) (gc (.int 0)) ixD) (gc (.str "text")) eqD))
 (v9 (O1 (oA (z7 (o2 (gv 0) (gc (.int 1)) ixD) v6) K8))
 u9)
 u9)
 (v9 (O1 (W5 v6))
 u9))
def tr0:List Str:=["part"]
def yk0:List D->Option D:=mkN 1 tr0 tg0
def ux0:GS:=(v9 (ifD (ob (o2 (o2 (gv 0) (gc (.int 0)) ixD) (gc (.str "text")) eqD))
 (v9 (O1 (W5 v6))
 u9)
 u9)
 (v9 (ifD (ob (o2 (o2 (gv 0) (gc (.int 0)) ixD) (gc (.str "row")) eqD))
 (v9 (O1 (oA (z7 (o2 (gv 0) (gc (.int 1)) ixD) v6) yb0))
 u9)
 u9)
 (v9 (M5 1 (W5 v6))
 (v9 (ifD (ob (o2 (o2 (gv 0) (gc (.int 0)) ixD) (gc (.str "record")) eqD))
 (v9 (Z0 (N6 1 (o2 (gv 0) (gc (.int 1)) ixD)))
 u9)
 u9)
 (v9 (J9 (tupI (o2 (gv 0) (unG xx0 (gc (.int 1))) ixD)) (gN 2)
 (v9 (Z0 (O7 1 (oA (z7 (gv 2) v6) yb0)))
 u9))
 (v9 (q90 1)
 u9))))))
def t60:List Str:=["part", "items", "pair"]
def yd0:List D->Option D:=mkN 1 t60 ux0
def vp0:GS:=(v9 (ifD (ob (o2 (gv 0) (gc .non) c20))
 (v9 (d9 (gc (.int 0)))
 u9)
 u9)
 (v9 (ifD (ob (vf0 isTup (gv 0)))
 (v9 (d9 (o2 (o2 (gc (.int 2)) (o2 (gv 0) (gc (.int 1)) ixD) U3) (gc (.int 2)) o9))
 u9)
 u9)
 (v9 (d9 (o2 (o2 (gc (.int 2)) (oA (z7 (gv 0) v6) ub0) U3) (gc (.int 1)) o9))
 u9)))
def vn0:List Str:=["value"]
def zd0:List D->Option D:=mkF 1 vn0 vp0
def t30:GS:=(v9 (ifD (ob (vf0 isStr (gv 0)))
 (v9 (d9 (o2 (oA (z7 (oA (z7 (gv 0) v6) Z2) v6) X5) (oA (z7 (gv 0) v6) K8) o9))
 u9)
 u9)
 (v9 (d9 (oA (z7 (oA (z7 (gv 0) v6) zd0) v6) X5))
 u9))
def tq0:List Str:=["item"]
def z80:List D->Option D:=mkF 1 tq0 t30
def s40:GS:=(v9 (M5 1 (o2 (oA (z7 (oA (z7 (gv 0) v6) zr0) v6) X5) (oA (z7 (gv 0) v6) yk0) l80))
 (v9 (J9 (zs0 (oA (z7 (gv 0) v6) yd0)) (gN 2)
 (v9 (Z0 (O7 1 (oA (z7 (gv 2) v6) z80)))
 u9))
 (v9 (q90 1)
 u9)))
def tl0:List Str:=["part", "out", "item"]
def y60:List D->Option D:=mkN 1 tl0 s40
def kd0:GS:=(v9 (j6 (gN 1) (X8 1 [] (tupI (gv 0)) (gN 0) noT (oA (z7 (gv 0) v6) y60)))
 (v9 (M5 2 (oA (z7 (oA (z7 (gv 1) v6) Z2) v6) X5))
 (v9 (J9 (zs0 (gv 1)) (gN 3)
 (v9 (Z0 (O7 2 (oA (z7 (oA (z7 (gv 3) v6) Z2) v6) X5)))
 u9))
 (v9 (J9 (zs0 (gv 1)) (gN 3)
 (v9 (Z0 (O7 2 (gv 3)))
 u9))
 (v9 (q90 2)
 u9)))))
def q30:List Str:=["web", "bodies", "out", "body"]
def J6:List D->Option D:=mkN 1 q30 kd0
def wh0:GS:=(v9 (ifD (ob (o2 (gv 0) (gc (.int 0)) eqD))
 (v9 (d9 (gc .non))
 u9)
 u9)
 (v9 (ifD (ob (o2 (o2 (gv 0) (gc (.int 2)) Z6) (gc (.int 0)) eqD))
 (v9 (d9 (R0 (z7 (gc (.str "at")) (z7 (o2 (o2 (gv 0) (gc (.int 2)) zc0) (gc (.int 1)) xv0) v6))))
 u9)
 u9)
 (v9 (d9 (oA (z7 (o2 (gv 0) (gc (.int 2)) zc0) v6) w90))
 u9)))
def wr0:List Str:=["number"]
def J8:List D->Option D:=mkF 1 wr0 wh0
def rb0:GS:=(v9 (j6 (gN 2) (gc (.int 0)))
 (v9 (j6 (gN 3) (o2 (gv 0) (gv 1) G4))
 (v9 (Y5 (ob (o2 (gv 3) (gc (.int 128)) geD))
 (v9 (j6 (gN 2) (o2 (o2 (o2 (gv 2) (gc (.int 128)) U3) (gv 3) o9) (gc (.int 128)) xv0))
 (v9 (rn0 1 (gc (.int 1)))
 (v9 (j6 (gN 3) (o2 (gv 0) (gv 1) G4))
 u9))) 100000)
 (v9 (d9 (R0 (z7 (o2 (o2 (gv 2) (gc (.int 128)) U3) (gv 3) o9) (z7 (o2 (gv 1) (gc (.int 1)) o9) v6))))
 u9))))
def ri0:List Str:=["look", "place", "number", "byte"]
def X3:List D->Option D:=mkF 2 ri0 rb0
def pe0:GS:=(v9 (d9 (o2 (oA (z7 (gv 0) (z7 (gc (.int 0)) v6)) X3) (gc (.int 0)) ixD))
 u9)
def qh0:List Str:=["look"]
def yi0:List D->Option D:=mkF 1 qh0 pe0
def ob0:GS:=(v9 (d9 (zl0 (gc (.str "")) (z7 (X8 1 [0] (qn0 (z7 (gv 1) (z7 (o2 (gv 1) (gv 2) o9) v6))) (gN 0) noT (oA (z7 (o2 (gv 1) (gv 0) G4) (z7 (gc (.str "0123456789abcdefghijklmnopqrstuvwxyz")) v6)) zz0)) v6)))
 u9)
def ti0:List Str:=["look", "start", "length"]
def vb0:List D->Option D:=mkF 3 ti0 ob0
def om0:GS:=(v9 (ifD (ob (o2 (gv 2) (gc (.str "sign")) eqD))
 (v9 (d9 (R0 (z7 (oA (z7 (o2 (gv 0) (gv 1) G4) (z7 (gc (.str " 0123456789abcdefghijklmnopqrstuvwxyz")) v6)) zz0) (z7 (o2 (gv 1) (gc (.int 1)) o9) v6))))
 u9)
 u9)
 (v9 (j6 (gN 3) (oA (z7 (gv 0) (z7 (gv 1) v6)) X3))
 (v9 (ifD (ob (o2 (gv 2) (gc (.str "value")) eqD))
 (v9 (d9 (R0 (z7 (oA (z7 (o2 (gv 3) (gc (.int 0)) ixD) v6) J8) (z7 (o2 (gv 3) (gc (.int 1)) ixD) v6))))
 u9)
 u9)
 (v9 (d9 (R0 (z7 (oA (z7 (gv 0) (z7 (o2 (gv 3) (gc (.int 1)) ixD) (z7 (o2 (gv 3) (gc (.int 0)) ixD) v6))) vb0) (z7 (o2 (o2 (gv 3) (gc (.int 1)) ixD) (o2 (gv 3) (gc (.int 0)) ixD) o9) v6))))
 u9))))
def nf0:List Str:=["look", "place", "want", "number"]
def J3:List D->Option D:=mkF 3 nf0 om0
def oh0:GS:=(v9 (j6 (gN 2) (oA (z7 (gv 0) (z7 (gv 1) v6)) X3))
 (v9 (j6 (gN 3) (unG (atC ["text", "row", "table", "record"]) (o2 (o2 (gv 2) (gc (.int 0)) ixD) (gc (.int 4)) Z6)))
 (v9 (j6 (gN 4) (o2 (gv 2) (gc (.int 1)) ixD))
 (v9 (M5 5 (W5 v6))
 (v9 (J9 (zs0 (oA (z7 (gv 3) (z7 (o2 (o2 (gv 2) (gc (.int 0)) ixD) (gc (.int 4)) zc0) v6)) J2)) (gN 6)
 (v9 (j6 (gN 7) (oA (z7 (gv 0) (z7 (gv 4) (z7 (gv 6) v6))) J3))
 (v9 (Z0 (N6 5 (o2 (gv 7) (gc (.int 0)) ixD)))
 (v9 (j6 (gN 4) (o2 (gv 7) (gc (.int 1)) ixD))
 u9))))
 (v9 (d9 (ui0 (oA (z7 (gv 3) (z7 (gv 5) v6)) yy0)))
 u9))))))
def ov0:List Str:=["look", "start", "number", "kind", "place", "held", "want", "item"]
def S8:List D->Option D:=mkF 2 ov0 oh0
def tu0:GS:=(v9 (ifD (z00 (ob (o2 (o2 (gv 0) (gc (.int 0)) ixD) (gc (.str "text")) eqD)) (ob (o2 (o2 (gv 0) (gc (.int 0)) ixD) (gc (.str "row")) eqD)))
 (v9 (O1 (W5 v6))
 u9)
 u9)
 (v9 (O1 (X8 1 [] (tupI (o2 (gv 0) (unG xx0 (gc (.int 1))) ixD)) (gN 0) noT (o2 (gv 0) (gc (.int 0)) ixD)))
 u9))
def wo0:List Str:=["part"]
def y40:List D->Option D:=mkN 1 wo0 tu0
def ki0:GS:=(v9 (ifD (ob (o2 (o2 (gv 0) (gc (.int 0)) ixD) (gc (.str "text")) eqD))
 (v9 (O1 (W5 v6))
 u9)
 u9)
 (v9 (ifD (ob (o2 (o2 (gv 0) (gc (.int 0)) ixD) (gc (.str "row")) eqD))
 (v9 (O1 (oA (z7 (o2 (gv 0) (gc (.int 1)) ixD) v6) yb0))
 u9)
 u9)
 (v9 (O1 (X8 1 [] (tupI (o2 (gv 0) (unG xx0 (gc (.int 1))) ixD)) (gN 0) noT (o2 (gv 0) (gc (.int 1)) ixD)))
 u9)))
def rm0:List Str:=["part"]
def m_values:List D->Option D:=mkN 1 rm0 ki0
def jh0:GS:=(v9 (O1 (X8 1 [] (zs0 (oA (z7 (gv 0) v6) m_values)) (gN 0) (ob (vf0 isTup (gv 0))) (o2 (gv 0) (gc (.int 1)) ixD)))
 u9)
def pr0:List Str:=["part"]
def N8:List D->Option D:=mkN 1 pr0 jh0
def ul0:GS:=(v9 (ifD (ob (o2 (o2 (gv 0) (gc (.int 0)) ixD) (gc (.str "text")) eqD))
 (v9 (d9 (gv 0))
 u9)
 u9)
 (v9 (ifD (ob (o2 (o2 (gv 0) (gc (.int 0)) ixD) (gc (.str "row")) eqD))
 (v9 (d9 (R0 (z7 (gc (.str "row")) (z7 (oA (z7 (gv 1) v6) Q3) v6))))
 u9)
 u9)
 (v9 (j6 (gN 2) (oA (z7 (oA (z7 (gv 0) v6) y40) (z7 (gv 1) v6)) sb0))
 (v9 (ifD (ob (o2 (o2 (gv 0) (gc (.int 0)) ixD) (gc (.str "table")) eqD))
 (v9 (d9 (R0 (z7 (gc (.str "table")) (z7 (gv 2) v6))))
 u9)
 u9)
 (v9 (d9 (R0 (z7 (gc (.str "record")) (z7 (o2 (gv 0) (gc (.int 1)) ixD) (z7 (gv 2) v6)))))
 u9)))))
def um0:List Str:=["part", "some", "pairs"]
def G3:List D->Option D:=mkF 2 um0 ul0
def p60:GS:=(v9 (j6 (gN 2) (X8 1 [1] (zs0 (oA (z7 (gv 0) v6) m_values)) (gN 0) noT (ifG (ob (vf0 isTup (gv 0))) (R0 (z7 (gc (.str "at")) (z7 (o2 (gv 1) (o2 (gv 0) (gc (.int 1)) ixD) M8) v6))) (gv 0))))
 (v9 (d9 (oA (z7 (gv 0) (z7 (gv 2) v6)) G3))
 u9))
def uk0:List Str:=["part", "numbers", "some"]
def w60:List D->Option D:=mkF 2 uk0 p60
def vt0:GS:=(v9 (ifD (ob (o2 (gv 1) (oA (z7 (gv 0) v6) Z2) ltD))
 (v9 (d9 (o2 (gv 0) (gv 1) ixD))
 u9)
 u9)
 (v9 (d9 (o2 (o2 (o2 (gv 1) (gc (.int 7919)) U3) (gc (.int 5)) o9) (o2 (gv 1) (gc (.int 31)) o9) U3))
 u9))
def vm0:List Str:=["_law_script", "_law_k"]
def Y7:List D->Option D:=mkF 2 vm0 vt0
def pi0:GS:=(v9 (d9 (o2 (o2 (o2 (o2 (o2 (o2 (gv 0) (gc (.int 2147483629)) Z6) (gc (.int 1)) o9) (o2 (o2 (gc (.int 48271)) (o2 (gc (.int 69621)) (gv 1) U3) o9) (o2 (o2 (gc (.int 2)) (gv 1) U3) (gv 1) U3) o9) U3) (gv 1) o9) (gc (.int 2147483647)) Z6) (gc (.int 7)) zc0))
 u9)
def p10:List Str:=["_law_cell", "_law_k"]
def m5:List D->Option D:=mkF 2 p10 pi0
def rg0:GS:=(v9 (j6 (gN 2) (gc (.str "abcdefghijklmnopqrstuvwxyz0123456789")))
 (v9 (j6 (gN 3) (zl0 (gc (.str "")) (z7 (X8 1 [0,2] (O9 (z7 (o2 (oA (z7 (gv 0) (z7 (gc (.int 20)) v6)) m5) (gc (.int 8)) Z6) v6)) (gN 0) noT (o2 (gv 2) (o2 (oA (z7 (gv 1) (z7 (gv 0) v6)) m5) (gc (.int 36)) Z6) ixD)) v6)))
 (v9 (j6 (gN 4) (o2 (oA (z7 (gv 0) (z7 (gc (.int 21)) v6)) m5) (o2 (oA (z7 (gv 3) v6) Z2) (gc (.int 1)) o9) Z6))
 (v9 (O1 (X8 1 [0,2,3,4] (O9 (z7 (gv 1) v6)) (gN 0) noT (o2 (o2 (xq0 (gv 3) z10 (someO (gv 4))) (o2 (gv 2) (o2 (o2 (o2 (gc (.int 3)) (gv 0) U3) (gv 1) o9) (gc (.int 36)) Z6) ixD) o9) (xq0 (gv 3) (someO (gv 4)) z10) o9)))
 u9))))
def yv0:List Str:=["_law_cell", "_law_many", "_law_signs_here", "_law_base", "_law_at"]
def yw0:List D->Option D:=mkN 2 yv0 rg0
def wy0:GS:=(v9 (j6 (gN 3) (o2 (oA (z7 (gv 0) (z7 (gv 1) v6)) m5) (gc (.int 5)) Z6))
 (v9 (ifD (ob (o2 (gv 3) (gc (.int 0)) eqD))
 (v9 (d9 (gc .non))
 u9)
 u9)
 (v9 (ifD (ob (o2 (gv 3) (gc (.int 3)) ltD))
 (v9 (d9 (R0 (z7 (gc (.str "at")) (z7 (o2 (oA (z7 (gv 0) (z7 (o2 (gc (.int 40)) (gv 1) o9) v6)) m5) (gv 2) Z6) v6))))
 u9)
 u9)
 (v9 (ifD (ob (o2 (gv 3) (gc (.int 3)) eqD))
 (v9 (d9 (o2 (o2 (oA (z7 (gv 0) (z7 (o2 (gc (.int 60)) (gv 1) o9) v6)) m5) (gc (.int 260)) Z6) (gc (.int 130)) xv0))
 u9)
 u9)
 (v9 (d9 (o2 (o2 (o2 (o2 (o2 (o2 (gv 0) (gc (.int 1)) o9) (o2 (gv 1) (gc (.int 3)) o9) U3) (o2 (gc (.int 982451653)) (gc (.int 7)) q10) dl0) (o2 (o2 (gc (.int 2)) (o2 (gc (.int 10)) (gc (.int 60)) q10) U3) (gc (.int 1)) xv0) Z6) (gc (.int 1)) o9) (o2 (gc (.int 10)) (gc (.int 60)) q10) xv0))
 u9)))))
def wv0:List Str:=["_law_cell", "_law_k", "_law_many", "_law_way"]
def V7:List D->Option D:=mkF 3 wv0 wy0
def w00:GS:=(v9 (j6 (gN 3) (o2 (oA (z7 (gv 0) (z7 (gc (.int 1)) v6)) m5) (gc (.int 5)) Z6))
 (v9 (j6 (gN 4) (o2 (W5 (z7 (gc (.int 0)) (z7 (gc (.int 1)) (z7 (gc (.int 2)) (z7 (gc (.int 3)) (z7 (gc (.int 2)) (z7 (gc (.int 1)) (z7 (gc (.int 4)) (z7 (gc (.int 12)) v6))))))))) (o2 (oA (z7 (gv 0) (z7 (gc (.int 2)) v6)) m5) (gc (.int 8)) Z6) ixD))
 (v9 (ifD (ob (o2 (gv 3) (gc (.int 0)) eqD))
 (v9 (j6 (gN 5) (gc (.str "abcdefghijklmnopqrstuvwxyz0123456789 ")))
 (v9 (d9 (R0 (z7 (gc (.str "text")) (z7 (zl0 (gc (.str "")) (z7 (X8 1 [0,5] (O9 (z7 (o2 (oA (z7 (gv 0) (z7 (gc (.int 3)) v6)) m5) (gc (.int 21)) Z6) v6)) (gN 0) noT (o2 (gv 2) (o2 (oA (z7 (gv 1) (z7 (o2 (gc (.int 80)) (gv 0) o9) v6)) m5) (gc (.int 37)) Z6) ixD)) v6)) v6))))
 u9))
 u9)
 (v9 (j6 (gN 6) (X8 1 [0,2] (O9 (z7 (gv 4) v6)) (gN 0) noT (oA (z7 (gv 1) (z7 (o2 (gc (.int 4)) (gv 0) o9) (z7 (gv 2) v6))) V7)))
 (v9 (ifD (ob (o2 (gv 3) (gc (.int 1)) eqD))
 (v9 (d9 (R0 (z7 (gc (.str "row")) (z7 (oA (z7 (gv 6) v6) Q3) v6))))
 u9)
 u9)
 (v9 (j6 (gN 7) (o2 (oA (z7 (gv 0) (z7 (gc (.int 30)) v6)) m5) (gc (.int 12)) Z6))
 (v9 (j6 (gN 8) (oA (z7 (X8 1 [1,6,7] (O9 (z7 (gv 4) v6)) (gN 0) noT (R0 (z7 (o2 (gv 1) (o2 (o2 (gv 3) (gv 0) o9) (gc (.int 12)) Z6) ixD) (z7 (o2 (gv 2) (gv 0) ixD) v6)))) v6) Q3))
 (v9 (ifD (ob (o2 (gv 3) (gc (.int 2)) eqD))
 (v9 (d9 (R0 (z7 (gc (.str "table")) (z7 (gv 8) v6))))
 u9)
 u9)
 (v9 (d9 (R0 (z7 (gc (.str "record")) (z7 (o2 (gv 1) (o2 (oA (z7 (gv 0) (z7 (gc (.int 31)) v6)) m5) (gc (.int 12)) Z6) ixD) (z7 (gv 8) v6)))))
 u9)))))))))
def O3:List Str:=["_law_cell", "_law_names", "_law_many", "_law_kind", "_law_size", "_law_signs_here", "_law_some", "_law_turn", "_law_pairs"]
def U6:List D->Option D:=mkF 3 O3 w00
def t90:GS:=(v9 (j6 (gN 3) (o2 (gc (.int 1)) (o2 (oA (z7 (oA (z7 (gv 0) (z7 (gv 1) v6)) Y7) (z7 (gc (.int 3)) v6)) m5) (gv 2) Z6) o9))
 (v9 (j6 (gN 4) (oA (z7 (oA (z7 (gv 0) (z7 (o2 (gv 1) (gc (.int 1)) o9) v6)) Y7) (z7 (gc (.int 12)) v6)) yw0))
 (v9 (d9 (oA (z7 (X8 1 [0,1,3,4] (O9 (z7 (gv 3) v6)) (gN 0) noT (oA (z7 (oA (z7 (gv 1) (z7 (o2 (o2 (gv 2) (gc (.int 2)) o9) (gv 0) o9) v6)) Y7) (z7 (gv 4) (z7 (gv 3) v6))) U6)) v6) Q3))
 u9)))
def wq0:List Str:=["_law_script", "_law_start", "_law_most", "_law_many", "_law_names"]
def z70:List D->Option D:=mkF 3 wq0 t90
def un0:GS:=(v9 (M5 1 (W5 (z7 (o2 (gv 0) (gc (.int 128)) Z6) v6)))
 (v9 (Y5 (ob (o2 (gv 0) (gc (.int 127)) gtD))
 (v9 (j6 (gN 0) (o2 (gv 0) (gc (.int 128)) zc0))
 (v9 (Z0 (sm0 1 (o2 (gc (.int 128)) (o2 (gv 0) (gc (.int 128)) Z6) o9)))
 u9)) 100000)
 (v9 (q90 1)
 u9)))
def uo0:List Str:=["_law_number", "_law_found"]
def Z3:List D->Option D:=mkN 1 uo0 un0
def uw0:GS:=(v9 (O1 (X8 1 [] (kc0 (gv 0)) (gN 0) noT (oA (z7 (gv 0) v6) th0)))
 u9)
def wi0:List Str:=["_law_word"]
def M4:List D->Option D:=mkN 1 wi0 uw0
def xn0:GS:=(v9 (ifD (ob (o2 (gv 0) (gc .non) c20))
 (v9 (O1 (W5 (z7 (gc (.int 0)) v6)))
 u9)
 u9)
 (v9 (ifD (ob (vf0 isTup (gv 0)))
 (v9 (O1 (oA (z7 (o2 (o2 (gc (.int 2)) (o2 (gv 0) (gc (.int 1)) ixD) U3) (gc (.int 2)) o9) v6) Z3))
 u9)
 u9)
 (v9 (ifD (ob (o2 (gv 0) (gc (.int 0)) ltD))
 (v9 (O1 (oA (z7 (o2 (o2 (gc (.int 2)) (o2 (o2 (gc (.int 0)) (o2 (gc (.int 2)) (gv 0) U3) xv0) (gc (.int 1)) xv0) U3) (gc (.int 1)) o9) v6) Z3))
 u9)
 u9)
 (v9 (O1 (oA (z7 (o2 (o2 (gc (.int 4)) (gv 0) U3) (gc (.int 1)) o9) v6) Z3))
 u9))))
def xo0:List Str:=["_law_value"]
def V6:List D->Option D:=mkN 1 xo0 xn0
def xz0:GS:=(v9 (j6 (gN 1) (mh0 (W5 (z7 (gc (.str "text")) (z7 (gc (.str "row")) (z7 (gc (.str "table")) (z7 (gc (.str "record")) v6))))) (z7 (o2 (gv 0) (gc (.int 0)) ixD) v6) ix0))
 (v9 (j6 (gN 2) (oA (z7 (o2 (o2 (gc (.int 4)) (oA (z7 (o2 (gv 0) (unG xx0 (gc (.int 1))) ixD) v6) Z2) U3) (gv 1) o9) v6) Z3))
 (v9 (ifD (ob (o2 (gv 1) (gc (.int 0)) eqD))
 (v9 (d9 (o2 (gv 2) (oA (z7 (o2 (gv 0) (gc (.int 1)) ixD) v6) M4) o9))
 u9)
 u9)
 (v9 (ifD (ob (o2 (gv 1) (gc (.int 1)) eqD))
 (v9 (J9 (tupI (o2 (gv 0) (gc (.int 1)) ixD)) (gN 3)
 (v9 (j6 (gN 2) (o2 (gv 2) (oA (z7 (gv 3) v6) V6) o9))
 u9))
 (v9 (d9 (gv 2))
 u9))
 u9)
 (v9 (ifD (ob (o2 (gv 1) (gc (.int 3)) eqD))
 (v9 (j6 (gN 2) (o2 (o2 (gv 2) (oA (z7 (oA (z7 (o2 (gv 0) (gc (.int 1)) ixD) v6) Z2) v6) Z3) o9) (oA (z7 (o2 (gv 0) (gc (.int 1)) ixD) v6) M4) o9))
 u9)
 u9)
 (v9 (J9 (tupI (o2 (gv 0) (unG xx0 (gc (.int 1))) ixD)) (rq0 4 3)
 (v9 (j6 (gN 2) (o2 (o2 (gv 2) (oA (z7 (oA (z7 (gv 4) v6) Z2) v6) Z3) o9) (oA (z7 (gv 4) v6) M4) o9))
 (v9 (j6 (gN 2) (o2 (gv 2) (oA (z7 (gv 3) v6) V6) o9))
 u9)))
 (v9 (d9 (gv 2))
 u9)))))))
def w40:List Str:=["_law_part", "_law_kind", "_law_found", "_law_value", "_law_name"]
def K7:List D->Option D:=mkF 1 w40 xz0
def ve0:GS:=(v9 (j6 (gN 1) (X8 1 [] (tupI (gv 0)) (gN 0) noT (oA (z7 (gv 0) v6) K7)))
 (v9 (j6 (gN 2) (oA (z7 (oA (z7 (gv 0) v6) Z2) v6) Z3))
 (v9 (J9 (zs0 (gv 1)) (gN 3)
 (v9 (j6 (gN 2) (o2 (gv 2) (oA (z7 (oA (z7 (gv 3) v6) Z2) v6) Z3) o9))
 u9))
 (v9 (M5 4 (W5 v6))
 (v9 (M5 5 (oA (z7 (gv 2) v6) yb0))
 (v9 (J9 (zs0 (gv 1)) (gN 3)
 (v9 (Z0 (N6 4 (zt0 (oA (z7 (gv 5) v6) Z2))))
 (v9 (Z0 (O7 5 (gv 3)))
 u9)))
 (v9 (d9 (ui0 (R0 (z7 (gv 5) (z7 (oA (z7 (gv 2) v6) Z2) (z7 (o2 (gv 4) (W5 (z7 (oA (z7 (gv 5) v6) Z2) v6)) o9) v6))))))
 u9)))))))
def yf0:List Str:=["_law_web", "_law_some", "_law_index", "_law_one", "_law_begins", "_law_whole"]
def Q9:List D->Option D:=mkF 1 yf0 ve0
end Ga
namespace Pn
open Ga
open DL W
theorem vc0(p:Pt)(h:p.few):m_values [p.d]=some (.lst p.vals):=by
 cases p with
 | text w=>kernel_rfl
 | row vs =>
  refine W4 rfl (v8 (δ':=[.sh (Pt.row vs).d]) (by rw[Z8 (by kernel_rfl)];rfl) (Y8 (by rw[T3 (by kernel_rfl)];rfl)))
 | table ps =>
  refine W4 rfl (v8 (δ':=[.sh (Pt.table ps).d]) (by rw[Z8 (by kernel_rfl)];rfl) (v8 (δ':=[.sh (Pt.table ps).d]) (by rw[Z8 (by kernel_rfl)];rfl) (Y8 (R4 ?_))));exact U8 (items:=ps.map pr) rfl (by have:(ps.map (·.2)).length<=sizeLine:=h;simpa using this) (lb0 ps)
 | rcd c ps =>
  refine W4 rfl (v8 (δ':=[.sh (Pt.rcd c ps).d]) (by rw[Z8 (by kernel_rfl)];rfl) (v8 (δ':=[.sh (Pt.rcd c ps).d]) (by rw[Z8 (by kernel_rfl)];rfl) (Y8 (R4 ?_))));exact U8 (items:=ps.map pr) rfl (by have:(ps.map (·.2)).length<=sizeLine:=h;simpa using this) (lb0 ps)
theorem m20(p:Pt)(h:p.few):y40 [p.d]=some (.lst (p.pnames.map .str)):=by
 cases p with
 | text w=>kernel_rfl
 | row vs=>kernel_rfl
 | table ps =>
  refine W4 rfl (v8 (δ':=[.sh (Pt.table ps).d]) (by rw[Z8 (by kernel_rfl)];rfl) (Y8 (R4 ?_)));exact U8 (items:=ps.map pr) rfl (by have:(ps.map (·.2)).length<=sizeLine:=h;simpa using this) (l20 ps)
 | rcd c ps =>
  refine W4 rfl (v8 (δ':=[.sh (Pt.rcd c ps).d]) (by rw[Z8 (by kernel_rfl)];rfl) (Y8 (R4 ?_)));exact U8 (items:=ps.map pr) rfl (by have:(ps.map (·.2)).length<=sizeLine:=h;simpa using this) (l20 ps)
def put:Pt->List D->Pt
 | .text w,_=>.text w
 | .row _,vs=>.row vs
 | .table ps,vs=>.table ((ps.map (·.1)).zip vs)
 | .rcd c ps,vs=>.rcd c ((ps.map (·.1)).zip vs)
theorem tj0(ns:List Str)(vs:List D):sb0 [.lst (ns.map .str),.lst vs]=some (.tup ((ns.zip vs).map pr)):=by
 simp only[sb0];rw[List.zip_map_left,List.map_map];rfl
theorem Z00(p:Pt)(h:p.few)(vs:List D):G3 [p.d,.lst vs]=some (put p vs).d:=by
 have e:=m20 p h;cases p with
 | text w=>kernel_rfl
 | row us=>kernel_rfl
 | table ps =>
  refine j9 rfl (v8 (δ':=[.sh (Pt.table ps).d,.sh (.lst vs),.un]) (by rw[Z8 (by kernel_rfl)];rfl) (v8 (δ':=[.sh (Pt.table ps).d,.sh (.lst vs),.un]) (by rw[Z8 (by kernel_rfl)];rfl) (v8 (m9 (d:=.tup (((ps.map (·.1)).zip vs).map pr)) ?_) (o4 ?_))))
  ·rw[p7 (cons_of (by rw[p7 (ds:=[(Pt.table ps).d]) rfl];exact e) (cons_of rfl rfl))]
   exact tj0 _ _
  ·rw[T3 (by kernel_rfl)]
   rfl
 | rcd c ps =>
  refine j9 rfl (v8 (δ':=[.sh (Pt.rcd c ps).d,.sh (.lst vs),.un]) (by rw[Z8 (by kernel_rfl)];rfl) (v8 (δ':=[.sh (Pt.rcd c ps).d,.sh (.lst vs),.un]) (by rw[Z8 (by kernel_rfl)];rfl) (v8 (m9 (d:=.tup (((ps.map (·.1)).zip vs).map pr)) ?_)
   (v8 (δ':=[.sh (Pt.rcd c ps).d,.sh (.lst vs),.sh (.tup (((ps.map (·.1)).zip vs).map pr))]) (by rw[Z8 (by kernel_rfl)];rfl) ?_))))
  ·rw[p7 (cons_of (by rw[p7 (ds:=[(Pt.rcd c ps).d]) rfl];exact e) (cons_of rfl rfl))]
   exact tj0 _ _
  ·rfl
mutual
theorem rs0:∀(d:D) (n:Nat),lean d n=true->deq d d=true
 | .non,_,_=>by unfold deq;rfl
 | .bl b,_,_=>by unfold deq;simp
 | .int b,_,_=>by unfold deq;simp
 | .str b,_,_=>by unfold deq;simp
 | .tup ds,0,h=>by unfold lean at h;cases h
 | .tup ds,n+1,h=>by unfold lean at h;unfold deq;exact t20 ds n h
 | .lst ds,0,h=>by unfold lean at h;cases h
 | .lst ds,n+1,h=>by unfold lean at h;unfold deq;exact t20 ds n h
 | .dct _ _,n,h=>by unfold lean at h;cases h
 | .fn _ _,n,h=>by unfold lean at h;cases h
theorem t20:∀(ds:List D) (n:Nat),leans ds n=true->y50 ds ds=true
 | [],_,_=>by unfold y50;rfl
 | d::ds,n,h=>by
  unfold leans at h;rw[Bool.and_eq_true] at h;unfold y50;rw[rs0 d n h.1,t20 ds n h.2];rfl
end
end Pn
namespace W
open DL StrLaws Builtin.Str
theorem w80(l:List Nat):(strOf l).cps.toList=l:=by simp[strOf]
theorem y00(l:List Nat):(strOf l).length=l.length:=by show l.toArray.size=_;simp
end W
namespace Gw
open DL W StrLaws
theorem mul_r(i j:Int)(h:-(2 ^ 64)<j/\j<2 ^ 64):U3 (.int i) (.int j)=some (.int (i*j)):=by simp only[U3];rw[if_pos (.inr h)]
theorem zm0(i j:Int)(h:-(2 ^ 64)<i/\i<2 ^ 64):U3 (.int i) (.int j)=some (.int (i*j)):=by simp only[U3];rw[if_pos (.inl h)]
theorem sp0(i j:Int)(h:0<j):Z6 (.int i) (.int j)=some (.int (i%j)):=by simp only[Z6,ii];rw[if_pos h]
theorem xk0{g:GE}{l:List D}{d:D}(h1:owL i δ=some l)(h2:g δ=some d)(h3:l.length<sizeLine):Z0 (N6 i g) δ=some (.nx (δ.set i (.ow (.lst (l++[d]))))):=by
 unfold Z0 N6;rw[h1,h2];simp only[Option.bind_some];rw[if_pos h3];rfl
theorem Wn0(l:List Nat)(k:Int)(h0:0<=k)(h1:k<=l.length):Txt.slice (strOf l) none (some k)=strOf (l.take k.toNat):=by
 show sliceText _ _ _=_;rw[sliceText_to ⟨h0,by rw[w80];exact h1⟩,w80];simp[strOf]
theorem Xn0(l:List Nat)(k:Int)(h0:0<=k)(h1:k<=l.length):Txt.slice (strOf l) (some k) none=strOf (l.drop k.toNat):=by
 show sliceText _ _ _=_;rw[sliceText_from ⟨h0,by rw[w80];exact h1⟩,w80];unfold strOf;congr 2;rw[List.take_of_length_le];rw[List.length_drop];omega
theorem Ve0(a b:List Nat):strOf a++strOf b=strOf (a++b):=by
 show (⟨_⟩:Str)=⟨_⟩;simp[strOf]
theorem ct0(a b:List Nat)(h:a.length+b.length<=sizeLine):o9 (.str (strOf a)) (.str (strOf b))=some (.str (strOf (a++b))):=by
 simp only[o9];rw[if_pos (by rw[y00,y00];exact h),Ve0]
end Gw
namespace Bw
open Ga
open DL W StrLaws
theorem R3(c k:Int)(h0:0<=k)(h1:k<=1000000):∃x,0<=x/\x<2147483647/\m5 [.int c,.int k]=some (.int x):=by
 obtain⟨q,hq⟩:∃q,q=((c%2147483629+1)*(48271+69621*k+2*k*k)+k)%2147483647:=⟨_,rfl⟩;have q0:0<=q:=by rw[hq];exact L8 _ (by decide)
 have q1:q<2147483647:=by rw[hq];exact L9 _ (by decide)
 refine⟨q/7,by omega,by omega,j9 rfl (o4 (d7 ?_))⟩;have kk:2*k*k<=2*1000000*1000000:=by
  have:=Int.mul_le_mul h1 h1 h0 (by omega);rw[Int.mul_assoc];omega
 have J:0<=2*k*k:=by
  have:=Int.mul_nonneg h0 h0;rw[Int.mul_assoc];omega
 rw[p6 (x:=.int q) (y:=.int 7) (by
  rw[p6 (x:=.int ((c%2147483629+1)*(48271+69621*k+2*k*k)+k)) (y:=.int 2147483647) (by
   rw[p6 (x:=.int ((c%2147483629+1)*(48271+69621*k+2*k*k))) (y:=.int k) (by
    rw[p6 (x:=.int (c%2147483629+1)) (y:=.int (48271+69621*k+2*k*k)) rfl (by
     rw[p6 (x:=.int (48271+69621*k)) (y:=.int (2*k*k)) (by
      rw[p6 (x:=.int 48271) (y:=.int (69621*k)) rfl (by rw[p6 (x:=.int 69621) (y:=.int k) rfl rfl];exact Gw.mul_r _ _ (by omega))];rfl) (by
      rw[p6 (x:=.int (2*k)) (y:=.int k) (by rw[p6 (x:=.int 2) (y:=.int k) rfl rfl];exact Gw.mul_r _ _ (by omega)) rfl];exact Gw.mul_r _ _ (by omega))]
     rfl)]
    exact Gw.mul_r _ _ (by omega)) rfl]
   rfl) rfl]
  rw[hq];exact Gw.sp0 _ _ (by decide)) rfl]
 rfl
structure Pool(nm:List Str):Prop where
 len:nm.length=12
 names:∀s∈nm,isName s=true
 nd:nm.Nodup
theorem ay0(c:Int):∃nm,yw0 [.int c,.int 12]=some (.lst (nm.map .str))/\Pool nm:=by
 have z:(1000:Nat)<=sizeLine:=by decide
 obtain⟨O,a0,a1,a2⟩:=R3 c 20 (by decide) (by decide);obtain⟨J,b0,b1,b2⟩:=R3 c 21 (by decide) (by decide);obtain⟨f,hf⟩:∃f:Nat->Int,∀j:Nat,j<8->0<=f j/\f j<36/\∀δ:Ds,o2 (oA (z7 (gv 1) (z7 (gv 0) v6)) m5) (gc (.int 36)) Z6 (.sh (.int (j:Int))::.sh (.int c)::δ)=some (.int (f j)):=by
  have:∀j:Nat,∃v:Int,j<8->0<=v/\v<36/\∀δ:Ds,o2 (oA (z7 (gv 1) (z7 (gv 0) v6)) m5) (gc (.int 36)) Z6 (.sh (.int (j:Int))::.sh (.int c)::δ)=some (.int v):=λj=>by
   by_cases hj:j<8
   ·obtain⟨x,y0,y1,y2⟩:=R3 c (j:Int) (by omega) (by omega)
    refine⟨x%36,λ_=>⟨by omega,by omega,fun δ=>?_⟩⟩;rw[p6 (x:=.int x) (y:=.int 36) (by rw[p7 (ds:=[.int c,.int (j:Int)]) rfl];exact y2) rfl];rfl
   ·exact⟨0,λh=>absurd h hj⟩
  obtain⟨f,hf⟩:=Y3 this;exact⟨f,hf⟩
 obtain⟨n,hn⟩:∃n:Nat,(n:Int)=O%8:=⟨(O%8).toNat,by omega⟩;have n8:n<8:=by omega
 obtain⟨w,hw⟩:∃w:List Nat,w=(List.range n).map λj=>cg (f j):=⟨_,rfl⟩
 have wl:w.length=n:=by rw[hw];simp
 have wm:∀x∈w,x∈nameS.cps.toList:=λx hx=>by
  rw[hw] at hx;obtain⟨j,hj,rfl⟩:=B0.mp hx;have hj:=C8.mp hj;exact eh0 _ (hf j (by omega)).1 (hf j (by omega)).2.1
 have base:∀s3 s4:Sl,zl0 (gc (.str "")) (z7 (X8 1 [0,2] (O9 (z7 (o2 (oA (z7 (gv 0) (z7 (gc (.int 20)) v6)) m5) (gc (.int 8)) Z6) v6)) (gN 0) noT (o2 (gv 2) (o2 (oA (z7 (gv 1) (z7 (gv 0) v6)) m5) (gc (.int 36)) Z6) ixD)) v6) [.sh (.int c),.sh (.int 12),.sh (.str N5),s3,s4]=some (.str (strOf w)):=λs3 s4=>by
  rw[sd0 (x:=.str "") (ds:=[.lst ((ones w).map .str)]) rfl (cons_of (U8 (items:=V9 0 (n:Int)) (za0 (cons_of (by
   rw[p6 (x:=.int O) (y:=.int 8) (by rw[p7 (ds:=[.int c,.int 20]) rfl];exact a2) rfl,hn];rfl) rfl) (by omega) (by omega)) (by rw[G5];omega) (by
   have q:=yt0 (gt:=noT) (ge:=(o2 (gv 2) (o2 (oA (z7 (gv 1) (z7 (gv 0) v6)) m5) (gc (.int 36)) Z6) ixD)) (δ:=[.un,.sh (.int c),.sh (.str N5)]) (n:=(n:Int)) (λj=>.str ⟨#[cg (f j)]⟩) (λk hk=>⟨[.sh (.int (k:Int)),.sh (.int c),.sh (.str N5)],rfl,rfl,by
    have Y:k<n:=by omega
    obtain⟨g0,g1,g2⟩:=hf k (by omega);rw[p6 (x:=.str N5) (y:=.int (f k)) rfl (g2 _)];exact jj0 (f k) g0 g1⟩)
   refine q.trans ?_;rw[Int.toNat_natCast,hw];unfold ones;rw[List.map_map,List.map_map];rfl)) rfl)]
  have e1:=strs_map id (ones w);have Z:z50 ((ones w).map D.str)=some (ones w):=by simpa using e1
  simp only[ug0];rw[Z,Option.bind_some,xh0,join_ones,if_pos (by
   have:("" : PySem.Str).length=0:=by decide +kernel
   rw[this];omega)]
 obtain⟨a,ha⟩:∃a:Nat,(a:Int)=J%((n:Int)+1):=⟨(J%((n:Int)+1)).toNat,by have:=L8 J (by omega:(n:Int)+1≠0);omega⟩;have a4:a<=n:=by have:=L9 J (by omega:(0:Int)<(n:Int)+1);omega
 obtain⟨F,hF⟩:∃F:Nat->List Nat,F=λ(k:Nat)=>w.take a++cg ((3*(k:Int)+c)%36)::w.drop a:=⟨_,rfl⟩
 have Fl:∀k,(F k).length=n+1:=λk=>by
  rw[hF];show (w.take a++cg ((3*(k:Int)+c)%36)::w.drop a).length=n+1;rw[List.length_append,List.length_cons,List.length_take,List.length_drop];omega
 refine⟨(List.range 12).map λk=>strOf (F k),W4 rfl (v8 (m9 (d:=.str N5) rfl) (v8 (m9 (d:=.str (strOf w)) (base _ _)) (v8 (m9 (d:=.int (a:Int)) ?_) (Y8 (R4 (U8 (items:=V9 0 12) rfl (by rw[G5];show (12:Nat)<=_;omega) ?_)))))),by simp,λs hs=>?_,?_⟩
 ·rw[p6 (x:=.int J) (y:=.int ((n:Int)+1)) (by rw[p7 (ds:=[.int c,.int 21]) rfl];exact b2) (by
   rw[p6 (x:=.int (n:Int)) (y:=.int 1) (by
    rw[p7 (ds:=[.str (strOf w)]) rfl];simp only[Z2];rw[y00,wl,if_pos (by omega)]) rfl]
   rfl),Gw.sp0 _ _ (by omega),ha]
 ·have q:=yt0 (gt:=noT) (ge:=(o2 (o2 (xq0 (gv 3) z10 (someO (gv 4))) (o2 (gv 2) (o2 (o2 (o2 (gc (.int 3)) (gv 0) U3) (gv 1) o9) (gc (.int 36)) Z6) ixD) o9) (xq0 (gv 3) (someO (gv 4)) z10) o9)) (δ:=[.un,.sh (.int c),.sh (.str N5),.sh (.str (strOf w)),.sh (.int (a:Int))]) (n:=12) (λk=>.str (strOf (F k))) (λk hk=>⟨[.sh (.int (k:Int)),.sh (.int c),.sh (.str N5),.sh (.str (strOf w)),.sh (.int (a:Int))],rfl,rfl,by
   have Y:(k:Int)<12:=hk;have t1:xq0 (gv 3) z10 (someO (gv 4)) [.sh (.int (k:Int)),.sh (.int c),.sh (.str N5),.sh (.str (strOf w)),.sh (.int (a:Int))]=some (.str (strOf (w.take a))):=by
    show slA (.str (strOf w)) none (some (a:Int))=_;simp only[slA];rw[if_pos (by rw[y00,wl];omega),Gw.Wn0 _ _ (by omega) (by omega),Int.toNat_natCast]
   have t2:xq0 (gv 3) (someO (gv 4)) z10 [.sh (.int (k:Int)),.sh (.int c),.sh (.str N5),.sh (.str (strOf w)),.sh (.int (a:Int))]=some (.str (strOf (w.drop a))):=by
    show slA (.str (strOf w)) (some (a:Int)) none=_;simp only[slA];rw[if_pos (by rw[y00,wl];omega),Gw.Xn0 _ _ (by omega) (by omega),Int.toNat_natCast]
   have t3:o2 (gv 2) (o2 (o2 (o2 (gc (.int 3)) (gv 0) U3) (gv 1) o9) (gc (.int 36)) Z6) ixD [.sh (.int (k:Int)),.sh (.int c),.sh (.str N5),.sh (.str (strOf w)),.sh (.int (a:Int))]=some (.str (strOf [cg ((3*(k:Int)+c)%36)])):=by
    rw[p6 (x:=.str N5) (y:=.int ((3*(k:Int)+c)%36)) rfl (by
     rw[p6 (x:=.int (3*(k:Int)+c)) (y:=.int 36) (by
      rw[p6 (x:=.int (3*(k:Int))) (y:=.int c) (by rw[p6 (x:=.int 3) (y:=.int (k:Int)) rfl rfl];exact Gw.zm0 _ _ (by decide)) rfl];rfl) rfl]
     rfl)]
    exact jj0 _ (by omega) (by omega)
   rw[p6 (x:=.str (strOf (w.take a++[cg ((3*(k:Int)+c)%36)]))) (y:=.str (strOf (w.drop a))) (by
    rw[p6 t1 t3];exact Gw.ct0 _ _ (by rw[List.length_take];simp;omega)) t2]
   rw[Gw.ct0 _ _ (by rw[List.length_append,List.length_take,List.length_drop];simp;omega),hF];show some (D.str (strOf _))=some (D.str (strOf (w.take a++cg ((3*(k:Int)+c)%36)::w.drop a)));rw[List.append_assoc];rfl⟩)
  refine q.trans ?_;rw[List.map_map];rfl
 ·obtain⟨k,hk,rfl⟩:=B0.mp hs
  refine f60 _ (by rw[Fl];omega) (by rw[Fl];omega) λx hx=>?_
  rw[hF] at hx;rcases B5.mp hx with q|q
  ·exact wm x (K0 q)
  ·rcases B4.mp q with rfl|q
   ·exact eh0 _ (by omega) (by omega)
   ·exact wm x (List.mem_of_mem_drop q)
 ·refine List.nodup_iff_pairwise_ne.mpr (List.pairwise_map.mpr (List.Pairwise.imp_of_mem ?_ (List.nodup_range (n:=12))))
  intro i j hi hj a3 e;have hi:=C8.mp hi;have hj:=C8.mp hj;have e:=gl0 e;rw[hF] at e;have e:w.take a++cg ((3*(i:Int)+c)%36)::w.drop a=w.take a++cg ((3*(j:Int)+c)%36)::w.drop a:=e;have e:=List.append_cancel_left e;have e:=(List.cons.inj e).1;have e:=Yv0 _ _ (by omega) (by omega) (by omega) (by omega) e;omega
end Bw
namespace Bw
open Ga
open DL W
theorem P0{g:GE}{b:Bool}(h:g δ=some (.bl b)):ob g δ=some b:=by
 unfold ob;rw[h];rfl
def dg(r:Nat):List Int:=if h:r=0 then [] else ((128+r%128:Nat):Int)::dg (r/128)
termination_by r
decreasing_by omega
theorem Wc0:dg 0=[]:=by unfold dg;rw[dif_pos rfl]
theorem Xl0(r:Nat)(h:r≠0):dg r=((128+r%128:Nat):Int)::dg (r/128):=by conv=>lhs;unfold dg;rw[dif_neg h]
def hi(r:Nat):List Int:=(dg r).reverse
theorem q20:hi 0=[]:=by unfold hi;rw[Wc0];rfl
theorem it0(r:Nat)(h:r≠0):hi r=hi (r/128)++[((128+r%128:Nat):Int)]:=by unfold hi;rw[Xl0 r h,List.reverse_cons]
def bs(n:Nat):List Int:=hi (n/128)++[((n%128:Nat):Int)]
theorem Yk0:∀(m r:Nat),r<2 ^ m->(hi r).length<=m:=by
 intro m
 induction m with
 | zero =>
  intro r h;have h2:r=0:=by
   simp at h;exact h
  subst h2;rw[q20];exact A1 _
 | succ m ih =>
  intro r h
  by_cases h0:r=0
  ·subst h0;rw[q20];exact B9 _
  ·rw[it0 r h0,List.length_append]
   have:2 ^ (m+1)=2 ^ m*2:=c5 2 m;have:=ih (r/128) (by omega);simp only[List.length_cons,List.length_nil];omega
theorem O4(n:Nat)(h:n<2 ^ 300):(bs n).length<=301:=by
 unfold bs;rw[List.length_append];have:=Yk0 300 (n/128) (L7 (Nat.div_le_self _ _) h);simp only[List.length_cons,List.length_nil];omega
def WT:GB:=(ob (o2 (gv 2) (gc (.int 0)) gtD))
def WB:GS:=(v9 (Z0 (N6 1 (o2 (gc (.int 128)) (o2 (gv 2) (gc (.int 128)) Z6) o9)))
 (v9 (j6 (gN 2) (o2 (gv 2) (gc (.int 128)) zc0))
 u9))
theorem wt(a b:Sl)(r:Nat):WT [a,b,.sh (.int (r:Int))]=some (decide (0<r)):=by
 show some (decide ((0:Int)<(r:Int)))=_
 by_cases h:0<r
 ·rw[decide_eq_true h,decide_eq_true (by omega)]
 ·rw[decide_eq_false h,decide_eq_false (by omega)]
theorem wh(a:Sl):∀(m r:Nat) (o:List Int) (f:Nat),r<2 ^ m->m<f->o.length+m<sizeLine ->
  ∃s,Y5 WT WB f [a,.ow (.lst (o.map .int)),.sh (.int (r:Int))]=some (.nx [a,.ow (.lst ((o++dg r).map .int)),s])
 | m,r,o,0,_,hf,_=>absurd hf (M0 _)
 | m,r,o,f+1,hr,hf,hl=>by
  by_cases h0:r=0
  ·subst h0
   unfold Y5;rw[wt,Wc0,List.append_nil];exact⟨_,rfl⟩
  ·cases m with
   | zero=>simp at hr;omega
   | succ m =>
    have hb:WB [a,.ow (.lst (o.map .int)),.sh (.int (r:Int))]=some (.nx [a,.ow (.lst ((o++[((128+r%128:Nat):Int)]).map .int)),.sh (.int ((r/128:Nat):Int))]):=by
     have e1:(128:Int)+(r:Int)%128=((128+r%128:Nat):Int):=by omega
     have e2:(r:Int)/128=((r/128:Nat):Int):=by omega
     refine v8 (Gw.xk0 (l:=o.map .int) (d:=.int (128+(r:Int)%128)) rfl rfl (by rw[List.length_map];omega)) ?_;rw[List.map_append,← e1,← e2];rfl
    have h2:r/128<2 ^ m:=by
     have:2 ^ (m+1)=2 ^ m*2:=c5 2 m;omega
    obtain⟨s,e⟩:=wh a m (r/128) (o++[((128+r%128:Nat):Int)]) f h2 (by omega) (by rw[List.length_append];simp only[List.length_cons,List.length_nil];omega);refine⟨s,?_⟩;unfold Y5;rw[wt,decide_eq_true (by omega)];simp only[hb];rw[e,Xl0 r h0,List.append_assoc];rfl
theorem qd0(n:Nat)(h:n<2 ^ 300):X5 [.int (n:Int)]=some (.lst ((bs n).map .int)):=by
 have z:(1000:Nat)<=sizeLine:=by decide
 have h2:n/128<2 ^ 300:=L7 (Nat.div_le_self _ _) h;obtain⟨s,e⟩:=wh (.sh (.int (n:Int))) 300 (n/128) [((n%128:Nat):Int)] 100000 h2 (by decide) (by show 1+300<_;omega);refine W4 rfl ?_;have e1:(n:Int)%128=((n%128:Nat):Int):=by omega
 have e2:(n:Int)/128=((n/128:Nat):Int):=by omega
 refine v8 (δ':=[.sh (.int (n:Int)),.ow (.lst [.int ((n%128:Nat):Int)]),.un]) (by rw[← e1];rfl) ?_;refine v8 (m9 (d:=.int ((n/128:Nat):Int)) (by rw[← e2];rfl)) ?_;refine v8 e (Y8 (R4 ?_));show some (D.lst (((((n%128:Nat):Int)::dg (n/128)).map D.int).reverse))=_;rw[← List.map_reverse,List.reverse_cons];rfl
def VT:GB:=(ob (o2 (gv 0) (gc (.int 127)) gtD))
def VB:GS:=(v9 (j6 (gN 0) (o2 (gv 0) (gc (.int 128)) zc0))
 (v9 (Z0 (sm0 1 (o2 (gc (.int 128)) (o2 (gv 0) (gc (.int 128)) Z6) o9)))
 u9))
theorem vt(b:Sl)(r:Nat):VT [.sh (.int (r:Int)),b]=some (decide (127<r)):=by
 show some (decide ((127:Int)<(r:Int)))=_
 by_cases h:127<r
 ·rw[decide_eq_true h,decide_eq_true (by omega)]
 ·rw[decide_eq_false h,decide_eq_false (by omega)]
theorem Xg0{g:GE}{l:List D}{d:D}(h1:owL i δ=some l)(h2:g δ=some d)(h3:l.length<sizeLine):Z0 (sm0 i g) δ=some (.nx (δ.set i (.ow (.lst (d::l))))):=by
 unfold Z0 sm0;rw[h1,h2];simp only[Option.bind_some];rw[if_pos h3];rfl
theorem vh:∀(m r:Nat) (o:List Int) (f:Nat),r<2 ^ m->m<f->o.length+m<sizeLine ->
  ∃s,Y5 VT VB f [.sh (.int (r:Int)),.ow (.lst (o.map .int))]=some (.nx [s,.ow (.lst ((hi (r/128)++o).map .int))])
 | m,r,o,0,_,hf,_=>absurd hf (M0 _)
 | m,r,o,f+1,hr,hf,hl=>by
  by_cases h0:r/128=0
  ·unfold Y5
   rw[vt,decide_eq_false (by omega),h0,q20];exact⟨_,rfl⟩
  ·cases m with
   | zero=>simp at hr;omega
   | succ m =>
    have hb:VB [.sh (.int (r:Int)),.ow (.lst (o.map .int))]=some (.nx [.sh (.int ((r/128:Nat):Int)),.ow (.lst ((((128+r/128%128:Nat):Int)::o).map .int))]):=by
     have e1:(128:Int)+((r/128:Nat):Int)%128=((128+r/128%128:Nat):Int):=by omega
     have e2:(r:Int)/128=((r/128:Nat):Int):=by omega
     refine v8 (m9 (d:=.int ((r/128:Nat):Int)) (by rw[← e2];rfl)) ?_;refine v8 (Xg0 (l:=o.map .int) (d:=.int (128+((r/128:Nat):Int)%128)) rfl rfl (by rw[List.length_map];omega)) ?_;rw[e1];rfl
    have h2:r/128<2 ^ m:=by
     have:2 ^ (m+1)=2 ^ m*2:=c5 2 m;omega
    obtain⟨s,e⟩:=vh m (r/128) (((128+r/128%128:Nat):Int)::o) f h2 (by omega) (by simp only[List.length_cons];omega);refine⟨s,?_⟩;unfold Y5;rw[vt,decide_eq_true (by omega)];simp only[hb];rw[e,it0 (r/128) h0,List.append_assoc];rfl
theorem xm0(n:Nat)(h:n<2 ^ 300):Z3 [.int (n:Int)]=some (.lst ((bs n).map .int)):=by
 have z:(1000:Nat)<=sizeLine:=by decide
 obtain⟨s,e⟩:=vh 300 n [((n%128:Nat):Int)] 100000 h (by decide) (by show 1+300<_;omega);refine W4 rfl ?_;have e1:(n:Int)%128=((n%128:Nat):Int):=by omega
 refine v8 (δ':=[.sh (.int (n:Int)),.ow (.lst [.int ((n%128:Nat):Int)])]) (by rw[← e1];rfl) ?_;exact v8 e (Y8 rfl)
inductive Vb:D->Prop
 | non:Vb .non
 | lk (j:Nat) (h:j<1000):Vb (.tup [.str "at",.int (j:Int)])
 | int (z:Int) (h:z.natAbs<2 ^ 250):Vb (.int z)
def fold(z:Int):Nat:=if z<0 then (-2*z - 1).toNat else (2*z).toNat
def vn:D->Nat
 | .tup [_,.int j]=>(2*j+2).toNat
 | .int z=>2*fold z+1
 | _=>0
theorem fold_lt(z:Int)(h:z.natAbs<2 ^ 250):fold z<2 ^ 252:=by
 unfold fold;have e:(2:Nat) ^ 252=4*2 ^ 250:=by decide +kernel
 generalize (2:Nat) ^ 250=w at h e;split<;>omega
theorem ql0{v:D}(h:Vb v):vn v<2 ^ 300:=by
 cases h with
 | non=>show 0<_;decide +kernel
 | lk j h =>
  show (2*(j:Int)+2).toNat<_;have:(2:Nat) ^ 12<2 ^ 300:=by decide +kernel
  have e:(2:Nat) ^ 12=4096:=by decide
  generalize (2:Nat) ^ 300=w at this;omega
 | int z h =>
  show 2*fold z+1<_;have:=fold_lt z h;have e:(2:Nat) ^ 252+2 ^ 252<2 ^ 300:=by decide +kernel
  generalize (2:Nat) ^ 300=w at e;generalize (2:Nat) ^ 252=w at e this;omega
theorem ew0(z:Int):ub0 [.int z]=some (.int (fold z:Int)):=by
 by_cases h:z<0
 ·refine j9 rfl (o4 ?_)
  rw[T3 (by show some (decide (z<0))=_;rw[decide_eq_true h])];refine o4 (d7 ?_);rw[p6 (x:=.int (-2*z)) (y:=.int 1) (by rw[p6 (x:=.int (-2)) (y:=.int z) rfl rfl];exact Gw.zm0 _ _ (by decide)) rfl];have:((fold z:Nat):Int)=-2*z - 1:=by unfold fold;rw[if_pos h];omega
  rw[this];rfl
 ·refine j9 rfl (v8 (δ':=[.sh (.int z)]) (by rw[Z8 (by show some (decide (z<0))=_;rw[decide_eq_false h])];rfl) (o4 (d7 ?_)))
  rw[p6 (x:=.int 2) (y:=.int z) rfl rfl,Gw.zm0 _ _ (by decide)];have:((fold z:Nat):Int)=2*z:=by unfold fold;rw[if_neg h];omega
  rw[this]
theorem Zs0{v:D}(h:Vb v):zd0 [v]=some (.int (vn v:Int)):=by
 cases h with
 | non=>rfl
 | lk j h =>
  refine j9 rfl (v8 (δ':=[.sh (.tup [.str "at",.int (j:Int)])]) rfl (o4 ?_));rw[T3 rfl];refine o4 (d7 ?_);rw[p6 (x:=.int (2*(j:Int))) (y:=.int 2) (by rw[p6 (x:=.int 2) (y:=.int (j:Int)) rfl rfl];exact Gw.zm0 _ _ (by decide)) rfl];have:((vn (.tup [.str "at",.int (j:Int)]):Nat):Int)=2*(j:Int)+2:=by show (((2*(j:Int)+2).toNat:Nat):Int)=_;omega
  rw[this];rfl
 | int z h =>
  refine j9 rfl (v8 (δ':=[.sh (.int z)]) rfl (v8 (δ':=[.sh (.int z)]) rfl (o4 (d7 ?_))));rw[p6 (x:=.int (2*(fold z:Int))) (y:=.int 1) (by rw[p6 (x:=.int 2) (y:=.int (fold z:Int)) rfl (by rw[p7 (ds:=[.int z]) rfl];exact ew0 z)];exact Gw.zm0 _ _ (by decide)) rfl];have:((vn (.int z):Nat):Int)=2*(fold z:Int)+1:=by show (((2*fold z+1):Nat):Int)=_;omega
  rw[this];rfl
theorem Ug0:bs 0=[0]:=by unfold bs;rw[show 0/128=0 from rfl,q20];rfl
theorem oi0{v:D}(h:Vb v):V6 [v]=some (.lst ((bs (vn v)).map .int)):=by
 have J:=ql0 h;cases h with
 | non =>
  show _=some (D.lst ((bs 0).map .int));rw[Ug0];rfl
 | lk j h =>
  refine W4 rfl (v8 (δ':=[.sh (.tup [.str "at",.int (j:Int)])]) rfl (Y8 ?_));rw[T3 rfl];refine Y8 (R4 ?_);rw[p7 (ds:=[.int ((vn (.tup [.str "at",.int (j:Int)]):Nat):Int)]) (cons_of ?_ rfl)]
  ·exact xm0 _ J
  ·rw[p6 (x:=.int (2*(j:Int))) (y:=.int 2) (by rw[p6 (x:=.int 2) (y:=.int (j:Int)) rfl rfl];exact Gw.zm0 _ _ (by decide)) rfl]
   have:((vn (.tup [.str "at",.int (j:Int)]):Nat):Int)=2*(j:Int)+2:=by show (((2*(j:Int)+2).toNat:Nat):Int)=_;omega
   rw[this];rfl
 | int z h =>
  by_cases hz:z<0
  ·refine W4 rfl (v8 (δ':=[.sh (.int z)]) rfl (v8 (δ':=[.sh (.int z)]) rfl (Y8 ?_)))
   rw[T3 (by show some (decide (z<0))=_;rw[decide_eq_true hz])];refine Y8 (R4 ?_);rw[p7 (ds:=[.int ((vn (.int z):Nat):Int)]) (cons_of ?_ rfl)]
   ·exact xm0 _ J
   ·rw[p6 (x:=.int (2*(0 - 2*z - 1))) (y:=.int 1) (by
     rw[p6 (x:=.int 2) (y:=.int (0 - 2*z - 1)) rfl (by
      rw[p6 (x:=.int (0 - 2*z)) (y:=.int 1) (by
       rw[p6 (x:=.int 0) (y:=.int (2*z)) rfl (by rw[p6 (x:=.int 2) (y:=.int z) rfl rfl];exact Gw.zm0 _ _ (by decide))];rfl) rfl]
      rfl)]
     exact Gw.zm0 _ _ (by decide)) rfl]
    have:((vn (.int z):Nat):Int)=2*(0 - 2*z - 1)+1:=by
     show (((2*fold z+1):Nat):Int)=_;unfold fold;rw[if_pos hz];omega
    rw[this];rfl
  ·refine W4 rfl (v8 (δ':=[.sh (.int z)]) rfl (v8 (δ':=[.sh (.int z)]) rfl (v8 (δ':=[.sh (.int z)]) (by rw[Z8 (by show some (decide (z<0))=_;rw[decide_eq_false hz])];rfl) (Y8 (R4 ?_)))))
   rw[p7 (ds:=[.int ((vn (.int z):Nat):Int)]) (cons_of ?_ rfl)]
   ·exact xm0 _ J
   ·rw[p6 (x:=.int (4*z)) (y:=.int 1) (by rw[p6 (x:=.int 4) (y:=.int z) rfl rfl];exact Gw.zm0 _ _ (by decide)) rfl]
    have:((vn (.int z):Nat):Int)=4*z+1:=by
     show (((2*fold z+1):Nat):Int)=_;unfold fold;rw[if_neg hz];omega
    rw[this];rfl
def sg(s:Str):List Int:=s.cps.toList.map λ(c:Nat)=>(c:Int)
theorem yl0(s:Str):(sg s).length=s.length:=by unfold sg;rw[List.length_map];rfl
theorem kw0(s:Str):T8 (gN 0) noT (oA (z7 (gv 0) v6) th0) [.un] (signs s)=some ((sg s).map .int):=by
 unfold signs;rw[xd0 (λd=>match d with|.str x=>.int ((x.cps.toList.headD 0:Nat):Int)|_=>.non) (λd hd=>by
  obtain⟨c,hc,rfl⟩:=B0.mp hd;exact⟨[.sh (.str ⟨#[c]⟩)],rfl,rfl,rfl⟩)]
 unfold sg;rw[List.map_map,List.map_map];rfl
theorem bm0(s:Str)(h:s.length<=sizeLine):K8 [.str s]=some (.lst ((sg s).map .int)) :=
 W4 rfl (Y8 (R4 (U8 (items:=signs s) rfl (by unfold signs;rw[List.length_map];exact h) (kw0 s))))
theorem gg0(s:Str)(h:s.length<=sizeLine):M4 [.str s]=some (.lst ((sg s).map .int)) :=
 W4 rfl (Y8 (R4 (U8 (items:=signs s) rfl (by unfold signs;rw[List.length_map];exact h) (kw0 s))))
theorem add_l(a b:List Int)(h:a.length+b.length<=sizeLine):o9 (.lst (a.map .int)) (.lst (b.map .int))=some (.lst ((a++b).map .int)):=by
 simp only[o9];rw[if_pos (by rw[List.length_map,List.length_map];exact h),List.map_append]
theorem U10(a b:List Int)(h:a.length+b.length<=sizeLine):l80 (.lst (a.map .int)) (.lst (b.map .int))=some (.lst ((a++b).map .int)):=by
 simp only[l80];rw[if_pos (by rw[List.length_map,List.length_map];exact h),List.map_append]
theorem pg0{g:GE}{e:List Int}(h1:owL i δ=some (l.map .int))(h2:g δ=some (.lst (e.map .int)))(h3:l.length+e.length<=sizeLine):Z0 (O7 i g) δ=some (.nx (δ.set i (.ow (.lst ((l++e).map .int))))):=by
 unfold Z0 O7;rw[h1,h2];simp only[Option.bind_some];rw[if_pos (by rw[List.length_map,List.length_map];exact h3),List.map_append];rfl
theorem Wy0{g:GE}{l e:List D}(h1:owL i δ=some l)(h2:g δ=some (.lst e))(h3:l.length+e.length<=sizeLine):Z0 (O7 i g) δ=some (.nx (δ.set i (.ow (.lst (l++e))))):=by
 unfold Z0 O7;rw[h1,h2];simp only[Option.bind_some];rw[if_pos h3];rfl
theorem yn0(f:α->List Int)(c:Nat):∀l:List α,(∀d∈l,(f d).length<=c)->(l.flatMap f).length<=l.length*c
 | [],_=>by simp
 | a::l,h=>by
  rw[List.flatMap_cons,List.length_append,List.length_cons,Nat.add_mul];have h1:=h a A9;have h2:=yn0 f c l λd hd=>h d (A7 _ hd)
  omega
theorem G8(f:α->List Int){l:List α}{d:α}(h:l[j]?=some d):(l.take j).flatMap f++f d=(l.take (j+1)).flatMap f:=by
 rw[List.take_succ,h,List.flatMap_append];simp
def ib:D->List Int
 | .str s=>bs s.length++sg s
 | v=>bs (vn v)
def Ib(d:D):Prop:=(∃s:Str,d=.str s/\s.length<=20)∨Vb d
theorem Vb.ib{d:D}(h:Vb d):ib d=bs (vn d):=by cases h<;>rfl
theorem small(h:n<=100000000):n<2 ^ 300:=L7 h (by decide +kernel)
theorem ye0{d:D}(h:Ib d):(ib d).length<=330:=by
 rcases h with⟨s,rfl,hs⟩|h
 ·show (bs s.length++sg s).length<=_
  have:=O4 s.length (small (by omega));rw[List.length_append,yl0];omega
 ·rw[h.ib]
  have:=O4 _ (ql0 h);omega
theorem v10{g:GE}{s:Str}(h:g δ=some (.str s))(hs:s.length<=sizeLine):oA (z7 g v6) Z2 δ=some (.int (s.length:Int)):=by
 rw[p7 (ds:=[.str s]) (cons_of h rfl)];simp only[Z2];rw[if_pos hs]
theorem fu0{v:D}(h:Vb v):isStr v=false:=by cases h<;>rfl
theorem V40{d:D}(h:Ib d):z80 [d]=some (.lst ((ib d).map .int)):=by
 have z:(1000:Nat)<=sizeLine:=by decide
 rcases h with⟨s,rfl,hs⟩|h
 ·refine j9 rfl (o4 ?_)
  rw[T3 rfl];refine o4 (d7 ?_);have hb:=O4 s.length (small (by omega));rw[p6 (x:=.lst ((bs s.length).map .int)) (y:=.lst ((sg s).map .int)) (by
   rw[p7 (ds:=[.int (s.length:Int)]) (cons_of (v10 rfl (by omega)) rfl)];exact qd0 _ (small (by omega))) (by
   rw[p7 (ds:=[.str s]) rfl];exact bm0 s (by omega)),add_l _ _ (by rw[yl0];omega)]
  rfl
 ·rw[h.ib]
  refine j9 rfl (v8 (δ':=[.sh d]) (by rw[Z8 (by show some (isStr d)=_;rw[fu0 h])];rfl) (o4 (d7 ?_)));rw[p7 (ds:=[.int (vn d:Int)]) (cons_of (by rw[p7 (ds:=[d]) rfl];exact Zs0 h) rfl)];exact qd0 _ (ql0 h)
def cnt:Pt->Nat
 | .text w=>w.length
 | .row vs=>vs.length
 | .table ps=>ps.length
 | .rcd _ ps=>ps.length
def kn:Pt->Nat
 | .text _=>0
 | .row _=>1
 | .table _=>2
 | .rcd _ _=>3
def two(p:Str×D):List D:=[.str p.1,p.2]
def its:Pt->List D
 | .text _=>[]
 | .row vs=>vs
 | .table ps=>ps.flatMap two
 | .rcd c ps=>.str c::ps.flatMap two
def tx:Pt->List Int
 | .text w=>sg w
 | _=>[]
def pb(p:Pt):List Int:=bs (4*cnt p+kn p)++tx p++(its p).flatMap ib
structure Gp(p:Pt):Prop where
 cnt:cnt p<=20
 len:(its p).length<=50
 it:∀d∈its p,Ib d
theorem ee0{p:Pt}(h:Gp p):(tx p).length<=20:=by
 cases p with
 | text w=>show (sg w).length<=20;rw[yl0];exact h.cnt
 | _=>exact B9 _
theorem qo0(p:Pt):kn p<=3:=by cases p<;>simp[kn]
theorem rt0{p:Pt}(h:Gp p):(bs (4*cnt p+kn p)).length<=301:=O4 _ (small (by have:=h.cnt;have:=qo0 p;omega))
theorem S5{p:Pt}(h:Gp p):(pb p).length<=20000:=by
 unfold pb;have h1:=ee0 h;have h2:=rt0 h;have h3:=yn0 ib 330 (its p) λd hd=>ye0 (h.it d hd)
 have h4:=h.len;rw[List.length_append,List.length_append];have:(its p).length*330<=50*330:=M1 _ h4;omega
theorem i30{p:Pt}(h:cnt p<=20)(δ:Ds):oA (z7 (o2 (gv 0) (unG xx0 (gc (.int 1))) ixD) v6) Z2 (.sh p.d::δ)=some (.int (cnt p:Int)):=by
 have z:(1000:Nat)<=sizeLine:=by decide
 cases p with
 | text w =>
  have h:w.length<=20:=h;exact v10 rfl (by omega)
 | row vs=>rfl
 | table ps =>
  show some (D.int (((ps.map pr).length:Nat):Int))=_;rw[List.length_map];rfl
 | rcd c ps =>
  show some (D.int (((ps.map pr).length:Nat):Int))=_;rw[List.length_map];rfl
theorem Uv0(p:Pt)(δ:Ds):oA (z7 (o2 (gv 0) (gc (.int 0)) ixD) v6) (g50 ["text", "row", "table", "record"]) (.sh p.d::δ)=some (.int (kn p:Int)):=by
 cases p<;>kernel_rfl
theorem T80(p:Pt)(δ:Ds):mh0 (W5 (z7 (gc (.str "text")) (z7 (gc (.str "row")) (z7 (gc (.str "table")) (z7 (gc (.str "record")) v6))))) (z7 (o2 (gv 0) (gc (.int 0)) ixD) v6) ix0 (.sh p.d::δ)=some (.int (kn p:Int)):=by
 cases p<;>kernel_rfl
theorem b30(a b:Nat):4*(a:Int)+(b:Int)=((4*a+b:Nat):Int):=by omega
theorem Vd0{p:Pt}(h:cnt p<=20):zr0 [p.d]=some (.int ((4*cnt p+kn p:Nat):Int)):=by
 refine j9 rfl (o4 (d7 ?_))
 change o2 _ _ _ [.sh p.d]=_
 rw[p6 (x:=.int (4*(cnt p:Int))) (y:=.int (kn p:Int)) (by
  rw[p6 (x:=.int 4) (y:=.int (cnt p:Int)) rfl (i30 h _)];exact Gw.zm0 _ _ (by decide)) (Uv0 p _),← b30]
 rfl
theorem Vj0{p:Pt}(h:cnt p<=20):yk0 [p.d]=some (.lst ((tx p).map .int)):=by
 have z:(1000:Nat)<=sizeLine:=by decide
 cases p with
 | text w =>
  have h:w.length<=20:=h;refine W4 rfl (Y8 ?_);rw[T3 (by kernel_rfl)];refine Y8 (R4 ?_);rw[p7 (ds:=[.str w]) rfl];exact bm0 w (by omega)
 | row vs=>exact W4 rfl (v8 (δ':=[.sh (Pt.row vs).d]) (by rw[Z8 (by kernel_rfl)];rfl) (Y8 rfl))
 | table ps=>exact W4 rfl (v8 (δ':=[.sh (Pt.table ps).d]) (by rw[Z8 (by kernel_rfl)];rfl) (Y8 rfl))
 | rcd c ps=>exact W4 rfl (v8 (δ':=[.sh (Pt.rcd c ps).d]) (by rw[Z8 (by kernel_rfl)];rfl) (Y8 rfl))
def HB:GS:=(v9 (Z0 (O7 1 (oA (z7 (gv 2) v6) yb0)))
 u9)
theorem K9:∀ps:List (Str×D),(ps.flatMap two).length=2*ps.length
 | []=>rfl
 | p::ps=>by rw[List.flatMap_cons,List.length_append,K9 ps,List.length_cons];show 2+_=_;omega
theorem d00{ps:List (Str×D)}{p:Str×D}(h:ps[j]?=some p):(ps.take j).flatMap two++two p=(ps.take (j+1)).flatMap two:=by
 rw[List.take_succ,h,List.flatMap_append];simp
theorem op0(a:Sl)(pre:List D)(ps:List (Str×D))(hl:pre.length+2*ps.length<=sizeLine)(s:Sl):∃s',N7 (gN 2) HB (ps.map pr) [a,.ow (.lst pre),s]=some (.nx [a,.ow (.lst (pre++ps.flatMap two)),s']):=by
 obtain⟨δ',l1,l2⟩:=R6 (f:=gN 2) (G:=HB) (λi δ=>∃s,δ=[a,.ow (.lst (pre++(ps.take i).flatMap two)),s]) (ps.map pr) 0 [a,.ow (.lst pre),s] (by
  rintro j d δ hj ⟨s,rfl⟩;rw[List.getElem?_map] at hj;cases hp:ps[j]? with
  | none=>rw[hp] at hj;cases hj
  | some p =>
   rw[hp] at hj;cases hj;have J:=(C0.mp hp).1;rw[Nat.zero_add];refine⟨_,_,rfl,v8 (Wy0 (l:=pre++(ps.take j).flatMap two) (e:=two p) rfl rfl (by
    rw[List.length_append,K9,List.length_take];show _+2<=_;omega)) rfl,.sh (pr p),?_⟩
   rw[List.append_assoc,d00 hp];rfl) ⟨s,by simp⟩
 obtain⟨s',rfl⟩:=l2;refine⟨s',?_⟩;rw[l1,Nat.zero_add,List.length_map,List.take_length]
theorem Vb0{p:Pt}(h:Gp p):yd0 [p.d]=some (.lst (its p)):=by
 have z:(1000:Nat)<=sizeLine:=by decide
 have hc:=h.cnt;cases p with
 | text w=>kernel_rfl
 | row vs =>
  refine W4 rfl (v8 (δ':=[.sh (Pt.row vs).d,.un,.un]) (by rw[Z8 (by kernel_rfl)];rfl) (Y8 ?_));rw[T3 (by kernel_rfl)];rfl
 | table ps =>
  have hc:ps.length<=20:=hc;obtain⟨s',e⟩:=op0 (.sh (Pt.table ps).d) [] ps (by simp only[List.length_nil];omega) .un;refine W4 rfl (v8 (δ':=[.sh (Pt.table ps).d,.un,.un]) (by rw[Z8 (by kernel_rfl)];rfl) (v8 (δ':=[.sh (Pt.table ps).d,.un,.un]) (by rw[Z8 (by kernel_rfl)];rfl) (v8 (δ':=[.sh (Pt.table ps).d,.ow (.lst []),.un]) rfl (v8 (δ':=[.sh (Pt.table ps).d,.ow (.lst []),.un]) (by rw[Z8 (by kernel_rfl)];rfl) (v8 (O6 (items:=ps.map pr) rfl e) (Y8 rfl))))))
 | rcd c ps =>
  have hc:ps.length<=20:=hc;obtain⟨s',e⟩:=op0 (.sh (Pt.rcd c ps).d) [.str c] ps (by simp only[List.length_cons,List.length_nil];omega) .un;refine W4 rfl (v8 (δ':=[.sh (Pt.rcd c ps).d,.un,.un]) (by rw[Z8 (by kernel_rfl)];rfl) (v8 (δ':=[.sh (Pt.rcd c ps).d,.un,.un]) (by rw[Z8 (by kernel_rfl)];rfl) (v8 (δ':=[.sh (Pt.rcd c ps).d,.ow (.lst []),.un]) rfl (v8 (δ':=[.sh (Pt.rcd c ps).d,.ow (.lst [.str c]),.un]) (by rw[T3 (by kernel_rfl)];rfl) (v8 (O6 (items:=ps.map pr) rfl e) (Y8 rfl))))))
def PB2:GS:=(v9 (Z0 (O7 1 (oA (z7 (gv 2) v6) z80)))
 u9)
theorem iz0(a:Sl)(pre:List Int)(l:List D)(hi:∀d∈l,Ib d)(hl:pre.length+l.length*330<=sizeLine)(s:Sl):∃s',N7 (gN 2) PB2 l [a,.ow (.lst (pre.map .int)),s]=some (.nx [a,.ow (.lst ((pre++l.flatMap ib).map .int)),s']):=by
 obtain⟨δ',l1,l2⟩:=R6 (f:=gN 2) (G:=PB2) (λi δ=>∃s,δ=[a,.ow (.lst ((pre++(l.take i).flatMap ib).map .int)),s]) l 0 [a,.ow (.lst (pre.map .int)),s] (by
  rintro j d δ hj ⟨s,rfl⟩;have Y:=(C0.mp hj).1;have hd:=hi d (D1 hj);have O:=ye0 hd;have J:=yn0 ib 330 (l.take j) λd hd=>ye0 (hi d (K0 hd))
  rw[Nat.zero_add];refine⟨_,_,rfl,v8 (pg0 (l:=pre++(l.take j).flatMap ib) (e:=ib d) rfl (by rw[p7 (ds:=[d]) rfl];exact V40 hd) (by
   rw[List.length_append];rw[List.length_take] at J;have:(min j l.length)*330+330<=l.length*330:=by
    have:min j l.length=j:=by omega
    rw[this];omega
   omega)) rfl,.sh d,?_⟩
  rw[List.append_assoc,G8 ib hj];rfl) ⟨s,by simp⟩
 obtain⟨s',rfl⟩:=l2;refine⟨s',?_⟩;rw[l1,Nat.zero_add,List.take_length]
theorem Wz0{p:Pt}(h:Gp p):y60 [p.d]=some (.lst ((pb p).map .int)):=by
 have z:(1000000:Nat)<=sizeLine:=by decide
 have h1:=ee0 h;have h2:=rt0 h;have h3:=h.len;have hm:(its p).length*330<=50*330:=M1 _ h3;obtain⟨s',e⟩:=iz0 (.sh p.d) (bs (4*cnt p+kn p)++tx p) (its p) h.it (by rw[List.length_append];omega) .un;refine W4 rfl (v8 (δ':=[.sh p.d,.ow (.lst ((bs (4*cnt p+kn p)++tx p).map .int)),.un]) ?_ (v8 (O6 (items:=its p) ?_ e) (Y8 rfl)))
 ·unfold M5
  rw[p6 (x:=.lst ((bs (4*cnt p+kn p)).map .int)) (y:=.lst ((tx p).map .int)) (by
   rw[p7 (ds:=[.int ((4*cnt p+kn p:Nat):Int)]) (cons_of (by rw[p7 (ds:=[p.d]) rfl];exact Vd0 h.cnt) rfl)];exact qd0 _ (small (by have:=h.cnt;have:=qo0 p;omega))) (by rw[p7 (ds:=[p.d]) rfl];exact Vj0 h.cnt),U10 _ _ (by omega)]
  rfl
 ·show Option.bind _ _=_
  rw[p7 (ds:=[p.d]) rfl,Vb0 h];rfl
def RB:GS:=(v9 (j6 (gN 2) (o2 (gv 2) (oA (z7 (gv 3) v6) V6) o9))
 u9)
def TB:GS:=(v9 (j6 (gN 2) (o2 (o2 (gv 2) (oA (z7 (oA (z7 (gv 4) v6) Z2) v6) Z3) o9) (oA (z7 (gv 4) v6) M4) o9))
 (v9 (j6 (gN 2) (o2 (gv 2) (oA (z7 (gv 3) v6) V6) o9))
 u9))
theorem c30(a b e:Sl)(pre:List Int)(l:List D)(hi:∀d∈l,Vb d)(hl:pre.length+l.length*330<=sizeLine)(s:Sl):∃s',N7 (gN 3) RB l [a,b,.sh (.lst (pre.map .int)),s,e]=some (.nx [a,b,.sh (.lst ((pre++l.flatMap ib).map .int)),s',e]):=by
 obtain⟨δ',l1,l2⟩:=R6 (f:=gN 3) (G:=RB) (λi δ=>∃s,δ=[a,b,.sh (.lst ((pre++(l.take i).flatMap ib).map .int)),s,e]) l 0 [a,b,.sh (.lst (pre.map .int)),s,e] (by
  rintro j d δ hj ⟨s,rfl⟩;have Y:=(C0.mp hj).1;have hd:=hi d (D1 hj);have O:=ye0 (.inr hd);have J:=yn0 ib 330 (l.take j) λd hd=>ye0 (.inr (hi d (K0 hd)))
  rw[Nat.zero_add];refine⟨_,_,rfl,v8 (m9 (d:=.lst ((pre++(l.take j).flatMap ib++ib d).map .int)) ?_) rfl,.sh d,?_⟩
  ·rw[p6 (x:=.lst ((pre++(l.take j).flatMap ib).map .int)) (y:=.lst ((ib d).map .int)) rfl (by rw[p7 (ds:=[d]) rfl,hd.ib];exact oi0 hd)]
   exact add_l _ _ (by
    rw[List.length_append];rw[List.length_take] at J;have:(min j l.length)*330+330<=l.length*330:=by
     have:min j l.length=j:=by omega
     rw[this];omega
    omega)
  ·rw[List.append_assoc,G8 ib hj]
   rfl) ⟨s,by simp⟩
 obtain⟨s',rfl⟩:=l2;refine⟨s',?_⟩;rw[l1,Nat.zero_add,List.take_length]
def pbs(p:Str×D):List Int:=ib (.str p.1)++ib p.2
theorem mq0:∀ps:List (Str×D),ps.flatMap pbs=(ps.flatMap two).flatMap ib
 | []=>rfl
 | p::ps=>by
  rw[List.flatMap_cons,List.flatMap_cons,List.flatMap_append,mq0 ps];unfold two pbs;simp
theorem pa0(a b:Sl)(pre:List Int)(l:List (Str×D))(hi:∀d∈l,d.1.length<=20/\Vb d.2)(hl:pre.length+l.length*660<=sizeLine)(s e:Sl) :
  ∃s' e',N7 (rq0 4 3) TB (l.map pr) [a,b,.sh (.lst (pre.map .int)),s,e]=some (.nx [a,b,.sh (.lst ((pre++l.flatMap pbs).map .int)),s',e']):=by
 have z:(1000:Nat)<=sizeLine:=by decide
 obtain⟨δ',l1,l2⟩:=R6 (f:=rq0 4 3) (G:=TB) (λi δ=>∃s e,δ=[a,b,.sh (.lst ((pre++(l.take i).flatMap pbs).map .int)),s,e]) (l.map pr) 0 [a,b,.sh (.lst (pre.map .int)),s,e] (by
  rintro j d δ hj ⟨s,e,rfl⟩;rw[List.getElem?_map] at hj;cases hp:l[j]? with
  | none=>rw[hp] at hj;cases hj
  | some p =>
   rw[hp] at hj;cases hj;have Z:=(C0.mp hp).1;obtain⟨hn,hv⟩:=hi p (D1 hp);have h1:(ib (.str p.1)).length<=330:=ye0 (.inl ⟨_,rfl,hn⟩);have h2:(ib p.2).length<=330:=ye0 (.inr hv);have O:=yn0 pbs 660 (l.take j) λd hd=>by
    obtain⟨q1,q2⟩:=hi d (K0 hd);have a1:=ye0 (.inl ⟨_,rfl,q1⟩:Ib (.str d.1));have a2:=ye0 (.inr q2);unfold pbs;rw[List.length_append];omega
   rw[Nat.zero_add];have Y:pre.length+((l.take j).flatMap pbs).length+660<=sizeLine:=by
    rw[List.length_take] at O;have:(min j l.length)*660+660<=l.length*660:=by
     have:min j l.length=j:=by omega
     rw[this];omega
    omega
   have J:ib (.str p.1)=bs p.1.length++sg p.1:=rfl;rw[J,List.length_append] at h1;refine⟨[a,b,.sh (.lst ((pre++(l.take j).flatMap pbs).map .int)),.sh p.2,.sh (.str p.1)],_,rfl,v8 (m9 (d:=.lst ((pre++(l.take j).flatMap pbs++bs p.1.length++sg p.1).map .int)) ?_) (v8 (m9 (d:=.lst ((pre++(l.take j).flatMap pbs++bs p.1.length++sg p.1++ib p.2).map .int)) ?_) rfl),.sh p.2,.sh (.str p.1),?_⟩
   ·rw[p6 (x:=.lst ((pre++(l.take j).flatMap pbs++bs p.1.length).map .int)) (y:=.lst ((sg p.1).map .int)) (by
     rw[p6 (x:=.lst ((pre++(l.take j).flatMap pbs).map .int)) (y:=.lst ((bs p.1.length).map .int)) rfl (by
      rw[p7 (ds:=[.int (p.1.length:Int)]) (cons_of (v10 rfl (by omega)) rfl)];exact xm0 _ (small (by omega)))]
     exact add_l _ _ (by rw[List.length_append];omega)) (by rw[p7 (ds:=[.str p.1]) rfl];exact gg0 _ (by omega))]
    exact add_l _ _ (by rw[List.length_append,List.length_append];omega)
   ·change o2 _ _ _ [a,b,.sh (.lst ((pre++(l.take j).flatMap pbs++bs p.1.length++sg p.1).map .int)),.sh p.2,.sh (.str p.1)]=_
    rw[p6 (x:=.lst ((pre++(l.take j).flatMap pbs++bs p.1.length++sg p.1).map .int)) (y:=.lst ((ib p.2).map .int)) rfl (by rw[p7 (ds:=[p.2]) rfl,hv.ib];exact oi0 hv)];exact add_l _ _ (by rw[List.length_append,List.length_append,List.length_append];omega)
   ·have e1:pre++(l.take j).flatMap pbs++bs p.1.length++sg p.1++ib p.2=pre++(l.take (j+1)).flatMap pbs:=by
     rw[← G8 pbs hp];unfold pbs;rw[J];simp only[List.append_assoc]
    rw[e1];rfl) ⟨s,e,by simp⟩
 obtain⟨s',e',rfl⟩:=l2;refine⟨s',e',?_⟩;rw[l1,Nat.zero_add,List.length_map,List.take_length]
structure Gq(p:Pt):Prop where
 cnt:cnt p<=20
 vals:∀v∈p.vals,Vb v
 names:∀s∈p.all,s.length<=20
 few:p.vals.length<=12
theorem s90{ps:List (Str×D)}(h1:∀v∈ps.map (·.2),Vb v)(h2:∀s∈ps.map (·.1),s.length<=20):∀d∈ps,d.1.length<=20/\Vb d.2:=λd hd=>⟨h2 _ (B0.mpr ⟨d,hd,rfl⟩),h1 _ (B0.mpr ⟨d,hd,rfl⟩)⟩
theorem e30{ps:List (Str×D)}(h:∀d∈ps,d.1.length<=20/\Vb d.2):∀d∈ps.flatMap two,Ib d:=λd hd=>by
 obtain⟨p,hp,hm⟩:=By0.mp hd;obtain⟨q1,q2⟩:=h p hp;unfold two at hm;rcases B4.mp hm with rfl|hm
 ·exact .inl ⟨_,rfl,q1⟩
 ·rw[List.mem_singleton.mp hm];exact .inr q2
theorem Gq.gp{p:Pt}(h:Gq p):Gp p:=by
 obtain⟨h1,h2,h3⟩:=h;cases p with
 | text w=>exact⟨h1,B9 _,λd hd=>by cases hd⟩
 | row vs=>exact⟨h1,by have:vs.length<=20:=h1;show vs.length<=50;omega,λd hd=>.inr (h2 d hd)⟩
 | table ps =>
  have hp:=s90 h2 λs hs=>h3 s (D6 _ hs)
  exact⟨h1,by have:ps.length<=20:=h1;show (ps.flatMap two).length<=50;rw[K9];omega,e30 hp⟩
 | rcd c ps =>
  have hp:=s90 h2 λs hs=>h3 s (D6 _ hs)
  refine⟨h1,by have:ps.length<=20:=h1;show (D.str c::ps.flatMap two).length<=50;rw[List.length_cons,K9];omega,λd hd=>?_⟩;rcases B4.mp hd with rfl|hd
  ·exact .inl ⟨_,rfl,h3 c (C6 _ (D4.mpr rfl))⟩
  ·exact e30 hp d hd
theorem Xx0{p:Pt}(h:Gq p):K7 [p.d]=some (.lst ((pb p).map .int)):=by
 have z:(1000000:Nat)<=sizeLine:=by decide
 have hg:=h.gp;have hh:=rt0 hg;have J:=h.cnt;have O:∀(s2 s3 s4:Sl),oA (z7 (o2 (o2 (gc (.int 4)) (oA (z7 (o2 (gv 0) (unG xx0 (gc (.int 1))) ixD) v6) Z2) U3) (gv 1) o9) v6) Z3 [.sh p.d,.sh (.int (kn p:Int)),s2,s3,s4]=some (.lst ((bs (4*cnt p+kn p)).map .int)):=λs2 s3 s4=>by
  rw[p7 (ds:=[.int ((4*cnt p+kn p:Nat):Int)]) (cons_of (by
   rw[p6 (x:=.int (4*(cnt p:Int))) (y:=.int (kn p:Int)) (by
    rw[p6 (x:=.int 4) (y:=.int (cnt p:Int)) rfl (i30 J _)];exact Gw.zm0 _ _ (by decide)) rfl,← b30]
   rfl) rfl)]
  exact xm0 _ (small (by have:=qo0 p;omega))
 refine j9 rfl (v8 (m9 (d:=.int (kn p:Int)) (T80 p _)) (v8 (m9 (d:=.lst ((bs (4*cnt p+kn p)).map .int)) (O _ _ _)) ?_));cases p with
 | text w =>
  have hw:w.length<=20:=J;refine o4 ?_;rw[T3 (by kernel_rfl)];refine o4 (d7 ?_);rw[p6 (x:=.lst ((bs (4*cnt (.text w)+kn (.text w))).map .int)) (y:=.lst ((sg w).map .int)) rfl (by rw[p7 (ds:=[.str w]) rfl];exact gg0 w (by omega))];rw[add_l _ _ (by rw[yl0];omega)];unfold pb;show _=some (D.lst ((bs (4*cnt (.text w)+kn (.text w))++sg w++[]).map .int));rw[List.append_nil]
 | row vs =>
  have hv:vs.length<=20:=J;obtain⟨s',e⟩:=c30 (.sh (Pt.row vs).d) (.sh (.int 1)) .un (bs (4*cnt (.row vs)+kn (.row vs))) vs h.vals (by omega) .un;refine v8 (δ':=[.sh (Pt.row vs).d,.sh (.int 1),.sh (.lst ((bs (4*cnt (.row vs)+kn (.row vs))).map .int)),.un,.un]) (by rw[Z8 (by kernel_rfl)];rfl) (o4 ?_);rw[T3 (by kernel_rfl)];refine v8 (O6 (items:=vs) rfl e) (o4 (d7 ?_));unfold pb;show some (D.lst _)=some (D.lst ((bs (4*cnt (.row vs)+kn (.row vs))++[]++vs.flatMap ib).map .int));rw[List.append_nil]
 | table ps =>
  have hv:ps.length<=20:=J;obtain⟨s',e',e⟩:=pa0 (.sh (Pt.table ps).d) (.sh (.int 2)) (bs (4*cnt (.table ps)+kn (.table ps))) ps (s90 h.vals λs hs=>h.names s (D6 _ hs)) (by omega) .un .un;refine v8 (δ':=[.sh (Pt.table ps).d,.sh (.int 2),.sh (.lst ((bs (4*cnt (.table ps)+kn (.table ps))).map .int)),.un,.un]) (by rw[Z8 (by kernel_rfl)];rfl) (v8 (δ':=[.sh (Pt.table ps).d,.sh (.int 2),.sh (.lst ((bs (4*cnt (.table ps)+kn (.table ps))).map .int)),.un,.un]) (by rw[Z8 (by kernel_rfl)];rfl) (v8 (δ':=[.sh (Pt.table ps).d,.sh (.int 2),.sh (.lst ((bs (4*cnt (.table ps)+kn (.table ps))).map .int)),.un,.un]) (by rw[Z8 (by kernel_rfl)];rfl) (v8 (O6 (items:=ps.map pr) rfl e) (o4 (d7 ?_)))));unfold pb;show some (D.lst _)=some (D.lst ((bs (4*cnt (.table ps)+kn (.table ps))++[]++(ps.flatMap two).flatMap ib).map .int));rw[List.append_nil,mq0]
 | rcd c ps =>
  have hv:ps.length<=20:=J;have Y:c.length<=20:=h.names c (C6 _ (D4.mpr rfl));have Z:=O4 c.length (small (by omega));obtain⟨s',e',e⟩:=pa0 (.sh (Pt.rcd c ps).d) (.sh (.int 3)) (bs (4*cnt (.rcd c ps)+kn (.rcd c ps))++bs c.length++sg c) ps (s90 h.vals λs hs=>h.names s (D6 _ hs)) (by rw[List.length_append,List.length_append,yl0];omega) .un .un;refine v8 (δ':=[.sh (Pt.rcd c ps).d,.sh (.int 3),.sh (.lst ((bs (4*cnt (.rcd c ps)+kn (.rcd c ps))).map .int)),.un,.un]) (by rw[Z8 (by kernel_rfl)];rfl) (v8 (δ':=[.sh (Pt.rcd c ps).d,.sh (.int 3),.sh (.lst ((bs (4*cnt (.rcd c ps)+kn (.rcd c ps))).map .int)),.un,.un]) (by rw[Z8 (by kernel_rfl)];rfl) (v8 (δ':=[.sh (Pt.rcd c ps).d,.sh (.int 3),.sh (.lst ((bs (4*cnt (.rcd c ps)+kn (.rcd c ps))++bs c.length++sg c).map .int)),.un,.un]) ?_ (v8 (O6 (items:=ps.map pr) rfl e) (o4 (d7 ?_)))))
  ·rw[T3 (by kernel_rfl)]
   refine v8 (m9 (d:=.lst ((bs (4*cnt (.rcd c ps)+kn (.rcd c ps))++bs c.length++sg c).map .int)) ?_) rfl;rw[p6 (x:=.lst ((bs (4*cnt (.rcd c ps)+kn (.rcd c ps))++bs c.length).map .int)) (y:=.lst ((sg c).map .int)) (by
    rw[p6 (x:=.lst ((bs (4*cnt (.rcd c ps)+kn (.rcd c ps))).map .int)) (y:=.lst ((bs c.length).map .int)) rfl (by
     rw[p7 (ds:=[.int (c.length:Int)]) (cons_of (v10 rfl (by omega)) rfl)];exact xm0 _ (small (by omega)))]
    exact add_l _ _ (by omega)) (by rw[p7 (ds:=[.str c]) rfl];exact gg0 c (by omega))]
   exact add_l _ _ (by rw[List.length_append,yl0];omega)
  ·unfold pb
   show some (D.lst _)=some (D.lst ((bs (4*cnt (.rcd c ps)+kn (.rcd c ps))++[]++(D.str c::ps.flatMap two).flatMap ib).map .int));rw[List.append_nil,List.flatMap_cons,mq0];show some (D.lst ((bs _++bs c.length++sg c++_).map .int))=some (D.lst ((bs _++((bs c.length++sg c)++_)).map .int));simp only[List.append_assoc]
def web(ps:List Pt):D:=.tup (ps.map Pt.d)
def body(p:Pt):D:=.lst ((pb p).map .int)
def ix(ps:List Pt):List Int:=bs ps.length++ps.flatMap λp=>bs (pb p).length
def bun(ps:List Pt):List Int:=ix ps++ps.flatMap pb
structure Gw'(ps:List Pt):Prop where
 len:ps.length<=60
 it:∀p∈ps,Gq p
theorem ya0(h:Gw' ps):(ix ps).length<=20000:=by
 unfold ix;have h1:=O4 ps.length (small (by have:=h.len;omega));have h2:=yn0 (λp=>bs (pb p).length) 301 ps λp hp=>O4 _ (small (by have:=S5 (h.it p hp).gp;omega))
 have h3:=h.len;rw[List.length_append];have:ps.length*301<=60*301:=M1 _ h3;omega
theorem we0(h:Gw' ps)(j:Nat):((ps.take j).flatMap pb).length<=1200000:=by
 have h2:=yn0 pb 20000 (ps.take j) λp hp=>S5 (h.it p (K0 hp)).gp
 have h3:=h.len;rw[List.length_take] at h2;have:min j ps.length*20000<=60*20000:=M1 _ (by omega);omega
theorem zg0(h:Gw' ps):(bun ps).length<=1300000:=by
 unfold bun;have h1:=ya0 h;have h2:=we0 h ps.length;rw[List.take_length] at h2;rw[List.length_append];omega
theorem nj0{m:List D->Option D}(h:∀p∈ps,m [p.d]=some (body p))(hl:ps.length<=60)(δ:Ds):X8 1 [] (tupI (gv 0)) (gN 0) noT (oA (z7 (gv 0) v6) m) (.sh (web ps)::δ)=some (.lst (ps.map body)):=by
 have z:(1000:Nat)<=sizeLine:=by decide
 refine U8 (items:=ps.map Pt.d) rfl (by rw[List.length_map];omega) ?_;have J:∀l:List Pt,(∀p∈l,m [p.d]=some (body p))->T8 (gN 0) noT (oA (z7 (gv 0) v6) m) [.un] (l.map Pt.d)=some (l.map body):=by
  intro l
  induction l with
  | nil=>intro _;rfl
  | cons p l ih =>
   intro h;rw[List.map_cons];unfold T8;show (match oA (z7 (gv 0) v6) m [.sh p.d] with|none=>none|some y=>(T8 (gN 0) noT (oA (z7 (gv 0) v6) m) [.un] (l.map Pt.d)).map λr=>y::r)=_;rw[p7 (ds:=[p.d]) rfl,h p A9];simp only[];rw[ih λp hp=>h p (A7 _ hp)];rfl
 exact J ps h
theorem lz0(p:Pt){g:GE}(h:g δ=some (body p)):oA (z7 g v6) Z2 δ=some (.int ((pb p).length:Int)):=by
 rw[vx0 (ds:=(pb p).map .int) h,List.length_map]
theorem uj0{d:D}(h:(ps.map body)[j]?=some d):∃p,ps[j]?=some p/\d=body p:=by
 rw[List.getElem?_map] at h;cases hp:ps[j]? with
 | none=>rw[hp] at h;cases h
 | some p=>rw[hp] at h;cases h;exact⟨p,rfl,rfl⟩
def B1:GS:=(v9 (Z0 (O7 2 (oA (z7 (oA (z7 (gv 3) v6) Z2) v6) X5)))
 u9)
def B2:GS:=(v9 (Z0 (O7 2 (gv 3)))
 u9)
theorem Yr0(h:Gw' ps):J6 [web ps]=some (.lst ((bun ps).map .int)):=by
 have z:(10000000:Nat)<=sizeLine:=by decide
 have hl:=h.len;have h1:=O4 ps.length (small (by omega));have hx:=ya0 h;obtain⟨δ',l1,l2⟩:=R6 (f:=gN 3) (G:=B1) (λi δ=>∃s,δ=[.sh (web ps),.sh (.lst (ps.map body)),.ow (.lst ((bs ps.length++(ps.take i).flatMap λp=>bs (pb p).length).map .int)),s]) (ps.map body) 0 [.sh (web ps),.sh (.lst (ps.map body)),.ow (.lst ((bs ps.length).map .int)),.un] (by
  rintro j d δ hj ⟨s,rfl⟩;obtain⟨p,hp,rfl⟩:=uj0 hj;have O:=(C0.mp hp).1;have J:=S5 (h.it p (D1 hp)).gp;have hb:=O4 (pb p).length (small (by omega));have h2:=yn0 (λp=>bs (pb p).length) 301 (ps.take j) λp hp=>O4 _ (small (by have:=S5 (h.it p (K0 hp)).gp;omega))
  rw[Nat.zero_add];refine⟨_,_,rfl,v8 (pg0 (l:=bs ps.length++(ps.take j).flatMap λp=>bs (pb p).length) (e:=bs (pb p).length) rfl (by
   rw[p7 (ds:=[.int ((pb p).length:Int)]) (cons_of (lz0 p rfl) rfl)];exact qd0 _ (small (by omega))) (by
   rw[List.length_append];rw[List.length_take] at h2;have:min j ps.length*301<=60*301:=M1 _ (by omega);omega)) rfl,.sh (body p),?_⟩
  rw[List.append_assoc,G8 (λp=>bs (pb p).length) hp];rfl) ⟨.un,by simp⟩
 obtain⟨s1,rfl⟩:=l2;obtain⟨δ',l3,l4⟩:=R6 (f:=gN 3) (G:=B2) (λi δ=>∃s,δ=[.sh (web ps),.sh (.lst (ps.map body)),.ow (.lst ((ix ps++(ps.take i).flatMap pb).map .int)),s]) (ps.map body) 0 [.sh (web ps),.sh (.lst (ps.map body)),.ow (.lst ((ix ps).map .int)),s1] (by
  rintro j d δ hj ⟨s,rfl⟩;obtain⟨p,hp,rfl⟩:=uj0 hj;have J:=S5 (h.it p (D1 hp)).gp;have h2:=we0 h j;rw[Nat.zero_add];refine⟨_,_,rfl,v8 (pg0 (l:=ix ps++(ps.take j).flatMap pb) (e:=pb p) rfl rfl (by rw[List.length_append];omega)) rfl,.sh (body p),?_⟩;rw[List.append_assoc,G8 pb hp];rfl) ⟨s1,by simp⟩
 obtain⟨s2,rfl⟩:=l4;rw[Nat.zero_add,List.length_map,List.take_length] at l1 l3;refine W4 rfl (v8 (m9 (d:=.lst (ps.map body)) (nj0 (λp hp=>Wz0 (h.it p hp).gp) hl _)) (v8 (δ':=[.sh (web ps),.sh (.lst (ps.map body)),.ow (.lst ((bs ps.length).map .int)),.un]) ?_ (v8 (O6 (items:=ps.map body) rfl l1) (v8 (O6 (items:=ps.map body) rfl l3) (Y8 rfl)))));unfold M5;rw[p7 (ds:=[.int (ps.length:Int)]) (cons_of (by rw[vx0 (ds:=ps.map body) rfl,List.length_map]) rfl),qd0 _ (small (by omega))];rfl
def C1:GS:=(v9 (j6 (gN 2) (o2 (gv 2) (oA (z7 (oA (z7 (gv 3) v6) Z2) v6) Z3) o9))
 u9)
def C2:GS:=(v9 (Z0 (N6 4 (zt0 (oA (z7 (gv 5) v6) Z2))))
 (v9 (Z0 (O7 5 (gv 3)))
 u9))
def bg(ps:List Pt)(j:Nat):Nat:=(ix ps).length+((ps.take j).flatMap pb).length
def sts(ps:List Pt)(n:Nat):List D:=(List.range n).map λj=>.int ((bg ps j:Nat):Int)
theorem sn0(ps:List Pt)(j:Nat):sts ps (j+1)=sts ps j++[.int ((bg ps j:Nat):Int)]:=by
 unfold sts;rw[List.range_succ,List.map_append];rfl
theorem zy0(ps:List Pt)(j:Nat):(sts ps j).length=j:=by unfold sts;rw[List.length_map,List.length_range]
theorem k70(ps:List Pt):bg ps ps.length=(bun ps).length:=by unfold bg bun;rw[List.take_length,List.length_append]
theorem V80(h:Gw' ps):Q9 [web ps]=some (.tup [.lst ((bun ps).map .int),.int ((ix ps).length:Int),.lst (sts ps (ps.length+1))]):=by
 have z:(10000000:Nat)<=sizeLine:=by decide
 have hl:=h.len;have h1:=O4 ps.length (small (by omega));have hx:=ya0 h;have Y:=zg0 h;obtain⟨δ',l1,l2⟩:=R6 (f:=gN 3) (G:=C1) (λi δ=>∃s,δ=[.sh (web ps),.sh (.lst (ps.map body)),.sh (.lst ((bs ps.length++(ps.take i).flatMap λp=>bs (pb p).length).map .int)),s,.un,.un]) (ps.map body) 0 [.sh (web ps),.sh (.lst (ps.map body)),.sh (.lst ((bs ps.length).map .int)),.un,.un,.un] (by
  rintro j d δ hj ⟨s,rfl⟩;obtain⟨p,hp,rfl⟩:=uj0 hj;have J:=(C0.mp hp).1;have O:=S5 (h.it p (D1 hp)).gp;have hb:=O4 (pb p).length (small (by omega));have h2:=yn0 (λp=>bs (pb p).length) 301 (ps.take j) λp hp=>O4 _ (small (by have:=S5 (h.it p (K0 hp)).gp;omega))
  rw[Nat.zero_add];refine⟨_,_,rfl,v8 (m9 (d:=.lst ((bs ps.length++((ps.take j).flatMap λp=>bs (pb p).length)++bs (pb p).length).map .int)) ?_) rfl,.sh (body p),?_⟩
  ·rw[p6 (x:=.lst ((bs ps.length++(ps.take j).flatMap λp=>bs (pb p).length).map .int)) (y:=.lst ((bs (pb p).length).map .int)) rfl (by
    rw[p7 (ds:=[.int ((pb p).length:Int)]) (cons_of (lz0 p rfl) rfl)];exact xm0 _ (small (by omega)))]
   exact add_l _ _ (by
    rw[List.length_append];rw[List.length_take] at h2;have:min j ps.length*301<=60*301:=M1 _ (by omega);omega)
  ·rw[List.append_assoc,G8 (λp=>bs (pb p).length) hp]
   rfl) ⟨.un,by simp⟩
 obtain⟨s1,rfl⟩:=l2;rw[Nat.zero_add,List.length_map,List.take_length] at l1;obtain⟨δ',l3,l4⟩:=R6 (f:=gN 3) (G:=C2) (λi δ=>∃(s:Sl),δ=[.sh (web ps),.sh (.lst (ps.map body)),.sh (.lst ((ix ps).map .int)),s,.ow (.lst (sts ps i)),.ow (.lst ((ix ps++(ps.take i).flatMap pb).map .int))]) (ps.map body) 0 [.sh (web ps),.sh (.lst (ps.map body)),.sh (.lst ((ix ps).map .int)),s1,.ow (.lst []),.ow (.lst ((ix ps).map .int))] (by
  rintro j d δ hj ⟨s,rfl⟩;obtain⟨p,hp,rfl⟩:=uj0 hj;have J:=(C0.mp hp).1;have O:=S5 (h.it p (D1 hp)).gp;have h2:=we0 h j;rw[Nat.zero_add];refine⟨_,[.sh (web ps),.sh (.lst (ps.map body)),.sh (.lst ((ix ps).map .int)),.sh (body p),.ow (.lst (sts ps (j+1))),.ow (.lst ((ix ps++(ps.take j).flatMap pb++pb p).map .int))],rfl,?_,.sh (body p),?_⟩
  ·rw[sn0]
   refine v8 (Gw.xk0 (l:=sts ps j) (d:=.int ((bg ps j:Nat):Int)) rfl (by
    unfold zt0;rw[vx0 (ds:=(ix ps++(ps.take j).flatMap pb).map .int) rfl,List.length_map];unfold bg;rw[List.length_append];rfl) (by rw[zy0];omega)) ?_
   exact v8 (pg0 (l:=ix ps++(ps.take j).flatMap pb) (e:=pb p) rfl rfl (by rw[List.length_append];omega)) rfl
  ·rw[List.append_assoc (ix ps),G8 pb hp]) ⟨s1,by simp[sts]⟩
 obtain⟨s2,rfl⟩:=l4;rw[Nat.zero_add,List.length_map,List.take_length] at l3;refine j9 rfl (v8 (m9 (d:=.lst (ps.map body)) (nj0 (λp hp=>Xx0 (h.it p hp)) hl _)) (v8 (m9 (d:=.lst ((bs ps.length).map .int)) ?_) (v8 (O6 (items:=ps.map body) rfl l1) (v8 (δ':=[.sh (web ps),.sh (.lst (ps.map body)),.sh (.lst ((ix ps).map .int)),s1,.ow (.lst []),.un]) rfl (v8 (δ':=[.sh (web ps),.sh (.lst (ps.map body)),.sh (.lst ((ix ps).map .int)),s1,.ow (.lst []),.ow (.lst ((ix ps).map .int))]) rfl (v8 (O6 (items:=ps.map body) rfl l3) (o4 (d7 ?_))))))))
 ·rw[p7 (ds:=[.int (ps.length:Int)]) (cons_of (by
   rw[p7 (ds:=[web ps]) rfl];show some (D.int (((ps.map Pt.d).length:Nat):Int))=_;rw[List.length_map]) rfl)]
  exact xm0 _ (small (by omega))
 ·show R0 _ (frz _)=_
  have e3:o2 (gv 4) (W5 (z7 (oA (z7 (gv 5) v6) Z2) v6)) o9 [.sh (web ps),.sh (.lst (ps.map body)),.sh (.lst ((ix ps).map .int)),yc0 s2,.sh (.lst (sts ps ps.length)),.sh (.lst ((bun ps).map .int))]=some (.lst (sts ps ps.length++[.int (((bun ps).map D.int).length:Int)])):=by
   have e4:W5 (z7 (oA (z7 (gv 5) v6) Z2) v6) [.sh (web ps),.sh (.lst (ps.map body)),.sh (.lst ((ix ps).map .int)),yc0 s2,.sh (.lst (sts ps ps.length)),.sh (.lst ((bun ps).map .int))]=some (.lst [.int (((bun ps).map D.int).length:Int)]):=s50 rfl (by show 1<=sizeLine;omega);rw[p6 (x:=.lst (sts ps ps.length)) (y:=.lst [.int (((bun ps).map D.int).length:Int)]) rfl e4];simp only[o9];rw[if_pos (by rw[zy0];simp only[List.length_cons,List.length_nil];omega)]
  rw[sn0,k70];rw[List.length_map] at e3;refine Q5 (ds:=[.lst ((bun ps).map .int),.int ((ix ps).length:Int),.lst (sts ps ps.length++[.int ((bun ps).length:Int)])]) ?_ (by show 3<=sizeLine;omega);exact cons_of rfl (cons_of (by rw[vx0 (ds:=(ix ps).map .int) rfl,List.length_map]) (cons_of e3 rfl))
theorem xp0(ns:List Int)(hb:∀z∈ns,z.natAbs.log2<=1048576)(k:Int)(h0:0<=k)(h1:k<=1000):∃z,Y7 [.lst (ns.map .int),.int k]=some (.int z)/\z.natAbs.log2<=1048576:=by
 by_cases h:k<ns.length
 ·have J:k.toNat<ns.length:=by omega
  refine⟨ns[k.toNat],j9 rfl (o4 ?_),hb _ (D3 J)⟩;rw[T3 (by
   show some (decide (k<(((ns.map D.int).length:Nat):Int)))=_;rw[decide_eq_true (by rw[List.length_map];exact h)])]
  refine o4 (d7 ?_);show atI (ns.map D.int) k=_;rw[z40 h0 (by rw[List.length_map];exact h) .non];simp[List.getD_eq_getElem?_getD,J]
 ·refine⟨(k*7919+5)*(k+31),j9 rfl (v8 (δ':=[.sh (.lst (ns.map .int)),.sh (.int k)]) ?_ (o4 (d7 ?_))),?_⟩
  ·rw[Z8 (by
    show some (decide (k<(((ns.map D.int).length:Nat):Int)))=_;rw[decide_eq_false (by rw[List.length_map];exact h)])]
   rfl
  ·rw[p6 (x:=.int (k*7919+5)) (y:=.int (k+31)) (by
    rw[p6 (x:=.int (k*7919)) (y:=.int 5) (by rw[p6 (x:=.int k) (y:=.int 7919) rfl rfl];exact Gw.mul_r _ _ (by decide)) rfl];rfl) rfl]
   exact Gw.mul_r _ _ (by omega)
  ·have q1:(k*7919+5)*(k+31)<=8000000*2000:=Int.mul_le_mul (by omega) (by omega) (by omega) (by omega)
   have q2:0<=(k*7919+5)*(k+31):=Int.mul_nonneg (by omega) (by omega);generalize (k*7919+5)*(k+31)=w at q1 q2;rcases Bz0 w.natAbs with e|e
   ·rw[e];decide
   ·have:w.natAbs.log2<60:=(Nat.log2_lt (B6 e)).mpr (by omega)
    omega
theorem lg(c k:Int)(L:Nat)(h:c.natAbs.log2<=L)(hk:0<=k/\k<=1000):((c+1)*(k+3)).natAbs.log2<=L+13:=by
 have h1:c.natAbs<2 ^ (L+1):=A8 Nat.lt_log2_self (Nat.pow_le_pow_right (by decide) (by omega));have h2:(c+1).natAbs<=2 ^ (L+1):=by omega
 have h3:(k+3).natAbs<=2 ^ 10:=by
  have:(2:Nat) ^ 10=1024:=by decide
  omega
 have h4:((c+1)*(k+3)).natAbs<=2 ^ (L+11):=by
  rw[Int.natAbs_mul];have:=Nat.mul_le_mul h2 h3;rw[← Nat.pow_add] at this;exact this
 rcases Bz0 ((c+1)*(k+3)).natAbs with e|e
 ·rw[e,Nat.log2_zero];omega
 ·have h5:(2:Nat) ^ (L+11)<2 ^ (L+12):=Nat.pow_lt_pow_right (by decide) (by omega)
  have:=(Nat.log2_lt (B6 e)).mpr (L7 h4 h5);omega
theorem Us0:q10 (.int 982451653) (.int 7)=some (.int (982451653 ^ 7)):=by kernel_rfl
theorem Va0:q10 (.int 10) (.int 60)=some (.int (10 ^ 60)):=by kernel_rfl
theorem lg7:(982451653 ^ 7:Int).natAbs.log2<=2000:=by decide +kernel
def Lk(m:Nat)(v:D):Prop:=∀j:Nat,v=.tup [.str "at",.int (j:Int)]->j<m
theorem b20{m:Nat}(h:i<m):Lk m (.tup [.str "at",.int (i:Int)]):=λj e=>by
 injection e with e
 injection e with _ e
 injection e with e _
 injection e with e
 omega
theorem ca0(c k m:Int)(hc:c.natAbs.log2<=1048576)(hk:0<=k/\k<=100)(hm:0<m/\m<=1000):∃v,V7 [.int c,.int k,.int m]=some v/\Vb v/\Lk m.toNat v:=by
 have z:(1000:Nat)<=sizeLine:=by decide
 obtain⟨x,a0,a1,a2⟩:=R3 c k hk.1 (by omega);obtain⟨y,b0,b1,b2⟩:=R3 c (40+k) (by omega) (by omega);obtain⟨w,c0,c1,c2⟩:=R3 c (60+k) (by omega) (by omega);have s1:∀s:Sl,j6 (gN 3) (o2 (oA (z7 (gv 0) (z7 (gv 1) v6)) m5) (gc (.int 5)) Z6) [.sh (.int c),.sh (.int k),.sh (.int m),s]=some (.nx [.sh (.int c),.sh (.int k),.sh (.int m),.sh (.int (x%5))]):=λs=>by
  refine m9 (i:=3) (d:=.int (x%5)) ?_;rw[p6 (x:=.int x) (y:=.int 5) (by rw[p7 (ds:=[.int c,.int k]) rfl];exact a2) rfl];rfl
 by_cases h0:x%5=0
 ·refine⟨.non,j9 rfl (v8 (s1 _) (o4 ?_)),.non,λj h=>nomatch h⟩
  rw[T3 (by show some (decide (x%5=0))=_;rw[decide_eq_true h0])];rfl
 have n0:∀G:GS,ifD (ob (o2 (gv 3) (gc (.int 0)) eqD)) G u9 [.sh (.int c),.sh (.int k),.sh (.int m),.sh (.int (x%5))]=some (.nx [.sh (.int c),.sh (.int k),.sh (.int m),.sh (.int (x%5))]):=λG=>by
  rw[Z8 (by show some (decide (x%5=0))=_;rw[decide_eq_false h0])];rfl
 by_cases h3:x%5<3
 ·have j0:0<=y%m:=L8 _ (by omega)
  have j1:y%m<m:=L9 _ hm.1;refine⟨.tup [.str "at",.int (((y%m).toNat:Nat):Int)],j9 rfl (v8 (s1 _) (v8 (n0 _) (o4 ?_))),.lk _ (by omega),b20 (by omega)⟩;rw[T3 (by show some (decide (x%5<3))=_;rw[decide_eq_true h3])];refine o4 (d7 (Q5 (cons_of rfl (cons_of ?_ rfl)) (by show 2<=sizeLine;omega)));rw[p6 (x:=.int y) (y:=.int m) (by rw[p7 (ds:=[.int c,.int (40+k)]) rfl];exact b2) rfl,Gw.sp0 _ _ hm.1,Int.toNat_of_nonneg j0]
 have n3:∀G:GS,ifD (ob (o2 (gv 3) (gc (.int 3)) ltD)) G u9 [.sh (.int c),.sh (.int k),.sh (.int m),.sh (.int (x%5))]=some (.nx [.sh (.int c),.sh (.int k),.sh (.int m),.sh (.int (x%5))]):=λG=>by
  rw[Z8 (by show some (decide (x%5<3))=_;rw[decide_eq_false h3])];rfl
 by_cases h4:x%5=3
 ·refine⟨.int (w%260 - 130),j9 rfl (v8 (s1 _) (v8 (n0 _) (v8 (n3 _) (o4 ?_)))),.int _ (A8 (m:=1000) (by omega) (by decide)),λj h=>nomatch h⟩
  rw[T3 (by show some (decide (x%5=3))=_;rw[decide_eq_true h4])];refine o4 (d7 ?_);rw[p6 (x:=.int (w%260)) (y:=.int 130) (by
   rw[p6 (x:=.int w) (y:=.int 260) (by rw[p7 (ds:=[.int c,.int (60+k)]) rfl];exact c2) rfl];rfl) rfl]
  rfl
 have n4:∀G:GS,ifD (ob (o2 (gv 3) (gc (.int 3)) eqD)) G u9 [.sh (.int c),.sh (.int k),.sh (.int m),.sh (.int (x%5))]=some (.nx [.sh (.int c),.sh (.int k),.sh (.int m),.sh (.int (x%5))]):=λG=>by
  rw[Z8 (by show some (decide (x%5=3))=_;rw[decide_eq_false h4])];rfl
 obtain⟨u,hu⟩:∃u:Int,u=(c+1)*(k+3)*982451653 ^ 7%(2*10 ^ 60 - 1):=⟨_,rfl⟩;have u0:0<=u:=by rw[hu];exact L8 _ (by decide)
 have u1:u<2*10 ^ 60 - 1:=by rw[hu];exact L9 _ (by decide)
 refine⟨.int (u+1 - 10 ^ 60),j9 rfl (v8 (s1 _) (v8 (n0 _) (v8 (n3 _) (v8 (n4 _) (o4 (d7 ?_)))))),.int _ ?_,λj h=>nomatch h⟩
 ·have J:∀δ:Ds,o2 (gc (.int 10)) (gc (.int 60)) q10 δ=some (.int (10 ^ 60)):=fun δ=>by rw[p6 (x:=.int 10) (y:=.int 60) rfl rfl];exact Va0
  rw[p6 (x:=.int (u+1)) (y:=.int (10 ^ 60)) (by
   rw[p6 (x:=.int u) (y:=.int 1) (by
    rw[p6 (x:=.int ((c+1)*(k+3)*982451653 ^ 7)) (y:=.int (2*10 ^ 60 - 1)) (by
     rw[p6 (x:=.int ((c+1)*(k+3))) (y:=.int (982451653 ^ 7)) (by
      rw[p6 (x:=.int (c+1)) (y:=.int (k+3)) rfl rfl];exact Gw.mul_r _ _ (by omega)) (by rw[p6 (x:=.int 982451653) (y:=.int 7) rfl rfl];exact Us0)]
     have:=lg c k 1048576 hc (by omega);simp only[dl0,ii];rw[if_pos ⟨by omega,lg7⟩]) (by
     rw[p6 (x:=.int (2*10 ^ 60)) (y:=.int 1) (by rw[p6 (x:=.int 2) (y:=.int (10 ^ 60)) rfl (J _)];exact Gw.zm0 _ _ (by decide)) rfl];rfl),Gw.sp0 _ _ (by decide),hu]) rfl]
   rfl) (J _)]
  rfl
 ·have e:((10:Int) ^ 60)<2 ^ 240:=by decide +kernel
  have e2:((10:Int) ^ 60)=((10 ^ 60:Nat):Int):=by decide +kernel
  have e3:(10 ^ 60:Nat)<2 ^ 250:=by decide +kernel
  rw[e2] at u1 ⊢;generalize (10 ^ 60:Nat)=t at u1 e3;generalize (2:Nat) ^ 250=r at e3;omega
theorem ga0(nm:List Str)(hp:Pool nm)(i:Int)(h0:0<=i)(h1:i<12):ixD (.lst (nm.map .str)) (.int i)=some (.str (nm.getD i.toNat ""))/\nm.getD i.toNat ""∈nm:=by
 have hl:=hp.len;have J:i.toNat<nm.length:=by omega
 constructor
 ·show atI (nm.map D.str) i=_
  rw[z40 h0 (by rw[List.length_map];omega) .non];simp[List.getD_eq_getElem?_getD,J]
 ·rw[List.getD_eq_getElem?_getD,List.getElem?_eq_getElem J]
  exact D3 J
def S37:Str := "abcdefghijklmnopqrstuvwxyz0123456789 "
theorem Vn0:∀c∈S37.cps.toList,c∈v60.cps.toList:=by decide +kernel
theorem Um0(i:Int)(h0:0<=i)(h1:i<37):∃c:Nat,c∈v60.cps.toList/\ixD (.str S37) (.int i)=some (.str ⟨#[c]⟩):=by
 have hl:S37.cps.toList.length=37:=by decide +kernel
 refine⟨S37.cps.toList.getD i.toNat 0,Vn0 _ (by rw[List.getD_eq_getElem?_getD,List.getElem?_eq_getElem (show i.toNat<_ by omega)];exact D3 _),?_⟩;simp only[ixD];rw[if_pos (by decide +kernel),z40 h0 (by rw[hl];exact h1) 0];rfl
def Gs(p:Pt):Prop:=(∀s∈p.all,isName s=true)/\∀w,p=.text w->∀c∈w.cps.toList,c∈v60.cps.toList
theorem Y00(c m:Int)(nm:List Str)(hp:Pool nm)(hc:c.natAbs.log2<=1048576)(hm:0<m/\m<=1000):∃p:Pt,U6 [.int c,.lst (nm.map .str),.int m]=some p.d/\Gq p/\(∀v∈p.vals,Lk m.toNat v)/\Gs p:=by
 have z:(1000:Nat)<=sizeLine:=by decide
 obtain⟨x1,p0,p1,p2⟩:=R3 c 1 (by decide) (by decide);obtain⟨x2,q0,q1,q2⟩:=R3 c 2 (by decide) (by decide);obtain⟨x3,r0,r1,r2⟩:=R3 c 3 (by decide) (by decide);obtain⟨xt,t0,t1,t2⟩:=R3 c 30 (by decide) (by decide);obtain⟨xc,c0,c1,c2⟩:=R3 c 31 (by decide) (by decide);obtain⟨n,b1,hn⟩:∃n:Nat,n<=12/\∀δ:Ds,o2 (W5 (z7 (gc (.int 0)) (z7 (gc (.int 1)) (z7 (gc (.int 2)) (z7 (gc (.int 3)) (z7 (gc (.int 2)) (z7 (gc (.int 1)) (z7 (gc (.int 4)) (z7 (gc (.int 12)) v6))))))))) (o2 (oA (z7 (gv 0) (z7 (gc (.int 2)) v6)) m5) (gc (.int 8)) Z6) ixD (.sh (.int c)::δ)=some (.int (n:Int)):=by
  have J:∀(n:Nat),ixD (.lst [.int 0,.int 1,.int 2,.int 3,.int 2,.int 1,.int 4,.int 12]) (.int (x2%8))=some (.int (n:Int))->∀δ:Ds,o2 (W5 (z7 (gc (.int 0)) (z7 (gc (.int 1)) (z7 (gc (.int 2)) (z7 (gc (.int 3)) (z7 (gc (.int 2)) (z7 (gc (.int 1)) (z7 (gc (.int 4)) (z7 (gc (.int 12)) v6))))))))) (o2 (oA (z7 (gv 0) (z7 (gc (.int 2)) v6)) m5) (gc (.int 8)) Z6) ixD (.sh (.int c)::δ)=some (.int (n:Int)):=λn h δ=>by
   rw[p6 (x:=.lst [.int 0,.int 1,.int 2,.int 3,.int 2,.int 1,.int 4,.int 12]) (y:=.int (x2%8)) (s50 rfl (by show 8<=sizeLine;omega)) (by
    rw[p6 (x:=.int x2) (y:=.int 8) (by rw[p7 (ds:=[.int c,.int 2]) rfl];exact q2) rfl];rfl)]
   exact h
  have q:x2%8=0∨x2%8=1∨x2%8=2∨x2%8=3∨x2%8=4∨x2%8=5∨x2%8=6∨x2%8=7:=by omega
  rcases q with q|q|q|q|q|q|q|q<;>rw[q] at J
  ·exact⟨0,by omega,J 0 rfl⟩
  ·exact⟨1,by omega,J 1 rfl⟩
  ·exact⟨2,by omega,J 2 rfl⟩
  ·exact⟨3,by omega,J 3 rfl⟩
  ·exact⟨2,by omega,J 2 rfl⟩
  ·exact⟨1,by omega,J 1 rfl⟩
  ·exact⟨4,by omega,J 4 rfl⟩
  ·exact⟨12,by omega,J 12 rfl⟩
 have s3:∀δ:Ds,o2 (oA (z7 (gv 0) (z7 (gc (.int 1)) v6)) m5) (gc (.int 5)) Z6 (.sh (.int c)::δ)=some (.int (x1%5)):=fun δ=>by
  rw[p6 (x:=.int x1) (y:=.int 5) (by rw[p7 (ds:=[.int c,.int 1]) rfl];exact p2) rfl];rfl
 by_cases k0:x1%5=0
 ·obtain⟨f,hf⟩:∃f:Nat->Nat,∀j:Nat,j<21->f j∈v60.cps.toList/\∀δ:Ds,o2 (gv 2) (o2 (oA (z7 (gv 1) (z7 (o2 (gc (.int 80)) (gv 0) o9) v6)) m5) (gc (.int 37)) Z6) ixD (.sh (.int (j:Int))::.sh (.int c)::.sh (.str S37)::δ)=some (.str ⟨#[f j]⟩):=by
   have:∀j:Nat,∃v:Nat,j<21->v∈v60.cps.toList/\∀δ:Ds,o2 (gv 2) (o2 (oA (z7 (gv 1) (z7 (o2 (gc (.int 80)) (gv 0) o9) v6)) m5) (gc (.int 37)) Z6) ixD (.sh (.int (j:Int))::.sh (.int c)::.sh (.str S37)::δ)=some (.str ⟨#[v]⟩):=λj=>by
    by_cases hj:j<21
    ·obtain⟨x,y0,y1,y2⟩:=R3 c (80+(j:Int)) (by omega) (by omega)
     obtain⟨v,a7,hv⟩:=Um0 (x%37) (by omega) (by omega);refine⟨v,λ_=>⟨a7,fun δ=>?_⟩⟩;rw[p6 (x:=.str S37) (y:=.int (x%37)) rfl (by
      rw[p6 (x:=.int x) (y:=.int 37) (by rw[p7 (ds:=[.int c,.int (80+(j:Int))]) rfl];exact y2) rfl];rfl)]
     exact hv
    ·exact⟨0,λh=>absurd h hj⟩
   obtain⟨f,hf⟩:=Y3 this;exact⟨f,hf⟩
  obtain⟨l,hl⟩:∃l:Nat,(l:Int)=x3%21:=⟨(x3%21).toNat,by omega⟩;have b3:l<21:=by omega
  obtain⟨w,hw⟩:∃w:List Nat,w=(List.range l).map f:=⟨_,rfl⟩;have wl:w.length=l:=by rw[hw];simp
  refine⟨.text (strOf w),j9 rfl (v8 (m9 (d:=.int (x1%5)) (s3 _)) (v8 (m9 (d:=.int (n:Int)) (hn _)) (o4 ?_))),⟨by show (strOf w).length<=20;rw[y00];omega,λv hv=>(by cases hv),λs hs=>(by cases hs),B9 _⟩,λv hv=>(by cases hv),λs hs=>(by cases hs),λw' e c hc=>by
   injection e with e
   subst e;have hc:c∈w:=by unfold strOf at hc;simpa using hc
   rw[hw] at hc;obtain⟨k,hk,rfl⟩:=B0.mp hc;exact(hf k (by have:=C8.mp hk;omega)).1⟩
  rw[T3 (by show some (decide (x1%5=0))=_;rw[decide_eq_true k0])];refine v8 (m9 (d:=.str S37) rfl) (o4 (d7 (Q5 (cons_of rfl (cons_of (d:=.str (strOf w)) ?_ rfl)) (by show 2<=sizeLine;omega))))
  change zl0 _ _ [.sh (.int c),.sh (.lst (nm.map .str)),.sh (.int m),.sh (.int (x1%5)),.sh (.int (n:Int)),.sh (.str S37),.un,.un,.un]=_
  rw[sd0 (x:=.str "") (ds:=[.lst ((ones w).map .str)]) rfl (cons_of (U8 (items:=V9 0 (l:Int)) (za0 (cons_of (by
   rw[p6 (x:=.int x3) (y:=.int 21) (by rw[p7 (ds:=[.int c,.int 3]) rfl];exact r2) rfl,hl];rfl) rfl) (by omega) (by omega)) (by rw[G5];omega) (by
   have q:=yt0 (gt:=noT) (ge:=(o2 (gv 2) (o2 (oA (z7 (gv 1) (z7 (o2 (gc (.int 80)) (gv 0) o9) v6)) m5) (gc (.int 37)) Z6) ixD)) (δ:=[.un,.sh (.int c),.sh (.str S37)]) (n:=(l:Int)) (λj=>.str ⟨#[f j]⟩) (λk hk=>⟨[.sh (.int (k:Int)),.sh (.int c),.sh (.str S37)],rfl,rfl,(hf k (by omega)).2 []⟩);refine q.trans ?_;rw[Int.toNat_natCast,hw];unfold ones;rw[List.map_map,List.map_map];rfl)) rfl)]
  have e1:=strs_map id (ones w);have a6:z50 ((ones w).map D.str)=some (ones w):=by simpa using e1
  simp only[ug0];rw[a6,Option.bind_some,xh0,join_ones,if_pos (by
   have:("" : PySem.Str).length=0:=by decide +kernel
   rw[this];omega)]
 obtain⟨f,hf⟩:∃f:Nat->D,∀j:Nat,j<12->(Vb (f j)/\Lk m.toNat (f j))/\V7 [.int c,.int (4+(j:Int)),.int m]=some (f j):=by
  have:∀j:Nat,∃v:D,j<12->(Vb v/\Lk m.toNat v)/\V7 [.int c,.int (4+(j:Int)),.int m]=some v:=λj=>by
   by_cases hj:j<12
   ·obtain⟨v,h1,h2⟩:=ca0 c (4+(j:Int)) m hc (by omega) hm
    exact⟨v,λ_=>⟨h2,h1⟩⟩
   ·exact⟨.non,λh=>absurd h hj⟩
  obtain⟨f,hf⟩:=Y3 this;exact⟨f,hf⟩
 obtain⟨vs,Y⟩:∃vs:List D,vs=(List.range n).map f:=⟨_,rfl⟩;have vl:vs.length=n:=by rw[Y];simp
 have vv:∀v∈vs,Vb v/\Lk m.toNat v:=λv hv=>by
  rw[Y] at hv;obtain⟨k,hk,rfl⟩:=B0.mp hv;exact(hf k (by have:=C8.mp hk;omega)).1
 have n0:∀G:GS,ifD (ob (o2 (gv 3) (gc (.int 0)) eqD)) G u9 [.sh (.int c),.sh (.lst (nm.map .str)),.sh (.int m),.sh (.int (x1%5)),.sh (.int (n:Int)),.un,.un,.un,.un]=some (.nx [.sh (.int c),.sh (.lst (nm.map .str)),.sh (.int m),.sh (.int (x1%5)),.sh (.int (n:Int)),.un,.un,.un,.un]):=λG=>by
  rw[Z8 (by show some (decide (x1%5=0))=_;rw[decide_eq_false k0])];rfl
 have s6:X8 1 [0,2] (O9 (z7 (gv 4) v6)) (gN 0) noT (oA (z7 (gv 1) (z7 (o2 (gc (.int 4)) (gv 0) o9) (z7 (gv 2) v6))) V7) [.sh (.int c),.sh (.lst (nm.map .str)),.sh (.int m),.sh (.int (x1%5)),.sh (.int (n:Int)),.un,.un,.un,.un]=some (.lst vs):=by
  refine U8 (items:=V9 0 (n:Int)) (za0 (cons_of rfl rfl) (by omega) (by omega)) (by rw[G5];omega) ?_;have q:=yt0 (gt:=noT) (ge:=oA (z7 (gv 1) (z7 (o2 (gc (.int 4)) (gv 0) o9) (z7 (gv 2) v6))) V7) (δ:=[.un,.sh (.int c),.sh (.int m)]) (n:=(n:Int)) f (λk hk=>⟨[.sh (.int (k:Int)),.sh (.int c),.sh (.int m)],rfl,rfl,by
   rw[p7 (ds:=[.int c,.int (4+(k:Int)),.int m]) rfl];exact(hf k (by omega)).2⟩)
  rw[Int.toNat_natCast] at q;rw[Y];exact q
 by_cases k1:x1%5=1
 ·refine⟨.row vs,j9 rfl (v8 (m9 (d:=.int (x1%5)) (s3 _)) (v8 (m9 (d:=.int (n:Int)) (hn _)) (v8 (n0 _) (v8 (m9 (d:=.lst vs) s6) (o4 ?_))))),⟨by show vs.length<=20;omega,λv hv=>(vv v hv).1,λs hs=>(by cases hs),by show vs.length<=12;omega⟩,λv hv=>(vv v hv).2,λs hs=>(by cases hs),λw e=>by cases e⟩
  rw[T3 (by show some (decide (x1%5=1))=_;rw[decide_eq_true k1])];exact o4 (d7 (Q5 (cons_of rfl (cons_of rfl rfl)) (by show 2<=sizeLine;omega)))
 have n1:∀G:GS,ifD (ob (o2 (gv 3) (gc (.int 1)) eqD)) G u9 [.sh (.int c),.sh (.lst (nm.map .str)),.sh (.int m),.sh (.int (x1%5)),.sh (.int (n:Int)),.un,.sh (.lst vs),.un,.un]=some (.nx [.sh (.int c),.sh (.lst (nm.map .str)),.sh (.int m),.sh (.int (x1%5)),.sh (.int (n:Int)),.un,.sh (.lst vs),.un,.un]):=λG=>by
  rw[Z8 (by show some (decide (x1%5=1))=_;rw[decide_eq_false k1])];rfl
 obtain⟨st,b0⟩:∃st:Int,st=xt%12:=⟨_,rfl⟩;have b2:0<=st:=by omega
 obtain⟨nf,a5⟩:∃nf:Nat->Str,nf=λ(k:Nat)=>nm.getD ((st+(k:Int))%12).toNat "" := ⟨_,rfl⟩
 have a4:∀k,nf k∈nm:=λk=>by rw[a5];exact(ga0 nm hp ((st+(k:Int))%12) (by omega) (by omega)).2
 obtain⟨ps,O⟩:∃ps:List (Str×D),ps=(List.range n).map λk=>(nf k,f k):=⟨_,rfl⟩
 have pl:ps.length=n:=by rw[O];simp
 have pv:∀v∈ps.map (·.2),Vb v/\Lk m.toNat v:=λv hv=>by
  rw[O,List.map_map] at hv;obtain⟨k,hk,rfl⟩:=B0.mp hv;exact(hf k (by have:=C8.mp hk;omega)).1
 have Z:∀s∈nm,s.length<=20:=λs hs=>by have:=il0 (hp.names s hs);omega
 have pn:∀s∈ps.map (·.1),s.length<=20:=λv hv=>by
  rw[O,List.map_map] at hv;obtain⟨k,hk,rfl⟩:=B0.mp hv;exact Z _ (a4 k)
 have a3:∀s∈ps.map (·.1),isName s=true:=λv hv=>by
  rw[O,List.map_map] at hv;obtain⟨k,hk,rfl⟩:=B0.mp hv;exact hp.names _ (a4 k)
 have s7:j6 (gN 7) (o2 (oA (z7 (gv 0) (z7 (gc (.int 30)) v6)) m5) (gc (.int 12)) Z6) [.sh (.int c),.sh (.lst (nm.map .str)),.sh (.int m),.sh (.int (x1%5)),.sh (.int (n:Int)),.un,.sh (.lst vs),.un,.un]=some (.nx [.sh (.int c),.sh (.lst (nm.map .str)),.sh (.int m),.sh (.int (x1%5)),.sh (.int (n:Int)),.un,.sh (.lst vs),.sh (.int st),.un]):=by
  refine m9 (i:=7) (d:=.int st) ?_;rw[p6 (x:=.int xt) (y:=.int 12) (by rw[p7 (ds:=[.int c,.int 30]) rfl];exact t2) rfl,b0];rfl
 have s8:j6 (gN 8) (oA (z7 (X8 1 [1,6,7] (O9 (z7 (gv 4) v6)) (gN 0) noT (R0 (z7 (o2 (gv 1) (o2 (o2 (gv 3) (gv 0) o9) (gc (.int 12)) Z6) ixD) (z7 (o2 (gv 2) (gv 0) ixD) v6)))) v6) Q3) [.sh (.int c),.sh (.lst (nm.map .str)),.sh (.int m),.sh (.int (x1%5)),.sh (.int (n:Int)),.un,.sh (.lst vs),.sh (.int st),.un]=some (.nx [.sh (.int c),.sh (.lst (nm.map .str)),.sh (.int m),.sh (.int (x1%5)),.sh (.int (n:Int)),.un,.sh (.lst vs),.sh (.int st),.sh (.tup (ps.map pr))]):=by
  refine m9 (i:=8) (d:=.tup (ps.map pr)) ?_;rw[p7 (ds:=[.lst (ps.map pr)]) (cons_of (U8 (items:=V9 0 (n:Int)) (za0 (cons_of rfl rfl) (by omega) (by omega)) (by rw[G5];omega) (by
   rw[O,List.map_map];have q:=yt0 (gt:=noT) (ge:=(R0 (z7 (o2 (gv 1) (o2 (o2 (gv 3) (gv 0) o9) (gc (.int 12)) Z6) ixD) (z7 (o2 (gv 2) (gv 0) ixD) v6)))) (δ:=[.un,.sh (.lst (nm.map .str)),.sh (.lst vs),.sh (.int st)]) (n:=(n:Int)) (λj=>pr (nf j,f j)) (λk hk=>⟨[.sh (.int (k:Int)),.sh (.lst (nm.map .str)),.sh (.lst vs),.sh (.int st)],rfl,rfl,by
    have a8:k<n:=by omega
    refine Q5 (cons_of (d:=.str (nf k)) ?_ (cons_of (d:=f k) ?_ rfl)) (by show 2<=sizeLine;omega)
    ·rw[p6 (x:=.lst (nm.map .str)) (y:=.int ((st+(k:Int))%12)) rfl rfl,a5]
     exact(ga0 nm hp _ (by omega) (by omega)).1
    ·rw[p6 (x:=.lst vs) (y:=.int (k:Int)) rfl rfl]
     show atI vs (k:Int)=_;rw[z40 (by omega) (by omega) .non,Int.toNat_natCast,Y];simp[List.getD_eq_getElem?_getD,a8]⟩)
   rw[Int.toNat_natCast] at q;exact q)) rfl)]
  rfl
 by_cases k2:x1%5=2
 ·refine⟨.table ps,j9 rfl (v8 (m9 (d:=.int (x1%5)) (s3 _)) (v8 (m9 (d:=.int (n:Int)) (hn _)) (v8 (n0 _) (v8 (m9 (d:=.lst vs) s6) (v8 (n1 _) (v8 s7 (v8 s8 (o4 ?_)))))))),⟨by show ps.length<=20;omega,λv hv=>(pv v hv).1,λs hs=>pn s (by simpa [Pt.all,Pt.pnames,Pt.cls] using hs),by show (ps.map (·.2)).length<=12;rw[List.length_map];omega⟩,λv hv=>(pv v hv).2,λs hs=>a3 s (by simpa [Pt.all,Pt.pnames,Pt.cls] using hs),λw e=>by cases e⟩
  rw[T3 (by show some (decide (x1%5=2))=_;rw[decide_eq_true k2])];exact o4 (d7 (Q5 (cons_of rfl (cons_of rfl rfl)) (by show 2<=sizeLine;omega)))
 ·obtain⟨a1,a2⟩:=ga0 nm hp (xc%12) (by omega) (by omega)
  refine⟨.rcd (nm.getD (xc%12).toNat "") ps,j9 rfl (v8 (m9 (d:=.int (x1%5)) (s3 _)) (v8 (m9 (d:=.int (n:Int)) (hn _)) (v8 (n0 _) (v8 (m9 (d:=.lst vs) s6) (v8 (n1 _) (v8 s7 (v8 s8 (v8 (δ':=[.sh (.int c),.sh (.lst (nm.map .str)),.sh (.int m),.sh (.int (x1%5)),.sh (.int (n:Int)),.un,.sh (.lst vs),.sh (.int st),.sh (.tup (ps.map pr))]) ?_ (o4 (d7 ?_)))))))))),⟨by show ps.length<=20;omega,λv hv=>(pv v hv).1,λs hs=>?_,by show (ps.map (·.2)).length<=12;rw[List.length_map];omega⟩,λv hv=>(pv v hv).2,λs hs=>?_,λw e=>by cases e⟩
  ·rw[Z8 (by show some (decide (x1%5=2))=_;rw[decide_eq_false k2])];rfl
  ·exact Q5 (cons_of rfl (cons_of (by
    rw[p6 (x:=.lst (nm.map .str)) (y:=.int (xc%12)) rfl (by
     rw[p6 (x:=.int xc) (y:=.int 12) (by rw[p7 (ds:=[.int c,.int 31]) rfl];exact c2) rfl];rfl)]
    exact a1) (cons_of rfl rfl))) (by show 3<=sizeLine;omega)
  ·rcases B5.mp hs with q|q
   ·exact pn s q
   ·have:=D4.mp q
    rw[this];exact Z _ a2
  ·rcases B5.mp hs with q|q
   ·exact a3 s q
   ·have:=D4.mp q
    rw[this];exact hp.names _ a2
theorem lj0(ns:List Int)(hb:∀z∈ns,z.natAbs.log2<=1048576)(a:Int)(ha:0<=a/\a<=100)(most:Int)(hm:0<most/\most<=60):∃ps:List Pt,z70 [.lst (ns.map .int),.int a,.int most]=some (web ps)/\Gw' ps/\0<ps.length/\(∀p∈ps,∀v∈p.vals,Lk ps.length v)/\∀p∈ps,Gs p:=by
 have z:(1000:Nat)<=sizeLine:=by decide
 obtain⟨c0,e0,_⟩:=xp0 ns hb a ha.1 (by omega);obtain⟨c1,e1,_⟩:=xp0 ns hb (a+1) (by omega) (by omega);obtain⟨x,x0,x1,x2⟩:=R3 c0 3 (by decide) (by decide);obtain⟨nm,hn,hp⟩:=ay0 c1;have j0:0<=x%most:=L8 _ (by omega);have j1:x%most<most:=L9 _ hm.1;obtain⟨n,J⟩:∃n:Nat,(n:Int)=1+x%most:=⟨(1+x%most).toNat,by omega⟩;have O:n<=60:=by omega
 have n1:0<n:=by omega
 obtain⟨f,hf⟩:∃f:Nat->Pt,∀k:Nat,k<60->(Gq (f k)/\(∀v∈(f k).vals,Lk n v)/\Gs (f k))/\∀δ:Ds,oA (z7 (oA (z7 (gv 1) (z7 (o2 (o2 (gv 2) (gc (.int 2)) o9) (gv 0) o9) v6)) Y7) (z7 (gv 4) (z7 (gv 3) v6))) U6 (.sh (.int (k:Int))::.sh (.lst (ns.map .int))::.sh (.int a)::.sh (.int (n:Int))::.sh (.lst (nm.map .str))::δ)=some (f k).d:=by
  have:∀k:Nat,∃p:Pt,k<60->(Gq p/\(∀v∈p.vals,Lk n v)/\Gs p)/\∀δ:Ds,oA (z7 (oA (z7 (gv 1) (z7 (o2 (o2 (gv 2) (gc (.int 2)) o9) (gv 0) o9) v6)) Y7) (z7 (gv 4) (z7 (gv 3) v6))) U6 (.sh (.int (k:Int))::.sh (.lst (ns.map .int))::.sh (.int a)::.sh (.int (n:Int))::.sh (.lst (nm.map .str))::δ)=some p.d:=λk=>by
   by_cases hk:k<60
   ·obtain⟨c,e,hc⟩:=xp0 ns hb (a+2+(k:Int)) (by omega) (by omega)
    obtain⟨p,h1,h2⟩:=Y00 c (n:Int) nm hp hc (by omega);refine⟨p,λ_=>⟨h2,fun δ=>?_⟩⟩;rw[p7 (ds:=[.int c,.lst (nm.map .str),.int (n:Int)]) (cons_of (by
     rw[p7 (ds:=[.lst (ns.map .int),.int (a+2+(k:Int))]) rfl];exact e) (cons_of rfl (cons_of rfl rfl)))]
    exact h1
   ·exact⟨.row [],λh=>absurd h hk⟩
  obtain⟨f,hf⟩:=Y3 this;exact⟨f,hf⟩
 refine⟨(List.range n).map f,j9 rfl (v8 (m9 (d:=.int (n:Int)) ?_) (v8 (m9 (d:=.lst (nm.map .str)) ?_) (o4 (d7 ?_)))),⟨by simp;omega,λp hp=>?_⟩,by simp;omega,λp hp=>?_,λp hp=>?_⟩
 ·rw[p6 (x:=.int 1) (y:=.int (x%most)) rfl (by
   rw[p6 (x:=.int x) (y:=.int most) (by
    rw[p7 (ds:=[.int c0,.int 3]) (cons_of (by rw[p7 (ds:=[.lst (ns.map .int),.int a]) rfl];exact e0) rfl)];exact x2) rfl]
   exact Gw.sp0 _ _ hm.1),J]
  rfl
 ·rw[p7 (ds:=[.int c1,.int 12]) (cons_of (by rw[p7 (ds:=[.lst (ns.map .int),.int (a+1)]) rfl];exact e1) rfl)]
  exact hn
 ·rw[p7 (ds:=[.lst (((List.range n).map f).map Pt.d)]) (cons_of (U8 (items:=V9 0 (n:Int)) (za0 (cons_of rfl rfl) (by omega) (by omega)) (by rw[G5];omega) (by
   have q:=yt0 (gt:=noT) (ge:=oA (z7 (oA (z7 (gv 1) (z7 (o2 (o2 (gv 2) (gc (.int 2)) o9) (gv 0) o9) v6)) Y7) (z7 (gv 4) (z7 (gv 3) v6))) U6) (δ:=[.un,.sh (.lst (ns.map .int)),.sh (.int a),.sh (.int (n:Int)),.sh (.lst (nm.map .str))]) (n:=(n:Int)) (λk=>(f k).d) (λk hk=>⟨_,rfl,rfl,(hf k (by omega)).2 []⟩);rw[Int.toNat_natCast] at q;rw[List.map_map];exact q)) rfl)]
  rfl
 ·obtain⟨k,hk,rfl⟩:=B0.mp hp
  exact(hf k (by have:=C8.mp hk;omega)).1.1
 ·obtain⟨k,hk,rfl⟩:=B0.mp hp
  rw[List.length_map,List.length_range];exact(hf k (by have:=C8.mp hk;omega)).1.2.1
 ·obtain⟨k,hk,rfl⟩:=B0.mp hp
  exact(hf k (by have:=C8.mp hk;omega)).1.2.2
end Bw
namespace K22
open Ga
open DL W
inductive Dfs (adj:Nat->List Nat) (S:List Nat):Nat->List Nat->List Nat->List Nat->Prop
 | nil (o:List Nat):Dfs adj S 0 o [] o
 | skip {c:Nat} {o T r:List Nat} {x:Nat}:x∈o∨x∈S->Dfs adj S c o T r->Dfs adj S (c+1) o (x::T) r
 | visit {c:Nat} {o T r:List Nat} {x:Nat}:x∉o->x∉S->(adj x++T).length+o.length<=10000->Dfs adj S c (o++[x]) (adj x++T) r->Dfs adj S (c+1) o (x::T) r
theorem sub_len:∀{l m:List Nat},l.Nodup->(∀a∈l,a∈m)->l.length<=m.length
 | [],m,_,_=>B9 _
 | a::l,m,h,hs=>by
  obtain⟨h1,h2⟩:=L3.mp h;obtain⟨m1,m2,rfl⟩:=List.append_of_mem (hs a A9);have:=sub_len (m:=m1++m2) h2 λb hb=>by
   have:=hs b (A7 _ hb);rcases B5.mp this with q|q
   ·exact B5.mpr (.inl q)
   ·rcases B4.mp q with rfl|q
    ·exact absurd hb h1
    ·exact B5.mpr (.inr q)
  simp only[List.length_append,List.length_cons] at this ⊢;omega
theorem f90(adj:Nat->List Nat)(S:List Nat)(n:Nat)(hn:n<=60)(ha:∀i,i<n->(adj i).length<=12/\∀j∈adj i,j<n):∀(M:Nat) (o T:List Nat),T.length+13*(n - o.length)<=M->M<=5000->o.Nodup->(∀x∈o,x<n/\x∉S)->(∀x∈T,x<n) ->
  ∃c r,Dfs adj S c o T r/\c<=M/\r.Nodup/\(∀x∈r,x<n/\x∉S)/\o.length<=r.length:=by
 intro M
 induction M with
 | zero =>
  intro o T hM a4 ho J hT;have:T=[]:=X0.mp (by omega);subst this;exact⟨0,o,.nil o,A1 _,ho,J,A1 _⟩
 | succ M ih =>
  intro o T hM a4 ho J hT;cases T with
  | nil=>exact⟨0,o,.nil o,B9 _,ho,J,A1 _⟩
  | cons x T =>
   rw[List.length_cons] at hM
   by_cases hx:x∈o∨x∈S
   ·obtain⟨c,r,h1,h2,h3⟩:=ih o T (by omega) (by omega) ho J λy hy=>hT y (A7 _ hy)
    exact⟨c+1,r,.skip hx h1,by omega,h3⟩
   ·have a2:=hT x A9
    obtain⟨hl,hj⟩:=ha x a2;have Y:x∉o:=λz=>hx (.inl z)
    have O:x∉S:=λz=>hx (.inr z)
    have Z:(o++[x]).Nodup:=List.nodup_append.mpr ⟨ho,by simp,λa ha b hb e=>by
     have:=D4.mp hb;subst this;subst e;exact Y ha⟩
    have a1:∀y∈o++[x],y<n/\y∉S:=λy hy=>by
     rcases B5.mp hy with z|z
     ·exact J y z
     ·have:=D4.mp z;subst this;exact⟨a2,O⟩
    have a3:(o++[x]).length<=n:=by
     have:=sub_len Z (m:=List.range n) λy hy=>C8.mpr (a1 y hy).1
     rwa [List.length_range] at this
    rw[List.length_append,List.length_singleton] at a3;obtain⟨c,r,h1,h2,h3,h4,h5⟩:=ih (o++[x]) (adj x++T) (by simp only[List.length_append,List.length_singleton];omega) (by omega) Z a1 (λy hy=>by
     rcases B5.mp hy with z|z
     ·exact hj y z
     ·exact hT y (A7 _ z))
    refine⟨c+1,r,.visit Y O (by rw[List.length_append];omega) h1,by omega,h3,h4,?_⟩;rw[List.length_append] at h5;omega
def nd(l:List Nat):List D:=l.map λ(i:Nat)=>D.int (i:Int)
def tgs(vs:List D):List Nat:=vs.filterMap λv=>match v with|.tup [_,.int j]=>some j.toNat|_=>none
section
end
theorem vq0(a b:List Nat):nd (a++b)=nd a++nd b:=by unfold nd;rw[List.map_append]
theorem Wd0(a:List Nat):(nd a).reverse=nd a.reverse:=by unfold nd;rw[List.map_reverse]
theorem zj0(a:List Nat):(nd a).length=a.length:=by simp[nd]
theorem dd0(o:List Nat):((nd o).all λd=>flat d)=true:=by
 unfold nd;rw[List.all_map,List.all_eq_true];exact λ_ _=>rfl
theorem Wq0:∀{vs:List D},(∀v∈vs,v=.non∨(∃z,v=.int z)∨∃j:Nat,v=.tup [.str "at",.int (j:Int)]/\j<n)->∀j∈tgs vs,j<n:=by
 intro vs h j hj;obtain⟨v,hv,e⟩:=S2.mp hj;rcases h v hv with rfl|⟨z,rfl⟩|⟨i,rfl,hi⟩
 ·cases e
 ·cases e
 ·simp only[Int.toNat_natCast,Option.some.injEq] at e
  omega
theorem vc0(p:Pt)(h:p.few):m_values [p.d]=some (.lst p.vals):=Pn.vc0 p h
theorem dy0(p:Pt)(h:p.few)(vs:List D):G3 [p.d,.lst vs]=some (Pn.put p vs).d:=Pn.Z00 p h vs
def Lv(n:Nat)(v:D):Prop:=v=.non∨(∃z,v=.int z)∨∃j:Nat,v=.tup [.str "at",.int (j:Int)]/\j<n
structure Pw(n:Nat)(p:Pt):Prop where
 few:p.vals.length<=12
 lv:∀v∈p.vals,Lv n v
theorem Pw.f{p:Pt}(h:Pw n p):p.few:=by
 have z:(12:Nat)<=sizeLine:=by decide
 exact C5 h.few z
structure Web(ps:List Pt):Prop where
 len:0<ps.length/\ps.length<=60
 pw:∀p∈ps,Pw ps.length p
def wd(ps:List Pt):D:=.tup (ps.map Pt.d)
theorem a80(vs:List D):(tgs vs).length<=vs.length:=List.length_filterMap_le _ _
theorem Xp0(j:Nat)(vs:List D):tgs (.tup [.str "at",.int (j:Int)]::vs)=j::tgs vs:=by unfold tgs;rw[List.filterMap_cons];simp only[Int.toNat_natCast]
theorem nn0:∀vs:List D,(∀v∈vs,Lv n v)->T8 (gN 0) (ob (vf0 isTup (gv 0))) (o2 (gv 0) (gc (.int 1)) ixD) [.un] vs=some (nd (tgs vs))
 | [],_=>rfl
 | v::vs,h=>by
  have ih:=nn0 vs λu hu=>h u (A7 _ hu)
  unfold T8;rcases h v A9 with rfl|⟨z,rfl⟩|⟨j,rfl,hj⟩
  ·exact ih
  ·exact ih
  ·show (match o2 (gv 0) (gc (.int 1)) ixD [.sh (.tup [.str "at",.int (j:Int)])] with|none=>none|some y=>(T8 (gN 0) (ob (vf0 isTup (gv 0))) (o2 (gv 0) (gc (.int 1)) ixD) [.un] vs).map λr=>y::r)=_
   rw[ih,Xp0];rfl
theorem kf0{p:Pt}(h:Pw n p):N8 [p.d]=some (.lst (nd (tgs p.vals))) :=
 W4 rfl (Y8 (R4 (U8 (items:=p.vals) (by
  show Option.bind (oA (z7 (gv 0) v6) m_values [.sh p.d]) mk0=_;rw[p7 (ds:=[p.d]) rfl,vc0 p h.f];rfl) h.f (nn0 p.vals h.lv))))
def lkv(f:Nat->Nat):D->D
 | .tup [_,.int j]=>.tup [.str "at",.int (f j.toNat:Int)]
 | v=>v
def rel(f:Nat->Nat)(p:Pt):Pt:=Pn.put p (p.vals.map (lkv f))
theorem ly0{vs:List D}(h:D.tup [.str "at",.int (j:Int)]∈vs):j∈tgs vs:=S2.mpr ⟨_,h,by simp only[Int.toNat_natCast]⟩
theorem jb0{p:Pt}(h:Pw n p)(f:Nat->Nat)(D':D)(hd:∀j∈tgs p.vals,M8 D' (.int (j:Int))=some (.int (f j:Int))):w60 [p.d,D']=some (rel f p).d:=by
 refine j9 rfl (v8 (δ':=[.sh p.d,.sh D',.sh (.lst (p.vals.map (lkv f)))]) (m9 (U8 (items:=p.vals) (by
  show Option.bind (oA (z7 (gv 0) v6) m_values [.sh p.d,.sh D',.un]) mk0=_;rw[p7 (ds:=[p.d]) rfl,vc0 p h.f];rfl) h.f ?_)) (o4 (d7 (by rw[p7 (ds:=[p.d,.lst (p.vals.map (lkv f))]) rfl];exact dy0 p h.f _))))
 refine xd0 (lkv f) λv hv=>⟨[.sh v,.sh D'],rfl,rfl,?_⟩
 rcases h.lv v hv with rfl|⟨z,rfl⟩|⟨j,rfl,hj⟩
 ·rfl
 ·rfl
 ·unfold ifG
  rw[show ob (vf0 isTup (gv 0)) [.sh (.tup [.str "at",.int (j:Int)]),.sh D']=some true from rfl];show R0 _ _=_;exact Q5 (cons_of rfl (cons_of (d:=.int (f j:Int)) (by
   rw[p6 (x:=D') (y:=.int (j:Int)) rfl rfl];exact hd j (ly0 hv)) rfl)) (by show 2<=sizeLine;decide)
theorem ck0(p:Pt)(vs:List D)(h:vs.length=p.vals.length):(Pn.put p vs).vals=vs:=by
 cases p with
 | text w=>exact(List.eq_nil_of_length_eq_zero h).symm
 | row us=>rfl
 | table ps =>
  show ((ps.map (·.1)).zip vs).map (·.2)=vs;refine C20 ?_;have h':vs.length=(ps.map (·.2)).length:=h;simp only[List.length_map] at h' ⊢;omega
 | rcd c ps =>
  show ((ps.map (·.1)).zip vs).map (·.2)=vs;refine C20 ?_;have h':vs.length=(ps.map (·.2)).length:=h;simp only[List.length_map] at h' ⊢;omega
end K22
namespace Km
open DL W K22
section
end
end Km
namespace Km
open DL W K22
open Bw (bs sg cnt kn its tx fold Vb Gp Gq)
def pd(ks:List Q4):D:=.dct (.inl ks) (nd (List.range ks.length))
def ix{α:Type}[DecidableEq α]:List α->α->Nat
 | [],_=>0
 | b::l,a=>if b=a then 0 else ix l a+1
theorem h90[DecidableEq α]:∀{l:List α} {a:α},a∈l->ix l a<l.length
 | [],_,h=>by cases h
 | b::l,a,h=>by
  unfold ix;rw[List.length_cons]
  by_cases e:b=a
  ·rw[if_pos e];omega
  ·have:=h90 (l:=l) (a:=a) ((B4.mp h).resolve_left λz=>e z.symm)
   rw[if_neg e];omega
theorem ld0:∀(ks:List Q4) (s:Nat) (k:Q4),k∈ks->K6 ks (nd (List.range' s ks.length)) k=some (.int ((s+ix ks k:Nat):Int))
 | [],s,k,h=>by cases h
 | a::ks,s,k,h=>by
  rw[List.length_cons,List.range'_succ];show (if a=k then some (D.int (s:Int)) else K6 ks (nd (List.range' (s+1) ks.length)) k)=_;unfold ix
  by_cases e:a=k
  ·rw[if_pos e,if_pos e]
   rfl
  ·have hk:k∈ks:=(B4.mp h).resolve_left λz=>e z.symm
   rw[if_neg e,if_neg e,ld0 ks (s+1) k hk,show s+1+ix ks k=s+(ix ks k+1) by omega]
theorem fo0{ks:List Q4}{k:Q4}(h:k∈ks):K6 ks (nd (List.range ks.length)) k=some (.int (ix ks k:Int)):=by
 rw[List.range_eq_range',ld0 ks 0 k h,Nat.zero_add]
theorem af0(ks:List Q4)(k:Q4):M6 ks k=true↔k∈ks:=by
 unfold M6;rw[List.any_eq_true];constructor
 ·rintro⟨x,hx,e⟩
  rw[← of_decide_eq_true e];exact hx
 ·intro h
  exact⟨k,h,Y1 rfl⟩
theorem Vo0{ks:List Q4}{k:Q4}(h:k∉ks):M6 ks k=false:=by
 cases e:M6 ks k with
 | false=>rfl
 | true=>exact absurd ((af0 ks k).mp e) h
theorem gm0{ks:List Q4}{k:Q4}(h:k∉ks):(.dct (.inl (J5 ks k)) (zh0 ks (nd (List.range ks.length)) k (.int (ks.length:Int))):D)=pd (ks++[k]):=by
 unfold J5 zh0 pd;rw[Vo0 h,if_neg (by simp),if_neg (by simp),List.length_append,List.length_singleton,List.range_succ,vq0];rfl
theorem idx_map[DecidableEq α][DecidableEq β](f:α->β)(a:α):∀l:List α,(∀b∈l,f b=f a->b=a)->ix (l.map f) (f a)=ix l a
 | [],_=>rfl
 | b::l,h=>by
  rw[List.map_cons];unfold ix
  by_cases e:b=a
  ·rw[if_pos e,if_pos (by rw[e])]
  ·rw[if_neg e,if_neg (λz=>e (h b A9 z)),idx_map f a l λc hc=>h c (A7 _ hc)]
def kb(B:List Nat):List Q4:=B.map λ(k:Nat)=>(Sum.inl (k:Int):Q4)
theorem kb_mem(B:List Nat)(j:Nat):(Sum.inl (j:Int):Q4)∈kb B↔j∈B:=by
 unfold kb;rw[List.mem_map];constructor
 ·rintro⟨k,hk,e⟩
  have:(k:Int)=(j:Int):=by injection e
  have:k=j:=by omega
  rw[← this];exact hk
 ·exact λh=>⟨j,h,rfl⟩
theorem ln0(B:List Nat)(j:Nat):ix (kb B) (Sum.inl (j:Int):Q4)=ix B j:=idx_map (λ(k:Nat)=>(Sum.inl (k:Int):Q4)) j B λb _ e=>by
 have:(b:Int)=(j:Int):=by injection e
 omega
theorem p80(B:List Nat):(kb B).length=B.length:=by unfold kb;rw[List.length_map]
structure Wb(ps:List Pt):Prop where
 len:0<ps.length/\ps.length<=60
 it:∀p∈ps,Gq p
 lk:∀p∈ps,∀v∈p.vals,Bw.Lk ps.length v
theorem ws0(hj:j<ps.length):ixD (Bw.web ps) (.int (j:Int))=some (ps.getD j (.row [])).d/\ps.getD j (.row [])∈ps:=by
 constructor
 ·show atI (ps.map Pt.d) (j:Int)=_
  rw[z40 (by omega) (by rw[List.length_map];omega) .non,Int.toNat_natCast];simp[List.getD_eq_getElem?_getD,hj]
 ·rw[List.getD_eq_getElem?_getD,List.getElem?_eq_getElem hj]
  exact D3 hj
end Km
namespace Km
open DL W K22
open Bw (bs sg cnt kn its tx fold Vb Gp Gq two)
def lkd(j:Nat):D:=.tup [.str "at",.int (j:Int)]
theorem pv0(f:D->D):∀ps:List (Str×D),(ps.map (·.1)).zip ((ps.map (·.2)).map f)=ps.map λp=>(p.1,f p.2)
 | []=>rfl
 | p::ps=>by
  rw[List.map_cons,List.map_cons,List.map_cons,List.zip_cons_cons,pv0 f ps,List.map_cons]
theorem o00(f:D->D)(hf:∀s,f (.str s)=.str s):∀ps:List (Str×D),(ps.map λp=>(p.1,f p.2)).flatMap two=(ps.flatMap two).map f
 | []=>rfl
 | p::ps=>by
  rw[List.map_cons,List.flatMap_cons,o00 f hf ps,List.flatMap_cons,List.map_append];show[D.str p.1,f p.2]++_=[f (.str p.1),f p.2]++_;rw[hf]
theorem k40(π:Nat->Nat)(p:Pt):cnt (rel π p)=cnt p/\kn (rel π p)=kn p/\tx (rel π p)=tx p/\its (rel π p)=(its p).map (lkv π)/\(rel π p).vals=p.vals.map (lkv π)/\(rel π p).all=p.all:=by
 have hv:(rel π p).vals=p.vals.map (lkv π):=ck0 p _ (by rw[List.length_map]);cases p with
 | text w=>exact⟨rfl,rfl,rfl,rfl,hv,rfl⟩
 | row vs=>exact⟨by show (vs.map (lkv π)).length=vs.length;rw[List.length_map],rfl,rfl,rfl,hv,rfl⟩
 | table ps =>
  have e:rel π (.table ps)=.table (ps.map λp=>(p.1,lkv π p.2)):=E3 Pt.table (pv0 (lkv π) ps);refine⟨?_,rfl,rfl,?_,hv,?_⟩
  ·rw[e];show (ps.map λp=>(p.1,lkv π p.2)).length=ps.length;rw[List.length_map]
  ·rw[e];exact o00 (lkv π) (λ_=>rfl) ps
  ·rw[e];show (ps.map λp=>(p.1,lkv π p.2)).map (·.1)++[]=ps.map (·.1)++[];rw[List.map_map];rfl
 | rcd c ps =>
  have e:rel π (.rcd c ps)=.rcd c (ps.map λp=>(p.1,lkv π p.2)):=E3 (Pt.rcd c) (pv0 (lkv π) ps);refine⟨?_,rfl,rfl,?_,hv,?_⟩
  ·rw[e];show (ps.map λp=>(p.1,lkv π p.2)).length=ps.length;rw[List.length_map]
  ·rw[e]
   show D.str c::_=D.str c::(ps.flatMap two).map (lkv π);rw[← o00 (lkv π) (λ_=>rfl) ps]
  ·rw[e];show (ps.map λp=>(p.1,lkv π p.2)).map (·.1)++[c]=ps.map (·.1)++[c];rw[List.map_map];rfl
theorem fl0(π:Nat->Nat)(j:Nat):lkv π (lkd j)=lkd (π j):=by unfold lkd lkv;simp only[Int.toNat_natCast]
def laid(ps:List Pt)(L:List Nat):List Pt:=L.map λk=>rel (ix L) (ps.getD k (.row []))
theorem bw0(hw:Wb ps){L:List Nat}(h0:0<L.length/\L.length<=60)(hL:∀k∈L,k<ps.length)(hc:∀k∈L,∀i∈tgs (ps.getD k (.row [])).vals,i∈L):Wb (laid ps L):=by
 have hl:(laid ps L).length=L.length:=by unfold laid;rw[List.length_map]
 refine⟨by rw[hl];exact h0,λp hp=>?_,λp hp v hv=>?_⟩
 ·obtain⟨k,hk,rfl⟩:=B0.mp hp
  obtain⟨_,w2⟩:=ws0 (hL k hk);have hq:=hw.it _ w2;obtain⟨r1,_,_,_,r5,r6⟩:=k40 (ix L) (ps.getD k (.row []));refine⟨by rw[r1];exact hq.cnt,λv hv=>?_,by rw[r6];exact hq.names,by rw[r5,List.length_map];exact hq.few⟩;rw[r5] at hv;obtain⟨u,hu,rfl⟩:=B0.mp hv;have hb:=hq.vals u hu;cases hb with
  | non=>exact .non
  | lk i _ =>
   rw[show lkv (ix L) (.tup [.str "at",.int (i:Int)])=lkd (ix L i) from fl0 _ _];exact .lk _ (by have:=h90 (hc k hk i (ly0 hu));omega)
  | int z hz=>exact .int z hz
 ·obtain⟨k,hk,rfl⟩:=B0.mp hp
  obtain⟨_,w2⟩:=ws0 (hL k hk);obtain⟨_,_,_,_,r5,_⟩:=k40 (ix L) (ps.getD k (.row []));rw[r5] at hv;obtain⟨u,hu,rfl⟩:=B0.mp hv;have hb:=(hw.it _ w2).vals u hu;rw[hl];cases hb with
  | non=>exact λj e=>nomatch e
  | lk i _ =>
   rw[show lkv (ix L) (.tup [.str "at",.int (i:Int)])=lkd (ix L i) from fl0 _ _];exact Bw.b20 (h90 (hc k hk i (ly0 hu)))
  | int z hz=>exact λj e=>nomatch e
end Km
namespace K22
open Ga
open DL W
def kd(l:List Nat):List Q4:=l.map λ(i:Nat)=>Sum.inl (i:Int)
def td(l:List Nat):List D:=l.map λ_=>.bl true
theorem fa0(a b:List Nat):kd (a++b)=kd a++kd b:=by unfold kd;rw[List.map_append]
theorem pj0(o:List Nat)(x:Nat):M6 (kd o) (.inl (x:Int))=decide (x∈o):=by
 unfold M6 kd;rw[List.any_map];rw[Bool.eq_iff_iff,List.any_eq_true,decide_eq_true_eq];constructor
 ·rintro⟨y,hy,e⟩
  have e:=P6 e;injection e with e
  have:y=x:=by omega
  subst this;exact hy
 ·intro h;exact⟨x,h,Y1 rfl⟩
def MT:GB:=(ob (o2 (zt0 (oA (z7 (gv 5) v6) Z2)) (gc (.int 0)) gtD))
def MBg(gw:GE):GS:=(v9 (M3 (vi0 5) (gN 6))
 (v9 (ifD (rr0 (ob (o2 (gv 6) (gv 4) (xa0 true))))
 (v9 (M3 (J7 (gc (.bl true))) (putAt 4 (gv 6)))
 (v9 (Z0 (N6 3 (gv 6)))
 (v9 (Z0 (O7 5 (oA (z7 (oA (z7 gw v6) N8) v6) q60)))
 u9)))
 u9)
 u9))
def ms(W:D)(k l:Sl)(U o T:List Nat)(s:Sl):Ds:=[.sh W,k,l,.ow (.lst (nd o)),.ow (.dct (.inl (kd (U++o))) (nd U++td o)),.ow (.lst (nd T.reverse)),s]
section
variable{W:D}{k l:Sl}{U:List Nat}
theorem ik0(s:Sl)(o T:List Nat):MT (ms W k l U o T s)=some (decide (0<T.length)):=by
 have e:zt0 (oA (z7 (gv 5) v6) Z2) (ms W k l U o T s)=some (.int (T.length:Int)):=by
  show some (D.int ((nd T.reverse).length:Int))=_;rw[zj0,List.length_reverse]
 unfold MT ob;rw[p6 (x:=.int (T.length:Int)) (y:=.int 0) e rfl];show some (decide ((0:Int)<(T.length:Int)))=_;congr 1;rw[decide_eq_decide];omega
theorem Xe0(s:Sl)(o T:List Nat)(x:Nat):M3 (vi0 5) (gN 6) (ms W k l U o (x::T) s)=some (.nx (ms W k l U o T (.sh (.int (x:Int))))):=by
 have e1:owL 5 (ms W k l U o (x::T) s)=some (nd (x::T).reverse):=rfl;have e2:nd (x::T).reverse=nd T.reverse++[.int (x:Int)]:=by rw[List.reverse_cons,vq0];rfl
 unfold M3 vi0;rw[e1,Option.bind_some,e2,List.getLast?_concat,List.dropLast_concat];rfl
theorem cq0(o T:List Nat)(x:Nat):rr0 (ob (o2 (gv 6) (gv 4) (xa0 true))) (ms W k l U o T (.sh (.int (x:Int))))=some (decide (x∉U++o)):=by
 show some (xor true (M6 (kd (U++o)) (.inl (x:Int))))=_;rw[pj0,Bool.true_xor];congr 1
 by_cases h:x∈U++o
 ·rw[decide_eq_true h,decide_eq_false (λz=>z h)];rfl
 ·rw[decide_eq_false h,decide_eq_true h];rfl
theorem fr0{gw:GE}{P:Nat->Prop}{S:List Nat}(hS:∀y,y∈U↔y∈S)(hU:U.length<=1000)(hA:∀x,P x->∃d,(∀s1 s2 s3 s4 s5:Sl,gw [.sh W,s1,s2,s3,s4,s5,.sh (.int (x:Int))]=some d)/\N8 [d]=some (.lst (nd (adj x)))/\(adj x).length<=12/\∀j∈adj x,P j):∀{c:Nat} {o T r:List Nat},Dfs adj S c o T r->(∀x∈T,P x)->o.length+T.length<=10001->∀(m:Nat) (s:Sl),c<m->∃s',Y5 MT (MBg gw) m (ms W k l U o T s)=some (.nx (ms W k l U r [] s')):=by
 intro c o T r h
 induction h with
 | nil o =>
  intro _ _ m s hm;cases m with
  | zero=>omega
  | succ m =>
   refine⟨s,?_⟩;unfold Y5;rw[ik0];rfl
 | @skip c o T r x hx hd ih =>
  intro hT hl m s hm;cases m with
  | zero=>omega
  | succ m =>
   rw[List.length_cons] at hl;obtain⟨s',e⟩:=ih (λy hy=>hT y (A7 _ hy)) (by omega) m (.sh (.int (x:Int))) (by omega);refine⟨s',?_⟩;have J:x∈U++o:=B5.mpr (hx.symm.imp (hS x).mpr id);have eb:MBg gw (ms W k l U o (x::T) s)=some (.nx (ms W k l U o T (.sh (.int (x:Int))))) :=
    v8 (Xe0 s o T x) (v8 (δ':=ms W k l U o T (.sh (.int (x:Int)))) (by rw[Z8 (by rw[cq0,decide_eq_false (λz=>z J)])];rfl) rfl)
   unfold Y5;rw[ik0,decide_eq_true (by simp)];dsimp only;rw[eb];exact e
 | @visit c o T r x hx hxS hz hd ih =>
  intro hT hl m s hm;cases m with
  | zero=>omega
  | succ m =>
   have a1:=hT x A9;obtain⟨d,Y,O,a2,Z⟩:=hA x a1;have zs:(20000:Nat)<=sizeLine:=by decide
   rw[List.length_append] at hz;obtain⟨s',e⟩:=ih (λy hy=>by
    rcases B5.mp hy with q|q
    ·exact Z y q
    ·exact hT y (A7 _ q)) (by simp only[List.length_append,List.length_singleton];omega) m (.sh (.int (x:Int))) (by omega)
   refine⟨s',?_⟩;have J:x∉U++o:=λz=>(B5.mp z).elim (λq=>hxS ((hS x).mp q)) hx
   have p1:M3 (J7 (gc (.bl true))) (putAt 4 (gv 6)) (ms W k l U o T (.sh (.int (x:Int))))=some (.nx [.sh W,k,l,.ow (.lst (nd o)),.ow (.dct (.inl (kd (U++(o++[x])))) (nd U++td (o++[x]))),.ow (.lst (nd T.reverse)),.sh (.int (x:Int))]):=by
    have hk:M6 (kd (U++o)) (.inl (x:Int))=false:=by rw[pj0,decide_eq_false J]
    have e1:J5 (kd (U++o)) (.inl (x:Int))=kd (U++(o++[x])):=by
     unfold J5;rw[hk,if_neg (by simp),← List.append_assoc,fa0 (U++o)];rfl
    have e2:zh0 (kd (U++o)) (nd U++td o) (.inl (x:Int)) (.bl true)=nd U++td (o++[x]):=by
     unfold zh0;rw[hk,if_neg (by simp)];unfold td;rw[List.map_append,List.append_assoc];rfl
    unfold M3 J7;show ((if (kd (U++o)).length<sizeLine then some ([.sh W,k,l,.ow (.lst (nd o)),Sl.ow (.dct (.inl (J5 (kd (U++o)) (.inl (x:Int)))) (zh0 (kd (U++o)) (nd U++td o) (.inl (x:Int)) (.bl true))),.ow (.lst (nd T.reverse)),.sh (.int (x:Int))]) else none).map Res.nx)=_;rw[if_pos (by unfold kd;rw[List.length_map,List.length_append];omega),e1,e2];rfl
   have p2:Z0 (N6 3 (gv 6)) [.sh W,k,l,.ow (.lst (nd o)),.ow (.dct (.inl (kd (U++(o++[x])))) (nd U++td (o++[x]))),.ow (.lst (nd T.reverse)),.sh (.int (x:Int))]=some (.nx [.sh W,k,l,.ow (.lst (nd (o++[x]))),.ow (.dct (.inl (kd (U++(o++[x])))) (nd U++td (o++[x]))),.ow (.lst (nd T.reverse)),.sh (.int (x:Int))]):=by
    rw[Gw.xk0 (l:=nd o) (d:=.int (x:Int)) rfl rfl (by rw[zj0];omega),vq0];rfl
   have p3:Z0 (O7 5 (oA (z7 (oA (z7 gw v6) N8) v6) q60)) [.sh W,k,l,.ow (.lst (nd (o++[x]))),.ow (.dct (.inl (kd (U++(o++[x])))) (nd U++td (o++[x]))),.ow (.lst (nd T.reverse)),.sh (.int (x:Int))]=some (.nx (ms W k l U (o++[x]) (adj x++T) (.sh (.int (x:Int))))):=by
    have ev:oA (z7 (oA (z7 gw v6) N8) v6) q60 [.sh W,k,l,.ow (.lst (nd (o++[x]))),.ow (.dct (.inl (kd (U++(o++[x])))) (nd U++td (o++[x]))),.ow (.lst (nd T.reverse)),.sh (.int (x:Int))]=some (.lst (nd (adj x).reverse)):=by
     rw[p7 (ds:=[.lst (nd (adj x))]) (cons_of (d:=.lst (nd (adj x))) (by
      rw[p7 (ds:=[d]) (cons_of (d:=d) (Y _ _ _ _ _) rfl)];exact O) rfl)]
     show some (D.lst (nd (adj x)).reverse)=_;rw[Wd0]
    unfold Z0 O7;rw[ev];show Option.map _ (if (nd T.reverse).length+(nd (adj x).reverse).length<=sizeLine then _ else _)=_;rw[if_pos (by rw[zj0,zj0,List.length_reverse,List.length_reverse];omega),← vq0,← List.reverse_append];rfl
   have eb:MBg gw (ms W k l U o (x::T) s)=some (.nx (ms W k l U (o++[x]) (adj x++T) (.sh (.int (x:Int))))) :=
    v8 (Xe0 s o T x) (v8 (δ':=ms W k l U (o++[x]) (adj x++T) (.sh (.int (x:Int)))) (by
     rw[T3 (by rw[cq0,decide_eq_true J])];exact v8 p1 (v8 p2 (v8 p3 rfl))) rfl)
   unfold Y5;rw[ik0,decide_eq_true (by simp)];dsimp only;rw[eb];exact e
end
theorem nm0{S:List Nat}:∀{c:Nat} {o T r:List Nat},Dfs adj S c o T r->(∀i∈o,∀j∈adj i,j∈o∨j∈S∨j∈T)->(∃s,r=o++s)/\∀i∈r,∀j∈adj i,j∈r∨j∈S:=by
 intro c o T r h
 induction h with
 | nil o =>
  intro H;refine⟨⟨[],(List.append_nil o).symm⟩,λi hi j hj=>?_⟩;rcases H i hi j hj with q|q|q
  ·exact .inl q
  ·exact .inr q
  ·cases q
 | @skip c o T r x hx hd ih =>
  intro H;refine ih λi hi j hj=>?_
  rcases H i hi j hj with q|q|q
  ·exact .inl q
  ·exact .inr (.inl q)
  ·rcases B4.mp q with rfl|q
   ·exact hx.imp id .inl
   ·exact .inr (.inr q)
 | @visit c o T r x hx hxS hz hd ih =>
  intro H;obtain⟨⟨s,e⟩,h2⟩:=ih λi hi j hj=>by
   rcases B5.mp hi with hi|hi
   ·rcases H i hi j hj with q|q|q
    ·exact .inl (D6 _ q)
    ·exact .inr (.inl q)
    ·rcases B4.mp q with rfl|q
     ·exact .inl (by simp)
     ·exact .inr (.inr (C6 _ q))
   ·rw[List.mem_singleton.mp hi] at hj
    exact .inr (.inr (D6 _ hj))
  exact⟨⟨x::s,by rw[e,List.append_assoc];rfl⟩,h2⟩
end K22
namespace Km
open DL W K22
open Bw (bs sg cnt kn its tx fold Vb Gp Gq two)
theorem q40{L:List Nat}(hn:L.Nodup){k:Nat}(h:L[j]?=some k):k∉L.take j:=λz=>by
 obtain⟨i,hi,e⟩:=u3.mp z;obtain⟨hj,ej⟩:=C0.mp h;rw[List.length_take] at hi;rw[List.getElem_take] at e;exact List.pairwise_iff_getElem.mp hn i j (by omega) hj (by omega) (e.trans ej.symm)
theorem b00{v:D}(hb:Vb v)(hk:Bw.Lk n v):Lv n v:=by
 cases hb with
 | non=>exact .inl rfl
 | lk j _=>exact .inr (.inr ⟨j,rfl,hk j rfl⟩)
 | int z _=>exact .inr (.inl ⟨z,rfl⟩)
end Km
namespace Ia
open Ga
open DL W
def zq0:GZ:=(T4 (okZ (j6 (gN 2) (oA (z7 (gv 0) (z7 (gc (.int 0)) v6)) X3)))
 (T4 (ifZ (z00 (ob (o2 (gv 1) (gc (.int 0)) ltD)) (ob (o2 (gv 1) (o2 (gv 2) (gc (.int 0)) ixD) geD)))
 (T4 (kh0 "NoPlace")
 vg0)
 vg0)
 (T4 (okZ (j6 (gN 3) (o2 (gv 2) (gc (.int 1)) ixD)))
 (T4 (okZ (M5 4 (W5 v6)))
 (T4 (okZ (Y5 (ob (o2 (zt0 (oA (z7 (gv 4) v6) Z2)) (o2 (gv 2) (gc (.int 0)) ixD) ltD))
 (v9 (j6 (gN 5) (oA (z7 (gv 0) (z7 (gv 3) v6)) X3))
 (v9 (Z0 (N6 4 (o2 (gv 5) (gc (.int 0)) ixD)))
 (v9 (j6 (gN 3) (o2 (gv 5) (gc (.int 1)) ixD))
 u9))) 100000))
 (T4 (okZ (ie0 4 (M5 6 (W5 v6))))
 (T4 (okZ (J9 (zs0 (gv 4)) (gN 5)
 (v9 (Z0 (N6 6 (gv 3)))
 (v9 (rn0 3 (gv 5))
 u9))))
 (T4 (okZ (d9 (ui0 (gv 6))))
 vg0))))))))
def zo0:List Str:=["look", "k", "count", "place", "sizes", "size", "starts"]
def W8:List D->Option DX:=mkX 2 zo0 zq0
def v50:GZ:=(T4 (mj0 (gv 0) (z7 (gv 0) (z7 (gv 1) v6)) W8 (gv 1) S8)
 vg0)
def v30:List Str:=["look", "k"]
def W2:List D->Option DX:=mkX 2 v30 v50
end Ia
namespace Ia
open Ga
open DL W
open Bw (bs hi dg q20 it0 P0)
def Tel(F:D)(a:Nat)(l:List Int):Prop:=∀i (h:i<l.length),G4 F (.int ((a+i:Nat):Int))=some (.int l[i])
theorem Tel.left{a:Nat}{m:List Int}(h:Tel F a (l++m)):Tel F a l:=λi hi=>by
 have:=h i (by rw[List.length_append];omega)
 rwa [List.getElem_append_left hi] at this
theorem Tel.right{a:Nat}{m:List Int}(h:Tel F a (l++m)):Tel F (a+l.length) m:=λi hi=>by
 have:=h (l.length+i) (by rw[List.length_append];omega);rw[List.getElem_append_right (by omega)] at this;rw[show a+l.length+i=a+(l.length+i) from by omega,this];simp
theorem Tel.head{a:Nat}{x:Int}(h:Tel F a (x::l)):G4 F (.int (a:Int))=some (.int x):=h 0 (by simp)
theorem Tel.tail{a:Nat}{x:Int}(h:Tel F a (x::l)):Tel F (a+1) l:=Tel.right (l:=[x]) h
def NT:GB:=(ob (o2 (gv 3) (gc (.int 128)) geD))
def NB':GS:=(v9 (j6 (gN 2) (o2 (o2 (o2 (gv 2) (gc (.int 128)) U3) (gv 3) o9) (gc (.int 128)) xv0))
 (v9 (rn0 1 (gc (.int 1)))
 (v9 (j6 (gN 3) (o2 (gv 0) (gv 1) G4))
 u9)))
theorem nt(F:Sl)(a:Sl)(b:Sl)(z:Int):NT [F,a,b,.sh (.int z)]=some (decide (128<=z)):=P0 rfl
def val(m:Nat)(l:List Nat):Nat:=l.foldl (λm d=>m*128+d) m
def dgs(l:List Nat)(x:Nat):List Int:=l.map (λd=>((128+d:Nat):Int))++[(x:Int)]
theorem ar0(F:D)(d m a:Nat)(y':Int)(hcall:G4 F (.int ((a:Int)+1))=some (.int y')):NB' [.sh F,.sh (.int (a:Int)),.sh (.int (m:Int)),.sh (.int ((128+d:Nat):Int))]=some (.nx [.sh F,.sh (.int ((a+1:Nat):Int)),.sh (.int ((m*128+d:Nat):Int)),.sh (.int y')]):=by
 have e1:o2 (o2 (o2 (gv 2) (gc (.int 128)) U3) (gv 3) o9) (gc (.int 128)) xv0 [.sh F,.sh (.int (a:Int)),.sh (.int (m:Int)),.sh (.int ((128+d:Nat):Int))]=some (.int ((m*128+d:Nat):Int)):=by
  rw[p6 (x:=.int ((m:Int)*128+((128+d:Nat):Int))) (y:=.int 128) (by
   rw[p6 (x:=.int ((m:Int)*128)) (y:=.int ((128+d:Nat):Int)) (by
    rw[p6 (x:=.int (m:Int)) (y:=.int 128) rfl rfl];simp only[U3];rw[if_pos (.inr (by decide))]) rfl]
   rfl) rfl]
  show some (D.int ((m:Int)*128+((128+d:Nat):Int) - 128))=_;rw[show (m:Int)*128+((128+d:Nat):Int) - 128=((m*128+d:Nat):Int) by omega]
 refine v8 (m9 e1) (v8 (δ':=[.sh F,.sh (.int ((a:Int)+1)),.sh (.int ((m*128+d:Nat):Int)),.sh (.int ((128+d:Nat):Int))]) rfl (v8 (m9 (d:=.int y') ?_) ?_))
 ·rw[p6 (x:=F) (y:=.int ((a:Int)+1)) rfl rfl]
  exact hcall
 ·rw[show (a:Int)+1=((a+1:Nat):Int) by omega]
  rfl
def o30(l:List Nat)(x:Nat):Int:=match l with
 | []=>(x:Int)
 | d::_=>((128+d:Nat):Int)
theorem jz0(l:List Nat)(x:Nat):∃r,dgs l x=o30 l x::r:=by
 cases l with
 | nil=>exact⟨[],rfl⟩
 | cons d l=>exact⟨dgs l x,rfl⟩
theorem o70{gt:GB}{G:GS}{f:Nat}(h:gt δ=some false):Y5 gt G (f+1) δ=some (.nx δ):=by
 unfold Y5;rw[h]
theorem sk0{gt:GB}{G:GS}{f:Nat}(h:gt δ=some true)(hb:G δ=some (.nx δ')):Y5 gt G (f+1) δ=Y5 gt G f δ':=by
 conv=>lhs;unfold Y5
 rw[h];simp only[hb]
theorem go(F:D)(x:Nat)(hx:x<128):∀(l:List Nat) (m a:Nat) (f:Nat),l.length<f->Tel F a (dgs l x) ->
  Y5 NT NB' f [.sh F,.sh (.int (a:Int)),.sh (.int (m:Int)),.sh (.int (o30 l x))]=some (.nx [.sh F,.sh (.int ((a+l.length:Nat):Int)),.sh (.int (val m l:Int)),.sh (.int (x:Int))]):=by
 intro l
 induction l with
 | nil =>
  intro m a f hf ht;cases f with
  | zero=>exact absurd hf (M0 _)
  | succ f =>
   have t:NT [.sh F,.sh (.int (a:Int)),.sh (.int (m:Int)),.sh (.int (x:Int))]=some false:=by
    rw[nt,decide_eq_false (by omega)]
   exact o70 t
 | cons d l ih =>
  intro m a f hf ht;cases f with
  | zero=>exact absurd hf (M0 _)
  | succ f =>
   have O:Tel F (a+1) (dgs l x):=by
    have e:dgs (d::l) x=o30 (d::l) x::dgs l x:=rfl;rw[e] at ht;exact ht.tail
   obtain⟨r,hr⟩:=jz0 l x;have J:G4 F (.int ((a:Int)+1))=some (.int (o30 l x)):=by
    have h2:=O;rw[hr] at h2;have h3:=h2.head;rw[show (((a+1:Nat)):Int)=(a:Int)+1 by omega] at h3;exact h3
   have t:NT [.sh F,.sh (.int (a:Int)),.sh (.int (m:Int)),.sh (.int ((128+d:Nat):Int))]=some true:=by
    rw[nt,decide_eq_true (by omega)]
   have h1:=ih (m*128+d) (a+1) f (by rw[List.length_cons] at hf;omega) O;have h2:=(sk0 (f:=f) t (ar0 F d m a _ J)).trans h1;rw[show a+1+l.length=a+(d::l).length by rw[List.length_cons];omega] at h2;exact h2
theorem Vf0:∀(k r:Nat),r<2 ^ k->∃l:List Nat,(∀d∈l,d<128)/\hi r=l.map (λd=>((128+d:Nat):Int))/\val 0 l=r/\l.length<=k:=by
 intro k
 induction k with
 | zero =>
  intro r h;have:r=0:=by simpa using h
  subst this;exact⟨[],λd hd=>(by cases hd),q20,rfl,A1 _⟩
 | succ k ih =>
  intro r h
  by_cases h0:r=0
  ·subst h0
   exact⟨[],λd hd=>(by cases hd),q20,rfl,B9 _⟩
  ·have:2 ^ (k+1)=2 ^ k*2:=c5 2 k
   obtain⟨l,h1,h2,h3,h4⟩:=ih (r/128) (by omega);refine⟨l++[r%128],λd hd=>?_,?_,?_,by simp;omega⟩
   ·rcases B5.mp hd with q|q
    ·exact h1 d q
    ·rw[List.mem_singleton.mp q];omega
   ·rw[it0 r h0,h2,List.map_append]
    rfl
   ·unfold val at h3 ⊢
    rw[List.foldl_append,h3];show r/128*128+r%128=r;omega
theorem u40{a:Nat}(hn:n<2 ^ 300)(h:Tel F a (bs n)):X3 [F,.int (a:Int)]=some (.tup [.int (n:Int),.int ((a+(bs n).length:Nat):Int)]):=by
 have z:(1000:Nat)<=sizeLine:=by decide
 obtain⟨l,h1,h2,h3,h4⟩:=Vf0 300 (n/128) (by omega);have e:bs n=dgs l (n%128):=by unfold Bw.bs dgs;rw[h2]
 rw[e] at h;obtain⟨r,hr⟩:=jz0 l (n%128);have hc:G4 F (.int (a:Int))=some (.int (o30 l (n%128))):=by
  have h2:=h;rw[hr] at h2;exact h2.head
 have hl:(bs n).length=l.length+1:=by rw[e];unfold dgs;simp
 refine j9 rfl (v8 (m9 (d:=.int 0) rfl) (v8 (m9 (d:=.int (o30 l (n%128))) ?_) (v8 (δ':=[.sh F,.sh (.int ((a+l.length:Nat):Int)),.sh (.int (val 0 l:Int)),.sh (.int ((n%128:Nat):Int))]) ?_ (o4 (d7 ?_)))))
 ·rw[p6 (x:=F) (y:=.int (a:Int)) rfl rfl]
  exact hc
 ·exact go F (n%128) (by omega) l 0 a 100000 (by omega) h
 ·refine Q5 (cons_of (d:=.int (n:Int)) ?_ (cons_of (d:=.int ((a+(bs n).length:Nat):Int)) ?_ rfl)) (by show 2<=sizeLine;omega)
  ·rw[p6 (x:=.int ((val 0 l:Int)*128)) (y:=.int ((n%128:Nat):Int)) (by
    rw[p6 (x:=.int (val 0 l:Int)) (y:=.int 128) rfl rfl];simp only[U3];rw[if_pos (.inr (by decide))]) rfl,h3]
   show some (D.int (((n/128:Nat):Int)*128+((n%128:Nat):Int)))=_;rw[show ((n/128:Nat):Int)*128+((n%128:Nat):Int)=(n:Int) by omega]
  ·show some (D.int (((a+l.length:Nat):Int)+1))=_
   rw[hl,show ((a+l.length:Nat):Int)+1=((a+(l.length+1):Nat):Int) by omega]
theorem cd0(hn:n<2 ^ 300)(h:Tel F 0 (bs n)):yi0 [F]=some (.int (n:Int)):=by
 refine j9 rfl (o4 (d7 ?_));rw[p6 (x:=.tup [.int (n:Int),.int ((0+(bs n).length:Nat):Int)]) (y:=.int 0) (by rw[p7 (ds:=[F,.int 0]) rfl];exact u40 (a:=0) hn h) rfl];rfl
end Ia
namespace Ia
open Ga
open DL W
theorem U20{gA:GA}(h:gA δ=some [.int (i:Int),.int (j:Int)])(h1:i<=2000000)(h2:j<=2000000):qn0 gA δ=some (V9 (i:Int) (j:Int)):=by
 unfold qn0;rw[h,Option.bind_some];have c:(2000000:Int)<2 ^ 62:=by decide
 have c0:-(2 ^ 62)<=(0:Int):=by decide
 have a1:(i:Int)<=2000000:=by omega
 have a2:(j:Int)<=2000000:=by omega
 have b1:-(2 ^ 62)<=(i:Int)/\(i:Int)<2 ^ 62:=⟨Int.le_trans c0 (v3 i),w4 a1 c⟩;have b2:-(2 ^ 62)<=(j:Int)/\(j:Int)<2 ^ 62:=⟨Int.le_trans c0 (v3 j),w4 a2 c⟩;simp only[g90];rw[if_pos ⟨b1,b2⟩]
end Ia
namespace Ia
open Ga
open DL W
open Bw (Vb fold vn P0)
theorem Xa0(z:Int):w90 [.int (fold z:Int)]=some (.int z):=by
 have t:ob (o2 (o2 (gv 0) (gc (.int 2)) Z6) (gc (.int 1)) eqD) [.sh (.int (fold z:Int))]=some (decide ((fold z:Int)%2=1)):=P0 (by
  rw[p6 (x:=.int ((fold z:Int)%2)) (y:=.int 1) rfl rfl];rfl)
 by_cases h:z<0
 ·have e:(fold z:Int)=-2*z - 1:=by unfold Bw.fold;rw[if_pos h];omega
  refine j9 rfl (o4 ?_);show ifD _ _ _ [.sh (.int (fold z:Int))]=_;rw[T3 (by rw[t,decide_eq_true (by omega)])];refine o4 (d7 ?_);show some (D.int (-((fold z:Int)/2) - 1))=_;rw[e,show -((-2*z - 1)/2) - 1=z by omega]
 ·have e:(fold z:Int)=2*z:=by unfold Bw.fold;rw[if_neg h];omega
  refine j9 rfl (v8 (δ':=[.sh (.int (fold z:Int))]) ?_ (o4 (d7 ?_)))
  ·show ifD _ _ _ [.sh (.int (fold z:Int))]=_
   rw[Z8 (by rw[t,decide_eq_false (by omega)])];rfl
  ·show some (D.int ((fold z:Int)/2))=_
   rw[e,show 2*z/2=z by omega]
theorem Zb0{v:D}(h:Vb v):J8 [.int (vn v:Int)]=some v:=by
 have z:(1000:Nat)<=sizeLine:=by decide
 have t1:∀n:Int,ob (o2 (gv 0) (gc (.int 0)) eqD) [.sh (.int n)]=some (decide (n=0)):=λn=>P0 rfl
 have t2:∀n:Int,ob (o2 (o2 (gv 0) (gc (.int 2)) Z6) (gc (.int 0)) eqD) [.sh (.int n)]=some (decide (n%2=0)):=λn=>P0 (by
  rw[p6 (x:=.int (n%2)) (y:=.int 0) rfl rfl];rfl)
 cases h with
 | non =>
  refine j9 rfl (o4 ?_);show ifD _ _ _ [.sh (.int 0)]=_;rw[T3 (by rw[t1,decide_eq_true rfl])];rfl
 | lk j hj =>
  have e:((vn (.tup [.str "at",.int (j:Int)]):Nat):Int)=2*(j:Int)+2:=by show (((2*(j:Int)+2).toNat:Nat):Int)=_;omega
  rw[e];refine j9 rfl (v8 (δ':=[.sh (.int (2*(j:Int)+2))]) ?_ (o4 ?_))
  ·show ifD _ _ _ [.sh (.int (2*(j:Int)+2))]=_
   rw[Z8 (by rw[t1,decide_eq_false (by omega)])];rfl
  ·show ifD _ _ _ [.sh (.int (2*(j:Int)+2))]=_
   rw[T3 (by rw[t2,decide_eq_true (by omega)])];refine o4 (d7 (Q5 (cons_of rfl (cons_of (d:=.int (j:Int)) ?_ rfl)) (by show 2<=sizeLine;omega)));show some (D.int ((2*(j:Int)+2)/2 - 1))=_;rw[show (2*(j:Int)+2)/2 - 1=(j:Int) by omega]
 | int x hx =>
  have e:((vn (.int x):Nat):Int)=2*(fold x:Int)+1:=by show ((2*fold x+1:Nat):Int)=_;omega
  rw[e];refine j9 rfl (v8 (δ':=[.sh (.int (2*(fold x:Int)+1))]) ?_ (v8 (δ':=[.sh (.int (2*(fold x:Int)+1))]) ?_ (o4 (d7 ?_))))
  ·show ifD _ _ _ [.sh (.int (2*(fold x:Int)+1))]=_
   rw[Z8 (by rw[t1,decide_eq_false (by omega)])];rfl
  ·show ifD _ _ _ [.sh (.int (2*(fold x:Int)+1))]=_
   rw[Z8 (by rw[t2,decide_eq_false (by omega)])];rfl
  ·rw[p7 (ds:=[.int (fold x:Int)]) (cons_of (by
    show some (D.int ((2*(fold x:Int)+1)/2))=_;rw[show (2*(fold x:Int)+1)/2=(fold x:Int) by omega]) rfl)]
   exact Xa0 x
end Ia
namespace Ia
open Ga
open DL W
open Bw (P0)
def SB:GS:=(v9 (ifD (ob (o2 (oA (z7 (gv 2) v6) th0) (gv 0) eqD))
 (v9 (d9 (gv 2))
 u9)
 u9)
 u9)
theorem W70(c e:Nat)(S:Sl):ob (o2 (oA (z7 (gv 2) v6) th0) (gv 0) eqD) [.sh (.int (c:Int)),S,.sh (.str ⟨#[e]⟩)]=some (decide ((e:Int)=(c:Int))):=P0 (by
 rw[p6 (x:=.int (e:Int)) (y:=.int (c:Int)) rfl rfl];rfl)
theorem mv0(c:Nat)(S:Sl):∀(l:List Nat) (s:Sl),c∈l->N7 (gN 2) SB (l.map λe=>D.str ⟨#[e]⟩) [.sh (.int (c:Int)),S,s]=some (.rt (.str ⟨#[c]⟩))
 | [],s,h=>by cases h
 | e::l,s,h=>by
  rw[List.map_cons,N7];show (match SB [.sh (.int (c:Int)),S,.sh (.str ⟨#[e]⟩)] with
   | some (.nx δn)=>N7 (gN 2) SB (l.map λe=>D.str ⟨#[e]⟩) δn
   | some (.ct δn)=>N7 (gN 2) SB (l.map λe=>D.str ⟨#[e]⟩) δn
   | some (.bk δn)=>some (.nx δn)
   | r=>r)=_
  by_cases hc:e=c
  ·subst hc
   have b:SB [.sh (.int (e:Int)),S,.sh (.str ⟨#[e]⟩)]=some (.rt (.str ⟨#[e]⟩)):=by
    refine o4 ?_;rw[T3 (by rw[W70,decide_eq_true rfl])];rfl
   rw[b]
  ·have b:SB [.sh (.int (c:Int)),S,.sh (.str ⟨#[e]⟩)]=some (.nx [.sh (.int (c:Int)),S,.sh (.str ⟨#[e]⟩)]):=by
    refine v8 (δ':=[.sh (.int (c:Int)),S,.sh (.str ⟨#[e]⟩)]) ?_ rfl;rw[Z8 (by rw[W70,decide_eq_false (by omega)])];rfl
   rw[b];exact mv0 c S l _ ((B4.mp h).resolve_left λz=>hc z.symm)
theorem jf0(x:Str)(c:Nat)(h:c∈x.cps.toList):zz0 [.int (c:Int),.str x]=some (.str ⟨#[c]⟩):=by
 refine j9 rfl (o4 (O6 (items:=x.cps.toList.map λe=>D.str ⟨#[e]⟩) rfl (mv0 c _ _ _ h)))
end Ia
namespace Ia
open Ga
open DL W
open Bw (sg P0)
theorem qw0{f:D->Ds->Option Ds}{gt:GB}{ge:GE}(r h:Nat->D):∀l:List Nat,(∀j∈l,∃δ',f (r j) δ=some δ'/\gt δ'=some true/\ge δ'=some (h j))->T8 f gt ge δ (l.map r)=some (l.map h)
 | [],_=>rfl
 | j::l,H=>by
  obtain⟨δ',e1,e2,e3⟩:=H j A9;have ih:=qw0 r h l λi hi=>H i (A7 _ hi)
  rw[List.map_cons];unfold T8;rw[e1];dsimp only;rw[e2];dsimp only;rw[e3,ih];rfl
theorem ah0{a:Nat}{s:Str}(hs:s.length<=20)(ha:a<=1900000)(h:Tel F a (sg s))(hc:∀c∈s.cps.toList,c∈nameS.cps.toList):vb0 [F,.int (a:Int),.int (s.length:Int)]=some (.str s):=by
 have z:(1000:Nat)<=sizeLine:=by decide
 obtain⟨l,hl⟩:∃l:List Nat,l=s.cps.toList:=⟨_,rfl⟩;have ll:l.length=s.length:=by rw[hl];rfl
 have es:s=strOf l:=by unfold strOf;rw[hl]
 refine j9 rfl (o4 (d7 ?_))
 change zl0 _ _ [.sh F,.sh (.int (a:Int)),.sh (.int (s.length:Int))]=_
 rw[sd0 (x:=.str "") (ds:=[.lst ((ones l).map .str)]) rfl (cons_of (U8 (items:=V9 (a:Int) ((a+s.length:Nat):Int)) (U20 (i:=a) (j:=a+s.length) (cons_of rfl (cons_of (by
   show some (D.int ((a:Int)+(s.length:Int)))=_;rw[show (a:Int)+(s.length:Int)=((a+s.length:Nat):Int) by omega]) rfl)) (by omega) (by omega)) (by unfold V9;rw[List.length_map,List.length_range];omega) (by
   have e0:(ones l).map D.str=(List.range s.length).map λj=>D.str ⟨#[l.getD j 0]⟩:=by
    refine C40 (by unfold ones;simp[ll]) λi h1 h2=>?_
    have hi:i<l.length:=by rw[List.length_map,List.length_range] at h2;omega
    unfold ones;simp[hi]
   have e1:V9 (a:Int) ((a+s.length:Nat):Int)=(List.range s.length).map λ(k:Nat)=>D.int ((a:Int)+(k:Int)):=by
    unfold V9;rw[show (((a+s.length:Nat):Int) - (a:Int)).toNat=s.length by omega]
   rw[e0,e1];refine qw0 _ _ _ λj hj=>⟨[.sh (.int ((a:Int)+(j:Int))),.sh F],rfl,rfl,?_⟩
   have hj:j<s.length:=C8.mp hj;have J:j<l.length:=by omega
   have ej:l.getD j 0=l[j]:=by simp[J]
   rw[p7 (ds:=[.int ((l.getD j 0:Nat):Int),.str nameS]) (cons_of (by
    rw[p6 (x:=F) (y:=.int ((a:Int)+(j:Int))) rfl rfl,show (a:Int)+(j:Int)=((a+j:Nat):Int) by omega];have q:=h j (by rw[Bw.yl0];exact hj);rw[q,ej];have:(sg s)[j]'(by rw[Bw.yl0];exact hj)=((l[j]:Nat):Int):=by
     unfold Bw.sg;rw[List.getElem_map];subst hl;rfl
    rw[this]) rfl)]
   exact jf0 nameS _ (hc _ (by rw[ej,← hl];exact D3 _)))) rfl)]
 have e1:=strs_map id (ones l);have O:z50 ((ones l).map D.str)=some (ones l):=by simpa using e1
 simp only[ug0];rw[O,Option.bind_some,xh0,join_ones,if_pos (by
  have:("" : PySem.Str).length=0:=by decide +kernel
  rw[this];omega),es]
end Ia
namespace Ia
open Ga
open DL W
open Bw (sg P0 bs vn Vb ql0 small)
theorem uu0{F:Sl}{p s3:Sl}:ob (o2 (gv 2) (gc (.str y)) eqD) [F,p,.sh (.str x),s3]=some (decide (x=y)):=P0 rfl
theorem Z70{a c:Nat}(h:Tel F a [(c:Int)])(hc:c∈v60.cps.toList):J3 [F,.int (a:Int),.str "sign"]=some (.tup [.str ⟨#[c]⟩,.int ((a+1:Nat):Int)]):=by
 have z:(1000:Nat)<=sizeLine:=by decide
 refine j9 rfl (o4 ?_)
 change ifD _ _ _ [.sh F,.sh (.int (a:Int)),.sh (.str "sign"),.un]=_
 rw[T3 (by rw[uu0,decide_eq_true rfl])];refine o4 (d7 (Q5 (cons_of (d:=.str ⟨#[c]⟩) ?_ (cons_of (d:=.int ((a+1:Nat):Int)) ?_ rfl)) (by show 2<=sizeLine;omega)))
 ·rw[p7 (ds:=[.int (c:Int),.str v60]) (cons_of (by rw[p6 (x:=F) (y:=.int (a:Int)) rfl rfl];exact h.head) rfl)]
  exact jf0 v60 c hc
 ·show some (D.int ((a:Int)+1))=_
  rw[show (a:Int)+1=((a+1:Nat):Int) by omega]
theorem d90{a:Nat}{v:D}(hv:Vb v)(h:Tel F a (bs (vn v))):J3 [F,.int (a:Int),.str "value"]=some (.tup [v,.int ((a+(bs (vn v)).length:Nat):Int)]):=by
 have z:(1000:Nat)<=sizeLine:=by decide
 have hn:=u40 (ql0 hv) h;refine j9 rfl (v8 (δ':=[.sh F,.sh (.int (a:Int)),.sh (.str "value"),.un]) ?_ (v8 (m9 (d:=.tup [.int (vn v:Int),.int ((a+(bs (vn v)).length:Nat):Int)]) ?_) (o4 ?_)))
 ·change ifD _ _ _ [.sh F,.sh (.int (a:Int)),.sh (.str "value"),.un]=_
  rw[Z8 (by rw[uu0,decide_eq_false (by decide +kernel)])];rfl
 ·rw[p7 (ds:=[F,.int (a:Int)]) rfl]
  exact hn
 ·change ifD _ _ _ [.sh F,.sh (.int (a:Int)),.sh (.str "value"),.sh (.tup [.int (vn v:Int),.int ((a+(bs (vn v)).length:Nat):Int)])]=_
  rw[T3 (by rw[uu0,decide_eq_true rfl])];refine o4 (d7 (Q5 (cons_of (d:=v) ?_ (cons_of rfl rfl)) (by show 2<=sizeLine;omega)));rw[p7 (ds:=[.int (vn v:Int)]) (cons_of (by rw[p6 (x:=.tup [.int (vn v:Int),.int ((a+(bs (vn v)).length:Nat):Int)]) (y:=.int 0) rfl rfl];rfl) rfl)];exact Zb0 hv
theorem ax0{a:Nat}{s:Str}{w:Str}(hw1:w ≠"sign")(hw2:w ≠"value")(hs:s.length<=20)(ha:a<=1800000)(h:Tel F a (bs s.length++sg s))(hc:∀c∈s.cps.toList,c∈nameS.cps.toList) :
  J3 [F,.int (a:Int),.str w]=some (.tup [.str s,.int ((a+(bs s.length++sg s).length:Nat):Int)]):=by
 have z:(1000:Nat)<=sizeLine:=by decide
 have J:s.length<2 ^ 300:=small (by omega);have hn:=u40 J h.left;have hl:=Bw.O4 s.length J;have hm:=ah0 hs (a:=a+(bs s.length).length) (by omega) h.right hc;refine j9 rfl (v8 (δ':=[.sh F,.sh (.int (a:Int)),.sh (.str w),.un]) ?_ (v8 (m9 (d:=.tup [.int (s.length:Int),.int ((a+(bs s.length).length:Nat):Int)]) ?_) (v8 (δ':=[.sh F,.sh (.int (a:Int)),.sh (.str w),.sh (.tup [.int (s.length:Int),.int ((a+(bs s.length).length:Nat):Int)])]) ?_ (o4 (d7 ?_)))))
 ·change ifD _ _ _ [.sh F,.sh (.int (a:Int)),.sh (.str w),.un]=_
  rw[Z8 (by rw[uu0,decide_eq_false hw1])];rfl
 ·rw[p7 (ds:=[F,.int (a:Int)]) rfl]
  exact hn
 ·change ifD _ _ _ [.sh F,.sh (.int (a:Int)),.sh (.str w),.sh (.tup [.int (s.length:Int),.int ((a+(bs s.length).length:Nat):Int)])]=_
  rw[Z8 (by rw[uu0,decide_eq_false hw2])];rfl
 ·refine Q5 (cons_of (d:=.str s) ?_ (cons_of (d:=.int ((a+(bs s.length++sg s).length:Nat):Int)) ?_ rfl)) (by show 2<=sizeLine;omega)
  ·rw[p7 (ds:=[F,.int ((a+(bs s.length).length:Nat):Int),.int (s.length:Int)]) rfl]
   exact hm
  ·show some (D.int (((a+(bs s.length).length:Nat):Int)+(s.length:Int)))=_
   rw[List.length_append,Bw.yl0,show ((a+(bs s.length).length:Nat):Int)+(s.length:Int)=((a+((bs s.length).length+s.length):Nat):Int) by omega]
end Ia
namespace Ia
open Ga
open DL W
def PAB:GS:=(v9 (j6 (gN 7) (oA (z7 (gv 0) (z7 (gv 4) (z7 (gv 6) v6))) J3))
 (v9 (Z0 (N6 5 (o2 (gv 7) (gc (.int 0)) ixD)))
 (v9 (j6 (gN 4) (o2 (gv 7) (gc (.int 1)) ixD))
 u9)))
structure Itm where
 w:Str
 d:D
 b:List Int
def Itm.ok(F:D)(t:Itm):Prop:=∀a:Nat,a<=1800000->Tel F a t.b->J3 [F,.int (a:Int),.str t.w]=some (.tup [t.d,.int ((a+t.b.length:Nat):Int)])
theorem items_go(F:D)(b c k:Sl):∀(l:List Itm) (a:Nat) (held:List D) (s6 s7:Sl),(∀t∈l,t.ok F)->Tel F a (l.flatMap Itm.b)->a+(l.flatMap Itm.b).length<=1800000->held.length+l.length<sizeLine ->
  ∃s6' s7',N7 (gN 6) PAB (l.map λt:Itm=>D.str t.w) [.sh F,b,c,k,.sh (.int (a:Int)),.ow (.lst held),s6,s7]=some (.nx [.sh F,b,c,k,.sh (.int ((a+(l.flatMap Itm.b).length:Nat):Int)),.ow (.lst (held++l.map Itm.d)),s6',s7'])
 | [],a,held,s6,s7,_,_,_,_=>⟨s6,s7,by simp[N7]⟩
 | t::l,a,held,s6,s7,ho,ht,hb,hl=>by
  rw[List.flatMap_cons] at ht hb ⊢;rw[List.length_append] at hb ⊢;have h1:=ho t A9 a (by omega) ht.left;obtain⟨s6',s7',ih⟩:=items_go F b c k l (a+t.b.length) (held++[t.d]) (.sh (.str t.w)) (.sh (.tup [t.d,.int ((a+t.b.length:Nat):Int)])) (λu hu=>ho u (A7 _ hu)) ht.right (by omega) (by simp only[List.length_append,List.length_cons,List.length_nil] at hl ⊢;omega);refine⟨s6',s7',?_⟩;have body:PAB [.sh F,b,c,k,.sh (.int (a:Int)),.ow (.lst held),.sh (.str t.w),s7]=some (.nx [.sh F,b,c,k,.sh (.int ((a+t.b.length:Nat):Int)),.ow (.lst (held++[t.d])),.sh (.str t.w),.sh (.tup [t.d,.int ((a+t.b.length:Nat):Int)])]):=by
   refine v8 (m9 (d:=.tup [t.d,.int ((a+t.b.length:Nat):Int)]) ?_) (v8 (Gw.xk0 (l:=held) (d:=t.d) rfl rfl (by rw[List.length_cons] at hl;omega)) rfl);rw[p7 (ds:=[F,.int (a:Int),.str t.w]) rfl];exact h1
  rw[List.map_cons,N7];show (match PAB [.sh F,b,c,k,.sh (.int (a:Int)),.ow (.lst held),.sh (.str t.w),s7] with
   | some (.nx δn)=>N7 (gN 6) PAB (l.map λt:Itm=>D.str t.w) δn
   | some (.ct δn)=>N7 (gN 6) PAB (l.map λt:Itm=>D.str t.w) δn
   | some (.bk δn)=>some (.nx δn)
   | r=>r)=_
  rw[body];show N7 (gN 6) PAB (l.map λt:Itm=>D.str t.w) _=_;rw[ih,List.append_assoc,Nat.add_assoc];rfl
end Ia
namespace Ia
open Ga
open DL W
open Bw (P0)
theorem p00{s1:Sl}:ob (o2 (gv 0) (gc (.str y)) eqD) [.sh (.str x),s1]=some (decide (x=y)):=P0 rfl
theorem ef0(xs:List D)(n:Nat)(hn:n<=100)(h0:xs≠[])(hx:xs.length<=2):mulL (.lst xs) (.int (n:Int))=some (.lst (List.replicate n xs).flatten):=by
 have h1:xs.length*n<=2*100:=Nat.mul_le_mul hx hn;have c:(100:Int)<2 ^ 62:=by decide
 have c2:(2:Nat)*100<=2 ^ 20:=by decide
 have q1:(0:Int)<=(n:Int):=v3 n;have q2:(n:Int)<2 ^ 62:=w4 (by omega) c;have q3:xs.length*((n:Int)).toNat<=2 ^ 20:=by rw[Int.toNat_natCast];exact C5 h1 c2
 simp only[mulL];rw[if_pos ⟨h0,q1,q2,q3⟩,Int.toNat_natCast]
def kw:Nat->Str
 | 0 => "text"
 | 1 => "row"
 | 2 => "table"
 | _ => "record"
def wnt:Nat->Nat->List D
 | 0,n=>(List.replicate n [D.str "sign"]).flatten
 | 1,n=>(List.replicate n [D.str "value"]).flatten
 | 2,n=>(List.replicate n [D.str "name",.str "value"]).flatten
 | _,n=>D.str "class"::(List.replicate n [D.str "name",.str "value"]).flatten
theorem br0(k n:Nat)(hk:k<=3)(hn:n<=100):J2 [.str (kw k),.int (n:Int)]=some (.lst (wnt k n)):=by
 have z:(1000:Nat)<=sizeLine:=by decide
 have m1:∀(w:Str) (δ0:Sl),o2 (W5 (z7 (gc (.str w)) v6)) (gv 1) mulL [δ0,.sh (.int (n:Int))]=some (.lst (List.replicate n [D.str w]).flatten):=λw δ0=>by
  rw[p6 (x:=.lst [.str w]) (y:=.int (n:Int)) (s50 rfl (by show 1<=sizeLine;omega)) rfl];exact ef0 _ n hn (by simp) (by simp)
 have m2:∀(δ0:Sl),o2 (W5 (z7 (gc (.str "name")) (z7 (gc (.str "value")) v6))) (gv 1) mulL [δ0,.sh (.int (n:Int))]=some (.lst (List.replicate n [D.str "name",.str "value"]).flatten):=fun δ0=>by
  rw[p6 (x:=.lst [.str "name",.str "value"]) (y:=.int (n:Int)) (s50 rfl (by show 2<=sizeLine;omega)) rfl];exact ef0 _ n hn (by simp) (by simp)
 have f:∀(x y:Str) (G:GS),x≠y->ifD (ob (o2 (gv 0) (gc (.str y)) eqD)) G u9 [.sh (.str x),.sh (.int (n:Int))]=some (.nx [.sh (.str x),.sh (.int (n:Int))]):=λx y G h=>by
  rw[Z8 (by rw[p00,decide_eq_false h])];rfl
 have t:∀(x:Str) (G:GS),ifD (ob (o2 (gv 0) (gc (.str x)) eqD)) G u9 [.sh (.str x),.sh (.int (n:Int))]=G [.sh (.str x),.sh (.int (n:Int))]:=λx G=>T3 (by rw[p00,decide_eq_true rfl])
 match k,hk with
 | 0,_=>exact j9 rfl (o4 ((t "text" _).trans (o4 (d7 (m1 _ _)))))
 | 1,_=>exact j9 rfl (v8 (f "row" "text" _ (by decide +kernel)) (o4 ((t "row" _).trans (o4 (d7 (m1 _ _))))))
 | 2,_=>exact j9 rfl (v8 (f "table" "text" _ (by decide +kernel)) (v8 (f "table" "row" _ (by decide +kernel)) (o4 ((t "table" _).trans (o4 (d7 (m2 _)))))))
 | 3,_ =>
  refine j9 rfl (v8 (f "record" "text" _ (by decide +kernel)) (v8 (f "record" "row" _ (by decide +kernel)) (v8 (f "record" "table" _ (by decide +kernel)) (o4 (d7 ?_)))));rw[p6 (x:=.lst [.str "class"]) (y:=.lst (List.replicate n [D.str "name",.str "value"]).flatten) (s50 rfl (by show 1<=sizeLine;omega)) (m2 _)];simp only[o9];rw[if_pos (by simp;omega)];rfl
end Ia
namespace Ia
open Ga
open DL W
open Bw (two)
theorem i40(l:List D)(lo:Nat)(h:lo<=l.length):O8 l (some (lo:Int)) none (some 2)=(List.range ((l.length - lo+1)/2)).filterMap λk=>l[lo+2*k]?:=by
 have e:sliceBounds (some (lo:Int)) none (some 2) l.length=((lo:Int),(l.length:Int),2):=by
  unfold sliceBounds;have h2:¬((lo:Int)<0):=by omega
  have h3:(2:Int) > 0:=by decide
  simp only[Option.getD_some,if_neg h2,if_pos h3];have:max (0:Int) (min (lo:Int) (l.length:Int))=(lo:Int):=by omega
  rw[this]
 unfold O8;rw[e];unfold sliceRange;simp only;rw[if_pos (by decide),List.filterMap_map];have c:(if (lo:Int)<(l.length:Int) then ((l.length:Int) - (lo:Int)+2 - 1)/2 else 0).toNat=(l.length - lo+1)/2:=by
  split<;>omega
 rw[c];have fe:((λx:Nat=>l[x]?) ∘ λk:Nat=>((lo:Int)+2*(k:Int)).toNat)=λk=>l[lo+2*k]?:=by
  funext k
  show l[((lo:Int)+2*(k:Int)).toNat]?=_;rw[show ((lo:Int)+2*(k:Int)).toNat=lo+2*k by omega]
 rw[fe]
end Ia
namespace Ia
open Ga
open DL W
open Bw (two K9 sg bs vn ib pb cnt kn its tx Gq Gs)
theorem dp0(xs:List D)(k:Int)(h:0<=k):cutD xs (some k) none=xs.drop k.toNat:=by
 unfold cutD sIx;simp only[];rw[if_neg (by omega)]
 by_cases q:k.toNat<=xs.length
 ·rw[Nat.min_eq_left q,List.take_of_length_le (by rw[List.length_drop];exact A1 _)]
 ·rw[Nat.min_eq_right (by omega),List.drop_of_length_le (A1 _),List.drop_of_length_le (by omega),List.take_nil]
theorem V60{g gk:GE}{xs:List D}{k:Nat}(h1:g δ=some (.lst xs))(h2:gk δ=some (.int (k:Int))):xq0 g (someO gk) z10 δ=some (.lst (xs.drop k)):=by
 unfold xq0 someO;rw[h1,h2];show slA (.lst xs) (some (k:Int)) none=_;simp only[slA];rw[dp0 _ _ (by omega),Int.toNat_natCast]
theorem k20:∀l:List α,(List.range l.length).filterMap (λk=>l[k]?)=l
 | []=>rfl
 | a::l=>by
  rw[List.length_cons,List.range_succ_eq_map,List.filterMap_cons];simp only[List.getElem?_cons_zero];rw[List.filterMap_map];have:=k20 l;congr 1
theorem bh0:∀(ps:List (Str×D)) (k:Nat),(ps.flatMap two)[2*k]?=(ps.map λq=>D.str q.1)[k]?
 | [],k=>by simp
 | q::ps,0=>rfl
 | q::ps,k+1=>by
  have:=bh0 ps k;rw[List.flatMap_cons,List.map_cons,List.getElem?_cons_succ,← this];rfl
theorem b60:∀(ps:List (Str×D)) (k:Nat),(ps.flatMap two)[1+2*k]?=(ps.map λq=>q.2)[k]?
 | [],k=>by simp
 | q::ps,0=>rfl
 | q::ps,k+1=>by
  have:=b60 ps k;rw[List.flatMap_cons,List.map_cons,List.getElem?_cons_succ,← this,show 1+2*(k+1)=(1+2*k)+2 by omega];rfl
theorem Wj0(ps:List (Str×D)):O8 (ps.flatMap two) (some 0) none (some 2)=ps.map λq=>D.str q.1:=by
 have h:=i40 (ps.flatMap two) 0 (B9 _);rw[K9,show (2*ps.length - 0+1)/2=(ps.map λq=>D.str q.1).length by rw[List.length_map];omega] at h;refine h.trans (o0 ?_ (k20 (ps.map λq=>D.str q.1)));congr 1
 funext k
 rw[Nat.zero_add];exact bh0 ps k
theorem W40(ps:List (Str×D)):O8 (ps.flatMap two) (some 1) none (some 2)=ps.map λq=>q.2:=by
 cases ps with
 | nil=>rfl
 | cons q ps =>
  have h:=i40 ((q::ps).flatMap two) 1 (by rw[K9,List.length_cons];omega);rw[K9,show (2*(q::ps).length - 1+1)/2=((q::ps).map λq=>q.2).length by rw[List.length_map,List.length_cons];omega] at h;refine h.trans (o0 ?_ (k20 ((q::ps).map λq=>q.2)));congr 1
  funext k
  exact b60 (q::ps) k
theorem tj0:∀ps:List (Str×D),((ps.map λq=>D.str q.1).zip (ps.map λq=>q.2)).map (λp=>D.tup [p.1,p.2])=ps.map pr
 | []=>rfl
 | q::ps=>by
  rw[List.map_cons,List.map_cons,List.zip_cons_cons,List.map_cons,tj0 ps];rfl
theorem mt0(ps:List (Str×D)):z90 [.lst (ps.flatMap two)]=some (.tup (ps.map pr)):=by
 refine j9 rfl (o4 (d7 ?_));have e0:sq0 (gv 0) (someO (gc (.int 0))) z10 (someO (gc (.int 2))) [.sh (.lst (ps.flatMap two))]=some (.lst (O8 (ps.flatMap two) (some 0) none (some 2))):=rfl;have e1:sq0 (gv 0) (someO (gc (.int 1))) z10 (someO (gc (.int 2))) [.sh (.lst (ps.flatMap two))]=some (.lst (O8 (ps.flatMap two) (some 1) none (some 2))):=rfl;refine(p7 (cons_of e0 (cons_of e1 rfl))).trans ?_;rw[Wj0,W40];show some (D.tup _)=_;rw[tj0]
def held:Pt->List D
 | .text w=>(ones w.cps.toList).map .str
 | .row vs=>vs
 | .table ps=>ps.flatMap two
 | .rcd c ps=>.str c::ps.flatMap two
theorem Zk0(p:Pt)(h:cnt p<=20):yy0 [.str (kw (kn p)),.lst (held p)]=some p.d:=by
 have z:(1000:Nat)<=sizeLine:=by decide
 have f:∀(x y:Str) (G:GS) (s:Sl),x≠y->ifD (ob (o2 (gv 0) (gc (.str y)) eqD)) G u9 [.sh (.str x),s]=some (.nx [.sh (.str x),s]):=λx y G s h=>by
  rw[Z8 (by rw[p00,decide_eq_false h])];rfl
 have t:∀(x:Str) (G:GS) (s:Sl),ifD (ob (o2 (gv 0) (gc (.str x)) eqD)) G u9 [.sh (.str x),s]=G [.sh (.str x),s]:=λx G s=>T3 (by rw[p00,decide_eq_true rfl])
 cases p with
 | text w =>
  refine j9 rfl (o4 ((t "text" _ _).trans (o4 (d7 (Q5 (cons_of rfl (cons_of (d:=.str w) ?_ rfl)) (by show 2<=sizeLine;omega))))));obtain⟨l,hl⟩:∃l:List Nat,l=w.cps.toList:=⟨_,rfl⟩;have es:w=strOf l:=by unfold strOf;rw[hl]
  have ll:l.length<=20:=by rw[hl];exact h
  change zl0 _ _ [.sh (.str "text"),.sh (.lst ((ones w.cps.toList).map .str))]=_
  rw[sd0 (x:=.str "") (ds:=[.lst ((ones l).map .str)]) rfl (cons_of (by rw[hl];rfl) rfl)];have e1:=strs_map id (ones l);have J:z50 ((ones l).map D.str)=some (ones l):=by simpa using e1
  simp only[ug0];rw[J,Option.bind_some,xh0,join_ones,if_pos (by
   have:("" : PySem.Str).length=0:=by decide +kernel
   rw[this];omega),es]
 | row vs =>
  exact j9 rfl (v8 (f "row" "text" _ _ (by decide +kernel)) (o4 ((t "row" _ _).trans (o4 (d7 (Q5 (cons_of rfl (cons_of (d:=.tup vs) rfl rfl)) (by show 2<=sizeLine;omega)))))))
 | table ps =>
  refine j9 rfl (v8 (f "table" "text" _ _ (by decide +kernel)) (v8 (f "table" "row" _ _ (by decide +kernel)) (o4 ((t "table" _ _).trans (o4 (d7 (Q5 (cons_of rfl (cons_of (d:=.tup (ps.map pr)) ?_ rfl)) (by show 2<=sizeLine;omega))))))));rw[p7 (ds:=[.lst (ps.flatMap two)]) rfl];exact mt0 ps
 | rcd c ps =>
  refine j9 rfl (v8 (f "record" "text" _ _ (by decide +kernel)) (v8 (f "record" "row" _ _ (by decide +kernel)) (v8 (f "record" "table" _ _ (by decide +kernel)) (o4 (d7 (Q5 (cons_of rfl (cons_of (d:=.str c) (by
   show atI (D.str c::ps.flatMap two) 0=_;rw[z40 (by omega) (by rw[List.length_cons];omega) .non];rfl) (cons_of (d:=.tup (ps.map pr)) ?_ rfl))) (by show 3<=sizeLine;omega)))))))
  have e:xq0 (gv 1) (someO (gc (.int 1))) z10 [.sh (.str "record"),.sh (.lst (.str c::ps.flatMap two))]=some (.lst (ps.flatMap two)):=by
   have:=V60 (g:=gv 1) (gk:=gc (.int 1)) (δ:=[.sh (.str "record"),.sh (.lst (.str c::ps.flatMap two))]) (k:=1) rfl rfl;exact this
  refine(p7 (cons_of e rfl)).trans ?_;exact mt0 ps
end Ia
namespace Ia
open Ga
open DL W
open Bw (two K9 sg bs vn ib pb cnt kn qo0 its tx Gq Gs Vb small)
def i2(q:Str×D):List Itm:=[⟨"name",.str q.1,bs q.1.length++sg q.1⟩,⟨"value",q.2,bs (vn q.2)⟩]
def itm:Pt->List Itm
 | .text w=>w.cps.toList.map λc=>⟨"sign",.str ⟨#[c]⟩,[(c:Int)]⟩
 | .row vs=>vs.map λv=>⟨"value",v,bs (vn v)⟩
 | .table ps=>ps.flatMap i2
 | .rcd c ps=>⟨"class",.str c,bs c.length++sg c⟩::ps.flatMap i2
theorem uz0(x:List D):∀l:List α,(List.replicate l.length x).flatten=l.flatMap λ_=>x
 | []=>rfl
 | a::l=>by rw[List.length_cons,List.replicate_succ,List.flatten_cons,List.flatMap_cons,uz0 x l]
theorem l90(f:α->β):∀l:List α,(l.flatMap λa=>[f a])=l.map f
 | []=>rfl
 | a::l=>by rw[List.flatMap_cons,List.map_cons,l90 f l];rfl
theorem c50:∀ps:List (Str×D),(ps.flatMap i2).map (λt:Itm=>D.str t.w)=ps.flatMap λ_=>[D.str "name",.str "value"]
 | []=>rfl
 | q::ps=>by rw[List.flatMap_cons,List.map_append,c50 ps,List.flatMap_cons];rfl
theorem dh0:∀ps:List (Str×D),(ps.flatMap i2).map Itm.d=ps.flatMap two
 | []=>rfl
 | q::ps=>by rw[List.flatMap_cons,List.map_append,dh0 ps,List.flatMap_cons];rfl
theorem df0:∀ps:List (Str×D),(∀q∈ps,Vb q.2)->(ps.flatMap i2).flatMap Itm.b=(ps.flatMap two).flatMap ib
 | [],_=>rfl
 | q::ps,h=>by
  rw[List.flatMap_cons,List.flatMap_append,df0 ps λr hr=>h r (A7 _ hr),List.flatMap_cons,List.flatMap_append];congr 1;show (bs q.1.length++sg q.1)++(bs (vn q.2)++[])=ib (.str q.1)++(ib q.2++[]);rw[(h q A9).ib];rfl
theorem U30(p:Pt):(itm p).map (λt:Itm=>D.str t.w)=wnt (kn p) (cnt p):=by
 cases p with
 | text w =>
  show _=(List.replicate w.cps.toList.length [D.str "sign"]).flatten;rw[uz0,l90];show List.map _ (w.cps.toList.map _)=_;rw[List.map_map];rfl
 | row vs =>
  show _=(List.replicate vs.length [D.str "value"]).flatten;rw[uz0,l90];show List.map _ (vs.map _)=_;rw[List.map_map];rfl
 | table ps =>
  show _=(List.replicate ps.length [D.str "name",.str "value"]).flatten;rw[uz0];exact c50 ps
 | rcd c ps =>
  show _=D.str "class"::(List.replicate ps.length [D.str "name",.str "value"]).flatten;rw[uz0,← c50 ps];rfl
theorem cz0(p:Pt):(itm p).map Itm.d=held p:=by
 cases p with
 | text w =>
  show List.map _ (w.cps.toList.map _)=((w.cps.toList.map λc=>(⟨#[c]⟩:Str))).map D.str;rw[List.map_map,List.map_map];rfl
 | row vs =>
  show List.map _ (vs.map _)=vs;rw[List.map_map];exact List.map_id _
 | table ps=>exact dh0 ps
 | rcd c ps =>
  show D.str c::(ps.flatMap i2).map Itm.d=D.str c::ps.flatMap two;rw[dh0]
theorem gz0:∀vs:List D,(∀v∈vs,Vb v)->(vs.map λv=>(⟨"value",v,bs (vn v)⟩:Itm)).flatMap Itm.b=vs.flatMap ib
 | [],_=>rfl
 | v::vs,h=>by
  rw[List.map_cons,List.flatMap_cons,List.flatMap_cons,gz0 vs λr hr=>h r (A7 _ hr),(h v A9).ib]
theorem b70:∀l:List Nat,(l.map λ(c:Nat)=>(⟨"sign",.str ⟨#[c]⟩,[(c:Int)]⟩:Itm)).flatMap Itm.b=l.map λ(c:Nat)=>(c:Int)
 | []=>rfl
 | v::vs=>by
  rw[List.map_cons,List.flatMap_cons,b70 vs];rfl
theorem gh0{ps:List (Str×D)}(h:∀v∈ps.map (·.2),Vb v):∀q∈ps,Vb q.2:=λq hq=>h _ (B0.mpr ⟨q,hq,rfl⟩)
theorem Vl0{p:Pt}(h:Gq p):(itm p).flatMap Itm.b=tx p++(its p).flatMap ib:=by
 cases p with
 | text w =>
  show (w.cps.toList.map _).flatMap _=sg w++[];rw[List.append_nil];exact b70 _
 | row vs=>exact gz0 vs h.vals
 | table ps=>exact df0 ps (gh0 h.vals)
 | rcd c ps =>
  show (bs c.length++sg c)++(ps.flatMap i2).flatMap Itm.b=([]:List Int)++(D.str c::ps.flatMap two).flatMap ib;rw[df0 ps (gh0 h.vals),List.nil_append,List.flatMap_cons];rfl
theorem Zy0{s:Str}(h:isName s=true):∀c∈s.cps.toList,c∈nameS.cps.toList:=by
 unfold isName at h;rw[Bool.and_eq_true,Bool.and_eq_true] at h;have h2:=h.1.2;unfold hasAll at h2;rw[List.all_eq_true] at h2;exact λc hc=>P6 (h2 c hc)
theorem Yc0{p:Pt}(h:Gq p)(hs:Gs p):∀t∈itm p,t.ok F:=by
 have nm:∀(s:Str) (w:Str),s∈p.all->w ≠"sign"->w ≠"value"->Itm.ok F ⟨w,.str s,bs s.length++sg s⟩:=λs w hm h1 h2 a ha ht=>ax0 h1 h2 (h.names s hm) ha ht (Zy0 (hs.1 s hm))
 have vl:∀v:D,Vb v->Itm.ok F ⟨"value",v,bs (vn v)⟩:=λv hv a ha ht=>d90 hv ht
 have J:∀ps:List (Str×D),(∀q∈ps,Vb q.2)->(∀q∈ps,q.1∈p.all)->∀t∈ps.flatMap i2,t.ok F:=λps h1 h2 t ht=>by
  obtain⟨q,hq,ht⟩:=By0.mp ht;rcases B4.mp ht with rfl|ht
  ·exact nm _ _ (h2 q hq) (by decide +kernel) (by decide +kernel)
  ·rw[List.mem_singleton.mp ht]
   exact vl _ (h1 q hq)
 cases p with
 | text w =>
  intro t ht;obtain⟨c,hc,rfl⟩:=B0.mp ht;exact λa ha ht=>Z70 ht (hs.2 w rfl c hc)
 | row vs =>
  intro t ht;obtain⟨v,hv,rfl⟩:=B0.mp ht;exact vl v (h.vals v hv)
 | table ps=>exact J ps (gh0 h.vals) λq hq=>B5.mpr (.inl (B0.mpr ⟨q,hq,rfl⟩))
 | rcd c ps =>
  intro t ht;rcases B4.mp ht with rfl|ht
  ·exact nm c _ (B5.mpr (.inr (D4.mpr rfl))) (by decide +kernel) (by decide +kernel)
  ·exact J ps (gh0 h.vals) (λq hq=>B5.mpr (.inl (B0.mpr ⟨q,hq,rfl⟩))) t ht
theorem ap0{p:Pt}(h:Gq p):(itm p).length<=50:=by
 have h1:((itm p).map Itm.d).length=(itm p).length:=List.length_map _;rw[← h1,cz0];have hc:=h.cnt;cases p with
 | text w =>
  have hc:w.cps.toList.length<=20:=hc;show (((w.cps.toList.map λc=>(⟨#[c]⟩:Str))).map D.str).length<=50;rw[List.length_map,List.length_map];omega
 | row vs=>exact C5 hc (by decide)
 | table ps =>
  have hc:ps.length<=20:=hc;show (ps.flatMap two).length<=50;rw[K9];omega
 | rcd c ps =>
  have hc:ps.length<=20:=hc;show (D.str c::ps.flatMap two).length<=50;rw[List.length_cons,K9];omega
theorem pm0{a:Nat}{p:Pt}(h:Gq p)(hs:Gs p)(ht:Tel F a (pb p))(ha:a+(pb p).length<=1800000):S8 [F,.int (a:Int)]=some p.d:=by
 have z:(1000:Nat)<=sizeLine:=by decide
 have hc:=h.cnt;have hk:=qo0 p;obtain⟨n,hn⟩:∃n,n=4*cnt p+kn p:=⟨_,rfl⟩;have ep:pb p=bs n++(itm p).flatMap Itm.b:=by
  rw[Vl0 h,hn];unfold Bw.pb;rw[List.append_assoc]
 rw[ep] at ht ha;rw[List.length_append] at ha;have O:=u40 (F:=F) (a:=a) (n:=n) (small (by omega)) ht.left;obtain⟨s6,s7,J⟩:=items_go F (.sh (.int (a:Int))) (.sh (.tup [.int (n:Int),.int ((a+(bs n).length:Nat):Int)])) (.sh (.str (kw (kn p)))) (itm p) (a+(bs n).length) [] .un .un (Yc0 h hs) ht.right (by omega) (by have:=ap0 h;show 0+_<_;omega);rw[List.nil_append,cz0,U30] at J;have hw:=br0 (kn p) (cnt p) hk (by omega);have hm:=Zk0 p hc;refine j9 rfl (v8 (m9 (d:=.tup [.int (n:Int),.int ((a+(bs n).length:Nat):Int)]) ?_) (v8 (m9 (d:=.str (kw (kn p))) ?_) (v8 (m9 (d:=.int ((a+(bs n).length:Nat):Int)) rfl) (v8 (δ':=[.sh F,.sh (.int (a:Int)),.sh (.tup [.int (n:Int),.int ((a+(bs n).length:Nat):Int)]),.sh (.str (kw (kn p))),.sh (.int ((a+(bs n).length:Nat):Int)),.ow (.lst []),.un,.un]) rfl (v8 (O6 (items:=wnt (kn p) (cnt p)) ?_ J) (o4 (d7 ?_)))))))
 ·rw[p7 (ds:=[F,.int (a:Int)]) rfl]
  exact O
 ·show unG _ _ [.sh F,.sh (.int (a:Int)),.sh (.tup [.int (n:Int),.int ((a+(bs n).length:Nat):Int)]),.un,.un,.un,.un,.un]=_
  have e:o2 (o2 (gv 2) (gc (.int 0)) ixD) (gc (.int 4)) Z6 [.sh F,.sh (.int (a:Int)),.sh (.tup [.int (n:Int),.int ((a+(bs n).length:Nat):Int)]),.un,.un,.un,.un,.un]=some (.int (kn p:Int)):=by
   rw[p6 (x:=.int (n:Int)) (y:=.int 4) rfl rfl];show some (D.int ((n:Int)%4))=_;rw[show (n:Int)%4=(kn p:Int) by omega]
  unfold unG;rw[e,Option.bind_some];cases p<;>rfl
 ·have e:oA (z7 (gv 3) (z7 (o2 (o2 (gv 2) (gc (.int 0)) ixD) (gc (.int 4)) zc0) v6)) J2 [.sh F,.sh (.int (a:Int)),.sh (.tup [.int (n:Int),.int ((a+(bs n).length:Nat):Int)]),.sh (.str (kw (kn p))),.sh (.int ((a+(bs n).length:Nat):Int)),.ow (.lst []),.un,.un]=some (.lst (wnt (kn p) (cnt p))):=by
   rw[p7 (ds:=[.str (kw (kn p)),.int (cnt p:Int)]) (cons_of rfl (cons_of (by
    rw[p6 (x:=.int (n:Int)) (y:=.int 4) rfl rfl];show some (D.int ((n:Int)/4))=_;rw[show (n:Int)/4=(cnt p:Int) by omega]) rfl))]
   exact hw
  show zs0 _ _=_;unfold zs0;rw[e];rfl
 ·show oA _ _ [.sh F,.sh (.int (a:Int)),.sh (.tup [.int (n:Int),.int ((a+(bs n).length:Nat):Int)]),.sh (.str (kw (kn p))),_,.sh (.lst (held p)),_,_]=_
  rw[p7 (ds:=[.str (kw (kn p)),.lst (held p)]) rfl];exact hm
end Ia
namespace Ia
open Ga
open DL W
open Bw (bg sts sn0 zy0 bs pb S5 O4 ix bun ya0 we0 zg0 G8 Gw' Gs small P0)
section
variable{G1 G2 Ga:GZ}{G:GS}{c:Str}{m:Option Int}{d:D}{r:Option RX}
theorem zto(h:G1 δ=some (.ok (.nx δ')))(k:G2 δ'=r):T4 G1 G2 δ=r:=by unfold T4;rw[h];exact k
theorem zrt(h:G1 δ=some (.ok (.rt d))):T4 G1 G2 δ=some (.ok (.rt d)):=by unfold T4;rw[h]
theorem zok{r:Res}(h:G δ=some r):okZ G δ=some (.ok r):=by unfold okZ;rw[h];rfl
theorem zf(h:g1 δ=some false):ifZ g1 Ga Gb δ=Gb δ:=by unfold ifZ;rw[h];rfl
theorem Y40(h1:g1 δ=some true):z00 g1 g2 δ=some true:=by
 unfold z00;rw[h1,Option.bind_some,if_pos rfl]
theorem cl0{b:Bool}(h1:g1 δ=some false)(h2:g2 δ=some b):z00 g1 g2 δ=some b:=by
 unfold z00;rw[h1,Option.bind_some,if_neg (by decide),h2]
end
def lp(p:Pt):D:=.int ((pb p).length:Int)
theorem iq0{p:Pt}(h:ps[j]?=some p):bg ps (j+1)=bg ps j+(pb p).length:=by
 unfold Bw.bg;rw[← G8 pb h,List.length_append];omega
theorem b40(h:Gw' ps)(j:Nat):bg ps j<=1300000:=by
 have:=ya0 h;have:=we0 h j;unfold Bw.bg;omega
def PT:GB:=(ob (o2 (zt0 (oA (z7 (gv 4) v6) Z2)) (o2 (gv 2) (gc (.int 0)) ixD) ltD))
def PB:GS:=(v9 (j6 (gN 5) (oA (z7 (gv 0) (z7 (gv 3) v6)) X3))
 (v9 (Z0 (N6 4 (o2 (gv 5) (gc (.int 0)) ixD)))
 (v9 (j6 (gN 3) (o2 (gv 5) (gc (.int 1)) ixD))
 u9)))
theorem pt(F k:Sl)(N c a:Int)(l:List D)(s5 s6:Sl):PT [F,k,.sh (.tup [.int N,.int c]),.sh (.int a),.ow (.lst l),s5,s6]=some (decide ((l.length:Int)<N)):=P0 (by
 rw[p6 (x:=.int (l.length:Int)) (y:=.int N) (by
  unfold zt0;rw[vx0 (ds:=l) rfl];rfl) rfl]
 rfl)
theorem d10(F:D)(k:Sl)(N c:Int)(s6:Sl):∀(l:List Pt) (pre:List Pt) (a f:Nat) (s5:Sl),l.length<f->N=((pre.length+l.length:Nat):Int)->pre.length+l.length<=60->(∀p∈l,(pb p).length<=20000)->Tel F a (l.flatMap λp=>bs (pb p).length) ->
  ∃s5',Y5 PT PB f [.sh F,k,.sh (.tup [.int N,.int c]),.sh (.int (a:Int)),.ow (.lst (pre.map lp)),s5,s6]=some (.nx [.sh F,k,.sh (.tup [.int N,.int c]),.sh (.int ((a+(l.flatMap λp=>bs (pb p).length).length:Nat):Int)),.ow (.lst ((pre++l).map lp)),s5',s6]):=by
 have z:(1000:Nat)<=sizeLine:=by decide
 intro l
 induction l with
 | nil =>
  intro pre a f s5 hf hN J hp ht;cases f with
  | zero=>exact absurd hf (M0 _)
  | succ f =>
   refine⟨s5,?_⟩;rw[o70 (by rw[pt,decide_eq_false (by rw[List.length_map,hN];simp)]),List.append_nil];rfl
 | cons p l ih =>
  intro pre a f s5 hf hN J hp ht;cases f with
  | zero=>exact absurd hf (M0 _)
  | succ f =>
   rw[List.length_cons] at hf hN J;rw[List.flatMap_cons] at ht;have hn:=u40 (F:=F) (a:=a) (n:=(pb p).length) (small (by have:=hp p A9;omega)) ht.left;obtain⟨s5',e⟩:=ih (pre++[p]) (a+(bs (pb p).length).length) f (.sh (.tup [.int ((pb p).length:Int),.int ((a+(bs (pb p).length).length:Nat):Int)])) (by omega) (by rw[hN,List.length_append];show _=(((pre.length+1)+l.length:Nat):Int);omega) (by rw[List.length_append];show (pre.length+1)+_<=_;omega) (λq hq=>hp q (A7 _ hq)) ht.right;refine⟨s5',?_⟩;have body:PB [.sh F,k,.sh (.tup [.int N,.int c]),.sh (.int (a:Int)),.ow (.lst (pre.map lp)),s5,s6]=some (.nx [.sh F,k,.sh (.tup [.int N,.int c]),.sh (.int ((a+(bs (pb p).length).length:Nat):Int)),.ow (.lst ((pre++[p]).map lp)),.sh (.tup [.int ((pb p).length:Int),.int ((a+(bs (pb p).length).length:Nat):Int)]),s6]):=by
    refine v8 (m9 (d:=.tup [.int ((pb p).length:Int),.int ((a+(bs (pb p).length).length:Nat):Int)]) ?_) (v8 (Gw.xk0 (l:=pre.map lp) (d:=lp p) rfl rfl (by rw[List.length_map];omega)) ?_)
    ·rw[p7 (ds:=[F,.int (a:Int)]) rfl]
     exact hn
    ·rw[List.map_append]
     rfl
   rw[sk0 (by rw[pt,decide_eq_true (by rw[List.length_map,hN];omega)]) body,e,List.flatMap_cons,List.length_append,List.append_assoc,Nat.add_assoc];rfl
def SB':GS:=(v9 (Z0 (N6 6 (gv 3)))
 (v9 (rn0 3 (gv 5))
 u9))
theorem f70(h:Gw' ps)(F k cn zs s5:Sl):∃s3 s5',N7 (gN 5) SB' (ps.map lp) [F,k,cn,.sh (.int ((bg ps 0:Nat):Int)),zs,s5,.ow (.lst [])]=some (.nx [F,k,cn,s3,zs,s5',.ow (.lst (sts ps ps.length))]):=by
 have z:(1000:Nat)<=sizeLine:=by decide
 have hl:=h.len;obtain⟨δ',l1,s5',rfl⟩:=R6 (f:=gN 5) (G:=SB') (λj δ=>∃s5',δ=[F,k,cn,.sh (.int ((bg ps j:Nat):Int)),zs,s5',.ow (.lst (sts ps j))]) (ps.map lp) 0 [F,k,cn,.sh (.int ((bg ps 0:Nat):Int)),zs,s5,.ow (.lst [])] (by
  rintro j d δ hj ⟨s5',rfl⟩;rw[List.getElem?_map] at hj;obtain⟨p,hp,rfl⟩:=O0.mp hj;have J:=(C0.mp hp).1;rw[Nat.zero_add];refine⟨_,[F,k,cn,.sh (.int ((bg ps (j+1):Nat):Int)),zs,.sh (lp p),.ow (.lst (sts ps (j+1)))],rfl,?_,.sh (lp p),rfl⟩;refine v8 (Gw.xk0 (l:=sts ps j) (d:=.int ((bg ps j:Nat):Int)) rfl rfl (by rw[zy0];omega)) (v8 (δ':=[F,k,cn,.sh (.int (((bg ps j:Nat):Int)+((pb p).length:Int))),zs,.sh (lp p),.ow (.lst (sts ps j++[.int ((bg ps j:Nat):Int)]))]) rfl ?_);rw[← sn0,iq0 hp,show ((bg ps j:Nat):Int)+((pb p).length:Int)=((bg ps j+(pb p).length:Nat):Int) by omega];rfl) ⟨s5,rfl⟩
 rw[Nat.zero_add,List.length_map] at l1;exact⟨_,_,l1⟩
theorem Ww0{F:Sl}{k n c:Int}{s3 s4 s5 s6:Sl}:z00 (ob (o2 (gv 1) (gc (.int 0)) ltD)) (ob (o2 (gv 1) (o2 (gv 2) (gc (.int 0)) ixD) geD)) [F,.sh (.int k),.sh (.tup [.int n,.int c]),s3,s4,s5,s6]=some (decide (k<0∨n<=k)):=by
 have t1:ob (o2 (gv 1) (gc (.int 0)) ltD) [F,.sh (.int k),.sh (.tup [.int n,.int c]),s3,s4,s5,s6]=some (decide (k<0)):=P0 rfl;have t2:ob (o2 (gv 1) (o2 (gv 2) (gc (.int 0)) ixD) geD) [F,.sh (.int k),.sh (.tup [.int n,.int c]),s3,s4,s5,s6]=some (decide (n<=k)):=P0 (by
  rw[p6 (x:=.int k) (y:=.int n) rfl rfl];rfl)
 by_cases h:k<0
 ·rw[Y40 (by rw[t1,decide_eq_true h]),decide_eq_true (.inl h)]
 ·rw[cl0 (by rw[t1,decide_eq_false h]) t2]
  congr 1;exact C50.mpr ⟨.inr,λq=>q.resolve_left h⟩
section
variable(h:Gw' ps)(ht:Tel F 0 (ix ps))
include h ht
theorem Vi0:X3 [F,.int 0]=some (.tup [.int (ps.length:Int),.int ((bs ps.length).length:Int)]):=by
 have:=u40 (F:=F) (a:=0) (n:=ps.length) (small (by have:=h.len;omega)) (Tel.left ht);rw[Nat.zero_add] at this;exact this
theorem n90(k:Int)(h0:0<=k)(hk:k<(ps.length:Int)):W8 [F,.int k]=some (.ok (.lst (sts ps ps.length))):=by
 have hn:=Vi0 h ht;have hl:=h.len;obtain⟨s5,e1⟩:=d10 F (.sh (.int k)) (ps.length:Int) ((bs ps.length).length:Int) .un ps [] (bs ps.length).length 100000 .un (by omega) (by simp) (by simpa using hl) (λp hp=>S5 (h.it p hp).gp) (by
  have q:=Tel.right ht;rw[Nat.zero_add] at q;exact q)
 rw[List.nil_append,show (bs ps.length).length+(ps.flatMap λp=>bs (pb p).length).length=bg ps 0 by unfold Bw.bg Bw.ix;rw[List.length_append];simp] at e1;obtain⟨s3,J,e2⟩:=f70 h (.sh F) (.sh (.int k)) (.sh (.tup [.int (ps.length:Int),.int ((bs ps.length).length:Int)])) (.sh (.lst (ps.map lp))) s5;refine lq0 rfl (zto (δ':=[.sh F,.sh (.int k),.sh (.tup [.int (ps.length:Int),.int ((bs ps.length).length:Int)]),.un,.un,.un,.un]) (zok (m9 (i:=2) ?_)) (zto (δ':=[.sh F,.sh (.int k),.sh (.tup [.int (ps.length:Int),.int ((bs ps.length).length:Int)]),.un,.un,.un,.un]) ?_ (zto (δ':=[.sh F,.sh (.int k),.sh (.tup [.int (ps.length:Int),.int ((bs ps.length).length:Int)]),.sh (.int ((bs ps.length).length:Int)),.un,.un,.un]) (zok rfl) (zto (δ':=[.sh F,.sh (.int k),.sh (.tup [.int (ps.length:Int),.int ((bs ps.length).length:Int)]),.sh (.int ((bs ps.length).length:Int)),.ow (.lst []),.un,.un]) (zok rfl) (zto (zok e1) (zto (δ':=[.sh F,.sh (.int k),.sh (.tup [.int (ps.length:Int),.int ((bs ps.length).length:Int)]),.sh (.int ((bg ps 0:Nat):Int)),.sh (.lst (ps.map lp)),s5,.ow (.lst [])]) (zok rfl) (zto (zok (O6 (items:=ps.map lp) rfl e2)) (zrt (zok rfl)))))))))
 ·rw[p7 (ds:=[F,.int 0]) rfl]
  exact hn
 ·rw[zf (by rw[Ww0,decide_eq_false (by omega)])]
  rfl
theorem qg0(k:Nat)(hk:k<ps.length)(hs:Gs ps[k])(hp:Tel F (bg ps k) (pb ps[k])):W2 [F,.int (k:Int)]=some (.ok ps[k].d):=by
 refine lq0 rfl (zrt ?_);show Option.bind (some F) _=_;rw[Option.bind_some];show Option.bind (some [F,D.int (k:Int)]) _=_;rw[Option.bind_some,n90 h ht (k:Int) (by omega) (by omega),Option.bind_some];show Option.bind (some (D.int (k:Int))) _=_;rw[Option.bind_some];have e:ixD (.lst (sts ps ps.length)) (.int (k:Int))=some (.int ((bg ps k:Nat):Int)):=by
  show atI (sts ps ps.length) (k:Int)=_;unfold Bw.sts;rw[z40 (by omega) (by rw[List.length_map,List.length_range];omega) .non];simp[List.getD_eq_getElem?_getD,hk]
 rw[e,Option.bind_some,pm0 (h.it _ (D3 hk)) hs hp (by have:=b40 h k;have:=S5 (h.it _ (D3 hk)).gp;omega)];rfl
end
end Ia
namespace Ia
open Ga
open DL W
open Bw (bg sts sn0 zy0 k70 bs pb S5 O4 ix bun ya0 we0 zg0 G8 Gw' Gq Gs Vb small P0 web)
theorem s00{k:Nat}(hk:k<ps.length):∃post,bun ps=(ix ps++(ps.take k).flatMap pb)++(pb ps[k]++post):=by
 refine⟨(ps.drop (k+1)).flatMap pb,?_⟩;unfold Bw.bun;have e:ps=ps.take k++ps[k]::ps.drop (k+1):=by
  rw[← List.drop_eq_getElem_cons hk,List.take_append_drop]
 have e2:ps.flatMap pb=(ps.take k).flatMap pb++(pb ps[k]++(ps.drop (k+1)).flatMap pb):=by
  conv=>lhs;rw[e]
  rw[List.flatMap_append,List.flatMap_cons]
 rw[e2,List.append_assoc]
section
variable(h:Gw' ps)(h0:0<ps.length)
include h h0
end
end Ia
namespace Ia
open Ga
open DL W
open Bw (bg sts sn0 zy0 k70 bs pb S5 ix bun ya0 zg0 Gw' Gq Gs Vb small P0 web)
theorem R3(c k:Int)(h0:0<=k)(h1:k<=1000000):∃x,0<=x/\x<2147483647/\m5 [.int c,.int k]=some (.int x):=Bw.R3 c k h0 h1
theorem xp0(ns:List Int)(hb:∀z∈ns,z.natAbs.log2<=1048576)(k:Int)(h0:0<=k)(h1:k<=1000):∃z,Y7 [.lst (ns.map .int),.int k]=some (.int z)/\z.natAbs.log2<=1048576:=Bw.xp0 ns hb k h0 h1
theorem cm0(h:Gw' ps):Q9 [web ps]=some (.tup [.lst ((bun ps).map .int),.int ((ix ps).length:Int),.lst (sts ps (ps.length+1))]):=Bw.V80 h
theorem tm0(ps:List Pt)(n k:Nat)(hk:k<n):ixD (.lst (sts ps n)) (.int (k:Int))=some (.int ((bg ps k:Nat):Int)):=by
 show atI (sts ps n) (k:Int)=_;unfold Bw.sts;rw[z40 (by omega) (by rw[List.length_map,List.length_range];omega) .non];simp[List.getD_eq_getElem?_getD,hk]
theorem ws0(ps:List Pt)(k:Nat)(hk:k<ps.length):ixD (web ps) (.int (k:Int))=some ps[k].d:=by
 show atI (ps.map Pt.d) (k:Int)=_;rw[z40 (by omega) (by rw[List.length_map];omega) .non];simp[List.getD_eq_getElem?_getD,hk]
end Ia
namespace Ja
open Ga
open DL W K22
section
end
end Ja
namespace Ja
open Ga
open DL W K22
open Km (Wb ix pd kb kb_mem ln0 p80 gm0 fo0 laid q40)
def pq(ps:List Pt)(k:Nat):Pt:=ps.getD k (.row [])
theorem wc0{k:Nat}(hk:k<ps.length):pq ps k=ps[k]:=by unfold pq;simp[hk]
theorem ss0(hw:Wb ps){k:Nat}(hk:k<ps.length):Pw ps.length (pq ps k):=by
 rw[wc0 hk];have hm:=D3 hk;exact⟨(hw.it _ hm).few,λv hv=>Km.b00 ((hw.it _ hm).vals v hv) (hw.lk _ hm v hv)⟩
def A(ps:List Pt)(i:Nat):List Nat:=tgs (pq ps i).vals
theorem mp0(hw:Wb ps)(hi:i<ps.length):(A ps i).length<=12/\∀j∈A ps i,j<ps.length:=by
 have h:=ss0 hw hi;exact⟨C5 (a80 _) h.few,Wq0 h.lv⟩
def dd(ps:List Pt)(o:List Nat):D:=.dct (.inl (kd o)) (o.map λk=>(pq ps k).d)
theorem pb0(ps:List Pt):∀(o:List Nat) (x:Nat),x∈o->M8 (dd ps o) (.int (x:Int))=some (pq ps x).d
 | [],_,h=>by cases h
 | y::o,x,h=>by
  show K6 (Sum.inl (y:Int)::kd o) ((pq ps y).d::o.map λk=>(pq ps k).d) (.inl (x:Int))=_;unfold K6
  by_cases e:y=x
  ·rw[if_pos (by rw[e]),e]
  ·rw[if_neg (λz=>e (by injection z with z;omega))]
   exact pb0 ps o x ((B4.mp h).resolve_left (A4 e))
structure Mt(ps:List Pt)(a:Nat)(r:List Nat):Prop where
 ex:∃c,Dfs (A ps) [] c [] [a] r/\c<=5000
 nd:r.Nodup
 lt:∀y∈r,y<ps.length
 cl:∀i∈r,∀j∈A ps i,j∈r
 me:a∈r
theorem o60{c:Nat}{o T r:List Nat}(h:Dfs adj [] c o T r):∀x,x∈o∨x∈T->x∈r:=by
 induction h with
 | nil o=>exact λx hx=>hx.elim id λz=>by cases z
 | @skip c o T r y hy _ ih =>
  intro x hx;rcases hx with z|z
  ·exact ih x (.inl z)
  ·rcases B4.mp z with rfl|z
   ·exact ih x (.inl (hy.resolve_right (by simp)))
   ·exact ih x (.inr z)
 | @visit c o T r y _ _ _ _ ih =>
  intro x hx;rcases hx with z|z
  ·exact ih x (.inl (D6 _ z))
  ·rcases B4.mp z with rfl|z
   ·exact ih x (.inl (C6 _ (D4.mpr rfl)))
   ·exact ih x (.inr (C6 _ z))
theorem fc0{C:Nat->Prop}(hC:∀i,C i->∀j∈adj i,C j){c:Nat}{o T r:List Nat}(h:Dfs adj [] c o T r):(∀x∈o,C x)->(∀x∈T,C x)->∀x∈r,C x:=by
 induction h with
 | nil o=>exact λh _=>h
 | @skip c o T r y hy _ ih=>exact λh1 h2=>ih h1 λx hx=>h2 x (A7 _ hx)
 | @visit c o T r y _ _ _ _ ih =>
  intro h1 h2;have hy:=h2 y A9;refine ih (λx hx=>?_) λx hx=>?_
  ·rcases B5.mp hx with z|z
   ·exact h1 x z
   ·rw[List.mem_singleton.mp z];exact hy
  ·rcases B5.mp hx with z|z
   ·exact hC y hy x z
   ·exact h2 x (A7 _ z)
theorem g60(hw:Wb ps){a:Nat}(ha:a<ps.length):∃r,Mt ps a r:=by
 obtain⟨c,r,h1,h2,h3,h4,_⟩:=f90 (A ps) [] ps.length hw.len.2 (λi hi=>mp0 hw hi) 1000 [] [a] (by have:=hw.len.2;simp only[List.length_cons,List.length_nil];omega) (by decide) List.nodup_nil (λy hy=>by cases hy) (λy hy=>by rw[List.mem_singleton.mp hy];exact ha);obtain⟨_,f2⟩:=nm0 h1 λi hi=>by cases hi
 exact⟨r,⟨c,h1,by omega⟩,h3,λy hy=>(h4 y hy).1,λi hi j hj=>(f2 i hi j hj).resolve_right (by simp),o60 h1 a (.inr (D4.mpr rfl))⟩
theorem Mt.len(hw:Wb ps){a:Nat}{r:List Nat}(m:Mt ps a r):r.length<=60:=by
 have:=sub_len m.nd (m:=List.range ps.length) λy hy=>C8.mpr (m.lt y hy)
 rw[List.length_range] at this;exact C5 this hw.len.2
section
variable(hw:Wb ps){a:Nat}{r o:List Nat}(m:Mt ps a r)(ho:∀x∈r,x∈o)
include hw m ho
end
theorem qc0(r:List Nat):(y70 (nd r)).length=r.length:=by unfold y70;rw[List.length_map,List.length_range,zj0]
theorem ls0{r:List Nat}{d:D}(h:(y70 (nd r))[j]?=some d):∃k,r[j]?=some k/\d=.tup [.int (j:Int),.int (k:Int)]:=by
 have J:j<r.length:=by
  have:=(C0.mp h).1
  rwa [qc0] at this
 refine⟨r[j],C7 J,?_⟩;unfold y70 at h;rw[List.getElem?_map,List.getElem?_range (by rw[zj0];exact J)] at h;have e:(nd r).getD j .non=.int (r[j]:Int):=by unfold nd;simp[J]
 rw[← e];exact(B3 h).symm
theorem jy0{gA:GA}(δ:Ds)(r:List Nat)(h:gA δ=some [.lst (nd r)]):qf0 gA δ=some (y70 (nd r)):=by
 unfold qf0;rw[h];rfl
def NB:GS:=(v9 (M3 (J7 (gv 4)) (DL.putAt 3 (gv 5))) u9)
theorem Wa0{B:List Nat}{k:Nat}(hB:B.length<=60)(hk:k∉B)(a b c:Sl):M3 (J7 (gv 4)) (DL.putAt 3 (gv 5)) [a,b,c,.ow (pd (kb B)),.sh (.int (B.length:Int)),.sh (.int (k:Int))]=some (.nx [a,b,c,.ow (pd (kb (B++[k]))),.sh (.int (B.length:Int)),.sh (.int (k:Int))]):=by
 have zs:(1000000:Nat)<=sizeLine:=by decide
 rw[← p80 B];show Option.map Res.nx (if (kb B).length<sizeLine then some ([a,b,c,.ow (.dct (.inl (J5 (kb B) (.inl (k:Int)))) (zh0 (kb B) (nd (List.range (kb B).length)) (.inl (k:Int)) (.int ((kb B).length:Int)))),.sh (.int ((kb B).length:Int)),.sh (.int (k:Int))]:Ds) else none)=_;rw[if_pos (by rw[p80];omega),gm0 (λz=>hk ((kb_mem B k).mp z))];unfold kb;rw[List.map_append];rfl
theorem go0{r:List Nat}(h:j∈r):M8 (pd (kb r)) (.int (j:Int))=some (.int (ix r j:Int)):=by
 show K6 (kb r) (nd (List.range (kb r).length)) (.inl (j:Int))=_;rw[fo0 ((kb_mem r j).mpr h),ln0]
end Ja
namespace Ja
open Ga
open DL W K22
open Km (Wb laid)
open Bw (bg sts ix pb S5 Gw' Gq Gs Vb)
open Ia (Tel zto zok zrt)
theorem W20{p:Pt}(h:Gq p):tree p.d=true:=by
 have tv:∀{v:D},Vb v->tree v=true:=λ{v} hv=>by cases hv<;>rfl
 have tl:∀l:List D,(∀v∈l,Vb v)->trees l=true:=by
  intro l
  induction l with
  | nil=>intro _;rfl
  | cons v l ih=>intro hl;rw[trees,tv (hl v A9),ih λu hu=>hl u (A7 _ hu)];rfl
 have tp:∀l:List (Str×D),(∀v∈l.map (·.2),Vb v)->trees (l.map pr)=true:=by
  intro l
  induction l with
  | nil=>intro _;rfl
  | cons v l ih =>
   intro hl;have e:tree (pr v)=true:=by
    show (tree (.str v.1)&&(tree v.2&&true))=true;rw[tv (hl v.2 A9)];rfl
   rw[List.map_cons,trees,e,ih λu hu=>hl u (A7 _ hu)];rfl
 cases p with
 | text w=>rfl
 | row vs=>show (true&&(trees vs&&true))=true;rw[tl vs h.vals];rfl
 | table ps=>show (true&&(trees (ps.map pr)&&true))=true;rw[tp ps h.vals];rfl
 | rcd c ps=>show (true&&(true&&(trees (ps.map pr)&&true)))=true;rw[tp ps h.vals];rfl
theorem v80(hw:Wb ps):Gw' ps:=⟨hw.len.2,hw.it⟩
def WT:GB:=(ob (o2 (zt0 (oA (z7 (gv 4) v6) Z2)) (gc (.int 0)) gtD))
def WB:GS:=(v9 (M3 (vi0 4) (gN 5))
 (v9 (ifD (rr0 (ob (o2 (gv 5) (gv 3) (xa0 true))))
 (v9 (M3 (J7 (oA (z7 (gv 0) (z7 (o2 (gv 2) (gv 5) ixD) v6)) S8)) (putAt 3 (gv 5)))
 (v9 (Z0 (O7 4 (oA (z7 (ta0 (o2 (gv 3) (gv 5) M8)) v6) N8)))
 u9))
 u9)
 u9))
def ws(ps:List Pt)(F:D)(k:Sl)(o T:List Nat)(s:Sl):Ds:=[.sh F,k,.sh (.lst (sts ps ps.length)),.ow (dd ps o),.ow (.lst (nd T.reverse)),s]
section
variable{k:Sl}
theorem ib0(s:Sl)(o T:List Nat):WT (ws ps F k o T s)=some (decide (0<T.length)):=by
 have e:zt0 (oA (z7 (gv 4) v6) Z2) (ws ps F k o T s)=some (.int (T.length:Int)):=by
  show some (D.int ((nd T.reverse).length:Int))=_;rw[zj0,List.length_reverse]
 unfold WT ob;rw[p6 (x:=.int (T.length:Int)) (y:=.int 0) e rfl];show some (decide ((0:Int)<(T.length:Int)))=_;congr 1;rw[decide_eq_decide];omega
theorem Wg0(s:Sl)(o T:List Nat)(x:Nat):M3 (vi0 4) (gN 5) (ws ps F k o (x::T) s)=some (.nx (ws ps F k o T (.sh (.int (x:Int))))):=by
 have e1:owL 4 (ws ps F k o (x::T) s)=some (nd (x::T).reverse):=rfl;have e2:nd (x::T).reverse=nd T.reverse++[.int (x:Int)]:=by rw[List.reverse_cons,vq0];rfl
 unfold M3 vi0;rw[e1,Option.bind_some,e2,List.getLast?_concat,List.dropLast_concat];rfl
theorem bk0(o T:List Nat)(x:Nat):rr0 (ob (o2 (gv 5) (gv 3) (xa0 true))) (ws ps F k o T (.sh (.int (x:Int))))=some (decide (x∉o)):=by
 show some (xor true (M6 (kd o) (.inl (x:Int))))=_;rw[pj0,Bool.true_xor];congr 1
 by_cases h:x∈o
 ·rw[decide_eq_true h,decide_eq_false (λz=>z h)];rfl
 ·rw[decide_eq_false h,decide_eq_true h];rfl
theorem qp0(hw:Wb ps){C:Nat->Prop}(hlt:∀x,C x->x<ps.length)(hC:∀x,C x->∀j∈A ps x,C j)(hp:∀x,C x->S8 [F,.int ((bg ps x:Nat):Int)]=some (pq ps x).d):∀{c:Nat} {o T r:List Nat},Dfs (λx=>(A ps x).reverse) [] c o T r->(∀x∈T,C x)->o.length+T.length<=10001->∀(m:Nat) (s:Sl),c<m->∃s',Y5 WT WB m (ws ps F k o T s)=some (.nx (ws ps F k r [] s')):=by
 intro c o T r h
 induction h with
 | nil o =>
  intro _ _ m s hm;cases m with
  | zero=>omega
  | succ m=>exact⟨s,Ia.o70 (by rw[ib0];rfl)⟩
 | @skip c o T r x hx hd ih =>
  intro hT hl m s hm;cases m with
  | zero=>omega
  | succ m =>
   rw[List.length_cons] at hl;obtain⟨s',e⟩:=ih (λy hy=>hT y (A7 _ hy)) (by omega) m (.sh (.int (x:Int))) (by omega);have Y:x∈o:=hx.resolve_right (by simp);have eb:WB (ws ps F k o (x::T) s)=some (.nx (ws ps F k o T (.sh (.int (x:Int))))) :=
    v8 (Wg0 s o T x) (v8 (δ':=ws ps F k o T (.sh (.int (x:Int)))) (by rw[Z8 (by rw[bk0,decide_eq_false (λz=>z Y)])];rfl) rfl)
   exact⟨s',(Ia.sk0 (by rw[ib0,decide_eq_true (by simp)]) eb).trans e⟩
 | @visit c o T r x hx hxS hz hd ih =>
  intro hT hl m s hm;cases m with
  | zero=>omega
  | succ m =>
   have O:=hT x A9;have J:=hlt x O;have zs:(20000:Nat)<=sizeLine:=by decide
   rw[List.length_append,List.length_reverse] at hz;obtain⟨s',e⟩:=ih (λy hy=>by
    rcases B5.mp hy with q|q
    ·exact hC x O y (w8.mp q)
    ·exact hT y (A7 _ q)) (by simp only[List.length_append,List.length_singleton,List.length_reverse];omega) m (.sh (.int (x:Int))) (by omega)
   have p1:M3 (J7 (oA (z7 (gv 0) (z7 (o2 (gv 2) (gv 5) ixD) v6)) S8)) (putAt 3 (gv 5)) (ws ps F k o T (.sh (.int (x:Int))))=some (.nx (ws ps F k (o++[x]) T (.sh (.int (x:Int))))):=by
    have hk:M6 (kd o) (.inl (x:Int))=false:=by rw[pj0,decide_eq_false hx]
    have e1:J5 (kd o) (.inl (x:Int))=kd (o++[x]):=by
     unfold J5;rw[hk,if_neg (by simp),fa0];rfl
    have e2:zh0 (kd o) (o.map λk=>(pq ps k).d) (.inl (x:Int)) (pq ps x).d=(o++[x]).map λk=>(pq ps k).d:=by
     unfold zh0;rw[hk,if_neg (by simp),List.map_append];rfl
    have ev:oA (z7 (gv 0) (z7 (o2 (gv 2) (gv 5) ixD) v6)) S8 (ws ps F k o T (.sh (.int (x:Int))))=some (pq ps x).d:=by
     rw[p7 (ds:=[F,.int ((bg ps x:Nat):Int)]) (cons_of rfl (cons_of (by rw[p6 (x:=.lst (sts ps ps.length)) (y:=.int (x:Int)) rfl rfl];exact Ia.tm0 ps _ x J) rfl))];exact hp x O
    unfold M3 J7;rw[ev];show ((if (kd o).length<sizeLine then some ([.sh F,k,.sh (.lst (sts ps ps.length)),Sl.ow (.dct (.inl (J5 (kd o) (.inl (x:Int)))) (zh0 (kd o) (o.map λk=>(pq ps k).d) (.inl (x:Int)) (pq ps x).d)),.ow (.lst (nd T.reverse)),.sh (.int (x:Int))]:Ds) else none).map Res.nx)=_;rw[if_pos (by unfold kd;rw[List.length_map];omega),e1,e2];rfl
   have p2:Z0 (O7 4 (oA (z7 (ta0 (o2 (gv 3) (gv 5) M8)) v6) N8)) (ws ps F k (o++[x]) T (.sh (.int (x:Int))))=some (.nx (ws ps F k (o++[x]) ((A ps x).reverse++T) (.sh (.int (x:Int))))):=by
    have ev:oA (z7 (ta0 (o2 (gv 3) (gv 5) M8)) v6) N8 (ws ps F k (o++[x]) T (.sh (.int (x:Int))))=some (.lst (nd (A ps x))):=by
     rw[p7 (ds:=[(pq ps x).d]) (cons_of (Zu0 (by
      show o2 (gv 3) (gv 5) M8 [.sh F,yc0 k,.sh (.lst (sts ps ps.length)),.sh (dd ps (o++[x])),.sh (.lst (nd T.reverse)),.sh (.int (x:Int))]=_;rw[p6 (x:=dd ps (o++[x])) (y:=.int (x:Int)) rfl rfl];exact pb0 ps _ x (C6 _ (D4.mpr rfl))) (by
      rw[wc0 J];exact W20 (hw.it _ (D3 J)))) rfl)]
     exact kf0 (ss0 hw J)
    unfold Z0 O7;rw[ev];show Option.map _ (if (nd T.reverse).length+(nd (A ps x)).length<=sizeLine then some (D.non,([.sh F,k,.sh (.lst (sts ps ps.length)),.ow (dd ps (o++[x])),Sl.ow (.lst (nd T.reverse++nd (A ps x))),.sh (.int (x:Int))]:Ds)) else none)=_;rw[if_pos (by rw[zj0,zj0,List.length_reverse];omega),← vq0];unfold ws;rw[List.reverse_append,List.reverse_reverse];rfl
   have eb:WB (ws ps F k o (x::T) s)=some (.nx (ws ps F k (o++[x]) ((A ps x).reverse++T) (.sh (.int (x:Int))))) :=
    v8 (Wg0 s o T x) (v8 (δ':=ws ps F k (o++[x]) ((A ps x).reverse++T) (.sh (.int (x:Int)))) (by
     rw[T3 (by rw[bk0,decide_eq_true hx])];exact v8 p1 (v8 p2 rfl)) rfl)
   exact⟨s',(Ia.sk0 (by rw[ib0,decide_eq_true (by simp)]) eb).trans e⟩
end
end Ja
namespace Ga
open DL W K22
def zq0:GZ:=(T4 (okZ (j6 (gN 2) (oA (z7 (gv 0) (z7 (gc (.int 0)) v6)) X3)))
 (T4 (ifZ (z00 (ob (o2 (gv 1) (gc (.int 0)) ltD)) (ob (o2 (gv 1) (o2 (gv 2) (gc (.int 0)) ixD) geD)))
 (T4 (kh0 "NoPlace")
 vg0)
 vg0)
 (T4 (okZ (j6 (gN 3) (o2 (gv 2) (gc (.int 1)) ixD)))
 (T4 (okZ (M5 4 (W5 v6)))
 (T4 (okZ (Y5 (ob (o2 (zt0 (oA (z7 (gv 4) v6) Z2)) (o2 (gv 2) (gc (.int 0)) ixD) ltD))
 (v9 (j6 (gN 5) (oA (z7 (gv 0) (z7 (gv 3) v6)) X3))
 (v9 (Z0 (N6 4 (o2 (gv 5) (gc (.int 0)) ixD)))
 (v9 (j6 (gN 3) (o2 (gv 5) (gc (.int 1)) ixD))
 u9))) 100000))
 (T4 (okZ (ie0 4 (M5 6 (W5 v6))))
 (T4 (okZ (J9 (zs0 (gv 4)) (gN 5)
 (v9 (Z0 (N6 6 (gv 3)))
 (v9 (rn0 3 (gv 5))
 u9))))
 (T4 (okZ (d9 (ui0 (gv 6))))
 vg0))))))))
def zo0:List Str:=["look", "k", "count", "place", "sizes", "size", "starts"]
def W8:List D->Option DX:=mkX 2 zo0 zq0
def v50:GZ:=(T4 (mj0 (gv 0) (z7 (gv 0) (z7 (gv 1) v6)) W8 (gv 1) S8)
 vg0)
def v30:List Str:=["look", "k"]
def W2:List D->Option DX:=mkX 2 v30 v50
def nl0:GS:=(v9 (M5 3 (W5 v6))
 (v9 (M5 4 (oA (z7 (gv 2) v6) u00))
 (v9 (M5 5 (W5 (z7 (gv 1) v6)))
 (v9 (Y5 (ob (o2 (zt0 (oA (z7 (gv 5) v6) Z2)) (gc (.int 0)) gtD))
 (v9 (M3 (vi0 5) (gN 6))
 (v9 (ifD (rr0 (ob (o2 (gv 6) (gv 4) (xa0 true))))
 (v9 (M3 (J7 (gc (.bl true))) (putAt 4 (gv 6)))
 (v9 (Z0 (N6 3 (gv 6)))
 (v9 (Z0 (O7 5 (oA (z7 (oA (z7 (orE (o2 (gv 0) (gv 6) ixD) (o2 (gv 0) (gv 6) M8)) v6) N8) v6) q60)))
 u9)))
 u9)
 u9)) 100000)
 (v9 (q90 3)
 u9)))))
def ox0:List Str:=["web", "k", "left", "order", "seen", "waiting", "part"]
def vd0:List D->Option D:=mkN 3 ox0 nl0
def cy0:GS:=(v9 (O1 (oA (z7 (gv 0) (z7 (gv 1) (z7 (gc (.dct (.inl []) [])) v6))) vd0))
 u9)
def cw0:List Str:=["web", "k"]
def uc0:List D->Option D:=mkN 2 cw0 cy0
def jt0:GS:=(v9 (j6 (gN 2) (lg0 (oA (z7 (gv 0) (z7 (gv 1) v6)) uc0)))
 (v9 (M5 3 (gc (.dct (.inl []) [])))
 (v9 (J9 (qf0 (z7 (gv 2) v6)) (rq0 4 5)
 (v9 (M3 (J7 (gv 4)) (putAt 3 (gv 5)))
 u9))
 (v9 (d9 (ui0 (oA (z7 (X8 1 [0,3] (zs0 (gv 2)) (gN 0) noT (oA (z7 (orE (o2 (gv 1) (gv 0) ixD) (o2 (gv 1) (gv 0) M8)) (z7 (gv 2) v6)) w60)) v6) Q3)))
 u9))))
def pz0:List Str:=["web", "k", "order", "numbers", "number", "part"]
def G6:List D->Option D:=mkF 2 pz0 jt0
def mw0:GZ:=(T4 (g80 (z7 (gv 0) (z7 (gv 1) v6)) W8 2)
 (T4 (okZ (M5 3 (gc (.dct (.inl []) []))))
 (T4 (okZ (M5 4 (W5 (z7 (gv 1) v6))))
 (T4 (okZ (Y5 (ob (o2 (zt0 (oA (z7 (gv 4) v6) Z2)) (gc (.int 0)) gtD))
 (v9 (M3 (vi0 4) (gN 5))
 (v9 (ifD (rr0 (ob (o2 (gv 5) (gv 3) (xa0 true))))
 (v9 (M3 (J7 (oA (z7 (gv 0) (z7 (o2 (gv 2) (gv 5) ixD) v6)) S8)) (putAt 3 (gv 5)))
 (v9 (Z0 (O7 4 (oA (z7 (ta0 (o2 (gv 3) (gv 5) M8)) v6) N8)))
 u9))
 u9)
 u9)) 100000))
 (T4 (okZ (d9 (ui0 (oA (z7 (gv 3) (z7 (gv 1) v6)) G6))))
 vg0)))))
def kn0:List Str:=["look", "k", "starts", "parts", "waiting", "number"]
def yo0:List D->Option DX:=mkX 2 kn0 mw0
def rc0:GS:=u9
def ra0:List Str:=["_law_some"]
def R7:List D->Option D:=mkL 1 0 ra0 rc0
def rf0:GS:=(v9 (O1 (X8 1 [0] (O9 (z7 (oA (z7 (gv 0) v6) yi0) v6)) (gN 0) noT (oA (z7 (gv 1) (z7 (gv 0) v6)) (U9 W2))))
 u9)
def vh0:List Str:=["_law_look_here"]
def K5:List D->Option D:=mkN 1 vh0 rf0
def cs0:GS:=(v9 (j6 (gN 1) (oA (z7 (gv 0) (z7 (gc (.int 1)) (z7 (gc (.int 20)) v6))) z70))
 (v9 (j6 (gN 2) (oA (z7 (gv 0) (z7 (gc (.int 30)) (z7 (gc (.int 20)) v6))) z70))
 (v9 (j6 (gN 3) (oA (z7 (gv 1) v6) J6))
 (v9 (j6 (gN 4) (oA (z7 (gv 2) v6) J6))
 (v9 (j6 (gN 5) (oA (z7 (gv 3) v6) R7))
 (v9 (j6 (gN 6) (oA (z7 (gv 4) v6) R7))
 (v9 (ll0 7 (O9 (z7 (oA (z7 (oA (z7 (gv 1) v6) Z2) (z7 (oA (z7 (gv 2) v6) Z2) v6)) mr0) v6)) (gN 8) (ob (o2 (gv 8) (oA (z7 (gv 1) v6) Z2) ltD)) (oA (z7 (gv 5) (z7 (gv 8) v6)) (U9 W2)) (ob (o2 (gv 8) (oA (z7 (gv 2) v6) Z2) ltD)) (oA (z7 (gv 6) (z7 (gv 8) v6)) (U9 W2)))
 (v9 (ifD (z00 (ob (o2 (oA (z7 (o2 (gv 7) (gc (.int 0)) ixD) v6) Q3) (gv 1) xu0)) (z00 (ob (o2 (oA (z7 (o2 (gv 7) (gc (.int 1)) ixD) v6) Q3) (gv 2) xu0)) (ob (o2 (oA (z7 (oA (z7 (o2 (gv 7) (gc (.int 0)) ixD) v6) Q3) v6) J6) (gv 3) xu0))))
 (v9 (d9 (gc (.bl false)))
 u9)
 u9)
 (v9 (J9 (O9 (z7 (oA (z7 (gv 1) v6) Z2) v6)) (gN 8)
 (v9 (j6 (gN 9) (oA (z7 (gv 5) (z7 (gv 8) v6)) (U9 yo0)))
 (v9 (ifD (z00 (ob (o2 (gv 9) (oA (z7 (gv 1) (z7 (gv 8) v6)) G6) xu0)) (ob (o2 (oA (z7 (oA (z7 (oA (z7 (oA (z7 (gv 9) v6) J6) v6) R7) v6) K5) v6) Q3) (gv 9) xu0)))
 (v9 (d9 (gc (.bl false)))
 u9)
 u9)
 u9)))
 (v9 (M3 (J7 (oA (z7 (gv 1) v6) Q9)) (d70 10 11 12))
 (v9 (j6 (gN 13) (o2 (oA (z7 (oA (z7 (gv 0) (z7 (gc (.int 62)) v6)) Y7) (z7 (gc (.int 90)) v6)) m5) (oA (z7 (gv 1) v6) Z2) Z6))
 (v9 (M5 14 (W5 v6))
 (v9 (J9 (O9 (z7 (oA (z7 (gv 10) v6) Z2) v6)) (gN 15)
 (v9 (ifD (z00 (ob (o2 (gv 15) (gv 11) ltD)) (ob (y90 (o2 (gv 12) (gv 13) ixD) (gv 15) (o2 (gv 12) (o2 (gv 13) (gc (.int 1)) o9) ixD) leD ltD)))
 (v9 (Z0 (N6 14 (o2 (gv 10) (gv 15) ixD)))
 u9)
 (v9 (Z0 (N6 14 (o2 (o2 (o2 (gv 10) (gv 15) ixD) (gc (.int 77)) o9) (gc (.int 256)) Z6)))
 u9))
 u9))
 (v9 (ie0 14 (d9 (he0 (o2 (oA (z7 (oA (z7 (gv 14) v6) R7) (z7 (gv 13) v6)) (U9 W2)) (o2 (gv 1) (gv 13) ixD) o50) (o2 (oA (z7 (oA (z7 (gv 6) v6) K5) v6) Q3) (gv 2) o50))))
 u9))))))))))))))
def cu0:List Str:=["_law_script", "_law_one", "_law_other", "_law_first", "_law_second", "_law_here", "_law_there", "_law_found", "_law_k", "_law_web", "_law_whole", "_law_index", "_law_begins", "_law_at", "_law_bent", "_law_place"]
def se0:List D->Option D:=mkF 1 cu0 cs0
end Ga
namespace Ga
open DL W K22
open Km (Wb ix pd kb laid)
open Ja (pq wc0 ss0 A mp0 dd pb0 Mt o60 fc0 qc0 ls0 jy0 Wa0 go0 NB qp0 v80 ws)
def Tl(W:D)(x:Nat)(d:D):Prop:=ixD W (.int (x:Int))=some d∨(ixD W (.int (x:Int))=none/\M8 W (.int (x:Int))=some d)
theorem cv0{ga gb:GE}{W:D}{x:Nat}{d:D}(h1:ga δ=some W)(h2:gb δ=some (.int (x:Int)))(h:Tl W x d):orE (o2 ga gb ixD) (o2 ga gb M8) δ=some d:=by
 unfold orE;rw[p6 (f:=ixD) h1 h2,p6 (f:=M8) h1 h2];rcases h with h|⟨h,h'⟩
 ·rw[h]
 ·rw[h];exact h'
section
variable(hw:Wb ps){a:Nat}{r:List Nat}{W:D}(m:Mt ps a r)(hW:∀x∈r,Tl W x (pq ps x).d)
include hw m hW
theorem gw0:vd0 [W,.int (a:Int),.dct (.inl []) []]=some (.lst (nd r)):=by
 obtain⟨c,hd,hc⟩:=m.ex;obtain⟨s',e⟩:=fr0 (W:=W) (k:=.sh (.int (a:Int))) (l:=.sh (.dct (.inl []) [])) (U:=[]) (gw:=orE (o2 (gv 0) (gv 6) ixD) (o2 (gv 0) (gv 6) M8)) (P:=λy=>y∈r) (S:=[]) (λy=>Iff.rfl) (by simp) (λy hy=>by
  refine⟨_,λ_ _ _ _ _=>cv0 rfl rfl (hW y hy),kf0 (ss0 hw (m.lt y hy)),(mp0 hw (m.lt y hy)).1,m.cl y hy⟩) hd (λy hy=>by rw[List.mem_singleton.mp hy];exact m.me) (by simp) 100000 .un (by omega)
 exact W4 rfl (v8 (δ':=[.sh W,.sh (.int (a:Int)),.sh (.dct (.inl []) []),.ow (.lst []),.un,.un,.un]) rfl (v8 (δ':=[.sh W,.sh (.int (a:Int)),.sh (.dct (.inl []) []),.ow (.lst []),.ow (.dct (.inl []) []),.un,.un]) rfl (v8 (δ':=ms W (.sh (.int (a:Int))) (.sh (.dct (.inl []) [])) [] [] [a] .un) rfl (v8 e (Y8 rfl)))))
theorem V10:uc0 [W,.int (a:Int)]=some (.lst (nd r)) :=
 W4 rfl (Y8 (R4 (by rw[p7 (ds:=[W,.int (a:Int),.dct (.inl []) []]) rfl];exact gw0 hw m hW)))
end
section
open Km (kb_mem ln0 p80 q40)
theorem js0(hw:Wb ps){a:Nat}{r:List Nat}{W:D}(m:Mt ps a r)(hW:∀x∈r,Tl W x (pq ps x).d):G6 [W,.int (a:Int)]=some (Bw.web (laid ps r)):=by
 have zs:(2000:Nat)<=sizeLine:=by decide
 have O:=m.len hw;obtain⟨δ',l1,s4,s5,rfl⟩:=R6 (f:=rq0 4 5) (G:=NB) (λi δ=>∃s4 s5:Sl,δ=[.sh (W),.sh (.int (a:Int)),.sh (.lst (nd r)),.ow (pd (kb (r.take i))),s4,s5]) (y70 (nd r)) 0 [.sh (W),.sh (.int (a:Int)),.sh (.lst (nd r)),.ow (pd (kb (r.take 0))),.un,.un] (by
  rintro j d δ hj ⟨s4,s5,rfl⟩;rw[Nat.zero_add];obtain⟨k,hk,rfl⟩:=ls0 hj;have J:=(C0.mp hk).1;have e1:r.take (j+1)=r.take j++[k]:=by rw[List.take_succ,hk];rfl
  have hl:(r.take j).length=j:=by rw[List.length_take];omega
  have hp:=Wa0 (B:=r.take j) (k:=k) (by omega) (q40 m.nd hk) (.sh (W)) (.sh (.int (a:Int))) (.sh (.lst (nd r)));rw[hl] at hp;exact⟨[.sh (W),.sh (.int (a:Int)),.sh (.lst (nd r)),.ow (pd (kb (r.take j))),.sh (.int (j:Int)),.sh (.int (k:Int))],_,rfl,v8 hp rfl,.sh (.int (j:Int)),.sh (.int (k:Int)),by rw[e1]⟩) ⟨.un,.un,rfl⟩
 rw[Nat.zero_add,qc0,List.take_length] at l1;refine j9 rfl (v8 (m9 (d:=.lst (nd r)) (am0 ?_ (dd0 r))) (v8 (δ':=[.sh (W),.sh (.int (a:Int)),.sh (.lst (nd r)),.ow (pd (kb (r.take 0))),.un,.un]) rfl (v8 (O6 (items:=y70 (nd r)) ?_ l1) (o4 (d7 ?_)))))
 ·show oA (z7 (gv 0) (z7 (gv 1) v6)) uc0 [.sh (W),.sh (.int (a:Int)),.un,.un,.un,.un]=_
  rw[p7 (ds:=[W,.int (a:Int)]) rfl];exact V10 hw m hW
 ·exact jy0 _ r rfl
 ·show oA _ Q3 [.sh (W),.sh (.int (a:Int)),.sh (.lst (nd r)),.sh (pd (kb r)),yc0 s4,yc0 s5]=_
  rw[p7 (ds:=[.lst ((laid ps r).map Pt.d)]) (cons_of (U8 (items:=nd r) rfl (by rw[zj0];omega) (by
   unfold nd laid;rw[List.map_map];refine Ia.qw0 _ _ r λi hi=>⟨[.sh (.int (i:Int)),.sh (W),.sh (pd (kb r))],rfl,rfl,?_⟩
   rw[p7 (ds:=[(pq ps i).d,pd (kb r)]) (cons_of (cv0 rfl rfl (hW i hi)) rfl)];exact jb0 (ss0 hw (m.lt i hi)) (ix r) _ λj hj=>go0 (m.cl i hi j hj))) rfl)]
  rfl
end
section
open Bw (bg sts ix pb S5 Gw' Gq Gs)
open Ia (Tel zto zok zrt)
theorem ev0(hw:Wb ps)(hs:∀p∈ps,Gs p){a:Nat}{r:List Nat}(m:Mt ps a r)(h0:Tel F 0 (ix ps))(h1:∀x∈r,Tel F (bg ps x) (pb (pq ps x))):yo0 [F,.int (a:Int)]=some (.ok (Bw.web (laid ps r))):=by
 have ha:=m.lt a m.me;have hg:=v80 hw;have hp:∀x,x∈r->S8 [F,.int ((bg ps x:Nat):Int)]=some (pq ps x).d:=λx hx=>by
  have hq:Gq (pq ps x):=by rw[wc0 (m.lt x hx)];exact hw.it _ (D3 _)
  have O:Gs (pq ps x):=by rw[wc0 (m.lt x hx)];exact hs _ (D3 _)
  exact Ia.pm0 hq O (h1 x hx) (by have:=Ia.b40 hg x;have:=S5 hq.gp;omega)
 obtain⟨c,q,d1,d2,d3,d4,_⟩:=f90 (λx=>(A ps x).reverse) [] ps.length hw.len.2 (λi hi=>⟨by rw[List.length_reverse];exact(mp0 hw hi).1,λj hj=>(mp0 hw hi).2 j (w8.mp hj)⟩) 1000 [] [a] (by have:=hw.len.2;simp only[List.length_cons,List.length_nil];omega) (by decide) List.nodup_nil (λy hy=>by cases hy) (λy hy=>by rw[List.mem_singleton.mp hy];exact ha);obtain⟨_,f2⟩:=nm0 d1 λi hi=>by cases hi
 obtain⟨s',e⟩:=qp0 (F:=F) (k:=.sh (.int (a:Int))) hw (C:=λx=>x∈r) m.lt m.cl hp d1 (λy hy=>by rw[List.mem_singleton.mp hy];exact m.me) (by simp) 100000 .un (by omega);have J:∀x∈r,x∈q:=by
  obtain⟨c',dm,_⟩:=m.ex;refine fc0 (C:=λx=>x∈q) (λi hi j hj=>(f2 i hi j (w8.mpr hj)).resolve_right (by simp)) dm (λx hx=>by cases hx) λx hx=>?_
  rw[List.mem_singleton.mp hx];exact o60 d1 a (.inr (D4.mpr rfl))
 refine lq0 rfl (zto (δ':=[.sh F,.sh (.int (a:Int)),.sh (.lst (sts ps ps.length)),.un,.un,.un]) ?_ (zto (δ':=[.sh F,.sh (.int (a:Int)),.sh (.lst (sts ps ps.length)),.ow (.dct (.inl []) []),.un,.un]) (zok rfl) (zto (δ':=ws ps F (.sh (.int (a:Int))) [] [a] .un) (zok rfl) (zto (zok e) (zrt (zok (d7 ?_)))))))
 ·show Option.map _ (W8 [F,.int (a:Int)])=_
  rw[show W8 [F,.int (a:Int)]=some (.ok (.lst (sts ps ps.length))) from Ia.n90 hg h0 (a:Int) (by omega) (by omega)];rfl
 ·show oA (z7 (gv 3) (z7 (gv 1) v6)) G6 [.sh F,.sh (.int (a:Int)),.sh (.lst (sts ps ps.length)),.sh (dd ps q),.sh (.lst (nd [].reverse)),yc0 s']=_
  rw[p7 (ds:=[dd ps q,.int (a:Int)]) rfl];exact js0 hw m λx hx=>.inr ⟨rfl,pb0 ps q x (J x hx)⟩
end
theorem Xt0{x:Nat}(h:x<ps.length):Tl (Bw.web ps) x (pq ps x).d:=.inl (Km.ws0 h).1
end Ga
namespace Ga
open DL W K22
open Km (Wb laid)
open Bw (bg sts ix bun zg0 pb S5 bs Gw' Gq Gs P0 web small)
open Ia (Tel s00)
theorem kj0:∀(ds:List D) (a i:Nat),K6 ((List.range' a ds.length).map λ(j:Nat)=>(Sum.inl (j:Int):Q4)) ds (.inl ((a+i:Nat):Int))=ds[i]?
 | [],a,i=>by simp[K6]
 | d::ds,a,0=>by
  rw[List.length_cons,List.range'_succ,List.map_cons];unfold K6;rw[if_pos (by rw[Nat.add_zero])];rfl
 | d::ds,a,i+1=>by
  have ih:=kj0 ds (a+1) i;rw[List.length_cons,List.range'_succ,List.map_cons];unfold K6;rw[if_neg (λz=>by injection z with z;omega),List.getElem?_cons_succ,← ih,show a+(i+1)=a+1+i by omega]
def lk(T:List Int):D:=.fn (rk T.length) (T.map .int)
theorem si0(T:List Int):R7 [.lst (T.map .int)]=some (lk T):=by
 show some (D.fn (rk (T.map D.int).length) (T.map .int))=_;rw[List.length_map];rfl
theorem bc0{T pre post:List Int}{a:Nat}(hT:T=pre++(l++post))(ha:pre.length=a):Tel (lk T) a l:=λi hi=>by
 have h:=kj0 (T.map .int) 0 (a+i);rw[Nat.zero_add,List.length_map,← List.range_eq_range'] at h;show K6 (rk T.length) (T.map .int) (.inl ((a+i:Nat):Int))=_;refine h.trans ?_;subst hT ha;rw[List.getElem?_map,List.getElem?_append_right (by omega),Nat.add_sub_cancel_left,List.getElem?_append_left hi,List.getElem?_eq_getElem hi];rfl
theorem lu0(ps:List Pt):Tel (lk (bun ps)) 0 (ix ps):=bc0 (pre:=[]) (post:=ps.flatMap pb) rfl rfl
theorem ei0{k:Nat}(hk:k<ps.length):Tel (lk (bun ps)) (bg ps k) (pb ps[k]):=by
 obtain⟨post,ep⟩:=s00 hk;exact bc0 ep (by unfold Bw.bg;rw[List.length_append])
theorem od0(hw:Wb ps)(hs:∀p∈ps,Gs p){k:Nat}(hk:k<ps.length):W2 [lk (bun ps),.int (k:Int)]=some (.ok ps[k].d) :=
 Ia.qg0 (Ja.v80 hw) (lu0 ps) k hk (hs _ (D3 hk)) (ei0 hk)
theorem aw0(hw:Wb ps)(hs:∀p∈ps,Gs p):K5 [lk (bun ps)]=some (.lst (ps.map Pt.d)):=by
 have z:(1000:Nat)<=sizeLine:=by decide
 have J:=hw.len.2;have hc:yi0 [lk (bun ps)]=some (.int (ps.length:Int)):=Ia.cd0 (small (by omega)) (Tel.left (lu0 ps));refine W4 rfl (Y8 (R4 (U8 (items:=V9 0 (ps.length:Int)) (za0 (cons_of (by rw[p7 (ds:=[lk (bun ps)]) rfl];exact hc) rfl) (by omega) (by omega)) (by rw[G5];omega) ?_)));have e:ps.map Pt.d=(List.range ps.length).map λk=>(ps.getD k (.row [])).d:=by
  refine C40 (by simp) λi a b=>?_
  rw[List.length_map] at a;simp[List.getD_eq_getElem?_getD,a]
 have er:V9 0 (ps.length:Int)=(List.range ps.length).map λ(k:Nat)=>D.int (0+(k:Int)):=by
  unfold V9;rw[show ((ps.length:Int) - 0).toNat=ps.length by omega]
 rw[e,er];refine Ia.qw0 _ _ _ λk hk=>⟨[.sh (.int (0+(k:Int))),.sh (lk (bun ps))],rfl,rfl,?_⟩
 have hk:=C8.mp hk;rw[p7 (ds:=[lk (bun ps),.int (k:Int)]) (cons_of rfl (cons_of (by show some (D.int (0+(k:Int)))=_;rw[Int.zero_add]) rfl)),show ps.getD k (.row [])=ps[k] by simp[List.getD_eq_getElem?_getD,hk]];exact v40 (od0 hw hs hk)
theorem l50{a:List Str}{b:List D}{s:Str}(h:s∈(a.zip b).map (·.1)):s∈a:=by
 obtain⟨p,hp,rfl⟩:=B0.mp h;exact(N3 (show (p.1,p.2)∈a.zip b from hp)).1
theorem Wk0{p:Pt}(h:Gs p)(f:Nat->Nat):Gs (rel f p):=by
 cases p with
 | text w=>exact h
 | row vs=>exact⟨λs hs=>(by cases hs),λw e=>(by cases e)⟩
 | table ps =>
  refine⟨λs hs=>h.1 s ?_,λw e=>(by cases e)⟩;rcases B5.mp hs with q|q
  ·exact D6 _ (l50 q)
  ·cases q
 | rcd c ps =>
  refine⟨λs hs=>h.1 s ?_,λw e=>(by cases e)⟩;rcases B5.mp hs with q|q
  ·exact D6 _ (l50 q)
  ·exact C6 _ q
theorem aj0(hs:∀p∈ps,Gs p){r:List Nat}(hr:∀y∈r,y<ps.length):∀p∈laid ps r,Gs p:=λp hp=>by
 obtain⟨k,hk,rfl⟩:=B0.mp hp;exact Wk0 (hs _ (Km.ws0 (hr k hk)).2) _
end Ga
namespace K22
open Ga
open DL W
section
variable(h:Web ps){x:Nat}(hx:x<ps.length)
include h hx
end
end K22
namespace K22
open Ga
open DL W
theorem fe0{v:D}(h:Lv n v)(k:Nat):lean v (k+1)=true:=by
 rcases h with rfl|⟨z,rfl⟩|⟨j,rfl,_⟩<;>simp[lean,leans]
theorem v70{l:List D}{k:Nat}(h:∀x∈l,lean x k=true):leans l k=true:=by
 induction l with
 | nil=>rfl
 | cons a l ih=>rw[leans,h a A9,ih λx hx=>h x (A7 _ hx)];rfl
theorem fw0{p:Pt}(h:Pw n p)(k:Nat):lean p.d (k+4)=true:=by
 have lp:∀ps:List (Str×D),(∀v∈ps.map (·.2),Lv n v)->leans (ps.map pr) (k+2)=true:=λps hv=>v70 λx hx=>by
  obtain⟨q,hq,rfl⟩:=B0.mp hx;have:=fe0 (hv q.2 (B0.mpr ⟨q,hq,rfl⟩)) k;show leans [.str q.1,q.2] (k+1)=true;rw[leans,leans,leans,this];simp[lean]
 cases p with
 | text w=>simp[Pt.d,lean,leans]
 | row vs =>
  have e:leans vs (k+2)=true:=v70 λx hx=>fe0 (h.lv x hx) (k+1)
  simp[Pt.d,lean,leans,e]
 | table ps =>
  have e:=lp ps h.lv;simp[Pt.d,lean,leans,e]
 | rcd c ps =>
  have e:=lp ps h.lv;simp[Pt.d,lean,leans,e]
theorem ao0(h:Web ps)(k:Nat):lean (wd ps) (k+5)=true:=by
 unfold wd;rw[lean];refine v70 λx hx=>?_
 obtain⟨p,hp,rfl⟩:=B0.mp hx;exact fw0 (h.pw p hp) k
end K22
namespace Ga
open DL W K22
open Km (Wb laid)
open Bw (bg sts zy0 ix bun zg0 ya0 pb S5 bs Gw' Gq Gs web small)
open Ia (Tel s00 cm0 tm0 R3 xp0 iq0)
open Ja (pq wc0 Mt g60 v80)
theorem ne_self{d:D}(h:lean d 50=true):xu0 d d=some (.bl false):=by
 unfold xu0;rw[if_pos ⟨h,h⟩,Pn.rs0 _ 50 h];rfl
theorem eq_self{d:D}(h:lean d 50=true):o50 d d=some (.bl true):=by
 unfold o50;rw[if_pos ⟨h,h⟩,Pn.rs0 _ 50 h]
theorem td0(hw:Wb ps):lean (web ps) 50=true:=ao0 (ps:=ps) ⟨hw.len,λp hp=>⟨(hw.it p hp).few,λv hv=>Km.b00 ((hw.it p hp).vals v hv) (hw.lk p hp v hv)⟩⟩ 45
theorem Zf0(hw:Wb ps){k:Nat}(hk:k<ps.length):lean ps[k].d 50=true:=by
 have:=Ja.ss0 hw hk;rw[wc0 hk] at this;exact fw0 this 46
theorem Y50(l:List Int):lean (.lst (l.map .int)) 50=true:=by
 rw[lean];exact v70 λx hx=>by
  obtain⟨z,_,rfl⟩:=B0.mp hx;simp[lean]
theorem no0{f:D->Ds->Option Ds}{t1:GB}{e1:GE}{t2:GB}{e2:GE}(P:Nat->(Bool->List D)->Ds->Prop):∀(items:List D) (i:Nat) (L:Bool->List D) (δ:Ds),
  (∀j d L δ,items[j]?=some d->P (i+j) L δ->∃δ1 L1 L2,f d δ=some δ1/\stepT t1 e1 false L δ1=some L1/\stepT t2 e2 true L1 δ1=some L2/\P (i+j+1) L2 δ1)->P i L δ->∃L' δ',w70 f t1 e1 t2 e2 items L δ=some (L',δ')/\P (i+items.length) L' δ'
 | [],i,L,δ,_,h=>⟨L,δ,rfl,h⟩
 | d::ds,i,L,δ,H,h=>by
  obtain⟨δ1,L1,L2,a1,a2,a3,a4⟩:=H 0 d L δ rfl h;obtain⟨L',δ',b1,b2⟩:=no0 P ds (i+1) L2 δ1 (λj d' L δ hj hp=>by
   have:=H (j+1) d' L δ (by simpa using hj) (by rw[show i+(j+1)=i+1+j by omega];exact hp);rw[show i+(j+1)+1=i+1+j+1 by omega] at this;exact this) a4
  refine⟨L',δ',?_,by rw[List.length_cons,show i+(ds.length+1)=i+1+ds.length by omega];exact b2⟩;unfold w70;rw[a1,Option.bind_some,a2,Option.bind_some,a3,Option.bind_some];exact b1
theorem Ym0{gt:GB}{ge:GE}{s:Bool}{d:D}(h1:gt δ=some true)(h2:ge δ=some d)(h3:(L s).length<sizeLine):stepT gt ge s L δ=some (apL L s d):=by
 unfold DL.stepT;rw[h1,Option.bind_some,if_pos rfl,h2,Option.bind_some,if_pos h3]
theorem Wp0{gt:GB}{ge:GE}{s:Bool}(h1:gt δ=some false):stepT gt ge s L δ=some L:=by
 unfold DL.stepT;rw[h1,Option.bind_some,if_neg (by simp)]
theorem d80(h:∀s∈δ,∀d,s≠.ow d):tp0 δ:=λi d e=>h _ (D1 e) d rfl
def pre(ns:List Int)(ps qs:List Pt):Ds:=[.sh (.lst (ns.map .int)),.sh (web ps),.sh (web qs),.sh (.lst ((bun ps).map .int)),.sh (.lst ((bun qs).map .int)),.sh (lk (bun ps)),.sh (lk (bun qs))]
def TW:GS:=ll0 7 (O9 (z7 (oA (z7 (oA (z7 (gv 1) v6) Z2) (z7 (oA (z7 (gv 2) v6) Z2) v6)) mr0) v6)) (gN 8) (ob (o2 (gv 8) (oA (z7 (gv 1) v6) Z2) ltD)) (oA (z7 (gv 5) (z7 (gv 8) v6)) (U9 W2)) (ob (o2 (gv 8) (oA (z7 (gv 2) v6) Z2) ltD)) (oA (z7 (gv 6) (z7 (gv 8) v6)) (U9 W2))
theorem lr0(ps:List Pt){g:GE}(h:g δ=some (web ps)):oA (z7 g v6) Z2 δ=some (.int (ps.length:Int)):=by
 rw[p7 (ds:=[web ps]) (cons_of h rfl)];show some (D.int (((ps.map Pt.d).length:Nat):Int))=_;rw[List.length_map]
section
variable(hw:Wb ps)(hs:∀p∈ps,Gs p)(vw:Wb qs)(vs:∀p∈qs,Gs p)(ns:List Int)
include hw hs vw vs
theorem Ud0:∃s8:Sl,TW (pre ns ps qs++[.un,.un,.un,.un,.un,.un,.un,.un,.un])=some (.nx (pre ns ps qs++[.sh (.lst [.lst (ps.map Pt.d),.lst (qs.map Pt.d)]),s8,.un,.un,.un,.un,.un,.un,.un])):=by
 have z:(1000:Nat)<=sizeLine:=by decide
 have hn:=hw.len.2;have hm:=vw.len.2;obtain⟨N,hN⟩:∃N:Nat,N=max ps.length qs.length:=⟨_,rfl⟩;have it:O9 (z7 (oA (z7 (oA (z7 (gv 1) v6) Z2) (z7 (oA (z7 (gv 2) v6) Z2) v6)) mr0) v6) (pre ns ps qs++[.un,.un,.un,.un,.un,.un,.un,.un,.un])=some (V9 0 (N:Int)):=za0 (cons_of (by
  rw[p7 (ds:=[.int (ps.length:Int),.int (qs.length:Int)]) (cons_of (lr0 ps rfl) (cons_of (lr0 qs rfl) rfl))];show some (D.int (if (qs.length:Int) > (ps.length:Int) then (qs.length:Int) else (ps.length:Int)))=_;congr 2;split<;>omega) rfl) (by omega) (by omega)
 have Y:∀(ws:List Pt) (J:Wb ws) (Z:∀p∈ws,Gs p) (j:Nat) (s:Bool) (L:Bool->List D) (δ:Ds) (g gl:GE),g δ=some (web ws)->gl δ=some (lk (bun ws))->gv 8 δ=some (.int (j:Int))->L s=(ws.take j).map Pt.d ->
   ∃L',stepT (ob (o2 (gv 8) (oA (z7 g v6) Z2) ltD)) (oA (z7 gl (z7 (gv 8) v6)) (U9 W2)) s L δ=some L'/\L' s=(ws.take (j+1)).map Pt.d/\∀t,t≠s->L' t=L t:=by
  intro ws J Z j s L δ g gl h1 h2 h3 h4;have t:ob (o2 (gv 8) (oA (z7 g v6) Z2) ltD) δ=some (decide ((j:Int)<(ws.length:Int))):=Bw.P0 (by
   rw[p6 (x:=.int (j:Int)) (y:=.int (ws.length:Int)) h3 (lr0 ws h1)];rfl)
  have a4:=J.len.2
  by_cases hj:j<ws.length
  ·refine⟨apL L s ws[j].d,Ym0 (by rw[t,decide_eq_true (by omega)]) (by
    rw[p7 (ds:=[lk (bun ws),.int (j:Int)]) (cons_of h2 (cons_of h3 rfl))];exact v40 (od0 J Z hj)) (by rw[h4,List.length_map,List.length_take];omega),?_,λt ht=>if_neg ht⟩
   unfold apL;rw[if_pos rfl,h4,List.take_succ,List.getElem?_eq_getElem hj,List.map_append];rfl
  ·refine⟨L,Wp0 (by rw[t,decide_eq_false (by omega)]),?_,λt ht=>rfl⟩
   rw[h4,List.take_of_length_le (by omega),List.take_of_length_le (by omega)]
 obtain⟨L,δ',l1,l2,l3,s8,rfl⟩:=no0 (f:=gN 8) (t1:=ob (o2 (gv 8) (oA (z7 (gv 1) v6) Z2) ltD)) (e1:=oA (z7 (gv 5) (z7 (gv 8) v6)) (U9 W2)) (t2:=ob (o2 (gv 8) (oA (z7 (gv 2) v6) Z2) ltD)) (e2:=oA (z7 (gv 6) (z7 (gv 8) v6)) (U9 W2))
  (λj L δ=>L false=(ps.take j).map Pt.d/\L true=(qs.take j).map Pt.d/\∃s8,δ=pre ns ps qs++[.un,s8,.un,.un,.un,.un,.un,.un,.un]) (V9 0 (N:Int)) 0 (λ_=>[]) (pre ns ps qs++[.un,.un,.un,.un,.un,.un,.un,.un,.un]) (by
  rintro j d L δ hj ⟨a1,a2,s8,rfl⟩;obtain⟨a5,rfl⟩:=o10 hj;rw[Nat.zero_add] at a1 a2 ⊢;obtain⟨L1,b1,b2,b3⟩:=Y ps hw hs j false L (pre ns ps qs++[.un,.sh (.int (j:Int)),.un,.un,.un,.un,.un,.un,.un]) (gv 1) (gv 5) rfl rfl rfl a1;obtain⟨L2,c1,c2,c3⟩:=Y qs vw vs j true L1 (pre ns ps qs++[.un,.sh (.int (j:Int)),.un,.un,.un,.un,.un,.un,.un]) (gv 2) (gv 6) rfl rfl rfl (by rw[b3 true (by simp)];exact a2);exact⟨pre ns ps qs++[.un,.sh (.int (j:Int)),.un,.un,.un,.un,.un,.un,.un],L1,L2,rfl,b1,c1,by rw[c3 false (by simp)];exact b2,c2,.sh (.int (j:Int)),rfl⟩) ⟨rfl,rfl,.un,rfl⟩
 rw[Nat.zero_add,G5,Int.toNat_natCast] at l2 l3;rw[List.take_of_length_le (by omega)] at l2 l3;refine⟨s8,?_⟩;unfold TW ll0;have a3:(pre ns ps qs++[Sl.un,.un,.un,.un,.un,.un,.un,.un,.un]).set 7 Sl.un=pre ns ps qs++[Sl.un,.un,.un,.un,.un,.un,.un,.un,.un]:=rfl;rw[if_pos ⟨d80 (by
  intro s O d;unfold pre at O;simp only[List.cons_append,List.nil_append,List.mem_cons,List.not_mem_nil,or_false] at O;rcases O with rfl|rfl|rfl|rfl|rfl|rfl|rfl|rfl|rfl|rfl|rfl|rfl|rfl|rfl|rfl|rfl<;>exact λz=>nomatch z),by show 7<16;decide⟩,a3,it,Option.bind_some,l1]
 show some (Res.nx ((pre ns ps qs++[Sl.un,s8,.un,.un,.un,.un,.un,.un,.un]).set 7 (.sh (.lst [.lst (L false),.lst (L true)]))))=_;rw[l2,l3];rfl
end
end Ga
namespace Ga
open DL W K22
open Km (Wb laid)
open Bw (bg sts zy0 ix bun zg0 ya0 pb S5 bs Gw' Gq Gs web small)
open Ia (Tel s00 cm0 tm0 ws0 R3 xp0 iq0)
open Ja (pq wc0 Mt g60 v80)
theorem orf(h1:g1 δ=some false)(h2:g2 δ=some false):z00 g1 g2 δ=some false:=Ia.cl0 h1 h2
theorem nes{g1 g2:GE}{d:D}(h1:g1 δ=some d)(h2:g2 δ=some d)(h:lean d 50=true):ob (o2 g1 g2 xu0) δ=some false:=Bw.P0 (by
 rw[p6 (x:=d) (y:=d) h1 h2];exact ne_self h)
theorem is0(hw:Wb ps){g:GE}(h:g δ=some (web ps)):oA (z7 g v6) J6 δ=some (.lst ((bun ps).map .int)):=by
 rw[p7 (ds:=[web ps]) (cons_of h rfl)];exact Bw.Yr0 (v80 hw)
theorem rdl(hw:Wb ps)(hs:∀p∈ps,Gs p){g:GE}(h:g δ=some (lk (bun ps))):oA (z7 (oA (z7 g v6) K5) v6) Q3 δ=some (web ps):=by
 rw[p7 (ds:=[.lst (ps.map Pt.d)]) (cons_of (by rw[p7 (ds:=[lk (bun ps)]) (cons_of h rfl)];exact aw0 hw hs) rfl)];rfl
def LB1:GS:=(v9 (j6 (gN 9) (oA (z7 (gv 5) (z7 (gv 8) v6)) (U9 yo0)))
 (v9 (ifD (z00 (ob (o2 (gv 9) (oA (z7 (gv 1) (z7 (gv 8) v6)) G6) xu0)) (ob (o2 (oA (z7 (oA (z7 (oA (z7 (oA (z7 (gv 9) v6) J6) v6) R7) v6) K5) v6) Q3) (gv 9) xu0)))
 (v9 (d9 (gc (.bl false)))
 u9)
 u9)
 u9))
theorem Wl0{qs:List Pt}(hw:Wb ps)(hs:∀p∈ps,Gs p)(ns:List Int)(F s9:Sl){k:Nat}(hk:k<ps.length) :
  ∃s9',LB1 (pre ns ps qs++[F,.sh (.int (k:Int)),s9,.un,.un,.un,.un,.un,.un])=some (.nx (pre ns ps qs++[F,.sh (.int (k:Int)),s9',.un,.un,.un,.un,.un,.un])):=by
 obtain⟨r,m⟩:=g60 hw hk;have O:=m.len hw;have J:=Km.bw0 hw ⟨List.length_pos_of_mem m.me,O⟩ m.lt m.cl;have Y:=aj0 hs m.lt;have Z:=ev0 hw hs m (lu0 ps) λx hx=>by
  have:=ei0 (m.lt x hx);rw[← wc0 (m.lt x hx)] at this;exact this
 have a1:=js0 hw m λx hx=>Xt0 (m.lt x hx)
 refine⟨.sh (web (laid ps r)),v8 (m9 (i:=9) (d:=web (laid ps r)) ?_) (v8 (δ':=pre ns ps qs++[F,.sh (.int (k:Int)),.sh (web (laid ps r)),.un,.un,.un,.un,.un,.un]) ?_ rfl)⟩
 ·rw[p7 (ds:=[lk (bun ps),.int (k:Int)]) rfl]
  exact v40 Z
 ·change ifD _ _ _ (pre ns ps qs++[F,.sh (.int (k:Int)),.sh (web (laid ps r)),.un,.un,.un,.un,.un,.un])=_
  rw[Z8 (orf (nes (d:=web (laid ps r)) rfl (by rw[p7 (ds:=[web ps,.int (k:Int)]) rfl];exact a1) (td0 J)) (nes (d:=web (laid ps r)) (rdl J Y (by
   rw[p7 (ds:=[.lst ((bun (laid ps r)).map .int)]) (cons_of (is0 J rfl) rfl)];exact si0 _)) rfl (td0 J)))]
  rfl
def bt(ps:List Pt)(a j:Nat):Int:=if j<(ix ps).length∨(bg ps a<=j/\j<bg ps (a+1)) then (bun ps).getD j 0 else ((bun ps).getD j 0+77)%256
def V3(ps:List Pt)(a n:Nat):List Int:=(List.range n).map (bt ps a)
def LB2:GS:=(v9 (ifD (z00 (ob (o2 (gv 15) (gv 11) ltD)) (ob (y90 (o2 (gv 12) (gv 13) ixD) (gv 15) (o2 (gv 12) (o2 (gv 13) (gc (.int 1)) o9) ixD) leD ltD)))
 (v9 (Z0 (N6 14 (o2 (gv 10) (gv 15) ixD)))
 u9)
 (v9 (Z0 (N6 14 (o2 (o2 (o2 (gv 10) (gv 15) ixD) (gc (.int 77)) o9) (gc (.int 256)) Z6)))
 u9))
 u9)
def ls(ns:List Int)(ps qs:List Pt)(F s8 s9:Sl)(a:Nat)(B s15:Sl):Ds:=pre ns ps qs++[F,s8,s9,.sh (.lst ((bun ps).map .int)),.sh (.int ((ix ps).length:Int)),.sh (.lst (sts ps (ps.length+1))),.sh (.int (a:Int)),B,s15]
theorem Xk0{qs:List Pt}(hw:Wb ps)(ns:List Int)(F s8 s9:Sl){a:Nat}(ha:a<ps.length)(hj:j<(bun ps).length) :
  LB2 (ls ns ps qs F s8 s9 a (.ow (.lst ((V3 ps a j).map .int))) (.sh (.int (j:Int))))=some (.nx (ls ns ps qs F s8 s9 a (.ow (.lst ((V3 ps a (j+1)).map .int))) (.sh (.int (j:Int))))):=by
 have z:(10000000:Nat)<=sizeLine:=by decide
 have hl:=zg0 (v80 hw);have ev:∀B:Sl,o2 (gv 10) (gv 15) ixD (ls ns ps qs F s8 s9 a B (.sh (.int (j:Int))))=some (.int ((bun ps).getD j 0)):=λB=>by
  rw[p6 (x:=.lst ((bun ps).map .int)) (y:=.int (j:Int)) rfl rfl];show atI ((bun ps).map D.int) (j:Int)=_;rw[z40 (by omega) (by rw[List.length_map];omega) .non];simp[List.getD_eq_getElem?_getD,hj]
 have t1:ob (o2 (gv 15) (gv 11) ltD) (ls ns ps qs F s8 s9 a (.ow (.lst ((V3 ps a j).map .int))) (.sh (.int (j:Int))))=some (decide ((j:Int)<((ix ps).length:Int))):=Bw.P0 rfl;have t2:ob (y90 (o2 (gv 12) (gv 13) ixD) (gv 15) (o2 (gv 12) (o2 (gv 13) (gc (.int 1)) o9) ixD) leD ltD) (ls ns ps qs F s8 s9 a (.ow (.lst ((V3 ps a j).map .int))) (.sh (.int (j:Int))))=some (decide (bg ps a<=j/\j<bg ps (a+1))):=Bw.P0 (by
  unfold y90;rw[show o2 (gv 12) (gv 13) ixD (ls ns ps qs F s8 s9 a (.ow (.lst ((V3 ps a j).map .int))) (.sh (.int (j:Int))))=some (.int ((bg ps a:Nat):Int)) from by
   rw[p6 (x:=.lst (sts ps (ps.length+1))) (y:=.int (a:Int)) rfl rfl];exact tm0 ps _ a (by omega),Option.bind_some,
   show o2 (gv 12) (o2 (gv 13) (gc (.int 1)) o9) ixD (ls ns ps qs F s8 s9 a (.ow (.lst ((V3 ps a j).map .int))) (.sh (.int (j:Int))))=some (.int ((bg ps (a+1):Nat):Int)) from by
   rw[p6 (x:=.lst (sts ps (ps.length+1))) (y:=.int ((a+1:Nat):Int)) rfl rfl];exact tm0 ps _ (a+1) (by omega)]
  show Option.bind (some (D.int (j:Int))) _=_;rw[Option.bind_some];show Option.bind (some (D.bl (decide (((bg ps a:Nat):Int)<=(j:Int))))) _=_;rw[Option.bind_some];show Option.bind (some (decide (((bg ps a:Nat):Int)<=(j:Int)))) _=_;rw[Option.bind_some]
  by_cases h1:bg ps a<=j
  ·rw[decide_eq_true (by omega),if_pos rfl,Option.bind_some]
   show some (D.bl (decide ((j:Int)<((bg ps (a+1):Nat):Int))))=_;congr 2;rw[decide_eq_decide];omega
  ·rw[decide_eq_false (by omega),if_neg (by simp),decide_eq_false (λz=>h1 z.1)])
 have tt:z00 (ob (o2 (gv 15) (gv 11) ltD)) (ob (y90 (o2 (gv 12) (gv 13) ixD) (gv 15) (o2 (gv 12) (o2 (gv 13) (gc (.int 1)) o9) ixD) leD ltD)) (ls ns ps qs F s8 s9 a (.ow (.lst ((V3 ps a j).map .int))) (.sh (.int (j:Int))))=some (decide (j<(ix ps).length∨(bg ps a<=j/\j<bg ps (a+1)))):=by
  by_cases h1:j<(ix ps).length
  ·rw[Ia.Y40 (by rw[t1,decide_eq_true (by omega)]),decide_eq_true (.inl h1)]
  ·rw[Ia.cl0 (by rw[t1,decide_eq_false (by omega)]) t2]
   congr 1;exact C50.mpr ⟨.inr,λq=>q.resolve_left h1⟩
 have bl:((V3 ps a j).map D.int).length<sizeLine:=by
  unfold V3;rw[List.length_map,List.length_map,List.length_range];omega
 have J:(V3 ps a (j+1)).map D.int=(V3 ps a j).map D.int++[.int (bt ps a j)]:=by
  unfold V3;rw[List.range_succ,List.map_append,List.map_append];rfl
 refine v8 (δ':=ls ns ps qs F s8 s9 a (.ow (.lst ((V3 ps a (j+1)).map .int))) (.sh (.int (j:Int)))) ?_ rfl;rw[J]
 by_cases h:j<(ix ps).length∨(bg ps a<=j/\j<bg ps (a+1))
 ·rw[T3 (by rw[tt,decide_eq_true h])]
  exact v8 (Gw.xk0 (i:=14) (l:=(V3 ps a j).map .int) (d:=.int (bt ps a j)) rfl (by rw[ev];unfold bt;rw[if_pos h]) bl) rfl
 ·rw[Z8 (by rw[tt,decide_eq_false h])]
  exact v8 (Gw.xk0 (i:=14) (l:=(V3 ps a j).map .int) (d:=.int (bt ps a j)) rfl (by
   rw[p6 (x:=.int ((bun ps).getD j 0+77)) (y:=.int 256) (by rw[p6 (x:=.int ((bun ps).getD j 0)) (y:=.int 77) (ev _) rfl];rfl) rfl];unfold bt;rw[if_neg h];rfl) bl) rfl
theorem cx0{a:Nat}{pre post:List Int}(hT:bun ps=pre++(l++post))(h:∀i,i<l.length->pre.length+i<(ix ps).length∨(bg ps a<=pre.length+i/\pre.length+i<bg ps (a+1))):Tel (lk (V3 ps a (bun ps).length)) pre.length l:=λi hi=>by
 have hl:(V3 ps a (bun ps).length).length=(bun ps).length:=by unfold V3;rw[List.length_map,List.length_range]
 have hb:pre.length+i<(bun ps).length:=by rw[hT];simp only[List.length_append];omega
 have g:=kj0 ((V3 ps a (bun ps).length).map .int) 0 (pre.length+i);rw[Nat.zero_add,List.length_map,← List.range_eq_range'] at g;show K6 (rk (V3 ps a (bun ps).length).length) ((V3 ps a (bun ps).length).map .int) (.inl ((pre.length+i:Nat):Int))=_;refine g.trans ?_;have e:(bun ps)[pre.length+i]?=some l[i]:=by
  rw[hT,List.getElem?_append_right (by omega),Nat.add_sub_cancel_left,List.getElem?_append_left hi,List.getElem?_eq_getElem hi]
 unfold V3;rw[List.getElem?_map,List.getElem?_map,List.getElem?_range hb];show some (D.int (bt ps a (pre.length+i)))=_;unfold bt;rw[if_pos (h i hi),List.getD_eq_getElem?_getD,e];rfl
theorem Zl0(hw:Wb ps)(hs:∀p∈ps,Gs p){a:Nat}(ha:a<ps.length):W2 [lk (V3 ps a (bun ps).length),.int (a:Int)]=some (.ok ps[a].d):=by
 refine Ia.qg0 (v80 hw) ?_ a ha (hs _ (D3 ha)) ?_
 ·exact cx0 (pre:=[]) (post:=ps.flatMap pb) rfl λi hi=>.inl (by simpa using hi)
 ·obtain⟨post,ep⟩:=s00 ha
  have e:bg ps a=(ix ps++(ps.take a).flatMap pb).length:=by unfold Bw.bg;rw[List.length_append]
  have es:=iq0 (C7 ha);rw[e];exact cx0 ep λi hi=>.inr ⟨by omega,by omega⟩
theorem ex0(ns:List Int)(hl:ns.length<=63)(hb:∀z∈ns,z.natAbs.log2<=1048576):se0 [.lst (ns.map .int)]=some (.bl true):=by
 have z:(10000000:Nat)<=sizeLine:=by decide
 obtain⟨Z,a6,_⟩:=xp0 ns hb 62 (by decide) (by decide);obtain⟨x,x0,x1,x2⟩:=R3 Z 90 (by decide) (by decide);obtain⟨ps,hp,hg,a2,a3,hs⟩:=Bw.lj0 ns hb 1 (by decide) 20 (by decide);obtain⟨qs,vp,vg,a1,a5,vs⟩:=Bw.lj0 ns hb 30 (by decide) 20 (by decide);have hw:Wb ps:=⟨⟨a2,hg.len⟩,hg.it,a3⟩;have vw:Wb qs:=⟨⟨a1,vg.len⟩,vg.it,a5⟩;have b0:=hg.len;have b1:=zg0 hg;have a4:=cm0 hg;obtain⟨s8,a7⟩:=Ud0 hw hs vw vs ns;obtain⟨F,hF⟩:∃F:Sl,F=.sh (.lst [.lst (ps.map Pt.d),.lst (qs.map Pt.d)]):=⟨_,rfl⟩;have j0:0<=x%(ps.length:Int):=L8 _ (by omega);have j1:x%(ps.length:Int)<(ps.length:Int):=L9 _ (by omega);obtain⟨a,ha⟩:∃a:Nat,(a:Int)=x%(ps.length:Int):=⟨(x%(ps.length:Int)).toNat,by omega⟩;have Y:a<ps.length:=by omega
 obtain⟨δ1,l1,t8,t9,rfl⟩:=R6 (f:=gN 8) (G:=LB1) (λ_ δ=>∃t8 t9:Sl,δ=pre ns ps qs++[F,t8,t9,.un,.un,.un,.un,.un,.un]) (V9 0 (ps.length:Int)) 0 (pre ns ps qs++[F,s8,.un,.un,.un,.un,.un,.un,.un]) (by
  rintro j d δ hj ⟨t8,t9,rfl⟩;obtain⟨J,rfl⟩:=o10 hj;rw[Int.toNat_natCast] at J;obtain⟨a8,e⟩:=Wl0 (qs:=qs) hw hs ns F t9 J;exact⟨pre ns ps qs++[F,.sh (.int (j:Int)),t9,.un,.un,.un,.un,.un,.un],_,rfl,e,_,_,rfl⟩) ⟨s8,.un,rfl⟩
 obtain⟨δ2,l2,O,rfl⟩:=R6 (f:=gN 15) (G:=LB2) (λj δ=>∃O:Sl,δ=ls ns ps qs F t8 t9 a (.ow (.lst ((V3 ps a j).map .int))) O) (V9 0 ((bun ps).length:Int)) 0 (ls ns ps qs F t8 t9 a (.ow (.lst [])) .un) (by
  rintro j d δ hj ⟨O,rfl⟩;obtain⟨J,rfl⟩:=o10 hj;rw[Int.toNat_natCast] at J;rw[Nat.zero_add];exact⟨ls ns ps qs F t8 t9 a (.ow (.lst ((V3 ps a j).map .int))) (.sh (.int (j:Int))),_,rfl,Xk0 hw ns F t8 t9 Y J,_,rfl⟩) ⟨.un,rfl⟩
 rw[Nat.zero_add,G5,Int.toNat_natCast] at l2;refine j9 rfl (v8 (m9 (d:=web ps) ?_) (v8 (m9 (d:=web qs) ?_) (v8 (m9 (d:=.lst ((bun ps).map .int)) (is0 hw rfl)) (v8 (m9 (d:=.lst ((bun qs).map .int)) (is0 vw rfl)) (v8 (m9 (d:=lk (bun ps)) ?_) (v8 (m9 (d:=lk (bun qs)) ?_) (v8 (δ':=pre ns ps qs++[F,s8,.un,.un,.un,.un,.un,.un,.un]) ?_ (v8 (δ':=pre ns ps qs++[F,s8,.un,.un,.un,.un,.un,.un,.un]) ?_ (v8 (O6 (items:=V9 0 (ps.length:Int)) (za0 (cons_of (lr0 ps rfl) rfl) (by omega) (by omega)) l1) (v8 (δ':=pre ns ps qs++[F,t8,t9,.sh (.lst ((bun ps).map .int)),.sh (.int ((ix ps).length:Int)),.sh (.lst (sts ps (ps.length+1))),.un,.un,.un]) ?_ (v8 (m9 (i:=13) (d:=.int (a:Int)) ?_) (v8 (δ':=ls ns ps qs F t8 t9 a (.ow (.lst [])) .un) rfl (v8 (O6 (items:=V9 0 ((bun ps).length:Int)) ?_ l2) (o4 ?_))))))))))))))
 ·rw[p7 (ds:=[.lst (ns.map .int),.int 1,.int 20]) rfl]
  exact hp
 ·rw[p7 (ds:=[.lst (ns.map .int),.int 30,.int 20]) rfl]
  exact vp
 ·rw[p7 (ds:=[.lst ((bun ps).map .int)]) rfl]
  exact si0 _
 ·rw[p7 (ds:=[.lst ((bun qs).map .int)]) rfl]
  exact si0 _
 ·rw[hF]
  exact a7
 ·rw[Z8 (orf (nes (d:=web ps) (by rw[hF];rfl) rfl (td0 hw)) (orf (nes (d:=web qs) (by rw[hF];rfl) rfl (td0 vw)) (nes (d:=.lst ((bun ps).map .int)) (is0 hw (by rw[hF];rfl)) rfl (Y50 _))))]
  rfl
 ·unfold M3 J7
  rw[p7 (ds:=[web ps]) rfl,show Q9 [web ps]=_ from a4];rfl
 ·rw[p6 (x:=.int x) (y:=.int (ps.length:Int)) (by
   rw[p7 (ds:=[.int Z,.int 90]) (cons_of (by rw[p7 (ds:=[.lst (ns.map .int),.int 62]) rfl];exact a6) rfl)];exact x2) (lr0 ps rfl),Gw.sp0 _ _ (by omega),ha]
 ·exact za0 (cons_of (by rw[vx0 (ds:=(bun ps).map .int) rfl,List.length_map]) rfl) (by omega) (by omega)
 ·show d9 _ (ls ns ps qs F t8 t9 a (.sh (.lst ((V3 ps a (bun ps).length).map .int))) O)=_
  refine d7 ?_;unfold he0;rw[Bw.P0 (b:=true) (by
   rw[p6 (x:=ps[a].d) (y:=ps[a].d) (by
    rw[p7 (ds:=[lk (V3 ps a (bun ps).length),.int (a:Int)]) (cons_of (by
     rw[p7 (ds:=[.lst ((V3 ps a (bun ps).length).map .int)]) rfl];exact si0 _) rfl)]
    exact v40 (Zl0 hw hs Y)) (by rw[p6 (x:=web ps) (y:=.int (a:Int)) rfl rfl];exact ws0 ps a Y)]
   exact eq_self (Zf0 hw Y)),Option.bind_some,if_pos rfl,p6 (x:=web qs) (y:=web qs) (rdl vw vs rfl) rfl]
  exact eq_self (td0 vw)
end Ga
namespace Ga
open L2 DL W
def top(i:Nat):Stmt:=PySem.Challenge.pw_graphpack_k38_whole_bundles_and_looks.main.body.getD i (.Pass ⟨0,0,0,0⟩)
theorem b_dict:bootBuiltins "dict"=some (.type "dict"):=by decide +kernel
theorem b_list:bootBuiltins "list"=some (.type "list"):=by decide +kernel
theorem b_max:bootBuiltins "max"=some (.builtin "max"):=by decide +kernel
theorem b_ord:bootBuiltins "ord"=some (.builtin "ord"):=by decide +kernel
theorem b_str:bootBuiltins "str"=some (.type "str"):=by decide +kernel
theorem b_tuple:bootBuiltins "tuple"=some (.type "tuple"):=by decide +kernel
theorem b_zip:bootBuiltins "zip"=some (.type "zip"):=by decide +kernel
structure Txt(mg:Str->Option Value):Prop where
 b_dict:mg "dict"=none
 b_enumerate:mg "enumerate"=none
 b_isinstance:mg "isinstance"=none
 b_len:mg "len"=none
 b_list:mg "list"=none
 b_max:mg "max"=none
 b_ord:mg "ord"=none
 b_range:mg "range"=none
 b_reversed:mg "reversed"=none
 b_str:mg "str"=none
 b_tuple:mg "tuple"=none
 b_zip:mg "zip"=none
 c_BASE:∃t,mg "BASE"=some (.int 128 t)
 c_NAME_SIGNS:∃t,mg "NAME_SIGNS"=some (.str "0123456789abcdefghijklmnopqrstuvwxyz" t)
 c_WORD_SIGNS:∃t,mg "WORD_SIGNS"=some (.str " 0123456789abcdefghijklmnopqrstuvwxyz" t)
theorem fsc{P:List Str}(a:sc.kind=.function)(b:sc.isCoroutine=false)(c:sc.isGenerator=false)(d:N.take P.length=P)(e:N.Nodup/\(∀x∈P,sc.names.lookup x=some .local∨sc.names.lookup x=some .cell)/\∀y∈sc.names,y.2≠.free):FnScope N P sc:=⟨a,b,c,e.1,d,e.2.1,e.2.2⟩
theorem cok(a:scope.kind=.function)(b:N'.length=n+caps.length)(c:(∀y∈scope.names,y.2≠.cell)/\(∀y∈scope.names,y.2=.local->scope.names.lookup y.1=some .local)/\(∀y∈scope.names,y.2=.free->sc.names.lookup y.1=some .cell∨sc.names.lookup y.1=some .free)/\N'.Nodup/\∀k∈List.range caps.length,N'[n+k]?=(caps[k]?).bind (N[·]?)/\(N'[n+k]?).all (λy=>scope.names.lookup y==some .free)=true):CompOk sc scope N N' n caps:=⟨a,c.1,c.2.1,c.2.2.1,c.2.2.2.1,b,c.2.2.2.2⟩
section
variable{P:Program}{w:World}
theorem z20:FnScope vw0 ["number"] (u6 (top 5)):=fsc rfl rfl rfl rfl (by decide +kernel)
theorem pk0(F:Fun K "number_bytes" "number_bytes" (top 5) fa fd)(T:Txt mg)  : FnOk P w K mg base CX0 1 fa fd ["number"] (spN K X5) :=
 okN (k:=0) (G:=u20) F z20 (λcdv A outer s H E hr=>(w6 (T5 1 (S7 (z8 (X7 (z9 0) (zb0 T.c_BASE)) v5)) z20.nd)
   (w6 (j4 (ze0 (z9 0) (zb0 T.c_BASE)) (t6 2 z20.nd))
   (w6 (y20 100000 C4 (o8 mi0 qj0 (z9 2) u5)
   (w6 (W3 (yg0 1 (m7 (zb0 T.c_BASE) (X7 (z9 2) (zb0 T.c_BASE)))))
   (w6 (j4 (ze0 (z9 2) (zb0 T.c_BASE)) (t6 2 z20.nd))
   v7)))
   (w6 (gr0 (l30 T.b_list T.b_reversed (z9 1)))
   v7))))) (λds d h=>O5 h)
theorem gt0:FnScope my0 ["number"] (u6 (top 6)):=fsc rfl rfl rfl rfl (by decide +kernel)
theorem e50(F:Fun K "folded" "folded" (top 6) fa fd)(T:Txt mg)  : FnOk P w K mg base CX0 1 fa fd ["number"] (spD K ub0) :=
 okD (k:=0) (G:=kg0) F gt0 (λcdv A outer s H E hr=>(w6 (b8 (o8 yx0 zk0 (z9 0) u5)
   (w6 (o7 (yh0 (V0 (yz0 u5) (z9 0)) u5))
   v7)
   v7)
   (w6 (o7 (V0 u5 (z9 0)))
   v7))) (λds d h=>W0 h)
theorem j50:FnScope p90 ["number"] (u6 (top 7)):=fsc rfl rfl rfl rfl (by decide +kernel)
theorem ja0(F:Fun K "unfolded" "unfolded" (top 7) fa fd)(T:Txt mg)  : FnOk P w K mg base CX0 1 fa fd ["number"] (spD K w90) :=
 okD (k:=0) (G:=qm0) F j50 (λcdv A outer s H E hr=>(w6 (b8 (o8 W6 Y4 (X7 (z9 0) u5) u5)
   (w6 (o7 (yh0 (yz0 (ze0 (z9 0) u5)) u5))
   v7)
   v7)
   (w6 (o7 (ze0 (z9 0) u5))
   v7))) (λds d h=>W0 h)
theorem m10:FnScope wo0 ["part"] (u6 (top 12)):=fsc rfl rfl rfl rfl (by decide +kernel)
theorem nu0(F:Fun K "pair_names" "pair_names" (top 12) fa fd)(T:Txt mg)  : FnOk P w K mg base CX0 1 fa fd ["part"] (spN K y40) :=
 okN (k:=0) (G:=tu0) F m10 (λcdv A outer s H E hr=>(w6 (b8 (PWD.pt (vk0 (o8 W6 Y4 (o5 (z9 0) u5) j7) (vu0 (o8 W6 Y4 (o5 (z9 0) u5) j7))))
   (w6 (X6 (S7 v5))
   v7)
   v7)
   (w6 (X6 (zw0 (sc:=u6 (top 12)) (N:=wo0) (N':=["pair"]) (n:=1) (caps:=[]) (by exact cok rfl rfl (by decide +kernel)) (by decide) (ys0 (o5 (z9 0) (yz0 u5))) (λcl s H ex=>t6 0 (by decide +kernel:(["pair"]:List Str).Nodup)) (λcl s H ex=>S6) (λcl s H ex=>(o5 (z9 0) u5))))
   v7))) (λds d h=>O5 h)
theorem gy0:FnScope rm0 ["part"] (u6 (top 13)):=fsc rfl rfl rfl rfl (by decide +kernel)
theorem e70(F:Fun K "values" "values" (top 13) fa fd)(T:Txt mg)  : FnOk P w K mg base CX0 1 fa fd ["part"] (spN K m_values) :=
 okN (k:=0) (G:=ki0) F gy0 (λcdv A outer s H E hr=>(w6 (b8 (o8 W6 Y4 (o5 (z9 0) u5) j7)
   (w6 (X6 (S7 v5))
   v7)
   v7)
   (w6 (b8 (o8 W6 Y4 (o5 (z9 0) u5) j7)
   (w6 (X6 (rw0 T.b_list b_list (o5 (z9 0) u5)))
   v7)
   v7)
   (w6 (X6 (zw0 (sc:=u6 (top 13)) (N:=rm0) (N':=["pair"]) (n:=1) (caps:=[]) (by exact cok rfl rfl (by decide +kernel)) (by decide) (ys0 (o5 (z9 0) (yz0 u5))) (λcl s H ex=>t6 0 (by decide +kernel:(["pair"]:List Str).Nodup)) (λcl s H ex=>S6) (λcl s H ex=>(o5 (z9 0) u5))))
   v7)))) (λds d h=>O5 h)
theorem vv0:FnScope um0 ["part", "some"] (u6 (top 14)):=fsc rfl rfl rfl rfl (by decide +kernel)
theorem pu0(F:Fun K "with_values" "with_values" (top 14) fa fd)(T:Txt mg)(C_pair_names:FnN P w K mg base "pair_names" 1 ["part"] y40):FnOk P w K mg base CX0 2 fa fd ["part", "some"] (spD K G3) :=
 okD (k:=1) (G:=ul0) F vv0 (λcdv A outer s H E hr=>(w6 (b8 (o8 W6 Y4 (o5 (z9 0) u5) j7)
   (w6 (o7 (z9 0))
   v7)
   v7)
   (w6 (b8 (o8 W6 Y4 (o5 (z9 0) u5) j7)
   (w6 (o7 (T6 (z8 j7 (z8 (S9 W9 z60 T.b_tuple b_tuple (z8 (z9 1) v5)) v5))))
   v7)
   v7)
   (w6 (j4 (oe0 vy0 oq0 T.b_tuple T.b_zip b_tuple b_zip (z8 (Y6 C_pair_names hr (by decide) (z8 (z9 0) v5)) (z8 (z9 1) v5))) (t6 2 vv0.nd))
   (w6 (b8 (o8 W6 Y4 (o5 (z9 0) u5) j7)
   (w6 (o7 (T6 (z8 j7 (z8 (z9 2) v5))))
   v7)
   v7)
   (w6 (o7 (T6 (z8 j7 (z8 (o5 (z9 0) u5) (z8 (z9 2) v5)))))
   v7)))))) (λds d h=>W0 h)
theorem d30:FnScope pr0 ["part"] (u6 (top 15)):=fsc rfl rfl rfl rfl (by decide +kernel)
theorem cf0(F:Fun K "links" "links" (top 15) fa fd)(T:Txt mg)(C_values:FnN P w K mg base "values" 1 ["part"] m_values):FnOk P w K mg base CX0 2 fa fd ["part"] (spN K N8) :=
 okN (k:=1) (G:=jh0) F d30 (λcdv A outer s H E hr=>(w6 (X6 (zw0 (sc:=u6 (top 15)) (N:=pr0) (N':=["value"]) (n:=1) (caps:=[]) (by exact cok rfl rfl (by decide +kernel)) (by decide) (K4 (Y6 C_values hr (by decide) (z8 (z9 0) v5))) (λcl s H ex=>t6 0 (by decide +kernel:(["value"]:List Str).Nodup)) (λcl s H ex=>(Zq0 (vs0 (t00 va0 b_tuple T.b_isinstance T.b_tuple (z9 0))))) (λcl s H ex=>(o5 (z9 0) u5))))
   v7)) (λds d h=>O5 h)
theorem Xv0:FnScope cw0 ["web", "k"] (u6 (top 16)):=fsc rfl rfl rfl rfl (by decide +kernel)
theorem fs0(F:FunV K "met" "met" (top 16) fa fd dV)(T:Txt mg)(C_met_but:FnN P w K mg base "met_but" 3 ["web", "k", "left"] vd0):FnOk P w K mg base CX0 4 fa fd ["web", "k"] (spN K uc0) :=
 Uf0 (k:=3) (G:=cy0) F Xv0 (λcdv A outer s H E hr=>(w6 (X6 (xb0 C_met_but hr (by decide) (z8 (z9 0) (z8 (z9 1) (z8 dn0 v5)))))
   v7)) (λds d h=>O5 h)
theorem y30:FnScope ox0 ["web", "k", "left"] (u6 (top 17)):=fsc rfl rfl rfl rfl (by decide +kernel)
theorem io0(F:Fun K "met_but" "met_but" (top 17) fa fd)(T:Txt mg)(C_links:FnN P w K mg base "links" 2 ["part"] N8):FnOk P w K mg base CX0 3 fa fd ["web", "k", "left"] (spN K vd0) :=
 okN (k:=2) (G:=nl0) F y30 (λcdv A outer s H E hr=>(w6 (T5 3 (S7 v5) y30.nd)
   (w6 (T5 4 (ho0 T.b_dict b_dict (z9 2)) y30.nd)
   (w6 (T5 5 (S7 (z8 (z9 1) v5)) y30.nd)
   (w6 (y20 100000 C4 (o8 mi0 qj0 (p70 (V1 T.b_len (z8 (z9 5) v5))) u5)
   (w6 (yu0 (eu0 5) (ka0 (t6 6 y30.nd)))
   (w6 (b8 (jm0 (l70 (wa0 hr) (z9 6) (z9 4)))
   (w6 (yu0 (sg0 ge0) (px0 4 (wa0 hr) (z9 6)))
   (w6 (W3 (yg0 3 (z9 6)))
   (w6 (W3 (wn0 5 (PDF.pd (l30 T.b_list T.b_reversed (Y6 C_links hr (by decide) (z8 (fg0 (o5 (z9 0) (z9 6)) (sf0 (wa0 hr) (z9 0) (z9 6))) v5))))))
   v7)))
   v7)
   v7)))
   (w6 (wx0 3)
   v7)))))) (λds d h=>O5 h)
theorem sz0:FnScope uk0 ["part", "numbers"] (u6 (top 18)):=fsc rfl rfl rfl rfl (by decide +kernel)
theorem j00(F:Fun K "relinked" "relinked" (top 18) fa fd)(T:Txt mg)(C_values:FnN P w K mg base "values" 1 ["part"] m_values)(C_with_values:FnD P w K mg base "with_values" 2 ["part", "some"] G3):FnOk P w K mg base CX0 3 fa fd ["part", "numbers"] (spD K w60) :=
 okD (k:=2) (G:=p60) F sz0 (λcdv A outer s H E hr=>(w6 (rv0 2 sz0.nd (sc:=u6 (top 18)) (N:=uk0) (N':=["value", "numbers"]) (n:=1) (caps:=[1]) (by exact cok rfl rfl (by decide +kernel)) (by decide) (K4 (Y6 C_values hr (by decide) (z8 (z9 0) v5))) (λcl s H ex=>t6 0 (by decide +kernel:(["value", "numbers"]:List Str).Nodup)) (λcl s H ex=>S6) (λcl s H ex=>(Vh0 (vs0 (t00 va0 b_tuple T.b_isinstance T.b_tuple (z9 0))) (T6 (z8 j7 (z8 (sf0 (wa0 hr) (z9 1) (o5 (z9 0) u5)) v5))) (z9 0))))
   (w6 (o7 (d8 C_with_values hr (by decide) (z8 (z9 0) (z8 (z9 2) v5))))
   v7))) (λds d h=>W0 h)
theorem uf0:FnScope pz0 ["web", "k"] (u6 (top 19)):=fsc rfl rfl rfl rfl (by decide +kernel)
theorem lp0(F:FunV K "drawn" "drawn" (top 19) fa fd dV)(T:Txt mg)(C_met:FnN P w K mg base "met" 4 ["web", "k"] uc0)(C_relinked:FnD P w K mg base "relinked" 3 ["part", "numbers"] w60):FnOk P w K mg base CX0 5 fa fd ["web", "k"] (spD K G6) :=
 T40 (k:=4) (G:=jt0) F uf0 (λcdv A outer s H E hr=>(w6 (j4 (dm0 (xb0 C_met hr (by decide) (z8 (z9 0) (z8 (z9 1) v5)))).pd (t6 2 uf0.nd))
   (w6 (T5 3 nq0 uf0.nd)
   (w6 (Q6 C4 rfl (dw0 T.b_enumerate (z8 (z9 2) v5)) (lt0 4 5 uf0.nd (by decide))
   (w6 (yu0 (sg0 (z9 4)) (px0 3 (wa0 hr) (z9 5)))
   v7))
   (w6 (wg0 (S9 W9 z60 T.b_tuple b_tuple (z8 (yr0 (sc:=u6 (top 19)) (N:=pz0) (N':=["part", "web", "numbers"]) (n:=1) (caps:=[0,3]) (by exact cok rfl rfl (by decide +kernel)) (by decide) (K4 (z9 2)) (λcl s H ex=>t6 0 (by decide +kernel:(["part", "web", "numbers"]:List Str).Nodup)) (λcl s H ex=>S6) (λcl s H ex=>(d8 C_relinked hr (by decide) (z8 (fg0 (o5 (z9 1) (z9 0)) (sf0 (wa0 hr) (z9 1) (z9 0))) (z8 (z9 2) v5))))) v5)))
   v7))))) (λds d h=>W0 h)
theorem pn0:FnScope og0 ["byte", "signs"] (u6 (top 21)):=fsc rfl rfl rfl rfl (by decide +kernel)
theorem ih0(F:Fun K "sign_of" "sign_of" (top 21) fa fd)(T:Txt mg)  : FnOk P w K mg base CX0 1 fa fd ["byte", "signs"] (spD K zz0) :=
 okD (k:=0) (G:=ow0) F pn0 (λcdv A outer s H E hr=>(w6 (Q6 C4 rfl (o90 (z9 1)) (t6 2 pn0.nd)
   (w6 (b8 (o8 W6 Y4 (wj0 qb0 lc0 T.b_ord b_ord (z8 (z9 2) v5)) (z9 0))
   (w6 (o7 (z9 2))
   v7)
   v7)
   v7))
   (w6 (o7 t40)
   v7))) (λds d h=>W0 h)
theorem pf0:FnScope u70 ["kind", "size"] (u6 (top 22)):=fsc rfl rfl rfl rfl (by decide +kernel)
theorem qx0(F:Fun K "wanted_items" "wanted_items" (top 22) fa fd)(T:Txt mg)  : FnOk P w K mg base CX0 1 fa fd ["kind", "size"] (spD K J2) :=
 okD (k:=0) (G:=u50) F pf0 (λcdv A outer s H E hr=>(w6 (b8 (o8 W6 Y4 (z9 0) j7)
   (w6 (o7 (sa0 (xj0 (z8 j7 v5)) (z9 1)))
   v7)
   v7)
   (w6 (b8 (o8 W6 Y4 (z9 0) j7)
   (w6 (o7 (sa0 (xj0 (z8 j7 v5)) (z9 1)))
   v7)
   v7)
   (w6 (b8 (o8 W6 Y4 (z9 0) j7)
   (w6 (o7 (sa0 (xj0 (z8 j7 (z8 j7 v5))) (z9 1)))
   v7)
   v7)
   (w6 (o7 (m7 (xj0 (z8 j7 v5)) (sa0 (xj0 (z8 j7 (z8 j7 v5))) (z9 1))))
   v7))))) (λds d h=>W0 h)
theorem lm0:FnScope rd0 ["kind", "held"] (u6 (top 23)):=fsc rfl rfl rfl rfl (by decide +kernel)
theorem ks0(F:Fun K "made_part" "made_part" (top 23) fa fd)(T:Txt mg)(C_made_pairs:FnD P w K mg base "made_pairs" 1 ["held"] z90):FnOk P w K mg base CX0 2 fa fd ["kind", "held"] (spD K yy0) :=
 okD (k:=1) (G:=rh0) F lm0 (λcdv A outer s H E hr=>(w6 (b8 (o8 W6 Y4 (z9 0) j7)
   (w6 (o7 (T6 (z8 j7 (z8 (sr0 j7 (z8 (z9 1) v5)) v5))))
   v7)
   v7)
   (w6 (b8 (o8 W6 Y4 (z9 0) j7)
   (w6 (o7 (T6 (z8 j7 (z8 (S9 W9 z60 T.b_tuple b_tuple (z8 (z9 1) v5)) v5))))
   v7)
   v7)
   (w6 (b8 (o8 W6 Y4 (z9 0) j7)
   (w6 (o7 (T6 (z8 j7 (z8 (d8 C_made_pairs hr (by decide) (z8 (z9 1) v5)) v5))))
   v7)
   v7)
   (w6 (o7 (T6 (z8 j7 (z8 (o5 (z9 1) u5) (z8 (d8 C_made_pairs hr (by decide) (z8 (tb0 (z9 1) (zu0 u5) v00) v5)) v5)))))
   v7))))) (λds d h=>W0 h)
theorem ns0:FnScope t80 ["held"] (u6 (top 24)):=fsc rfl rfl rfl rfl (by decide +kernel)
theorem nw0(F:Fun K "made_pairs" "made_pairs" (top 24) fa fd)(T:Txt mg)  : FnOk P w K mg base CX0 1 fa fd ["held"] (spD K z90) :=
 okD (k:=0) (G:=uy0) F ns0 (λcdv A outer s H E hr=>(w6 (o7 (oe0 vy0 oq0 T.b_tuple T.b_zip b_tuple b_zip (z8 (jr0 (z9 0) (zu0 u5) v00 (zu0 u5)) (z8 (jr0 (z9 0) (zu0 u5) v00 (zu0 u5)) v5))))
   v7)) (λds d h=>W0 h)
theorem m60:FnScope wz0 ["signs"] (u6 (top 26)):=fsc rfl rfl rfl rfl (by decide +kernel)
theorem m00(F:Fun K "sign_bytes" "sign_bytes" (top 26) fa fd)(T:Txt mg)  : FnOk P w K mg base CX0 1 fa fd ["signs"] (spN K K8) :=
 okN (k:=0) (G:=uv0) F m60 (λcdv A outer s H E hr=>(w6 (X6 (zw0 (sc:=u6 (top 26)) (N:=wz0) (N':=["sign"]) (n:=1) (caps:=[]) (by exact cok rfl rfl (by decide +kernel)) (by decide) (o90 (z9 0)) (λcl s H ex=>t6 0 (by decide +kernel:(["sign"]:List Str).Nodup)) (λcl s H ex=>S6) (λcl s H ex=>(wj0 qb0 lc0 T.b_ord b_ord (z8 (z9 0) v5)))))
   v7)) (λds d h=>O5 h)
theorem pp0:FnScope uq0 ["part"] (u6 (top 27)):=fsc rfl rfl rfl rfl (by decide +kernel)
theorem pt0(F:Fun K "part_number" "part_number" (top 27) fa fd)(T:Txt mg)(K_KINDS:l40 K mg "KINDS" ["text", "row", "table", "record"]):FnOk P w K mg base CX0 1 fa fd ["part"] (spD K zr0) :=
 okD (k:=0) (G:=up0) F pp0 (λcdv A outer s H E hr=>(w6 (o7 (m7 (V0 u5 (V1 T.b_len (z8 (o5 (z9 0) (yz0 u5)) v5))) (a00 K_KINDS (z8 (o5 (z9 0) u5) v5))))
   v7)) (λds d h=>W0 h)
theorem nv0:FnScope tr0 ["part"] (u6 (top 28)):=fsc rfl rfl rfl rfl (by decide +kernel)
theorem nz0(F:Fun K "text_bytes" "text_bytes" (top 28) fa fd)(T:Txt mg)(C_sign_bytes:FnN P w K mg base "sign_bytes" 1 ["signs"] K8):FnOk P w K mg base CX0 2 fa fd ["part"] (spN K yk0) :=
 okN (k:=1) (G:=tg0) F nv0 (λcdv A outer s H E hr=>(w6 (b8 (o8 W6 Y4 (o5 (z9 0) u5) j7)
   (w6 (X6 (xb0 C_sign_bytes hr (by decide) (z8 (o5 (z9 0) u5) v5)))
   v7)
   v7)
   (w6 (X6 (S7 v5))
   v7))) (λds d h=>O5 h)
theorem xt0:FnScope t60 ["part"] (u6 (top 29)):=fsc rfl rfl rfl rfl (by decide +kernel)
theorem m30(F:Fun K "held_items" "held_items" (top 29) fa fd)(T:Txt mg)  : FnOk P w K mg base CX0 1 fa fd ["part"] (spN K yd0) :=
 okN (k:=0) (G:=ux0) F xt0 (λcdv A outer s H E hr=>(w6 (b8 (o8 W6 Y4 (o5 (z9 0) u5) j7)
   (w6 (X6 (S7 v5))
   v7)
   v7)
   (w6 (b8 (o8 W6 Y4 (o5 (z9 0) u5) j7)
   (w6 (X6 (rw0 T.b_list b_list (o5 (z9 0) u5)))
   v7)
   v7)
   (w6 (T5 1 (S7 v5) xt0.nd)
   (w6 (b8 (o8 W6 Y4 (o5 (z9 0) u5) j7)
   (w6 (W3 (yg0 1 (o5 (z9 0) u5)))
   v7)
   v7)
   (w6 (Q6 C4 rfl (ys0 (o5 (z9 0) (yz0 u5))) (t6 2 xt0.nd)
   (w6 (W3 (wn0 1 (S9 t50 Zd0 T.b_list b_list (z8 (z9 2) v5))))
   v7))
   (w6 (wx0 1)
   v7))))))) (λds d h=>O5 h)
theorem xg0:FnScope q30 ["web"] (u6 (top 31)):=fsc rfl rfl rfl rfl (by decide +kernel)
theorem el0(F:Fun K "bundle" "bundle" (top 31) fa fd)(T:Txt mg)(C_number_bytes:FnN P w K mg base "number_bytes" 1 ["number"] X5)(C_part_bytes:FnN P w K mg base "part_bytes" 4 ["part"] y60):FnOk P w K mg base CX0 5 fa fd ["web"] (spN K J6) :=
 okN (k:=4) (G:=kd0) F xg0 (λcdv A outer s H E hr=>(w6 (rv0 1 xg0.nd (sc:=u6 (top 31)) (N:=q30) (N':=["part"]) (n:=1) (caps:=[]) (by exact cok rfl rfl (by decide +kernel)) (by decide) (ys0 (z9 0)) (λcl s H ex=>t6 0 (by decide +kernel:(["part"]:List Str).Nodup)) (λcl s H ex=>S6) (λcl s H ex=>(Y6 C_part_bytes hr (by decide) (z8 (z9 0) v5))))
   (w6 (T5 2 (xb0 C_number_bytes hr (by decide) (z8 (V1 T.b_len (z8 (z9 1) v5)) v5)) xg0.nd)
   (w6 (Q6 C4 rfl (K4 (z9 1)) (t6 3 xg0.nd)
   (w6 (W3 (wn0 2 (Y6 C_number_bytes hr (by decide) (z8 (V1 T.b_len (z8 (z9 3) v5)) v5))))
   v7))
   (w6 (Q6 C4 rfl (K4 (z9 1)) (t6 3 xg0.nd)
   (w6 (W3 (wn0 2 (z9 3)))
   v7))
   (w6 (wx0 2)
   v7)))))) (λds d h=>O5 h)
theorem xw0:FnScope tl0 ["part"] (u6 (top 32)):=fsc rfl rfl rfl rfl (by decide +kernel)
theorem nt0(F:Fun K "part_bytes" "part_bytes" (top 32) fa fd)(T:Txt mg)(C_held_bytes:FnD P w K mg base "held_bytes" 3 ["item"] z80)(C_held_items:FnN P w K mg base "held_items" 1 ["part"] yd0)(C_number_bytes:FnN P w K mg base "number_bytes" 1 ["number"] X5)(C_part_number:FnD P w K mg base "part_number" 1 ["part"] zr0)(C_text_bytes:FnN P w K mg base "text_bytes" 2 ["part"] yk0):FnOk P w K mg base CX0 4 fa fd ["part"] (spN K y60) :=
 okN (k:=3) (G:=s40) F xw0 (λcdv A outer s H E hr=>(w6 (T5 1 (az0 (Y6 C_number_bytes hr (by decide) (z8 (d8 C_part_number hr (by decide) (z8 (z9 0) v5)) v5)) (Y6 C_text_bytes hr (by decide) (z8 (z9 0) v5))) xw0.nd)
   (w6 (Q6 C4 rfl (K4 (Y6 C_held_items hr (by decide) (z8 (z9 0) v5))) (t6 2 xw0.nd)
   (w6 (W3 (wn0 1 (d8 C_held_bytes hr (by decide) (z8 (z9 2) v5))))
   v7))
   (w6 (wx0 1)
   v7)))) (λds d h=>O5 h)
theorem m50:FnScope tq0 ["item"] (u6 (top 33)):=fsc rfl rfl rfl rfl (by decide +kernel)
theorem ma0(F:Fun K "held_bytes" "held_bytes" (top 33) fa fd)(T:Txt mg)(C_number_bytes:FnN P w K mg base "number_bytes" 1 ["number"] X5)(C_sign_bytes:FnN P w K mg base "sign_bytes" 1 ["signs"] K8)(C_value_number:FnD P w K mg base "value_number" 2 ["value"] zd0):FnOk P w K mg base CX0 3 fa fd ["item"] (spD K z80) :=
 okD (k:=2) (G:=t30) F m50 (λcdv A outer s H E hr=>(w6 (b8 (vs0 (t00 Y20 b_str T.b_isinstance T.b_str (z9 0)))
   (w6 (o7 (m7 (Y6 C_number_bytes hr (by decide) (z8 (V1 T.b_len (z8 (z9 0) v5)) v5)) (Y6 C_sign_bytes hr (by decide) (z8 (z9 0) v5))))
   v7)
   v7)
   (w6 (o7 (Y6 C_number_bytes hr (by decide) (z8 (d8 C_value_number hr (by decide) (z8 (z9 0) v5)) v5)))
   v7))) (λds d h=>W0 h)
theorem qk0:FnScope vn0 ["value"] (u6 (top 34)):=fsc rfl rfl rfl rfl (by decide +kernel)
theorem pc0(F:Fun K "value_number" "value_number" (top 34) fa fd)(T:Txt mg)(C_folded:FnD P w K mg base "folded" 1 ["number"] ub0):FnOk P w K mg base CX0 2 fa fd ["value"] (spD K zd0) :=
 okD (k:=1) (G:=vp0) F qk0 (λcdv A outer s H E hr=>(w6 (b8 (o8 fd0 jo0 (z9 0) t40)
   (w6 (o7 u5)
   v7)
   v7)
   (w6 (b8 (vs0 (t00 va0 b_tuple T.b_isinstance T.b_tuple (z9 0)))
   (w6 (o7 (m7 (V0 u5 (o5 (z9 0) u5)) u5))
   v7)
   v7)
   (w6 (o7 (m7 (V0 u5 (d8 C_folded hr (by decide) (z8 (z9 0) v5))) u5))
   v7)))) (λds d h=>W0 h)
theorem su0:FnScope wr0 ["number"] (u6 (top 35)):=fsc rfl rfl rfl rfl (by decide +kernel)
theorem sv0(F:Fun K "numbered_value" "numbered_value" (top 35) fa fd)(T:Txt mg)(C_unfolded:FnD P w K mg base "unfolded" 1 ["number"] w90):FnOk P w K mg base CX0 2 fa fd ["number"] (spD K J8) :=
 okD (k:=1) (G:=wh0) F su0 (λcdv A outer s H E hr=>(w6 (b8 (o8 W6 Y4 (z9 0) u5)
   (w6 (o7 t40)
   v7)
   v7)
   (w6 (b8 (o8 W6 Y4 (X7 (z9 0) u5) u5)
   (w6 (o7 (T6 (z8 j7 (z8 (yh0 (ze0 (z9 0) u5) u5) v5))))
   v7)
   v7)
   (w6 (o7 (d8 C_unfolded hr (by decide) (z8 (ze0 (z9 0) u5) v5)))
   v7)))) (λds d h=>W0 h)
theorem jc0:FnScope qh0 ["look"] (u6 (top 36)):=fsc rfl rfl rfl rfl (by decide +kernel)
theorem j70(F:Fun K "count_of" "count_of" (top 36) fa fd)(T:Txt mg)(C_number_at:FnD P w K mg base "number_at" 1 ["look", "place"] X3):FnOk P w K mg base CX0 2 fa fd ["look"] (spD K yi0) :=
 okD (k:=1) (G:=pe0) F jc0 (λcdv A outer s H E hr=>(w6 (o7 (o5 (d8 C_number_at hr (by decide) (z8 (z9 0) (z8 u5 v5))) u5))
   v7)) (λds d h=>W0 h)
theorem gc0:FnScope v30 ["look", "k"] (u6 (top 37)):=fsc rfl rfl rfl rfl (by decide +kernel)
theorem ig0(F:Fun K "part_of" "part_of" (top 37) fa fd)(T:Txt mg)(C_part_at:FnD P w K mg base "part_at" 4 ["look", "start"] S8)(X_part_starts:FnX P w K mg base "part_starts" 2 ["look", "k"] W8):FnOk P w K mg base (CXE P w) 5 fa fd ["look", "k"] (spX K W2) :=
 okX (k:=4) (G:=v50) F gc0 (λcdv A outer s H E hr=>(V8 (ds0 X_part_starts C_part_at hr (by decide) (by decide) (z9 0) (z8 (z9 0) (z8 (z9 1) v5)) (z9 1))
   wp0))
theorem xi0:FnScope kn0 ["look", "k"] (u6 (top 38)):=fsc rfl rfl rfl rfl (by decide +kernel)
theorem e20(F:Fun K "wanted" "wanted" (top 38) fa fd)(T:Txt mg)(C_drawn:FnD P w K mg base "drawn" 5 ["web", "k"] G6)(C_links:FnN P w K mg base "links" 2 ["part"] N8)(C_part_at:FnD P w K mg base "part_at" 4 ["look", "start"] S8)(X_part_starts:FnX P w K mg base "part_starts" 2 ["look", "k"] W8):FnOk P w K mg base (CXE P w) 6 fa fd ["look", "k"] (spX K yo0) :=
 okX (k:=5) (G:=mw0) F xi0 (λcdv A outer s H E hr=>(V8 (dv0 2 X_part_starts hr (by decide) (z8 (z9 0) (z8 (z9 1) v5)) xi0.nd)
   (V8 (z30 (T5 3 nq0 xi0.nd))
   (V8 (z30 (T5 4 (S7 (z8 (z9 1) v5)) xi0.nd))
   (V8 (z30 (y20 100000 x4 (o8 mi0 qj0 (p70 (V1 T.b_len (z8 (z9 4) v5))) u5)
   (w6 (yu0 (eu0 4) (ka0 (t6 5 xi0.nd)))
   (w6 (b8 (jm0 (l70 (wa0 hr) (z9 5) (z9 3)))
   (w6 (yu0 (sg0 (d8 C_part_at hr (by decide) (z8 (z9 0) (z8 (o5 (z9 2) (z9 5)) v5)))) (px0 3 (wa0 hr) (z9 5)))
   (w6 (W3 (wn0 4 (Y6 C_links hr (by decide) (z8 (ag0 (sf0 (wa0 hr) (z9 3) (z9 5))) v5))))
   v7))
   v7)
   v7))))
   (V8 (z30 (wg0 (d8 C_drawn hr (by decide) (z8 (z9 3) (z8 (z9 1) v5)))))
   wp0))))))
theorem J1:FnScope ri0 ["look", "place"] (u6 (top 39)):=fsc rfl rfl rfl rfl (by decide +kernel)
theorem k50(F:Fun K "number_at" "number_at" (top 39) fa fd)(T:Txt mg)  : FnOk P w K mg base CX0 1 fa fd ["look", "place"] (spD K X3) :=
 okD (k:=0) (G:=rb0) F J1 (λcdv A outer s H E hr=>(w6 (j4 u5 (t6 2 J1.nd))
   (w6 (j4 (uh0 hr (z9 0) (z9 1)) (t6 3 J1.nd))
   (w6 (y20 100000 C4 (o8 bg0 fq0 (z9 3) (zb0 T.c_BASE))
   (w6 (j4 (yh0 (m7 (V0 (z9 2) (zb0 T.c_BASE)) (z9 3)) (zb0 T.c_BASE)) (t6 2 J1.nd))
   (w6 (i10 1 J1.nd u5)
   (w6 (j4 (uh0 hr (z9 0) (z9 1)) (t6 3 J1.nd))
   v7))))
   (w6 (o7 (T6 (z8 (m7 (V0 (z9 2) (zb0 T.c_BASE)) (z9 3)) (z8 (m7 (z9 1) u5) v5))))
   v7))))) (λds d h=>W0 h)
theorem U0:FnScope zo0 ["look", "k"] (u6 (top 40)):=fsc rfl rfl rfl rfl (by decide +kernel)
theorem py0(F:Fun K "part_starts" "part_starts" (top 40) fa fd)(T:Txt mg){rr:Addr}(XT:XC.Tab K mg "WebError" rr ["NoPlace"] ["NoPlace"])(C_number_at:FnD P w K mg base "number_at" 1 ["look", "place"] X3):FnOk P w K mg base (CXE P w) 2 fa fd ["look", "k"] (spX K W8) :=
 okX (k:=1) (G:=zq0) F U0 (λcdv A outer s H E hr=>(V8 (z30 (j4 (d8 C_number_at hr (by decide) (z8 (z9 0) (z8 u5 v5))) (t6 2 U0.nd)))
   (V8 (We0 (PWD.pt (vk0 (o8 yx0 zk0 (z9 1) u5) (vu0 (o8 bg0 fq0 (z9 1) (o5 (z9 2) u5)))))
   (V8 (fy0 XT (by decide) (by decide))
   wp0)
   wp0)
   (V8 (z30 (j4 (o5 (z9 2) u5) (t6 3 U0.nd)))
   (V8 (z30 (T5 4 (S7 v5) U0.nd))
   (V8 (z30 (y20 100000 x4 (o8 yx0 zk0 (p70 (V1 T.b_len (z8 (z9 4) v5))) (o5 (z9 2) u5))
   (w6 (j4 (d8 C_number_at hr (by decide) (z8 (z9 0) (z8 (z9 3) v5))) (t6 5 U0.nd))
   (w6 (W3 (yg0 4 (o5 (z9 5) u5)))
   (w6 (j4 (o5 (z9 5) u5) (t6 3 U0.nd))
   v7)))))
   (V8 (z30 (kq0 4 (T5 6 (S7 v5) U0.nd)))
   (V8 (z30 (Q6 x4 rfl (K4 (z9 4)) (t6 5 U0.nd)
   (w6 (W3 (yg0 6 (z9 3)))
   (w6 (i10 3 U0.nd (z9 5))
   v7))))
   (V8 (z30 (wg0 (z9 6)))
   wp0)))))))))
theorem K1:FnScope ov0 ["look", "start"] (u6 (top 41)):=fsc rfl rfl rfl rfl (by decide +kernel)
theorem ip0(F:Fun K "part_at" "part_at" (top 41) fa fd)(T:Txt mg)(K_KINDS:l40 K mg "KINDS" ["text", "row", "table", "record"])(C_item_at:FnD P w K mg base "item_at" 3 ["look", "place", "want"] J3)(C_made_part:FnD P w K mg base "made_part" 2 ["kind", "held"] yy0)(C_number_at:FnD P w K mg base "number_at" 1 ["look", "place"] X3)(C_wanted_items:FnD P w K mg base "wanted_items" 1 ["kind", "size"] J2):FnOk P w K mg base CX0 4 fa fd ["look", "start"] (spD K S8) :=
 okD (k:=3) (G:=oh0) F K1 (λcdv A outer s H E hr=>(w6 (j4 (d8 C_number_at hr (by decide) (z8 (z9 0) (z8 (z9 1) v5))) (t6 2 K1.nd))
   (w6 (j4 (Xo0 K_KINDS (X7 (o5 (z9 2) u5) u5)) (t6 3 K1.nd))
   (w6 (j4 (o5 (z9 2) u5) (t6 4 K1.nd))
   (w6 (T5 5 (S7 v5) K1.nd)
   (w6 (Q6 C4 rfl (K4 (d8 C_wanted_items hr (by decide) (z8 (z9 3) (z8 (ze0 (o5 (z9 2) u5) u5) v5)))) (t6 6 K1.nd)
   (w6 (j4 (d8 C_item_at hr (by decide) (z8 (z9 0) (z8 (z9 4) (z8 (z9 6) v5)))) (t6 7 K1.nd))
   (w6 (W3 (yg0 5 (o5 (z9 7) u5)))
   (w6 (j4 (o5 (z9 7) u5) (t6 4 K1.nd))
   v7))))
   (w6 (wg0 (d8 C_made_part hr (by decide) (z8 (z9 3) (z8 (z9 5) v5))))
   v7))))))) (λds d h=>W0 h)
theorem qt0:FnScope nf0 ["look", "place", "want"] (u6 (top 42)):=fsc rfl rfl rfl rfl (by decide +kernel)
theorem ii0(F:Fun K "item_at" "item_at" (top 42) fa fd)(T:Txt mg)(C_name_at:FnD P w K mg base "name_at" 2 ["look", "start", "length"] vb0)(C_number_at:FnD P w K mg base "number_at" 1 ["look", "place"] X3)(C_numbered_value:FnD P w K mg base "numbered_value" 2 ["number"] J8)(C_sign_of:FnD P w K mg base "sign_of" 1 ["byte", "signs"] zz0):FnOk P w K mg base CX0 3 fa fd ["look", "place", "want"] (spD K J3) :=
 okD (k:=2) (G:=om0) F qt0 (λcdv A outer s H E hr=>(w6 (b8 (o8 W6 Y4 (z9 2) j7)
   (w6 (o7 (T6 (z8 (d8 C_sign_of hr (by decide) (z8 (uh0 hr (z9 0) (z9 1)) (z8 (jd0 T.c_WORD_SIGNS) v5))) (z8 (m7 (z9 1) u5) v5))))
   v7)
   v7)
   (w6 (j4 (d8 C_number_at hr (by decide) (z8 (z9 0) (z8 (z9 1) v5))) (t6 3 qt0.nd))
   (w6 (b8 (o8 W6 Y4 (z9 2) j7)
   (w6 (o7 (T6 (z8 (d8 C_numbered_value hr (by decide) (z8 (o5 (z9 3) u5) v5)) (z8 (o5 (z9 3) u5) v5))))
   v7)
   v7)
   (w6 (o7 (T6 (z8 (d8 C_name_at hr (by decide) (z8 (z9 0) (z8 (o5 (z9 3) u5) (z8 (o5 (z9 3) u5) v5)))) (z8 (m7 (o5 (z9 3) u5) (o5 (z9 3) u5)) v5))))
   v7))))) (λds d h=>W0 h)
theorem ir0:FnScope ti0 ["look", "start", "length"] (u6 (top 43)):=fsc rfl rfl rfl rfl (by decide +kernel)
theorem iv0(F:Fun K "name_at" "name_at" (top 43) fa fd)(T:Txt mg)(C_sign_of:FnD P w K mg base "sign_of" 1 ["byte", "signs"] zz0):FnOk P w K mg base CX0 2 fa fd ["look", "start", "length"] (spD K vb0) :=
 okD (k:=1) (G:=ob0) F ir0 (λcdv A outer s H E hr=>(w6 (o7 (sr0 j7 (z8 (yr0 (sc:=u6 (top 43)) (N:=ti0) (N':=["place", "look"]) (n:=1) (caps:=[0]) (by exact cok rfl rfl (by decide +kernel)) (by decide) (h00 T.b_range (z8 (z9 1) (z8 (m7 (z9 1) (z9 2)) v5))) (λcl s H ex=>t6 0 (by decide +kernel:(["place", "look"]:List Str).Nodup)) (λcl s H ex=>S6) (λcl s H ex=>(d8 C_sign_of hr (by decide) (z8 (uh0 hr (z9 1) (z9 0)) (z8 (jd0 T.c_NAME_SIGNS) v5))))) v5)))
   v7)) (λds d h=>W0 h)
theorem qr0:FnScope vm0 ["_law_script", "_law_k"] (u6 (top 45)):=fsc rfl rfl rfl rfl (by decide +kernel)
theorem qs0(F:Fun K "_law_cell_at" "_law_cell_at" (top 45) fa fd)(T:Txt mg)  : FnOk P w K mg base CX0 1 fa fd ["_law_script", "_law_k"] (spD K Y7) :=
 okD (k:=0) (G:=vt0) F qr0 (λcdv A outer s H E hr=>(w6 (b8 (o8 yx0 zk0 (z9 1) (V1 T.b_len (z8 (z9 0) v5)))
   (w6 (o7 (o5 (z9 0) (z9 1)))
   v7)
   v7)
   (w6 (o7 (V0 (m7 (V0 (z9 1) u5) u5) (m7 (z9 1) u5)))
   v7))) (λds d h=>W0 h)
theorem j80:FnScope p10 ["_law_cell", "_law_k"] (u6 (top 46)):=fsc rfl rfl rfl rfl (by decide +kernel)
theorem j30(F:Fun K "_law_mix" "_law_mix" (top 46) fa fd)(T:Txt mg)  : FnOk P w K mg base CX0 1 fa fd ["_law_cell", "_law_k"] (spD K m5) :=
 okD (k:=0) (G:=pi0) F j80 (λcdv A outer s H E hr=>(w6 (o7 (ze0 (X7 (m7 (V0 (m7 (X7 (z9 0) u5) u5) (m7 (m7 u5 (V0 u5 (z9 1))) (V0 (V0 u5 (z9 1)) (z9 1)))) (z9 1)) u5) u5))
   v7)) (λds d h=>W0 h)
theorem y80:FnScope yv0 ["_law_cell", "_law_many"] (u6 (top 47)):=fsc rfl rfl rfl rfl (by decide +kernel)
theorem k80(F:Fun K "_law_pool" "_law_pool" (top 47) fa fd)(T:Txt mg)(C__law_mix:FnD P w K mg base "_law_mix" 1 ["_law_cell", "_law_k"] m5):FnOk P w K mg base CX0 2 fa fd ["_law_cell", "_law_many"] (spN K yw0) :=
 okN (k:=1) (G:=rg0) F y80 (λcdv A outer s H E hr=>(w6 (j4 j7 (t6 2 y80.nd))
   (w6 (j4 (sr0 j7 (z8 (yr0 (sc:=u6 (top 47)) (N:=yv0) (N':=["_law_j", "_law_cell", "_law_signs_here"]) (n:=1) (caps:=[0,2]) (by exact cok rfl rfl (by decide +kernel)) (by decide) (R9 T.b_range (z8 (X7 (d8 C__law_mix hr (by decide) (z8 (z9 0) (z8 u5 v5))) u5) v5)) (λcl s H ex=>t6 0 (by decide +kernel:(["_law_j", "_law_cell", "_law_signs_here"]:List Str).Nodup)) (λcl s H ex=>S6) (λcl s H ex=>(o5 (z9 2) (X7 (d8 C__law_mix hr (by decide) (z8 (z9 1) (z8 (z9 0) v5))) u5)))) v5)) (t6 3 y80.nd))
   (w6 (j4 (X7 (d8 C__law_mix hr (by decide) (z8 (z9 0) (z8 u5 v5))) (m7 (V1 T.b_len (z8 (z9 3) v5)) u5)) (t6 4 y80.nd))
   (w6 (X6 (zw0 (sc:=u6 (top 47)) (N:=yv0) (N':=["_law_k", "_law_cell", "_law_signs_here", "_law_base", "_law_at"]) (n:=1) (caps:=[0,2,3,4]) (by exact cok rfl rfl (by decide +kernel)) (by decide) (R9 T.b_range (z8 (z9 1) v5)) (λcl s H ex=>t6 0 (by decide +kernel:(["_law_k", "_law_cell", "_law_signs_here", "_law_base", "_law_at"]:List Str).Nodup)) (λcl s H ex=>S6) (λcl s H ex=>(m7 (m7 (tb0 (z9 3) v00 (zu0 (z9 4))) (o5 (z9 2) (X7 (m7 (V0 u5 (z9 0)) (z9 1)) u5))) (tb0 (z9 3) (zu0 (z9 4)) v00)))))
   v7))))) (λds d h=>O5 h)
theorem w50:FnScope wv0 ["_law_cell", "_law_k", "_law_many"] (u6 (top 48)):=fsc rfl rfl rfl rfl (by decide +kernel)
theorem sy0(F:Fun K "_law_one_value" "_law_one_value" (top 48) fa fd)(T:Txt mg)(C__law_mix:FnD P w K mg base "_law_mix" 1 ["_law_cell", "_law_k"] m5):FnOk P w K mg base CX0 2 fa fd ["_law_cell", "_law_k", "_law_many"] (spD K V7) :=
 okD (k:=1) (G:=wy0) F w50 (λcdv A outer s H E hr=>(w6 (j4 (X7 (d8 C__law_mix hr (by decide) (z8 (z9 0) (z8 (z9 1) v5))) u5) (t6 3 w50.nd))
   (w6 (b8 (o8 W6 Y4 (z9 3) u5)
   (w6 (o7 t40)
   v7)
   v7)
   (w6 (b8 (o8 yx0 zk0 (z9 3) u5)
   (w6 (o7 (T6 (z8 j7 (z8 (X7 (d8 C__law_mix hr (by decide) (z8 (z9 0) (z8 (m7 u5 (z9 1)) v5))) (z9 2)) v5))))
   v7)
   v7)
   (w6 (b8 (o8 W6 Y4 (z9 3) u5)
   (w6 (o7 (yh0 (X7 (d8 C__law_mix hr (by decide) (z8 (z9 0) (z8 (m7 u5 (z9 1)) v5))) u5) u5))
   v7)
   v7)
   (w6 (o7 (yh0 (m7 (X7 (Zp0 (V0 (m7 (z9 0) u5) (m7 (z9 1) u5)) (kv0 u5 u5)) (yh0 (V0 u5 (kv0 u5 u5)) u5)) u5) (kv0 u5 u5)))
   v7)))))) (λds d h=>W0 h)
theorem V5:FnScope O3 ["_law_cell", "_law_names", "_law_many"] (u6 (top 49)):=fsc rfl rfl rfl rfl (by decide +kernel)
theorem tx0(F:Fun K "_law_drawn_part" "_law_drawn_part" (top 49) fa fd)(T:Txt mg)(C__law_mix:FnD P w K mg base "_law_mix" 1 ["_law_cell", "_law_k"] m5)(C__law_one_value:FnD P w K mg base "_law_one_value" 2 ["_law_cell", "_law_k", "_law_many"] V7):FnOk P w K mg base CX0 3 fa fd ["_law_cell", "_law_names", "_law_many"] (spD K U6) :=
 okD (k:=2) (G:=w00) F V5 (λcdv A outer s H E hr=>(w6 (j4 (X7 (d8 C__law_mix hr (by decide) (z8 (z9 0) (z8 u5 v5))) u5) (t6 3 V5.nd))
   (w6 (j4 (o5 (xj0 (z8 u5 (z8 u5 (z8 u5 (z8 u5 (z8 u5 (z8 u5 (z8 u5 (z8 u5 v5))))))))) (X7 (d8 C__law_mix hr (by decide) (z8 (z9 0) (z8 u5 v5))) u5)) (t6 4 V5.nd))
   (w6 (b8 (o8 W6 Y4 (z9 3) u5)
   (w6 (j4 j7 (t6 5 V5.nd))
   (w6 (o7 (T6 (z8 j7 (z8 (sr0 j7 (z8 (yr0 (sc:=u6 (top 49)) (N:=O3) (N':=["_law_j", "_law_cell", "_law_signs_here"]) (n:=1) (caps:=[0,5]) (by exact cok rfl rfl (by decide +kernel)) (by decide) (R9 T.b_range (z8 (X7 (d8 C__law_mix hr (by decide) (z8 (z9 0) (z8 u5 v5))) u5) v5)) (λcl s H ex=>t6 0 (by decide +kernel:(["_law_j", "_law_cell", "_law_signs_here"]:List Str).Nodup)) (λcl s H ex=>S6) (λcl s H ex=>(o5 (z9 2) (X7 (d8 C__law_mix hr (by decide) (z8 (z9 1) (z8 (m7 u5 (z9 0)) v5))) u5)))) v5)) v5))))
   v7))
   v7)
   (w6 (j4 (yr0 (sc:=u6 (top 49)) (N:=O3) (N':=["_law_k", "_law_cell", "_law_many"]) (n:=1) (caps:=[0,2]) (by exact cok rfl rfl (by decide +kernel)) (by decide) (R9 T.b_range (z8 (z9 4) v5)) (λcl s H ex=>t6 0 (by decide +kernel:(["_law_k", "_law_cell", "_law_many"]:List Str).Nodup)) (λcl s H ex=>S6) (λcl s H ex=>(d8 C__law_one_value hr (by decide) (z8 (z9 1) (z8 (m7 u5 (z9 0)) (z8 (z9 2) v5)))))) (t6 6 V5.nd))
   (w6 (b8 (o8 W6 Y4 (z9 3) u5)
   (w6 (o7 (T6 (z8 j7 (z8 (S9 W9 z60 T.b_tuple b_tuple (z8 (z9 6) v5)) v5))))
   v7)
   v7)
   (w6 (j4 (X7 (d8 C__law_mix hr (by decide) (z8 (z9 0) (z8 u5 v5))) u5) (t6 7 V5.nd))
   (w6 (j4 (S9 W9 z60 T.b_tuple b_tuple (z8 (yr0 (sc:=u6 (top 49)) (N:=O3) (N':=["_law_k", "_law_names", "_law_some", "_law_turn"]) (n:=1) (caps:=[1,6,7]) (by exact cok rfl rfl (by decide +kernel)) (by decide) (R9 T.b_range (z8 (z9 4) v5)) (λcl s H ex=>t6 0 (by decide +kernel:(["_law_k", "_law_names", "_law_some", "_law_turn"]:List Str).Nodup)) (λcl s H ex=>S6) (λcl s H ex=>(T6 (z8 (o5 (z9 1) (X7 (m7 (z9 3) (z9 0)) u5)) (z8 (o5 (z9 2) (z9 0)) v5))))) v5)) (t6 8 V5.nd))
   (w6 (b8 (o8 W6 Y4 (z9 3) u5)
   (w6 (o7 (T6 (z8 j7 (z8 (z9 8) v5))))
   v7)
   v7)
   (w6 (o7 (T6 (z8 j7 (z8 (o5 (z9 1) (X7 (d8 C__law_mix hr (by decide) (z8 (z9 0) (z8 u5 v5))) u5)) (z8 (z9 8) v5)))))
   v7)))))))))) (λds d h=>W0 h)
theorem xy0:FnScope wq0 ["_law_script", "_law_start", "_law_most"] (u6 (top 50)):=fsc rfl rfl rfl rfl (by decide +kernel)
theorem mb0(F:Fun K "_law_built" "_law_built" (top 50) fa fd)(T:Txt mg)(C__law_cell_at:FnD P w K mg base "_law_cell_at" 1 ["_law_script", "_law_k"] Y7)(C__law_drawn_part:FnD P w K mg base "_law_drawn_part" 3 ["_law_cell", "_law_names", "_law_many"] U6)(C__law_mix:FnD P w K mg base "_law_mix" 1 ["_law_cell", "_law_k"] m5)(C__law_pool:FnN P w K mg base "_law_pool" 2 ["_law_cell", "_law_many"] yw0):FnOk P w K mg base CX0 4 fa fd ["_law_script", "_law_start", "_law_most"] (spD K z70) :=
 okD (k:=3) (G:=t90) F xy0 (λcdv A outer s H E hr=>(w6 (j4 (m7 u5 (X7 (d8 C__law_mix hr (by decide) (z8 (d8 C__law_cell_at hr (by decide) (z8 (z9 0) (z8 (z9 1) v5))) (z8 u5 v5))) (z9 2))) (t6 3 xy0.nd))
   (w6 (j4 (Y6 C__law_pool hr (by decide) (z8 (d8 C__law_cell_at hr (by decide) (z8 (z9 0) (z8 (m7 (z9 1) u5) v5))) (z8 u5 v5))) (t6 4 xy0.nd))
   (w6 (o7 (S9 W9 z60 T.b_tuple b_tuple (z8 (yr0 (sc:=u6 (top 50)) (N:=wq0) (N':=["_law_k", "_law_script", "_law_start", "_law_many", "_law_names"]) (n:=1) (caps:=[0,1,3,4]) (by exact cok rfl rfl (by decide +kernel)) (by decide) (R9 T.b_range (z8 (z9 3) v5)) (λcl s H ex=>t6 0 (by decide +kernel:(["_law_k", "_law_script", "_law_start", "_law_many", "_law_names"]:List Str).Nodup)) (λcl s H ex=>S6) (λcl s H ex=>(d8 C__law_drawn_part hr (by decide) (z8 (d8 C__law_cell_at hr (by decide) (z8 (z9 1) (z8 (m7 (m7 (z9 2) u5) (z9 0)) v5))) (z8 (z9 4) (z8 (z9 3) v5)))))) v5)))
   v7)))) (λds d h=>W0 h)
theorem yp0:FnScope uo0 ["_law_number"] (u6 (top 51)):=fsc rfl rfl rfl rfl (by decide +kernel)
theorem o80(F:Fun K "_law_digits" "_law_digits" (top 51) fa fd)(T:Txt mg)  : FnOk P w K mg base CX0 1 fa fd ["_law_number"] (spN K Z3) :=
 okN (k:=0) (G:=un0) F yp0 (λcdv A outer s H E hr=>(w6 (T5 1 (S7 (z8 (X7 (z9 0) u5) v5)) yp0.nd)
   (w6 (y20 100000 C4 (o8 mi0 qj0 (z9 0) u5)
   (w6 (j4 (ze0 (z9 0) u5) (t6 0 yp0.nd))
   (w6 (W3 (bq0 1 (m7 u5 (X7 (z9 0) u5))))
   v7)))
   (w6 (wx0 1)
   v7)))) (λds d h=>O5 h)
theorem m90:FnScope wi0 ["_law_word"] (u6 (top 52)):=fsc rfl rfl rfl rfl (by decide +kernel)
theorem m80(F:Fun K "_law_signs" "_law_signs" (top 52) fa fd)(T:Txt mg)  : FnOk P w K mg base CX0 1 fa fd ["_law_word"] (spN K M4) :=
 okN (k:=0) (G:=uw0) F m90 (λcdv A outer s H E hr=>(w6 (X6 (zw0 (sc:=u6 (top 52)) (N:=wi0) (N':=["_law_sign"]) (n:=1) (caps:=[]) (by exact cok rfl rfl (by decide +kernel)) (by decide) (o90 (z9 0)) (λcl s H ex=>t6 0 (by decide +kernel:(["_law_sign"]:List Str).Nodup)) (λcl s H ex=>S6) (λcl s H ex=>(wj0 qb0 lc0 T.b_ord b_ord (z8 (z9 0) v5)))))
   v7)) (λds d h=>O5 h)
theorem ut0:FnScope xo0 ["_law_value"] (u6 (top 53)):=fsc rfl rfl rfl rfl (by decide +kernel)
theorem us0(F:Fun K "_law_value_bytes" "_law_value_bytes" (top 53) fa fd)(T:Txt mg)(C__law_digits:FnN P w K mg base "_law_digits" 1 ["_law_number"] Z3):FnOk P w K mg base CX0 2 fa fd ["_law_value"] (spN K V6) :=
 okN (k:=1) (G:=xn0) F ut0 (λcdv A outer s H E hr=>(w6 (b8 (o8 fd0 jo0 (z9 0) t40)
   (w6 (X6 (S7 (z8 u5 v5)))
   v7)
   v7)
   (w6 (b8 (vs0 (t00 va0 b_tuple T.b_isinstance T.b_tuple (z9 0)))
   (w6 (X6 (xb0 C__law_digits hr (by decide) (z8 (m7 (V0 u5 (o5 (z9 0) u5)) u5) v5)))
   v7)
   v7)
   (w6 (b8 (o8 yx0 zk0 (z9 0) u5)
   (w6 (X6 (xb0 C__law_digits hr (by decide) (z8 (m7 (V0 u5 (yh0 (yh0 u5 (V0 u5 (z9 0))) u5)) u5) v5)))
   v7)
   v7)
   (w6 (X6 (xb0 C__law_digits hr (by decide) (z8 (m7 (V0 u5 (z9 0)) u5) v5)))
   v7))))) (λds d h=>O5 h)
theorem Y9:FnScope w40 ["_law_part"] (u6 (top 54)):=fsc rfl rfl rfl rfl (by decide +kernel)
theorem t70(F:Fun K "_law_part_bytes" "_law_part_bytes" (top 54) fa fd)(T:Txt mg)(C__law_digits:FnN P w K mg base "_law_digits" 1 ["_law_number"] Z3)(C__law_signs:FnN P w K mg base "_law_signs" 1 ["_law_word"] M4)(C__law_value_bytes:FnN P w K mg base "_law_value_bytes" 2 ["_law_value"] V6):FnOk P w K mg base CX0 3 fa fd ["_law_part"] (spD K K7) :=
 okD (k:=2) (G:=xz0) F Y9 (λcdv A outer s H E hr=>(w6 (j4 (X40 (xj0 (z8 j7 (z8 j7 (z8 j7 (z8 j7 v5))))) (z8 (o5 (z9 0) u5) v5)) (t6 1 Y9.nd))
   (w6 (j4 (Y6 C__law_digits hr (by decide) (z8 (m7 (V0 u5 (V1 T.b_len (z8 (o5 (z9 0) (yz0 u5)) v5))) (z9 1)) v5)) (t6 2 Y9.nd))
   (w6 (b8 (o8 W6 Y4 (z9 1) u5)
   (w6 (o7 (m7 (z9 2) (Y6 C__law_signs hr (by decide) (z8 (o5 (z9 0) u5) v5))))
   v7)
   v7)
   (w6 (b8 (o8 W6 Y4 (z9 1) u5)
   (w6 (Q6 C4 rfl (ys0 (o5 (z9 0) u5)) (t6 3 Y9.nd)
   (w6 (j4 (m7 (z9 2) (Y6 C__law_value_bytes hr (by decide) (z8 (z9 3) v5))) (t6 2 Y9.nd))
   v7))
   (w6 (o7 (z9 2))
   v7))
   v7)
   (w6 (b8 (o8 W6 Y4 (z9 1) u5)
   (w6 (j4 (m7 (m7 (z9 2) (Y6 C__law_digits hr (by decide) (z8 (V1 T.b_len (z8 (o5 (z9 0) u5) v5)) v5))) (Y6 C__law_signs hr (by decide) (z8 (o5 (z9 0) u5) v5))) (t6 2 Y9.nd))
   v7)
   v7)
   (w6 (Q6 C4 rfl (ys0 (o5 (z9 0) (yz0 u5))) (lt0 4 3 Y9.nd (by decide))
   (w6 (j4 (m7 (m7 (z9 2) (Y6 C__law_digits hr (by decide) (z8 (V1 T.b_len (z8 (z9 4) v5)) v5))) (Y6 C__law_signs hr (by decide) (z8 (z9 4) v5))) (t6 2 Y9.nd))
   (w6 (j4 (m7 (z9 2) (Y6 C__law_value_bytes hr (by decide) (z8 (z9 3) v5))) (t6 2 Y9.nd))
   v7)))
   (w6 (o7 (z9 2))
   v7)))))))) (λds d h=>W0 h)
theorem V4:FnScope yf0 ["_law_web"] (u6 (top 55)):=fsc rfl rfl rfl rfl (by decide +kernel)
theorem q70(F:Fun K "_law_laid_out" "_law_laid_out" (top 55) fa fd)(T:Txt mg)(C__law_digits:FnN P w K mg base "_law_digits" 1 ["_law_number"] Z3)(C__law_part_bytes:FnD P w K mg base "_law_part_bytes" 3 ["_law_part"] K7):FnOk P w K mg base CX0 4 fa fd ["_law_web"] (spD K Q9) :=
 okD (k:=3) (G:=ve0) F V4 (λcdv A outer s H E hr=>(w6 (rv0 1 V4.nd (sc:=u6 (top 55)) (N:=yf0) (N':=["_law_part"]) (n:=1) (caps:=[]) (by exact cok rfl rfl (by decide +kernel)) (by decide) (ys0 (z9 0)) (λcl s H ex=>t6 0 (by decide +kernel:(["_law_part"]:List Str).Nodup)) (λcl s H ex=>S6) (λcl s H ex=>(d8 C__law_part_bytes hr (by decide) (z8 (z9 0) v5))))
   (w6 (j4 (Y6 C__law_digits hr (by decide) (z8 (V1 T.b_len (z8 (z9 0) v5)) v5)) (t6 2 V4.nd))
   (w6 (Q6 C4 rfl (K4 (z9 1)) (t6 3 V4.nd)
   (w6 (j4 (m7 (z9 2) (Y6 C__law_digits hr (by decide) (z8 (V1 T.b_len (z8 (z9 3) v5)) v5))) (t6 2 V4.nd))
   v7))
   (w6 (T5 4 (S7 v5) V4.nd)
   (w6 (T5 5 (rw0 T.b_list b_list (z9 2)) V4.nd)
   (w6 (Q6 C4 rfl (K4 (z9 1)) (t6 3 V4.nd)
   (w6 (W3 (yg0 4 (p70 (V1 T.b_len (z8 (z9 5) v5)))))
   (w6 (W3 (wn0 5 (z9 3)))
   v7)))
   (w6 (wg0 (T6 (z8 (z9 5) (z8 (V1 T.b_len (z8 (z9 2) v5)) (z8 (m7 (z9 4) (xj0 (z8 (V1 T.b_len (z8 (z9 5) v5)) v5))) v5)))))
   v7)))))))) (λds d h=>W0 h)
theorem lw0:FnScope ra0 ["_law_some"] (u6 (top 56)):=fsc rfl rfl rfl rfl (by decide +kernel)
theorem l00{Pt:Addr}(F:FunL K "_law_look" "_law_look" (top 56) fa fd c0)(C:W.CodeHd base c0 Pt)(hB:base.BuiltinsAt mg Pt)(T:Txt mg)  : FnOk P w K mg base CX0 1 fa fd ["_law_some"] (spT Pt (("_law_look" : Str) ++ ".<locals>." ++ "<lambda>") (spD K R7)) :=
 okL (k:=0) (i:=0) (G:=rc0) (init:=(Z4 (top 56)).dropLast) F lw0 C hB rfl rfl rfl (λenv c hc=>de0 rfl env c hc) (λenv=>rfl) (λqn c pm J cd=>⟨_,_,_,rfl,rfl,rfl,rfl,rfl,rfl,Wo0,rfl,rfl,rfl,by decide +kernel,by decide +kernel,by decide +kernel,λu=>rfl⟩) (λcdv A outer s H E hr=>v7) (λds d h=>Xy0 h)
theorem kr0:FnScope vh0 ["_law_look_here"] (u6 (top 57)):=fsc rfl rfl rfl rfl (by decide +kernel)
theorem k60(F:Fun K "_law_read" "_law_read" (top 57) fa fd)(T:Txt mg)(C_count_of:FnD P w K mg base "count_of" 2 ["look"] yi0)(C_part_of:FnD P w K mg base "part_of" 5 ["look", "k"] (U9 W2)):FnOk P w K mg base CX0 6 fa fd ["_law_look_here"] (spN K K5) :=
 okN (k:=5) (G:=rf0) F kr0 (λcdv A outer s H E hr=>(w6 (X6 (zw0 (sc:=u6 (top 57)) (N:=vh0) (N':=["_law_k", "_law_look_here"]) (n:=1) (caps:=[0]) (by exact cok rfl rfl (by decide +kernel)) (by decide) (R9 T.b_range (z8 (d8 C_count_of hr (by decide) (z8 (z9 0) v5)) v5)) (λcl s H ex=>t6 0 (by decide +kernel:(["_law_k", "_law_look_here"]:List Str).Nodup)) (λcl s H ex=>S6) (λcl s H ex=>(d8 C_part_of hr (by decide) (z8 (z9 1) (z8 (z9 0) v5))))))
   v7)) (λds d h=>O5 h)
theorem M7:FnScope cu0 ["_law_script"] (u6 (top 58)):=fsc rfl rfl rfl rfl (by decide +kernel)
theorem Wi0{Pt:Addr}(F:Fun K "law" "law" (top 58) fa fd)(T:Txt mg)(C__law_built:FnD P w K mg base "_law_built" 4 ["_law_script", "_law_start", "_law_most"] z70)(C__law_cell_at:FnD P w K mg base "_law_cell_at" 1 ["_law_script", "_law_k"] Y7)(C__law_laid_out:FnD P w K mg base "_law_laid_out" 4 ["_law_web"] Q9)(C__law_look:d40 P w K mg base Pt (("_law_look" : Str) ++ ".<locals>." ++ "<lambda>") "_law_look" 1 ["_law_some"] R7)(C__law_mix:FnD P w K mg base "_law_mix" 1 ["_law_cell", "_law_k"] m5)(C__law_read:FnN P w K mg base "_law_read" 6 ["_law_look_here"] K5)(C_bundle:FnN P w K mg base "bundle" 5 ["web"] J6)(C_drawn:FnD P w K mg base "drawn" 5 ["web", "k"] G6)(C_part_of:FnD P w K mg base "part_of" 5 ["look", "k"] (U9 W2))(C_wanted:FnD P w K mg base "wanted" 6 ["look", "k"] (U9 yo0)):FnOk P w K mg base CX0 7 fa fd ["_law_script"] (spT Pt (("_law_look" : Str) ++ ".<locals>." ++ "<lambda>") (spD K se0)) :=
 Uu0 (k:=6) (G:=cs0) F M7 (λcdv A outer s H E hT hr=>(w6 (j4 (d8 C__law_built hr (by decide) (z8 (z9 0) (z8 u5 (z8 u5 v5)))) (t6 1 M7.nd))
   (w6 (j4 (d8 C__law_built hr (by decide) (z8 (z9 0) (z8 u5 (z8 u5 v5)))) (t6 2 M7.nd))
   (w6 (j4 (Y6 C_bundle hr (by decide) (z8 (z9 1) v5)) (t6 3 M7.nd))
   (w6 (j4 (Y6 C_bundle hr (by decide) (z8 (z9 2) v5)) (t6 4 M7.nd))
   (w6 (j4 (qz0 C__law_look hT hr (by decide) (z8 (z9 3) v5)) (t6 5 M7.nd))
   (w6 (j4 (qz0 C__law_look hT hr (by decide) (z8 (z9 4) v5)) (t6 6 M7.nd))
   (cp0 7 8 (by decide) M7.nd (Z80 7 (o8 yx0 zk0 (z9 8) (V1 T.b_len (z8 (z9 1) v5))) (d8 C_part_of hr (by decide) (z8 (z9 5) (z8 (z9 8) v5))) (o8 yx0 zk0 (z9 8) (V1 T.b_len (z8 (z9 2) v5))) (d8 C_part_of hr (by decide) (z8 (z9 6) (z8 (z9 8) v5)))) C4 rfl (R9 T.b_range (z8 (wj0 (e90 rfl) Wm0 T.b_max b_max (z8 (V1 T.b_len (z8 (z9 1) v5)) (z8 (V1 T.b_len (z8 (z9 2) v5)) v5))) v5))
   (w6 (b8 (PWD.pt (vk0 (o8 (s70 hr.units) vl0 (S9 W9 z60 T.b_tuple b_tuple (z8 (o5 (z9 7) u5) v5)) (z9 1)) (vk0 (o8 (s70 hr.units) vl0 (S9 W9 z60 T.b_tuple b_tuple (z8 (o5 (z9 7) u5) v5)) (z9 2)) (vu0 (o8 (s70 hr.units) vl0 (Y6 C_bundle hr (by decide) (z8 (S9 W9 z60 T.b_tuple b_tuple (z8 (o5 (z9 7) u5) v5)) v5)) (z9 3))))))
   (w6 (o7 ge0)
   v7)
   v7)
   (w6 (Q6 C4 rfl (R9 T.b_range (z8 (V1 T.b_len (z8 (z9 1) v5)) v5)) (t6 8 M7.nd)
   (w6 (j4 (d8 C_wanted hr (by decide) (z8 (z9 5) (z8 (z9 8) v5))) (t6 9 M7.nd))
   (w6 (b8 (PWD.pt (vk0 (o8 (s70 hr.units) vl0 (z9 9) (d8 C_drawn hr (by decide) (z8 (z9 1) (z8 (z9 8) v5)))) (vu0 (o8 (s70 hr.units) vl0 (S9 W9 z60 T.b_tuple b_tuple (z8 (Y6 C__law_read hr (by decide) (z8 (qz0 C__law_look hT hr (by decide) (z8 (Y6 C_bundle hr (by decide) (z8 (z9 9) v5)) v5)) v5)) v5)) (z9 9)))))
   (w6 (o7 ge0)
   v7)
   v7)
   v7)))
   (w6 (yu0 (sg0 (d8 C__law_laid_out hr (by decide) (z8 (z9 1) v5))) (ka0 (cj0 10 11 12 M7.nd (by decide))))
   (w6 (j4 (X7 (d8 C__law_mix hr (by decide) (z8 (d8 C__law_cell_at hr (by decide) (z8 (z9 0) (z8 u5 v5))) (z8 u5 v5))) (V1 T.b_len (z8 (z9 1) v5))) (t6 13 M7.nd))
   (w6 (T5 14 (S7 v5) M7.nd)
   (w6 (Q6 C4 rfl (R9 T.b_range (z8 (V1 T.b_len (z8 (z9 10) v5)) v5)) (t6 15 M7.nd)
   (w6 (b8 (PWD.pt (vk0 (o8 yx0 zk0 (z9 15) (z9 11)) (vu0 (fb0 V70 Ws0 yx0 zk0 (o5 (z9 12) (z9 13)) (z9 15) (o5 (z9 12) (m7 (z9 13) u5))))))
   (w6 (W3 (yg0 14 (o5 (z9 10) (z9 15))))
   v7)
   (w6 (W3 (yg0 14 (X7 (m7 (o5 (z9 10) (z9 15)) u5) u5)))
   v7))
   v7))
   (w6 (kq0 14 (o7 (Ya0 (ea0 (fi0 hr.units) ju0 (d8 C_part_of hr (by decide) (z8 (qz0 C__law_look hT hr (by decide) (z8 (z9 14) v5)) (z8 (z9 13) v5))) (o5 (z9 1) (z9 13))) (Yx0 (ea0 (fi0 hr.units) ju0 (S9 W9 z60 T.b_tuple b_tuple (z8 (Y6 C__law_read hr (by decide) (z8 (z9 6) v5)) v5)) (z9 2))))))
   v7))))))))))))))) (λds d h=>W0 h)
end
theorem us1:∀{us:List α},us.length=1->∃a,us=[a]
 | [a],_=>⟨a,rfl⟩
theorem us2:∀{us:List α},us.length=2->∃a b,us=[a,b]
 | [a,b],_=>⟨a,b,rfl⟩
theorem us3:∀{us:List α},us.length=3->∃a b c,us=[a,b,c]
 | [a,b,c],_=>⟨a,b,c,rfl⟩
def Hd(K:W.Frag)(x:Str)(st:Stmt):Prop:=∃f fd,Fun K x x st f fd/\W.nsIn K mainGlobals x=some (some (.ref f))
theorem Z7{f:Addr}{kV:Value}(a:W.nsIn K mainGlobals x=some (some (.ref f)))(l:K.lookup f=some ⟨oc,od,.func (W.fnOf x x (V2 st) (Z4 st) (u6 st) .none kV doc pm an cdv ct),osl⟩)(c:W.codeIn K cdv x=true)(k:W.keepIn K (.ref f)=true):Hd K x st:=⟨f,_,mz0 l c k,a⟩
section
variable(P9:Program)(w9:World)(b9:Heap){h:Heap}{f:Addr}{ps:List Str}{m:List D->Option D}(X9:K.In h)(G9:h.Ns mainGlobals mg)(F9:Fun K x x st f fd)(a9:W.nsIn K mainGlobals x=some (some (.ref f)))
include X9 G9 F9 a9
theorem cD1(o:FnOk P9 w9 K mg b9 CX0 n f fd ps (spD K m))(hl:ps.length=1)(b:∀(kV doc pm:Value) (an:Option Addr) (cdv ct u:Value),bindArgs (W.fnOf x x (V2 st) (Z4 st) (u6 st) .none kV doc pm an cdv ct) ⟨[u],[]⟩=pure (ps.zip [u])):FnD P9 w9 K mg b9 x n ps m:=⟨f,fd,o,C3 X9 G9 a9,F9.kp,F9.binds λ_ _ _ _ _ _ us h=>by obtain⟨u,rfl⟩:=us1 (h.trans hl);exact b _ _ _ _ _ _ _⟩
theorem cD2(o:FnOk P9 w9 K mg b9 CX0 n f fd ps (spD K m))(hl:ps.length=2)(b:∀(kV doc pm:Value) (an:Option Addr) (cdv ct u v:Value),bindArgs (W.fnOf x x (V2 st) (Z4 st) (u6 st) .none kV doc pm an cdv ct) ⟨[u,v],[]⟩=pure (ps.zip [u,v])):FnD P9 w9 K mg b9 x n ps m:=⟨f,fd,o,C3 X9 G9 a9,F9.kp,F9.binds λ_ _ _ _ _ _ us h=>by obtain⟨u,v,rfl⟩:=us2 (h.trans hl);exact b _ _ _ _ _ _ _ _⟩
theorem cD3(o:FnOk P9 w9 K mg b9 CX0 n f fd ps (spD K m))(hl:ps.length=3)(b:∀(kV doc pm:Value) (an:Option Addr) (cdv ct u v w:Value),bindArgs (W.fnOf x x (V2 st) (Z4 st) (u6 st) .none kV doc pm an cdv ct) ⟨[u,v,w],[]⟩=pure (ps.zip [u,v,w])):FnD P9 w9 K mg b9 x n ps m:=⟨f,fd,o,C3 X9 G9 a9,F9.kp,F9.binds λ_ _ _ _ _ _ us h=>by obtain⟨u,v,w,rfl⟩:=us3 (h.trans hl);exact b _ _ _ _ _ _ _ _ _⟩
theorem cN1(o:FnOk P9 w9 K mg b9 CX0 n f fd ps (spN K m))(hl:ps.length=1)(b:∀(kV doc pm:Value) (an:Option Addr) (cdv ct u:Value),bindArgs (W.fnOf x x (V2 st) (Z4 st) (u6 st) .none kV doc pm an cdv ct) ⟨[u],[]⟩=pure (ps.zip [u])):FnN P9 w9 K mg b9 x n ps m:=⟨f,fd,o,C3 X9 G9 a9,F9.kp,F9.binds λ_ _ _ _ _ _ us h=>by obtain⟨u,rfl⟩:=us1 (h.trans hl);exact b _ _ _ _ _ _ _⟩
theorem cN2(o:FnOk P9 w9 K mg b9 CX0 n f fd ps (spN K m))(hl:ps.length=2)(b:∀(kV doc pm:Value) (an:Option Addr) (cdv ct u v:Value),bindArgs (W.fnOf x x (V2 st) (Z4 st) (u6 st) .none kV doc pm an cdv ct) ⟨[u,v],[]⟩=pure (ps.zip [u,v])):FnN P9 w9 K mg b9 x n ps m:=⟨f,fd,o,C3 X9 G9 a9,F9.kp,F9.binds λ_ _ _ _ _ _ us h=>by obtain⟨u,v,rfl⟩:=us2 (h.trans hl);exact b _ _ _ _ _ _ _ _⟩
theorem cN3(o:FnOk P9 w9 K mg b9 CX0 n f fd ps (spN K m))(hl:ps.length=3)(b:∀(kV doc pm:Value) (an:Option Addr) (cdv ct u v w:Value),bindArgs (W.fnOf x x (V2 st) (Z4 st) (u6 st) .none kV doc pm an cdv ct) ⟨[u,v,w],[]⟩=pure (ps.zip [u,v,w])):FnN P9 w9 K mg b9 x n ps m:=⟨f,fd,o,C3 X9 G9 a9,F9.kp,F9.binds λ_ _ _ _ _ _ us h=>by obtain⟨u,v,w,rfl⟩:=us3 (h.trans hl);exact b _ _ _ _ _ _ _ _ _⟩
end
theorem all_mk{l:W.OpenLaw}{w:World}{h:Heap}(X:K.In h)(G:h.Ns mainGlobals mg)(hfa:mg "law"=some (.ref fa))
  {f7 f10 f43 f45:Addr}
  {od7 an7 od10 an10 od43 an43 od45 an45:Option Addr} {sl7 sl10 sl43 sl45:Array (Option Value)} {oc7 kV7 dc7 pm7 cd7 ct7 oc10 kV10 dc10 pm10 cd10 ct10 oc43 kV43 dc43 pm43 ct43 oc45 kV45 dc45 pm45 cd45 ct45:Value}
  {cL Pt:Addr}
  {t_BASE t_NAME_SIGNS t_WORD_SIGNS:Tok}
  (h0:Hd K "number_bytes" (top 5))
  (h1:Hd K "folded" (top 6))
  (h2:Hd K "unfolded" (top 7))
  (h3:Hd K "pair_names" (top 12))
  (h4:Hd K "values" (top 13))
  (h5:Hd K "with_values" (top 14))
  (h6:Hd K "links" (top 15))
  {T7:Addr} {tc7:Value} {td7:Option Addr} {tn7:Nat} {ts7:Array (Option Value)} {tt7_0:Tok}
  (a7:W.nsIn K mainGlobals "met"=some (some (.ref f7))) (l7:K.lookup f7=some ⟨oc7,od7,.func (W.fnOf "met" "met" (V2 (top 16)) (Z4 (top 16)) (u6 (top 16)) (.ref T7) kV7 dc7 pm7 an7 cd7 ct7),sl7⟩) (c7:W.codeIn K cd7 "met"=true) (k7:W.keepIn K (.ref f7)=true)
  (t7:K.lookup T7=some ⟨tc7,td7,.seq #[.int 0 tt7_0] tn7,ts7⟩)
  (h8:Hd K "met_but" (top 17))
  (h9:Hd K "relinked" (top 18))
  {T10:Addr} {tc10:Value} {td10:Option Addr} {tn10:Nat} {ts10:Array (Option Value)} {tt10_0:Tok}
  (a10:W.nsIn K mainGlobals "drawn"=some (some (.ref f10))) (l10:K.lookup f10=some ⟨oc10,od10,.func (W.fnOf "drawn" "drawn" (V2 (top 19)) (Z4 (top 19)) (u6 (top 19)) (.ref T10) kV10 dc10 pm10 an10 cd10 ct10),sl10⟩) (c10:W.codeIn K cd10 "drawn"=true) (k10:W.keepIn K (.ref f10)=true)
  (t10:K.lookup T10=some ⟨tc10,td10,.seq #[.int 0 tt10_0] tn10,ts10⟩)
  (h11:Hd K "sign_of" (top 21))
  (h12:Hd K "wanted_items" (top 22))
  (h13:Hd K "made_part" (top 23))
  (h14:Hd K "made_pairs" (top 24))
  (h15:Hd K "sign_bytes" (top 26))
  (h16:Hd K "part_number" (top 27))
  (h17:Hd K "text_bytes" (top 28))
  (h18:Hd K "held_items" (top 29))
  (h19:Hd K "bundle" (top 31))
  (h20:Hd K "part_bytes" (top 32))
  (h21:Hd K "held_bytes" (top 33))
  (h22:Hd K "value_number" (top 34))
  (h23:Hd K "numbered_value" (top 35))
  (h24:Hd K "count_of" (top 36))
  (h25:Hd K "part_of" (top 37))
  (h26:Hd K "wanted" (top 38))
  (h27:Hd K "number_at" (top 39))
  (h28:Hd K "part_starts" (top 40))
  (h29:Hd K "part_at" (top 41))
  (h30:Hd K "item_at" (top 42))
  (h31:Hd K "name_at" (top 43))
  (h32:Hd K "_law_cell_at" (top 45))
  (h33:Hd K "_law_mix" (top 46))
  (h34:Hd K "_law_pool" (top 47))
  (h35:Hd K "_law_one_value" (top 48))
  (h36:Hd K "_law_drawn_part" (top 49))
  (h37:Hd K "_law_built" (top 50))
  (h38:Hd K "_law_digits" (top 51))
  (h39:Hd K "_law_signs" (top 52))
  (h40:Hd K "_law_value_bytes" (top 53))
  (h41:Hd K "_law_part_bytes" (top 54))
  (h42:Hd K "_law_laid_out" (top 55))
  (a43:W.nsIn K mainGlobals "_law_look"=some (some (.ref f43))) (l43:K.lookup f43=some ⟨oc43,od43,.func (W.fnOf "_law_look" "_law_look" (V2 (top 56)) (Z4 (top 56)) (u6 (top 56)) .none kV43 dc43 pm43 an43 (.ref cL) ct43),sl43⟩) (c43:W.codeIn K (.ref cL) "_law_look"=true) (k43:W.keepIn K (.ref f43)=true)
  (h44:Hd K "_law_read" (top 57))
  (a45:W.nsIn K mainGlobals "law"=some (some (.ref f45))) (l45:K.lookup f45=some ⟨oc45,od45,.func (W.fnOf "law" "law" (V2 (top 58)) (Z4 (top 58)) (u6 (top 58)) .none kV45 dc45 pm45 an45 cd45 ct45),sl45⟩) (c45:W.codeIn K cd45 "law"=true) (k45:W.keepIn K (.ref f45)=true)
  (z_dict:W.nsIn K mainGlobals "dict"=some none)
  (z_enumerate:W.nsIn K mainGlobals "enumerate"=some none)
  (z_isinstance:W.nsIn K mainGlobals "isinstance"=some none)
  (z_len:W.nsIn K mainGlobals "len"=some none)
  (z_list:W.nsIn K mainGlobals "list"=some none)
  (z_max:W.nsIn K mainGlobals "max"=some none)
  (z_ord:W.nsIn K mainGlobals "ord"=some none)
  (z_range:W.nsIn K mainGlobals "range"=some none)
  (z_reversed:W.nsIn K mainGlobals "reversed"=some none)
  (z_str:W.nsIn K mainGlobals "str"=some none)
  (z_tuple:W.nsIn K mainGlobals "tuple"=some none)
  (z_zip:W.nsIn K mainGlobals "zip"=some none)
  (y_BASE:W.nsIn K mainGlobals "BASE"=some (some (.int 128 t_BASE)))
  (y_NAME_SIGNS:W.nsIn K mainGlobals "NAME_SIGNS"=some (some (.str "0123456789abcdefghijklmnopqrstuvwxyz" t_NAME_SIGNS)))
  (y_WORD_SIGNS:W.nsIn K mainGlobals "WORD_SIGNS"=some (some (.str " 0123456789abcdefghijklmnopqrstuvwxyz" t_WORD_SIGNS)))
  {kA_KINDS:Addr} {kn_KINDS:Nat} {ks_KINDS:Array (Option Value)} {kt_KINDS_0 kt_KINDS_1 kt_KINDS_2 kt_KINDS_3:Tok}
  (kN_KINDS:W.nsIn K mainGlobals "KINDS"=some (some (.ref kA_KINDS))) (kL_KINDS:K.lookup kA_KINDS=some ⟨.type "tuple",none,.seq #[.str "text" kt_KINDS_0,.str "row" kt_KINDS_1,.str "table" kt_KINDS_2,.str "record" kt_KINDS_3] kn_KINDS,ks_KINDS⟩)
  (xt:XC.d50 K "WebError" ["NoPlace"] ["NoPlace"]=true)
  : ∃fd:FuncData,(∀(s:Shared) (v:Value),BindsTo s fd ⟨[v],[]⟩ [("_law_script",v)])/\∀base:Heap,K.In base->base.Ns mainGlobals mg->W.CodeHd base cL Pt->base.BuiltinsAt mg Pt->FnOk l.prog w K mg base CX0 7 fa fd ["_law_script"] (spT Pt (("_law_look" : Str) ++ ".<locals>." ++ "<lambda>") (spD K se0)):=by
 have e:=hfa.symm.trans (C3 X G a45);cases e;have T:Txt mg:=⟨D5 X G z_dict,D5 X G z_enumerate,D5 X G z_isinstance,D5 X G z_len,D5 X G z_list,D5 X G z_max,D5 X G z_ord,D5 X G z_range,D5 X G z_reversed,D5 X G z_str,D5 X G z_tuple,D5 X G z_zip,⟨_,C3 X G y_BASE⟩,⟨_,C3 X G y_NAME_SIGNS⟩,⟨_,C3 X G y_WORD_SIGNS⟩⟩;have m0:l40 K mg "KINDS" ["text", "row", "table", "record"]:=⟨_,_,_,_,C3 X G kN_KINDS,kL_KINDS,rfl,rfl,rfl,(by show 4<=sizeLine;decide),.cons ⟨_,rfl⟩ (.cons ⟨_,rfl⟩ (.cons ⟨_,rfl⟩ (.cons ⟨_,rfl⟩ (.nil))))⟩;obtain⟨rr,XT⟩:=XC.tab_of X G xt;obtain⟨f0,g0,F0,a0⟩:=h0;obtain⟨f1,g1,F1,a1⟩:=h1;obtain⟨f2,g2,F2,a2⟩:=h2;obtain⟨f3,g3,F3,a3⟩:=h3;obtain⟨f4,g4,F4,a4⟩:=h4;obtain⟨f5,g5,F5,a5⟩:=h5;obtain⟨f6,g6,F6,a6⟩:=h6;have F7:=i00 (st:=top 16) l7 c7 k7;obtain⟨f8,g8,F8,a8⟩:=h8;obtain⟨f9,g9,F9,a9⟩:=h9;have q9:=i00 (st:=top 19) l10 c10 k10;obtain⟨I2,L1,r3,y6⟩:=h11;obtain⟨U2,I3,r1,w0⟩:=h12;obtain⟨I7,g13,q2,z0⟩:=h13;obtain⟨f14,g14,s1,z5⟩:=h14;obtain⟨f15,I5,s8,w3⟩:=h15;obtain⟨Q0,g16,q3,z2⟩:=h16;obtain⟨f17,g17,q5,x7⟩:=h17;obtain⟨f18,g18,q6,w7⟩:=h18;obtain⟨f19,I8,q0,y0⟩:=h19;obtain⟨f20,g20,q1,u1⟩:=h20;obtain⟨f21,g21,r2,y9⟩:=h21;obtain⟨f22,g22,s0,v0⟩:=h22;obtain⟨f23,Q1,s7,x0⟩:=h23;obtain⟨f24,g24,r7,v4⟩:=h24;obtain⟨H4,g25,o1,H6⟩:=h25;obtain⟨y1,g26,o3,y2⟩:=h26;obtain⟨f27,g27,r5,H9⟩:=h27;obtain⟨w5,g28,p4,w2⟩:=h28;obtain⟨f29,L2,r0,y7⟩:=h29;obtain⟨f30,g30,t0,H7⟩:=h30;obtain⟨f31,g31,t4,z1⟩:=h31;obtain⟨I6,g32,r6,H0⟩:=h32;obtain⟨I9,g33,s4,z4⟩:=h33;obtain⟨T0,g34,s3,H3⟩:=h34;obtain⟨f35,g35,r4,x8⟩:=h35;obtain⟨f36,g36,q4,H8⟩:=h36;obtain⟨f37,g37,s6,y5⟩:=h37;obtain⟨f38,g38,s9,v1⟩:=h38;obtain⟨f39,g39,q8,t9⟩:=h39;obtain⟨f40,I4,q7,I1⟩:=h40;obtain⟨f41,g41,t3,z6⟩:=h41;obtain⟨f42,g42,s5,H5⟩:=h42;have w1:=mz0 (st:=top 56) l43 c43 k43;obtain⟨f44,g44,s2,v2⟩:=h44;have y8:=mz0 (st:=top 58) l45 c45 k45;refine⟨W.fnOf "law" "law" (V2 (top 58)) (Z4 (top 58)) (u6 (top 58)) .none kV45 dc45 pm45 an45 cd45 ct45,λs v=>.of_eq rfl,λbase _ _ z3 x9=>?_⟩;have O:=cN1 l.prog w base X G F0 a0 (pk0 F0 T) rfl (by intros;rfl);have n7:=cD1 l.prog w base X G F1 a1 (e50 F1 T) rfl (by intros;rfl);have m2:=cD1 l.prog w base X G F2 a2 (ja0 F2 T) rfl (by intros;rfl);have e9:=cN1 l.prog w base X G F3 a3 (nu0 F3 T) rfl (by intros;rfl);have h7:=cN1 l.prog w base X G F4 a4 (e70 F4 T) rfl (by intros;rfl);have d4:=cD2 l.prog w base X G r3 y6 (ih0 r3 T) rfl (by intros;rfl);have d1:=cD2 l.prog w base X G r1 w0 (qx0 r1 T) rfl (by intros;rfl);have e6:=cD1 l.prog w base X G s1 z5 (nw0 s1 T) rfl (by intros;rfl);have b3:=cN1 l.prog w base X G s8 w3 (m00 s8 T) rfl (by intros;rfl);have e4:=cD1 l.prog w base X G q3 z2 (pt0 q3 T m0) rfl (by intros;rfl);have e8:=cN1 l.prog w base X G q6 w7 (m30 q6 T) rfl (by intros;rfl);have Y:=cD2 l.prog w base X G r5 H9 (k50 r5 T) rfl (by intros;rfl);have b0:=cD2 l.prog w base X G r6 H0 (qs0 r6 T) rfl (by intros;rfl);have J:=cD2 l.prog w base X G s4 z4 (j30 s4 T) rfl (by intros;rfl);have Z:=cN1 l.prog w base X G s9 v1 (o80 s9 T) rfl (by intros;rfl);have j1:=cN1 l.prog w base X G q8 t9 (m80 q8 T) rfl (by intros;rfl);have j3:d40 l.prog w K mg base Pt (("_law_look" : Str) ++ ".<locals>." ++ "<lambda>") "_law_look" 1 ["_law_some"] R7:=⟨f43,_,l00 ⟨⟨_,_,_,_,_,_,_,_,rfl,l43,c43⟩⟩ z3 x9 T ,C3 X G a43,k43,w1.binds (ps:=["_law_some"]) λ_ _ _ _ _ _ us hl=>by obtain⟨_,rfl⟩:=us1 hl;rfl⟩;have e5:=cD2 l.prog w base X G F5 a5 (pu0 F5 T e9) rfl (by intros;rfl);have l3:=cN1 l.prog w base X G F6 a6 (cf0 F6 T h7) rfl (by intros;rfl);have k3:=cD2 l.prog w base X G q2 z0 (ks0 q2 T e6) rfl (by intros;rfl);have e7:=cN1 l.prog w base X G q5 x7 (nz0 q5 T b3) rfl (by intros;rfl);have d0:=cD1 l.prog w base X G s0 v0 (pc0 s0 T n7) rfl (by intros;rfl);have b7:=cD1 l.prog w base X G s7 x0 (sv0 s7 T m2) rfl (by intros;rfl);have m1:=cD1 l.prog w base X G r7 v4 (j70 r7 T Y) rfl (by intros;rfl);have b1:FnX l.prog w K mg base "part_starts" 2 ["look", "k"] W8:=⟨⟨w5,_,py0 p4 T XT Y,C3 X G w2,p4.kp,p4.binds (ps:=["look", "k"]) λ_ _ _ _ _ _ us hl=>by obtain⟨_,_,rfl⟩:=us2 hl;rfl⟩⟩;have m6:=cD3 l.prog w base X G t4 z1 (iv0 t4 T d4) rfl (by intros;rfl);have k5:=cN2 l.prog w base X G s3 H3 (k80 s3 T J) rfl (by intros;rfl);have b6:=cD3 l.prog w base X G r4 x8 (sy0 r4 T J) rfl (by intros;rfl);have b2:=cN1 l.prog w base X G q7 I1 (us0 q7 T Z) rfl (by intros;rfl);have d2:=cN3 l.prog w base X G F8 a8 (io0 F8 T l3) rfl (by intros;rfl);have c4:=cD2 l.prog w base X G F9 a9 (j00 F9 T h7 e5) rfl (by intros;rfl);have i0:=cD1 l.prog w base X G r2 y9 (ma0 r2 T O b3 d0) rfl (by intros;rfl);have n0:=cD3 l.prog w base X G t0 H7 (ii0 t0 T m6 Y b7 d4) rfl (by intros;rfl);have b5:=cD3 l.prog w base X G q4 H8 (tx0 q4 T J b6) rfl (by intros;rfl);have b4:=cD1 l.prog w base X G t3 z6 (t70 t3 T Z j1 b2) rfl (by intros;rfl);have n8:FnN l.prog w K mg base "met" 4 ["web", "k"] uc0:=⟨f7,_,fs0 F7 T d2,C3 X G a7,k7,λs us X hl=>match us,hl with|[_,_],_=>c6 X rfl t7 rfl rfl rfl⟩;have x3:T30 l.prog w K mg base "met" 4 ["web", "k"] uc0 [(.int 0)]:=⟨f7,_,[.int 0 tt7_0],[.int 0],fs0 F7 T d2,C3 X G a7,k7,λs us X hl=>by obtain⟨u0,rfl⟩:=us1 (show us.length=1 by rw[List.length_append] at hl;simpa using hl);exact c6 X rfl t7 rfl rfl rfl,by repeat (first|exact .nil|refine .cons (by first|exact⟨_,rfl⟩|rfl) ?_),λH B=>by simp[p8,n6,j5,U4]⟩;have i3:=cN1 l.prog w base X G q1 u1 (nt0 q1 T i0 e8 O e4 e7) rfl (by intros;rfl);have d3:=cD2 l.prog w base X G r0 y7 (ip0 r0 T m0 n0 k3 Y d1) rfl (by intros;rfl);have j0:=cD3 l.prog w base X G s6 y5 (mb0 s6 T b0 b5 J k5) rfl (by intros;rfl);have c3:=cD1 l.prog w base X G s5 H5 (q70 s5 T Z b4) rfl (by intros;rfl);have l4:FnD l.prog w K mg base "drawn" 5 ["web", "k"] G6:=⟨f10,_,lp0 q9 T n8 c4,C3 X G a10,k10,λs us X hl=>match us,hl with|[_,_],_=>c6 X rfl t10 rfl rfl rfl⟩;have t8:Uz0 l.prog w K mg base "drawn" 5 ["web", "k"] G6 [(.int 0)]:=⟨f10,_,[.int 0 tt10_0],[.int 0],lp0 q9 T n8 c4,C3 X G a10,k10,λs us X hl=>by obtain⟨u0,rfl⟩:=us1 (show us.length=1 by rw[List.length_append] at hl;simpa using hl);exact c6 X rfl t10 rfl rfl rfl,by repeat (first|exact .nil|refine .cons (by first|exact⟨_,rfl⟩|rfl) ?_),λH B=>by simp[p8,n6,j5,U4]⟩;have n3:=cN1 l.prog w base X G q0 y0 (el0 q0 T O i3) rfl (by intros;rfl);have n1:FnX l.prog w K mg base "part_of" 5 ["look", "k"] W2:=⟨⟨H4,_,ig0 o1 T d3 b1,C3 X G H6,o1.kp,o1.binds (ps:=["look", "k"]) λ_ _ _ _ _ _ us hl=>by obtain⟨_,_,rfl⟩:=us2 hl;rfl⟩⟩;have e3:=n1.plain;have n4:FnX l.prog w K mg base "wanted" 6 ["look", "k"] yo0:=⟨⟨y1,_,e20 o3 T l4 l3 d3 b1,C3 X G y2,o3.kp,o3.binds (ps:=["look", "k"]) λ_ _ _ _ _ _ us hl=>by obtain⟨_,_,rfl⟩:=us2 hl;rfl⟩⟩;have n2:=n4.plain;have k0:=cN1 l.prog w base X G s2 v2 (k60 s2 T m1 e3) rfl (by intros;rfl);exact Wi0 y8 T j0 b0 c3 j3 J k0 n3 l4 e3 n2
theorem k90:∀ns:List Int,Rps K H B (ns.map D.int) (ns.map V.int)
 | []=>by rw[List.map_nil,List.map_nil,n6]
 | n::ns=>by
  rw[List.map_cons,List.map_cons,p8];exact⟨_,_,rfl,by rw[j5],k90 ns⟩
theorem ec0{ns:List Int}(hS:SqL K H a (ns.map V.int))(hm:se0 [.lst (ns.map .int)]=some (.bl true)):spD K se0 [.ref a] H (λv _=>v=.bl true) λ_ _ _=>False:=by
 refine⟨λ_=>False,[.lst (ns.map .int)],.bl true,λ_ z=>z.elim,?_,hm,λv H' _ r=>by rw[W7] at r;exact r⟩;rw[p8];refine⟨_,[],rfl,?_,by rw[n6]⟩;rw[Z5];refine⟨a,ns.map V.int,rfl,?_,k90 ns⟩;rcases hS with h|h
 ·exact .inl ⟨λz=>z,h⟩
 ·exact .inr (.inr h)
end Ga
open PySem.W PyProof.Rows
theorem PySem.W.Fast.tw1180467711791279872:True:=trivial
theorem PySem.W.Fast.tw9862884468337864872:True:=trivial
theorem PySem.W.Fast.tw2693693842784661805:True:=trivial
theorem PySem.W.Fast.tw5175894479721468543:True:=trivial
theorem PySem.W.Fast.tw3721427702080703281:True:=trivial
theorem PySem.W.Fast.tw6497308538800910299:True:=trivial
theorem PySem.W.Fast.tw6874880213443957347:True:=trivial
theorem PySem.W.Fast.tw16725608819337168893:True:=trivial
theorem PySem.W.Fast.tw18066681800645865124:True:=trivial
theorem PySem.W.Fast.tw9907400396610244876:True:=trivial
theorem PySem.W.Fast.tw16107549863966274493:True:=trivial
theorem PySem.W.Fast.tw16684260552754012720:True:=trivial
theorem PySem.W.Fast.tw7995081847015867741:True:=trivial
theorem PySem.W.Fast.tw3395054464346482804:True:=trivial
theorem PySem.W.Fast.tw15285097412640765120:True:=trivial
theorem PySem.W.Fast.tw11339007371056162471:True:=trivial
theorem PySem.W.Fast.tw7512416930002290790:True:=trivial
theorem PySem.W.Fast.tw9001432876959943468:True:=trivial
theorem PySem.W.Fast.tw2245719117428212107:True:=trivial
theorem PySem.W.Fast.tw4696324061127357816:True:=trivial
theorem PySem.W.Fast.tw6219882920210822488:True:=trivial
theorem PySem.W.Fast.tw5395367858181285644:True:=trivial
theorem PySem.W.Fast.tw6772123736317126804:True:=trivial
theorem PySem.W.Fast.tw15939639527863436317:True:=trivial
theorem PySem.W.Fast.tw12401234311434775189:True:=trivial
theorem PySem.W.Fast.tw6955136484972453795:True:=trivial
theorem PySem.W.Fast.tw1676032899977970528:True:=trivial
theorem PySem.W.Fast.tw11022091912215822545:True:=trivial
theorem PySem.W.Fast.tw6172865665893612963:True:=trivial
theorem PySem.W.Fast.tw17183381865870724874:True:=trivial
set_option maxRecDepth 100000 in
theorem PySem.Challenge.cw_graphpack_k38_whole_bundles_and_looks_holds : PySem.Challenge.rw_graphpack_k38_whole_bundles_and_looks.Holds := by
 w_on;o_law;k_head;(case hw=>w_witness2)
 k_fill
 refine L2.dt0 (l:=PySem.Challenge.rw_graphpack_k38_whole_bundles_and_looks) (n:=63) (k:=7) (x := "_law_script") (c0:=?cL) (q:=(("_law_look" : Str) ++ ".<locals>." ++ "<lambda>")) (CX:=L2.CX0) (sp:=λK=>DL.spD K Ga.se0) rfl (by decide) rfl ⟨rfl,by decide,by decide⟩ ?KP ?HC ?F ?S ?C
 case F =>
  intro w mg fa h KX G hmg;refine' Ga.all_mk KX G hmg ?h0 ?h1 ?h2 ?h3 ?h4 ?h5 ?h6 ?a7 ?l7 ?c7 ?k7 ?t7 ?h8 ?h9 ?a10 ?l10 ?c10 ?k10 ?t10 ?h11 ?h12 ?h13 ?h14 ?h15 ?h16 ?h17 ?h18 ?h19 ?h20 ?h21 ?h22 ?h23 ?h24 ?h25 ?h26 ?h27 ?h28 ?h29 ?h30 ?h31 ?h32 ?h33 ?h34 ?h35 ?h36 ?h37 ?h38 ?h39 ?h40 ?h41 ?h42 ?a43 ?l43 ?c43 ?k43 ?h44 ?a45 ?l45 ?c45 ?k45 ?z_dict ?z_enumerate ?z_isinstance ?z_len ?z_list ?z_max ?z_ord ?z_range ?z_reversed ?z_str ?z_tuple ?z_zip ?y_BASE ?y_NAME_SIGNS ?y_WORD_SIGNS ?kN_KINDS ?kL_KINDS ?xt
  (case h0=>exact Ga.Z7 (by k_is) (by k_is) (by k_is) (by k_is))
  (case h1=>exact Ga.Z7 (by k_is) (by k_is) (by k_is) (by k_is))
  (case h2=>exact Ga.Z7 (by k_is) (by k_is) (by k_is) (by k_is))
  (case h3=>exact Ga.Z7 (by k_is) (by k_is) (by k_is) (by k_is))
  (case h4=>exact Ga.Z7 (by k_is) (by k_is) (by k_is) (by k_is))
  (case h5=>exact Ga.Z7 (by k_is) (by k_is) (by k_is) (by k_is))
  (case h6=>exact Ga.Z7 (by k_is) (by k_is) (by k_is) (by k_is))
  (case a7=>k_is)
  (case l7=>k_is)
  (case c7=>k_is)
  (case k7=>k_is)
  (case t7=>k_is)
  (case h8=>exact Ga.Z7 (by k_is) (by k_is) (by k_is) (by k_is))
  (case h9=>exact Ga.Z7 (by k_is) (by k_is) (by k_is) (by k_is))
  (case a10=>k_is)
  (case l10=>k_is)
  (case c10=>k_is)
  (case k10=>k_is)
  (case t10=>k_is)
  (case h11=>exact Ga.Z7 (by k_is) (by k_is) (by k_is) (by k_is))
  (case h12=>exact Ga.Z7 (by k_is) (by k_is) (by k_is) (by k_is))
  (case h13=>exact Ga.Z7 (by k_is) (by k_is) (by k_is) (by k_is))
  (case h14=>exact Ga.Z7 (by k_is) (by k_is) (by k_is) (by k_is))
  (case h15=>exact Ga.Z7 (by k_is) (by k_is) (by k_is) (by k_is))
  (case h16=>exact Ga.Z7 (by k_is) (by k_is) (by k_is) (by k_is))
  (case h17=>exact Ga.Z7 (by k_is) (by k_is) (by k_is) (by k_is))
  (case h18=>exact Ga.Z7 (by k_is) (by k_is) (by k_is) (by k_is))
  (case h19=>exact Ga.Z7 (by k_is) (by k_is) (by k_is) (by k_is))
  (case h20=>exact Ga.Z7 (by k_is) (by k_is) (by k_is) (by k_is))
  (case h21=>exact Ga.Z7 (by k_is) (by k_is) (by k_is) (by k_is))
  (case h22=>exact Ga.Z7 (by k_is) (by k_is) (by k_is) (by k_is))
  (case h23=>exact Ga.Z7 (by k_is) (by k_is) (by k_is) (by k_is))
  (case h24=>exact Ga.Z7 (by k_is) (by k_is) (by k_is) (by k_is))
  (case h25=>exact Ga.Z7 (by k_is) (by k_is) (by k_is) (by k_is))
  (case h26=>exact Ga.Z7 (by k_is) (by k_is) (by k_is) (by k_is))
  (case h27=>exact Ga.Z7 (by k_is) (by k_is) (by k_is) (by k_is))
  (case h28=>exact Ga.Z7 (by k_is) (by k_is) (by k_is) (by k_is))
  (case h29=>exact Ga.Z7 (by k_is) (by k_is) (by k_is) (by k_is))
  (case h30=>exact Ga.Z7 (by k_is) (by k_is) (by k_is) (by k_is))
  (case h31=>exact Ga.Z7 (by k_is) (by k_is) (by k_is) (by k_is))
  (case h32=>exact Ga.Z7 (by k_is) (by k_is) (by k_is) (by k_is))
  (case h33=>exact Ga.Z7 (by k_is) (by k_is) (by k_is) (by k_is))
  (case h34=>exact Ga.Z7 (by k_is) (by k_is) (by k_is) (by k_is))
  (case h35=>exact Ga.Z7 (by k_is) (by k_is) (by k_is) (by k_is))
  (case h36=>exact Ga.Z7 (by k_is) (by k_is) (by k_is) (by k_is))
  (case h37=>exact Ga.Z7 (by k_is) (by k_is) (by k_is) (by k_is))
  (case h38=>exact Ga.Z7 (by k_is) (by k_is) (by k_is) (by k_is))
  (case h39=>exact Ga.Z7 (by k_is) (by k_is) (by k_is) (by k_is))
  (case h40=>exact Ga.Z7 (by k_is) (by k_is) (by k_is) (by k_is))
  (case h41=>exact Ga.Z7 (by k_is) (by k_is) (by k_is) (by k_is))
  (case h42=>exact Ga.Z7 (by k_is) (by k_is) (by k_is) (by k_is))
  (case a43=>k_is)
  (case l43=>k_is)
  (case c43=>k_is)
  (case k43=>k_is)
  (case h44=>exact Ga.Z7 (by k_is) (by k_is) (by k_is) (by k_is))
  (case a45=>k_is)
  (case l45=>k_is)
  (case c45=>k_is)
  (case k45=>k_is)
  (case z_dict=>k_is)
  (case z_enumerate=>k_is)
  (case z_isinstance=>k_is)
  (case z_len=>k_is)
  (case z_list=>k_is)
  (case z_max=>k_is)
  (case z_ord=>k_is)
  (case z_range=>k_is)
  (case z_reversed=>k_is)
  (case z_str=>k_is)
  (case z_tuple=>k_is)
  (case z_zip=>k_is)
  (case y_BASE=>k_is)
  (case y_NAME_SIGNS=>k_is)
  (case y_WORD_SIGNS=>k_is)
  (case kN_KINDS=>k_is)
  (case kL_KINDS=>k_is)
  (case xt=>kernel_rfl)
 case KP=>exact λP=>rfl
 case HC=>exact λP=>by kernel_rfl
 case S=>exact λK H a ns hl hb hS=>Ga.ec0 hS (Ga.ex0 ns hl hb)
 case C=>exact λ_ _ _ _ z=>z
#print axioms PySem.Challenge.cw_graphpack_k38_whole_bundles_and_looks_holds
