import PyProof.Rows.All
import Wide.All
import OpenK.AllK
import Wide.FinOn
import Lean
import PyProof.EqAt
import PyProof.EqKinds
import PyProof.TupleCall
import PyProof.NeKinds
import PyProof.Rows.SetFrom
import KE.KRevIter
import PyProof.ZipIter
import PyProof.TupleOfGen
import PyProof.Rows.ZipGen
import PyProof.EnumMake
import PyProof.EnumFor
import PyProof.ListRange
import PyProof.LayNew
import KE.KDictOf
import KE.KIntText
import KE.IntTextLaws
import PyProof.StrCalls2
import PyProof.Rows.StrNews2
import PyProof.StrLawsTight
import PyProof.FactsAll.object
import PyProof.IsiStr
import KE.KIsAll
import KE.KLam
import KE.KNestM
import PyProof.ListMulRight
import PyProof.AttrMissHeap
import PyProof.AutoListH
import PyProof.CallFns
import PyProof.ExcArgsOwn
import PyProof.ExcAttrAll.ValueError
import PyProof.IsInstanceT
import PyProof.RulesAs
import PyProof.Rows.Tup
import OpenK.KOwn
import PyProof.ExcInit
import OpenK.KCls
import OpenK.KMake
import PyProof.InstStoreFacts
import PyProof.RaisesMany
import PyProof.RulesTry
import PyProof.NsDelKeeps
import PyProof.Rows.FStr
import OpenK.KWalk
import PyProof.Rows.SortStr
import KE.KDictSum
import PyProof.Draws
import PyProof.SliceList
import PyProof.Rows.CallKwBuiltin
import PyProof.SumWalkG
import KE.KDictLaws
import PyProof.DictTruth
import PySem.Challenge.RW_graphpack_k37_wanted_webs
set_option maxHeartbeats 0
noncomputable section
open PySem
def A0:=@PySem.wpAny_bind
def A1:=@Nat.le_refl
def A2:=@PySem.wpAny_pure
def A3:=@PySem.Heap.lt_size
def A4:=@Ne.symm
def A5:=@List.mem_cons_of_mem
def A6:=@Nat.ne_of_lt
def A7:=@PySem.Heap.get?_push_of_some
def A8:=@List.mem_cons_self
def A9:=@Nat.lt_of_lt_of_le
def B0:=@List.mem_cons
def B1:=@List.mem_map
def B3:=@PySem.W.mg_of
def B4:=@List.mem_append
def B5:=@Bool.false_ne_true
def B6:=@Option.some.inj
def B7:=@Nat.ne_of_gt
def B8:=@List.mem_range
def B9:=@PySem.Heap.get?_push_size
def C0:=@Nat.zero_le
def C3:=@Nat.le_trans
def C4:=@List.getElem?_eq_some_iff
def C5:=@PySem.wpAny_mono
def C6:=@List.mem_append_right
def C7:=@PySem.PassesOwn.never
def C8:=@List.mem_singleton
def C9:=@Nat.lt_irrefl
def D0:=@PySem.wpAny_field
def D2:=@PySem.wpAny_loadPart_at
def D3:=@PySem.W.mg_none_of
def D4:=@congrArg
def D5:=@List.mem_of_getElem?
def D6:=@List.getElem_mem
def D7:=@List.mem_append_left
def D8:=@PySem.wpAny_holding
def D9:=@List.getElem?_eq_getElem
def E1:=@PySem.wpAny_Call_Name_kw
def E2:=@PySem.mem_of_lookup
def E3:=@Nat.le_of_lt
def E4:=@PySem.Heap.get?_update_other
def E5:=@PySem.W.kia_one
def E6:=@Option.map_eq_some_iff
def E7:=@PySem.Heap.get?_update_self
def E8:=@PyProof.Rows.callWith_type1
def E9:=@PySem.wpAny_newObj_type
def G0:=@Nat.lt_trans
def I0:=@PySem.codeAny_builtin
def K0:=@PySem.wpAny_passesOwn
def K2:=@PySem.call_meets
def L0:=@PySem.Obj.data_mapFields
def L1:=@Int.emod_nonneg
def L3:=@PySem.F.slot_gs_get
def L4:=@PySem.F.typeOf_object_class
def L5:=@PySem.wpAny_truthy_bool
def L6:=@List.nodup_cons
def L7:=@PyProof.Rows.slot_tuple_getitem
def L8:=@PySem.wpAny_typeOf
def L9:=@PySem.typeIs_str
def M0:=@Nat.le_add_right
def M1:=@Int.emod_lt_of_pos
def M2:=@decide_eq_false
def N0:=@PySem.wpAny_Name
def N1:=@PySem.Calls.spliced_nil
def N2:=@PySem.Calls.spliced_cons
def N4:=@PySem.codeAny_mono
def N9:=@PySem.typeIs_int
def O0:=@Nat.lt_of_le_of_lt
def P1:=@PySem.wpAny_specialOf
def P2:=@PySem.wpAny_updateSeq
def P3:=@PySem.F.plainAttrs_list
def P4:=@PySem.plainId_quiet
def P5:=@Array.getElem?_eq_getElem
def P6:=@of_decide_eq_true
def P7:=@PySem.Obj.isFreed_of_fields
def P8:=@Classical.axiomOfChoice
def Q1:=@List.mem_of_mem_take
def Q2:=@Nat.not_lt_zero
def S0:=@Nat.mul_le_mul_right
def S1:=@List.length_map
def S2:=@PySem.codeAny_call_builtin
def S3:=@beq_eq_false_iff_ne
def S4:=@List.getElem?_eq_none_iff
def T0:=@List.mem_filterMap
def U1:=@List.of_mem_zip
def U2:=@PySem.concat_meets
def W1:=@PySem.wpAny_callSpecial?_slot
def X0:=@PySem.wpAny_call_entry
def X2:=@List.length_eq_zero_iff
def Y1:=@PySem.F.slot_zip_next
def Y2:=@PySem.F.plain_extend_loop
def Y3:=@decide_eq_true
def c6:=@List.nodup_append
def c9:=@List.nodup_nil
def d5:=@PySem.W.binds_K
def d6:=@PySem.Paired.length
def g5:=@PySem.wpAny_loadName_local
def i0:=@PySem.wpAny_execs_nil
def i3:=@PySem.wpAny_standAt
def i5:=@PySem.W.callWith_K
def i6:=@PySem.W.cellsFrom_some
def i7:=@PySem.noFill_tuple_add
def i8:=@PySem.seq_tuple_add
def i9:=@PySem.F.slot_tuple_add
def j2:=@PySem.F.entry_tuple_add
def j3:=@PySem.F.args_tuple_add_2
def k7:=@PySem.slot_list_getitem
def k9:=@Eq.trans
def l0:=@Nat.le_of_eq
def l6:=@PySem.tupleKind_room_in1
def l7:=@Nat.lt_succ_self
def l9:=@PySem.wpAny_seqItems
def m3:=@PySem.wpAny_nextOf_list_item
def m4:=@PySem.wpAny_setField
def n5:=@Nat.pow_succ
def n9:=@List.length_range
def o0:=@Int.natCast_nonneg
def p9:=@Int.lt_of_le_of_lt
def q5:=@List.mem_reverse
def r8:=@PySem.PassesOwn.leaving
def u2:=@PySem.F.entry_object_class
def u8:=@PySem.Heap.get?_none_of_le
def w8:=@PySem.Calls.Name_function_global
def x4:=@PySem.wpAny_isTrue_Compare1
def A30:=@PySem.wpAny_newFunctionEnv_cells
def A50:=@Nat.min_le_right
def Af0:=@PySem.wpAny_getItem_list_slice
def Ah0:=@PySem.Calls.callWith_builtin
def Ak0:=@PySem.wpAny_comprehension_free
def Al0:=@List.mem_iff_getElem
def Am0:=@List.getD_eq_getElem?_getD
def Ar0:=@Bool.eq_false_iff
def At0:=@PySem.F.slot_dict_getitem
def Av0:=@PySem.F.slot_list_append
def Aw0:=@PySem.F.type_list_append
def B00:=@Nat.lt_succ_of_lt
def B50:=@Array.getElem?_eq_none
def B90:=@List.mem_map_of_mem
def Bb0:=@PySem.F.slot_int_mul
def Be0:=@Array.getElem?_eq_some_iff
def Bh0:=@List.contains_iff_mem
def Bl0:=@List.mem_flatMap
def Bm0:=@Nat.eq_zero_or_pos
def Bp0:=@List.map_snd_zip
set_option Elab.async false
set_option linter.all false
set_option maxRecDepth 100000
namespace KfT
theorem sl:Slot "function" "__getattribute__" "object.__getattribute__" := by
 refine .of (owner := "object") (n := "__getattribute__") ?_ (by decide +kernel) (by decide +kernel) (by decide +kernel) ?_ ?_
 ·rw[typeLookup_type,builtinLookup_eq_fast];kernel_rfl
 ·first|exact .inl (by decide +kernel)|exact .inr (by decide +kernel)
 ·rw[isSubtype_type];kernel_rfl
variable{y x name qual q root:Str}{R:Result->Shared->Prop}{tk:Tok}{K:W.Frag}{us tl:List Value}{a it C dx fa I c0 z i1 l1 l2:Addr}{o b e c iter value elt:Expr}{u dV doc pm cdv ct oc vl vu:Value}{items ys:Array Value}{h' base:Heap}{α β κ:Type}{pins:List (Addr×Obj)}{t' i j n k1 k2 x1:Nat}{ch fp:List Addr}{N N' cs rs:List Str}{E Q:Value->Shared->Prop}{s':Shared}{pos pos' p tpos apos p2 cpos py spos px p3 pos2 p0 np:Pos}{rest:List Stmt}{st:Stmt}{es ifs elts:List Expr}{l:List Int}{lo:Option Int}{prog:Program}{fd:FuncData}{sc scope lsc:Scope}{mg:Str->Option Value}{an od:Option Addr}{osl:Array (Option Value)}{caps idx S L T:List Nat}{oa:Obj}{me:Bool}
theorem lk:typeLookup (.type "function") "__class__"=pure (some (.builtin "object.__class__")):=by
 rw[typeLookup_type,builtinLookup_eq_fast];kernel_rfl
theorem ow:isSubtype (.type "function") (.type (".".intercalate ("object.__class__".cutAt '.').dropLast))=pure true:=by
 rw[F.owner_object_class,isSubtype_type];kernel_rfl
section
variable{P:Program}{W:World}{A:Around}{X:Value->Shared->Prop}{s:Shared}{f:Addr}{y:Obj}
theorem gs(e:s.heap.get? f=some y)(c:y.cls=.type "function")(q:R (.ok (.ret (.type "function"))) s) :
  codeAny (model P W) A (.call (.builtin "getset_descriptor.__get__") ⟨[.builtin "object.__class__",.ref f,.type "function"],[]⟩) R s:=by
 obtain⟨hh,gg,dd,tt,oo⟩:=s;have z1:(⟨hh,gg,dd,tt,oo⟩:Shared).TypeIs (.ref f) "function" := ⟨_,e,c⟩;have z2:=ow;refine S2 L3.plain F.entry_gs_get (L3.check _ _ _ _ _ _ _ _ L4 (F.args_gs_get _ _ _) ?_)
 repeat (any_goals (first|assumption|wp_step))
 refine⟨Code.quiet_builtin _ (by decide +kernel),I0 u2 ?_⟩
 repeat (any_goals (first|assumption|wp_step))
theorem ga{tk:Tok}{R:Fin->Shared->Prop}(e:s.heap.get? f=some y)(c:y.cls=.type "function")(q:R (.done (.ret (.type "function"))) s) :
  wpAny (model P W) A (Builtin.«object.__getattribute__» ⟨[.ref f,.str "__class__" tk],[]⟩) R X s:=by
 obtain⟨hh,gg,dd,tt,oo⟩:=s;have z1:(⟨hh,gg,dd,tt,oo⟩:Shared).TypeIs (.ref f) "function" := ⟨_,e,c⟩;have z2:(⟨hh,gg,dd,tt,oo⟩:Shared).TypeIs (.builtin "object.__class__") "getset_descriptor" := L4;have z3:=lk;have z4:=L4;have z5:=L3.lookup;have z6:=F.slot_gs_set.lookup
 repeat (any_goals (first|assumption|wp_step))
 refine gs e c ?_
 repeat (any_goals (first|assumption|wp_step))
variable{hh:Heap}{gg:Array GenState}{dd:Drawn}{tt:Nat}{oo:OsState}
theorem by'{R:Value->Shared->Prop}(e:hh.get? f=some y)(c:y.cls=.type "function")(q:R (.type "function") ⟨hh,gg,dd,tt,oo⟩):wpAny (model P W) A (getAttrBy (.ref f) (.str "__class__" tk) false) R X ⟨hh,gg,dd,tt,oo⟩:=by
 have z1:(⟨hh,gg,dd,tt,oo⟩:Shared).TypeIs (.ref f) "function" := ⟨_,e,c⟩;have z2:=sl.lookup;have z3:=sl.bind (.ref f)
 repeat (any_goals (first|assumption|wp_step))
 refine S2 sl.plain F.entry_object_getattribute (sl.check _ _ _ _ _ _ _ _ z1 (F.args_object_getattribute_2 _ _) (ga e c ?_))
 repeat (any_goals (first|assumption|wp_step))
theorem at'{R:Option Value->Shared->Prop}(e:hh.get? f=some y)(c:y.cls=.type "function")(q:R (some (.type "function")) ⟨hh,gg,dd,tt+1,oo⟩):wpAny (model P W) A (getAttr? (.ref f) "__class__") R X ⟨hh,gg,dd,tt,oo⟩:=by
 unfold getAttr? getAttrBy?
 repeat (any_goals (first|assumption|with_reducible apply by' e c|wp_step))
end
theorem kit{f:Addr}:W.KitX K (.ref f) (.type "function") (W.KitAt f "function"):=W.kitx_of W.kitAt_ty λ{_ _ _ _ _ s} p k=>by
 obtain⟨hh,gg,dd,tt,oo⟩:=s;obtain⟨_,e,c⟩:=p;exact at' e c k
end KfT
variable{y x name qual q root:Str}{R:Result->Shared->Prop}{tk:Tok}{K:W.Frag}{us tl:List Value}{a it C dx fa I c0 z i1 l1 l2:Addr}{o b e c iter value elt:Expr}{u dV doc pm cdv ct oc vl vu:Value}{items ys:Array Value}{h' base:Heap}{α β κ:Type}{pins:List (Addr×Obj)}{t' i j n k1 k2 x1:Nat}{ch fp:List Addr}{N N' cs rs:List Str}{E Q:Value->Shared->Prop}{s':Shared}{pos pos' p tpos apos p2 cpos py spos px p3 pos2 p0 np:Pos}{rest:List Stmt}{st:Stmt}{es ifs elts:List Expr}{l:List Int}{lo:Option Int}{prog:Program}{fd:FuncData}{sc scope lsc:Scope}{mg:Str->Option Value}{an od:Option Addr}{osl:Array (Option Value)}{caps idx S L T:List Nat}{oa:Obj}{me:Bool}
namespace L2
open Spec PyProof.Rows
abbrev Key:=Sum Int Str
def ty0:Key->Value->Bool
 | .inl k,v=>Value.isInt k v
 | .inr x,v=>Value.isStrOf x v
def Vv0(w:World):Key->Int
 | .inl k=>hashInt k
 | .inr x=>hashStr w x
theorem Q8:∀{k:Key} {v:Value},ty0 k v=true->(∃i t,k=Sum.inl i/\v=Value.int i t)∨(∃x t,k=Sum.inr x/\v=Value.str x t)
 | .inl i,v,h=>by
  obtain⟨t,e⟩:=Value.isInt_shape (k:=i) (v:=v) h;exact .inl ⟨i,t,rfl,e⟩
 | .inr x,v,h=>by
  obtain⟨t,e⟩:=Value.isStrOf_shape (x:=x) (v:=v) h;exact .inr ⟨x,t,rfl,e⟩
theorem hh0(i:Int)(t:Tok):ty0 (.inl i) (.int i t)=true:=by simp[ty0,Value.isInt]
theorem gl0(x:Str)(t:Tok):ty0 (.inr x) (.str x t)=true:=by simp[ty0,Value.isStrOf]
theorem Xm0(a b:Int):decide ((Sum.inl a:Key)=Sum.inl b)=(a==b):=by
 by_cases e:a=b
 ·subst e;simp
 ·have h:¬(Sum.inl a:Key)=Sum.inl b:=λq=>e (Sum.inl.inj q)
  rw[decide_eq_false h];exact(S3.mpr e).symm
theorem Xs0(a b:Str):decide ((Sum.inr a:Key)=Sum.inr b)=decide (a=b):=by
 by_cases e:a=b
 ·subst e;simp
 ·have h:¬(Sum.inr a:Key)=Sum.inr b:=λq=>e (Sum.inr.inj q)
  rw[decide_eq_false h,decide_eq_false e]
theorem Yg0(a:Int)(b:Str):decide ((Sum.inl a:Key)=Sum.inr b)=false:=M2 (λq=>nomatch q)
theorem Zl0(a:Str)(b:Int):decide ((Sum.inr a:Key)=Sum.inl b)=false:=M2 (λq=>nomatch q)
def O6(prog:Program)(w:World):PySem.KeyKind prog w Key where
 is:=ty0
 hash:=Vv0 w
 inj:=λv a b ha hb=>by
  rcases Q8 ha with⟨i,t,rfl,rfl⟩|⟨x,t,rfl,rfl⟩
  ·rcases Q8 hb with⟨j,u,rfl,e⟩|⟨y,u,rfl,e⟩
   ·injection e with e1 _;rw[e1]
   ·exact nomatch e
  ·rcases Q8 hb with⟨j,u,rfl,e⟩|⟨y,u,rfl,e⟩
   ·exact nomatch e
   ·injection e with e1 _;rw[e1]
 byValue:=λk v h=>by
  rcases Q8 h with⟨i,t,rfl,rfl⟩|⟨x,t,rfl,rfl⟩<;>rfl
 pyHash:=λhv h=>by
  rcases Q8 hv with⟨i,t,rfl,rfl⟩|⟨x,t,rfl,rfl⟩
  ·exact wpAny_pyHash_int h
  ·exact wpAny_pyHash_str h
 eqBool:=λhu hv h=>by
  rcases Q8 hu with⟨i,t,rfl,rfl⟩|⟨x,t,rfl,rfl⟩
  ·rcases Q8 hv with⟨j,u,rfl,rfl⟩|⟨y,u,rfl,rfl⟩
   ·rw[Xm0] at h;exact wpAny_eqBool_int h
   ·rw[Yg0] at h;exact SeqAt.EqAt.int_str i t y u _ _ _ _ h
  ·rcases Q8 hv with⟨j,u,rfl,rfl⟩|⟨y,u,rfl,rfl⟩
   ·rw[Zl0] at h;exact SeqAt.EqAt.str_int x t j u _ _ _ _ h
   ·rw[Xs0] at h;exact wpAny_eqBool_str h
 «strs»:=λk x t v h=>by
  rcases Q8 h with⟨i,u,rfl,e⟩|⟨y,u,rfl,e⟩
  ·exact nomatch e
  ·injection e with e1 _
   subst e1;cases v<;>rfl
theorem k80(prog:Program)(w:World)(i:Int)(t:Tok):(O6 prog w).is (.inl i) (.int i t)=true:=hh0 i t
theorem k20(prog:Program)(w:World)(x:Str)(t:Tok):(O6 prog w).is (.inr x) (.str x t)=true:=gl0 x t
inductive V where
 | non|bl (b:Bool)|int (i:Int)|str (x:Str)|byt (b:Array UInt8)|flt (b:UInt64)|ref (a:Addr)|ty (n:String)
 deriving DecidableEq
variable{xs dvs:List L2.V}{σ:List (Option L2.V)}{v:L2.V}{kvs:List (L2.Key×L2.V)}
def RelV:V->Value->Prop
 | .non,u=>u=Value.none
 | .bl b,u=>u=Value.bool b
 | .int i,u=>∃t,u=Value.int i t
 | .str x,u=>∃t,u=Value.str x t
 | .byt b,u=>∃t,u=Value.bytes b t
 | .flt b,u=>∃t,u=Value.float b t
 | .ref a,u=>u=Value.ref a
 | .ty n,u=>u=Value.type n
abbrev Vals:List V->List Value->Prop:=Paired RelV
theorem Vals.length(r:Vals xs us):xs.length=us.length:=d6 r
theorem Vals.get:∀{xs:List V} {us:List Value} {i:Nat} {x:V},Vals xs us->xs[i]?=some x->∃u,us[i]?=some u/\RelV x u
 | _,_,_,_,.nil,e=>by simp at e
 | _,_,0,_,.cons r _,e=>by simp at e;subst e;exact⟨_,rfl,r⟩
 | _,_,i+1,x,.cons _ t,e=>by
  obtain⟨u,h1,h2⟩:=Vals.get (i:=i) (x:=x) t (by simpa using e);exact⟨u,by simpa using h1,h2⟩
theorem Vals.append:∀{xs ys:List V} {us ws:List Value},Vals xs us->Vals ys ws->Vals (xs++ys) (us++ws)
 | _,_,_,_,.nil,s=>s
 | _,_,_,_,.cons r t,s=>.cons r (Vals.append t s)
theorem Vals.take:∀{xs:List V} {us:List Value} (n:Nat),Vals xs us->Vals (xs.take n) (us.take n)
 | _,_,0,_=>.nil
 | _,_,_+1,.nil=>.nil
 | _,_,n+1,.cons r t=>.cons r (Vals.take n t)
theorem Vals.drop:∀{xs:List V} {us:List Value} (n:Nat),Vals xs us->Vals (xs.drop n) (us.drop n)
 | _,_,0,r=>r
 | _,_,_+1,.nil=>.nil
 | _,_,n+1,.cons _ t=>Vals.drop n t
theorem Vals.none_of:∀{xs:List V} {us:List Value} {i:Nat},Vals xs us->xs[i]?=none->us[i]?=none:=λ{xs us i} r e=>by
 have h1:=r.length;have h2:xs.length<=i:=S4.mp e;exact S4.mpr (by omega)
def RelO:Option V->Option Value->Prop
 | some v,some u=>RelV v u
 | none,none=>True
 | _,_=>False
def KV{κ:Type}:List (κ×V)->List (κ×Value)->Prop:=Paired λ(p:κ×V) (q:κ×Value)=>p.1=q.1/\RelV p.2 q.2
def kV:Key->V
 | .inl i=>.int i
 | .inr x=>.str x
inductive HO where
 | lst (xs:List V)
 | tup (xs:List V)
 | dK (kvs:List (Key×V))|dT (kvs:List (List Key×V))
 | set (S:Int->Bool) (n:Nat)
 | ins (C dx:Addr) (fs:List (Str×V))
 | own (x:Addr)
 | xd (fs:List (Str×V))
 | met (f x:Addr)
 | rng (lo hi:Int)
 | frz (o:Obj) (u:HO)
 | tbl (ps:Array Value)
 | ext (φ:Heap->Prop)
abbrev Hp:=Addr->Option HO
def upd(H:Hp)(a:Addr)(o:HO):Hp:=λb=>if b=a then some o else H b
variable{H H' H1 H2 H₀:L2.Hp}
theorem j6{o:HO}:upd H a o a=some o:=by unfold upd;rw[if_pos rfl]
theorem o7{b:Addr}{o:HO}(h:b≠a):upd H a o b=H b:=by unfold upd;rw[if_neg h]
theorem Ww0{b:Addr}{o u:HO}(h:H a=some o)(h':H b=some u)(d:o≠u):a≠b:=by
 intro e;subst e;rw[h] at h';exact d (B6 h')
theorem V7{b:Addr}{o:HO}(h:H a=some o)(h':H b=none):a≠b:=by
 intro e;subst e;rw[h] at h';cases h'
def IsTupN(h:Heap)(a:Addr)(items:Array Value):Prop:=∃o,h.get? a=some o/\o.cls=.type "tuple"/\∃n,o.data=.seq items n/\o.dict=none
theorem IsTupN.tup{h:Heap}(x:IsTupN h a items):IsTup h a items:=let ⟨o,e,c,n,d,_⟩:=x;⟨o,e,c,n,d⟩
theorem IsTupN.new(h:Heap)(items:Array Value):IsTupN (h.push { cls:=.type "tuple",data:=.seq items }) h.objs.size items:=⟨_,B9 _ rfl,rfl,_,rfl,rfl⟩
def qOf(ps:Array Value):Str:=match (ps[0]?:Option Value) with
 | some (.str q _)=>q
 | _ => ""
def TabOk(H:Hp)(h:Heap)(a:Addr)(q:Str):Prop:=∃cont:Array Value,h.get? a=some { cls:=.none,data:=.fields cont }/\TriplesOk cont.toList /\
 ∀pos cv,codeAmong pos cont.toList=some cv->∃c oc vs tq,cv=.ref c/\H c=some (.frz oc (.own c))/\oc.data=.fields vs/\vs[1]?=some (.str q tq)
section
variable(P:Program)(w:World)
def ObjOk(H:Hp)(h:Heap)(a:Addr):HO->Prop
 | .lst xs=>xs.length<=sizeLine/\∃(its:List Value) (n:Nat),Vals xs its/\h.get? a=some { cls:=.type "list",data:=.seq its.toArray n }
 | .tup xs=>xs.length<=sizeLine/\∃its:List Value,Vals xs its/\IsTupN h a its.toArray
 | .dK kvs=>kvs.length<=sizeLine/\(a==sysModules)=false/\∃vs,KV kvs vs/\h.DictOf (O6 P w) a vs
 | .dT kvs=>kvs.length<=sizeLine/\(a==sysModules)=false/\∃xs:List (List Key×Addr×Value),
   Paired (λ(p:List Key×V) (q:List Key×Addr×Value)=>p.1=q.1/\H q.2.1=some (.tup (p.1.map kV))/\RelV p.2 q.2.2) kvs xs /\
   ∃o es ep,h.get? a=some o/\o.ExactDict/\o.data=.dict es ep/\es.toList=xs.map (entryOfKey (tupleKind (O6 P w)))/\(xs.map (·.1)).Nodup
 | .set S n=>h.SetOf (intKind P w) a S n
 | .ins C dx fs=>H dx=some (.own a)/\fs.length<=1000/\dx≠a/\h.get? a=some (W.instObj C dx) /\
   ∃mA,h.Ns1 dx mA/\(∀f,RelO (fs.lookup f) (mA f))/\PySem.Within mA (fs.map (·.1))
 | .own _=>∃o,h.get? a=some o
 | .xd fs=>∃mA,h.Ns1 a mA/\∀f,RelO (fs.lookup f) (mA f)
 | .rng lo hi=>∃t u v,h.get? a=some { cls:=.type "range",data:=.fields #[.int lo t,.int hi u,.int 1 v] }
 | .frz o u=>h.get? a=some o/\ObjOk H h a u
 | .tbl ps=>TabOk H h a (qOf ps)
 | .met f x=>h.get? a=some (W.methodObj (.ref f) (.ref x))
 | .ext φ=>φ h/\(∃o,h.get? a=some o)/\∀h1 h2:Heap,φ h1->(∀o,h1.get? a=some o->h2.get? a=some o)->φ h2
def HOk(H:Hp)(h:Heap):Prop:=∀a o,H a=some o->ObjOk P w H h a o
end
section
variable{P:Program}{w:World}{h:Heap}{o:HO}
theorem ObjOk.lt(x:ObjOk P w H h a o):a<h.objs.size:=by
 cases o with
 | lst xs=>obtain⟨_,_,_,_,e⟩:=x;exact A3 e
 | tup xs=>obtain⟨_,_,_,p⟩:=x;exact p.tup.lt
 | dK kvs=>obtain⟨_,_,_,_,o,_,_,e,_⟩:=x;exact A3 e
 | dT kvs=>obtain⟨_,_,_,_,o,_,_,e,_⟩:=x;exact A3 e
 | set S n=>obtain⟨o,_,_,_,e,_⟩:=x;exact A3 e
 | ins C dx fs=>obtain⟨_,_,_,e,_⟩:=x;exact A3 e
 | own y=>obtain⟨_,e⟩:=x;exact A3 e
 | xd fs=>obtain⟨_,⟨_,_,_,e,_⟩,_⟩:=x;exact A3 e
 | rng lo hi=>obtain⟨_,_,_,e⟩:=x;exact A3 e
 | frz ob u=>obtain⟨e,_⟩:=x;exact A3 e
 | tbl ps=>obtain⟨_,e,_⟩:=(show TabOk H h a (qOf ps) from x);exact A3 e
 | met f y=>exact A3 (show h.get? a=some _ from x)
 | ext φ=>obtain⟨_,⟨_,e⟩,_⟩:=x;exact A3 e
theorem Paired.mapP{F G:α->β->Prop}:∀{l₁:List α} {l₂:List β},Paired F l₁ l₂->(∀a b,F a b->G a b)->Paired G l₁ l₂
 | _,_,.nil,_=>.nil
 | _,_,.cons r t,f=>.cons (f _ _ r) (Paired.mapP t f)
theorem ObjOk.stay(x:ObjOk P w H h a o)(k:∀b u,(b=a∨H b=some (.own a))->h.get? b=some u->h'.get? b=some u)
  (ho:∀b,H b=some (.own a)->H' b=some (.own a)) (ht:∀b xs,H b=some (.tup xs)->H' b=some (.tup xs)) (hf:∀b ob u,H b=some (.frz ob u)->H' b=some (.frz ob u)):ObjOk P w H' h' a o:=by
 induction o with
 | lst xs=>obtain⟨z,its,n,r,e⟩:=x;exact⟨z,its,n,r,k _ _ (.inl rfl) e⟩
 | tup xs=>obtain⟨z,its,r,ob,e,c⟩:=x;exact⟨z,its,r,ob,k _ _ (.inl rfl) e,c⟩
 | dK kvs=>obtain⟨z,y,vs,r,ob,es,ep,e,c⟩:=x;exact⟨z,y,vs,r,ob,es,ep,k _ _ (.inl rfl) e,c⟩
 | dT kvs =>
  obtain⟨z,y,xs,r,ob,es,ep,e,c⟩:=x;exact⟨z,y,xs,Paired.mapP r λp q z=>⟨z.1,ht _ _ z.2.1,z.2.2⟩,ob,es,ep,k _ _ (.inl rfl) e,c⟩
 | set S n=>obtain⟨ob,es,ep,t,e,c⟩:=x;exact⟨ob,es,ep,t,k _ _ (.inl rfl) e,c⟩
 | ins C dx fs =>
  obtain⟨d,z,ne,e,mA,⟨od,es,ep,e2,c⟩,r⟩:=x;exact⟨ho _ d,z,ne,k _ _ (.inl rfl) e,mA,⟨od,es,ep,k _ _ (.inr d) e2,c⟩,r⟩
 | own y=>obtain⟨ob,e⟩:=x;exact⟨ob,k _ _ (.inl rfl) e⟩
 | xd fs=>obtain⟨mA,⟨od,es,ep,e,c⟩,r⟩:=x;exact⟨mA,⟨od,es,ep,k _ _ (.inl rfl) e,c⟩,r⟩
 | rng lo hi=>obtain⟨t,u,v,e⟩:=x;exact⟨t,u,v,k _ _ (.inl rfl) e⟩
 | frz ob u ih=>obtain⟨e,q⟩:=x;exact⟨k _ _ (.inl rfl) e,ih q⟩
 | tbl ps =>
  obtain⟨cont,e,t,c⟩:=(show TabOk H h a (qOf ps) from x);exact⟨cont,k a _ (.inl rfl) e,t,λpos cv q=>let ⟨c',oc,vs,tq,z1,z2,z3⟩:=c pos cv q;⟨c',oc,vs,tq,z1,hf _ _ _ z2,z3⟩⟩
 | met f y =>
  have e:h.get? a=some (W.methodObj (.ref f) (.ref y)):=x;show h'.get? a=some (W.methodObj (.ref f) (.ref y));exact k a _ (.inl rfl) e
 | ext φ=>obtain⟨p,⟨o,e⟩,st⟩:=x;exact⟨st _ _ p λo q=>k _ _ (.inl rfl) q,⟨o,k _ _ (.inl rfl) e⟩,st⟩
theorem HOk.lt(x:HOk P w H h)(e:H a=some o):a<h.objs.size:=(x a o e).lt
theorem HOk.fresh(x:HOk P w H h)(e:h.objs.size<=a):H a=none:=by
 cases q:H a with
 | none=>rfl
 | some u=>exact absurd (A9 (x.lt q) e) (C9 _)
theorem HOk.kept(x:HOk P w H h)(k:∀b u,h.get? b=some u->h'.get? b=some u):HOk P w H h':=λa o e =>
 (x a o e).stay (λb u _ q=>k b u q) (λ_ q=>q) (λ_ _ q=>q) λ_ _ _ q=>q
theorem HOk.laid(x:HOk P w H h)(k:∀b u,h.get? b=some u->h'.get? b=some u)(hp:h.objs.size<=a)(new:ObjOk P w (upd H a o) h' a o):HOk P w (upd H a o) h':=λb u e=>by
 have hn:=x.fresh hp
 by_cases hb:b=a
 ·subst hb;rw[j6] at e;cases e;exact new
 ·rw[o7 hb] at e
  exact(x b u e).stay (λc v _ q=>k c v q) (λc q=>by rw[o7 (V7 q hn)];exact q) (λc xs q=>by rw[o7 (V7 q hn)];exact q) λc ob u' q=>by rw[o7 (V7 q hn)];exact q
end
def Rd(H:Hp)(a:Addr)(u:HO):Prop:=H a=some u∨∃o,H a=some (.frz o u)
theorem Rd.ok{P:Program}{w:World}{h:Heap}{u:HO}(r:Rd H a u)(x:HOk P w H h):ObjOk P w H h a u:=by
 rcases r with r|⟨o,r⟩
 ·exact x a u r
 ·obtain⟨_,q⟩:=x a _ r
  exact q
def Mut:Option HO->Prop
 | some (.lst _)=>True
 | some (.dK _)=>True
 | some (.dT _)=>True
 | some (.set _ _)=>True
 | some (.ins _ _ _)=>True
 | some (.ext _)=>True
 | _=>False
section
variable{P:Program}{w:World}{h:Heap}{x e:Addr}{o':HO}
theorem HOk.write(ok:HOk P w H h)(mu:Mut (H x))(he:e=x∨H e=some (.own x))(k:∀b u,b≠e->h.get? b=some u->h'.get? b=some u)(heo:∃u,h'.get? e=some u)
  (new:ObjOk P w (upd H x o') h' x o'):HOk P w (upd H x o') h':=λb u q=>by
 have J:∀c y,H c=some (.own y)->c≠x:=λc y r z=>by subst z;rw[r] at mu;exact mu
 have Y:∀c xs,H c=some (.tup xs)->c≠x:=λc xs r z=>by subst z;rw[r] at mu;exact mu
 have O:∀c ob u',H c=some (.frz ob u')->c≠x:=λc ob u' r z=>by subst z;rw[r] at mu;exact mu
 by_cases hb:b=x
 ·subst hb;rw[j6] at q;cases q;exact new
 ·rw[o7 hb] at q
  by_cases hbe:b=e
  ·have q':H b=some (.own x):=by
    rcases he with z|z
    ·exact absurd (hbe.trans z) hb
    ·rw[hbe];exact z
   rw[q] at q';cases q';obtain⟨v,hv⟩:=heo;exact⟨v,by rw[hbe];exact hv⟩
  ·refine(ok b u q).stay (λc v hc r=>k c v ?_ r) (λc r=>by rw[o7 (J c b r)];exact r) (λc xs r=>by rw[o7 (Y c xs r)];exact r) λc ob u' r=>by rw[o7 (O c ob u' r)];exact r
   rcases hc with rfl|hc
   ·exact hbe
   ·rintro rfl
    rcases he with z|z
    ·exact J c b hc z
    ·rw[hc] at z;cases z;exact hb rfl
end
structure Un(fs ex:List Addr)(H H':Hp)(h h':Heap):Prop where
 keep:∀b o,h.get? b=some o->H b=none->b∉fs->b∉ex->h'.get? b=some o
 slot:∀b o,h.get? b=some o->H b=none->b∈fs->b∉ex->∃sl,h'.get? b=some { o with slots:=sl }
 free:∀b o,h.get? b=some o->H b=none->b∉ex->H' b=none
 there:∀b o,h.get? b=some o->b∉ex->∃o',h'.get? b=some o'
 tups:∀b xs,H b=some (.tup xs)->H' b=some (.tup xs)
 frzs:∀b o u,H b=some (.frz o u)->H' b=some (.frz o u)
 tbls:∀b ps,H b=some (.tbl ps)->∃more,H' b=some (.tbl (ps++more))
section
variable{fs fs' ex ex':List Addr}{h h1 h2:Heap}{x e:Addr}{o:HO}
theorem Un.any(u:Un fs ex H H1 h h1){b:Addr}{ob:Obj}(q:h.get? b=some ob)(n:H b=none)(hx:b∉ex):∃sl,h1.get? b=some { ob with slots:=sl }:=by
 by_cases hb:b∈fs
 ·exact u.slot b ob q n hb hx
 ·exact⟨ob.slots,u.keep b ob q n hb hx⟩
theorem Un.kept(k:∀b u,h.get? b=some u->h'.get? b=some u):Un fs ex H H h h' :=
 ⟨λb ob q _ _ _=>k b ob q,λb ob q _ _ _=>⟨ob.slots,k b ob q⟩,λ_ _ _ n _=>n,λb ob q _=>⟨ob,k b ob q⟩,λ_ _ q=>q,λ_ _ _ q=>q,λ_ ps q=>⟨#[],by rw[q];simp⟩⟩
theorem Un.refl:Un fs ex H H h h:=Un.kept λ_ _ q=>q
theorem Un.laid(k:∀b u,h.get? b=some u->h'.get? b=some u)(hp:h.objs.size<=a)(hn:H a=none):Un fs ex H (upd H a o) h h' where
 keep:=λb u q _ _ _=>k b u q
 slot:=λb u q _ _ _=>⟨u.slots,k b u q⟩
 free:=λb u q n _=>by rw[o7 (A6 (A9 (A3 q) hp))];exact n
 there:=λb u q _=>⟨u,k b u q⟩
 tups:=λb xs q=>by rw[o7 (V7 q hn)];exact q
 frzs:=λb u xs q=>by rw[o7 (V7 q hn)];exact q
 tbls:=λb ps q=>⟨#[],by rw[o7 (V7 q hn),q];simp⟩
theorem Un.write(mu:Mut (H x))(he:e=x∨H e=some (.own x))(k:∀b u,b≠e->h.get? b=some u->h'.get? b=some u)(heo:∃u,h'.get? e=some u):Un fs ex H (upd H x o) h h':=by
 have hx:∀b,H b=none->b≠x:=λb n z=>by subst z;rw[n] at mu;exact mu
 have hb:∀b,H b=none->b≠e:=λb n z=>by
  subst z;rcases he with r|r
  ·exact hx b n r
  ·rw[n] at r;cases r
 have hm:∀b u,H b=some u->¬Mut (some u)->b≠x:=λb u q nm z=>by subst z;rw[q] at mu;exact nm mu
 refine⟨λb u q n _ _=>k b u (hb b n) q,λb u q n _ _=>⟨u.slots,k b u (hb b n) q⟩,λb u q n _=>by rw[o7 (hx b n)];exact n,λb u q _=>?_,
  λb xs q=>by rw[o7 (hm b _ q λz=>z)];exact q,λb u xs q=>by rw[o7 (hm b _ q λz=>z)];exact q,λb ps q=>⟨#[],by rw[o7 (hm b _ q λz=>z),q];simp⟩⟩
 by_cases hbe:b=e
 ·subst hbe;exact heo
 ·exact⟨u,k b u hbe q⟩
end
def trk(h:Heap)(H:Hp):List Addr:=(List.range h.objs.size).filter λa=>(H a).isSome
def vg0(h:Heap)(H:Hp):Heap:=W.hideAll h (trk h H)
theorem g60(h:Heap)(H:Hp):(vg0 h H).objs.size=h.objs.size:=W.hideAll_size _ _
theorem uj0{h:Heap}{b:Addr}{o:Obj}(e:h.get? b=some o)(n:H b=none):(vg0 h H).get? b=some o :=
 W.hideAll_get _ e λhm=>by
  have q:(H b).isSome=true:=(List.mem_filter.mp hm).2;rw[n] at q;simp at q
theorem a70{h:Heap}{b:Addr}{o:Obj}(e:(vg0 h H).get? b=some o):h.get? b=some o/\H b=none:=by
 have e':h.get? b=some o:=W.of_hideAll (trk h H) e;refine⟨e',?_⟩;cases q:H b with
 | none=>rfl
 | some x =>
  have hm:b∈trk h H:=List.mem_filter.mpr ⟨B8.mpr (A3 e'),by simp[q]⟩;have z:(vg0 h H).get? b=none:=W.hideAll_none (trk h H) hm;rw[z] at e;cases e
structure Mod(K:W.Frag)(mg:Str->Option Value)(base:Heap):Prop where
 kin:K.In base
 glob:base.Ns mainGlobals mg
 blt:∃mb,base.Ns builtinsNs mb/\∀x:Str,x ≠"__name__"->mb x=bootBuiltins x
 nolimit:base.NoLimit
structure Cx where
 prog:Program
 w:World
 K:W.Frag
 mg:Str->Option Value
 base:Heap
 A:Around
 N:List Str
 s₀:Shared
 H₀:Hp
 env:Env
 outer:List Env
 stack:List Env
 ex:List Addr
 fn:Str->Bool
 calm:Bool
 pn:List (Addr×Obj)
 xe:Value->Shared->Prop
variable{X:L2.Cx}
def frs(l:List Env):List Addr:=l.filterMap (·.frame)
abbrev Cx.fs(X:Cx):List Addr:=frs X.outer
def Vis(sc:Scope)(x:Str):Prop:=sc.names.lookup x=some .local∨sc.names.lookup x=some .cell∨sc.names.lookup x=some .free
def Loc(sc:Scope)(x:Str):Prop:=sc.names.lookup x=some .local∨sc.names.lookup x=some .cell
def Look(env:Env)(h:Heap)(m:Str->Option Value)(x:Str)(u:Value):Prop :=
 (env.kindOf x=some .local/\m x=some u)∨((env.kindOf x=some .cell∨env.kindOf x=some .free)/\∃c,env.cells.lookup x=some c/\h.IsCell c (some u))
structure Cx.Ok(X:Cx):Prop where
 mod:Mod X.K X.mg X.base
 kind:X.env.scope.kind=.function
 glob:X.env.globals=mainGlobals
 blt:X.env.builtins=builtinsNs
 above:X.s₀.heap.objs.size<=X.env.locals
 inj:∀x y c,X.env.cells.lookup x=some c->X.env.cells.lookup y=some c->x=y
 has:∀x,(X.env.kindOf x=some .cell∨X.env.kindOf x=some .free)->∃c,X.env.cells.lookup x=some c
 cab:∀x c,X.fn x=true->X.env.cells.lookup x=some c->X.s₀.heap.objs.size<=c
 hd:X.calm=true->X.A.handled=none
 frames:X.A.frames=some X.stack
 stk:X.stack=X.outer∨(X.stack=X.env::X.outer/\X.env.frame=some X.env.locals)
 exf:∀b∈X.ex,b≠X.env.locals/\∀x c,X.env.cells.lookup x=some c->c≠b
 bs:∀b o,X.base.get? b=some o->X.s₀.heap.get? b=some o/\X.H₀ b=none
 bsz:X.base.objs.size<=X.s₀.heap.objs.size
 noex:∀b o,X.base.get? b=some o->b∉X.ex
 exfs:∀b∈X.ex,b∉X.fs
 funs:X.s₀.heap.FunFrames X.base X.outer
 frf:∀b∈X.fs,X.H₀ b=none
structure Inv(X:Cx)(pins:List (Addr×Obj))(σ:List (Option V))(H:Hp)(s:Shared):Prop where
 ok:X.Ok
 os:s.os=X.s₀.os
 bare:AllBare s.gens
 base:Un X.fs X.ex X.H₀ H X.s₀.heap s.heap
 loc:∃m,s.heap.Ns X.env.locals m/\∀(i:Nat) (x:Str) (v:V),X.N[i]?=some x->σ[i]?=some (some v)->Vis X.env.scope x->∃u,RelV v u/\Look X.env s.heap m x u
 cell:∀x c,X.env.cells.lookup x=some c->∃v,s.heap.IsCell c v
 free:H X.env.locals=none
 freeC:∀x c,X.env.cells.lookup x=some c->H c=none
 pin:∀p∈X.pn++pins,s.heap.get? p.1=some p.2/\H p.1=none/\p.1≠X.env.locals/\p.1∉X.fs/\∀v,p.2.data≠.cell v
 hok:HOk X.prog X.w H s.heap
 len:σ.length=X.N.length
section
variable{s:Shared}
theorem Cx.Ok.nofr(ok:X.Ok){b:Addr}{o:Obj}(e:X.base.get? b=some o):b∉X.fs:=λhb=>by
 have:=(ok.funs.mem hb).1;rw[e] at this;cases this
theorem Inv.bs(I:Inv X pins σ H s):∀b o,X.base.get? b=some o->s.heap.get? b=some o/\H b=none:=λb o e =>
 ⟨I.base.keep b o (I.ok.bs b o e).1 (I.ok.bs b o e).2 (I.ok.nofr e) (I.ok.noex b o e),I.base.free b o (I.ok.bs b o e).1 (I.ok.bs b o e).2 (I.ok.noex b o e)⟩
theorem Inv.bk(I:Inv X pins σ H s):∀b o,X.base.get? b=some o->s.heap.get? b=some o:=λb o e=>(I.bs b o e).1
theorem Inv.mod(I:Inv X pins σ H s):Mod X.K X.mg X.base:=I.ok.mod
theorem Inv.kIn(I:Inv X pins σ H s):X.K.In s.heap:=I.ok.mod.kin.keeps I.bk
theorem Inv.nolimit(I:Inv X pins σ H s):s.heap.NoLimit:=I.ok.mod.nolimit.keeps I.bk
theorem Inv.lt(I:Inv X pins σ H s):X.env.locals<s.heap.objs.size:=let ⟨_,hn,_⟩:=I.loc;hn.lt
theorem Inv.sz(I:Inv X pins σ H s):X.s₀.heap.objs.size<=s.heap.objs.size:=C3 I.ok.above (E3 I.lt)
theorem Inv.nofs(I:Inv X pins σ H s)(h:s.heap.objs.size<=a):a∉X.fs:=λhb=>by
 obtain⟨_,o,ho,_⟩:=I.ok.funs.mem hb;exact absurd (A9 (A3 ho) (C3 I.sz h)) (C9 _)
theorem Inv.cne(I:Inv X pins σ H s):∀x c,X.env.cells.lookup x=some c->c≠X.env.locals:=λx c e z=>by
 obtain⟨v,o,ho,hd⟩:=I.cell x c e;obtain⟨m,⟨o',es,ep,J,O,_⟩,_⟩:=I.loc;rw[z,J] at ho;cases ho;rw[O] at hd;cases hd
theorem Inv.funs(I:Inv X pins σ H s):s.heap.FunFrames X.base X.outer:=by
 have all:∀(l:List Env),(∀b∈frs l,b∈X.fs)->X.s₀.heap.FunFrames X.base l->s.heap.FunFrames X.base l:=by
  intro l
  induction l with
  | nil=>intro _ _;trivial
  | cons env r ih =>
   intro hs hl;obtain⟨hk,⟨L,o,hf,hn,ho,hd⟩,hr⟩:=hl;have hL:L∈X.fs:=hs L (by unfold frs;rw[List.filterMap_cons,hf];exact A8);obtain⟨sl,e⟩:=I.base.slot L o ho (I.ok.frf L hL) hL λz=>I.ok.exfs L z hL
   exact⟨hk,⟨L,_,hf,hn,e,hd⟩,ih (λb hb=>hs b (by unfold frs;rw[List.filterMap_cons,hf];exact A5 _ hb)) hr⟩
 exact all X.outer (λ_ hb=>hb) I.ok.funs
theorem Inv.stack(I:Inv X pins σ H s):s.heap.FunFrames X.base X.stack:=by
 rcases I.ok.stk with e|⟨e,hf⟩
 ·rw[e];exact I.funs
 ·rw[e]
  obtain⟨m,hn,_⟩:=I.loc;refine .cons (by rw[I.ok.kind];decide) hf hn ?_ I.funs;exact u8 (C3 I.ok.bsz I.ok.above)
theorem Inv.stkSub(I:Inv X pins σ H s):∀b∈frs X.stack,b∈X.env.locals::X.fs:=λb hb=>by
 rcases I.ok.stk with e|⟨e,hf⟩
 ·rw[e] at hb;exact A5 _ hb
 ·rw[e] at hb
  unfold frs at hb;rw[List.filterMap_cons,hf] at hb;exact hb
theorem Inv.stkFree(I:Inv X pins σ H s):∀b∈frs X.stack,H b=none:=λb hb=>by
 rcases B0.mp (I.stkSub b hb) with e|hb
 ·rw[e];exact I.free
 ·obtain⟨_,o,ho,_⟩:=I.ok.funs.mem hb
  exact I.base.free b o ho (I.ok.frf b hb) λz=>I.ok.exfs b z hb
theorem Inv.step{g':Array GenState}{t':Nat}{d':Drawn}{ch:List Addr}(I:Inv X pins σ H s)
  (hch:∀b∈ch,(b∈X.ex∨X.s₀.heap.objs.size<=b)/\b≠X.env.locals/\(∀x c,X.env.cells.lookup x=some c->c≠b)/\∀p∈X.pn++pins,p.1≠b)
  (keep:∀b o,b≠X.env.locals->b∉X.fs->b∉ch->s.heap.get? b=some o->H b=none->h'.get? b=some o)
  (slot:∀b o,b≠X.env.locals->b∈X.fs->b∉ch->s.heap.get? b=some o->H b=none->∃sl,h'.get? b=some { o with slots:=sl }) (free:∀b o,b∉ch->s.heap.get? b=some o->H b=none->H' b=none)
  (there:∀b o,b∉ch->s.heap.get? b=some o->∃o',h'.get? b=some o')
  (tups:∀b xs,H b=some (.tup xs)->H' b=some (.tup xs)) (frzs:∀b o u,H b=some (.frz o u)->H' b=some (.frz o u)) (tbls:∀b ps,H b=some (.tbl ps)->∃more,H' b=some (.tbl (ps++more)))
  (ns:∀m,s.heap.Ns X.env.locals m->h'.Ns X.env.locals m) (hok:HOk X.prog X.w H' h') (hg:AllBare g') :
  Inv X pins σ H' { s with heap:=h',gens:=g',drawn:=d',toks:=t' }:=by
 have Z:∀b o,X.s₀.heap.get? b=some o->b≠X.env.locals:=λb o e=>A6 (A9 (A3 e) I.ok.above)
 have O:∀b o,X.s₀.heap.get? b=some o->b∉X.ex->b∉ch:=λb o e hx hb=>by
  rcases (hch b hb).1 with z|z
  ·exact hx z
  ·exact absurd (A9 (A3 e) z) (C9 _)
 have Y:∀x c,X.env.cells.lookup x=some c->∀v,s.heap.IsCell c v->h'.IsCell c v:=λx c e v ⟨o,ho,hd⟩=>by
  have J:c∉ch:=λz=>(hch c z).2.2.1 x c e rfl
  by_cases hc:c∈X.fs
  ·obtain⟨sl,q⟩:=slot c o (I.cne x c e) hc J ho (I.freeC x c e)
   exact⟨_,q,hd⟩
  ·exact⟨o,keep c o (I.cne x c e) hc J ho (I.freeC x c e),hd⟩
 refine⟨I.ok,I.os,hg,⟨λb o e n hb hx=>?_,λb o e n hb hx=>?_,λb o e n hx=>?_,λb o e hx=>?_,λb xs e=>tups b xs (I.base.tups b xs e),λb o xs e=>frzs b o xs (I.base.frzs b o xs e),λb ps e=>?_⟩,?_,λx c e=>?_,?_,λx c e=>?_,λp hp=>?_,hok,I.len⟩
 ·exact keep b o (Z b o e) hb (O b o e hx) (I.base.keep b o e n hb hx) (I.base.free b o e n hx)
 ·obtain⟨sl,e1⟩:=I.base.slot b o e n hb hx
  obtain⟨a1,e2⟩:=slot b _ (Z b o e) hb (O b o e hx) e1 (I.base.free b o e n hx);exact⟨a1,e2⟩
 ·obtain⟨o',e1⟩:=I.base.there b o e hx
  exact free b o' (O b o e hx) e1 (I.base.free b o e n hx)
 ·obtain⟨o',e1⟩:=I.base.there b o e hx
  exact there b o' (O b o e hx) e1
 ·obtain⟨m1,e1⟩:=I.base.tbls b ps e
  obtain⟨m2,e2⟩:=tbls b _ e1;exact⟨m1++m2,by rw[e2,Array.append_assoc]⟩
 ·obtain⟨m,hn,hl⟩:=I.loc
  refine⟨m,ns m hn,λi x v e1 e2 e3=>?_⟩;obtain⟨u,r,l⟩:=hl i x v e1 e2 e3;refine⟨u,r,?_⟩;rcases l with l|⟨k,c,e,z⟩
  ·exact .inl l
  ·exact .inr ⟨k,c,e,Y x c e _ z⟩
 ·obtain⟨v,z⟩:=I.cell x c e
  exact⟨v,Y x c e v z⟩
 ·obtain⟨m,⟨o,_,_,ho,_⟩,_⟩:=I.loc
  exact free _ o (λz=>(hch _ z).2.1 rfl) ho I.free
 ·obtain⟨v,o,ho,hd⟩:=I.cell x c e
  exact free c o (λz=>(hch c z).2.2.1 x c e rfl) ho (I.freeC x c e)
 ·obtain⟨e,n,ne,nf,d⟩:=I.pin p hp
  have J:p.1∉ch:=λz=>(hch p.1 z).2.2.2 p hp rfl
  exact⟨keep p.1 p.2 ne nf J e n,free p.1 p.2 J e n,ne,nf,d⟩
theorem Inv.un(I:Inv X pins σ H s)(u:Un X.fs [] H H' s.heap h')(hok:HOk X.prog X.w H' h'):Inv X pins σ H' { s with heap:=h',toks:=t' }:=by
 obtain⟨m,⟨o,es,ep,ho,r⟩,_⟩:=id I.loc;obtain⟨sl,hL⟩:=u.any ho I.free (by simp);exact I.step (g':=s.gens) (d':=s.drawn) (ch:=[]) (λ_ z=>nomatch z) (λb o _ hb _ e n=>u.keep b o e n hb (by simp)) (λb o _ hb _ e n=>u.slot b o e n hb (by simp)) (λb o _ e n=>u.free b o e n (by simp)) (λb o _ e=>u.there b o e (by simp)) u.tups u.frzs u.tbls (λm' hm=>by
  obtain⟨o',Y,O,J,r'⟩:=hm;rw[ho] at J;cases J;exact⟨_,Y,O,hL,r'⟩) hok I.bare
theorem Inv.call{g':Array GenState}{t':Nat}{d':Drawn}(I:Inv X pins σ H s)(u:Un (frs X.stack) ch H H' s.heap h')(hok:HOk X.prog X.w H' h')(hg:AllBare g')
  (hch:∀b∈ch,(b∈X.ex∨X.s₀.heap.objs.size<=b)/\b≠X.env.locals/\(∀x c,X.env.cells.lookup x=some c->c≠b)/\∀p∈X.pn++pins,p.1≠b) :
  Inv X pins σ H' { s with heap:=h',gens:=g',drawn:=d',toks:=t' }:=by
 obtain⟨m,⟨o,es,ep,ho,r⟩,_⟩:=id I.loc;obtain⟨sl,hL⟩:=u.any ho I.free λz=>(hch _ z).2.1 rfl
 exact I.step (ch:=ch) hch (λb o hL hb hc e n=>u.keep b o e n (λz=>(B0.mp (I.stkSub b z)).elim hL hb) hc) (λb o _ _ hc e n=>u.any e n hc) (λb o hc e n=>u.free b o e n hc) (λb o hc e=>u.there b o e hc) u.tups u.frzs u.tbls (λm' hm=>by
  obtain⟨o',Y,O,J,r'⟩:=hm;rw[ho] at J;cases J;exact⟨_,Y,O,hL,r'⟩) hok hg
theorem Inv.turned{t':Nat}(I:Inv X pins σ H s)(k:∀b o,b≠it->s.heap.get? b=some o->h'.get? b=some o)(hn:H it=none)(hL:it≠X.env.locals)
  (h1:it∈X.ex∨X.s₀.heap.objs.size<=it) (h2:∀x c,X.env.cells.lookup x=some c->c≠it) (h3:∀p∈X.pn++pins,p.1≠it):Inv X pins σ H { s with heap:=h',toks:=t' }:=by
 have J:∀b u,H b=some u->b≠it:=λb u e z=>by rw[z,hn] at e;cases e
 refine I.step (g':=s.gens) (d':=s.drawn) (ch:=[it]) (λb hb=>?_) (λb o _ _ hc e _=>k b o (λz=>hc (by simp[z])) e) (λb o _ _ hc e _=>⟨o.slots,k b o (λz=>hc (by simp[z])) e⟩) (λ_ _ _ _ n=>n)
  (λb o hc e=>⟨o,k b o (λz=>hc (by simp[z])) e⟩) (λ_ _ e=>e) (λ_ _ _ e=>e) (λb ps e=>⟨#[],by rw[e];simp⟩) (λm hm=>?_) (λb u e=>?_) I.bare
 ·have e:b=it:=by simpa using hb
  subst e;exact⟨h1,hL,h2,h3⟩
 ·obtain⟨o,es,ep,ho,r⟩:=hm
  exact⟨o,es,ep,k _ o (A4 hL) ho,r⟩
 ·refine(I.hok b u e).stay (λc v hc q=>k c v ?_ q) (λ_ q=>q) (λ_ _ q=>q) λ_ _ _ q=>q
  rcases hc with z|z
  ·rw[z];exact J b u e
  ·exact J c _ z
theorem Inv.tok(I:Inv X pins σ H s)(t:Nat):Inv X pins σ H { s with toks:=t }:=I.un (h':=s.heap) (t':=t) Un.refl I.hok
theorem Inv.kept(I:Inv X pins σ H s)(k:∀b u,s.heap.get? b=some u->h'.get? b=some u):Inv X pins σ H { s with heap:=h',toks:=t' }:=I.un (Un.kept k) (I.hok.kept k)
theorem Inv.laid{o:HO}{t':Nat}(I:Inv X pins σ H s)(k:∀b u,s.heap.get? b=some u->h'.get? b=some u)(hp:s.heap.objs.size<=a)(new:ObjOk X.prog X.w (upd H a o) h' a o) :
  Inv X pins σ (upd H a o) { s with heap:=h',toks:=t' }:=I.un (Un.laid k hp (I.hok.fresh hp)) (I.hok.laid k hp new)
theorem Inv.write{x e:Addr}{o:HO}{t':Nat}(I:Inv X pins σ H s)(mu:Mut (H x))(he:e=x∨H e=some (.own x))(k:∀b u,b≠e->s.heap.get? b=some u->h'.get? b=some u)(heo:∃u,h'.get? e=some u)
  (new:ObjOk X.prog X.w (upd H x o) h' x o):Inv X pins σ (upd H x o) { s with heap:=h',toks:=t' }:=I.un (Un.write mu he k heo) (I.hok.write mu he k heo new)
theorem Inv.weak{σ':List (Option V)}(I:Inv X pins σ H s)(hl:σ'.length=σ.length)(w:∀(i:Nat) v,σ'[i]?=some (some v)->σ[i]?=some (some v)):Inv X pins σ' H s :=
 ⟨I.ok,I.os,I.bare,I.base,let ⟨m,hn,hl'⟩:=I.loc;⟨m,hn,λi x v e1 e2 e3=>hl' i x v e1 (w i v e2) e3⟩,I.cell,I.free,I.freeC,I.pin,I.hok,hl.trans I.len⟩
theorem Inv.pins_of{pins':List (Addr×Obj)}(I:Inv X pins σ H s)(h:∀p∈pins',s.heap.get? p.1=some p.2/\H p.1=none/\p.1≠X.env.locals/\p.1∉X.fs/\∀v,p.2.data≠.cell v):Inv X pins' σ H s :=
 ⟨I.ok,I.os,I.bare,I.base,I.loc,I.cell,I.free,I.freeC,λp hp=>(B4.mp hp).elim (λz=>I.pin p (D7 _ z)) (h p),I.hok,I.len⟩
theorem sp0(hN:N.Nodup)(a:N[i]?=some x)(b:N[j]?=some x):i=j:=by
 obtain⟨h1,e1⟩:=C4.mp a;obtain⟨h2,e2⟩:=C4.mp b;exact(List.getElem_inj hN).mp (e1.trans e2.symm)
theorem od0{M:Model}{A:Around}{E:Value->Shared->Prop}{Q:Unit->Shared->Prop}(I:Inv X pins σ H s)(hN:X.N.Nodup)(hi:X.N[i]?=some x)(hx:Loc X.env.scope x)(r:RelV v u)
  (h:∀s',Inv X pins (σ.set i (some v)) H s'->(∃a,Heap.SameBut a s.heap s'.heap/\(a=X.env.locals∨X.env.cells.lookup x=some a))->Q () s') (hf:X.fn x=true∨X.env.scope.names.lookup x=some .local:=by first|exact .inl rfl|exact .inr rfl|assumption):wpAny M A (storeName X.env x u) Q E s:=by
 obtain⟨m,hn,hl⟩:=id I.loc;have a3:(X.env.scope.kind==.class||(X.env.scope.kind==.module&&X.env.locals != X.env.globals))=false:=by rw[I.ok.kind];rfl
 have hiσ:i<σ.length:=by rw[I.len];exact(C4.mp hi).1
 have cne:=I.cne;have J:∀{a:Addr} {h':Heap},(∃o,s.heap.get? a=some o/\H a=none)->Heap.SameBut a s.heap h'->HOk X.prog X.w H h':=λ{a h'} ha hs b ob e=>by
  obtain⟨_,_,O⟩:=ha;refine(I.hok b ob e).stay (λc w' hc q=>(hs.2 c ?_).trans q) (λ_ q=>q) (λ_ _ q=>q) λ_ _ _ q=>q
  rintro rfl;rcases hc with rfl|hc
  ·rw[O] at e;cases e
  ·rw[O] at hc;cases hc
 rcases hx with hk|hk
 ·refine wpAny_storeName_local hk hn (λh' a5 hs=>?_) a3
  obtain⟨oL,_,_,a4,_⟩:=id hn;refine h _ ⟨I.ok,I.os,I.bare,⟨λb o e n hb hx=>?_,λb o e n hb hx=>?_,I.base.free,λb o e hx=>?_,I.base.tups,I.base.frzs,I.base.tbls⟩,⟨_,a5,λj y v' e1 e2 e3=>?_⟩,λy c e=>?_,I.free,I.freeC,λp hp=>?_,J ⟨oL,a4,I.free⟩ hs,by simpa using I.len⟩ ⟨_,hs,.inl rfl⟩
  ·exact(hs.2 b (A6 (A9 (A3 e) I.ok.above))).trans (I.base.keep b o e n hb hx)
  ·obtain⟨sl,e1⟩:=I.base.slot b o e n hb hx
   exact⟨sl,(hs.2 b (A6 (A9 (A3 e) I.ok.above))).trans e1⟩
  ·obtain⟨o',e1⟩:=I.base.there b o e hx
   exact⟨o',(hs.2 b (A6 (A9 (A3 e) I.ok.above))).trans e1⟩
  ·by_cases hj:j=i
   ·subst hj
    rw[hi] at e1;cases e1;rw[List.getElem?_set_self hiσ] at e2;cases e2;exact⟨u,r,.inl ⟨hk,by simp⟩⟩
   ·rw[List.getElem?_set_ne (A4 hj)] at e2
    obtain⟨u',r',q⟩:=hl j y v' e1 e2 e3;refine⟨u',r',?_⟩;rcases q with⟨k,e⟩|⟨k,c,e,z⟩
    ·refine .inl ⟨k,?_⟩
     have:y≠x:=λe=>hj (sp0 hN e1 (e▸hi))
     simp[this,e]
    ·exact .inr ⟨k,c,e,z.sameBut hs (cne y c e)⟩
  ·obtain⟨w',z⟩:=I.cell y c e
   exact⟨w',z.sameBut hs (cne y c e)⟩
  ·obtain⟨e,n,ne,nf,d⟩:=I.pin p hp
   exact⟨(hs.2 p.1 ne).trans e,n,ne,nf,d⟩
 ·have Y:X.fn x=true:=by
   rcases hf with z|z
   ·exact z
   ·rw[z] at hk;cases hk
  obtain⟨c,hc⟩:=I.ok.has x (.inl hk);obtain⟨w',z⟩:=I.cell x c hc;refine wpAny_storeName_cell I.ok.kind hk hc z (λh' a1 hs=>?_);obtain⟨oc,Z,a2⟩:=id z;refine h { s with heap:=h' } ⟨I.ok,I.os,I.bare,⟨λb o e n hb hx=>?_,λb o e n hb hx=>?_,I.base.free,λb o e hx=>?_,I.base.tups,I.base.frzs,I.base.tbls⟩,⟨m,hn.sameBut hs (A4 (cne x c hc)),λj y v' e1 e2 e3=>?_⟩,λy c' e=>?_,I.free,I.freeC,λp hp=>?_,J ⟨oc,Z,I.freeC x c hc⟩ hs,by simpa using I.len⟩ ⟨c,hs,.inr hc⟩
  ·exact(hs.2 b (A6 (A9 (A3 e) (I.ok.cab x c Y hc)))).trans (I.base.keep b o e n hb hx)
  ·obtain⟨sl,e1⟩:=I.base.slot b o e n hb hx
   exact⟨sl,(hs.2 b (A6 (A9 (A3 e) (I.ok.cab x c Y hc)))).trans e1⟩
  ·obtain⟨o',e1⟩:=I.base.there b o e hx
   exact⟨o',(hs.2 b (A6 (A9 (A3 e) (I.ok.cab x c Y hc)))).trans e1⟩
  ·by_cases hj:j=i
   ·subst hj
    rw[hi] at e1;cases e1;rw[List.getElem?_set_self hiσ] at e2;cases e2;exact⟨u,r,.inr ⟨.inl hk,c,hc,a1⟩⟩
   ·rw[List.getElem?_set_ne (A4 hj)] at e2
    obtain⟨u',r',q⟩:=hl j y v' e1 e2 e3;refine⟨u',r',?_⟩;rcases q with q|⟨k,c',e,z'⟩
    ·exact .inl q
    ·refine .inr ⟨k,c',e,z'.sameBut hs ?_⟩
     rintro rfl;exact hj (sp0 hN e1 (I.ok.inj _ _ _ e hc▸hi))
  ·by_cases hcc:c'=c
   ·subst hcc;exact⟨_,a1⟩
   ·obtain⟨w2,z2⟩:=I.cell y c' e
    exact⟨w2,z2.sameBut hs hcc⟩
  ·obtain⟨e,n,ne,nf,d⟩:=I.pin p hp
   refine⟨(hs.2 p.1 ?_).trans e,n,ne,nf,d⟩;intro q;rw[q,Z] at e;have q':oc=p.2:=B6 e;exact d w' (by rw[← q'];exact a2)
theorem u80{M:Model}{A:Around}{E:Value->Shared->Prop}{Q:Unit->Shared->Prop}(I:Inv X pins σ H s)(hN:X.N.Nodup)(hi:X.N[i]?=some x)(hx:Loc X.env.scope x)(r:RelV v u)
  (h:∀s',Inv X pins (σ.set i (some v)) H s'->Q () s') (hf:X.fn x=true∨X.env.scope.names.lookup x=some .local:=by first|exact .inl rfl|exact .inr rfl|assumption):wpAny M A (storeName X.env x u) Q E s :=
 od0 I hN hi hx r (λs' I' _=>h s' I') hf
theorem Inv.call'(I:Inv X pins σ H s)(ho:s'.os=s.os)(u:Un (frs X.stack) ch H H' s.heap s'.heap)(hok:HOk X.prog X.w H' s'.heap)(hg:AllBare s'.gens)
  (hch:∀b∈ch,(b∈X.ex∨X.s₀.heap.objs.size<=b)/\b≠X.env.locals/\(∀x c,X.env.cells.lookup x=some c->c≠b)/\∀p∈X.pn++pins,p.1≠b):Inv X pins σ H' s':=by
 obtain⟨h',g',d',t',o'⟩:=s';have e:o'=s.os:=ho;subst e;exact I.call (g':=g') (t':=t') (d':=d') u hok hg hch
end
abbrev XK:=Value->Option Addr->Hp->Prop
abbrev St:=List (Option V)
abbrev VK:=V->Hp->Prop
abbrev TE:=St->Hp->VK->Prop
variable{r:List L2.V->L2.Hp->L2.VK->Prop}
abbrev TT:=St->Hp->(Bool->Hp->Prop)->Prop
variable{ta tb te ty:L2.TE}
abbrev TA:=St->Hp->(List V->Hp->Prop)->Prop
structure Ends where
 nx:St->Hp->Prop
 rt:VK
 bk:St->Hp->Prop:=λ_ _=>False
 ct:St->Hp->Prop:=λ_ _=>False
abbrev TS:=Ends->St->Hp->Prop
def EP(X:Cx)(pins:List (Addr×Obj))(σ:St)(Q:VK)(u:Value)(s':Shared):Prop:=∃v H',Inv X pins σ H' s'/\RelV v u/\Q v H'
def TP(X:Cx)(pins:List (Addr×Obj))(σ:St)(Q:Bool->Hp->Prop)(b:Bool)(s':Shared):Prop:=∃H',Inv X pins σ H' s'/\Q b H'
def AP(X:Cx)(pins:List (Addr×Obj))(σ:St)(Q:List V->Hp->Prop)(us:List Value)(s':Shared):Prop:=∃vs H',Inv X pins σ H' s'/\Vals vs us/\Q vs H'
def SP(X:Cx)(pins:List (Addr×Obj))(D:Ends)(f:Flow)(s':Shared):Prop :=
 match f with
 | .next=>∃σ' H',Inv X pins σ' H' s'/\D.nx σ' H'
 | .brk=>∃σ' H',Inv X pins σ' H' s'/\D.bk σ' H'
 | .cont=>∃σ' H',Inv X pins σ' H' s'/\D.ct σ' H'
 | .ret u=>∃v σ' H',Inv X pins σ' H' s'/\RelV v u/\D.rt v H'
def PE(X:Cx)(e:Expr)(t:TE):Prop :=
 ∀(pins:List (Addr×Obj)) (s:Shared) (σ:St) (H:Hp) (Q:VK),Inv X pins σ H s->t σ H Q->wpAny (model X.prog X.w) X.A (eval e X.env) (EP X pins σ Q) X.xe s
def PT(X:Cx)(e:Expr)(t:TT):Prop :=
 ∀(pins:List (Addr×Obj)) (s:Shared) (σ:St) (H:Hp) (Q:Bool->Hp->Prop),Inv X pins σ H s->t σ H Q->wpAny (model X.prog X.w) X.A (isTrue e X.env (eval e X.env)) (TP X pins σ Q) X.xe s
def PW(X:Cx)(e:Expr)(t:TT):Prop :=
 ∀(whole:Sem Value) (pins:List (Addr×Obj)) (s:Shared) (σ:St) (H:Hp) (Q:Bool->Hp->Prop),Inv X pins σ H s->t σ H Q->wpAny (model X.prog X.w) X.A (isTrue e X.env whole) (TP X pins σ Q) X.xe s
theorem PW.pt{t:TT}(h:PW X e t):PT X e t:=h _
def PA(X:Cx)(es:List Expr)(t:TA):Prop :=
 ∀(pos:Pos) (pins:List (Addr×Obj)) (s:Shared) (σ:St) (H:Hp) (Q:List V->Hp->Prop),Inv X pins σ H s->t σ H Q->wpAny (model X.prog X.w) X.A (spliced (backTo pos (starEach es X.env))) (AP X pins σ Q) X.xe s
def PS(X:Cx)(st:Stmt)(t:TS):Prop :=
 ∀(pins:List (Addr×Obj)) (s:Shared) (σ:St) (H:Hp) (D:Ends),Inv X pins σ H s->t D σ H->wpAny (model X.prog X.w) X.A (exec st X.env) (SP X pins D) X.xe s
def PSs(X:Cx)(st:List Stmt)(t:TS):Prop :=
 ∀(pins:List (Addr×Obj)) (s:Shared) (σ:St) (H:Hp) (D:Ends),Inv X pins σ H s->t D σ H->wpAny (model X.prog X.w) X.A (execs st X.env) (SP X pins D) X.xe s
theorem thn{t:Sem α}{Q Q':α->Shared->Prop}{M:Model}{A:Around}{s:Shared}(h:wpAny M A t Q E s)(hQ:∀a s,Q a s->Q' a s):wpAny M A t Q' E s:=C5 h hQ λ_ _ x=>x
section
def Uo0(i:Nat):TE:=fun σ H Q=>∃v,σ[i]?=some (some v)/\Q v H
def tC(v:V):TE:=λ_ H Q=>Q v H
theorem zh0(hN:X.N[i]?=some x)(hv:Vis X.env.scope x)(hd:(x==("__debug__" : Str))=false:=by decide)(hcd:(x==("__classdict__" : Str))=false:=by decide):PE X (.Name x pos) (Uo0 i):=by
 intro pins s σ H Q I h;obtain⟨v,e,h⟩:=h;obtain⟨m,hn,hl⟩:=I.loc;obtain⟨u,r,l⟩:=hl i x v hN e hv;have O:EP X pins σ Q u s:=⟨v,H,I,r,h⟩;rcases l with⟨hk,hm⟩|⟨hk,c,hc,J⟩
 ·exact N0 (g5 I.ok.kind hk hn hm O) hd
 ·rcases hk with hk|hk
  ·exact N0 (wpAny_loadName_cell I.ok.kind hk hc J O) hd
  ·exact N0 (wpAny_loadName_free I.ok.kind hk hc J O hcd) hd
theorem fe0{i j pos}:PE X (.Constant (.int i) j pos) (tC (.int i)):=λ_ _ _ H _ I h=>wpAny_Constant_int ⟨.int i,H,I.tok _,⟨_,rfl⟩,h⟩
theorem Vm0{b j pos}:PE X (.Constant (.bool b) j pos) (tC (.bl b)):=λ_ _ _ H _ I h=>Constant_bool ⟨.bl b,H,I,rfl,h⟩
theorem W10{j pos}:PE X (.Constant .none j pos) (tC .non):=λ_ _ _ H _ I h=>Constant_none ⟨.non,H,I,rfl,h⟩
theorem X10{x j pos}:PE X (.Constant (.str x) j pos) (tC (.str x)):=λ_ _ _ H _ I h=>Calls.Constant_str ⟨.str x,H,I.tok _,⟨_,rfl⟩,h⟩
def Gl(X:Cx)(x:Str):Prop:=X.env.kindOf x=some .globalImplicit
theorem xb0{E:Value->Shared->Prop}{s:Shared}{σ:St}{pos:Pos}(I:Inv X pins σ H s)(hg:Gl X x)(hm:X.mg x=some u)(h:Q u s)
  (hd:(x==("__debug__" : Str))=false:=by decide):wpAny (model X.prog X.w) X.A (eval (.Name x pos) X.env) Q E s :=
 w8 I.ok.kind hg (Calls.loadGlobal_global (by rw[I.ok.glob];exact I.mod.glob.keeps I.bk) hm h) hd
theorem y00{E:Value->Shared->Prop}{s:Shared}{σ:St}{pos:Pos}(I:Inv X pins σ H s)(hg:Gl X x)(hm:X.mg x=none)(hv:bootBuiltins x=some u)(h:Q u s)
  (hn:x ≠"__name__" := by decide) (hd:(x==("__debug__" : Str))=false:=by decide):wpAny (model X.prog X.w) X.A (eval (.Name x pos) X.env) Q E s:=by
 obtain⟨mb,h1,h2⟩:=I.mod.blt;exact w8 I.ok.kind hg (Calls.loadGlobal_builtin (by rw[I.ok.glob];exact I.mod.glob.keeps I.bk) hm (by rw[I.ok.blt];exact h1.keeps I.bk) ((h2 x hn).trans hv) h) hd
theorem p90(hg:Gl X x)(hm:X.mg x=some u)(r:RelV v u)(hd:(x==("__debug__" : Str))=false:=by decide):PE X (.Name x pos) (tC v) :=
 λ_ _ _ H _ I h=>xb0 I hg hm ⟨v,H,I,r,h⟩ hd
theorem b40(hg:Gl X x)(hm:X.mg x=none)(hv:bootBuiltins x=some u)(r:RelV v u)(hn:x ≠"__name__" := by decide)(hd:(x==("__debug__" : Str))=false:=by decide):PE X (.Name x pos) (tC v) :=
 λ_ _ _ H _ I h=>y00 I hg hm hv ⟨v,H,I,r,h⟩ hn hd
variable{a:Expr}
def PC(X:Cx)(op:CmpOp)(a b:Expr)(t:TE):Prop :=
 ∀(pins:List (Addr×Obj)) (s:Shared) (σ:St) (H:Hp) (Q:VK),Inv X pins σ H s->t σ H Q ->
  wpAny (model X.prog X.w) X.A (eval a X.env) (λv s₁=>wpAny (model X.prog X.w) X.A (eval b X.env) (λu s₂=>wpAny (model X.prog X.w) X.A (compareOp op v u) (EP X pins σ Q) X.xe s₂) X.xe s₁) X.xe s
def tB(t:TE):TT:=fun σ H Q=>t σ H λx H1=>∃c,x=.bl c/\Q c H1
theorem X60{op:CmpOp}{t:TE}(h:PC X op a b t)(h1:behindInMarks op b=false:=by first|exact nobehind _ (by decide) (by decide)|rfl):PT X (.Compare a [op] [b] pos) (tB t):=by
 intro pins s σ H Q I hw;refine x4 (thn (h pins s σ H _ I hw) λv s1 h1=>thn h1 λu s2 h2=>thn h2 λc s3 ⟨x,H1,I1,r1,q1⟩=>?_) h1;obtain⟨d,rfl,q⟩:=q1;cases r1;exact L5 ⟨H1,I1,q⟩
theorem Y80{t:TE}(h:PE X e t)(he:∀whole,isTrue e X.env whole=(do let v ← whole;standAt e.pos;holding [v] (truthy v)):=by intro _;rfl):PT X e (tB t):=by
 intro pins s σ H Q I hw;refine isTrue_plain (thn (h pins s σ H _ I hw) λv s1 ⟨x,H1,I1,r1,q1⟩=>?_) (he _);obtain⟨d,rfl,q⟩:=q1;cases r1;exact L5 ⟨H1,I1,q⟩
variable{tA tB':TT}{rest:List Expr}
def tOr(t u:TT):TT:=fun σ H Q=>t σ H λc H1=>if c=true then Q true H1 else u σ H1 Q
def Vr0(t:TT):TT:=fun σ H Q=>t σ H λc H1=>Q (!c) H1
theorem Zq0(ha:PT X a tA):PW X (.BoolOp .Or [a] pos) tA:=by
 intro wh pins s σ H Q I h;refine isTrue_or (thn (ha pins s σ H Q I h) λc s1 e=>?_);cases c with
 | false=>exact isTrue_or_nil e
 | true=>exact e
theorem Wq0(ha:PT X a tA)(hb:PW X (.BoolOp .Or (b::rest) pos) tB'):PW X (.BoolOp .Or (a::b::rest) pos) (tOr tA tB'):=by
 intro wh pins s σ H Q I h;refine isTrue_or (thn (ha pins s σ H _ I h) λc s1 ⟨H1,I1,q1⟩=>?_);cases c with
 | true=>exact⟨H1,I1,q1⟩
 | false=>exact hb wh pins s1 σ H1 Q I1 q1
theorem Ye0(ha:PT X a tA):PT X (.UnaryOp .Not a pos) (Vr0 tA):=by
 intro pins s σ H Q I h;exact isTrue_not (ha pins s σ H (λc H1=>Q (!c) H1) I h)
def Wm0(ta tb:TE):TE:=fun σ H Q=>ta σ H λx H1=>∃c,x=.bl c/\if c=true then tb σ H1 Q else Q (.bl false) H1
def Vd0(ta:TE):TE:=fun σ H Q=>ta σ H λx H1=>∃c,x=.bl c/\Q (.bl (!c)) H1
theorem Yk0{op}{t:TE}(h:PE X a t):PE X (.BoolOp op [a] pos) t:=λpins s σ H Q I hw=>BoolOp_one (h pins s σ H Q I hw)
theorem Yt0(ha:PE X a ta)(hb:PE X (.BoolOp .And (b::rest) pos) tb):PE X (.BoolOp .And (a::b::rest) pos) (Wm0 ta tb):=by
 intro pins s σ H Q I h;refine BoolOp_and (thn (ha pins s σ H _ I h) λv s1 ⟨x,H1,I1,r1,q1⟩=>?_);obtain⟨c,rfl,q1⟩:=q1;cases r1;refine L5 ?_;cases c with
 | true=>exact hb pins s1 σ H1 Q I1 q1
 | false=>exact⟨.bl false,H1,I1,rfl,q1⟩
theorem Xj0(ha:PE X a ta):PE X (.UnaryOp .Not a pos) (Vd0 ta):=by
 intro pins s σ H Q I h;refine UnaryOp_ (thn (ha pins s σ H _ I h) λv s1 ⟨x,H1,I1,r1,q1⟩=>?_);obtain⟨c,rfl,q1⟩:=q1;cases r1;exact not_of (L5 ⟨.bl (!c),H1,I1,rfl,q1⟩)
def tIf(t:TT)(ta tb:TE):TE:=fun σ H Q=>t σ H λc H1=>if c=true then ta σ H1 Q else tb σ H1 Q
theorem dw0(hc:PT X c tA)(ha:PE X a ta)(hb:PE X b tb):PE X (.IfExp c a b pos) (tIf tA ta tb):=by
 intro pins s σ H Q I h;refine wpAny_IfExp (thn (hc pins s σ H _ I h) λd s1 ⟨H1,I1,q1⟩=>?_);cases d with
 | true=>exact ha pins s1 σ H1 Q I1 q1
 | false=>exact hb pins s1 σ H1 Q I1 q1
end
def SqL(K:W.Frag)(H:Hp)(a:Addr)(xs:List V):Prop :=
 Rd H a (.lst xs) ∨
  ∃(o:Obj) (its:Array Value) (n:Nat),K.lookup a=some o/\o.cls=.type "list"/\o.dict=none/\o.data=.seq its n/\its.size<=sizeLine/\Vals xs its.toList
def SqT(K:W.Frag)(H:Hp)(a:Addr)(xs:List V):Prop :=
 Rd H a (.tup xs) ∨
  ∃(o:Obj) (its:Array Value) (n:Nat),K.lookup a=some o/\o.cls=.type "tuple"/\o.data=.seq its n/\its.size<=sizeLine/\Vals xs its.toList
def Ua0:Value->Option V
 | .none=>some .non
 | .bool b=>some (.bl b)
 | .int i _=>some (.int i)
 | .str x _=>some (.str x)
 | .bytes b _=>some (.byt b)
 | .float b _=>some (.flt b)
 | .ref a=>some (.ref a)
 | .type n=>some (.ty n)
 | _=>none
theorem RelV.abs{x:V}(r:RelV x u):Ua0 u=some x:=by
 cases x with
 | non=>cases r;rfl
 | bl _=>cases r;rfl
 | int _=>obtain⟨t,rfl⟩:=r;rfl
 | str _=>obtain⟨t,rfl⟩:=r;rfl
 | byt _=>obtain⟨t,rfl⟩:=r;rfl
 | flt _=>obtain⟨t,rfl⟩:=r;rfl
 | ref _=>cases r;rfl
 | ty _=>cases r;rfl
theorem RelV.inj{x y:V}(r:RelV x u)(q:RelV y u):x=y:=B6 (r.abs.symm.trans q.abs)
theorem Vals.inj:∀{xs ys:List V} {us:List Value},Vals xs us->Vals ys us->xs=ys
 | _,_,_,.nil,.nil=>rfl
 | _,_,_,.cons r t,.cons r' t'=>by rw[r.inj r',Vals.inj t t']
section
variable{σ:St}{s:Shared}{ys:List V}
theorem Inv.list(I:Inv X pins σ H s)(h:SqL X.K H a xs):∃its:List Value,Vals xs its/\PlainL s.heap a its.toArray/\xs.length<=sizeLine:=by
 rcases h with h|⟨o,its,n,hk,hc,hd,hs,hz,r⟩
 ·obtain⟨z,its,n,r,e⟩:=h.ok I.hok
  exact⟨its,r,⟨_,n,e,rfl,rfl,rfl⟩,z⟩
 ·refine⟨its.toList,r,⟨o,n,I.kIn a o hk,hc,hd,by simpa using hs⟩,?_⟩
  have e:=r.length;simp only[Array.length_toList] at e;omega
theorem Inv.tuple(I:Inv X pins σ H s)(h:SqT X.K H a xs):∃its:List Value,Vals xs its/\IsTup s.heap a its.toArray/\xs.length<=sizeLine:=by
 rcases h with h|⟨o,its,n,hk,hc,hs,hz,r⟩
 ·obtain⟨z,its,r,p⟩:=h.ok I.hok
  exact⟨its,r,p.tup,z⟩
 ·refine⟨its.toList,r,⟨o,I.kIn a o hk,hc,n,by simpa using hs⟩,?_⟩
  have e:=r.length;simp only[Array.length_toList] at e;omega
theorem Inv.list_inj(I:Inv X pins σ H s)(h:SqL X.K H a xs)(h':SqL X.K H a ys):xs=ys:=by
 obtain⟨its,r,⟨o,n,e,_,_,d⟩,_⟩:=I.list h;obtain⟨J,r',⟨o',n',e',_,_,d'⟩,_⟩:=I.list h';rw[e] at e';cases e';rw[d] at d';injection d' with d1 _
 have:its=J:=by simpa using D4 Array.toList d1
 subst this;exact r.inj r'
theorem Inv.tuple_inj(I:Inv X pins σ H s)(h:SqT X.K H a xs)(h':SqT X.K H a ys):xs=ys:=by
 obtain⟨its,r,⟨o,e,_,n,d⟩,_⟩:=I.tuple h;obtain⟨J,r',⟨o',e',_,n',d'⟩,_⟩:=I.tuple h';rw[e] at e';cases e';rw[d] at d';injection d' with d1 _
 have:its=J:=by simpa using D4 Array.toList d1
 subst this;exact r.inj r'
end
abbrev Cx.wish(X:Cx)(E:Value->Shared->Prop):Cx:={ X with xe:=E }
abbrev Cx.nox(X:Cx):Cx:=X.wish λ_ _=>False
theorem Cx.Ok.wish(ok:X.Ok)(E:Value->Shared->Prop):(X.wish E).Ok :=
 ⟨ok.mod,ok.kind,ok.glob,ok.blt,ok.above,ok.inj,ok.has,ok.cab,ok.hd,ok.frames,ok.stk,ok.exf,ok.bs,ok.bsz,ok.noex,ok.exfs,ok.funs,ok.frf⟩
theorem Cx.Ok.unwish(ok:(X.wish E).Ok):X.Ok :=
 ⟨ok.mod,ok.kind,ok.glob,ok.blt,ok.above,ok.inj,ok.has,ok.cab,ok.hd,ok.frames,ok.stk,ok.exf,ok.bs,ok.bsz,ok.noex,ok.exfs,ok.funs,ok.frf⟩
section
variable{σ:St}{s:Shared}
theorem Inv.wish(I:Inv X pins σ H s)(E:Value->Shared->Prop):Inv (X.wish E) pins σ H s:=⟨I.ok.wish E,I.os,I.bare,I.base,I.loc,I.cell,I.free,I.freeC,I.pin,I.hok,I.len⟩
theorem Inv.unwish(I:Inv (X.wish E) pins σ H s):Inv X pins σ H s:=⟨I.ok.unwish,I.os,I.bare,I.base,I.loc,I.cell,I.free,I.freeC,I.pin,I.hok,I.len⟩
theorem SP.unwish{D:Ends}{f:Flow}(h:SP (X.wish E) pins D f s'):SP X pins D f s':=by
 cases f with
 | next=>obtain⟨σ',H',I,q⟩:=h;exact⟨σ',H',I.unwish,q⟩
 | brk=>obtain⟨σ',H',I,q⟩:=h;exact⟨σ',H',I.unwish,q⟩
 | cont=>obtain⟨σ',H',I,q⟩:=h;exact⟨σ',H',I.unwish,q⟩
 | ret u=>obtain⟨v,σ',H',I,r,q⟩:=h;exact⟨v,σ',H',I.unwish,r,q⟩
theorem PSs.nox{st:List Stmt}{t:TS}(h:PSs X.nox st t):PSs X st t:=λpins s σ H D I hw =>
 C5 (h pins s σ H D (I.wish _) hw) (λ_ _ q=>q.unwish) λ_ _ z=>False.elim z
end
section
variable{t u:TS}
def Wk0:TS:=λD σ H=>D.nx σ H
def Vs0(t u:TS):TS:=λD σ H=>t { D with nx:=u D } σ H
theorem pd0:PSs X [] Wk0:=λ_ _ σ H _ I h=>i0 ⟨σ,H,I,h⟩
theorem K3(h1:PS X st t)(h2:PSs X rest u):PSs X (st::rest) (Vs0 t u):=by
 intro pins s σ H D I h;refine wpAny_execs_cons (thn (h1 pins s σ H { D with nx:=u D } I h) λf s1 q=>?_);cases f with
 | next =>
  obtain⟨σ',H',I',q⟩:=q;exact h2 pins s1 σ' H' D I' q
 | ret v=>exact q
 | brk=>exact q
 | cont=>exact q
theorem Inv.quiet{σ:St}{s:Shared}(I:Inv X pins σ H s):interactive X.env=false:=by simp[interactive,I.ok.kind]
def V30(te:TE):TS:=λD σ H=>te σ H λ_ H1=>D.nx σ H1
theorem p00(he:PE X e te)(hs:swapsWith e none pos.line X.env=pure false:=by rfl):PS X (.Expr e pos) (V30 te):=by
 intro pins s σ H D I h;exact wpAny_Expr_any (thn (he pins s σ H _ I h) λv s1 ⟨x,H1,I1,r1,q1⟩=>⟨σ,H1,I1,q1⟩) I.quiet hs
def Uh0(te:TE):TS:=λD σ H=>te σ H D.rt
theorem ll0(he:PE X e te):PS X (.Return (some e) pos) (Uh0 te):=by
 intro pins s σ H D I h;exact wpAny_Return_some (thn (he pins s σ H _ I h) λv s1 ⟨x,H1,I1,r1,q1⟩=>⟨x,σ,H1,I1,r1,q1⟩)
def Ud0(c:TT)(t u:TS):TS:=λD σ H=>c σ H λb H1=>if b=true then t D σ H1 else u D σ H1
theorem cs0{a b:List Stmt}{tc:TT}(hc:PT X c tc)(ha:PSs X a t)(hb:PSs X b u):PS X (.If c a b pos) (Ud0 tc t u):=by
 intro pins s σ H D I h;refine wpAny_If (thn (hc pins s σ H _ I h) λd s1 ⟨H1,I1,q1⟩=>?_);cases d with
 | true=>exact ha pins s1 σ H1 D I1 q1
 | false=>exact hb pins s1 σ H1 D I1 q1
def Ys0:TS:=λ_ _ _=>False
theorem J0{sts:List Stmt}:PSs X sts Ys0:=λ_ _ _ _ _ _ h=>h.elim
end
abbrev TG:=V->St->Hp->(St->Hp->Prop)->Prop
abbrev TGs:=List V->St->Hp->(St->Hp->Prop)->Prop
def PG(X:Cx)(target:Expr)(t:TG):Prop :=
 ∀(pins:List (Addr×Obj)) (s:Shared) (σ:St) (H:Hp) (v:V) (u:Value) (Q:St->Hp->Prop),Inv X pins σ H s->RelV v u->t v σ H Q ->
  wpAny (model X.prog X.w) X.A (assign target X.env u) (λ_ s'=>∃σ' H',Inv X pins σ' H' s'/\Q σ' H') X.xe s
def PGs(X:Cx)(ts:List Expr)(t:TGs):Prop :=
 ∀(pins:List (Addr×Obj)) (s:Shared) (σ:St) (H:Hp) (vs:List V) (us:List Value) (Q:St->Hp->Prop),Inv X pins σ H s->Vals vs us->t vs σ H Q ->
  wpAny (model X.prog X.w) X.A (assignInOrder ((assignEach ts X.env).map (·.2)) us) (λ_ s'=>∃σ' H',Inv X pins σ' H' s'/\Q σ' H') X.xe s
abbrev dn0:=V->V->V->Hp->(Hp->Prop)->Prop
def Xl0(X:Cx)(t:dn0):Prop :=
 ∀(pins:List (Addr×Obj)) (s:Shared) (σ:St) (H:Hp) (o i v:V) (ov iv u:Value) (Q:Hp->Prop),Inv X pins σ H s->RelV o ov->RelV i iv->RelV v u->t o i v H Q ->
  wpAny (model X.prog X.w) X.A (setItem ov iv u) (λ_ s'=>∃H',Inv X pins σ H' s'/\Q H') X.xe s
abbrev TIp:=V->V->Hp->VK->Prop
def PIp(X:Cx)(op:Operator)(t:TIp):Prop :=
 ∀(pins:List (Addr×Obj)) (s:Shared) (σ:St) (H:Hp) (x y:V) (v u:Value) (Q:VK),Inv X pins σ H s->RelV x v->RelV y u->t x y H Q ->
  wpAny (model X.prog X.w) X.A (inplaceOp op v u) (EP X pins σ Q) X.xe s
def Wh0(i:Nat):TG:=λv σ H Q=>Q (σ.set i (some v)) H
theorem zr0(hN:X.N.Nodup)(hi:X.N[i]?=some x)(hx:Loc X.env.scope x)(hf:X.fn x=true∨X.env.scope.names.lookup x=some .local:=by first|exact .inl rfl|exact .inr rfl|assumption):PG X (.Name x pos) (Wh0 i):=by
 intro pins s σ H v u Q I r h;exact wpAny_assign_Name (u80 I hN hi hx r (λs' I'=>⟨_,H,I',h⟩) hf)
def U70:TGs:=λvs σ H Q=>vs=[]/\Q σ H
def V40(t:TG)(u:TGs):TGs:=λvs σ H Q=>∃v r,vs=v::r/\t v σ H fun σ' H'=>u r σ' H' Q
theorem kj0:PGs X [] U70:=by
 intro pins s σ H vs us Q I r h;obtain⟨e,h⟩:=h;subst e;cases r;exact assignInOrder_nil ⟨σ,H,I,h⟩
theorem ws0{t:TG}{u:TGs}(h1:PG X e t)(h2:PGs X es u)
  (hs:(assignEach (e::es) X.env).map (·.2)=assign e X.env::(assignEach es X.env).map (·.2):=by rfl):PGs X (e::es) (V40 t u):=by
 intro pins s σ H vs us Q I r h;obtain⟨v,vr,e1,h⟩:=h;subst e1;cases r with
 | cons r rr =>
  rw[hs];refine assignInOrder_cons (thn (h1 pins s σ H _ _ _ I r h) λ_ s1 ⟨σ1,H1,I1,q1⟩=>?_);exact h2 pins s1 σ1 H1 _ _ Q I1 rr q1
def Uq0(K:W.Frag)(n:Nat)(t:TGs):TG:=λv σ H Q=>∃a xs,v=.ref a/\SqT K H a xs/\xs.length=n/\t xs σ H Q
theorem g80{k:Nat}{t:TGs}{n:Nat}(hc:X.calm=true)(h:PGs X es t)
  (hn:(assignEach es X.env).length=n:=by rfl) (hst:(assignEach es X.env).findIdx? (·.1)=none:=by rfl):PG X (.Tuple es k pos) (Uq0 X.K n t):=by
 intro pins s σ H v u Q I r hw;obtain⟨a,xs,e1,hq,hl,hw⟩:=hw;subst e1;cases r;obtain⟨its,rv,ht,hz⟩:=I.tuple hq;refine assign_Tuple_tuple (I.ok.hd hc) ht (by simp[hn,← hl,rv.length]) hst λh' hx=>?_
 have I1:Inv X pins σ H { s with heap:=h' }:=I.kept (t':=s.toks) λb o e=>hx b o (A6 (A3 e)) e
 exact h pins _ σ H xs _ Q I1 (by simpa using rv) hw
def Uj0(to ti:TE)(t:dn0):TG:=λv σ H Q=>to σ H λo H1=>ti σ H1 λi H2=>t o i v H2 λH3=>Q σ H3
theorem Yi0{i:Expr}{to ti:TE}{t:dn0}(ho:PE X o to)(hi:PE X i ti)(hs:Xl0 X t)
  (ha:∀v,assign (.Subscript o i pos) X.env v=(do
   let ov ← holding [v] (eval o X.env)
   let iv ← holding [v,ov] (eval i X.env)
   standAt pos
   holding [v,ov,iv] (setItem ov iv v)
   release [v,ov,iv] []):=by intro _;rfl):PG X (.Subscript o i pos) (Uj0 to ti t):=by
 intro pins s σ H v u Q I r h;rw[ha];refine A0 (D8 (thn (ho pins s σ H _ I h) λov s1 ⟨x,H1,I1,r1,q1⟩=>?_));refine A0 (D8 (thn (hi pins s1 σ H1 _ I1 q1) λiv s2 ⟨y,H2,I2,r2,q2⟩=>?_));refine A0 (i3 (A0 (D8 (thn (hs pins s2 σ H2 x y v ov iv u _ I2 r1 r2 r q2) λ_ s3 ⟨H3,I3,q3⟩=>?_))));exact wpAny_release ⟨σ,H3,I3,q3⟩
def Vw0(te:TE)(g:TG):TS:=λD σ H=>te σ H λx H1=>g x σ H1 D.nx
theorem t80{tg:Expr}{g:TG}(he:PE X e te)(hg:PG X tg g)(hs:swapsWithSole [tg] e pos.line X.env=pure false:=by rfl)(hw:swappedStores [tg] e X.env=pure none:=by rfl)
  (h1:(assignEach [tg] X.env).map (·.2)=[assign tg X.env]:=by rfl):PS X (.Assign [tg] e pos) (Vw0 te g):=by
 intro pins s σ H D I h;refine wpAny_Assign_stores (thn (he pins s σ H _ I h) λv s1 ⟨x,H1,I1,r1,q1⟩=>?_) hs hw;rw[h1];exact thn (hg pins s1 σ H1 x v _ I1 r1 q1) λ_ s2 q=>q
def U20(i:Nat)(te:TE)(ti:TIp):TS:=λD σ H=>∃x,σ[i]?=some (some x)/\te σ H λy H1=>ti x y H1 λz H2=>D.nx (σ.set i (some z)) H2
theorem Y40{op:Operator}{ti:TIp}{pos':Pos}(hN:X.N.Nodup)(hi:X.N[i]?=some x)(hx:Loc X.env.scope x)(he:PE X e te)(ho:PIp X op ti)(hf:X.fn x=true∨X.env.scope.names.lookup x=some .local:=by first|exact .inl rfl|exact .inr rfl|assumption) :
  PS X (.AugAssign (.Name x pos') op e pos) (U20 i te ti):=by
 intro pins s σ H D I h;obtain⟨v,e1,h⟩:=h;obtain⟨m,hn,hl⟩:=I.loc;have vis:Vis X.env.scope x:=by rcases hx with k|k;exact .inl k;exact .inr (.inl k)
 obtain⟨u,r,l⟩:=hl i x v hi e1 vis;refine wpAny_AugAssign_Name ?_;have go:wpAny (model X.prog X.w) X.A (eval e X.env) (λw s₂=>wpAny (model X.prog X.w) X.A (inplaceOp op u w) (λr s₃=>wpAny (model X.prog X.w) X.A (storeName X.env x r) (λ_=>SP X pins D .next) X.xe s₃) X.xe s₂) X.xe s:=by
  refine thn (he pins s σ H _ I h) λw s1 ⟨y,H1,I1,r1,q1⟩=>?_
  refine thn (ho pins s1 σ H1 v y u w _ I1 r r1 q1) λz s2 ⟨zv,H2,I2,r2,q2⟩=>?_
  exact u80 I2 hN hi hx r2 (λs3 I3=>⟨_,H2,I3,q2⟩) hf
 rcases l with⟨hk,hm⟩|⟨hk,c,hc,J⟩
 ·exact g5 I.ok.kind hk hn hm go
 ·rcases hk with hk|hk
  ·exact wpAny_loadName_cell I.ok.kind hk hc J go
  ·rcases hx with k|k
   ·have:X.env.scope.names.lookup x=some .free:=hk
    rw[k] at this;cases this
   ·have:X.env.scope.names.lookup x=some .free:=hk
    rw[k] at this;cases this
def ipI(f:Int->Int->Int):TIp:=λx y H Q=>∃i j,x=.int i/\y=.int j/\Q (.int (f i j)) H
theorem Yb0:PIp X .Add (ipI λi j=>i+j):=by
 intro pins s σ H x y v u Q I r1 r2 h;obtain⟨i,j,e1,e2,q⟩:=h;subst e1;subst e2;obtain⟨t,rfl⟩:=r1;obtain⟨t',rfl⟩:=r2;exact iadd_int ⟨.int _,H,I.tok _,⟨_,rfl⟩,q⟩
def Zj0(c:TT)(tb:TS):TS:=λD σ H=>∃W:Nat->St->Hp->Prop,(∃m,W m σ H)/\∀m σ H,W m σ H ->
 c σ H λb H1=>if b=true then ∃N:St->Hp->Prop,(∀σ' H',N σ' H'->∃m',m'<m/\W m' σ' H')/\tb { D with nx:=N,ct:=N,bk:=D.nx } σ H1 else D.nx σ H1
theorem d00{body:List Stmt}{tc:TT}{tb:TS}(hp:PassesOwn (model X.prog X.w) X.A X.env X.xe)(hc:PT X c tc)(hb:PSs X body tb):PS X (.While c body [] pos) (Zj0 tc tb):=by
 intro pins s σ H D I h;obtain⟨W,⟨m0,w0⟩,J⟩:=h;refine wpAny_While (codeAny_whileLoop (λn s'=>∃σ' H',Inv X pins σ' H' s'/\W n σ' H') ?_ m0 ⟨σ,H,I,w0⟩);rintro n s1 ⟨σ1,H1,I1,w1⟩;refine K0 hp (thn (hc pins s1 σ1 H1 _ I1 (J n σ1 H1 w1)) λb s2 ⟨H2,I2,q2⟩=>?_);cases b with
 | true =>
  obtain⟨N,hN,q2⟩:=q2;rw[if_pos rfl];refine K0 hp (thn (hb pins s2 σ1 H2 _ I2 q2) λf s3 q3=>?_);cases f with
  | next =>
   obtain⟨σ3,H3,I3,n3⟩:=q3;obtain⟨m',hm,w3⟩:=hN σ3 H3 n3;exact⟨m',hm,σ3,H3,I3,w3⟩
  | cont =>
   obtain⟨σ3,H3,I3,n3⟩:=q3;obtain⟨m',hm,w3⟩:=hN σ3 H3 n3;exact⟨m',hm,σ3,H3,I3,w3⟩
  | brk=>exact q3
  | ret v=>exact q3
 | false =>
  rw[if_neg B5];exact i0 ⟨σ1,H2,I2,q2⟩
structure It where
 go:Nat->Hp->Prop
 yld:Nat->Hp->V->Hp->Prop
 stop:Nat->Hp->Prop
def wy0(X:Cx)(pins:List (Addr×Obj))(H:Hp)(b:Addr):Prop :=
 H b=none/\b≠X.env.locals/\b∉X.fs/\(b∈X.ex∨X.s₀.heap.objs.size<=b)/\(∀x c,X.env.cells.lookup x=some c->c≠b)/\∀p∈X.pn++pins,p.1≠b
theorem Inv.fpOk{σ:St}{s:Shared}{b:Addr}(I:Inv X pins σ H s)(hb:s.heap.objs.size<=b)(hn:H' b=none):wy0 X pins H' b:=by
 refine⟨hn,B7 (A9 I.lt hb),I.nofs hb,.inr (C3 I.sz hb),λx c e z=>?_,λp hp z=>?_⟩
 ·obtain⟨v,q⟩:=I.cell x c e
  exact absurd (A9 q.lt (by rw[z];exact hb)) (C9 _)
 ·exact absurd (A9 (A3 (I.pin p hp).1) (by rw[z];exact hb)) (C9 _)
structure Turn(P:Program)(w:World)(K:W.Frag)(tg:Expr)(J:It)(fp:List Addr)(it:Addr)(tn:Nat->Heap->Prop):Prop where
 mem:it∈fp
 obj:∀i h,tn i h->∀b∈fp,∃o,h.get? b=some o/\∀v,o.data≠.cell v
 keep:∀i h h',tn i h->(∀b∈fp,∀o,h.get? b=some o->h'.get? b=some o)->tn i h'
 item:∀(X:Cx),X.prog=P->X.w=w->X.K=K->X.calm=true->∀(i:Nat) (pins:List (Addr×Obj)) (s:Shared) (σ:St) (H:Hp) (E:Value->Shared->Prop),Inv X pins σ H s->(∀b∈fp,wy0 X pins H b)->tn i s.heap->J.go i H ->
  wpAny (model P w) X.A (pyNext (.ref it)) (λr s1=>∃u,r=some u /\
   wpAny (model P w) X.A (letOwnedTupleGo tg (.ref it) u) (λ_ s2=>∃x H',Inv X pins σ H' s2/\RelV x u/\J.yld i H x H'/\tn (i+1) s2.heap/\∀b∈fp,H' b=none) E s1) E s
 done:∀(X:Cx),X.prog=P->X.w=w->X.K=K->X.calm=true->∀(i:Nat) (pins:List (Addr×Obj)) (s:Shared) (σ:St) (H:Hp) (E:Value->Shared->Prop),Inv X pins σ H s->(∀b∈fp,wy0 X pins H b)->tn i s.heap->J.stop i H ->
  wpAny (model P w) X.A (pyNext (.ref it)) (λr s1=>r=none/\Inv X pins σ H s1) E s
 self:∀(A:Around) (i:Nat) (s:Shared) (Q:Value->Shared->Prop) (E:Value->Shared->Prop),tn i s.heap->Q (.ref it) s->wpAny (model P w) A (pyIter (.ref it)) Q E s
abbrev TI:=St->Hp->(It->Hp->Prop)->Prop
def PIE(X:Cx)(pins:List (Addr×Obj))(σ:St)(tg:Expr)(R:It->Hp->Prop)(itv:Value)(s2:Shared):Prop :=
 ∃(it:Addr) (fp:List Addr) (tn:Nat->Heap->Prop) (J:It) (H':Hp),itv=.ref it/\Inv X pins σ H' s2/\Turn X.prog X.w X.K tg J fp it tn/\tn 0 s2.heap/\(∀b∈fp,wy0 X pins H' b)/\R J H'
def PI(X:Cx)(tg iter:Expr)(wi:TI):Prop :=
 ∀(pins:List (Addr×Obj)) (s:Shared) (σ:St) (H:Hp) (R:It->Hp->Prop),Inv X pins σ H s->wi σ H R ->
  wpAny (model X.prog X.w) X.A (eval iter X.env) (λv s1=>wpAny (model X.prog X.w) X.A (pyIter v) (PIE X pins σ tg R) X.xe s1) X.xe s
theorem nd0{M:Model}{A:Around}{E:Value->Shared->Prop}{s:Shared}{tg:Expr}{u:Value}{o:Obj}{n:String}{vs:Array Value}{Q:Unit->Shared->Prop}(ho:s.heap.get? it=some o)(hc:o.cls=.type n)(hd:o.data=.fields vs)
  (hn:["enumerate", "zip", "dict_itemiterator", "dict_reverseitemiterator", "odict_iterator", "itertools.zip_longest", "itertools.pairwise"].contains n=false) (hQ:Q () s):wpAny M A (letOwnedTupleGo tg (.ref it) u) Q E s:=by
 unfold letOwnedTupleGo;cases tg<;>first
  | exact A2 hQ
  | (cases u<;>first
    | exact A2 hQ
    | (refine A0 (wpAny_load ho ?_)
       rw[hc,hd];show wpAny M A (if (["enumerate", "zip", "dict_itemiterator", "dict_reverseitemiterator", "odict_iterator", "itertools.zip_longest", "itertools.pairwise"].contains n&&vs[0]?==some (rawInt _))=true then _ else _) Q E s;rw[if_neg (by intro h;rw[hn,Bool.false_and] at h;cases h)];exact A2 hQ))
def Itl(K:W.Frag)(a:Addr):It :=
 ⟨λi H=>∃xs x,SqL K H a xs/\xs[i]?=some x,λi H x H'=>H'=H/\∀xs,SqL K H a xs->xs[i]?=some x,λi H=>∃xs,SqL K H a xs/\xs.length<=i⟩
def Itt(K:W.Frag)(a:Addr):It :=
 ⟨λi H=>∃xs x,SqT K H a xs/\xs[i]?=some x,λi H x H'=>H'=H/\∀xs,SqT K H a xs->xs[i]?=some x,λi H=>∃xs,SqT K H a xs/\xs.length<=i⟩
def Itr(lo:Int)(n:Nat):It:=⟨λi _=>i<n,λi H x H'=>H'=H/\x=.int (lo+i),λi _=>n<=i⟩
theorem gf0{P:Program}{w:World}{tg:Expr}(a it:Addr):Turn P w K tg (Itl K a) [it] it (λi h=>h.IsListIter it a i) where
 mem:=by simp
 obj:=λi h st b hb=>by
  have e:b=it:=by simpa using hb
  subst e;obtain⟨o,e,c,d⟩:=st;exact⟨o,e,λv z=>by rw[d] at z;cases z⟩
 keep:=λi h h' st k=>st.at λo e=>k it (by simp) o e
 item:=by
  intro X hP hw hK hc i pins s σ H E I hf st hg;subst hP hw hK;obtain⟨xs,x,hq,hx⟩:=hg;obtain⟨its,rv,p,hz⟩:=I.list hq;obtain⟨u,hu,ru⟩:=rv.get hx;obtain⟨f0,f1,f2,f3,f4,f5⟩:=hf it (by simp);refine wpAny_pyNext_list_item st p.isList (x:=u) (by simpa using hu) λh' J sb=>?_
  have I1:Inv X pins σ H { s with heap:=h' }:=I.turned (t':=s.toks) (λb o hb e=>(sb.2 b hb).trans e) f0 f1 f3 f4 f5;obtain⟨o,e,c,d⟩:=id J;exact⟨u,rfl,nd0 (s:={ s with heap:=h' }) e c d (by decide) ⟨x,H,I1,ru,⟨rfl,λys hy=>by rw[I.list_inj hy hq];exact hx⟩,J,λb hb=>(hf b hb).1⟩⟩
 done:=by
  intro X hP hw hK hc i pins s σ H E I hf st hg;subst hP hw hK;obtain⟨xs,hq,hx⟩:=hg;obtain⟨its,rv,p,hz⟩:=I.list hq;obtain⟨f0,f1,f2,f3,f4,f5⟩:=hf it (by simp);have hl:=rv.length;exact wpAny_pyNext_list_end (I.ok.hd hc) st p.isList (by simp;omega) λh' eb=>⟨rfl,I.turned (t':=s.toks) (λb o hb e=>eb b o hb e) f0 f1 f3 f4 f5⟩
 self:=λ_ _ _ _ _ st h=>wpAny_pyIter_listiter st h
theorem iy0{P:Program}{w:World}{tg:Expr}(a it:Addr):Turn P w K tg (Itt K a) [it] it (λi h=>h.IsTupleIter it a i) where
 mem:=by simp
 obj:=λi h st b hb=>by
  have e:b=it:=by simpa using hb
  subst e;obtain⟨o,e,c,d⟩:=st;exact⟨o,e,λv z=>by rw[d] at z;cases z⟩
 keep:=λi h h' st k=>st.at λo e=>k it (by simp) o e
 item:=by
  intro X hP hw hK hc i pins s σ H E I hf st hg;subst hP hw hK;obtain⟨xs,x,hq,hx⟩:=hg;obtain⟨its,rv,p,hz⟩:=I.tuple hq;obtain⟨u,hu,ru⟩:=rv.get hx;obtain⟨f0,f1,f2,f3,f4,f5⟩:=hf it (by simp);refine wpAny_pyNext_tuple_item st (show s.heap.IsTuple a its.toArray from p) (x:=u) (by simpa using hu) λh' J sb=>?_
  have I1:Inv X pins σ H { s with heap:=h' }:=I.turned (t':=s.toks) (λb o hb e=>(sb.2 b hb).trans e) f0 f1 f3 f4 f5;obtain⟨o,e,c,d⟩:=id J;exact⟨u,rfl,nd0 (s:={ s with heap:=h' }) e c d (by decide) ⟨x,H,I1,ru,⟨rfl,λys hy=>by rw[I.tuple_inj hy hq];exact hx⟩,J,λb hb=>(hf b hb).1⟩⟩
 done:=by
  intro X hP hw hK hc i pins s σ H E I hf st hg;subst hP hw hK;obtain⟨xs,hq,hx⟩:=hg;obtain⟨its,rv,p,hz⟩:=I.tuple hq;obtain⟨f0,f1,f2,f3,f4,f5⟩:=hf it (by simp);have hl:=rv.length;exact wpAny_pyNext_tuple_end (I.ok.hd hc) st (show s.heap.IsTuple a its.toArray from p) (by simp;omega) λh' eb=>⟨rfl,I.turned (t':=s.toks) (λb o hb e=>eb b o hb e) f0 f1 f3 f4 f5⟩
 self:=λ_ _ _ _ _ st h=>wpAny_pyIter_tupleiter st h
theorem ic0{P:Program}{w:World}{tg:Expr}(it:Addr)(lo:Int)(n:Nat):Turn P w K tg (Itr lo n) [it] it (λi h=>IsRangeIter h it (lo+(i:Nat)*1) ((n:Int) - (i:Nat)) 1) where
 mem:=by simp
 obj:=λi h st b hb=>by
  have e:b=it:=by simpa using hb
  subst e;exact⟨_,st,λv z=>by
   have z':Data.fields _=Data.cell v:=z;cases z'⟩
 keep:=λi h h' st k=>k it (by simp) _ st
 item:=by
  intro X hP hw hK hc i pins s σ H E I hf st hg;subst hP hw hK;obtain⟨f0,f1,f2,f3,f4,f5⟩:=hf it (by simp);have W:=Walks.range (prog:=X.prog) (w:=X.w) (I.ok.hd hc) it lo 1 n;refine W.item i s _ _ hg st λv h' tk hv J kk=>?_
  obtain⟨t,rfl⟩:=hv;have I1:Inv X pins σ H { s with heap:=h',toks:=tk }:=I.turned (λb o hb e=>kk b o (by simpa using hb) e) f0 f1 f3 f4 f5;refine⟨_,rfl,nd0 (s:={ s with heap:=h',toks:=tk }) (n := "range_iterator") J rfl rfl (by decide) ⟨.int (lo+i),H,I1,⟨t,?_⟩,⟨rfl,rfl⟩,J,λb hb=>(hf b hb).1⟩⟩;rw[Int.mul_one]
 done:=by
  intro X hP hw hK hc i pins s σ H E I hf st hg;subst hP hw hK;obtain⟨f0,f1,f2,f3,f4,f5⟩:=hf it (by simp);exact wpAny_pyNext_range_end (I.ok.hd hc) st (by have:n<=i:=hg;omega) λh' eb=>⟨rfl,I.turned (t':=s.toks) (λb o hb e=>eb b o hb e) f0 f1 f3 f4 f5⟩
 self:=λ_ _ _ _ _ st h=>wpAny_pyIter_rangeiter st h
section
variable{tg:Expr}
def Vi0(K:W.Frag)(tl:TE):TI:=fun σ H R=>tl σ H λx H1=>∃a,x=.ref a/\(∃xs,SqL K H1 a xs)/\R (Itl K a) H1
def Ur0(K:W.Frag)(tl:TE):TI:=fun σ H R=>tl σ H λx H1=>∃a,x=.ref a/\(∃xs,SqT K H1 a xs)/\R (Itt K a) H1
theorem aa0{l:Expr}{tl:TE}(hl:PE X l tl):PI X tg l (Vi0 X.K tl):=by
 intro pins s σ H R I h;refine thn (hl pins s σ H _ I h) λv s1 ⟨x,H1,I1,r1,q1⟩=>?_
 obtain⟨a,e,⟨xs,hq⟩,q⟩:=q1;subst e;cases r1;obtain⟨its,rv,p,hz⟩:=I1.list hq;refine wpAny_pyIter_list p.isList ?_;refine⟨s1.heap.objs.size,[s1.heap.objs.size],_,_,H1,rfl,I1.kept (t':=s1.toks) λb o e=>A7 _ e,gf0 a _,⟨_,B9 _ rfl,rfl,rfl⟩,λb hb=>?_,q⟩;have e:b=s1.heap.objs.size:=by simpa using hb
 subst e;exact I1.fpOk (A1 _) (I1.hok.fresh (A1 _))
theorem Yd0{l:Expr}{tl:TE}(hl:PE X l tl):PI X tg l (Ur0 X.K tl):=by
 intro pins s σ H R I h;refine thn (hl pins s σ H _ I h) λv s1 ⟨x,H1,I1,r1,q1⟩=>?_
 obtain⟨a,e,⟨xs,hq⟩,q⟩:=q1;subst e;cases r1;obtain⟨its,rv,p,hz⟩:=I1.tuple hq;refine wpAny_pyIter_tuple (show s1.heap.IsTuple a its.toArray from p) ?_;refine⟨s1.heap.objs.size,[s1.heap.objs.size],_,_,H1,rfl,I1.kept (t':=s1.toks) λb o e=>A7 _ e,iy0 a _,⟨_,B9 _ rfl,rfl,rfl⟩,λb hb=>?_,q⟩;have e:b=s1.heap.objs.size:=by simpa using hb
 subst e;exact I1.fpOk (A1 _) (I1.hok.fresh (A1 _))
theorem m50{σ:St}{s:Shared}{R:It->Hp->Prop}{E:Value->Shared->Prop}{lo hi:Int}{t u v:Tok}{tk:Nat}(I:Inv X pins σ H s)(h1:-(2 ^ 62)<=lo)(h2:lo<2 ^ 62)(h3:-(2 ^ 62)<=hi)(h4:hi<2 ^ 62)
  (q:R (Itr lo (hi - lo).toNat) H):wpAny (model X.prog X.w) X.A (pyIter (.ref s.heap.objs.size)) (PIE X pins σ tg R) E { s with heap:=s.heap.push { cls:=.type "range",data:=.fields #[.int lo t,.int hi u,.int 1 v] },toks:=tk }:=by
 refine wpAny_pyIter_range (IsRange.new ..) (small_one h1 h2 h3 h4) ?_;have I1:Inv X pins σ H { s with heap:=s.heap.push { cls:=.type "range",data:=.fields #[.int lo t,.int hi u,.int 1 v] },toks:=tk }:=I.kept λb o e=>A7 _ e
 refine⟨(s.heap.push { cls:=.type "range",data:=.fields #[.int lo t,.int hi u,.int 1 v] }).objs.size,[(s.heap.push { cls:=.type "range",data:=.fields #[.int lo t,.int hi u,.int 1 v] }).objs.size],_,_,H,rfl,
  I1.kept (t':=tk) λb o e=>A7 _ e,ic0 _ lo (hi - lo).toNat,?_,λb hb=>?_,q⟩
 ·have e1:lo+((0:Nat):Int)*1=lo:=by simp
  have e2:(((hi - lo).toNat:Nat):Int) - ((0:Nat):Int)=Builtin.Range.rangeSize lo hi 1:=by rw[rangeSize_one];split<;>omega
  show IsRangeIter _ _ (lo+((0:Nat):Int)*1) ((((hi - lo).toNat:Nat):Int) - ((0:Nat):Int)) 1;rw[e1,e2];exact B9 _ rfl
 ·have e:b=(s.heap.push { cls:=.type "range",data:=.fields #[.int lo t,.int hi u,.int 1 v] }).objs.size:=by simpa using hb
  subst e;exact I1.fpOk (A1 _) (I1.hok.fresh (A1 _))
def We0(ta:TA):TI:=fun σ H R=>ta σ H λvs H1=>∃j:Int,vs=[.int j]/\-(2 ^ 62)<=j/\j<2 ^ 62/\R (Itr 0 j.toNat) H1
def Wx0(ta:TA):TI:=fun σ H R=>ta σ H λvs H1=>∃i j:Int,vs=[.int i,.int j]/\(-(2 ^ 62)<=i/\i<2 ^ 62/\-(2 ^ 62)<=j/\j<2 ^ 62)/\R (Itr i (j - i).toNat) H1
theorem gw0{a:Expr}{ta:TA}(hg:Gl X "range")(hm:X.mg "range"=none)(ha:PA X [a] ta)(hs:starEach [a] X.env=[(false,eval a X.env)]:=by rfl):PI X tg (.Call (.Name "range" p) [a] [] pos) (We0 ta):=by
 intro pins s σ H R I h;refine Call_ (y00 I hg hm boot_range (E8 (thn (ha pos pins s σ H _ I h) λus s1 ⟨vs,H1,I1,r1,q1⟩=>?_) hs rfl));obtain⟨j,e,q1,q2,q⟩:=q1;subst e;cases r1 with
 | cons r rr =>
  cases rr;obtain⟨t,rfl⟩:=r;exact call_range_1 (m50 I1 (by omega) (by omega) q1 q2 (by simpa using q))
theorem fc0{a:Expr}{ta:TA}{p pos:Pos}(hg:Gl X "range")(hm:X.mg "range"=none)(ha:PA X [a,b] ta)(hs:starEach [a,b] X.env=[(false,eval a X.env),(false,eval b X.env)]:=by rfl)(hs2:starEach [b] X.env=[(false,eval b X.env)]:=by rfl) :
  PI X tg (.Call (.Name "range" p) [a,b] [] pos) (Wx0 ta):=by
 intro pins s σ H R I h;refine Call_ (y00 I hg hm boot_range (E8 (thn (ha pos pins s σ H _ I h) λus s1 ⟨vs,H1,I1,r1,q1⟩=>?_) (by rw[hs,hs2]) (by rw[hs2];rfl)));obtain⟨i,j,e,⟨q1,q2,q3,q4⟩,q⟩:=q1;subst e;cases r1 with
 | cons r rr =>
  cases rr with
  | cons r' rr =>
   cases rr;obtain⟨t,rfl⟩:=r;obtain⟨t',rfl⟩:=r';exact call_range_2 (m50 I1 q1 q2 q3 q4 q)
def U30(wi:TI)(g:TG)(tb:TS):TS:=λD σ H=>wi σ H λJ H1=>∃W:Nat->Nat->St->Hp->Prop,(∃m,W 0 m σ H1)/\∀i m σ H,W i m σ H ->
 (J.stop i H/\D.nx σ H)∨(J.go i H/\∃N:St->Hp->Prop,(∀σ' H',N σ' H'->∃m',m'<m/\W (i+1) m' σ' H')/\∀x H',J.yld i H x H'->g x σ H' fun σ2 H2=>tb { D with nx:=N,ct:=N,bk:=D.nx } σ2 H2)
def uz0(fp:List Addr)(h:Heap):List (Addr×Obj):=fp.filterMap λb=>(h.get? b).map λo=>(b,o)
theorem wf0{h:Heap}{b:Addr}{o:Obj}(hb:b∈fp)(e:h.get? b=some o):(b,o)∈uz0 fp h:=T0.mpr ⟨b,hb,by rw[e];rfl⟩
theorem fb0{h:Heap}{p:Addr×Obj}(hp:p∈uz0 fp h):p.1∈fp/\h.get? p.1=some p.2:=by
 obtain⟨b,hb,e⟩:=T0.mp hp;cases q:h.get? b with
 | none=>rw[q] at e;cases e
 | some o =>
  rw[q] at e;have e':(b,o)=p:=B6 e;subst e';exact⟨hb,q⟩
theorem Inv.pinned{σ:St}{s:Shared}(I:Inv X pins σ H s)(hf:∀b∈fp,wy0 X pins H b)(ho:∀b∈fp,∃o,s.heap.get? b=some o/\∀v,o.data≠.cell v):Inv X (pins++uz0 fp s.heap) σ H s :=
 I.pins_of λp hp=>(B4.mp hp).elim (λz=>I.pin p (C6 _ z)) λz=>by
  obtain⟨hb,e⟩:=fb0 z;obtain⟨f0,f1,f2,_⟩:=hf p.1 hb;obtain⟨o,e',d⟩:=ho p.1 hb;rw[e] at e';cases e';exact⟨e,f0,f1,f2,d⟩
theorem Inv.unpinned{pl:List (Addr×Obj)}{σ:St}{s:Shared}(I:Inv X (pins++pl) σ H s):Inv X pins σ H s:=I.pins_of λp hp=>I.pin p (C6 _ (D7 _ hp))
theorem W50{body:List Stmt}{wi:TI}{g:TG}{tb:TS}{pos:Pos}(hp:PassesOwn (model X.prog X.w) X.A X.env X.xe)(hc:X.calm=true)(hi:PI X tg iter wi)(hg:PG X tg g)(hb:PSs X body tb)
  (hs:∀x,foldedSetIterable iter X.env x=pure x:=by intro _;rfl):PS X (.For tg iter body [] pos) (U30 wi g tb):=by
 intro pins s σ H D I h;refine wpAny_For (thn (hi pins s σ H _ I h) λv s1 h1=>thn h1 λa6 s2 h2=>?_) hs;obtain⟨it,fp,tn,J,H2,e,I2,T,a3,f2,W,⟨m0,w0⟩,a2⟩:=h2;subst e;have O:∀{H':Hp},(∀b∈fp,H' b=none)->∀b∈fp,wy0 X pins H' b:=λhn b hb=>⟨hn b hb,(f2 b hb).2⟩
 refine codeAny_forLoop_any (λn s'=>∃i σ' H',Inv X pins σ' H' s'/\tn i s'.heap/\(∀b∈fp,H' b=none)/\W i n σ' H') ?_ m0 ⟨0,σ,H2,I2,a3,λb hb=>(f2 b hb).1,w0⟩;rintro n s3 ⟨i,σ3,H3,I3,a1,Z,w3⟩;rcases a2 i n σ3 H3 w3 with⟨stop,qn⟩|⟨go,N,hN,step⟩
 ·refine K0 hp (thn (T.done X rfl rfl rfl hc i pins s3 σ3 H3 X.xe I3 (O Z) a1 stop) λr s4 ⟨hr,I4⟩=>?_)
  subst hr;exact i0 ⟨σ3,H3,I4,qn⟩
 ·refine K0 hp (thn (T.item X rfl rfl rfl hc i pins s3 σ3 H3 X.xe I3 (O Z) a1 go) λr s4 ⟨u,hr,h4⟩=>?_)
  subst hr;refine K0 hp (thn h4 λ_ s5 ⟨x,H5,I5,r5,y5,Y,a4⟩=>?_);have a5:=I5.pinned (O a4) (T.obj _ _ Y);refine K0 hp (thn (hg _ s5 σ3 H5 x u _ a5 r5 (step x H5 y5)) λ_ s6 ⟨σ6,H6,I6,q6⟩=>?_);refine K0 hp (thn (hb _ s6 σ6 H6 _ I6 q6) λf s7 q7=>?_);have again:∀{σ7:St} {H7:Hp},Inv X (pins++uz0 fp s5.heap) σ7 H7 s7->N σ7 H7->∃m,m<n/\∃i σ' H',Inv X pins σ' H' s7/\tn i s7.heap/\(∀b∈fp,H' b=none)/\W i m σ' H':=λ{σ7 H7} I7 n7=>by
   obtain⟨m',hm,w7⟩:=hN σ7 H7 n7;refine⟨m',hm,i+1,σ7,H7,I7.unpinned,T.keep _ _ _ Y λb hb o e=>(I7.pin (b,o) (C6 _ (C6 _ (wf0 hb e)))).1,λb hb=>?_,w7⟩;obtain⟨o,e,d⟩:=T.obj _ _ Y b hb;exact(I7.pin (b,o) (C6 _ (C6 _ (wf0 hb e)))).2.1
  cases f with
  | next=>obtain⟨σ7,H7,I7,n7⟩:=q7;exact again I7 n7
  | cont=>obtain⟨σ7,H7,I7,n7⟩:=q7;exact again I7 n7
  | brk=>obtain⟨σ7,H7,I7,q7⟩:=q7;exact⟨σ7,H7,I7.unpinned,q7⟩
  | ret v=>obtain⟨x7,σ7,H7,I7,r7,q7⟩:=q7;exact⟨x7,σ7,H7,I7.unpinned,r7,q7⟩
end
abbrev R2:=V->V->Hp->VK->Prop
def OpR(X:Cx)(f:Value->Value->Sem Value)(r:R2):Prop :=
 ∀(pins:List (Addr×Obj)) (s:Shared) (σ:St) (H:Hp) (x y:V) (v u:Value) (Q:VK),Inv X pins σ H s->RelV x v->RelV y u->r x y H Q ->
  wpAny (model X.prog X.w) X.A (f v u) (EP X pins σ Q) X.xe s
def UnR(X:Cx)(f:Value->Sem Value)(r:V->Hp->VK->Prop):Prop :=
 ∀(pins:List (Addr×Obj)) (s:Shared) (σ:St) (H:Hp) (x:V) (v:Value) (Q:VK),Inv X pins σ H s->RelV x v->r x H Q ->
  wpAny (model X.prog X.w) X.A (f v) (EP X pins σ Q) X.xe s
def CallR(X:Cx)(f:Value)(r:List V->Hp->VK->Prop):Prop :=
 ∀(pins:List (Addr×Obj)) (s:Shared) (σ:St) (H:Hp) (xs:List V) (us:List Value) (Q:VK),Inv X pins σ H s->Vals xs us->r xs H Q ->
  wpAny (model X.prog X.w) X.A (call f us) (EP X pins σ Q) X.xe s
def tOp(r:R2)(ta tb:TE):TE:=fun σ H Q=>ta σ H λx H1=>tb σ H1 λy H2=>r x y H2 Q
def tUn(r:V->Hp->VK->Prop)(ta:TE):TE:=fun σ H Q=>ta σ H λx H1=>r x H1 Q
def rI(C:Int->Int->Prop)(g:Int->Int->V):R2:=λx y H Q=>∃i j,x=.int i/\y=.int j/\C i j/\Q (g i j) H
def rI0(g:Int->Int->V):R2:=λx y H Q=>∃i j,x=.int i/\y=.int j/\Q (g i j) H
def rU(g:Int->V):V->Hp->VK->Prop:=λx H Q=>∃i,x=.int i/\Q (g i) H
section
variable{a:Expr}{tc:TE}
theorem d10(ha:PE X a ta)(hb:PE X b tb){s:Shared}{σ:St}{R:V->V->Hp->Prop}(I:Inv X pins σ H s)
  (h:ta σ H λx H1=>tb σ H1 λy H2=>R x y H2) {Q:Value->Shared->Prop} {f:Value->Value->Sem Value}
  (hf:∀v u s2 x y H2,Inv X pins σ H2 s2->RelV x v->RelV y u->R x y H2->wpAny (model X.prog X.w) X.A (f v u) Q X.xe s2) :
  wpAny (model X.prog X.w) X.A (eval a X.env) (λv s₁=>wpAny (model X.prog X.w) X.A (eval b X.env) (λu s₂=>wpAny (model X.prog X.w) X.A (f v u) Q X.xe s₂) X.xe s₁) X.xe s:=by
 refine thn (ha pins s σ H _ I h) λv s1 ⟨x,H1,I1,r1,q1⟩=>?_
 refine thn (hb pins s1 σ H1 _ I1 q1) λu s2 ⟨y,H2,I2,r2,q2⟩=>?_
 exact hf v u s2 x y H2 I2 r1 r2 q2
theorem Wv0{op:Operator}{r:R2}(ho:OpR X (binaryOp op) r)(ha:PE X a ta)(hb:PE X b tb):PE X (.BinOp a op b pos) (tOp r ta tb):=by
 intro pins s σ H Q I h;exact wpAny_BinOp (d10 ha hb I h λv u s2 x y H2 I2 rx ry q=>ho pins s2 σ H2 x y v u Q I2 rx ry q)
theorem Vj0{op:UnaryOp}{r:V->Hp->VK->Prop}(ho:UnR X (unaryOp op) r)(ha:PE X a ta):PE X (.UnaryOp op a pos) (tUn r ta):=by
 intro pins s σ H Q I h;exact UnaryOp_ (thn (ha pins s σ H _ I h) λv s1 ⟨x,H1,I1,r1,q1⟩=>ho pins s1 σ H1 x v Q I1 r1 q1)
theorem opI{f:Value->Value->Sem Value}{C:Int->Int->Prop}{g:Int->Int->Int}
  (rule:∀(i j:Int) (t u:Tok) (s:Shared) (Q:Value->Shared->Prop) (E:Value->Shared->Prop),C i j->Q (.int (g i j) s.toks) { s with toks:=s.toks+1 }->wpAny (model X.prog X.w) X.A (f (.int i t) (.int j u)) Q E s) :
  OpR X f (rI C λi j=>.int (g i j)):=by
 intro pins s σ H x y v u Q I rx ry h;obtain⟨i,j,rfl,rfl,hc,q⟩:=h;obtain⟨t,rfl⟩:=rx;obtain⟨t',rfl⟩:=ry;exact rule i j t t' s _ _ hc ⟨.int (g i j),H,I.tok _,⟨_,rfl⟩,q⟩
theorem W40{f:Value->Value->Sem Value}{g:Int->Int->Int}
  (rule:∀(i j:Int) (t u:Tok) (s:Shared) (Q:Value->Shared->Prop) (E:Value->Shared->Prop),Q (.int (g i j) s.toks) { s with toks:=s.toks+1 }->wpAny (model X.prog X.w) X.A (f (.int i t) (.int j u)) Q E s) :
  OpR X f (rI0 λi j=>.int (g i j)):=by
 intro pins s σ H x y v u Q I rx ry h;obtain⟨i,j,rfl,rfl,q⟩:=h;obtain⟨t,rfl⟩:=rx;obtain⟨t',rfl⟩:=ry;exact rule i j t t' s _ _ ⟨.int (g i j),H,I.tok _,⟨_,rfl⟩,q⟩
theorem em0{f:Value->Value->Sem Value}{g:Int->Int->Bool}
  (rule:∀(i j:Int) (t u:Tok) (s:Shared) (Q:Value->Shared->Prop) (E:Value->Shared->Prop),Q (.bool (g i j)) s->wpAny (model X.prog X.w) X.A (f (.int i t) (.int j u)) Q E s) :
  OpR X f (rI0 λi j=>.bl (g i j)):=by
 intro pins s σ H x y v u Q I rx ry h;obtain⟨i,j,rfl,rfl,q⟩:=h;obtain⟨t,rfl⟩:=rx;obtain⟨t',rfl⟩:=ry;exact rule i j t t' s _ _ ⟨.bl (g i j),H,I,rfl,q⟩
def c60(i j:Int):Prop:=0<j/\j<1073741824
def d80(i j:Int):Prop:=0<=j/\j<=1000000/\i.natAbs<2 ^ 64
def CMul(i j:Int):Prop:=(-(2 ^ 64)<i/\i<2 ^ 64)∨(-(2 ^ 64)<j/\j<2 ^ 64)
theorem CMul.ok{i j:Int}(h:CMul i j):IntMulOk i j:=by
 rcases h with⟨h1,h2⟩|⟨h1,h2⟩
 ·exact .of_left (intBits_le_64 h1 h2)
 ·exact .of_right (intBits_le_64 h1 h2)
theorem Xw0:OpR X (binaryOp .Add) (rI0 λi j=>.int (i+j)):=W40 λ_ _ _ _ _ _ _ q=>add_int q
theorem Xi0:OpR X (binaryOp .Sub) (rI0 λi j=>.int (i - j)):=W40 λ_ _ _ _ _ _ _ q=>sub_int q
theorem Y10:OpR X (binaryOp .Mult) (rI CMul λi j=>.int (i*j)):=opI λ_ _ _ _ _ _ _ hc q=>mul_int q hc.ok
theorem br0:OpR X (binaryOp .FloorDiv) (rI c60 λi j=>.int (i/j)):=opI λi j _ _ _ _ _ hc q=>by
 have h1:(0:Int)<j:=hc.1;have h2:j<1073741824:=hc.2;exact floordiv_int (by omega) (by rw[Int.fdiv_eq_ediv_of_nonneg i (by omega)];exact q) (.inl (PyProof.noPylong_small (by omega)))
theorem Xz0:OpR X (binaryOp .Mod) (rI (λ_ j=>0<j) λi j=>.int (i%j)):=opI λi j _ _ _ _ _ hc q=>by
 have h1:(0:Int)<j:=hc;exact mod_int' (by omega) (by rw[Int.fmod_eq_emod_of_nonneg i (by omega)];exact q)
theorem Xu0:OpR X (binaryOp .Pow) (rI d80 λi j=>.int (i ^ j.toNat)):=opI λ_ _ _ _ _ _ _ hc q=>pow_int_small hc.1 hc.2.1 hc.2.2 q
theorem unI{f:Value->Sem Value}{g:Int->Int}
  (rule:∀(i:Int) (t:Tok) (s:Shared) (Q:Value->Shared->Prop) (E:Value->Shared->Prop),Q (.int (g i) s.toks) { s with toks:=s.toks+1 }->wpAny (model X.prog X.w) X.A (f (.int i t)) Q E s) :
  UnR X f (rU λi=>.int (g i)):=by
 intro pins s σ H x v Q I rx h;obtain⟨i,rfl,q⟩:=h;obtain⟨t,rfl⟩:=rx;exact rule i t s _ _ ⟨.int (g i),H,I.tok _,⟨_,rfl⟩,q⟩
theorem Y70:UnR X (unaryOp .USub) (rU λi=>.int (-i)):=unI λ_ _ _ _ _ q=>neg_int q
end
def dd0:V->V->Bool
 | .non,.non=>true|.non,.int _=>true|.int _,.non=>true|.non,.bl _=>true|.bl _,.non=>true|.non,.str _=>true|.str _,.non=>true
 | .int _,.int _=>true|.bl _,.bl _=>true|.str _,.str _=>true|.byt _,.byt _=>true
 | .int _,.str _=>true|.str _,.int _=>true|.bl _,.str _=>true|.str _,.bl _=>true
 | _,_=>false
def rEq:R2:=λx y H Q=>dd0 x y=true/\Q (.bl (decide (x=y))) H
def rNe:R2:=λx y H Q=>dd0 x y=true/\Q (.bl (!decide (x=y))) H
theorem jb0{i j:Int}:decide (V.int i=V.int j)=(i==j):=by
 rw[Bool.eq_iff_iff];simp
theorem f70{i j:Bool}:decide (V.bl i=V.bl j)=(i==j):=by
 rw[Bool.eq_iff_iff];simp
theorem j60{i j:Str}:decide (V.str i=V.str j)=(i==j):=by
 rw[Bool.eq_iff_iff];simp
theorem j30{i j:Array UInt8}:decide (V.byt i=V.byt j)=(i.toList==j.toList):=by
 rw[Bool.eq_iff_iff];cases i;cases j;simp
section
variable{a:Expr}{tc:TE}
theorem Y0{σ:St}{s:Shared}{Q:VK}{k k':Bool}(I:Inv X pins σ H s)(q:Q (.bl k) H)(e:k=k'):EP X pins σ Q (.bool k') s:=by
 subst e;exact⟨.bl k,H,I,rfl,q⟩
theorem X3:OpR X (compareOp .Eq) rEq:=by
 intro pins s σ H x y v u Q I rx ry h;obtain⟨hs,q⟩:=h;cases x with
 | non =>
  cases rx;cases y with
  | non=>cases ry;exact PySem.EqNone.eq_none_none (Y0 I q (by simp))
  | bl j=>cases ry;exact PySem.EqNone.eq_none_bool (Y0 I q (by simp))
  | int j=>obtain⟨t',rfl⟩:=ry;exact PySem.EqNone.eq_none_int (Y0 I q (by simp))
  | str j=>obtain⟨t',rfl⟩:=ry;exact PySem.EqNone.eq_none_str (Y0 I q (by simp))
  | _=>exact absurd (show false=true from hs) B5
 | bl i =>
  cases rx;cases y with
  | non=>cases ry;exact PySem.EqNone.eq_bool_none (Y0 I q (by simp))
  | bl j=>cases ry;exact eq_bool (Y0 I q f70)
  | str j=>obtain⟨t',rfl⟩:=ry;exact PySem.EqMixed.eq_bool_str (Y0 I q (by simp))
  | _=>exact absurd (show false=true from hs) B5
 | int i =>
  obtain⟨t,rfl⟩:=rx;cases y with
  | non=>cases ry;exact PySem.EqNone.eq_int_none (Y0 I q (by simp))
  | int j=>obtain⟨t',rfl⟩:=ry;exact eq_int (Y0 I q jb0)
  | str j=>obtain⟨t',rfl⟩:=ry;exact PySem.EqMixed.eq_int_str (Y0 I q (by simp))
  | _=>exact absurd (show false=true from hs) B5
 | str i =>
  obtain⟨t,rfl⟩:=rx;cases y with
  | non=>cases ry;exact PySem.EqNone.eq_str_none (Y0 I q (by simp))
  | bl j=>cases ry;exact PySem.EqMixed.eq_str_bool (Y0 I q (by simp))
  | int j=>obtain⟨t',rfl⟩:=ry;exact PySem.EqMixed.eq_str_int (Y0 I q (by simp))
  | str j=>obtain⟨t',rfl⟩:=ry;exact eq_str (Y0 I q j60)
  | _=>exact absurd (show false=true from hs) B5
 | byt i =>
  obtain⟨t,rfl⟩:=rx;cases y with
  | byt j=>obtain⟨t',rfl⟩:=ry;exact W.eq_bytes (Y0 I q j30)
  | _=>exact absurd (show false=true from hs) B5
 | _=>cases y<;>exact absurd (show false=true from hs) B5
theorem nm0:OpR X (compareOp .NotEq) rNe:=by
 intro pins s σ H x y v u Q I rx ry h;obtain⟨hs,q⟩:=h;cases x with
 | non =>
  cases rx;cases y with
  | non=>cases ry;exact PySem.EqNone.ne_none_none (Y0 I q (by simp))
  | bl j=>cases ry;exact PySem.EqNone.ne_none_bool (Y0 I q (by simp))
  | int j=>obtain⟨t',rfl⟩:=ry;exact PySem.EqNone.ne_none_int (Y0 I q (by simp))
  | str j=>obtain⟨t',rfl⟩:=ry;exact PySem.EqNone.ne_none_str (Y0 I q (by simp))
  | _=>exact absurd (show false=true from hs) B5
 | bl i =>
  cases rx;cases y with
  | non=>cases ry;exact PySem.EqNone.ne_bool_none (Y0 I q (by simp))
  | bl j=>cases ry;exact ne_bool (Y0 I q (D4 not f70))
  | str j=>obtain⟨t',rfl⟩:=ry;exact PySem.EqMixed.ne_bool_str (Y0 I q (by simp))
  | _=>exact absurd (show false=true from hs) B5
 | int i =>
  obtain⟨t,rfl⟩:=rx;cases y with
  | non=>cases ry;exact PySem.EqNone.ne_int_none (Y0 I q (by simp))
  | int j=>obtain⟨t',rfl⟩:=ry;exact ne_int (Y0 I q (D4 not jb0))
  | str j=>obtain⟨t',rfl⟩:=ry;exact PySem.EqMixed.ne_int_str (Y0 I q (by simp))
  | _=>exact absurd (show false=true from hs) B5
 | str i =>
  obtain⟨t,rfl⟩:=rx;cases y with
  | non=>cases ry;exact PySem.EqNone.ne_str_none (Y0 I q (by simp))
  | bl j=>cases ry;exact PySem.EqMixed.ne_str_bool (Y0 I q (by simp))
  | int j=>obtain⟨t',rfl⟩:=ry;exact PySem.EqMixed.ne_str_int (Y0 I q (by simp))
  | str j=>obtain⟨t',rfl⟩:=ry;exact ne_str (Y0 I q (D4 not j60))
  | _=>exact absurd (show false=true from hs) B5
 | byt i =>
  obtain⟨t,rfl⟩:=rx;cases y with
  | byt j=>obtain⟨t',rfl⟩:=ry;exact W.ne_bytes (Y0 I q (D4 not j30))
  | _=>exact absurd (show false=true from hs) B5
 | _=>cases y<;>exact absurd (show false=true from hs) B5
theorem qf0:OpR X (compareOp .Lt) (rI0 λi j=>.bl (decide (i<j))):=em0 λ_ _ _ _ _ _ _ q=>lt_int q
theorem jk0:OpR X (compareOp .Gt) (rI0 λi j=>.bl (decide (j<i))):=em0 λ_ _ _ _ _ _ _ q=>gt_int q
theorem c90:OpR X (compareOp .GtE) (rI0 λi j=>.bl (decide (j<=i))):=em0 λ_ _ _ _ _ _ _ q=>ge_int q
theorem nt0:OpR X (compareOp .Is) (λx y H Q=>y=.non/\Q (.bl (decide (x=.non))) H):=by
 intro pins s σ H x y v u Q I rx ry h;obtain⟨rfl,q⟩:=h;cases ry;refine is_none_gen (Y0 I q ?_);cases x<;>first
  | (cases rx;rfl)
  | (obtain⟨t,rfl⟩:=rx;rfl)
theorem OpR.or{f:Value->Value->Sem Value}{r r':R2}(h:OpR X f r)(h':OpR X f r'):OpR X f (λx y H Q=>r x y H Q∨r' x y H Q):=by
 intro pins s σ H x y v u Q I rx ry q;rcases q with q|q
 ·exact h pins s σ H x y v u Q I rx ry q
 ·exact h' pins s σ H x y v u Q I rx ry q
theorem go0(b:Expr){op:CmpOp}(h:op≠.In:=by decide)(h2:op≠.NotIn:=by decide):behindInMarks op b=false:=by
 have e1:(op==CmpOp.In)=false:=by cases op<;>first|rfl|exact absurd rfl h
 have e2:(op==CmpOp.NotIn)=false:=by cases op<;>first|rfl|exact absurd rfl h2
 cases b<;>simp[behindInMarks,e1,e2]
theorem b30{op:CmpOp}{r:R2}(ho:OpR X (compareOp op) r)(ha:PE X a ta)(hb:PE X b tb)(hm:behindInMarks op b=false):PE X (.Compare a [op] [b] pos) (tOp r ta tb):=by
 intro pins s σ H Q I h;exact wpAny_Compare1 (d10 ha hb I h λv u s2 x y H2 I2 rx ry q=>ho pins s2 σ H2 x y v u Q I2 rx ry q) hm
def Wt0(t:TE):TT:=fun σ H Q=>t σ H λx H'=>∃k,x=.bl k/\Q k H'
theorem Z30{op:CmpOp}{r:R2}(ho:OpR X (compareOp op) r)(ha:PE X a ta)(hb:PE X b tb)(hm:behindInMarks op b=false):PT X (.Compare a [op] [b] pos) (Wt0 (tOp r ta tb)):=by
 intro pins s σ H Q I h;refine x4 (thn (ha pins s σ H _ I h) λv s1 ⟨x,H1,I1,r1,q1⟩=>thn (hb pins s1 σ H1 _ I1 q1) λu s2 ⟨y,H2,I2,r2,q2⟩ =>
  thn (ho pins s2 σ H2 x y v u _ I2 r1 r2 q2) λc s3 ⟨z,H3,I3,r3,k,e,q3⟩=>?_) hm
 subst e;cases r3;exact L5 ⟨H3,I3,q3⟩
theorem vo0:(sizeLine:Nat)<2 ^ 63:=by rw[sizeLine_eq];decide
theorem iv0:OpR X (binaryOp .Add) (λx y H Q=>∃i j,x=.str i/\y=.str j/\i.length+j.length<=sizeLine/\Q (.str (i++j)) H):=by
 intro pins s σ H x y v u Q I rx ry h;obtain⟨i,j,rfl,rfl,hz,q⟩:=h;obtain⟨t,rfl⟩:=rx;obtain⟨t',rfl⟩:=ry;exact add_str (λt' tk=>⟨.str (i++j),H,I.tok _,⟨_,rfl⟩,q⟩) hz
theorem vals1{x:V}(r:Vals [x] us):∃u,us=[u]/\RelV x u:=by
 cases r with
 | cons r1 r2=>cases r2;exact⟨_,rfl,r1⟩
theorem mf0:CallR X (.builtin "ord") (λxs H Q=>∃x,xs=[.str x]/\x.length=1/\Q (.int (x.cps.getD 0 0:Nat)) H):=by
 intro pins s σ H xs us Q I r h;obtain⟨x,rfl,hz,q⟩:=h;obtain⟨u,rfl,t,rfl⟩:=vals1 r;exact ord_of_one hz ⟨.int _,H,I.tok _,⟨_,rfl⟩,q⟩
end
theorem RelO.some_of{o:Option Value}(r:RelO (some v) o):∃u,o=some u/\RelV v u:=by
 cases o with
 | none=>exact(show False from r).elim
 | some u=>exact⟨u,rfl,r⟩
structure Room(k:Nat)(A:Around):Prop where
 hd:A.handled=none
 dp:A.depth+3*k+5<recursionLimit
 un:A.units+16*k+200<cLine
theorem Room.mono{k:Nat}{A:Around}(r:Room k A)(h:j<=k):Room j A:=⟨r.hd,by have:=r.dp;omega,by have:=r.un;omega⟩
theorem Room.deeper{k:Nat}{A:Around}(r:Room (k+1) A)(env:Env):Room k (A.deeper env) :=
 ⟨r.hd,by have:=r.dp;show A.depth+1+3*k+5<_;omega,by have:=r.un;show A.units+3+16*k+200<_;omega⟩
theorem Room.depth{k:Nat}{A:Around}(r:Room k A):A.depth<recursionLimit:=by have:=r.dp;omega
theorem Room.units{k:Nat}{A:Around}(r:Room k A):A.units+64<cLine:=by have:=r.un;omega
def ij0:TA:=λ_ H Q=>Q [] H
def V80(ta:TE)(tr:TA):TA:=fun σ H Q=>ta σ H λx H1=>tr σ H1 λxs H2=>Q (x::xs) H2
section
variable{t:TA}
theorem zm0:PA X [] ij0:=λ_ _ _ _ H Q I h=>N1 ⟨[],H,I,.nil,h⟩
theorem Q5(ha:PE X e te)(hr:PA X es t)(hs:starEach (e::es) X.env=(false,eval e X.env)::starEach es X.env:=by rfl):PA X (e::es) (V80 te t):=by
 intro pos pins s σ H Q I h;rw[hs];show wpAny _ _ (spliced ((false,eval e X.env)::backTo pos (starEach es X.env))) _ _ s;refine N2 (thn (ha pins s σ H _ I h) λu s1 ⟨x,H1,I1,r1,q1⟩=>?_);exact thn (hr pos pins s1 σ H1 _ I1 q1) λus s2 ⟨xs,H2,I2,r2,q2⟩=>⟨x::xs,H2,I2,.cons r1 r2,q2⟩
def Ug0(t:TA):TE:=fun σ H Q=>t σ H λxs H1=>xs.length<=sizeLine/\∀p,H1 p=none->Q (.ref p) (upd H1 p (.tup xs))
def Un0(t:TA):TE:=fun σ H Q=>t σ H λxs H1=>xs.length<=sizeLine/\∀p,H1 p=none->Q (.ref p) (upd H1 p (.lst xs))
theorem Xf0{x1}(h:PA X es t):PE X (.Tuple es x1 pos) (Ug0 t):=by
 intro pins s σ H Q I hq;refine wpAny_Tuple_spliced (thn (h pos pins s σ H _ I hq) λus s1 ⟨xs,H1,I1,r,z,q⟩=>⟨by rw[← r.length];exact z,?_⟩);have hf:H1 s1.heap.objs.size=none:=I1.hok.fresh (A1 _);refine⟨.ref s1.heap.objs.size,upd H1 s1.heap.objs.size (.tup xs),I1.laid (t':=s1.toks) (λb u e=>A7 _ e) (A1 _) ?_,rfl,q _ hf⟩;exact⟨z,us,r,⟨_,B9 _ rfl,rfl,_,rfl,rfl⟩⟩
theorem gt0(h:PA X es t):PE X (.List es pos) (Un0 t):=by
 intro pins s σ H Q I hq;refine wpAny_List_spliced (thn (h pos pins s σ H _ I hq) λus s1 ⟨xs,H1,I1,r,z,q⟩=>⟨by rw[← r.length];exact z,?_⟩);have hf:H1 s1.heap.objs.size=none:=I1.hok.fresh (A1 _);refine⟨.ref s1.heap.objs.size,upd H1 s1.heap.objs.size (.lst xs),I1.laid (t':=s1.toks) (λb u e=>A7 _ e) (A1 _) ?_,rfl,q _ hf⟩;exact⟨z,us,0,r,B9 _ rfl⟩
end
abbrev Sp:=List V->Hp->VK->XK->Prop
abbrev CXT:=List Env->Hp->Shared->XK->Value->Shared->Prop
variable{sp:L2.Sp}
structure Env0(P:Program)(w:World)(K:W.Frag)(mg:Str->Option Value)(base:Heap)(A:Around)(outer:List Env)(s:Shared)(H:Hp):Prop where
 frames:A.frames=some outer
 mod:Mod K mg base
 bs:∀b o,base.get? b=some o->s.heap.get? b=some o/\H b=none
 bsz:base.objs.size<=s.heap.objs.size
 funs:s.heap.FunFrames base outer
 frf:∀b∈frs outer,H b=none
 hok:HOk P w H s.heap
 bare:AllBare s.gens
variable{CX:L2.CXT}
def CE(outer:List Env)(P:Program)(w:World)(H:Hp)(s:Shared)(Q:VK)(u:Value)(s':Shared):Prop :=
 ∃v H',s'.os=s.os/\AllBare s'.gens/\Un (frs outer) [] H H' s.heap s'.heap/\HOk P w H' s'.heap/\RelV v u/\Q v H'
def CR(CX:CXT)(outer:List Env)(P:Program)(w:World)(H:Hp)(s:Shared)(Q:VK)(E:XK)(r:Result)(s':Shared):Prop :=
 match r with
 | .ok (.ret u)=>CE outer P w H s Q u s'
 | .ok _=>False
 | .error e=>CX outer H s E e s'
structure FnOk(P:Program)(w:World)(K:W.Frag)(mg:Str->Option Value)(base:Heap)(CX:CXT)(k:Nat)(f:Addr)(fd:FuncData)(ps:List Str)(sp:Sp):Prop where
 len:∀vs H Q E,sp vs H Q E->vs.length=ps.length
 run:∀(A:Around) (outer:List Env) (s:Shared) (H:Hp) (args:Args) (us:List Value) (vs:List V) (Q:VK) (E:XK),Room k A->Env0 P w K mg base A outer s H->BindsTo s fd args (ps.zip us)->Vals vs us->sp vs H Q E ->
  codeAny (model P w) A (.call (.ref f) args) (CR CX outer P w H s Q E) s
section
variable{σ:St}{s:Shared}
theorem Inv.env0(I:Inv X pins σ H s):Env0 X.prog X.w X.K X.mg X.base X.A X.stack s H :=
 ⟨I.ok.frames,I.ok.mod,I.bs,C3 I.ok.bsz I.sz,I.stack,I.stkFree,I.hok,I.bare⟩
theorem Inv.after{Q:VK}(I:Inv X pins σ H s)(h:CE X.stack X.prog X.w H s Q u s'):EP X pins σ Q u s':=by
 obtain⟨v,H',os,bare,un,hok,r,q⟩:=h;obtain⟨hh,g,d,t,J⟩:=s';obtain rfl:J=s.os:=os;exact⟨v,H',I.call (h':=hh) (g':=g) (d':=d) (t':=t) (ch:=[]) un hok bare (λb z=>absurd z (by simp)),r,q⟩
end
def cm0(sp:Sp)(dvs:List V)(E:XK)(t:TA):TE:=fun σ H Q=>t σ H λvs H1=>sp (vs++dvs) H1 Q E
def Binds(K:W.Frag)(fd:FuncData)(ps:List Str)(ds:List Value):Prop :=
 ∀(s:Shared) (us:List Value),K.In s.heap->(us++ds).length=ps.length->BindsTo s fd ⟨us,[]⟩ (ps.zip (us++ds))
theorem Binds.all{ps:List Str}(h:∀us:List Value,us.length=ps.length->bindArgs fd ⟨us,[]⟩=pure (ps.zip us)):Binds K fd ps []:=λs us _ hl=>by
 rw[List.append_nil] at hl ⊢;exact .of_eq (h us hl)
def rs0(CX:CXT)(X:Cx)(E:XK):Prop:=∀(pins:List (Addr×Obj)) (σ:St) (H:Hp) (s:Shared) (e:Value) (s':Shared),Inv X pins σ H s->CX X.stack H s E e s'->X.xe e s'
section
variable{k:Nat}{f:Addr}{ps:List Str}{ds:List Value}{E:XK}{m:Str}{t:TA}
theorem gd0{pins:List (Addr×Obj)}{σ:St}{H:Hp}{s:Shared}{Q:VK}{us:List Value}{vs:List V}(F:FnOk X.prog X.w X.K X.mg X.base CX k f fd ps sp)(hr:Room k X.A)(hb:Binds X.K fd ps ds)(hd:Vals dvs ds)(hx:rs0 CX X E)
  (I:Inv X pins σ H s) (r:Vals vs us) (h:sp (vs++dvs) H Q E):wpAny (model X.prog X.w) X.A (call (.ref f) us) (EP X pins σ Q) X.xe s:=by
 have r2:Vals (vs++dvs) (us++ds):=r.append hd;have hl:(us++ds).length=ps.length:=by rw[← r2.length];exact F.len _ _ _ _ h
 refine wpAny_call (N4 (F.run X.A X.stack s H ⟨us,[]⟩ (us++ds) (vs++dvs) Q E hr I.env0 (hb s us I.kIn hl) r2 h) λr s' hq=>?_);cases r with
 | error e=>exact hx pins σ H s e s' I hq
 | ok fl =>
  cases fl with
  | ret u=>exact I.after hq
  | next=>exact False.elim hq
  | brk=>exact False.elim hq
  | cont=>exact False.elim hq
theorem p80(F:FnOk X.prog X.w X.K X.mg X.base CX k f fd ps sp)(hr:Room k X.A)(hg:Gl X x)(hm:X.mg x=some (.ref f))(hk:W.keepIn X.K (.ref f)=true)(hb:Binds X.K fd ps ds)(hd:Vals dvs ds)(hx:rs0 CX X E)
  (ha:PA X (e::es) t) (hdb:(x==("__debug__" : Str))=false:=by decide) (he:starEach (e::es) X.env=(false,eval e X.env)::starEach es X.env:=by rfl) (hpl:(backTo pos (starEach es X.env)).any (·.1)=false:=by rfl) :
  PE X (.Call (.Name x p) (e::es) [] pos) (cm0 sp dvs E t):=by
 intro pins s σ H Q I h;refine E1 (xb0 I hg hm ?_ hdb);refine i5 (h₀:=X.base) I.ok.mod.kin hk (thn (ha pos pins s σ H _ I h) λus s1 ⟨vs,H1,I1,r,q⟩=>⟨I1.kIn,?_⟩) he hpl;exact gd0 F hr hb hd hx I1 r q
end
structure FnScope(N P:List Str)(sc:Scope):Prop where
 kind:sc.kind=.function
 co:sc.isCoroutine=false
 gen:sc.isGenerator=false
 nd:N.Nodup
 pre:N.take P.length=P
 par:∀x∈P,sc.names.lookup x=some .local∨sc.names.lookup x=some .cell
 nofree:∀y∈sc.names,y.2≠.free
theorem pu0{kindOf:Str->Option NameKind}:∀{binds:List (Str×Value)} {m:Str->Option Value},(∀v,(x,v)∉binds)->bindL kindOf binds m x=m x
 | [],_,_=>rfl
 | (n,v)::r,m,h=>by
  unfold bindL;rw[pu0 λw hw=>h w (A5 _ hw)];split
  ·have:x≠n:=by rintro rfl;exact h v A8
   simp[this]
  ·rfl
theorem pk0{kindOf:Str->Option NameKind}:∀{binds:List (Str×Value)} {m:Str->Option Value},(∀v,(x,v)∉binds)->bindC kindOf binds m x=m x
 | [],_,_=>rfl
 | (n,v)::r,m,h=>by
  unfold bindC;rw[pk0 λw hw=>h w (A5 _ hw)];split
  ·rfl
  ·have:x≠n:=by rintro rfl;exact h v A8
   simp[this]
theorem pp0{kindOf:Str->Option NameKind}{v:Value}:∀{P:List Str} {vs:List Value} {i:Nat} {m:Str->Option Value},P.Nodup->P[i]?=some x->vs[i]?=some v->kindOf x=some .local ->
  bindL kindOf (P.zip vs) m x=some v
 | [],_,_,_,_,h,_,_=>by simp at h
 | _::_,[],_,_,_,_,h,_=>by simp at h
 | p::P,w::vs,0,m,nd,h1,h2,hk=>by
  simp at h1 h2;subst h1;subst h2;show bindL kindOf ((p,w)::P.zip vs) m p=_;unfold bindL;rw[pu0 λv hv=>(L6.mp nd).1 (U1 hv).1,if_pos hk];simp
 | p::P,w::vs,i+1,m,nd,h1,h2,hk=>by
  show bindL kindOf ((p,w)::P.zip vs) m x=_;unfold bindL;exact pp0 (i:=i) (L6.mp nd).2 (by simpa using h1) (by simpa using h2) hk
theorem om0{kindOf:Str->Option NameKind}{v:Value}:∀{P:List Str} {vs:List Value} {i:Nat} {m:Str->Option Value},P.Nodup->P[i]?=some x->vs[i]?=some v->kindOf x≠some .local ->
  bindC kindOf (P.zip vs) m x=some v
 | [],_,_,_,_,h,_,_=>by simp at h
 | _::_,[],_,_,_,_,h,_=>by simp at h
 | p::P,w::vs,0,m,nd,h1,h2,hk=>by
  simp at h1 h2;subst h1;subst h2;show bindC kindOf ((p,w)::P.zip vs) m p=_;unfold bindC;rw[pk0 λv hv=>(L6.mp nd).1 (U1 hv).1,if_neg hk];simp
 | p::P,w::vs,i+1,m,nd,h1,h2,hk=>by
  show bindC kindOf ((p,w)::P.zip vs) m x=_;unfold bindC;exact om0 (i:=i) (L6.mp nd).2 (by simpa using h1) (by simpa using h2) hk
def start(N:List Str)(vs:List V):St:=vs.map some++List.replicate (N.length - vs.length) none
def zv0(CX:CXT)(P:Program)(w:World)(K:W.Frag)(mg:Str->Option Value)(base:Heap)(N:List Str)(qual:Str)(scope:Scope)(f:Addr)(cd:Value)(A:Around)(outer:List Env)(s:Shared)(H:Hp)(E:XK):Cx where
 prog:=P
 w:=w
 K:=K
 mg:=mg
 base:=base
 A:=A.deeper (envOfC qual scope s.heap.objs.size f cd)
 N:=N
 s₀:=s
 H₀:=H
 env:=envOfC qual scope s.heap.objs.size f cd
 outer:=outer
 stack:=envOfC qual scope s.heap.objs.size f cd::outer
 ex:=[]
 calm:=true
 fn:=λ_=>true
 pn:=[]
 xe:=λe s'=>wpAny (model P w) (A.deeper (envOfC qual scope s.heap.objs.size f cd)) (leaving (envOfC qual scope s.heap.objs.size f cd) e) (λ_ s''=>CX outer H s E e s'') (λe' s''=>CX outer H s E e' s'') s'
theorem sx0(h:sc.names.lookup x=some .cell):∃c,(cellsFrom n sc.names []).lookup x=some c:=by
 have q:=i6 sc.names n [] (.inl h);exact Option.isSome_iff_exists.mp q
theorem oa0{CX:CXT}{P:Program}{w:World}{K:W.Frag}{mg:Str->Option Value}{base:Heap}{N ps:List Str}{qual:Str}{scope:Scope}{f:Addr}{cd:Value}{A:Around}{outer:List Env}{s s1:Shared}{H:Hp}{E:XK}{us:List Value}{vs:List V}
  (S:FnScope N ps scope) (hd:A.handled=none) (e0:Env0 P w K mg base A outer s H) (hl:vs.length=ps.length) (r:Vals vs us)
  (x:InCallC s s.heap.objs.size (bindL (envOfC qual scope s.heap.objs.size f cd).kindOf (ps.zip us) λ_=>none) (cellsFrom (s.heap.objs.size+1) scope.names []) (bindC (envOfC qual scope s.heap.objs.size f cd).kindOf (ps.zip us) λ_=>none) s1) :
  Inv (zv0 CX P w K mg base N qual scope f cd A outer s H E) [] (start N vs) H s1:=by
 have Y:ps.length<=N.length:=by have:=D4 List.length S.pre;rw[List.length_take] at this;omega
 obtain⟨h1,tk,rfl,hk⟩:=x.done;have J:∀b:Addr,b∉(zv0 CX P w K mg base N qual scope f cd A outer s H E).ex:=λb z=>absurd (show b∈([]:List Addr) from z) (by simp)
 refine⟨⟨e0.mod,S.kind,rfl,rfl,A1 _,λy z c h1 h2=>?_,λy hy=>?_,λy c _ h=>?_,λ_=>hd,Around.frames_deeper e0.frames,.inr ⟨rfl,rfl⟩,λb z=>absurd z (J b),e0.bs,e0.bsz,λb _ _=>J b,λb z=>absurd z (J b),e0.funs,e0.frf⟩,
  rfl,e0.bare,Un.kept hk,⟨_,x.toInCall.ns,λi y v h1 h2 h3=>?_⟩,λy c h=>⟨_,x.cell y c h⟩,e0.hok.fresh (A1 _),λy c h=>?_,λp hp=>absurd (show p∈([]:List (Addr×Obj)) from hp) (by simp),e0.hok.kept hk,?_⟩
 ·exact name_of_addr x.apart (E2 h1) (E2 h2)
 ·have hy:scope.names.lookup y=some .cell∨scope.names.lookup y=some .free:=hy
  rcases hy with hy|hy
  ·exact sx0 hy
  ·exact absurd rfl (S.nofree _ (E2 hy))
 ·exact E3 (x.above y c (E2 h))
 ·have hi:i<vs.length:=by
   unfold start at h2
   by_cases hi:i<vs.length
   ·exact hi
   ·rw[List.getElem?_append_right (by simpa using hi)] at h2
    rw[List.getElem?_replicate] at h2;split at h2<;>cases h2
  have ha:vs[i]?=some v:=by
   unfold start at h2;rw[List.getElem?_append_left (by simpa using hi),List.getElem?_map] at h2;cases e:vs[i]? with
   | none=>rw[e] at h2;cases h2
   | some a=>rw[e] at h2;cases h2;rfl
  obtain⟨u,hu,rv⟩:=r.get ha;have hp:ps[i]?=some y:=by
   rw[← S.pre,List.getElem?_take_of_lt (by omega)];exact h1
  have O:ps.Nodup:=by rw[← S.pre];exact S.nd.sublist (List.take_sublist _ _)
  refine⟨u,rv,?_⟩;rcases S.par y (D5 hp) with k|k
  ·exact .inl ⟨k,pp0 O hp hu k⟩
  ·obtain⟨c,e⟩:=sx0 (n:=s.heap.objs.size+1) k
   refine .inr ⟨.inl k,c,e,?_⟩;have q:=x.cell y c e;rw[om0 O hp hu (by show scope.names.lookup y≠_;rw[k];decide)] at q;exact q
 ·exact e0.hok.fresh (E3 (x.above y c (E2 h)))
 ·unfold start
  show _=N.length;rw[List.length_append,List.length_map,List.length_replicate];omega
theorem jn0{CX:CXT}{P:Program}{w:World}{K:W.Frag}{mg:Str->Option Value}{base:Heap}{k:Nat}{f:Addr}{name qual:Str}{params:Arguments}{body:List Stmt}{scope:Scope}{dV kV doc pm cdv ct oc:Value}{an od:Option Addr}
  {osl:Array (Option Value)} {N ps:List Str} {sp:Sp} (lk:K.lookup f=some ⟨oc,od,.func (W.fnOf name qual params body scope dV kV doc pm an cdv ct),osl⟩) (hcd:W.codeIn K cdv qual=true) (S:FnScope N ps scope)
  (len:∀vs H Q E,sp vs H Q E->vs.length=ps.length)
  (hbody:∀(A:Around) (outer:List Env) (s:Shared) (H:Hp) (vs:List V) (Q:VK) (E:XK),Room k (A.deeper (envOfC qual scope s.heap.objs.size f cdv))->sp vs H Q E ->
   ∃t,PSs (zv0 CX P w K mg base N qual scope f cdv A outer s H E) body t/\t { nx:=λ_ H'=>Q .non H',rt:=Q } (start N vs) H) :
  FnOk P w K mg base CX (k+1) f (W.fnOf name qual params body scope dV kV doc pm an cdv ct) ps sp:=by
 refine⟨len,λA outer s H a2 us vs Q E hr e0 hb r Z=>?_⟩;have hl:=len _ _ _ _ Z;have KX:K.In s.heap:=e0.mod.kin.keeps λb o e=>(e0.bs b o e).1
 have a1:s.heap.NoLimit:=e0.mod.nolimit.keeps λb o e=>(e0.bs b o e).1
 have O:∀y∈ps.zip us,scope.names.lookup y.1=some .local∨(scope.names.lookup y.1=some .cell/\((cellsFrom (s.heap.objs.size+1) scope.names []).lookup y.1).isSome=true):=λ⟨n,v⟩ hy=>by
  rcases S.par n (U1 hy).1 with q|q
  ·exact .inl q
  ·exact .inr ⟨q,i6 _ _ _ (.inl q)⟩
 refine codeAny_call_function hr.depth (KX _ _ lk) rfl S.co S.gen rfl (W.codeRec_of KX hcd) (hb _ _ _ _ ?_);refine A30 S.kind O λenv he s1 x=>?_
 subst he;refine⟨a1.keeps x.toInCall.keep,codeAny_func ?_⟩;obtain⟨t,ht,hq⟩:=hbody A outer s H vs Q E (hr.deeper _) Z;have I:Inv (zv0 CX P w K mg base N qual scope f cdv A outer s H E) [] (start N vs) H s1:=oa0 S hr.hd e0 hl r x;refine C5 (ht [] s1 (start N vs) H _ I hq) (λfl s' hs=>?_) λe s' hs=>hs
 have Y:∀{σ':St} {H':Hp} {v:V} {u:Value},Inv (zv0 CX P w K mg base N qual scope f cdv A outer s H E) [] σ' H' s'->RelV v u->Q v H'->CE outer P w H s Q u s' :=
  λ{σ' H' v u} J rv q=>⟨v,H',J.os,J.bare,J.base,J.hok,rv,q⟩
 cases fl with
 | ret u =>
  obtain⟨v,σ',H',J,rv,q⟩:=hs;exact Y J rv q
 | next =>
  obtain⟨σ',H',J,q⟩:=hs;exact Y (v:=V.non) (u:=Value.none) J rfl q
 | brk =>
  obtain⟨_,_,_,q⟩:=hs;exact False.elim q
 | cont =>
  obtain⟨_,_,_,q⟩:=hs;exact False.elim q
section
variable{t:TA}{id T:String}
def tCB(r:List V->Hp->VK->Prop)(t:TA):TE:=fun σ H Q=>t σ H λvs H1=>r vs H1 Q
theorem su0(hc:CallR X (.builtin id) r)(hg:Gl X x)(hm:X.mg x=none)(hv:bootBuiltins x=some (.builtin id))(ha:PA X (e::es) t)(hn:x ≠"__name__" := by decide)(hdb:(x==("__debug__" : Str))=false:=by decide)
  (he:starEach (e::es) X.env=(false,eval e X.env)::starEach es X.env:=by rfl) (hpl:(backTo pos (starEach es X.env)).any (·.1)=false:=by rfl):PE X (.Call (.Name x p) (e::es) [] pos) (tCB r t):=by
 intro pins s σ H Q I h;refine E1 (y00 I hg hm hv ?_ hn hdb);exact PyProof.Rows.callWith_builtin1 (thn (ha pos pins s σ H _ I h) λus s1 ⟨vs,H1,I1,r1,q1⟩=>hc pins s1 σ H1 vs us Q I1 r1 q1) he hpl
theorem th0(hc:CallR X (.type T) r)(hg:Gl X x)(hm:X.mg x=none)(hv:bootBuiltins x=some (.type T))(ha:PA X (e::es) t)(hn:x ≠"__name__" := by decide)(hdb:(x==("__debug__" : Str))=false:=by decide)
  (he:starEach (e::es) X.env=(false,eval e X.env)::starEach es X.env:=by rfl) (hpl:(backTo pos (starEach es X.env)).any (·.1)=false:=by rfl):PE X (.Call (.Name x p) (e::es) [] pos) (tCB r t):=by
 intro pins s σ H Q I h;refine E1 (y00 I hg hm hv ?_ hn hdb);exact E8 (thn (ha pos pins s σ H _ I h) λus s1 ⟨vs,H1,I1,r1,q1⟩=>hc pins s1 σ H1 vs us Q I1 r1 q1) he hpl
end
end L2
variable{X:L2.Cx}{xs dvs:List L2.V}{H H' H1 H2 H₀:L2.Hp}{σ:List (Option L2.V)}{v:L2.V}{ta tb te ty:L2.TE}{r:List L2.V->L2.Hp->L2.VK->Prop}{CX:L2.CXT}{sp:L2.Sp}{kvs:List (L2.Key×L2.V)}
namespace HT
open PyProof.Rows
section
variable{w:World}{A:Around}{s:Shared}
theorem Z20{t b:Addr}{vs ws:List Value}{Q:Value->Shared->Prop}(ht:IsTup s.heap t vs.toArray)(hb:IsTup s.heap b ws.toArray)(hv:vs≠[])
  (h1:ws=[]->Q (.ref t) s) (h2:ws≠[]->Q (.ref s.heap.objs.size) { s with heap:=s.heap.push { cls:=.type "tuple",data:=.seq (vs++ws).toArray } })
  (hsz:vs.length+ws.length<=sizeLine):wpAny (model prog w) A (binaryOp .Add (.ref t) (.ref b)) Q E s:=by
 obtain⟨⟨cls,dd,data,sl⟩,ho,hc,n,hd⟩:=id ht;obtain⟨⟨a2,Y,data2,a1⟩,J,O,n2,Z⟩:=id hb;simp only at hc hd O Z;subst hc hd O Z;have e:vs.toArray++ws.toArray=(vs++ws).toArray:=by simp
 by_cases hw:ws=[]
 ·exact U2 ⟨_,ho,rfl⟩ ⟨_,J,rfl⟩ i7 i8 i9 j2 (j3 _ _)
   (tuple_addW1 t b vs.toArray ws.toArray n n2 dd Y sl a1 (by simpa using hv) (by simp[hw])) ⟨ho,J,h1 hw⟩
 ·refine U2 ⟨_,ho,rfl⟩ ⟨_,J,rfl⟩ i7 i8 i9 j2 (j3 _ _)
   (tuple_addW2 t b vs.toArray ws.toArray n n2 dd Y sl a1 (by simpa using hv) (by simpa using hw) (by rw[List.size_toArray,List.size_toArray];exact hsz)) ⟨ho,J,?_⟩
  rw[e];exact h2 hw
def sIx(n d:Nat):Option Int->Nat
 | none=>d
 | some v=>if v<0 then (v+(n:Int)).toNat else min v.toNat n
theorem Xv0(n d:Nat)(hd:d<=n)(o:Option Int):sIx n d o<=n:=by
 cases o with
 | none=>exact hd
 | some v =>
  show (if v<0 then (v+(n:Int)).toNat else min v.toNat n)<=n
  by_cases hv:v<0
  ·rw[if_pos hv];omega
  ·rw[if_neg hv];exact A50 _ _
theorem kx0(v:Int)(n d:Nat):(if v<0 then max (v+(n:Int)) 0 else min v (n:Int))=((sIx n d (some v):Nat):Int):=by
 show (if v<0 then max (v+(n:Int)) 0 else min v (n:Int))=(((if v<0 then (v+(n:Int)).toNat else min v.toNat n):Nat):Int)
 by_cases hv:v<0
 ·simp only[if_pos hv];omega
 ·simp only[if_neg hv];omega
theorem jy0(lo hi:Option Int)(n:Nat):Builtin.Slice.sliceAdjust lo hi 1 (n:Int)=(((sIx n 0 lo:Nat):Int),((sIx n n hi:Nat):Int)):=by
 have h1:¬((1:Int)<0):=by omega
 unfold Builtin.Slice.sliceAdjust;simp only[h1,if_false];refine Prod.ext ?_ ?_
 ·cases lo with
  | none=>rfl
  | some v=>exact kx0 v n 0
 ·cases hi with
  | none=>rfl
  | some v=>exact kx0 v n n
theorem jv0(i j:Nat):Builtin.Slice.slicePlaces (i:Int) (j:Int) 1=j - i:=by
 unfold Builtin.Slice.slicePlaces;have h1:(1:Int) > 0:=by omega
 simp only[h1,if_true,Int.ediv_one];split<;>omega
theorem ri0{v:Value}{o:Option Int}{Q:Option Int->Shared->Prop}(p:IsPart v o)(h:Q o s):wpAny (model prog w) A (Builtin.Slice.slicePartIndex v) Q E s:=by
 cases p with
 | none=>exact slicePart_none h
 | int i t=>exact slicePart_int h
theorem wv0{sl:Addr}{hi:Option Int}{n:Nat}{Q:Int×Int×Nat->Shared->Prop}(hs:s.heap.IsSliceOf sl vl vu .none)(pl:IsPart vl lo)(pu:IsPart vu hi)
  (h:Q (((sIx n 0 lo:Nat):Int),1,sIx n n hi - sIx n 0 lo) s):wpAny (model prog w) A (Builtin.Slice.sliceApplied (.ref sl) (pure (n:Int))) Q E s:=by
 obtain⟨os,J,Y,O⟩:=id hs;unfold Builtin.Slice.sliceApplied Builtin.Slice.sliceFields;refine A0 (A0 (D0 J O (x:=vl) rfl (A0 (D0 J O (x:=vu) rfl (A0 (D0 J O (x:=.none) rfl (A2 ?_)))))));refine A0 (slicePart_none ?_);show wpAny _ _ (if ((1:Int)==0)=true then _ else _) _ _ s;rw[if_neg (by decide)];refine A0 (ri0 pl (A0 (ri0 pu (A0 (A2 ?_)))));show wpAny _ _ (match Builtin.Slice.sliceAdjust lo hi 1 (n:Int) with|(lo,hi)=>pure (lo,(1:Int),Builtin.Slice.slicePlaces lo hi 1)) _ _ s;rw[jy0 lo hi n];show wpAny _ _ (pure (((sIx n 0 lo:Nat):Int),(1:Int),Builtin.Slice.slicePlaces ((sIx n 0 lo:Nat):Int) ((sIx n n hi:Nat):Int) 1)) _ _ s;rw[jv0];exact A2 h
theorem ey0(xs:Array Value)(i k:Nat):((List.range k).filterMap λ(m:Nat)=>xs[((i:Int)+(m:Int)*1).toNat]?).toArray=((xs.toList.drop i).take k).toArray:=by
 have e:(λ(m:Nat)=>xs[((i:Int)+(m:Int)*1).toNat]?)=λm=>xs[i+m]?:=by
  funext m
  have:((i:Int)+(m:Int)*1).toNat=i+m:=by omega
  rw[this]
 rw[e];have:=pick_run xs i k;rw[List.filterMap_map] at this;have e2:((λx=>xs[x]?) ∘ λx=>i+x)=λm=>xs[i+m]?:=rfl
 rw[e2] at this;rw[this]
theorem sb0{t sl:Addr}{hi:Option Int}{Q:Value->Shared->Prop}(ht:IsTup s.heap t items)(hs:s.heap.IsSliceOf sl vl vu .none)(pl:IsPart vl lo)(pu:IsPart vu hi)
  (hw:¬(sIx items.size 0 lo=0/\sIx items.size items.size hi=items.size))
  (h:Q (.ref s.heap.objs.size) { s with heap:=s.heap.push { cls:=.type "tuple",data:=.seq ((items.toList.drop (sIx items.size 0 lo)).take (sIx items.size items.size hi - sIx items.size 0 lo)).toArray } })
  (hsz:items.size<=sizeLine):wpAny (model prog w) A (getItem (.ref t) (.ref sl)) Q E s:=by
 have J:sizeOk (.seq ((items.toList.drop (sIx items.size 0 lo)).take (sIx items.size items.size hi - sIx items.size 0 lo)).toArray):=by
  show ((items.toList.drop (sIx items.size 0 lo)).take (sIx items.size items.size hi - sIx items.size 0 lo)).toArray.size<=sizeLine;rw[List.size_toArray,List.length_take,List.length_drop,Array.length_toList];omega
 have hj:sIx items.size items.size hi<=items.size:=Xv0 _ _ (A1 _) hi;obtain⟨os,Y,a1,a2⟩:=id hs;have Z:s.TypeIs (.ref sl) "slice" := ⟨os,Y,a1⟩;unfold getItem
 try with_reducible refine D8 ?_
 first|refine A0 (A2 ?_)|skip
 refine A0 (wpAny_sequenceKey ht.typeIs (by decide) ?_);refine A0 (W1 (name:=Str.ofString "__getitem__") ht.typeIs L7
  (X0 L7 ht.typeIs entry_tuple_getitem ?_ (args_tuple_getitem _ _)))
 show wpAny _ _ (Builtin.Tuple.tupleItemsOf (.ref t)>>=_) _ _ s;refine A0 (tupleItemsOf_ ht ?_);refine A0 (L8 Z ?_);rw[if_pos (by decide)];refine A0 (wv0 hs pl pu ?_);have O:¬((((sIx items.size 0 lo:Nat):Int)==0&&(1:Int)==1&&(sIx items.size items.size hi - sIx items.size 0 lo)==items.size)=true):=by
  intro q;rw[Bool.and_eq_true,Bool.and_eq_true] at q;have q1:((sIx items.size 0 lo:Nat):Int)=0:=eq_of_beq q.1.1;have q2:sIx items.size items.size hi - sIx items.size 0 lo=items.size:=eq_of_beq q.2;exact hw ⟨by omega,by omega⟩
 show wpAny _ _ (if (((sIx items.size 0 lo:Nat):Int)==0&&(1:Int)==1&&(sIx items.size items.size hi - sIx items.size 0 lo)==items.size)=true then _ else _) _ _ s;rw[if_neg O,ey0]
 first
  | exact A0 (m:=Builtin.Tuple.tupleExact _) (E9 (A2 ⟨_,rfl,A2 h⟩) J)
  | exact A0 (m:=Builtin.Tuple.tupleExact _) (E9 (A0 (A2 (A2 ⟨_,rfl,A2 h⟩))) J)
  | exact A0 (A0 (m:=Builtin.Tuple.tupleExact _) (E9 (A2 (A2 ⟨_,rfl,A2 h⟩)) J))
  | exact A0 (A0 (m:=Builtin.Tuple.tupleExact _) (E9 (A2 ⟨_,rfl,A2 h⟩) J))
end
end HT
namespace L2
open Spec PyProof.Rows
abbrev TO:=St->Hp->(Option Int->Hp->Prop)->Prop
def PO(X:Cx)(e:Option Expr)(t:TO):Prop :=
 ∀(pins:List (Addr×Obj)) (s:Shared) (σ:St) (H:Hp) (Q:Option Int->Hp->Prop),Inv X pins σ H s->t σ H Q ->
  wpAny (model X.prog X.w) X.A (evalPart e X.env) (λu s'=>∃o H',Inv X pins σ H' s'/\IsPart u o/\Q o H') X.xe s
def b20:TO:=λ_ H Q=>Q none H
def Vo0(t:TE):TO:=fun σ H Q=>t σ H λx H1=>∃i,x=.int i/\Q (some i) H1
section
variable{lo hi:Option Expr}{tl th:TO}
theorem ab0:PO X none b20:=by
 intro pins s σ H Q I h;rw[evalPart_none];exact A2 ⟨none,H,I,.none,h⟩
theorem az0(h:PE X e te):PO X (some e) (Vo0 te):=by
 intro pins s σ H Q I hw;rw[evalPart_some];refine thn (h pins s σ H _ I hw) λu s1 ⟨x,H1,I1,r1,q1⟩=>?_
 obtain⟨i,rfl,q⟩:=q1;obtain⟨t,rfl⟩:=r1;exact⟨some i,H1,I1,.int i t,q⟩
def SlR(X:Cx)(r:V->Option Int->Option Int->Hp->VK->Prop):Prop :=
 ∀(pins:List (Addr×Obj)) (s:Shared) (σ:St) (H:Hp) (x:V) (v vl vu:Value) (lo hi:Option Int) (sl:Addr) (Q:VK),Inv X pins σ H s->RelV x v->s.heap.IsSliceOf sl vl vu .none->IsPart vl lo->IsPart vu hi->r x lo hi H Q ->
  ∃T id,typeLookup (.type T) "__getitem__"=pure (some (.builtin id))/\s.TypeIs v T/\wpAny (model X.prog X.w) X.A (getItem v (.ref sl)) (EP X pins σ Q) X.xe s
theorem SlR.or{r r':V->Option Int->Option Int->Hp->VK->Prop}(h:SlR X r)(h':SlR X r'):SlR X (λx lo hi H Q=>r x lo hi H Q∨r' x lo hi H Q):=by
 intro pins s σ H x v vl vu lo hi sl Q I rx hs pl pu q;rcases q with q|q
 ·exact h pins s σ H x v vl vu lo hi sl Q I rx hs pl pu q
 ·exact h' pins s σ H x v vl vu lo hi sl Q I rx hs pl pu q
def tSl(r:V->Option Int->Option Int->Hp->VK->Prop)(te:TE)(tl th:TO):TE:=fun σ H Q=>te σ H λx H1=>tl σ H1 λl H2=>th σ H2 λu H3=>r x l u H3 Q
theorem dh0{r:V->Option Int->Option Int->Hp->VK->Prop}(hr:SlR X r)(he:PE X e te)(hl:PO X lo tl)(hu:PO X hi th):PE X (.Subscript e (.Slice lo hi none p2) pos) (tSl r te tl th):=by
 intro pins s σ H Q I h;refine Subscript_ (thn (he pins s σ H _ I h) λv s1 ⟨x,H1,I1,r1,q1⟩=>?_);refine wpAny_Slice (thn (hl pins s1 σ H1 _ I1 q1) λvl s2 ⟨l,H2,I2,pl,q2⟩=>thn (hu pins s2 σ H2 _ I2 q2) λvu s3 ⟨u,H3,I3,pu,q3⟩=>?_);rw[evalPart_none];refine A2 ?_;have I4:Inv X pins σ H3 { s3 with heap:=s3.heap.push { cls:=.type "slice",data:=.fields #[vl,vu,.none] } }:=I3.kept (t':=s3.toks) λb ob q=>A7 _ q
 obtain⟨T,id,hT,ht,hg⟩:=hr pins { s3 with heap:=s3.heap.push { cls:=.type "slice",data:=.fields #[vl,vu,.none] } } σ H3 x v vl vu l u s3.heap.objs.size Q I4 r1 (Heap.IsSliceOf.new ..) pl pu q3;show wpAny (model X.prog X.w) X.A (subscriptTail e (.Slice lo hi none p2) v (.ref s3.heap.objs.size)) (EP X pins σ Q) X.xe { s3 with heap:=s3.heap.push { cls:=.type "slice",data:=.fields #[vl,vu,.none] } };exact tail_any (ops:=[.ref s3.heap.objs.size,v]) ht hT hg (by with_unfolding_all rfl)
def ti0(xs:List V)(lo hi:Option Int):List V:=(xs.drop (HT.sIx xs.length 0 lo)).take (HT.sIx xs.length xs.length hi - HT.sIx xs.length 0 lo)
theorem sn0(xs:List V)(lo hi:Option Int):(ti0 xs lo hi).length<=xs.length:=by
 unfold ti0;rw[List.length_take,List.length_drop];omega
def Ul0(K:W.Frag):V->Option Int->Option Int->Hp->VK->Prop:=λx lo hi H Q=>∃a xs,x=.ref a/\SqT K H a xs /\
 ¬(HT.sIx xs.length 0 lo=0/\HT.sIx xs.length xs.length hi=xs.length)/\∀p,H p=none->Q (.ref p) (upd H p (.tup (ti0 xs lo hi)))
theorem Yj0:SlR X (Ul0 X.K):=by
 intro pins s σ H x v vl vu lo hi sl Q I rx hs pl pu h;obtain⟨a,xs,rfl,hx,hw,q⟩:=h;cases rx;obtain⟨its,r,ht,hz⟩:=I.tuple hx;have J:its.toArray.size=xs.length:=by rw[List.size_toArray];exact r.length.symm
 refine⟨"tuple",_,L7.lookup,ht.typeIs,?_⟩;refine HT.sb0 ht hs pl pu (by rw[J];exact hw) ?_ (by rw[J];exact hz);rw[J];refine⟨.ref s.heap.objs.size,_,I.laid (t':=s.toks) (o:=.tup (ti0 xs lo hi)) (λb ob q=>A7 _ q) (A1 _) ?_,rfl,q _ (I.hok.fresh (A1 _))⟩;exact⟨C3 (sn0 xs lo hi) hz,_,(r.drop (HT.sIx xs.length 0 lo)).take (HT.sIx xs.length xs.length hi - HT.sIx xs.length 0 lo),IsTupN.new _ _⟩
def ch0(K:W.Frag):R2:=λx y H Q=>∃a b xs ys,x=.ref a/\y=.ref b/\SqT K H a xs/\SqT K H b ys/\xs≠[]/\xs.length+ys.length<=sizeLine /\
 (ys=[]->Q (.ref a) H)/\(ys≠[]->∀p,H p=none->Q (.ref p) (upd H p (.tup (xs++ys))))
theorem Vals.nil_iff(r:Vals xs us):us=[]↔xs=[]:=by
 cases r with
 | nil=>simp
 | cons _ _=>simp
theorem bw0:OpR X (binaryOp .Add) (ch0 X.K):=by
 intro pins s σ H x y v u Q I rx ry h;obtain⟨a,b,xs,ys,rfl,rfl,ha,hb,hx,hz,q1,q2⟩:=h;cases rx;cases ry;obtain⟨its,r1,p1,_⟩:=I.tuple ha;obtain⟨J,r2,p2,_⟩:=I.tuple hb;refine HT.Z20 p1 p2 (λz=>hx (r1.nil_iff.mp z)) (λz=>⟨.ref a,H,I,rfl,q1 (r2.nil_iff.mp z)⟩) (λz=>?_) (by rw[← r1.length,← r2.length];exact hz);refine⟨.ref s.heap.objs.size,_,I.laid (t':=s.toks) (o:=.tup (xs++ys)) (λb ob q=>A7 _ q) (A1 _) ?_,rfl,q2 (λw=>z (r2.nil_iff.mpr w)) _ (I.hok.fresh (A1 _))⟩;exact⟨by rw[List.length_append];exact hz,_,r1.append r2,IsTupN.new _ _⟩
end
def ixN(n:Nat)(i:Int):Option Nat:=if 0<=i then (if i<n then some i.toNat else none) else if -(n:Int)<=i then some (i+n).toNat else none
def atI{α:Type}(xs:List α)(i:Int):Option α:=(ixN xs.length i).bind λj=>xs[j]?
theorem bx0{i:Int}(h:ixN n i=some j):seqIndex? i n=some j/\j<n/\-(n:Int)<=i/\i<n:=by
 unfold ixN at h
 by_cases h0:0<=i
 ·rw[if_pos h0] at h
  by_cases h1:i<n
  ·rw[if_pos h1] at h
   have e:i.toNat=j:=B6 h;exact⟨by rw[seqIndex_of h0 h1,e],by omega,by omega,h1⟩
  ·rw[if_neg h1] at h;cases h
 ·rw[if_neg h0] at h
  by_cases h1:-(n:Int)<=i
  ·rw[if_pos h1] at h
   have e:(i+n).toNat=j:=B6 h;exact⟨by rw[seqIndex_neg (by omega) h1,e],by omega,h1,by omega⟩
  ·rw[if_neg h1] at h;cases h
theorem pe0{xs:List α}{i:Int}{v:α}(h:atI xs i=some v):∃j,seqIndex? i xs.length=some j/\xs[j]?=some v/\j<xs.length/\-(xs.length:Int)<=i/\i<xs.length:=by
 unfold atI at h;cases e:ixN xs.length i with
 | none=>rw[e] at h;cases h
 | some j =>
  rw[e] at h;obtain⟨h1,h2,h3,h4⟩:=bx0 e;exact⟨j,h1,h,h2,h3,h4⟩
def s70(b:Expr):Prop:=∀o i,subscripted b false o i=operate [o,i] (getItem o i)
def IxR(X:Cx)(r:R2):Prop :=
 ∀(value slice:Expr) (pins:List (Addr×Obj)) (s:Shared) (σ:St) (H:Hp) (x y:V) (v u:Value) (Q:VK),Inv X pins σ H s->RelV x v->RelV y u->r x y H Q ->
  subscripted slice false v u=operate [v,u] (getItem v u)->wpAny (model X.prog X.w) X.A (subscriptTail value slice v u) (EP X pins σ Q) X.xe s
def MtR(X:Cx)(id:String)(r:V->List V->Hp->VK->Prop):Prop :=
 ∀(pins:List (Addr×Obj)) (s:Shared) (σ:St) (H:Hp) (x:V) (xs:List V) (v:Value) (us:List Value) (Q:VK),Inv X pins σ H s->RelV x v->Vals xs us->r x xs H Q ->
  wpAny (model X.prog X.w) X.A (call (.builtin id) (v::us)) (EP X pins σ Q) X.xe s
section
variable{a:Expr}
theorem IxR.or{r r':R2}(h:IxR X r)(h':IxR X r'):IxR X (λx y H Q=>r x y H Q∨r' x y H Q):=by
 intro value slice pins s σ H x y v u Q I rx ry q hs;rcases q with q|q
 ·exact h value slice pins s σ H x y v u Q I rx ry q hs
 ·exact h' value slice pins s σ H x y v u Q I rx ry q hs
theorem cy0{r:R2}(hr:IxR X r)(ha:PE X a ta)(hb:PE X b tb)(hs:s70 b):PE X (.Subscript a b pos) (tOp r ta tb):=by
 intro pins s σ H Q I h;exact Subscript_ (d10 ha hb I h λv u s2 x y H2 I2 rx ry q=>hr a b pins s2 σ H2 x y v u Q I2 rx ry q (hs _ _))
def Zu0(K:W.Frag):R2:=λx y H Q=>∃p xs i v,x=.ref p/\y=.int i/\SqL K H p xs/\atI xs i=some v/\Q v H
def Y00(K:W.Frag):R2:=λx y H Q=>∃p xs i v,x=.ref p/\y=.int i/\SqT K H p xs/\atI xs i=some v/\Q v H
def Xp0:R2:=λx y H Q=>∃z i c,x=.str z/\y=.int i/\z.length<=sizeLine/\atI z.cps.toList i=some c/\Q (.str ⟨#[c]⟩) H
theorem bz0:IxR X (Zu0 X.K):=by
 intro value slice pins s σ H x y v u Q I rx ry h hs;obtain⟨p,xs,i,z,rfl,rfl,hq,he,q⟩:=h;cases rx;obtain⟨t,rfl⟩:=ry;obtain⟨its,r,pl,hz⟩:=I.list hq;obtain⟨j,h1,h2,h3,h4,h5⟩:=pe0 he;obtain⟨w,ew,O⟩:=r.get h2;have hl:=r.length;have hn:=vo0;have J:EP X pins σ Q w s:=⟨z,H,I,O,q⟩
 by_cases h0:0<=i
 ·have hj:i.toNat=j:=by
   rw[seqIndex_of h0 h5] at h1;exact B6 h1
  exact item_listR pl.isList h0 (by omega) (by rw[hj];simpa using ew) J hs
 ·have hj:(i+(its.toArray.size:Int)).toNat=j:=by
   rw[seqIndex_neg (by omega) h4] at h1;rw[List.size_toArray,← hl];exact B6 h1
  exact subscriptTail_builtinR (x:=w) pl.isList.typeIs k7.lookup
   (wpAny_getItem_list_neg (Q:=λr s'=>r=w/\EP X pins σ Q r s') pl.isList (by omega) (by rw[List.size_toArray]<;>omega) (by omega) (by rw[hj];simpa using ew) ⟨rfl,J⟩) hs
theorem h90:IxR X (Y00 X.K):=by
 intro value slice pins s σ H x y v u Q I rx ry h hs;obtain⟨p,xs,i,z,rfl,rfl,hq,he,q⟩:=h;cases rx;obtain⟨t,rfl⟩:=ry;obtain⟨its,r,pl,hz⟩:=I.tuple hq;obtain⟨j,h1,h2,h3,h4,h5⟩:=pe0 he;obtain⟨w,ew,O⟩:=r.get h2;have hl:=r.length;have hn:=vo0;have J:EP X pins σ Q w s:=⟨z,H,I,O,q⟩;exact subscriptTail_builtinR (x:=w) pl.typeIs slot_tuple_getitem.lookup
  (getItem_tuple (j:=j) (Q:=λr s'=>r=w/\EP X pins σ Q r s') pl (by omega) (by omega) (by rw[List.size_toArray,← hl];exact h1) (by simpa using ew) ⟨rfl,J⟩) hs
theorem Yc0:IxR X Xp0:=by
 intro value slice pins s σ H x y v u Q I rx ry h hs;obtain⟨z,i,c,rfl,rfl,hz,he,q⟩:=h;obtain⟨t,rfl⟩:=rx;obtain⟨t',rfl⟩:=ry;obtain⟨j,h1,h2,h3,h4,h5⟩:=pe0 he;have hl:z.cps.toList.length=z.length:=by simp[Str.length]
 rw[hl] at h1 h4 h5;have hn:=vo0;exact tail_any (L9 s z t) slot_str_getitem.lookup (getItem_str (c:=c) (by
  have e1:decide (i < -(2 ^ 63:Int))=false:=M2 (by omega);have e2:decide (i ≥ 2 ^ 63)=false:=M2 (by omega);rw[e1,e2,Bool.or_false]) (by rw[h1];simpa using h2) ⟨.str ⟨#[c]⟩,H,I.tok _,⟨_,rfl⟩,q⟩) hs
def rIx(K:W.Frag):R2:=λx y H Q=>Zu0 K x y H Q∨Y00 K x y H Q∨Xp0 x y H Q
theorem Zy0:IxR X (rIx X.K):=bz0.or (h90.or Yc0)
theorem la0(lo hi:Option Int)(n:Nat):(sliceBounds lo hi none n).1=((HT.sIx n 0 lo:Nat):Int)/\(sliceBounds lo hi none n).2.1=((HT.sIx n n hi:Nat):Int)/\(sliceBounds lo hi none n).2.2=1:=by
 refine⟨?_,?_,rfl⟩
 ·cases lo with
  | none=>simp[sliceBounds,HT.sIx]
  | some i =>
   simp only[sliceBounds,HT.sIx,Option.getD_none,show (1:Int) > 0 by decide,if_true]
   by_cases h:i<0
   ·simp only[h,if_true]<;>omega
   ·simp only[h,if_false]<;>omega
 ·cases hi with
  | none=>simp[sliceBounds,HT.sIx]
  | some i =>
   simp only[sliceBounds,HT.sIx,Option.getD_none,show (1:Int) > 0 by decide,if_true]
   by_cases h:i<0
   ·simp only[h,if_true]<;>omega
   ·simp only[h,if_false]<;>omega
theorem ou0(its:List Value)(lo hi:Option Int):slicePick its.toArray lo hi none=((its.drop (HT.sIx its.length 0 lo)).take (HT.sIx its.length its.length hi - HT.sIx its.length 0 lo)).toArray:=by
 obtain⟨h1,h2,h3⟩:=la0 lo hi its.toArray.size;unfold slicePick;rw[h1,h2,h3];simp only[sliceRange_one,pick_run,List.size_toArray]<;>rfl
def U50(K:W.Frag):V->Option Int->Option Int->Hp->VK->Prop:=λx lo hi H Q=>∃a xs,x=.ref a/\SqL K H a xs/\∀p,H p=none->Q (.ref p) (upd H p (.lst (ti0 xs lo hi)))
theorem bc0:SlR X (U50 X.K):=by
 intro pins s σ H x v vl vu lo hi sl Q I rx hs pl pu h;obtain⟨a,xs,rfl,hx,q⟩:=h;cases rx;obtain⟨its,r,ht,hz⟩:=I.list hx;have J:=r.length;refine⟨"list",_,k7.lookup,ht.isList.typeIs,?_⟩;refine Af0 ht.isList hs pl pu .none (by simp) ?_ (by rw[List.size_toArray]<;>omega);rw[ou0,← J];refine⟨.ref s.heap.objs.size,_,I.laid (t':=s.toks) (o:=.lst (ti0 xs lo hi)) (λb ob q=>A7 _ q) (A1 _) ?_,rfl,q _ (I.hok.fresh (A1 _))⟩;exact⟨C3 (sn0 xs lo hi) hz,_,0,(r.drop (HT.sIx xs.length 0 lo)).take (HT.sIx xs.length xs.length hi - HT.sIx xs.length 0 lo),B9 _ rfl⟩
def yx0:V->Bool
 | .non=>true
 | .bl _=>true
 | .int _=>true
 | .str _=>true
 | _=>false
def eqV:V->V->Bool
 | .non,.non=>true
 | .bl a,.bl b=>a==b
 | .bl a,.int b=>(if a then 1 else 0)==b
 | .int a,.bl b=>a==(if b then 1 else 0)
 | .int a,.int b=>a==b
 | .str a,.str b=>a==b
 | _,_=>false
theorem X70{A:Around}{s:Shared}{y x:V}{v:Value}(ry:RelV y u)(rx:RelV x v)(fy:yx0 y=true)(fx:yx0 x=true):SeqAt.EqAt A s u v (eqV y x):=by
 cases y with
 | non =>
  cases ry;cases x with
  | non=>cases rx;exact SeqAt.EqAt.same _
  | bl b=>cases rx;exact SeqAt.EqAt.none_bool b
  | int b=>obtain⟨t,rfl⟩:=rx;exact SeqAt.EqAt.none_int b t
  | str b=>obtain⟨t,rfl⟩:=rx;exact SeqAt.EqAt.none_str b t
  | _=>exact absurd (show false=true from fx) B5
 | bl a =>
  cases ry;cases x with
  | non=>cases rx;exact SeqAt.EqAt.bool_none a
  | bl b=>cases rx;exact SeqAt.EqAt.bool_bool a b
  | int b=>obtain⟨t,rfl⟩:=rx;exact SeqAt.EqAt.bool_int a b t
  | str b=>obtain⟨t,rfl⟩:=rx;exact SeqAt.EqAt.bool_str a b t
  | _=>exact absurd (show false=true from fx) B5
 | int a =>
  obtain⟨t',rfl⟩:=ry;cases x with
  | non=>cases rx;exact SeqAt.EqAt.int_none a t'
  | bl b=>cases rx;exact SeqAt.EqAt.int_bool a t' b
  | int b=>obtain⟨t,rfl⟩:=rx;exact SeqAt.EqAt.int_int a t' b t
  | str b=>obtain⟨t,rfl⟩:=rx;exact SeqAt.EqAt.int_str a t' b t
  | _=>exact absurd (show false=true from fx) B5
 | str a =>
  obtain⟨t',rfl⟩:=ry;cases x with
  | non=>cases rx;exact SeqAt.EqAt.str_none a t'
  | bl b=>cases rx;exact SeqAt.EqAt.str_bool a t' b
  | int b=>obtain⟨t,rfl⟩:=rx;exact SeqAt.EqAt.str_int a t' b t
  | str b=>obtain⟨t,rfl⟩:=rx;exact SeqAt.EqAt.str_str a t' b t
  | _=>exact absurd (show false=true from fx) B5
 | _=>exact absurd (show false=true from fy) B5
def eqU(x:V)(u:Value):Bool:=match u with
 | .none=>eqV .non x
 | .bool b=>eqV (.bl b) x
 | .int i _=>eqV (.int i) x
 | .str z _=>eqV (.str z) x
 | _=>false
theorem gh0{x y:V}(r:RelV y u)(f:yx0 y=true):eqU x u=eqV y x:=by
 cases y with
 | non=>cases r;rfl
 | bl b=>cases r;rfl
 | int i=>obtain⟨t,rfl⟩:=r;rfl
 | str z=>obtain⟨t,rfl⟩:=r;rfl
 | _=>exact absurd (show false=true from f) B5
theorem p10{x:V}:∀{xs:List V} {us:List Value},Vals xs us->xs.all yx0=true->us.any (eqU x)=xs.any λy=>eqV y x
 | _,_,.nil,_=>rfl
 | y::xs,u::us,.cons r t,f=>by
  rw[List.all_cons,Bool.and_eq_true] at f;rw[List.any_cons,List.any_cons,gh0 r f.1,p10 t f.2]
theorem ub0{A:Around}{s:Shared}{x:V}{v:Value}(rx:RelV x v)(fx:yx0 x=true):∀{xs:List V} {us:List Value},Vals xs us->xs.all yx0=true->∀u∈us,SeqAt.EqAt A s u v (eqU x u)
 | _,_,.nil,_=>λu hu=>by cases hu
 | y::xs,u::us,.cons r t,f=>λu' hu=>by
  rw[List.all_cons,Bool.and_eq_true] at f;rcases B0.mp hu with rfl|hu
  ·rw[gh0 r f.1];exact X70 r rx f.1 fx
  ·exact ub0 rx fx t f.2 u' hu
def inV(x:V)(xs:List V):Bool:=xs.any λy=>eqV y x
def rIn(K:W.Frag)(neg:Bool):R2:=λx y H Q=>∃p xs,y=.ref p/\(SqL K H p xs∨SqT K H p xs)/\yx0 x=true/\xs.all yx0=true/\Q (.bl (if neg then !inV x xs else inV x xs)) H
theorem nz0:OpR X (compareOp .NotIn) (rIn X.K true):=by
 intro pins s σ H x y v u Q I rx ry h;obtain⟨p,xs,rfl,hq,fx,fs,q⟩:=h;cases ry;rcases hq with hq|hq
 ·obtain⟨its,r,pl,hz⟩:=I.list hq
  refine SeqAt.notIn_listAt (eqU x) pl.isList (λw hw=>ub0 rx fx r fs w (by simpa using hw)) ⟨.bl _,H,I,rfl,?_⟩;rw[show its.toArray.any (eqU x)=its.any (eqU x) by simp,p10 r fs];exact q
 ·obtain⟨its,r,pl,hz⟩:=I.tuple hq
  refine SeqAt.notIn_tupleAt (eqU x) pl (λw hw=>ub0 rx fx r fs w (by simpa using hw)) ⟨.bl _,H,I,rfl,?_⟩;rw[show its.toArray.any (eqU x)=its.any (eqU x) by simp,p10 r fs];exact q
theorem le0:CallR X (.builtin "len") (λxs H Q=>∃p ys,xs=[.ref p]/\(SqL X.K H p ys∨SqT X.K H p ys)/\Q (.int ys.length) H):=by
 intro pins s σ H xs us Q I r h;obtain⟨p,ys,rfl,hq,q⟩:=h;obtain⟨u,rfl,rx⟩:=vals1 r;cases rx;have hn:=vo0;rcases hq with hq|hq
 ·obtain⟨its,r',pl,hz⟩:=I.list hq
  have J:=r'.length;exact Calls.call_len_list pl.isList (by simp only[List.size_toArray]<;>omega) ⟨.int ys.length,H,I.tok _,⟨s.toks+1,by rw[List.size_toArray,J]⟩,q⟩
 ·obtain⟨its,r',pl,hz⟩:=I.tuple hq
  have J:=r'.length;exact len_tuple pl (by simp only[List.size_toArray]<;>omega) ⟨.int ys.length,H,I.tok _,⟨s.toks+1,by rw[List.size_toArray,J]⟩,q⟩
theorem ml0:CallR X (.builtin "len") (λxs H Q=>∃z,xs=[.str z]/\z.length<=sizeLine/\Q (.int z.length) H):=by
 intro pins s σ H xs us Q I r h;obtain⟨z,rfl,hz,q⟩:=h;obtain⟨u,rfl,t,rfl⟩:=vals1 r;have hn:=vo0;exact len_str (by omega) ⟨.int z.length,H,I.tok _,⟨_,rfl⟩,q⟩
theorem CallR.or{f:Value}{r':List V->Hp->VK->Prop}(h:CallR X f r)(h':CallR X f r'):CallR X f (λxs H Q=>r xs H Q∨r' xs H Q):=by
 intro pins s σ H xs us Q I rs q;rcases q with q|q
 ·exact h pins s σ H xs us Q I rs q
 ·exact h' pins s σ H xs us Q I rs q
theorem m90:CallR X (.type "list") (λxs H Q=>∃p ys,xs=[.ref p]/\(SqL X.K H p ys∨SqT X.K H p ys)/\∀l,H l=none->Q (.ref l) (upd H l (.lst ys))):=by
 intro pins s σ H xs us Q I r h;obtain⟨p,ys,rfl,hq,q⟩:=h;obtain⟨u,rfl,rx⟩:=vals1 r;cases rx;have J:∀(its:List Value),Vals ys its->ys.length<=sizeLine->∀(h':Heap) (c':Nat),(∀b o',s.heap.get? b=some o'->h'.get? b=some o') ->
   h'.get? s.heap.objs.size=some { cls:=.type "list",dict:=none,data:=.seq its.toArray c',slots:=#[] }->EP X pins σ Q (.ref s.heap.objs.size) { s with heap:=h' }:=λits r' hz h' c' kp e =>
  ⟨.ref s.heap.objs.size,_,I.laid (t':=s.toks) kp (A1 _) (show ObjOk X.prog X.w _ h' _ (.lst ys) from ⟨hz,its,c',r',e⟩),rfl,q _ (I.hok.fresh (A1 _))⟩
 rcases hq with hq|hq
 ·obtain⟨its,r',pl,hz⟩:=I.list hq
  have O:=r'.length;obtain⟨o,ho,hc,n,hd⟩:=pl.isList;exact call_list_seq p (.inl rfl) ho hc hd (λh' c' kp e=>J its r' hz h' c' kp e) (by simp only[List.size_toArray]<;>omega)
 ·obtain⟨its,r',pl,hz⟩:=I.tuple hq
  have O:=r'.length;obtain⟨o,ho,hc,n,hd⟩:=pl;exact call_list_seq p (.inr rfl) ho hc hd (λh' c' kp e=>J its r' hz h' c' kp e) (by simp only[List.size_toArray]<;>omega)
theorem U7:CallR X (.type "tuple") (λxs H Q=>∃p ys,xs=[.ref p]/\((SqL X.K H p ys/\∀l,H l=none->Q (.ref l) (upd H l (.tup ys)))∨(SqT X.K H p ys/\Q (.ref p) H))):=by
 intro pins s σ H xs us Q I r h;obtain⟨p,ys,rfl,h⟩:=h;obtain⟨u,rfl,rx⟩:=vals1 r;cases rx;rcases h with⟨hq,q⟩|⟨hq,q⟩
 ·obtain⟨its,r',pl,hz⟩:=I.list hq
  have J:=r'.length;refine call_tuple_list pl.isList (λh' kp=>?_) (by simp only[List.size_toArray]<;>omega);have I1:Inv X pins σ H { s with heap:=h' }:=I.kept (t':=s.toks) kp;have I2:Inv X pins σ (upd H h'.objs.size (.tup ys)) { s with heap:=h'.push { cls:=.type "tuple",data:=.seq its.toArray } } :=
   I1.laid (t':=s.toks) (λb o e=>A7 _ e) (A1 _) (show ObjOk X.prog X.w _ _ _ (.tup ys) from ⟨hz,its,r',IsTupN.new _ _⟩)
  exact⟨.ref h'.objs.size,_,I2,rfl,q _ (I1.hok.fresh (A1 _))⟩
 ·obtain⟨its,r',pl,hz⟩:=I.tuple hq
  exact call_tuple_same pl ⟨.ref p,H,I,rfl,q⟩
def tyV(K:W.Frag)(T:String)(x:V)(H:Hp):Prop:=match x with
 | .str _=>T = "str"
 | .int _=>T = "int"
 | .ref p=>(T = "list"/\∃xs,SqL K H p xs)∨(T = "tuple"/\∃o,K.lookup p=some o/\o.cls=.type "tuple"/\o.dict=none) ∨
   (T = "dict"/\((∃kvs,H p=some (.dK kvs))∨∃kvs,H p=some (.dT kvs)))∨(T = "set"/\∃S n,H p=some (.set S n))
 | _=>False
theorem gn0{σ:St}{s:Shared}{T:String}{x:V}{v:Value}(I:Inv X pins σ H s)(r:RelV x v)(ty:tyV X.K T x H) :
  s.TypeIs v T/\∀a,v=.ref a->∃ob,s.heap.get? a=some ob/\ob.dict=none:=by
 cases x with
 | str z =>
  obtain⟨t,rfl⟩:=r;cases (show T = "str" from ty);exact⟨L9 s z t,λ_ e=>nomatch e⟩
 | int i =>
  obtain⟨t,rfl⟩:=r;cases (show T = "int" from ty);exact⟨N9 s i t,λ_ e=>nomatch e⟩
 | ref p =>
  cases r;rcases ty with⟨rfl,xs,hq⟩|⟨rfl,o,hk,hc,hd⟩|⟨rfl,hk⟩|⟨rfl,S,n,hk⟩
  ·obtain⟨its,_,pl,_⟩:=I.list hq
   refine⟨pl.isList.typeIs,λa e=>?_⟩;cases e;obtain⟨o,n,e,c,hd,_⟩:=pl;exact⟨o,e,hd⟩
  ·refine⟨⟨o,I.kIn p o hk,hc⟩,λa e=>?_⟩
   cases e;exact⟨o,I.kIn _ o hk,hd⟩
  ·have z:∃o,s.heap.get? p=some o/\o.ExactDict:=by
    rcases hk with⟨kvs,hk⟩|⟨kvs,hk⟩
    ·obtain⟨_,_,_,_,o,_,_,e,ex,_⟩:=I.hok p _ hk
     exact⟨o,e,ex⟩
    ·obtain⟨_,_,_,_,o,_,_,e,ex,_⟩:=I.hok p _ hk
     exact⟨o,e,ex⟩
   obtain⟨o,e,ex⟩:=z;refine⟨⟨o,e,ex.1⟩,λa e2=>?_⟩;cases e2;exact⟨o,e,ex.2.1⟩
  ·obtain⟨o,_,_,_,e,ex,_⟩:=I.hok p _ hk
   refine⟨⟨o,e,ex.1⟩,λa e2=>?_⟩;cases e2;exact⟨o,e,ex.2.1⟩
 | _=>exact False.elim ty
def U90(K:W.Frag)(T:String)(r:V->List V->Hp->VK->Prop)(to:TE):TE:=fun σ H Q=>to σ H λx H1=>tyV K T x H1/\r x [] H1 Q
def tBM(K:W.Frag)(T:String)(r:V->List V->Hp->VK->Prop)(to:TE)(t:TA):TE:=fun σ H Q=>to σ H λx H1=>tyV K T x H1/\t σ H1 λxs H2=>r x xs H2 Q
variable{to:TE}{t:TA}{T id:String}{r:V->List V->Hp->VK->Prop}
theorem Ya0(pa:PlainAttrs T)(slot:Slot T name id)(hty:typeOf (.builtin id)=pure (.type "method_descriptor"))(hm:MtR X id r)(ho:PE X o to)
  (hbase:attributeBase o name X.env (eval o X.env)=eval o X.env:=by rfl) (hline:(apos.endLine==cpos.line)=true:=by rfl):PE X (.Call (.Attribute o name apos) [] [] cpos) (U90 X.K T r to):=by
 intro pins s σ H Q I h;refine wpAny_Call_method0_late hbase hline (thn (ho pins s σ H _ I h) λv s1 ⟨x,H1,I1,r1,ty,q1⟩=>?_);obtain⟨h1,h2⟩:=gn0 I1 r1 ty;exact⟨T,id,pa,slot,hty,h1,h2,Ah0 rfl (PySem.evalArgs_none (hm pins s1 σ H1 x [] v [] Q I1 r1 .nil q1))⟩
theorem tu0(pa:PlainAttrs T)(slot:Slot T name id)(hty:typeOf (.builtin id)=pure (.type "method_descriptor"))(hm:MtR X id r)(ho:PE X o to)(ha:PA X (e::es) t)
  (hbase:attributeBase o name X.env (eval o X.env)=eval o X.env:=by rfl)
  (hfew:((backTo cpos (starEach (e::es) X.env)).all (λx=>!x.1)&&(backToKw cpos (keywordEach [] X.env)).all (λx=>x.1.isSome)
  &&decide ((e::es).length+([]:List Keyword).length+(if ([]:List Keyword).isEmpty then 0 else 1)<30))=true:=by rfl)
  (hline:(apos.endLine==cpos.line)=true:=by rfl) (hs:starEach (e::es) X.env=(false,eval e X.env)::starEach es X.env:=by rfl) (hplain:(backTo cpos (starEach es X.env)).any (·.1)=false:=by rfl) :
  PE X (.Call (.Attribute o name apos) (e::es) [] cpos) (tBM X.K T r to t):=by
 intro pins s σ H Q I h;refine wpAny_Call_method_late hbase hfew hline rfl (thn (ho pins s σ H _ I h) λv s1 ⟨x,H1,I1,r1,ty,q1⟩=>?_);obtain⟨h1,h2⟩:=gn0 I1 r1 ty;refine⟨T,id,pa,slot,hty,h1,h2,?_⟩;have hA:=ha cpos pins s1 σ H1 _ I1 q1;rw[hs] at hA ⊢;refine Ah0 (by show (false||(backTo cpos (starEach es X.env)).any (·.1))=false;rw[hplain]<;>rfl) (Calls.evalArgs_plain ?_);exact thn hA λus s2 ⟨vs,H2,I2,r2,q2⟩=>hm pins s2 σ H2 x vs v us Q I2 r1 r2 q2
end
def MtM(X:Cx)(id:String)(r:V->List V->Hp->VK->Prop):Prop :=
 ∀(pins:List (Addr×Obj)) (s:Shared) (σ:St) (H:Hp) (x:V) (xs:List V) (v:Value) (us:List Value) (Q:VK),Inv X pins σ H s->RelV x v->Vals xs us->r x xs H Q ->
  wpAny (model X.prog X.w) X.A (call (.builtin id) (v::us)) (EP X pins σ Q) X.xe s
theorem Vals.one:∀{x:V} {us:List Value},Vals [x] us->∃u,us=[u]/\RelV x u
 | _,_,.cons r .nil=>⟨_,rfl,r⟩
theorem Vals.two:∀{x y:V} {us:List Value},Vals [x,y] us->∃u v,us=[u,v]/\RelV x u/\RelV y v
 | _,_,_,.cons r (.cons q .nil)=>⟨_,_,rfl,r,q⟩
theorem Vals.zero:∀{us:List Value},Vals [] us->us=[]
 | _,.nil=>rfl
theorem Vals.dropLast(h:Vals xs us):Vals xs.dropLast us.dropLast:=by
 induction h with
 | nil=>exact .nil
 | cons r t ih =>
  cases t with
  | nil=>exact .nil
  | cons q t'=>exact .cons r ih
theorem Vals.reverse(h:Vals xs us):Vals xs.reverse us.reverse:=by
 induction h with
 | nil=>exact .nil
 | cons r t ih=>rw[List.reverse_cons,List.reverse_cons];exact Vals.append ih (.cons r .nil)
theorem Vals.rep(h:Vals xs us):∀k:Nat,Vals (List.replicate k xs).flatten (List.replicate k us).flatten
 | 0=>.nil
 | k+1=>by
  rw[List.replicate_succ,List.replicate_succ,List.flatten_cons,List.flatten_cons];exact Vals.append h (Vals.rep h k)
theorem i30(l:List α):l.eraseIdx (l.length - 1)=l.dropLast:=by
 induction l with
 | nil=>rfl
 | cons a r ih =>
  cases r with
  | nil=>rfl
  | cons b r =>
   have e:(a::b::r).length - 1=((b::r).length - 1)+1:=by
    have h1:(a::b::r).length=r.length+2:=rfl;have h2:(b::r).length=r.length+1:=rfl;omega
   rw[e,List.eraseIdx_cons_succ,ih]
   all_goals rfl
theorem foldl_rep(its:List Value):∀(k:Nat) (acc:List Value),
  List.foldl (λx1 x2=>x1++x2) acc.toArray (List.replicate k its.toArray)=(acc++(List.replicate k its).flatten).toArray
 | 0,acc=>by simp
 | k+1,acc=>by
  have e:acc.toArray++its.toArray=(acc++its).toArray:=by simp
  have e2:(acc++its)++(List.replicate k its).flatten=acc++(List.replicate (k+1) its).flatten:=by
   rw[List.replicate_succ,List.flatten_cons,List.append_assoc]
  rw[← e2,← foldl_rep its k (acc++its),← e,List.replicate_succ,List.foldl_cons]
section
variable{σ:St}{s:Shared}{l b:Addr}{ys zs:List V}
theorem Inv.lset{its its':List Value}{n:Nat}{f:Array Value->Array Value}{t':Nat}(I:Inv X pins σ H s)(hH:H l=some (.lst xs))
  (e:s.heap.get? l=some { cls:=.type "list",data:=.seq its.toArray n }) (hf:f its.toArray=its'.toArray) (hv:Vals ys its') (hz:ys.length<=sizeLine) :
  Inv X pins σ (upd H l (.lst ys)) { s with heap:=s.heap.update l (Obj.mapSeq f),toks:=t' }:=by
 have q:=PySem.IsL.update e f;rw[hf] at q;refine I.write (x:=l) (e:=l) (by rw[hH];exact trivial) (.inl rfl) (λb' u hb hu=>(E4 s.heap (Obj.mapSeq f) (A4 hb)).trans hu) ⟨_,q⟩ ?_;exact⟨hz,its',_,hv,q⟩
theorem Inv.lnew{its:List Value}{t':Nat}(I:Inv X pins σ H s)(hv:Vals ys its)(hz:ys.length<=sizeLine) :
  Inv X pins σ (upd H s.heap.objs.size (.lst ys)) { s with heap:=s.heap.push { cls:=.type "list",data:=.seq its.toArray },toks:=t' } :=
 I.laid (λ_ _ q=>A7 _ q) (A1 _) ⟨hz,its,0,hv,B9 _ rfl⟩
theorem Inv.fresh(I:Inv X pins σ H s):H s.heap.objs.size=none:=I.hok.fresh (A1 _)
theorem Inv.lstM(I:Inv X pins σ H s)(hH:H l=some (.lst xs)):xs.length<=sizeLine/\∃(its:List Value) (n:Nat),Vals xs its/\xs.length=its.length/\s.heap.get? l=some { cls:=.type "list",data:=.seq its.toArray n }:=by
 obtain⟨z,its,n,r,e⟩:=I.hok l _ hH;exact⟨z,its,n,r,r.length,e⟩
theorem c30(h:n<=sizeLine):Builtin.List.listTooLong n=false:=by
 unfold Builtin.List.listTooLong;exact M2 (by omega)
end
def Z10:V->List V->Hp->VK->Prop:=λx vs H Q=>∃l xs y,x=.ref l/\vs=[y]/\H l=some (.lst xs)/\xs.length<sizeLine/\Q .non (upd H l (.lst (xs++[y])))
theorem tg0:MtM X "list.append" Z10:=by
 intro pins s σ H x vs v us Q I rx rv h;obtain⟨l,xs,y,rfl,rfl,hH,hz,q⟩:=h;cases rx;obtain⟨u,rfl,ru⟩:=rv.one;obtain⟨z,its,n,r,hl,e⟩:=I.lstM hH;refine K2 F.slot_list_append ⟨_,e,rfl⟩ F.entry_list_append (F.args_list_append_2 _ _) (PySem.list_append l its.toArray n u (by rw[List.size_toArray];omega)) ⟨e,?_⟩;refine⟨.non,_,I.lset (its':=its++[u]) hH e (by simp) (r.append (.cons ru .nil)) ?_,rfl,q⟩;rw[List.length_append,List.length_singleton];omega
def Uf0:V->List V->Hp->VK->Prop:=λx vs H Q=>∃l xs y,x=.ref l/\vs=[]/\H l=some (.lst xs)/\xs[xs.length - 1]?=some y/\Q y (upd H l (.lst xs.dropLast))
theorem Zr0:MtM X "list.pop" Uf0:=by
 intro pins s σ H x vs v us Q I rx rv h;obtain⟨l,xs,y,rfl,rfl,hH,hy,q⟩:=h;cases rx;have O:=rv.zero;subst O;obtain⟨z,its,n,r,hl,e⟩:=I.lstM hH;obtain⟨u,hu,ru⟩:=r.get hy;have J:its.toArray[its.toArray.size - 1]?=some u:=by
  show its.toArray[its.length - 1]?=some u;rw[← Array.getElem?_toList,← hl];exact hu
 refine K2 F.slot_list_pop ⟨_,e,rfl⟩ F.entry_list_pop (F.args_list_pop_1 _) (MeetsSeq.list_pop_last l its.toArray n u J (by rw[List.size_toArray];omega)) ⟨e,?_⟩;refine⟨y,_,I.lset (its':=its.dropLast) hH e ?_ r.dropLast ?_,ru,q⟩
 ·show its.toArray.eraseIdxIfInBounds (its.toArray.size - 1)=its.dropLast.toArray
  rw[List.size_toArray,List.eraseIdxIfInBounds_toArray,i30]
 ·rw[List.length_dropLast]
  omega
theorem len_rep(xs:List α)(k:Nat):(List.replicate k xs).flatten.length=k*xs.length:=by
 induction k with
 | zero=>simp
 | succ k ih=>rw[List.replicate_succ,List.flatten_cons,List.length_append,ih,Nat.succ_mul,Nat.add_comm]
end L2
namespace Att
open PySem.W PySem.Calls PyProof.Rows
theorem qe0{P:Params}{h:Heap}:∀(ns:List Int) (vs:List Value),WellAll P h vs (ns.map WData.int)->IntsAre vs ns:=by
 intro ns
 induction ns with
 | nil =>
  intro vs w;rw[List.map_nil] at w;cases w;exact .nil
 | cons n ns ih =>
  intro vs w;rw[List.map_cons] at w;cases w with
  | cons a b =>
   cases a;exact .cons _ _ (ih _ b)
theorem fs0{l:OpenLaw}(hn:l.most=some n){P:Params}{h:Heap}{args:List WData}{vals:List Value}
  (hpre:l.row.toRowW.claim.pre args=true) (hwl:WellAll P h vals args) :
  ∃a vs ns,vals=[Value.ref a]/\args=[WData.list (ns.map WData.int)]/\h.get? a=some { cls:=.type "list",data:=.seq vs.toArray }/\IntsAre vs ns/\ns.length<=n:=by
 have O:WShape.hasAll [] args [.list .int]=true:=(pre_splitW hpre).1;have hc:l.pre.holds [] { args:=args }=true:=(pre_splitW hpre).2;obtain⟨d,r,rfl,h1,h2⟩:=hasAllW_cons O;obtain rfl:=hasAllW_nil h2;obtain⟨xs,rfl,h3⟩:=hasW_list h1;obtain⟨ns,rfl⟩:=items_int h3;have J:ns.length<=n:=by
  unfold OpenLaw.pre at hc;have h4:(WTm.not (.lt (.lit (.int (n:Int))) (.len (.arg 0)))).holds [] { args:=[.list (ns.map .int)] }=true:=by
   have h4:=(holds_andW hc).1;rw[hn] at h4;exact h4
  have h5:=condW_of h4 (w_not (w_lt w_lit (w_len_list (w_arg rfl))));rw[List.length_map] at h5;refine Nat.le_of_not_lt λq=>?_
  have q':(n:Int)<((ns.length:Nat):Int):=by omega
  first
   | (rw[decide_eq_true q'] at h5;exact absurd h5 (by decide))
   | (simp at h5;omega)
 cases hwl with
 | cons w1 w2 =>
  cases w2;cases w1 with
  | list ho hall=>exact⟨_,_,ns,rfl,rfl,ho,qe0 ns _ hall,J⟩
theorem gm0(l:OpenLaw)(args:List WData):l.row.toRowW.claim.post args (.bool true) args=true :=
 postW_of (r:=l.row.toRowW) (X:=(true==true))
  (show WShape.has [] (.bool true) .bool=true by first|rfl|decide|simp[WShape.has,WShape.arms,WShape.armsAll])
  (show (WTm.eq .res (.lit (.bool true))).value [] { args:=args,res:=some (.bool true),after:=args }=some (.bool (true==true)) from w_eq_bool (w_res rfl) w_lit) rfl
end Att
namespace L2
open Spec PyProof.Rows
theorem pq0:∀{vs:List Value} {ns:List Int},IntsAre vs ns->Vals (ns.map V.int) vs
 | _,_,.nil=>.nil
 | _,_,.cons n t h=>.cons ⟨t,rfl⟩ (pq0 h)
def W5(s:Stmt):Arguments:=match s with
 | .FunctionDef _ a _ _ _ _ _ _ _ _=>a
 | _=>{ posonlyargs:=[],args:=[],vararg:=none,kwonlyargs:=[],kw_defaults:=[],kwarg:=none,defaults:=[] }
def Z2(s:Stmt):List Stmt:=match s with
 | .FunctionDef _ _ b _ _ _ _ _ _ _=>b
 | _=>[]
def u5(s:Stmt):Scope:=match s with
 | .FunctionDef _ _ _ _ _ _ sc _ _ _=>sc
 | _=>{ kind:=.function,names:=[],isGenerator:=false,isCoroutine:=false }
abbrev CX0:CXT:=λ_ _ _ _ _ _=>False
abbrev E0:XK:=λ_ _ _=>False
theorem nf0:rs0 CX0 X E0:=λ_ _ _ _ _ _ _ h=>h.elim
structure Fun(K:W.Frag)(x qual:Str)(st:Stmt)(f:Addr)(fd:FuncData):Prop where
 ex:∃(oc:Value) (od:Option Addr) (kV doc pm:Value) (an:Option Addr) (cdv ct:Value) (osl:Array (Option Value)),
  fd=W.fnOf x qual (W5 st) (Z2 st) (u5 st) .none kV doc pm an cdv ct/\K.lookup f=some ⟨oc,od,.func fd,osl⟩/\W.codeIn K cdv qual=true
 kp:W.keepIn K (.ref f)=true
section
variable{P:Program}{w:World}
theorem Fun.ok{f:Addr}{ps:List Str}{k:Nat}(F:Fun K x qual st f fd)(S:FnScope N ps (u5 st))(len:∀vs H Q E,sp vs H Q E->vs.length=ps.length)
  (hbody:∀(cdv:Value) (A:Around) (outer:List Env) (s:Shared) (H:Hp) (vs:List V) (Q:VK) (E:XK),Room k (A.deeper (envOfC qual (u5 st) s.heap.objs.size f cdv))->sp vs H Q E ->
   ∃t,PSs (zv0 CX0 P w K mg base N qual (u5 st) f cdv A outer s H E).nox (Z2 st) t/\t { nx:=λ_ H'=>Q .non H',rt:=Q } (start N vs) H):FnOk P w K mg base CX0 (k+1) f fd ps sp:=by
 obtain⟨oc,od,kV,doc,pm,an,cdv,ct,osl,rfl,lk,hcd⟩:=F.ex;refine jn0 lk hcd S len λA outer s H vs Q E hr J=>?_
 obtain⟨t,h,q⟩:=hbody cdv A outer s H vs Q E hr J;exact⟨t,h.nox,q⟩
theorem Fun.binds{f:Addr}{ps:List Str}(F:Fun K x qual st f fd)
  (h:∀(kV doc pm:Value) (an:Option Addr) (cdv ct:Value) (us:List Value),us.length=ps.length->bindArgs (W.fnOf x qual (W5 st) (Z2 st) (u5 st) .none kV doc pm an cdv ct) ⟨us,[]⟩=pure (ps.zip us)):Binds K fd ps []:=by
 obtain⟨oc,od,kV,doc,pm,an,cdv,ct,osl,rfl,lk,hcd⟩:=F.ex;exact .all (h kV doc pm an cdv ct)
theorem mv0{f:Addr}{kV:Value}(l:K.lookup f=some ⟨oc,od,.func (W.fnOf x qual (W5 st) (Z2 st) (u5 st) .none kV doc pm an cdv ct),osl⟩)
  (c:W.codeIn K cdv qual=true) (k:W.keepIn K (.ref f)=true):Fun K x qual st f (W.fnOf x qual (W5 st) (Z2 st) (u5 st) .none kV doc pm an cdv ct):=⟨⟨oc,od,kV,doc,pm,an,cdv,ct,osl,rfl,l,c⟩,k⟩
end
theorem y60{A:Around}{k:Nat}(hr:Room k A):A.units+1<cLine:=O0 (Nat.add_le_add_left (by decide:1<=64) _) hr.units
def Same(H H':Hp):Prop:=∀b o,H b=some o->H' b=some o
theorem Same.refl(H:Hp):Same H H:=λ_ _ h=>h
theorem Same.trans(a:Same H H1)(b:Same H1 H2):Same H H2:=λc o h=>b c o (a c o h)
theorem Same.free(e:Same H H'){l:Addr}(h:H' l=Option.none):H l=Option.none:=by
 cases q:H l with
 | none=>rfl
 | some o =>
  rw[e l o q] at h;cases h
def Its(x:Str):It:=⟨λi _=>i<x.cps.size,λi H v H'=>H'=H/\∃c,x.cps[i]?=some c/\v=.str ⟨#[c]⟩,λi _=>x.cps.size<=i⟩
theorem mh0{P:Program}{w:World}{K:W.Frag}{tg:Expr}(it:Addr)(T:String)(hT:T = "str_ascii_iterator"∨T = "str_iterator")(x:Str)(t:Tok) :
  Turn P w K tg (Its x) [it] it (λi h=>h.IsStrIter it T x t i) where
 mem:=by simp
 obj:=λi h st b hb=>by
  have e:b=it:=by simpa using hb
  subst e;obtain⟨o,e,c,d⟩:=st;exact⟨o,e,λv z=>by rw[d] at z;cases z⟩
 keep:=λi h h' st k=>by
  obtain⟨o,e,r⟩:=st;exact⟨o,k it (by simp) o e,r⟩
 item:=by
  intro X hP hw hK hc i pins s σ H E I hf st hg;subst hP hw hK;have Y:i<x.cps.size:=hg;have hx:x.cps[i]?=some x.cps[i]:=by simp[Y]
  obtain⟨f0,f1,f2,f3,f4,f5⟩:=hf it (by simp);have O:∀h',h'.IsStrIter it T x t (i+1)->Heap.SameBut it s.heap h' ->
    ∃u,(some (Value.str ⟨#[x.cps[i]]⟩ s.toks))=some u/\wpAny (model X.prog X.w) X.A (letOwnedTupleGo tg (.ref it) u) (λ_ s2=>∃x_1 H',Inv X pins σ H' s2/\RelV x_1 u/\(Its x).yld i H x_1 H'/\s2.heap.IsStrIter it T x t (i+1)/\∀b∈[it],H' b=none) E { s with heap:=h',toks:=s.toks+1 }:=by
   intro h' J sb;have I1:Inv X pins σ H { s with heap:=h',toks:=s.toks+1 }:=I.turned (λb o hb e=>(sb.2 b hb).trans e) f0 f1 f3 f4 f5;obtain⟨o,e,c,d⟩:=id J;refine⟨_,rfl,nd0 (s:={ s with heap:=h',toks:=s.toks+1 }) (n:=T) e c d (by rcases hT with rfl|rfl<;>decide) ⟨.str ⟨#[x.cps[i]]⟩,H,I1,⟨_,rfl⟩,⟨rfl,_,hx,rfl⟩,J,λb hb=>(hf b hb).1⟩⟩
  rcases hT with rfl|rfl
  ·exact wpAny_pyNext_ascii_item st hx λh' J sb=>O h' J sb
  ·exact wpAny_pyNext_wide_item st hx λh' J sb=>O h' J sb
 done:=by
  intro X hP hw hK hc i pins s σ H E I hf st hg;subst hP hw hK;have Z:x.cps.size<=i:=hg;have hx:x.cps[i]?=none:=by simp[Z]
  obtain⟨f0,f1,f2,f3,f4,f5⟩:=hf it (by simp);rcases hT with rfl|rfl
  ·exact wpAny_pyNext_ascii_end (I.ok.hd hc) st hx λh' eb=>⟨rfl,I.turned (t':=s.toks) (λb o hb e=>eb b o hb e) f0 f1 f3 f4 f5⟩
  ·exact wpAny_pyNext_wide_end (I.ok.hd hc) st hx λh' eb=>⟨rfl,I.turned (t':=s.toks) (λb o hb e=>eb b o hb e) f0 f1 f3 f4 f5⟩
 self:=λ_ _ _ _ _ st h=>by
  rcases hT with rfl|rfl
  ·exact wpAny_pyIter_striter_ascii st h
  ·exact wpAny_pyIter_striter_wide st h
def Vz0(te:TE):TI:=fun σ H R=>te σ H λv H1=>∃x,v=.str x/\R (Its x) H1
theorem X40{tg:Expr}(he:PE X e te):PI X tg e (Vz0 te):=by
 intro pins s σ H R I h;refine thn (he pins s σ H _ I h) λv s1 ⟨y,H1,I1,r1,q1⟩=>?_
 obtain⟨x,rfl,q⟩:=q1;obtain⟨t,rfl⟩:=r1;have fp:∀(o:Obj),∀b∈[s1.heap.objs.size],wy0 X pins H1 b:=λo b hb=>by
  have e:b=s1.heap.objs.size:=by simpa using hb
  subst e;exact I1.fpOk (A1 _) (I1.hok.fresh (A1 _))
 cases ha:x.cps.all (·<128) with
 | true =>
  exact wpAny_pyIter_ascii ha ⟨s1.heap.objs.size,[s1.heap.objs.size],_,_,H1,rfl,I1.kept (t':=s1.toks) λb o e=>A7 _ e,mh0 _ "str_ascii_iterator" (.inl rfl) x t,⟨_,B9 _ rfl,rfl,rfl⟩,fp default,q⟩
 | false =>
  exact wpAny_pyIter_wide ha ⟨s1.heap.objs.size,[s1.heap.objs.size],_,_,H1,rfl,I1.kept (t':=s1.toks) λb o e=>A7 _ e,mh0 _ "str_iterator" (.inr rfl) x t,⟨_,B9 _ rfl,rfl,rfl⟩,fp default,q⟩
def Z9(X:Cx)(scope:Scope)(cl:List (Str×Addr))(N':List Str)(s:Shared)(H:Hp)(ex:List Addr):Cx :=
 { X with N:=N',s₀:=s,H₀:=H,env:=compEnvC scope cl s.heap.objs.size X.env,outer:=X.stack,ex:=ex,fn:=λ_=>false,pn:=[],xe:=λ_ _=>False }
structure CompOk(sc scope:Scope)(N N':List Str)(n:Nat)(caps:List Nat):Prop where
 kind:scope.kind=.function
 nocell:∀y∈scope.names,y.2≠.cell
 loc:∀y∈scope.names,y.2=.local->scope.names.lookup y.1=some .local
 free:∀y∈scope.names,y.2=.free->sc.names.lookup y.1=some .cell∨sc.names.lookup y.1=some .free
 nd:N'.Nodup
 len:N'.length=n+caps.length
 cap:∀k∈List.range caps.length,N'[n+k]?=(caps[k]?).bind (N[·]?)/\(N'[n+k]?).all (λy=>scope.names.lookup y==some .free)=true
def O7(n:Nat)(caps:List Nat)(σ:St):St:=List.replicate n none++caps.map λj=>(σ[j]?).join
theorem g40(n:Nat)(caps:List Nat)(σ:St):(O7 n caps σ).length=n+caps.length:=by simp[O7]
theorem wx0{env:Env}:∀(names:List (Str×NameKind)),(∀x∈names,x.2=.free->∃c,env.cells.lookup x.1=some c)->∀acc:List (Str×Addr),
  ∃cl:List (Str×Addr),(forIn names acc (λ(x:Str×NameKind) (cs:List (Str×Addr))=>if (x.2==.free)=true then do let a ← cellOf env x.1;pure (ForInStep.yield ((x.1,a)::cs)) else pure (ForInStep.yield cs)):Sem (List (Str×Addr)))=pure cl /\
   (∀y c,cl.lookup y=some c->env.cells.lookup y=some c∨acc.lookup y=some c)/\(∀x∈names,x.2=.free->∃c,cl.lookup x.1=some c)/\(∀y c,acc.lookup y=some c->∃c',cl.lookup y=some c')
 | [],_,acc=>⟨acc,rfl,λ_ _ h=>.inr h,(λ_ h=>nomatch h),λ_ c h=>⟨c,h⟩⟩
 | (n,k)::r,h,acc=>by
  cases hk:(k==NameKind.free) with
  | true =>
   have hk':k=.free:=by simpa using hk
   obtain⟨c,hc⟩:=h (n,k) A8 hk';obtain⟨cl,e,h1,h2,h3⟩:=wx0 r (λx hx=>h x (A5 _ hx)) ((n,c)::acc);refine⟨cl,?_,λy d hy=>?_,λx hx hf=>?_,λy d hy=>?_⟩
   ·rw[List.forIn_cons]
    simp only[hk,if_true,cellOf,hc,pure_bind];exact e
   ·rcases h1 y d hy with z|z
    ·exact .inl z
    ·rw[List.lookup_cons] at z
     cases q:(y==n) with
     | true =>
      rw[q] at z;cases z;have:y=n:=by simpa using q
      subst this;exact .inl hc
     | false =>
      rw[q] at z;exact .inr z
   ·rcases B0.mp hx with rfl|hx
    ·exact h3 n c (by simp[List.lookup_cons])
    ·exact h2 x hx hf
   ·by_cases q:y=n
    ·subst q
     exact h3 y c (by simp[List.lookup_cons])
    ·refine h3 y d ?_
     have:(y==n)=false:=by simpa using q
     rw[List.lookup_cons,this];exact hy
  | false =>
   obtain⟨cl,e,h1,h2,h3⟩:=wx0 r (λx hx=>h x (A5 _ hx)) acc;refine⟨cl,?_,h1,λx hx hf=>?_,h3⟩
   ·rw[List.forIn_cons]
    simp only[hk,Bool.false_eq_true,if_false,pure_bind];exact e
   ·rcases B0.mp hx with rfl|hx
    ·have:k=.free:=hf
     rw[this] at hk;exact absurd hk (by decide)
    ·exact h2 x hx hf
theorem va0{env:Env}(h:∀x∈scope.names,x.2=.free->∃c,env.cells.lookup x.1=some c) :
  ∃cl:List (Str×Addr),closureFor scope env=pure cl/\(∀y c,cl.lookup y=some c->env.cells.lookup y=some c)/\∀x∈scope.names,x.2=.free->∃c,cl.lookup x.1=some c:=by
 obtain⟨cl,e,h1,h2,_⟩:=wx0 scope.names h [];refine⟨cl,?_,λy c hy=>(h1 y c hy).elim id (λz=>nomatch z),h2⟩;simp only[closureFor];rw[← bind_pure (forIn _ _ _)] at e
 first
  | exact e
  | (refine k9 ?_ e;rfl)
theorem xa0{env:Env}:∀(names:List (Str×NameKind)) (x:Str),
  (names.map λ(n,k)=>if (k==NameKind.free&&env.scope.kind==.function&&env.kindOf n==some .cell) then (n,NameKind.cell) else (n,k)).lookup x =
   (names.lookup x).map λk=>if (k==NameKind.free&&env.scope.kind==.function&&env.kindOf x==some .cell)=true then NameKind.cell else k
 | [],_=>rfl
 | (n,k)::r,x=>by
  have ih:=@xa0 env r x;have l1:List.lookup x (((n,k)::r).map λ(n,k)=>if (k==NameKind.free&&env.scope.kind==.function&&env.kindOf n==some .cell) then (n,NameKind.cell) else (n,k)) =
    List.lookup x ((if (k==NameKind.free&&env.scope.kind==.function&&env.kindOf n==some .cell)=true then (n,NameKind.cell) else (n,k))::r.map λ(n,k)=>if (k==NameKind.free&&env.scope.kind==.function&&env.kindOf n==some .cell) then (n,NameKind.cell) else (n,k)):=rfl
  rw[l1,List.lookup_cons (as:=r)]
  by_cases hc:(k==NameKind.free&&env.scope.kind==.function&&env.kindOf n==some .cell)=true
  ·rw[if_pos hc,List.lookup_cons]
   cases hx:x==n with
   | true =>
    have e:x=n:=by simpa using hx
    subst e;show some NameKind.cell=some (if (k==NameKind.free&&env.scope.kind==.function&&env.kindOf x==some .cell)=true then NameKind.cell else k);rw[if_pos hc]
   | false=>exact ih
  ·rw[if_neg hc,List.lookup_cons]
   cases hx:x==n with
   | true =>
    have e:x=n:=by simpa using hx
    subst e;show some k=some (if (k==NameKind.free&&env.scope.kind==.function&&env.kindOf x==some .cell)=true then NameKind.cell else k);rw[if_neg hc]
   | false=>exact ih
section
variable{w:World}{A:Around}{s:Shared}
theorem mw0{elt target iter:Expr}{ifs:List Expr}{scope:Scope}{pos:Pos}{it acc:Value}{env:Env}(I:Nat->Shared->Prop)
  (turn:∀n s,I n s->wpAny (model prog w) A (pyNext it) (λr s₁=>match r with
   | none=>R (.ok .next) s₁
   | some v=>wpAny (model prog w) A (letOwnedTupleGo target it v) (λ_ s₁'=>wpAny (model prog w) A (assign target env v) (λ_ s₂ =>
     wpAny (model prog w) A (forIn ifs true λc r=>if r=true then do let ok ← isTrue c env (eval c env);pure (ForInStep.yield ok) else pure (ForInStep.yield r)) (λok s₃ =>
      if ok=true then wpAny (model prog w) A (eval elt env) (λx s₄ =>
       wpAny (model prog w) A (call (.builtin "list.append") [acc,x]) (λ_ s₅=>∃m,m<n/\I m s₅) (λ_ _=>False) s₄) (λ_ _=>False) s₃
      else ∃m,m<n/\I m s₃) (λ_ _=>False) s₂) (λ_ _=>False) s₁') (λ_ _=>False) s₁) (λ_ _=>False) s)
  (n:Nat) (h:I n s) :
  codeAny (model prog w) A (.compLoop (.ListComp elt [⟨target,iter,ifs,0⟩] scope pos) 0 it acc env) R s:=by
 refine codeAny_loop rfl I (λn s hI=>?_) n h;show wpAny _ A ((compTurn (.ListComp elt [⟨target,iter,ifs,0⟩] scope pos) 0 it acc env).onRaise (λx=>do noteFrame x env;theTreesLotGoes x)) _ _ s;refine wpAny_noted ?_;rw[compTurn_list];refine A0 (i3 (A0 (C5 (turn n s hI) (λr s₁ h₁=>?_) λ_ _ h'=>h'.elim)));cases r with
 | none=>exact A2 h₁
 | some v =>
  refine A0 (C5 h₁ (λ_ s₁' J=>?_) λ_ _ h'=>h'.elim);refine A0 (C5 J (λ_ s₂ h₂=>A0 (C5 h₂ (λok s₃ h₃=>?_) λ_ _ h'=>h'.elim)) λ_ _ h'=>h'.elim);cases ok with
  | false=>exact A2 ⟨rfl,h₃⟩
  | true =>
   exact A0 (A0 (C5 h₃ (λx s₄ h₄=>A0 (C5 h₄ (λ_ s₅ h₅=>A2 (A2 ⟨rfl,h₅⟩)) λ_ _ h'=>h'.elim)) λ_ _ h'=>h'.elim))
end
def PF(X:Cx)(ifs:List Expr)(t:TT):Prop :=
 ∀(pins:List (Addr×Obj)) (s:Shared) (σ:St) (H:Hp) (Q:Bool->Hp->Prop),Inv X pins σ H s->t σ H Q ->
  wpAny (model X.prog X.w) X.A (forIn ifs true λc r=>if r=true then do let ok ← isTrue c X.env (eval c X.env);pure (ForInStep.yield ok) else pure (ForInStep.yield r)) (TP X pins σ Q) X.xe s
theorem Xy0:PF X [] λ_ H Q=>Q true H:=λ_ _ _ H _ I h=>wpAny_tests_nil ⟨H,I,h⟩
theorem X50{t:TT}(h:PT X c t):PF X [c] t:=λpins s σ H Q I q=>wpAny_tests_one (h pins s σ H Q I q)
def Wk(σ σ':St):Prop:=σ'.length=σ.length/\∀(j:Nat) (v:V),σ[j]?=some (some v)->σ'[j]?=some (some v)
def jx0(n:Nat)(caps:List Nat)(wi:TI)(g:TG)(tt:TT)(te:TE):TE:=fun σ H Q=>wi σ H λJ H1=>∀D,H1 D=none ->
 ∃W:Nat->Nat->List V->Hp->Prop,(∃m,W 0 m [] (upd H1 D (.lst [])))/\∀i m ys H2,W i m ys H2 ->
  (J.stop i H2/\Q (.ref D) H2)∨(J.go i H2/\∀x H3,J.yld i H2 x H3->g x (O7 n caps σ) H3 fun σ4 H4=>Wk (O7 n caps σ) σ4/\tt σ4 H4 λb H5 =>
   if b=true then te σ4 H5 λy H6=>H6 D=some (.lst ys)/\ys.length<sizeLine/\∃m',m'<m/\W (i+1) m' (ys++[y]) (upd H6 D (.lst (ys++[y]))) else ∃m',m'<m/\W (i+1) m' ys H5)
section
variable{tg:Expr}{wi:TI}{g:TG}{tt:TT}
def V50(X:Cx)(pins:List (Addr×Obj))(H:Hp)(C:Addr):Prop :=
 H C=none/\C≠X.env.locals/\X.s₀.heap.objs.size<=C/\(∀x c,X.env.cells.lookup x=some c->c≠C)/\∀p∈X.pn++pins,p.1≠C
theorem pi0{pins:List (Addr×Obj)}{σ:St}{H2:Hp}{s2:Shared}{it:Addr}{fp:List Addr}{tn:Nat->Heap->Prop}{J:It}{cl:List (Str×Addr)}{Q:VK}{RR:Value->Addr->Result->Shared->Prop}{E:Value->Shared->Prop}
  (hc:X.calm=true) (hsc:X.env.scope=sc) (ok:CompOk sc scope X.N N' n caps)
  (hcl1:∀y c,cl.lookup y=some c->X.env.cells.lookup y=some c) (hcl2:∀x∈scope.names,x.2=.free->∃c,cl.lookup x.1=some c)
  (hg:∀s H ex,PG (Z9 X scope cl N' s H ex) tg g) (ht:∀s H ex,PF (Z9 X scope cl N' s H ex) ifs tt) (he:∀s H ex,PE (Z9 X scope cl N' s H ex) elt te)
  (I2:Inv X pins σ H2 s2) (T:Turn X.prog X.w X.K tg J fp it tn) (st2:tn 0 s2.heap) (f2:∀b∈fp,wy0 X pins H2 b)
  (q:∀D,H2 D=none->∃W:Nat->Nat->List V->Hp->Prop,(∃m,W 0 m [] (upd H2 D (.lst [])))/\∀i m ys H2,W i m ys H2 ->
   (J.stop i H2/\Q (.ref D) H2)∨(J.go i H2/\∀x H3,J.yld i H2 x H3->g x (O7 n caps σ) H3 fun σ4 H4=>Wk (O7 n caps σ) σ4/\tt σ4 H4 λb H5 =>
    if b=true then te σ4 H5 λy H6=>H6 D=some (.lst ys)/\ys.length<sizeLine/\∃m',m'<m/\W (i+1) m' (ys++[y]) (upd H6 D (.lst (ys++[y]))) else ∃m',m'<m/\W (i+1) m' ys H5))
  (hend:∀(D C:Addr) (H':Hp) (s':Shared) (m:Str->Option Value),Inv X pins σ H' s'->V50 X pins H' C->s'.heap.Ns C m->Q (.ref D) H'->RR (.ref D) C (.ok .next) s') :
  wpAny (model X.prog X.w) X.A (newList []) (λacc s₃=>wpAny (model X.prog X.w) X.A (newFunctionEnv scope X.env.globals cl [] X.env.qual none .none (some X.env)) (λcenv s₄ =>
   codeAny (model X.prog X.w) X.A (.compStart (.ListComp elt [⟨tg,iter,ifs,0⟩] scope pos) 0 (.ref it) acc { cenv with scope:=relabel scope X.env }) (RR acc cenv.locals) s₄) E s₃) E s2:=by
 refine E9 (wpAny_newFunctionEnv ok.nocell (by intro y hy;simp at hy) (λh₁ a2 a3=>?_) ok.kind);dsimp only at a2 a3 ⊢;obtain⟨D,hD⟩:∃D,D=s2.heap.objs.size:=⟨_,rfl⟩;have I3:Inv X pins σ (upd H2 s2.heap.objs.size (.lst [])) { s2 with heap:=s2.heap.push { cls:=.type "list",data:=.seq ([]:List Value).toArray } }:=I2.lnew (its:=[]) (t':=s2.toks) .nil (C0 _);have e7:H2 s2.heap.objs.size=none:=I2.fresh;obtain⟨W,⟨m0,w0⟩,c3⟩:=q s2.heap.objs.size e7;generalize hs3:({ s2 with heap:=s2.heap.push { cls:=.type "list",data:=.seq ([]:List Value).toArray } }:Shared)=s3 at *;have b7:s2.heap.push { cls:=.type "list",data:=.seq ([]:List Value).toArray }=s3.heap:=by rw[← hs3]
 have i4:s2.toks=s3.toks:=by rw[← hs3]
 rw[b7] at a2 a3 ⊢;generalize hH3:upd H2 s2.heap.objs.size (HO.lst [])=H3 at *;rw[← hD] at c3 hH3 e7 ⊢;have Z:∀b o,s3.heap.get? b=some o->h₁.get? b=some o:=λb o e=>a3.extBut b o (A6 (A3 e)) (A7 _ e)
 have b4:∀b o,s2.heap.get? b=some o->s3.heap.get? b=some o:=λb o e=>by rw[← b7];exact A7 _ e
 have d3:∀b∈fp,b<s3.heap.objs.size:=λb hb=>by
  obtain⟨o,e,_⟩:=T.obj _ _ st2 b hb;exact A3 (b4 b o e)
 have f5:∀b∈fp,b≠D:=λb hb z=>by
  obtain⟨o,e,_⟩:=T.obj _ _ st2 b hb;rw[z,hD] at e;exact absurd (A3 e) (C9 _)
 obtain⟨X',O⟩:∃X',X'=Z9 X scope cl N' s3 H3 fp:=⟨_,rfl⟩;have okX:X'.Ok:=by
  subst O;refine⟨I3.ok.mod,ok.kind,I3.ok.glob,I3.ok.blt,A1 _,λx y c h1 h2=>I3.ok.inj x y c (hcl1 x c h1) (hcl1 y c h2),λx hx=>?_,λx c h _=>absurd h (by simp[Z9]),I3.ok.hd,I3.ok.frames,.inl rfl,
   λb hb=>⟨A6 (d3 b hb),λx c e=>(f2 b hb).2.2.2.2.1 x c (hcl1 x c e)⟩,λb o e=>I3.bs b o e,C3 I3.ok.bsz I3.sz,λb o e hb=>?_,λb hb hf=>?_,I3.stack,I3.stkFree⟩
  ·have a7:((relabel scope X.env).names.lookup x=some .cell)∨((relabel scope X.env).names.lookup x=some .free):=hx
   have q2:=xa0 (env:=X.env) scope.names x;have q3:(relabel scope X.env).names.lookup x=(scope.names.lookup x).map λk=>if (k==NameKind.free&&X.env.scope.kind==.function&&X.env.kindOf x==some .cell)=true then NameKind.cell else k:=q2
   cases e:scope.names.lookup x with
   | none =>
    rw[q3,e] at a7;rcases a7 with z|z<;>cases z
   | some k =>
    have hk:k=.free:=by
     rw[q3,e] at a7;have nc:=ok.nocell (x,k) (E2 e);cases k<;>first
      | rfl
      | exact absurd rfl nc
      | (rcases a7 with z|z<;>simp at z)
    subst hk;exact hcl2 (x,.free) (E2 e) rfl
  ·rcases (f2 b hb).2.2.2.1 with z|z
   ·exact I3.ok.noex b o e z
   ·exact absurd (A9 (A3 (I3.ok.bs b o e).1) z) (C9 _)
  ·rcases B0.mp (I3.stkSub b hf) with z|z
   ·exact(f2 b hb).2.1 z
   ·exact(f2 b hb).2.2.1 z
 have I4:Inv X' [] (O7 n caps σ) H3 { s3 with heap:=h₁,toks:=s2.toks+([]:List (Str×Value)).length }:=by
  refine⟨okX,?_,?_,?_,?_,λx c e=>?_,?_,λx c e=>?_,λp hp=>?_,(by subst O;exact I3.hok.kept Z),?_⟩
  ·subst O;rfl
  ·exact I3.bare
  ·subst O;exact Un.kept Z
  ·subst O
   refine⟨_,a2,λi x v e1 e2 e3=>?_⟩;have hi:n<=i:=by
    by_cases hi:i<n
    ·unfold O7 at e2
     rw[List.getElem?_append_left (by simpa using hi),List.getElem?_replicate,if_pos hi] at e2;cases e2
    ·omega
   obtain⟨k,rfl⟩:∃k,i=n+k:=⟨i - n,by omega⟩;have hk:k<caps.length:=by
    have:=(C4.mp e1).1;have e5:(Z9 X scope cl N' s3 H3 fp).N.length=n+caps.length:=ok.len;omega
   obtain⟨c1,c2⟩:=ok.cap k (B8.mpr hk);have e8:N'[n+k]?=some x:=e1;unfold O7 at e2;rw[List.getElem?_append_right (by simp),List.length_replicate,Nat.add_sub_cancel_left,List.getElem?_map] at e2;obtain⟨j,hj⟩:∃j,caps[k]?=some j:=⟨caps[k],by simp[hk]⟩;rw[hj] at e2 c1;have h3:X.N[j]?=some x:=by rw[← e8,c1];rfl
   have a5:(σ[j]?).join=some v:=B6 e2;have f0:σ[j]?=some (some v):=by
    cases q:σ[j]? with
    | none=>rw[q] at a5;cases a5
    | some o=>rw[q] at a5;rw[show o=some v from a5]
   rw[e8] at c2;have Y:scope.names.lookup x=some .free:=by simpa using c2
   have b6:=ok.free (x,.free) (E2 Y) rfl;obtain⟨m,hn,hl⟩:=I3.loc;obtain⟨u,ru,l⟩:=hl j x v h3 f0 (by
    rcases b6 with z|z
    ·exact .inr (.inl (by rw[hsc];exact z))
    ·exact .inr (.inr (by rw[hsc];exact z)))
   refine⟨u,ru,.inr ⟨?_,?_⟩⟩
   ·have q3:(relabel scope X.env).names.lookup x=(scope.names.lookup x).map λk=>if (k==NameKind.free&&X.env.scope.kind==.function&&X.env.kindOf x==some .cell)=true then NameKind.cell else k:=xa0 scope.names x
    rw[Y] at q3;show (relabel scope X.env).names.lookup x=_∨(relabel scope X.env).names.lookup x=_;rw[q3]
    by_cases hcc:(NameKind.free==NameKind.free&&X.env.scope.kind==.function&&X.env.kindOf x==some .cell)=true
    ·left;simp only[Option.map_some,if_pos hcc]
    ·right;simp only[Option.map_some,if_neg hcc]
   ·obtain⟨c',d1⟩:=hcl2 (x,.free) (E2 Y) rfl
    rcases l with⟨h7,_⟩|⟨_,c,f7,c4⟩
    ·have b2:X.env.scope.names.lookup x=some .local:=h7
     rw[hsc] at b2;rcases b6 with z|z<;>(rw[b2] at z;cases z)
    ·have:=hcl1 x c' d1
     rw[f7] at this;cases this;obtain⟨o,ho,hd⟩:=c4;exact⟨_,d1,o,Z _ o ho,hd⟩
  ·have e':cl.lookup x=some c:=by subst O;exact e
   obtain⟨v,o,ho,hd⟩:=I3.cell x c (hcl1 x c e');exact⟨v,o,Z _ o ho,hd⟩
  ·subst O;exact I3.hok.fresh (A1 _)
  ·have e':cl.lookup x=some c:=by subst O;exact e
   exact I3.freeC x c (hcl1 x c e')
  ·subst O;exact absurd hp (by simp[Z9])
  ·subst O
   show _=N'.length;rw[g40,ok.len]
 have b1:X'.calm=true:=by subst O;exact hc
 have a4:∀{H':Hp},(∀b∈fp,H' b=none)->∀b∈fp,wy0 X' [] H' b:=λ{H'} hn b hb=>by
  subst O;refine⟨hn b hb,A6 (d3 b hb),λhf=>?_,.inl hb,λx c e=>(f2 b hb).2.2.2.2.1 x c (hcl1 x c e),λp hp=>absurd hp (by simp[Z9])⟩;rcases B0.mp (I3.stkSub b hf) with z|z
  ·exact(f2 b hb).2.1 z
  ·exact(f2 b hb).2.2.1 z
 have g4:∀b∈fp,H3 b=none:=λb hb=>by rw[← hH3,o7 (f5 b hb)];exact(f2 b hb).1
 have c8:tn 0 h₁:=T.keep _ _ _ st2 λb hb o e=>Z b o (b4 b o e)
 have loop:∀s4:Shared,s4={ s3 with heap:=h₁,toks:=s2.toks+([]:List (Str×Value)).length } ->
   codeAny (model X.prog X.w) X.A (.compLoop (.ListComp elt [⟨tg,iter,ifs,0⟩] scope pos) 0 (.ref it) (.ref D) X'.env) (RR (.ref D) s3.heap.objs.size) s4:=by
  rintro s4 rfl;refine mw0 (λk s'=>∃i ys H',Inv X' [] (O7 n caps σ) H' s'/\tn i s'.heap/\(∀b∈fp,H' b=none)/\W i k ys H') ?_ m0 ⟨0,[],H3,I4,c8,g4,w0⟩;rintro k s5 ⟨i,ys,H5,I5,e6,d4,w5⟩;have eP:X'.prog=X.prog:=by subst O;rfl
  have ew:X'.w=X.w:=by subst O;rfl
  have eK:X'.K=X.K:=by subst O;rfl
  have eA:X'.A=X.A:=by subst O;rfl
  rcases c3 i k ys H5 w5 with⟨stop,qe⟩|⟨go,step⟩
  ·have T':=T.done X' eP ew eK b1 i [] s5 (O7 n caps σ) H5 (λ_ _=>False) I5 (a4 d4) e6 stop
   rw[eA] at T';refine thn T' λr s6 ⟨hr,I6⟩=>?_
   subst hr;have g2:Un (frs X.stack) fp H3 H5 s3.heap s6.heap:=by have:=I6.base;subst O;exact this
   have g7:s6.os=s3.os:=by have:=I6.os;subst O;exact this
   have f3:HOk X.prog X.w H5 s6.heap:=by have:=I6.hok;subst O;exact this
   have IX:Inv X pins σ H5 s6:=I3.call' g7 g2 f3 I6.bare λb hb=>⟨(f2 b hb).2.2.2.1,(f2 b hb).2.1,(f2 b hb).2.2.2.2.1,(f2 b hb).2.2.2.2.2⟩
   obtain⟨m6,g9,_⟩:=I6.loc;have f4:s6.heap.Ns s3.heap.objs.size m6:=by subst O;exact g9
   refine hend D s3.heap.objs.size H5 s6 m6 IX ⟨by have:=I6.free;subst O;exact this,B7 I3.lt,I3.sz,λx c e z=>?_,λp hp z=>?_⟩ f4 qe
   ·obtain⟨v,qc⟩:=I3.cell x c e
    exact absurd (A9 qc.lt (l0 z.symm)) (C9 _)
   ·exact absurd (A9 (A3 (I3.pin p hp).1) (l0 z.symm)) (C9 _)
  ·have T':=T.item X' eP ew eK b1 i [] s5 (O7 n caps σ) H5 (λ_ _=>False) I5 (a4 d4) e6 go
   rw[eA] at T';refine thn T' λr s6 ⟨u,hr,h6⟩=>?_
   subst hr;refine thn h6 λ_ s7 ⟨x,H7,I7,r7,y7,b0,g3⟩=>?_
   have f9:=I7.pinned (a4 g3) (T.obj _ _ b0);have c5:=hg s3 H3 fp;have e4:=ht s3 H3 fp;have d2:=he s3 H3 fp;rw[← O] at c5 e4 d2;have g1:=c5 _ s7 (O7 n caps σ) H7 x u _ f9 r7 (step x H7 y7);rw[eP,ew,eA] at g1;have a8:X'.xe=λ_ _=>False:=by subst O;rfl
   rw[a8] at g1;refine thn g1 λ_ s8 ⟨σ8,H8,I8,a6,q8⟩=>?_
   have t1:=e4 _ s8 σ8 H8 _ I8 q8;rw[eP,ew,eA,a8] at t1;refine thn t1 λb s9 ⟨H9,I9,q9⟩=>?_
   have b3:∀{σa:St} {Ha:Hp} {sa:Shared} {b5:List V} {ma:Nat},Inv X' ([]++uz0 fp s7.heap) σa Ha sa->σa.length=(O7 n caps σ).length->(∀(j:Nat) v,(O7 n caps σ)[j]?=some (some v)->σa[j]?=some (some v))->W (i+1) ma b5 Ha ->
     ∃i ys H',Inv X' [] (O7 n caps σ) H' sa/\tn i sa.heap/\(∀b∈fp,H' b=none)/\W i ma ys H':=λ{σa Ha sa b5 ma} Ia hl hw wa=>by
    refine⟨i+1,b5,Ha,(Ia.weak hl.symm hw).unpinned,T.keep _ _ _ b0 λb hb o e=>(Ia.pin (b,o) (C6 _ (C6 _ (wf0 hb e)))).1,λb hb=>?_,wa⟩;obtain⟨o,e,d⟩:=T.obj _ _ b0 b hb;exact(Ia.pin (b,o) (C6 _ (C6 _ (wf0 hb e)))).2.1
   cases b with
   | false =>
    rw[if_neg B5];rw[if_neg B5] at q9;obtain⟨m',hm,w9⟩:=q9;exact⟨m',hm,b3 I9 a6.1 a6.2 w9⟩
   | true =>
    rw[if_pos rfl];rw[if_pos rfl] at q9;have e1:=d2 _ s9 σ8 H9 _ I9 q9;rw[eP,ew,eA,a8] at e1;refine thn e1 λv h4 ⟨y,g6,f6,h9,e9,f1,m',hm,h8⟩=>?_
    have a1:=tg0 (X:=X') _ h4 σ8 g6 (.ref D) [y] (.ref D) [v] (λ_ H'=>W (i+1) m' (ys++[y]) H') f6 rfl (.cons h9 .nil) ⟨D,ys,y,rfl,rfl,e9,f1,h8⟩;rw[eP,ew,eA,a8] at a1;refine thn a1 λ_ j0 ⟨_,j1,h5,_,f8⟩=>?_
    exact⟨m',hm,b3 h5 a6.1 a6.2 f8⟩
 subst O;exact codeAny_compStart_list (loop _ (by rw[← hs3])) (T.self X.A 0 _ _ _ c8 (loop _ (by rw[← hs3])))
theorem bu0(hc:X.calm=true)(hsc:X.env.scope=sc)(ok:CompOk sc scope X.N N' n caps)(hi:PI X tg iter wi)
  (hg:∀cl s H ex,PG (Z9 X scope cl N' s H ex) tg g) (ht:∀cl s H ex,PF (Z9 X scope cl N' s H ex) ifs tt) (he:∀cl s H ex,PE (Z9 X scope cl N' s H ex) elt te)
  (hs:∀x,foldedSetIterable iter X.env x=pure x:=by intro _;rfl) :
  PE X (.ListComp elt [⟨tg,iter,ifs,0⟩] scope pos) (jx0 n caps wi g tt te):=by
 intro pins s σ H Q I h;obtain⟨cl,O,Z,Y⟩:=va0 (env:=X.env) (scope:=scope) λx hx hf=>I.ok.has x.1 (by
  rcases ok.free x hx hf with z|z
  ·exact .inl (by show X.env.scope.names.lookup x.1=_;rw[hsc];exact z)
  ·exact .inr (by show X.env.scope.names.lookup x.1=_;rw[hsc];exact z))
 rw[eval_ListComp];refine Ak0 (use:=none) rfl hs O ok.kind ok.loc (thn (hi pins s σ H _ I h) λv s1 h1=>thn h1 λa3 s2 h2=>?_);obtain⟨it,fp,tn,J,H2,rfl,I2,T,a1,f2,q2⟩:=h2;refine pi0 (Q:=Q) (RR:=λa2 C=>compPost (model X.prog X.w) X.A X.xe none (EP X pins σ Q) a2 C) hc hsc ok Z Y (hg cl) (ht cl) (he cl) I2 T a1 f2 q2 ?_;intro D C H' s' m IX as hn qe;refine⟨m,hn,λh' sb=>⟨.ref D,H',IX.turned (t':=s'.toks) (λb o hb e=>(sb.2 b hb).trans e) as.1 as.2.1 (.inr as.2.2.1) as.2.2.2.1 as.2.2.2.2,rfl,qe⟩⟩
theorem jp0{py spos:Pos}(hN:X.N.Nodup)(hiN:X.N[i]?=some y)(hy:Loc X.env.scope y)(hc:X.calm=true)(hsc:X.env.scope=sc)(ok:CompOk sc scope X.N N' n caps)(hi:PI X tg iter wi)
  (hg:∀cl s H ex,PG (Z9 X scope cl N' s H ex) tg g) (ht:∀cl s H ex,PF (Z9 X scope cl N' s H ex) ifs tt) (he:∀cl s H ex,PE (Z9 X scope cl N' s H ex) elt te)
  (hsw:swapsWith (.ListComp elt [⟨tg,iter,ifs,0⟩] scope pos) (some (.Name y py)) spos.line X.env=pure true:=by rfl)
  (hs:∀x,foldedSetIterable iter X.env x=pure x:=by intro _;rfl)
  (hf:X.fn y=true∨X.env.scope.names.lookup y=some .local:=by first|exact .inl rfl|exact .inr rfl|assumption) :
  PS X (.Assign [.Name y py] (.ListComp elt [⟨tg,iter,ifs,0⟩] scope pos) spos) (λD σ H=>jx0 n caps wi g tt te σ H λv H'=>D.nx (σ.set i (some v)) H'):=by
 intro pins s σ H D I h;obtain⟨cl,O,Z,Y⟩:=va0 (env:=X.env) (scope:=scope) λx hx hf=>I.ok.has x.1 (by
  rcases ok.free x hx hf with z|z
  ·exact .inl (by show X.env.scope.names.lookup x.1=_;rw[hsc];exact z)
  ·exact .inr (by show X.env.scope.names.lookup x.1=_;rw[hsc];exact z))
 rw[exec_Assign_Name_used _ _ _ _ hsw];refine A0 (i3 (A0 ?_));show wpAny _ X.A (do let _ ← comprehension (.ListComp elt [⟨tg,iter,ifs,0⟩] scope pos) scope X.env _ (newList []) false (eval iter X.env) (some (assign (.Name y py) X.env))) _ _ s;refine A0 (C5 (Ak0 (use:=some (assign (.Name y py) X.env)) (Q:=λ_ s'=>SP X pins D .next s') rfl hs O ok.kind ok.loc
  (thn (hi pins s σ H _ I h) λv s1 h1=>thn h1 λa7 s2 h2=>?_)) (λ_ s' hq=>A2 (A2 hq)) λ_ _ e=>e)
 obtain⟨it,fp,tn,J,H2,rfl,I2,T,a1,f2,q2⟩:=h2;refine pi0 (Q:=λv H'=>D.nx (σ.set i (some v)) H') (RR:=λa3 C=>compPost (model X.prog X.w) X.A X.xe (some (assign (.Name y py) X.env)) (λ_ s'=>SP X pins D .next s') a3 C) hc hsc ok Z Y (hg cl) (ht cl) (he cl) I2 T a1 f2 q2 ?_;intro Da C H' s' m IX as hn qe;show wpAny _ X.A (assign (.Name y py) X.env (.ref Da)) _ _ _;refine wpAny_assign_Name (od0 IX hN hiN hy (v:=.ref Da) rfl (λa6 a2 ⟨a,sb,ha⟩=>?_) hf);have a4:C≠a:=by
  rcases ha with z|z
  ·rw[z];exact as.2.1
  ·exact A4 (as.2.2.2.1 y a z)
 refine⟨m,hn.sameBut sb a4,λh' a5=>⟨_,H',a2.turned (t':=a6.toks) (λb o hb e=>(a5.2 b hb).trans e) as.1 as.2.1 (.inr as.2.2.1) as.2.2.2.1 as.2.2.2.2,qe⟩⟩
end
end L2
namespace DL
open Spec PyProof.Rows
inductive D where
 | non|bl (b:Bool)|int (i:Int)|str (x:Str)|tup (ds:List D)|lst (ds:List D)|dct (ks:Sum (List (Sum Int Str)) (List (List (Sum Int Str)))) (ds:List D)|fn (ks:List (Sum Int Str)) (ds:List D)
 deriving Inhabited
variable{vs ds:List DL.D}{d0 F:DL.D}
@[simp] def unl:D->D
 | .tup [_,d]=>d
 | d=>d
@[simp] def isL:D->Bool
 | .tup _=>true
 | _=>false
inductive Sl where
 | un|sh (d:D)|ow (d:D)
 | ex (c:Str) (n:Option Int)
abbrev Ds:=List Sl
inductive Res where
 | nx (δ:Ds)|rt (d:D)|bk (δ:Ds)|ct (δ:Ds)|rf (d:D)
variable{g ge gb:DL.Ds->Option DL.D}{gt:DL.Ds->Option Bool}{δ δ':DL.Ds}{G:DL.Ds->Option DL.Res}{gi gA:DL.Ds->Option (List DL.D)}
abbrev GE:=Ds->Option D
abbrev GB:=Ds->Option Bool
variable{g0:DL.GE}
abbrev GA:=Ds->Option (List D)
variable{g1:DL.GB}
abbrev GS:=Ds->Option Res
@[simp] def asB:D->Option Bool
 | .bl b=>some b
 | _=>none
variable{G1 G2:DL.GS}
@[simp] def asI:D->Option Int
 | .int i=>some i
 | _=>none
@[simp] def gv(i:Nat):GE:=fun δ=>match δ[i]? with
 | some (.sh d)=>some d
 | _=>none
@[simp] def gc(d:D):GE:=λ_=>some d
@[simp] def o2(ga gb:GE)(f:D->D->Option D):GE:=fun δ=>(ga δ).bind λx=>(gb δ).bind λy=>f x y
@[simp] def ob(g:GE):GB:=fun δ=>(g δ).bind asB
@[simp] def v90(g:GB):GB:=fun δ=>(g δ).map (!·)
@[simp] def w50(gt gu:GB):GB:=fun δ=>(gt δ).bind λt=>if t=true then some true else gu δ
@[simp] def wl0(ga gb:GE):GE:=fun δ=>(ob ga δ).bind λt=>if t=true then gb δ else some (.bl false)
@[simp] def jz0(ga:GE):GE:=fun δ=>(ob ga δ).map λt=>.bl (!t)
@[simp] def ifG(gt:GB)(ga gb:GE):GE:=fun δ=>(gt δ).bind λt=>if t=true then ga δ else gb δ
@[simp] def v4:GA:=λ_=>some []
@[simp] def z7(g:GE)(gA:GA):GA:=fun δ=>(g δ).bind λd=>(gA δ).map λds=>d::ds
@[simp] def Y4(gA:GA):GE:=fun δ=>(gA δ).bind λds=>if ds.length<=sizeLine then some (.tup ds) else none
@[simp] def Z6(gA:GA):GE:=fun δ=>(gA δ).bind λds=>if ds.length<=sizeLine then some (.lst ds) else none
@[simp] def oA(gA:GA)(f:List D->Option D):GE:=fun δ=>(gA δ).bind f
@[simp] def S7(f:D->Bool)(g:GE):GE:=fun δ=>(g δ).map λd=>.bl (f d)
@[simp] def J5(d:D):Option D:=match d with
 | .int i=>some (.int (-i))
 | _=>none
@[simp] def unG(f:D->Option D)(g:GE):GE:=fun δ=>(g δ).bind f
@[simp] def v6(G1 G2:GS):GS:=fun δ=>match G1 δ with
 | some (.nx δ')=>G2 δ'
 | r=>r
@[simp] def u6:GS:=fun δ=>some (.nx δ)
@[simp] def j7(g:GE):GS:=fun δ=>(g δ).map .rt
@[simp] def gN(i:Nat):D->Ds->Option Ds:=λd δ=>some (δ.set i (.sh d))
@[simp] def o9(f:D->Ds->Option Ds)(g:GE):GS:=fun δ=>(g δ).bind λd=>(f d δ).map .nx
@[simp] def ifD(gt:GB)(Ga Gb:GS):GS:=fun δ=>(gt δ).bind λt=>if t=true then Ga δ else Gb δ
def S8(f:D->Ds->Option Ds)(G:GS):List D->Ds->Option Res
 | [],δ=>some (.nx δ)
 | d::ds,δ=>match (f d δ).bind G with
  | some (.nx δ')=>S8 f G ds δ'
  | some (.ct δ')=>S8 f G ds δ'
  | some (.bk δ')=>some (.nx δ')
  | r=>r
@[simp] def M4(gi:GA)(f:D->Ds->Option Ds)(G:GS):GS:=fun δ=>(gi δ).bind λitems=>S8 f G items δ
@[simp] def qd0:D->Option (List D)
 | .lst ds=>some ds
 | _=>none
@[simp] def cw0:D->Option (List D)
 | .tup ds=>some ds
 | _=>none
def signs(x:Str):List D:=x.cps.toList.map λc=>.str ⟨#[c]⟩
@[simp] def ky0:D->Option (List D)
 | .str x=>some (signs x)
 | _=>none
@[simp] def O9(g:GE):GA:=fun δ=>(g δ).bind qd0
@[simp] def tupI(g:GE):GA:=fun δ=>(g δ).bind cw0
@[simp] def jt0(g:GE):GA:=fun δ=>(g δ).bind ky0
def V8(lo hi:Int):List D:=(List.range (hi - lo).toNat).map λk=>.int (lo+(k:Nat))
@[simp] def i80(ds:List D):Option (List D):=match ds with
 | [.int j]=>if -(2 ^ 62)<=j/\j<2 ^ 62 then some (V8 0 j) else none
 | _=>none
@[simp] def ia0(ds:List D):Option (List D):=match ds with
 | [.int i,.int j]=>if (-(2 ^ 62)<=i/\i<2 ^ 62)/\-(2 ^ 62)<=j/\j<2 ^ 62 then some (V8 i j) else none
 | _=>none
@[simp] def J1(gA:GA):GA:=fun δ=>(gA δ).bind i80
@[simp] def ug0(gA:GA):GA:=fun δ=>(gA δ).bind ia0
@[simp] def noT:GB:=λ_=>some true
@[simp] def nn0:Option Sl->Sl
 | some (.sh d)=>.sh d
 | _=>.un
@[simp] def y20(n:Nat)(caps:List Nat)(δ:Ds):Ds:=List.replicate n .un++caps.map λj=>nn0 δ[j]?
def V3(f:D->Ds->Option Ds)(gt:GB)(ge:GE)(δ:Ds):List D->Option (List D)
 | []=>some []
 | d::ds=>match f d δ with
  | none=>none
  | some δ'=>match gt δ' with
   | none=>none
   | some false=>V3 f gt ge δ ds
   | some true=>match ge δ' with
    | none=>none
    | some y=>(V3 f gt ge δ ds).map λr=>y::r
@[simp] def b8(n:Nat)(caps:List Nat)(gi:GA)(f:D->Ds->Option Ds)(gt:GB)(ge:GE):GE :=
 fun δ=>(gi δ).bind λitems=>if items.length<=sizeLine then (V3 f gt ge (y20 n caps δ) items).map .lst else none
@[simp] def j5(N:List Str)(ds:List D):Ds:=ds.map .sh++List.replicate (N.length - ds.length) .un
@[simp] def isInt:D->Bool
 | .int _=>true|.bl _=>true|_=>false
@[simp] def isStr:D->Bool
 | .str _=>true|_=>false
@[simp] def isBool:D->Bool
 | .bl _=>true|_=>false
@[simp] def isTup:D->Bool
 | .tup _=>true|_=>false
@[simp] def q90:D->Bool
 | .lst _=>true|_=>false
@[simp] def ii(f:Int->Int->Option D):D->D->Option D
 | .int i,.int j=>f i j
 | _,_=>none
@[simp] def xj0:D->D->Option D:=ii λi j=>some (.int (i - j))
@[simp] def xp0:D->D->Option D:=ii λi j=>if 0<j/\j<1073741824 then some (.int (i/j)) else none
@[simp] def Z0:D->D->Option D:=ii λi j=>if 0<j then some (.int (i%j)) else none
@[simp] def ul0:D->D->Option D:=ii λi j=>if 0<=j/\j<=1000000/\i.natAbs<2 ^ 64 then some (.int (i ^ j.toNat)) else none
@[simp] def ltD:D->D->Option D:=ii λi j=>some (.bl (decide (i<j)))
@[simp] def gtD:D->D->Option D:=ii λi j=>some (.bl (decide (j<i)))
@[simp] def geD:D->D->Option D:=ii λi j=>some (.bl (decide (j<=i)))
@[simp] def eqS:D->D->Option Bool
 | .non,.non=>some true
 | .non,.int _=>some false|.int _,.non=>some false|.non,.bl _=>some false|.bl _,.non=>some false|.non,.str _=>some false|.str _,.non=>some false
 | .int i,.int j=>some (decide (i=j))
 | .bl i,.bl j=>some (decide (i=j))
 | .str i,.str j=>some (decide (i=j))
 | .int _,.str _=>some false|.str _,.int _=>some false|.bl _,.str _=>some false|.str _,.bl _=>some false
 | _,_=>none
@[simp] def eqD(x y:D):Option D:=(eqS x y).map .bl
@[simp] def neD(x y:D):Option D:=(eqS x y).map λb=>.bl (!b)
@[simp] def Vb0:D->Bool
 | .non=>true|_=>false
@[simp] def qx0(x y:D):Option D:=match y with
 | .non=>some (.bl (Vb0 x))
 | _=>none
def ixN(n:Nat)(i:Int):Option Nat:=if 0<=i then (if i<n then some i.toNat else none) else if -(n:Int)<=i then some (i+n).toNat else none
def atI{α:Type}(xs:List α)(i:Int):Option α:=(ixN xs.length i).bind λj=>xs[j]?
@[simp] def ixD:D->D->Option D
 | .lst xs,.int i=>atI xs i
 | .tup xs,.int i=>atI xs i
 | .str z,.int i=>if z.length<=sizeLine then (atI z.cps.toList i).map λc=>.str ⟨#[c]⟩ else none
 | _,_=>none
def sIx(n d:Nat):Option Int->Nat
 | none=>d
 | some v=>if v<0 then (v+(n:Int)).toNat else min v.toNat n
def cutD(xs:List D)(lo hi:Option Int):List D:=(xs.drop (sIx xs.length 0 lo)).take (sIx xs.length xs.length hi - sIx xs.length 0 lo)
abbrev GO:=Ds->Option (Option Int)
@[simp] def J3:GO:=λ_=>some none
@[simp] def someO(g:GE):GO:=fun δ=>(g δ).bind λd=>(asI d).map some
@[simp] def Z5:List D->Option D
 | [.str z]=>if z.length<=sizeLine then some (.int z.length) else none
 | [.lst xs]=>some (.int xs.length)
 | [.tup xs]=>some (.int xs.length)
 | _=>none
def bools:List D->Option (List Bool)
 | []=>some []
 | .bl b::ds=>(bools ds).map λr=>b::r
 | _=>none
@[simp] def lr0:List D->Option D
 | [.lst ds]=>(bools ds).map λbs=>.bl (bs.all id)
 | _=>none
def zi0:List D->Option (List Str)
 | []=>some []
 | .str b::ds=>(zi0 ds).map λr=>b::r
 | _=>none
@[simp] def u60(d:D)(ds:List D):Option D:=match d,ds with
 | .str sep,[.lst xs]=>(zi0 xs).bind λys=>if (ys.map (·.length)).sum+ys.length*sep.length<=16777216 then some (.str (Txt.join sep ys)) else none
 | _,_=>none
@[simp] def y50(g:GE)(gA:GA):GE:=fun δ=>(g δ).bind λd=>(gA δ).bind λds=>u60 d ds
@[simp] def S9:List D->Option D
 | [.lst ds]=>some (.tup ds)
 | [.tup ds]=>some (.tup ds)
 | _=>none
theorem tn0{f:D->Ds->Option Ds}{gt:GB}{ge:GE}(p:D->Bool)(h:D->D):∀{items:List D},(∀d∈items,∃δ',f d δ=some δ'/\gt δ'=some (p d)/\(p d=true->ge δ'=some (h d))) ->
  V3 f gt ge δ items=some ((items.filter p).map h)
 | [],_=>rfl
 | d::ds,H=>by
  obtain⟨δ',e1,e2,e3⟩:=H d A8;have ih:=tn0 p h λd hd=>H d (A5 _ hd)
  unfold V3;rw[e1];dsimp only;rw[e2];cases hp:p d with
  | false =>
   dsimp only;rw[List.filter_cons_of_neg (by simp[hp])];exact ih
  | true =>
   dsimp only;rw[e3 hp,ih,List.filter_cons_of_pos hp];rfl
theorem G8{f:D->Ds->Option Ds}{gt:GB}{ge:GE}(h:D->D){items:List D}(H:∀d∈items,∃δ',f d δ=some δ'/\gt δ'=some true/\ge δ'=some (h d)):V3 f gt ge δ items=some (items.map h):=by
 have:=tn0 (f:=f) (gt:=gt) (ge:=ge) (δ:=δ) (λ_=>true) h (items:=items) λd hd=>by
  obtain⟨δ',a,b,c⟩:=H d hd;exact⟨δ',a,b,λ_=>c⟩
 rw[List.filter_eq_self.mpr (by simp)] at this;exact this
theorem ol0(h:α->Bool):∀l:List α,bools (l.map λa=>.bl (h a))=some (l.map h)
 | []=>rfl
 | a::l=>by
  show (bools (l.map λa=>.bl (h a))).map (λr=>h a::r)=_;rw[ol0 h l];rfl
theorem strs_map(h:α->Str):∀l:List α,zi0 (l.map λa=>.str (h a))=some (l.map h)
 | []=>rfl
 | a::l=>by
  show (zi0 (l.map λa=>.str (h a))).map (λr=>h a::r)=_;rw[strs_map h l];rfl
theorem S6{f:D->Ds->Option Ds}{G:GS}(P:Nat->Ds->Prop):∀(items:List D) (i:Nat) (δ:Ds),(∀j d δ,items[j]?=some d->P (i+j) δ->∃δ1 δ2,f d δ=some δ1/\G δ1=some (.nx δ2)/\P (i+j+1) δ2)->P i δ ->
  ∃δ',S8 f G items δ=some (.nx δ')/\P (i+items.length) δ'
 | [],i,δ,_,h=>⟨δ,rfl,h⟩
 | d::ds,i,δ,H,h=>by
  obtain⟨δ1,δ2,e1,e2,h2⟩:=H 0 d δ rfl h;obtain⟨δ',e3,h3⟩:=S6 P ds (i+1) δ2 (λj d δ hj hp=>by
   have q:i+(j+1)=i+1+j:=by omega
   obtain⟨a,b,c,d',e⟩:=H (j+1) d δ (by simpa using hj) (by rw[q];exact hp);exact⟨a,b,c,d',by rw[q] at e;exact e⟩) h2
  have q:i+(d::ds).length=i+1+ds.length:=by rw[List.length_cons];omega
  refine⟨δ',?_,by rw[q];exact h3⟩;unfold S8;rw[e1];simp only[Option.bind_some,e2];exact e3
theorem X00(h:G1 δ=some (.nx δ')):v6 G1 G2 δ=G2 δ':=by unfold v6;rw[h]
theorem p6{d:D}(h:G1 δ=some (.rt d)):v6 G1 G2 δ=some (.rt d):=by unfold v6;rw[h]
theorem d8{g:GE}{d:D}(h:g δ=some d):j7 g δ=some (.rt d):=by unfold j7;rw[h];rfl
theorem o8{g:GE}{d:D}(h:g δ=some d):o9 (gN i) g δ=some (.nx (δ.set i (.sh d))):=by unfold o9;rw[h];rfl
theorem V4{g:GB}{Ga Gb:GS}(h:g δ=some true):ifD g Ga Gb δ=Ga δ:=by unfold ifD;rw[h];rfl
theorem Z4{g:GB}{Ga Gb:GS}(h:g δ=some false):ifD g Ga Gb δ=Gb δ:=by unfold ifD;rw[h];rfl
theorem Y6{gi:GA}{f:D->Ds->Option Ds}{gt:GB}{ge:GE}{items out:List D}(h1:gi δ=some items)(h2:items.length<=sizeLine)(h3:V3 f gt ge (y20 n caps δ) items=some out):b8 n caps gi f gt ge δ=some (.lst out):=by
 unfold b8;rw[h1];show (if items.length<=sizeLine then (V3 f gt ge (y20 n caps δ) items).map D.lst else none)=_;rw[if_pos h2,h3];rfl
theorem Q4{gi:GA}{f:D->Ds->Option Ds}{G:GS}{items:List D}{r:Option Res}(h1:gi δ=some items)(h2:S8 f G items δ=r):M4 gi f G δ=r:=by
 unfold M4;rw[h1];exact h2
theorem cons_of{g:GE}{gA:GA}{d:D}(h1:g δ=some d)(h2:gA δ=some ds):z7 g gA δ=some (d::ds):=by unfold z7;rw[h1,h2];rfl
theorem t7{gA:GA}{f:List D->Option D}(h:gA δ=some ds):oA gA f δ=f ds:=by unfold oA;rw[h];rfl
theorem t6{ga gb:GE}{x y:D}{f:D->D->Option D}(h1:ga δ=some x)(h2:gb δ=some y):o2 ga gb f δ=f x y:=by unfold o2;rw[h1,h2];rfl
theorem tw0{g:GE}{gA:GA}{x:D}(h1:g δ=some x)(h2:gA δ=some ds):y50 g gA δ=u60 x ds:=by unfold y50;rw[h1,h2];rfl
theorem zk0{xs:List α}{i:Int}(h0:0<=i)(h1:i<xs.length)(d:α):atI xs i=some (xs.getD i.toNat d):=by
 unfold atI ixN;rw[if_pos h0,if_pos h1];show xs[i.toNat]?=_;have:i.toNat<xs.length:=by omega
 simp[List.getD_eq_getElem?_getD,this]
end DL
variable{g ge gb:DL.Ds->Option DL.D}{vs ds:List DL.D}{gt:DL.Ds->Option Bool}{δ δ':DL.Ds}{G:DL.Ds->Option DL.Res}{G1 G2:DL.GS}{gi gA:DL.Ds->Option (List DL.D)}{d0 F:DL.D}{g0:DL.GE}{g1:DL.GB}
namespace DL
open Spec PyProof.Rows L2
abbrev BS:=Addr->Prop
abbrev St:=L2.St
variable{B B' B₀:DL.BS}
abbrev noH:Hp:=λ_=>none
structure NB(o:Option HO):Prop where
 ne:o≠none
 nf:∀ob u,o≠some (.frz ob u)
instance{o:Option HO}:CoeFun (NB o) (λ_=>o=none->False):=⟨λh e=>h.ne e⟩
theorem NB.of{o:Option HO}{u:HO}(h:o=some u)(n:∀ob u',u≠.frz ob u'):NB o:=by
 subst h;exact⟨λz=>(by cases z),λob u' z=>n ob u' (B6 z)⟩
theorem NB.same(q:Same H H')(h:NB (H a)):NB (H' a):=by
 cases e:H a with
 | none=>exact absurd e h.ne
 | some o=>exact .of (q a o e) λob u z=>h.nf ob u (by rw[e,z])
def SqT'(K:W.Frag)(H:Hp)(B:BS)(a:Addr)(xs:List V):Prop:=¬B a/\H a=some (.tup xs)
def SqL'(K:W.Frag)(H:Hp)(B:BS)(a:Addr)(xs:List V):Prop:=(¬B a/\Rd H a (.lst xs))∨SqL K noH a xs
theorem Vk0{u:HO}(h:Rd noH a u):False:=by
 rcases h with h|⟨o,h⟩<;>cases h
theorem SqT'.to(h:SqT' K H B a xs):SqT K H a xs:=.inl (.inl h.2)
theorem SqL'.to(h:SqL' K H B a xs):SqL K H a xs:=by
 rcases h with h|h|h
 ·exact .inl h.2
 ·exact(Vk0 h).elim
 ·exact .inr h
def Gr(H H':Hp)(B B':BS):Prop:=∀b o,¬B b->H b=some o->¬B' b/\H' b=some o
theorem SqT'.mono(g:Gr H H' B B')(h:SqT' K H B a xs):SqT' K H' B' a xs:=g _ _ h.1 h.2
theorem SqL'.mono(g:Gr H H' B B')(h:SqL' K H B a xs):SqL' K H' B' a xs:=by
 rcases h with⟨n,h|⟨o,h⟩⟩|h
 ·exact .inl ⟨(g _ _ n h).1,.inl (g _ _ n h).2⟩
 ·exact .inl ⟨(g _ _ n h).1,.inr ⟨o,(g _ _ n h).2⟩⟩
 ·exact .inr h
theorem Gr.same(s:Same H H'):Gr H H' B B:=λb o n h=>⟨n,s b o h⟩
theorem Gr.less(h:∀a,B' a->B a):Gr H H B B':=λb o n e=>⟨λz=>n (h b z),e⟩
abbrev KS:=Sum (List Key) (List (List Key))
def dOb:KS->List V->HO
 | .inl ks,xs=>.dK (ks.zip xs)
 | .inr ks,xs=>.dT (ks.zip xs)
def dLn:KS->Nat
 | .inl ks=>ks.length
 | .inr ks=>ks.length
def n80(fd:FuncData)(x y:Str)(c cd:Addr):Prop :=
 ∃p1 p2 p3,fd.body=.expr (.Subscript (.Name x p1) (.Name y p2) p3)/\fd.scope.isCoroutine=false/\fd.scope.isGenerator=false/\fd.scope.kind=.function/\fd.scope.names.lookup y=some .local/\fd.scope.names.lookup x=some .free /\
  (∀z∈fd.scope.names,z.2≠.cell)/\fd.closure=[(x,c)]/\fd.code=.ref cd/\fd.globals=mainGlobals/\(x==("__debug__" : Str))=false/\(x==("__classdict__" : Str))=false/\(y==("__debug__" : Str))=false /\
  ∀u:Value,bindArgs fd ⟨[u],[]⟩=pure [(y,u)]
def FnAtH(H:Hp)(B:BS)(f:Addr)(kvs:List (Key×V)):Prop :=
 ∃(oF oC oK:Obj) (fd:FuncData) (c cd p:Addr) (x y:Str),(¬B f/\H f=some (.frz oF (.own f)))/\(oF.cls=.type "function"/\oF.data=.func fd/\n80 fd x y c cd)/\(¬B c/\H c=some (.frz oC (.own c)))/\oC.data=.cell (some (.ref p)) /\
  (¬B cd/\H cd=some (.frz oK (.own cd)))/\(∃vs t,oK.data=.fields vs/\vs[1]?=some (.str fd.qualname t))/\¬B p/\H p=some (.dK kvs)
theorem FnAtH.mono{f:Addr}(g:Gr H H' B B')(h:FnAtH H B f kvs):FnAtH H' B' f kvs:=by
 obtain⟨oF,oC,oK,fd,c,cd,p,x,y,⟨b1,h1⟩,a,⟨b2,h2⟩,e,⟨b3,h3⟩,q,b4,h4⟩:=h;exact⟨oF,oC,oK,fd,c,cd,p,x,y,g _ _ b1 h1,a,g _ _ b2 h2,e,g _ _ b3 h3,q,g _ _ b4 h4⟩
mutual
def Rp(K:W.Frag)(H:Hp)(B:BS):D->V->Prop
 | .non,v=>v=.non
 | .bl b,v=>v=.bl b
 | .int i,v=>v=.int i
 | .str x,v=>v=.str x
 | .tup ds,v=>∃a xs,v=.ref a/\SqT' K H B a xs/\Rps K H B ds xs
 | .lst ds,v=>∃a xs,v=.ref a/\SqL' K H B a xs/\Rps K H B ds xs
 | .dct ks ds,v=>∃a xs,v=.ref a/\¬B a/\H a=some (dOb ks xs)/\dLn ks=xs.length/\Rps K H B ds xs
 | .fn ks ds,v=>∃a xs,v=.ref a/\FnAtH H B a (ks.zip xs)/\ks.length=xs.length/\Rps K H B ds xs
def Rps(K:W.Frag)(H:Hp)(B:BS):List D->List V->Prop
 | [],xs=>xs=[]
 | d::ds,xs=>∃x r,xs=x::r/\Rp K H B d x/\Rps K H B ds r
end
mutual
theorem Rp.mono(g:Gr H H' B B'):∀{d:D} {v:V},Rp K H B d v->Rp K H' B' d v
 | .non,_,h=>by unfold Rp at h ⊢;exact h
 | .bl _,_,h=>by unfold Rp at h ⊢;exact h
 | .int _,_,h=>by unfold Rp at h ⊢;exact h
 | .str _,_,h=>by unfold Rp at h ⊢;exact h
 | .tup ds,_,h=>by
  unfold Rp at h ⊢;obtain⟨a,xs,e,q,r⟩:=h;exact⟨a,xs,e,q.mono g,Rps.mono g r⟩
 | .lst ds,_,h=>by
  unfold Rp at h ⊢;obtain⟨a,xs,e,q,r⟩:=h;exact⟨a,xs,e,q.mono g,Rps.mono g r⟩
 | .dct ks ds,_,h=>by
  unfold Rp at h ⊢;obtain⟨a,xs,e,n,q,l,r⟩:=h;exact⟨a,xs,e,(g _ _ n q).1,(g _ _ n q).2,l,Rps.mono g r⟩
 | .fn ks ds,_,h=>by
  unfold Rp at h ⊢;obtain⟨a,xs,e,q,l,r⟩:=h;exact⟨a,xs,e,q.mono g,l,Rps.mono g r⟩
theorem Rps.mono(g:Gr H H' B B'):∀{ds:List D} {xs:List V},Rps K H B ds xs->Rps K H' B' ds xs
 | [],_,h=>by unfold Rps at h ⊢;exact h
 | d::ds,_,h=>by
  unfold Rps at h ⊢;obtain⟨x,r,e,h1,h2⟩:=h;exact⟨x,r,e,Rp.mono g h1,Rps.mono g h2⟩
end
theorem U4:Rp K H B .non v=(v=.non):=by unfold Rp;rfl
theorem W3{b:Bool}:Rp K H B (.bl b) v=(v=.bl b):=by unfold Rp;rfl
theorem j8{i:Int}:Rp K H B (.int i) v=(v=.int i):=by unfold Rp;rfl
theorem Y9:Rp K H B (.str x) v=(v=.str x):=by unfold Rp;rfl
theorem R7:Rp K H B (.tup ds) v=∃a xs,v=.ref a/\SqT' K H B a xs/\Rps K H B ds xs:=by conv=>lhs;unfold Rp
theorem W4:Rp K H B (.lst ds) v=∃a xs,v=.ref a/\SqL' K H B a xs/\Rps K H B ds xs:=by conv=>lhs;unfold Rp
theorem vx0{ks:KS}:Rp K H B (.dct ks ds) v=∃a xs,v=.ref a/\¬B a/\H a=some (dOb ks xs)/\dLn ks=xs.length/\Rps K H B ds xs:=by conv=>lhs;unfold Rp
theorem nk0{ks:List Key}:Rp K H B (.fn ks ds) v=∃a xs,v=.ref a/\FnAtH H B a (ks.zip xs)/\ks.length=xs.length/\Rps K H B ds xs:=by conv=>lhs;unfold Rp
theorem tl0{ks:List Key}:Rp K H B (.dct (.inl ks) ds) v=∃a xs,v=.ref a/\¬B a/\H a=some (.dK (ks.zip xs))/\ks.length=xs.length/\Rps K H B ds xs:=vx0
theorem jc0{ks:List (List Key)}:Rp K H B (.dct (.inr ks) ds) v=∃a xs,v=.ref a/\¬B a/\H a=some (.dT (ks.zip xs))/\ks.length=xs.length/\Rps K H B ds xs:=vx0
theorem m5:Rps K H B [] xs=(xs=[]):=by unfold Rps;rfl
theorem p8{d:D}:Rps K H B (d::ds) xs=∃x r,xs=x::r/\Rp K H B d x/\Rps K H B ds r:=by conv=>lhs;unfold Rps
theorem Rps.length:∀{ds:List D} {xs:List V},Rps K H B ds xs->xs.length=ds.length
 | [],_,h=>by rw[m5] at h;subst h;rfl
 | d::ds,_,h=>by
  rw[p8] at h;obtain⟨x,r,rfl,_,h2⟩:=h;simp[Rps.length h2]
theorem Rps.get:∀{ds:List D} {xs:List V} {i:Nat} {d:D},Rps K H B ds xs->ds[i]?=some d->∃x,xs[i]?=some x/\Rp K H B d x
 | [],_,_,_,_,e=>by simp at e
 | d::ds,_,0,d',h,e=>by
  rw[p8] at h;obtain⟨x,r,rfl,h1,_⟩:=h;simp at e;subst e;exact⟨x,rfl,h1⟩
 | d::ds,_,i+1,d',h,e=>by
  rw[p8] at h;obtain⟨x,r,rfl,_,h2⟩:=h;obtain⟨y,e1,e2⟩:=Rps.get (i:=i) h2 (by simpa using e);exact⟨y,by simpa using e1,e2⟩
theorem Rps.snoc:∀{ds:List D} {xs:List V} {d:D} {x:V},Rps K H B ds xs->Rp K H B d x->Rps K H B (ds++[d]) (xs++[x])
 | [],_,_,_,h,r=>by
  rw[m5] at h;subst h;rw[List.nil_append,List.nil_append,p8];exact⟨_,[],rfl,r,by rw[m5]⟩
 | d::ds,_,_,_,h,r=>by
  rw[p8] at h;obtain⟨y,t,rfl,h1,h2⟩:=h;rw[List.cons_append,List.cons_append,p8];exact⟨y,_,rfl,h1,Rps.snoc h2 r⟩
theorem Rps.append:∀{ds es:List D} {xs ys:List V},Rps K H B ds xs->Rps K H B es ys->Rps K H B (ds++es) (xs++ys)
 | [],_,_,_,h,r=>by rw[m5] at h;subst h;exact r
 | d::ds,_,_,_,h,r=>by
  rw[p8] at h;obtain⟨y,t,rfl,h1,h2⟩:=h;rw[List.cons_append,List.cons_append,p8];exact⟨y,_,rfl,h1,Rps.append h2 r⟩
theorem Rps.drop:∀{ds:List D} {xs:List V} (n:Nat),Rps K H B ds xs->Rps K H B (ds.drop n) (xs.drop n)
 | _,_,0,h=>h
 | [],_,n+1,h=>by rw[m5] at h;subst h;simpa [m5]
 | d::ds,_,n+1,h=>by
  rw[p8] at h;obtain⟨y,t,rfl,h1,h2⟩:=h
  simpa using Rps.drop n h2
theorem Rps.take:∀{ds:List D} {xs:List V} (n:Nat),Rps K H B ds xs->Rps K H B (ds.take n) (xs.take n)
 | _,_,0,h=>by simp[m5]
 | [],_,n+1,h=>by rw[m5] at h;subst h;simp[m5]
 | d::ds,_,n+1,h=>by
  rw[p8] at h;obtain⟨y,t,rfl,h1,h2⟩:=h;rw[List.take_succ_cons,List.take_succ_cons,p8];exact⟨y,_,rfl,h1,Rps.take n h2⟩
theorem Rps.same(s:Same H H')(h:Rps K H B ds xs):Rps K H' B ds xs:=Rps.mono (Gr.same s) h
theorem Rp.same{d:D}(s:Same H H')(h:Rp K H B d v):Rp K H' B d v:=Rp.mono (Gr.same s) h
def RpO(K:W.Frag)(H:Hp)(B:BS)(d:D)(a:Addr):Prop:=match d with
 | .lst ds=>∃xs,H a=some (.lst xs)/\Rps K H B ds xs
 | .dct ks ds=>∃xs,H a=some (dOb ks xs)/\dLn ks=xs.length/\Rps K H B ds xs
 | _=>False
theorem RpO.same{d:D}(s:Same H H')(h:RpO K H B d a):RpO K H' B d a:=by
 cases d<;>try exact h.elim
 ·obtain⟨xs,e,r⟩:=h;exact⟨xs,s _ _ e,r.same s⟩
 ·obtain⟨xs,e,l,r⟩:=h;exact⟨xs,s _ _ e,l,r.same s⟩
theorem RpO.rp{d:D}(l:∀a,B' a->B a)(n:¬B' a)(h:RpO K H B d a):Rp K H B' d (.ref a):=by
 cases d<;>try exact h.elim
 ·obtain⟨xs,e,r⟩:=h
  rw[W4];exact⟨a,xs,rfl,.inl ⟨n,.inl e⟩,r.mono (Gr.less l)⟩
 ·obtain⟨xs,e,q,r⟩:=h
  rw[vx0];exact⟨a,xs,rfl,n,e,q,r.mono (Gr.less l)⟩
theorem RpO.live{d:D}(h:RpO K H B d a):NB (H a):=by
 cases d<;>try exact h.elim
 ·obtain⟨xs,e,r⟩:=h;exact .of e λ_ _=>λz=>nomatch z
 ·obtain⟨xs,e,q,r⟩:=h;refine .of e λ_ _ z=>?_;unfold dOb at z;split at z<;>cases z
def RpL(K:W.Frag)(H:Hp)(B:BS)(d:D)(a:Addr):Prop:=match d with
 | .tup es=>∃ds,es=[.int (a:Int),.lst ds]/\∃xs,H a=some (.lst xs)/\Rps K H B ds xs
 | d=>RpO K H B d a
theorem RpO.toL{d:D}(h:RpO K H B d a):RpL K H B d a:=by
 cases d with
 | tup es=>exact(show False from h).elim
 | _=>exact h
theorem RpL.toO{d:D}(n:isL d=false)(h:RpL K H B d a):RpO K H B d a:=by
 cases d with
 | tup es=>cases n
 | _=>exact h
theorem RpL.same{d:D}(s:Same H H')(h:RpL K H B d a):RpL K H' B d a:=by
 cases d with
 | tup es=>obtain⟨ds,q,xs,e,r⟩:=h;exact⟨ds,q,xs,s _ _ e,r.same s⟩
 | _=>exact(RpO.same s (RpL.toO rfl h)).toL
theorem RpL.rp{d:D}(l:∀a,B' a->B a)(n:¬B' a)(h:RpL K H B d a):Rp K H B' (unl d) (.ref a):=by
 cases d with
 | tup es=>obtain⟨ds,rfl,xs,e,r⟩:=h;exact RpO.rp (d:=.lst ds) l n ⟨xs,e,r⟩
 | _=>exact RpO.rp l n (RpL.toO rfl h)
theorem RpL.live{d:D}(h:RpL K H B d a):NB (H a):=by
 cases d with
 | tup es=>obtain⟨ds,q,xs,e,r⟩:=h;exact .of e λ_ _=>λz=>nomatch z
 | _=>exact RpO.live (RpL.toO rfl h)
def sr0(a C:Addr)(od:Option Addr):Heap->Prop:=λh=>∃oe,h.get? a=some oe/\oe.cls=.ref C/\(∀dx,od=some dx->oe.dict=some dx)/\∃vs,oe.data=.fields vs
def de0(H:Hp)(B:BS)(od:Option Addr):Option Int->Prop
 | none=>True
 | some n=>∃dx,od=some dx/\¬B dx/\H dx=some (.xd [("at",.int n)])
def XcR(K:W.Frag)(H:Hp)(B:BS)(c:Str)(n:Option Int)(a:Addr):Prop:=∃C od,¬B a/\H a=some (.ext (sr0 a C od))/\W.nsIn K mainGlobals c=some (some (.ref C))/\de0 H B od n
theorem XcR.mono{c:Str}{n:Option Int}(g:Gr H H' B B')(h:XcR K H B c n a):XcR K H' B' c n a:=by
 obtain⟨C,od,h1,h2,h3,h4⟩:=h;refine⟨C,od,(g _ _ h1 h2).1,(g _ _ h1 h2).2,h3,?_⟩;cases n with
 | none=>trivial
 | some n=>obtain⟨dx,e,q1,q2⟩:=h4;exact⟨dx,e,(g _ _ q1 q2).1,(g _ _ q1 q2).2⟩
def SlR(K:W.Frag)(H:Hp)(B:BS)(o:Option V):Sl->Prop
 | .un=>True
 | .sh d=>∃v,o=some v/\Rp K H B d v
 | .ow d=>∃a,o=some (.ref a)/\B a/\RpL K H B d a
 | .ex c n=>∃a,o=some (.ref a)/\XcR K H B c n a
theorem Pd.get{F:α->β->Prop}:∀{l:List α} {m:List β} {i:Nat} {b:β},Paired F l m->m[i]?=some b->∃a,l[i]?=some a/\F a b
 | _,_,_,_,.nil,e=>by simp at e
 | _,_,0,_,.cons r _,e=>by simp at e;subst e;exact⟨_,rfl,r⟩
 | _,_,i+1,b,.cons _ t,e=>by
  obtain⟨u,h1,h2⟩:=Pd.get (i:=i) (b:=b) t (by simpa using e);exact⟨u,by simpa using h1,h2⟩
theorem Pd.imp{F G:α->β->Prop}(h:∀a b,F a b->G a b):∀{l:List α} {m:List β},Paired F l m->Paired G l m
 | _,_,.nil=>.nil
 | _,_,.cons r t=>.cons (h _ _ r) (Pd.imp h t)
theorem Pd.set{F:α->β->Prop}{a:α}{b:β}(r:F a b):∀{l:List α} {m:List β} (i:Nat),Paired F l m->Paired F (l.set i a) (m.set i b)
 | _,_,_,.nil=>.nil
 | _,_,0,.cons _ t=>.cons r t
 | _,_,i+1,.cons q t=>.cons q (Pd.set r i t)
theorem Pd.app{F:α->β->Prop}:∀{l l':List α} {m m':List β},Paired F l m->Paired F l' m'->Paired F (l++l') (m++m')
 | _,_,_,_,.nil,s=>s
 | _,_,_,_,.cons r t,s=>.cons r (Pd.app t s)
structure Env(K:W.Frag)(H:Hp)(B:BS)(σ:St)(δ:Ds):Prop where
 all:Paired (SlR K H B) σ δ
 bad:∀a,B a->NB (H a)
 own:∀(i j:Nat) (a:Addr) (ds es:D),δ[i]?=some (.ow ds)->δ[j]?=some (.ow es)->σ[i]?=some (some (.ref a))->σ[j]?=some (some (.ref a))->i=j
section
variable{σ σ':St}
theorem SlR.same{o:Option V}{s:Sl}(q:Same H H')(h:SlR K H B o s):SlR K H' B o s:=by
 cases s with
 | un=>trivial
 | sh d=>obtain⟨v,e,r⟩:=h;exact⟨v,e,r.same q⟩
 | ow d=>obtain⟨a,e,b,r⟩:=h;exact⟨a,e,b,r.same q⟩
 | ex c n=>obtain⟨a,e,r⟩:=h;exact⟨a,e,r.mono (Gr.same q)⟩
theorem Env.same(q:Same H H')(e:Env K H B σ δ):Env K H' B σ δ :=
 ⟨Pd.imp (λ_ _ h=>h.same q) e.all,(λa b=>(e.bad a b).same q),e.own⟩
theorem Env.free(e:Env K H B σ δ){p:Addr}(h:H p=none):¬B p:=λz=>e.bad p z h
theorem Env.get(e:Env K H B σ δ){d:D}(h:δ[i]?=some (.sh d)):∃v,σ[i]?=some (some v)/\Rp K H B d v:=by
 obtain⟨o,h1,v,rfl,r⟩:=Pd.get e.all h;exact⟨v,h1,r⟩
theorem Env.set(e:Env K H B σ δ)(i:Nat){d:D}(r:Rp K H B d v):Env K H B (σ.set i (some v)) (δ.set i (.sh d)):=by
 refine⟨Pd.set ⟨v,rfl,r⟩ i e.all,e.bad,λj k a ds es h1 h2 h3 h4=>?_⟩;have hj:j≠i:=by
  rintro rfl
  by_cases hl:j<δ.length
  ·rw[List.getElem?_set_self hl] at h1;cases h1
  ·rw[List.getElem?_eq_none (by simpa using hl)] at h1;cases h1
 have hk:k≠i:=by
  rintro rfl
  by_cases hl:k<δ.length
  ·rw[List.getElem?_set_self hl] at h2;cases h2
  ·rw[List.getElem?_eq_none (by simpa using hl)] at h2;cases h2
 rw[List.getElem?_set_ne (A4 hj)] at h1 h3;rw[List.getElem?_set_ne (A4 hk)] at h2 h4;exact e.own j k a ds es h1 h2 h3 h4
end
theorem Z1{p:Addr}{o:HO}(h:H p=none):Same H (upd H p o):=λb u e=>by rw[o7 (V7 e h)];exact e
def tD(K:W.Frag)(B:BS)(δ:Ds)(g:Ds->Option D):TE:=fun σ H Q=>∃d,Env K H B σ δ/\g δ=some d/\∀v H',Same H H'->Rp K H' B d v->Q v H'
structure PD(X:Cx)(e:Expr)(g:Ds->Option D):Prop where
 mk::go:∀B δ,PE X e (tD X.K B δ g)
instance{X:Cx}{e:Expr}{g:Ds->Option D}:CoeFun (PD X e g) (λ_=>∀B δ,PE X e (tD X.K B δ g)):=⟨PD.go⟩
def tDT(K:W.Frag)(B:BS)(δ:Ds)(g:Ds->Option Bool):TT:=fun σ H Q=>∃b,Env K H B σ δ/\g δ=some b/\∀H',Same H H'->Q b H'
structure PTD(X:Cx)(e:Expr)(g:Ds->Option Bool):Prop where
 mk::go:∀B δ,PT X e (tDT X.K B δ g)
instance{X:Cx}{e:Expr}{g:Ds->Option Bool}:CoeFun (PTD X e g) (λ_=>∀B δ,PT X e (tDT X.K B δ g)):=⟨PTD.go⟩
structure PWD(X:Cx)(e:Expr)(g:Ds->Option Bool):Prop where
 mk::go:∀B δ,PW X e (tDT X.K B δ g)
instance{X:Cx}{e:Expr}{g:Ds->Option Bool}:CoeFun (PWD X e g) (λ_=>∀B δ,PW X e (tDT X.K B δ g)):=⟨PWD.go⟩
def tDA(K:W.Frag)(B:BS)(δ:Ds)(g:Ds->Option (List D)):TA:=fun σ H Q=>∃ds,Env K H B σ δ/\g δ=some ds/\∀vs H',Same H H'->Rps K H' B ds vs->Q vs H'
structure PDA(X:Cx)(es:List Expr)(g:Ds->Option (List D)):Prop where
 mk::go:∀B δ,PA X es (tDA X.K B δ g)
instance{X:Cx}{es:List Expr}{g:Ds->Option (List D)}:CoeFun (PDA X es g) (λ_=>∀B δ,PA X es (tDA X.K B δ g)):=⟨PDA.go⟩
theorem gk0{d:D}{b:Bool}(h:asB d=some b):d=.bl b:=by
 cases d<;>simp[asB] at h
 subst h;rfl
def Op2(K:W.Frag)(r:R2)(f:D->D->Option D):Prop:=∀(H:Hp) (B:BS) (x y:V) (dx dy d:D) (Q:VK),(∀a,B a->NB (H a))->Rp K H B dx x->Rp K H B dy y->f dx dy=some d->(∀v H',Same H H'->Rp K H' B d v->Q v H')->r x y H Q
def FnR(K:W.Frag)(r:List V->Hp->VK->Prop)(f:List D->Option D):Prop:=∀(H:Hp) (B:BS) (xs:List V) (ds:List D) (d:D) (Q:VK),(∀a,B a->NB (H a))->Rps K H B ds xs->f ds=some d->(∀v H',Same H H'->Rp K H' B d v->Q v H')->r xs H Q
section
variable{a:Expr}{ga:Ds->Option D}{gu:Ds->Option Bool}{rest:List Expr}
theorem _root_.L2.PE.imp{t t':TE}(h:PE X e t)(q:∀σ H Q,t' σ H Q->t σ H Q):PE X e t':=λpins s σ H Q I z=>h pins s σ H Q I (q σ H Q z)
theorem _root_.L2.PT.imp{t t':TT}(h:PT X e t)(q:∀σ H Q,t' σ H Q->t σ H Q):PT X e t':=λpins s σ H Q I z=>h pins s σ H Q I (q σ H Q z)
theorem _root_.L2.PW.imp{t t':TT}(h:PW X e t)(q:∀σ H Q,t' σ H Q->t σ H Q):PW X e t':=λw pins s σ H Q I z=>h w pins s σ H Q I (q σ H Q z)
theorem _root_.L2.PA.imp{t t':TA}(h:PA X es t)(q:∀σ H Q,t' σ H Q->t σ H Q):PA X es t':=λp pins s σ H Q I z=>h p pins s σ H Q I (q σ H Q z)
theorem Ve0{d:D}(h:gv i δ=some d):δ[i]?=some (.sh d):=by
 unfold gv at h;split at h
 ·cases h;assumption
 ·cases h
theorem z9(i:Nat)(hN:X.N[i]?=some x:=by rfl)(hv:Vis X.env.scope x:=by first|exact Or.inl rfl|exact Or.inr (Or.inl rfl)|exact Or.inr (Or.inr rfl))(hd:(x==("__debug__" : Str))=false:=by decide)
  (hcd:(x==("__classdict__" : Str))=false:=by decide):PD X (.Name x pos) (gv i):=.mk λB δ=>(zh0 (i:=i) hN hv hd hcd).imp fun σ H Q ⟨d,en,h,k⟩=>by
 obtain⟨v,e,r⟩:=en.get (Ve0 h);exact⟨v,e,k v H (Same.refl H) r⟩
theorem v9{i:Int}:PD X (.Constant (.int i) j pos) (gc (.int i)):=.mk λB δ=>fe0.imp fun σ H Q ⟨d,en,h,k⟩=>by cases h;exact k _ H (Same.refl H) (by rw[j8])
theorem qk0{i:Bool}:PD X (.Constant (.bool i) j pos) (gc (.bl i)):=.mk λB δ=>Vm0.imp fun σ H Q ⟨d,en,h,k⟩=>by cases h;exact k _ H (Same.refl H) (by rw[W3])
theorem wq0:PD X (.Constant .none j pos) (gc .non):=.mk λB δ=>W10.imp fun σ H Q ⟨d,en,h,k⟩=>by cases h;exact k _ H (Same.refl H) (by rw[U4])
theorem j4:PD X (.Constant (.str x) j pos) (gc (.str x)):=.mk λB δ=>X10.imp fun σ H Q ⟨d,en,h,k⟩=>by cases h;exact k _ H (Same.refl H) (by rw[Y9])
theorem j40(hm:∃t,X.mg x=some (.str y t))(hg:Gl X x:=by rfl)(hd:(x==("__debug__" : Str))=false:=by decide):PD X (.Name x pos) (gc (.str y)):=.mk λB δ=>by
 obtain⟨t,hm⟩:=hm;exact(p90 (v:=.str y) hg hm ⟨t,rfl⟩ hd).imp fun σ H Q ⟨d,en,h,k⟩=>by cases h;exact k _ H (Same.refl H) (by rw[Y9])
theorem sa0{i:Int}(hm:∃t,X.mg x=some (.int i t))(hg:Gl X x:=by rfl)(hd:(x==("__debug__" : Str))=false:=by decide):PD X (.Name x pos) (gc (.int i)):=.mk λB δ=>by
 obtain⟨t,hm⟩:=hm;exact(p90 (v:=.int i) hg hm ⟨t,rfl⟩ hd).imp fun σ H Q ⟨d,en,h,k⟩=>by cases h;exact k _ H (Same.refl H) (by rw[j8])
theorem rt0{r:R2}{f:D->D->Option D}(hf:Op2 K r f){σ:St}{Q:VK}(h:tD K B δ (o2 ga gb f) σ H Q):tOp r (tD K B δ ga) (tD K B δ gb) σ H Q:=by
 obtain⟨d,en,h,k⟩:=h;unfold o2 at h;cases e1:ga δ with
 | none=>rw[e1] at h;cases h
 | some x =>
  cases e2:gb δ with
  | none=>rw[e1,e2] at h;cases h
  | some y =>
   rw[e1,e2] at h;refine⟨x,en,e1,λv1 H1 s1 r1=>⟨y,en.same s1,e2,λv2 H2 s2 r2=>?_⟩⟩;exact hf H2 B v1 v2 x y d Q ((en.same s1).same s2).bad (r1.same s2) r2 h λv H' s r=>k v H' ((s1.trans s2).trans s) r
theorem vf0{op:Operator}{r:R2}{f:D->D->Option D}(ho:OpR X (binaryOp op) r)(hf:Op2 X.K r f)(ha:PD X a ga)(hb:PD X b gb):PD X (.BinOp a op b pos) (o2 ga gb f):=.mk λB δ=>(Wv0 ho (ha B δ) (hb B δ)).imp fun σ H Q h=>rt0 hf h
theorem rq0{op:CmpOp}{r:R2}{f:D->D->Option D}(ho:OpR X (compareOp op) r)(hf:Op2 X.K r f)(ha:PD X a ga)(hb:PD X b gb)(hm:behindInMarks op b=false:=by first|exact go0 _|with_unfolding_all rfl):PD X (.Compare a [op] [b] pos) (o2 ga gb f) :=
 .mk λB δ=>(b30 ho (ha B δ) (hb B δ) hm).imp fun σ H Q h=>rt0 hf h
theorem Wg0{r:R2}{f:D->D->Option D}(ho:IxR X r)(hf:Op2 X.K r f)(ha:PD X a ga)(hb:PD X b gb)(hs:s70 b:=by exact λ_ _=>rfl):PD X (.Subscript a b pos) (o2 ga gb f) :=
 .mk λB δ=>(cy0 ho (ha B δ) (hb B δ) hs).imp fun σ H Q h=>rt0 hf h
theorem m8{op:CmpOp}{r:R2}{f:D->D->Option D}(ho:OpR X (compareOp op) r)(hf:Op2 X.K r f)(ha:PD X a ga)(hb:PD X b gb)(hm:behindInMarks op b=false:=by first|exact go0 _|with_unfolding_all rfl):PTD X (.Compare a [op] [b] pos) (ob (o2 ga gb f)) :=
 .mk λB δ=>(Z30 ho (ha B δ) (hb B δ) hm).imp fun σ H Q ⟨t,en,h,k⟩=>by
  unfold ob at h;cases e:o2 ga gb f δ with
  | none=>rw[e] at h;cases h
  | some d =>
   rw[e] at h;cases gk0 h;exact rt0 hf ⟨_,en,e,λv H' s r=>⟨t,by rw[W3] at r;exact r,k H' s⟩⟩
theorem zq0(h:PD X e g)(he:∀whole,isTrue e X.env whole=(do let v ← whole;standAt e.pos;holding [v] (truthy v)):=by intro _;rfl):PTD X e (ob g) :=
 .mk λB δ=>(Y80 (h B δ) he).imp fun σ H Q ⟨t,en,h,k⟩=>by
  unfold ob at h;cases e:g δ with
  | none=>rw[e] at h;cases h
  | some d =>
   rw[e] at h;cases gk0 h;exact⟨_,en,e,λv H' s r=>⟨t,by rw[W3] at r;exact r,k H' s⟩⟩
theorem j50(h:PTD X a gt):PTD X (.UnaryOp .Not a pos) (v90 gt) :=
 .mk λB δ=>(Ye0 (h B δ)).imp fun σ H Q ⟨t,en,h,k⟩=>by
  unfold v90 at h;cases e:gt δ with
  | none=>rw[e] at h;cases h
  | some b =>
   rw[e] at h;cases h;exact⟨b,en,e,λH' s=>k H' s⟩
theorem qs0(h:PTD X a gt):PWD X (.BoolOp .Or [a] pos) gt:=.mk λB δ=>Zq0 (h B δ)
theorem m80(ha:PTD X a gt)(hb:PWD X (.BoolOp .Or (b::rest) pos) gu):PWD X (.BoolOp .Or (a::b::rest) pos) (w50 gt gu) :=
 .mk λB δ=>(Wq0 (ha B δ) (hb B δ)).imp fun σ H Q ⟨t,en,h,k⟩=>by
  unfold w50 at h;cases e:gt δ with
  | none=>rw[e] at h;cases h
  | some b =>
   rw[e] at h;refine⟨b,en,e,λH' s=>?_⟩;cases b with
   | false=>exact⟨t,en.same s,h,λJ s'=>k J (s.trans s')⟩
   | true =>
    simp at h;subst h;rw[if_pos rfl];exact k H' s
theorem PWD.pt(h:PWD X e gt):PTD X e gt:=.mk λB δ=>(h B δ).pt
theorem mi0{op}(h:PD X a g):PD X (.BoolOp op [a] pos) g:=.mk λB δ=>Yk0 (h B δ)
theorem rh0(ha:PD X a ga)(hb:PD X (.BoolOp .And (b::rest) pos) gb):PD X (.BoolOp .And (a::b::rest) pos) (wl0 ga gb) :=
 .mk λB δ=>(Yt0 (ha B δ) (hb B δ)).imp fun σ H Q ⟨d,en,h,k⟩=>by
  unfold wl0 ob at h;cases e:ga δ with
  | none=>rw[e] at h;cases h
  | some x =>
   rw[e] at h;refine⟨x,en,e,λv H' s r=>?_⟩;cases x with
   | bl c =>
    rw[W3] at r;refine⟨c,r,?_⟩;cases c with
    | true=>exact⟨d,en.same s,h,λv J s'=>k v J (s.trans s')⟩
    | false =>
     simp[asB] at h;rw[if_neg B5];exact k _ H' s (by rw[← h,W3])
   | _=>simp[asB] at h
theorem Zv0(ha:PD X a ga):PD X (.UnaryOp .Not a pos) (jz0 ga) :=
 .mk λB δ=>(Xj0 (ha B δ)).imp fun σ H Q ⟨d,en,h,k⟩=>by
  unfold jz0 ob at h;cases e:ga δ with
  | none=>rw[e] at h;cases h
  | some x =>
   rw[e] at h;refine⟨x,en,e,λv H' s r=>?_⟩;cases x with
   | bl c =>
    rw[W3] at r;simp[asB] at h;exact⟨c,r,k _ H' s (by rw[← h,W3])⟩
   | _=>simp[asB] at h
theorem Wl0(hc:PTD X c gt)(ha:PD X a ga)(hb:PD X b gb):PD X (.IfExp c a b pos) (ifG gt ga gb) :=
 .mk λB δ=>(dw0 (hc B δ) (ha B δ) (hb B δ)).imp fun σ H Q ⟨d,en,h,k⟩=>by
  unfold ifG at h;cases e:gt δ with
  | none=>rw[e] at h;cases h
  | some t =>
   rw[e] at h;refine⟨t,en,e,λH' s=>?_⟩;cases t with
   | true=>exact⟨d,en.same s,h,λv J s'=>k v J (s.trans s')⟩
   | false=>exact⟨d,en.same s,h,λv J s'=>k v J (s.trans s')⟩
theorem v7:PDA X [] v4:=.mk λB δ=>zm0.imp fun σ H Q ⟨ds,en,h,k⟩=>by cases h;exact k [] H (Same.refl H) (by rw[m5])
theorem z8(ha:PD X e g)(hr:PDA X es gA)(hs:starEach (e::es) X.env=(false,eval e X.env)::starEach es X.env:=by rfl):PDA X (e::es) (z7 g gA) :=
 .mk λB δ=>(Q5 (ha B δ) (hr B δ) hs).imp fun σ H Q ⟨ds,en,h,k⟩=>by
  unfold z7 at h;cases e1:g δ with
  | none=>rw[e1] at h;cases h
  | some d =>
   cases e2:gA δ with
   | none=>rw[e1,e2] at h;cases h
   | some es' =>
    rw[e1,e2] at h;cases h;refine⟨d,en,e1,λv H1 s1 r1=>⟨es',en.same s1,e2,λvs H2 s2 r2=>k _ H2 (s1.trans s2) ?_⟩⟩;rw[p8];exact⟨v,vs,rfl,r1.same s2,r2⟩
theorem X4{x1}(h:PDA X es gA):PD X (.Tuple es x1 pos) (Y4 gA) :=
 .mk λB δ=>(Xf0 (h B δ)).imp fun σ H Q ⟨d,en,h,k⟩=>by
  unfold Y4 at h;cases e1:gA δ with
  | none=>rw[e1] at h;cases h
  | some ds =>
   rw[e1] at h
   by_cases hl:ds.length<=sizeLine
   ·simp only[Option.bind_some,if_pos hl] at h
    cases h;refine⟨ds,en,e1,λvs H1 s1 r1=>⟨by rw[r1.length];exact hl,λp hp=>k _ _ (s1.trans (Z1 hp)) ?_⟩⟩;rw[R7];exact⟨p,vs,rfl,⟨(en.same s1).free hp,j6⟩,r1.same (Z1 hp)⟩
   ·simp only[Option.bind_some,if_neg hl] at h
    cases h
theorem z50(h:PDA X es gA):PD X (.List es pos) (Z6 gA) :=
 .mk λB δ=>(gt0 (h B δ)).imp fun σ H Q ⟨d,en,h,k⟩=>by
  unfold Z6 at h;cases e1:gA δ with
  | none=>rw[e1] at h;cases h
  | some ds =>
   rw[e1] at h
   by_cases hl:ds.length<=sizeLine
   ·simp only[Option.bind_some,if_pos hl] at h
    cases h;refine⟨ds,en,e1,λvs H1 s1 r1=>⟨by rw[r1.length];exact hl,λp hp=>k _ _ (s1.trans (Z1 hp)) ?_⟩⟩;rw[W4];exact⟨p,vs,rfl,.inl ⟨(en.same s1).free hp,.inl j6⟩,r1.same (Z1 hp)⟩
   ·simp only[Option.bind_some,if_neg hl] at h
    cases h
theorem my0{f:List D->Option D}(hf:FnR K r f){σ:St}{Q:VK}(h:tD K B δ (oA gA f) σ H Q):tCB r (tDA K B δ gA) σ H Q:=by
 obtain⟨d,en,h,k⟩:=h;unfold oA at h;cases e1:gA δ with
 | none=>rw[e1] at h;cases h
 | some ds =>
  rw[e1] at h;exact⟨ds,en,e1,λvs H1 s1 r1=>hf H1 B vs ds d Q (en.same s1).bad r1 h λv H' s r=>k v H' (s1.trans s) r⟩
theorem wu0{id:String}{p:Pos}{f:List D->Option D}(hc:CallR X (.builtin id) r)(hf:FnR X.K r f)(hm:X.mg x=none)(hv:bootBuiltins x=some (.builtin id))(ha:PDA X (e::es) gA)(hg:Gl X x:=by rfl)
  (hn:x ≠"__name__" := by decide) (hdb:(x==("__debug__" : Str))=false:=by decide) (he:starEach (e::es) X.env=(false,eval e X.env)::starEach es X.env:=by rfl) (hpl:(backTo pos (starEach es X.env)).any (·.1)=false:=by rfl) :
  PD X (.Call (.Name x p) (e::es) [] pos) (oA gA f):=.mk λB δ=>(su0 hc hg hm hv (ha B δ) hn hdb he hpl).imp fun σ H Q h=>my0 hf h
theorem K5{T:String}{p:Pos}{f:List D->Option D}(hc:CallR X (.type T) r)(hf:FnR X.K r f)(hm:X.mg x=none)(hv:bootBuiltins x=some (.type T))(ha:PDA X (e::es) gA)(hg:Gl X x:=by rfl)
  (hn:x ≠"__name__" := by decide) (hdb:(x==("__debug__" : Str))=false:=by decide) (he:starEach (e::es) X.env=(false,eval e X.env)::starEach es X.env:=by rfl) (hpl:(backTo pos (starEach es X.env)).any (·.1)=false:=by rfl) :
  PD X (.Call (.Name x p) (e::es) [] pos) (oA gA f):=.mk λB δ=>(th0 hc hg hm hv (ha B δ) hn hdb he hpl).imp fun σ H Q h=>my0 hf h
def spD(K:W.Frag)(f:List D->Option D):Sp:=λvs H Q _=>∃(B:BS) (ds:List D) (d:D),(∀a,B a->NB (H a))/\Rps K H B ds vs/\f ds=some d/\∀v H',Same H H'->Rp K H' B d v->Q v H'
theorem bp0{k:Nat}{ps:List Str}{p:Pos}{f:List D->Option D}(F:FnOk X.prog X.w X.K X.mg X.base CX0 k fa fd ps (spD X.K f))(hr:Room k X.A)(hm:X.mg x=some (.ref fa))(hk:W.keepIn X.K (.ref fa)=true)(hb:Binds X.K fd ps [])
  (ha:PDA X (e::es) gA) (hg:Gl X x:=by rfl) (hdb:(x==("__debug__" : Str))=false:=by decide) (he:starEach (e::es) X.env=(false,eval e X.env)::starEach es X.env:=by rfl) (hpl:(backTo pos (starEach es X.env)).any (·.1)=false:=by rfl) :
  PD X (.Call (.Name x p) (e::es) [] pos) (oA gA f):=.mk λB δ=>(p80 (E:=E0) F hr hg hm hk hb .nil nf0 (ha B δ) hdb he hpl).imp fun σ H Q h=>by
 obtain⟨d,en,h,k⟩:=h;unfold oA at h;cases e1:gA δ with
 | none=>rw[e1] at h;cases h
 | some ds =>
  rw[e1] at h;refine⟨ds,en,e1,λvs H1 s1 r1=>?_⟩;show spD X.K f (vs++[]) H1 Q E0;rw[List.append_nil];exact⟨B,ds,d,(en.same s1).bad,r1,h,λv H' s r=>k v H' (s1.trans s) r⟩
end
end DL
variable{B B' B₀:DL.BS}
namespace DL
open Spec PyProof.Rows L2
structure EnvS(K:W.Frag)(H₀:Hp)(B₀:BS)(H:Hp)(σ:St)(δ:Ds):Prop where
 same:Same H₀ H
 ex:∃B:BS,(∀a,B₀ a->B a)/\(∀a,B a->B₀ a∨H₀ a=none)/\Env K H B σ δ
 fr:∀(i:Nat) (ds:D) (a:Addr),δ[i]?=some (.ow ds)->σ[i]?=some (some (.ref a))->H₀ a=none
 b0:∀a,B₀ a->NB (H₀ a)
def e80(K:W.Frag)(H₀:Hp)(B₀:BS)(D:Ends):Res->Prop
 | .nx δ=>∀σ H,EnvS K H₀ B₀ H σ δ->D.nx σ H
 | .rt d=>∀v H,Same H₀ H->Rp K H B₀ d v->D.rt v H
 | .bk δ=>∀σ H,EnvS K H₀ B₀ H σ δ->D.bk σ H
 | .ct δ=>∀σ H,EnvS K H₀ B₀ H σ δ->D.ct σ H
 | .rf d=>∀p H,H₀ p=none->Same H₀ H->RpL K H (λa=>B₀ a∨a=p) d p->D.rt (.ref p) H
def tDS(K:W.Frag)(H₀:Hp)(B₀:BS)(δ:Ds)(G:Ds->Option Res):TS:=λD σ H=>∃r,EnvS K H₀ B₀ H σ δ/\G δ=some r/\e80 K H₀ B₀ D r
structure PSD(X:Cx)(st:Stmt)(G:Ds->Option Res):Prop where
 mk::go:∀H₀ B₀ δ,PS X st (tDS X.K H₀ B₀ δ G)
instance{X:Cx}{st:Stmt}{G:Ds->Option Res}:CoeFun (PSD X st G) (λ_=>∀H₀ B₀ δ,PS X st (tDS X.K H₀ B₀ δ G)):=⟨PSD.go⟩
structure PSsD(X:Cx)(st:List Stmt)(G:Ds->Option Res):Prop where
 mk::go:∀H₀ B₀ δ,PSs X st (tDS X.K H₀ B₀ δ G)
instance{X:Cx}{st:List Stmt}{G:Ds->Option Res}:CoeFun (PSsD X st G) (λ_=>∀H₀ B₀ δ,PSs X st (tDS X.K H₀ B₀ δ G)):=⟨PSsD.go⟩
section
variable{σ:St}
theorem EnvS.grow(e:EnvS K H₀ B₀ H σ δ)(s:Same H H'):EnvS K H₀ B₀ H' σ δ:=⟨e.same.trans s,let ⟨B,b1,b2,en⟩:=e.ex;⟨B,b1,b2,en.same s⟩,e.fr,e.b0⟩
end
structure Wr(idx:List Nat)(σ σ':St)(δ δ':Ds):Prop where
 len:σ'.length=σ.length
 oth:∀j,j∉idx->σ'[j]?=σ[j]?/\δ'[j]?=δ[j]?
 own:∀j∈idx,∀ds,δ'[j]?≠some (.ow ds)
def tDG(K:W.Frag)(idx:List Nat)(f:D->Ds->Option Ds)(B:BS)(d:D)(δ:Ds):TG:=λv σ H Q=>∃δ',Rp K H B d v/\Env K H B σ δ/\f d δ=some δ'/\∀σ',Wr idx σ σ' δ δ'->Env K H B σ' δ'->Q σ' H
structure PGD(X:Cx)(tg:Expr)(idx:List Nat)(f:D->Ds->Option Ds):Prop where
 mk::go:∀B d δ,PG X tg (tDG X.K idx f B d δ)
instance{X:Cx}{tg:Expr}{idx:List Nat}{f:D->Ds->Option Ds}:CoeFun (PGD X tg idx f) (λ_=>∀B d δ,PG X tg (tDG X.K idx f B d δ)):=⟨PGD.go⟩
theorem _root_.L2.PG.imp{tg:Expr}{t t':TG}(h:PG X tg t)(q:∀v σ H Q,t' v σ H Q->t v σ H Q):PG X tg t':=λpins s σ H v u Q I r z=>h pins s σ H v u Q I r (q v σ H Q z)
theorem q10{σ:St}{d:D}:Wr [i] σ (σ.set i (some v)) δ (δ.set i (.sh d)):=by
 refine⟨by simp,λj hj=>?_,λj hj ds h=>?_⟩
 ·have:j≠i:=by simpa using hj
  rw[List.getElem?_set_ne (A4 this),List.getElem?_set_ne (A4 this)];exact⟨rfl,rfl⟩
 ·have:j=i:=by simpa using hj
  subst this
  by_cases hl:j<δ.length
  ·rw[List.getElem?_set_self hl] at h;cases h
  ·rw[List.getElem?_eq_none (by simpa using hl)] at h;cases h
theorem u9(i:Nat){pos:Pos}(hN:X.N.Nodup)(hi:X.N[i]?=some x:=by rfl)(hx:Loc X.env.scope x:=by first|exact Or.inl rfl|exact Or.inr rfl)
  (hf:X.fn x=true∨X.env.scope.names.lookup x=some .local:=by first|exact .inl rfl|exact .inr rfl|assumption):PGD X (.Name x pos) [i] (gN i):=.mk λB d δ=>(zr0 (i:=i) hN hi hx hf).imp λv σ H Q ⟨δ',r,en,e,k⟩=>by
 cases e;exact k _ q10 (en.set i r)
section
variable{tg:Expr}{G1 G2 Ga Gb:Ds->Option Res}{as bs body:List Stmt}
theorem v8:PSsD X [] u6:=.mk λH₀ B₀ δ pins s σ H D I ⟨r,en,e,k⟩=>by
 cases e;exact pd0 pins s σ H D I (k σ H en)
theorem w6(h1:PSD X st G1)(h2:PSsD X rest G2):PSsD X (st::rest) (v6 G1 G2):=.mk λH₀ B₀ δ pins s σ H D I ⟨r,en,e,k⟩=>by
 unfold v6 at e;cases e1:G1 δ with
 | none=>rw[e1] at e;cases e
 | some r1 =>
  rw[e1] at e;cases r1 with
  | nx δ'=>exact K3 (h1 H₀ B₀ δ) (h2 H₀ B₀ δ') pins s σ H D I ⟨_,en,e1,fun σ' H' en'=>⟨r,en',e,k⟩⟩
  | rt d=>cases e;exact K3 (h1 H₀ B₀ δ) J0 pins s σ H D I ⟨_,en,e1,k⟩
  | bk δ'=>cases e;exact K3 (h1 H₀ B₀ δ) J0 pins s σ H D I ⟨_,en,e1,k⟩
  | ct δ'=>cases e;exact K3 (h1 H₀ B₀ δ) J0 pins s σ H D I ⟨_,en,e1,k⟩
  | rf d=>cases e;exact K3 (h1 H₀ B₀ δ) J0 pins s σ H D I ⟨_,en,e1,k⟩
theorem o6(h:PD X e g):PSD X (.Return (some e) pos) (j7 g):=.mk λH₀ B₀ δ pins s σ H D I ⟨r,en,e1,k⟩=>by
 unfold j7 at e1;obtain⟨B,b1,b2,env⟩:=en.ex;cases e2:g δ with
 | none=>rw[e2] at e1;cases e1
 | some d =>
  rw[e2] at e1;cases e1;exact ll0 (h B δ) pins s σ H D I ⟨d,env,e2,λv H' s' r=>k v H' (en.same.trans s') (r.mono (Gr.less b1))⟩
theorem EnvS.wr{σ σ':St}(e:EnvS K H₀ B₀ H σ δ)(b1:∀a,B₀ a->B a)(b2:∀a,B a->B₀ a∨H₀ a=none)(s:Same H H')(w:Wr idx σ σ' δ δ')(en:Env K H' B σ' δ'):EnvS K H₀ B₀ H' σ' δ':=by
 refine⟨e.same.trans s,⟨B,b1,b2,en⟩,λi ds a h1 h2=>?_,e.b0⟩
 by_cases hi:i∈idx
 ·exact absurd h1 (w.own i hi ds)
 ·rw[(w.oth i hi).2] at h1
  rw[(w.oth i hi).1] at h2;exact e.fr i ds a h1 h2
theorem m7{f:D->Ds->Option Ds}(h:PD X e g)(hg:PGD X tg idx f)(hs:swapsWithSole [tg] e pos.line X.env=pure false:=by rfl)(hw:swappedStores [tg] e X.env=pure none:=by rfl)
  (h1:(assignEach [tg] X.env).map (·.2)=[assign tg X.env]:=by rfl):PSD X (.Assign [tg] e pos) (o9 f g):=.mk λH₀ B₀ δ pins s σ H D I ⟨r,en,e1,k⟩=>by
 unfold o9 at e1;obtain⟨B,b1,b2,env⟩:=en.ex;cases e2:g δ with
 | none=>rw[e2] at e1;cases e1
 | some d =>
  rw[e2] at e1;simp only[Option.bind_some] at e1;cases e3:f d δ with
  | none=>rw[e3] at e1;cases e1
  | some δ' =>
   rw[e3] at e1;cases e1;exact t80 (h B δ) (hg B d δ) hs hw h1 pins s σ H D I ⟨d,env,e2,λv H' s' r=>⟨δ',r,env.same s',e3,fun σ' w en'=>k σ' H' (en.wr b1 b2 s' w en')⟩⟩
theorem g8(hc:PTD X c gt)(ha:PSsD X as Ga)(hb:PSsD X bs Gb):PSD X (.If c as bs pos) (ifD gt Ga Gb):=.mk λH₀ B₀ δ pins s σ H D I ⟨r,en,e1,k⟩=>by
 unfold ifD at e1;obtain⟨B,b1,b2,env⟩:=en.ex;cases e2:gt δ with
 | none=>rw[e2] at e1;cases e1
 | some t =>
  rw[e2] at e1;refine cs0 (hc B δ) (ha H₀ B₀ δ) (hb H₀ B₀ δ) pins s σ H D I ⟨t,env,e2,λH' s'=>?_⟩;cases t with
  | true=>exact⟨r,en.grow s',e1,k⟩
  | false=>exact⟨r,en.grow s',e1,k⟩
structure ItD(K:W.Frag)(B:BS)(J:It)(items:List D)(H₁:Hp):Prop where
 go:∀i H,Gr H₁ H B B->i<items.length->J.go i H
 yld:∀i H x H',Gr H₁ H B B->J.yld i H x H'->i<items.length->Same H H'/\∃d,items[i]?=some d/\∀B':BS,Gr H₁ H' B B'->(∀a,B' a->NB (H a))->Rp K H' B' d x
 stop:∀i H,Gr H₁ H B B->items.length<=i->J.stop i H
def tDI(K:W.Frag)(B:BS)(δ:Ds)(g:Ds->Option (List D)):TI:=fun σ H R=>∃items,Env K H B σ δ/\g δ=some items/\∀J H',Same H H'->ItD K B J items H'->R J H'
structure PID(X:Cx)(tg e:Expr)(g:Ds->Option (List D)):Prop where
 mk::go:∀B δ,PI X tg e (tDI X.K B δ g)
instance{X:Cx}{tg e:Expr}{g:Ds->Option (List D)}:CoeFun (PID X tg e g) (λ_=>∀B δ,PI X tg e (tDI X.K B δ g)):=⟨PID.go⟩
theorem _root_.L2.PI.imp{t t':TI}(h:PI X tg e t)(q:∀σ H R,t' σ H R->t σ H R):PI X tg e t':=λpins s σ H R I z=>h pins s σ H R I (q σ H R z)
theorem U9(h:PD X e g):PID X tg e (O9 g):=.mk λB δ=>L2.PI.imp (aa0 (h B δ)) fun σ H R ⟨items,en,e1,k⟩=>by
 unfold O9 at e1;cases e2:g δ with
 | none=>rw[e2] at e1;cases e1
 | some d =>
  rw[e2] at e1;cases d<;>simp[qd0] at e1
  subst e1;refine⟨_,en,e2,λv H' s' r=>?_⟩;rw[W4] at r;obtain⟨a,xs,rfl,q,rs⟩:=r;refine⟨a,rfl,⟨xs,q.to⟩,k _ H' s' ⟨λi H2 g2 hi=>?_,λi H2 x H3 g2 y hi=>?_,λi H2 g2 hi=>?_⟩⟩
  ·have:i<xs.length:=by rw[rs.length];exact hi
   exact⟨xs,xs[i],(q.mono g2).to,by simp[this]⟩
  ·obtain⟨e3,y⟩:=y
   obtain⟨x',e4,r'⟩:=rs.get (i:=i) (d:=_) (D9 hi);have:=y xs (q.mono g2).to;rw[e4] at this;cases this;subst e3;exact⟨Same.refl _,_,D9 hi,λB' gB _=>r'.mono gB⟩
  ·exact⟨xs,(q.mono g2).to,by rw[rs.length];exact hi⟩
theorem zp0(h:PD X e g):PID X tg e (tupI g):=.mk λB δ=>L2.PI.imp (Yd0 (h B δ)) fun σ H R ⟨items,en,e1,k⟩=>by
 unfold tupI at e1;cases e2:g δ with
 | none=>rw[e2] at e1;cases e1
 | some d =>
  rw[e2] at e1;cases d<;>simp[cw0] at e1
  subst e1;refine⟨_,en,e2,λv H' s' r=>?_⟩;rw[R7] at r;obtain⟨a,xs,rfl,q,rs⟩:=r;refine⟨a,rfl,⟨xs,q.to⟩,k _ H' s' ⟨λi H2 g2 hi=>?_,λi H2 x H3 g2 y hi=>?_,λi H2 g2 hi=>?_⟩⟩
  ·have:i<xs.length:=by rw[rs.length];exact hi
   exact⟨xs,xs[i],(q.mono g2).to,by simp[this]⟩
  ·obtain⟨e3,y⟩:=y
   obtain⟨x',e4,r'⟩:=rs.get (i:=i) (d:=_) (D9 hi);have:=y xs (q.mono g2).to;rw[e4] at this;cases this;subst e3;exact⟨Same.refl _,_,D9 hi,λB' gB _=>r'.mono gB⟩
  ·exact⟨xs,(q.mono g2).to,by rw[rs.length];exact hi⟩
theorem o80(x:Str):(signs x).length=x.cps.size:=by simp[signs]
theorem j80(h:PD X e g):PID X tg e (jt0 g):=.mk λB δ=>L2.PI.imp (X40 (h B δ)) fun σ H R ⟨items,en,e1,k⟩=>by
 unfold jt0 at e1;cases e2:g δ with
 | none=>rw[e2] at e1;cases e1
 | some d =>
  rw[e2] at e1;cases d<;>simp[ky0] at e1
  subst e1;refine⟨_,en,e2,λv H' s' r=>?_⟩;rw[Y9] at r;refine⟨_,r,k _ H' s' ⟨λi H2 g2 hi=>?_,λi H2 x H3 g2 y hi=>?_,λi H2 g2 hi=>?_⟩⟩
  ·rw[o80] at hi;exact hi
  ·obtain⟨e3,c,hc,rfl⟩:=y
   subst e3;refine⟨Same.refl _,.str ⟨#[c]⟩,?_,λB' gB _=>by rw[Y9]⟩;unfold signs;rw[List.getElem?_map,Array.getElem?_toList,hc];rfl
  ·rw[o80] at hi;exact hi
theorem rd0(lo hi:Int):(V8 lo hi).length=(hi - lo).toNat:=by simp[V8]
theorem jf0(lo hi:Int):ItD K B (Itr lo (hi - lo).toNat) (V8 lo hi) H:=by
 refine⟨λi H2 g2 hi=>?_,λi H2 x H3 g2 y hi=>?_,λi H2 g2 hi=>?_⟩
 ·rw[rd0] at hi;exact hi
 ·obtain⟨e3,rfl⟩:=y
  rw[rd0] at hi;subst e3;exact⟨Same.refl _,.int (lo+i),by simp[V8,hi],λB' gB _=>by rw[j8]⟩
 ·rw[rd0] at hi;exact hi
theorem K7{a:Expr}(hm:X.mg "range"=none)(ha:PDA X [a] gA)(hg:Gl X "range" := by rfl)(hs:starEach [a] X.env=[(false,eval a X.env)]:=by rfl):PID X tg (.Call (.Name "range" p) [a] [] pos) (J1 gA) :=
 .mk λB δ=>L2.PI.imp (gw0 hg hm (ha B δ) hs) fun σ H R ⟨items,en,e1,k⟩=>by
 unfold J1 at e1;cases e2:gA δ with
 | none=>rw[e2] at e1;cases e1
 | some ds =>
  rw[e2] at e1;simp only[Option.bind_some] at e1;unfold i80 at e1;split at e1
  ·split at e1
   ·rename_i j hj
    cases e1;refine⟨_,en,e2,λvs H' s' r=>?_⟩;rw[p8] at r;obtain⟨x,t,rfl,r1,r2⟩:=r;rw[m5] at r2;subst r2;rw[j8] at r1;subst r1;refine⟨j,rfl,hj.1,hj.2,k _ H' s' ?_⟩;have:=jf0 (K:=X.K) (B:=B) (H:=H') 0 j;rw[Int.sub_zero] at this;exact this
   ·cases e1
  ·cases e1
theorem ql0{a:Expr}{p:Pos}(hm:X.mg "range"=none)(ha:PDA X [a,b] gA)(hg:Gl X "range" := by rfl)(hs:starEach [a,b] X.env=[(false,eval a X.env),(false,eval b X.env)]:=by rfl)(hs2:starEach [b] X.env=[(false,eval b X.env)]:=by rfl) :
  PID X tg (.Call (.Name "range" p) [a,b] [] pos) (ug0 gA):=.mk λB δ=>L2.PI.imp (fc0 hg hm (ha B δ) hs hs2) fun σ H R ⟨items,en,e1,k⟩=>by
 unfold ug0 at e1;cases e2:gA δ with
 | none=>rw[e2] at e1;cases e1
 | some ds =>
  rw[e2] at e1;simp only[Option.bind_some] at e1;unfold ia0 at e1;split at e1
  ·split at e1
   ·rename_i i j hj
    cases e1;refine⟨_,en,e2,λvs H' s' r=>?_⟩;rw[p8] at r;obtain⟨x,t,rfl,r1,r2⟩:=r;rw[p8] at r2;obtain⟨y,t',rfl,r2,r3⟩:=r2;rw[m5] at r3;subst r3;rw[j8] at r1 r2;subst r1 r2;exact⟨i,j,rfl,⟨hj.1.1,hj.1.2,hj.2.1,hj.2.2⟩,k _ H' s' (jf0 i j)⟩
   ·cases e1
  ·cases e1
theorem EnvS.lower{H₁:Hp}{σ:St}(e:EnvS K H₁ B₀ H σ δ)(s:Same H₀ H₁)(b0:∀a,B₀ a->NB (H₀ a)):EnvS K H₀ B₀ H σ δ:=by
 obtain⟨B,b1,b2,en⟩:=e.ex;exact⟨s.trans e.same,⟨B,b1,λa z=>(b2 a z).imp id λq=>s.free q,en⟩,λi ds a h1 h2=>s.free (e.fr i ds a h1 h2),b0⟩
open Classical in
theorem Q6{f:D->Ds->Option Ds}(hp:PassesOwn (model X.prog X.w) X.A X.env X.xe)(hc:X.calm=true)(hi:PID X tg iter gi)(hg:PGD X tg idx f)(hb:PSsD X body G)
  (hs:∀x,foldedSetIterable iter X.env x=pure x:=by intro _;rfl):PSD X (.For tg iter body [] pos) (M4 gi f G):=.mk λH₀ B₀ δ pins s σ H D I ⟨r,en,e1,k⟩=>by
 unfold M4 at e1;obtain⟨B,b1,b2,env⟩:=en.ex;cases e2:gi δ with
 | none=>rw[e2] at e1;cases e1
 | some items =>
  rw[e2] at e1;simp only[Option.bind_some] at e1;have a6:PG X tg (λv σ H Q=>∃B d δ,tDG X.K idx f B d δ v σ H Q):=λpins s σ H v u Q I r ⟨B,d,δ,h⟩=>hg B d δ pins s σ H v u Q I r h
  have b4:PSs X body (λD σ H=>∃H₀ B₀ δ,tDS X.K H₀ B₀ δ G D σ H):=λpins s σ H D I ⟨H₀,B₀,δ,h⟩=>hb H₀ B₀ δ pins s σ H D I h
  refine W50 hp hc (hi B δ) a6 b4 hs pins s σ H D I ⟨items,env,e2,λJ H1 s1 it=>?_⟩;obtain⟨Hh,a2⟩:∃Hh:Hp,Hh=λb=>if B b/\¬B₀ b then none else H1 b:=⟨_,rfl⟩
  have Z:∀b,¬B b->Hh b=H1 b:=λb n=>by rw[a2];exact if_neg λz=>n z.1
  have Y:∀b,B b->¬B₀ b->Hh b=none:=λb n n'=>by rw[a2];exact if_pos ⟨n,n'⟩
  have a4:∀b,B₀ b->Hh b=H1 b:=λb n=>by rw[a2];exact if_neg λz=>z.2 n
  have a7:Same Hh H1:=λb o h=>by
   by_cases z:B b/\¬B₀ b
   ·rw[Y b z.1 z.2] at h;cases h
   ·rw[a2] at h
    have h':(if B b/\¬B₀ b then none else H1 b)=some o:=h;rw[if_neg z] at h';exact h'
  have hS:Same H₀ Hh:=λb o h=>by
   have h1:=s1 b o (en.same b o h)
   by_cases z:B b
   ·rcases b2 b z with q|q
    ·rw[a4 b q];exact h1
    ·rw[h] at q;cases q
   ·rw[Z b z];exact h1
  have a1:=env.same s1;have start:EnvS X.K Hh B₀ H1 σ δ:=by
   refine⟨a7,⟨B,b1,λa z=>?_,a1⟩,λi ds a h1 h2=>?_,λa z=>?_⟩
   ·by_cases q:B₀ a
    ·exact .inl q
    ·exact .inr (Y a z q)
   ·have hn:=en.fr i ds a h1 h2
    have nb:¬B₀ a:=λz=>en.b0 a z hn
    obtain⟨o,e3,a',e4,hB,_⟩:=Pd.get a1.all h1;rw[h2] at e3;cases e3;cases e4;exact Y a hB nb
   ·rw[a4 a z]
    exact a1.bad a (b1 a z)
  refine⟨λi m σ H=>m=items.length - i/\i<=items.length/\∃δi,EnvS X.K Hh B₀ H σ δi/\S8 f G (items.drop i) δi=some r,⟨_,rfl,C0 _,δ,start,e1⟩,?_⟩;rintro i m σi Hi ⟨rfl,b5,δi,O,ei⟩;have gr:Gr H1 Hi B B:=λb o n h=>⟨n,O.same b o (by rw[Z b n];exact h)⟩
  by_cases hlt:i<items.length
  ·refine .inr ⟨it.go i Hi gr hlt,fun σ' H'=>∃δn,EnvS X.K Hh B₀ H' σ' δn/\S8 f G (items.drop (i+1)) δn=some r,fun σ' H' ⟨δn,en',e'⟩=>⟨items.length - (i+1),by omega,rfl,hlt,δn,en',e'⟩,λx H' y=>?_⟩
   obtain⟨sm,d,hd,rd⟩:=it.yld i Hi x H' gr y hlt;obtain⟨B',c1,c2,env0⟩:=O.ex;have b3:Rp X.K H' B' d x:=rd B' (λb o n h=>by
    have h':Hh b=some o:=by rw[Z b n];exact h
    refine⟨λz=>?_,sm b o (O.same b o h')⟩;rcases c2 b z with q|q
    ·exact n (b1 b q)
    ·rw[h'] at q;cases q) env0.bad
   have a5:=env0.same sm
   replace O:=O.grow sm
   have a3:items.drop i=d::items.drop (i+1):=by
    rw[List.drop_eq_getElem_cons hlt];congr 1;rw[List.getElem?_eq_getElem hlt] at hd;exact B6 hd
   rw[a3] at ei;unfold S8 at ei;cases e3:f d δi with
   | none=>rw[e3] at ei;cases ei
   | some δ2 =>
    rw[e3] at ei;simp only[Option.bind_some] at ei;refine⟨B',d,δi,δ2,b3,a5,e3,fun σ' w en'=>?_⟩;have a8:EnvS X.K Hh B₀ H' σ' δ2:=O.wr c1 c2 (Same.refl _) w en';cases e4:G δ2 with
    | none=>rw[e4] at ei;cases ei
    | some rb =>
     rw[e4] at ei;refine⟨Hh,B₀,δ2,rb,a8,e4,?_⟩;cases rb with
     | nx δn=>exact fun σ' H' en'=>⟨δn,en',ei⟩
     | ct δn=>exact fun σ' H' en'=>⟨δn,en',ei⟩
     | bk δn =>
      cases ei;exact fun σ' H' en'=>k σ' H' (en'.lower hS en.b0)
     | rt d' =>
      cases ei;exact λv H' s' r'=>k v H' (hS.trans s') r'
     | rf d' =>
      cases ei;exact λp H' hp s' r'=>k p H' (hS.free hp) (hS.trans s') r'
  ·have e:i=items.length:=by omega
   subst e;refine .inl ⟨it.stop _ Hi gr (A1 _),?_⟩;rw[List.drop_length] at ei;cases ei;exact k σi Hi (O.lower hS en.b0)
structure PFD(X:Cx)(ifs:List Expr)(g:Ds->Option Bool):Prop where
 mk::go:∀B δ,PF X ifs (tDT X.K B δ g)
instance{X:Cx}{ifs:List Expr}{g:Ds->Option Bool}:CoeFun (PFD X ifs g) (λ_=>∀B δ,PF X ifs (tDT X.K B δ g)):=⟨PFD.go⟩
theorem V5:PFD X [] noT:=.mk λB δ pins s σ H Q I ⟨b,en,e,k⟩=>by
 cases e;exact Xy0 pins s σ H Q I (k H (Same.refl H))
theorem ki0(h:PTD X c gt):PFD X [c] gt:=.mk λB δ=>X50 (h B δ)
theorem ee0{σ:St}(h:j<n):(O7 n caps σ)[j]?=some none:=by
 unfold O7;rw[List.getElem?_append_left (by simpa using h),List.getElem?_replicate,if_pos h]
theorem zz0:∀n:Nat,Paired (SlR K H B) (List.replicate n (none:Option V)) (List.replicate n Sl.un)
 | 0=>.nil
 | n+1=>.cons trivial (zz0 n)
theorem lu0{σ:St}(en:Env K H B σ δ):∀caps:List Nat,Paired (SlR K H B) (caps.map λj=>(σ[j]?).join) (caps.map λj=>nn0 δ[j]?)
 | []=>.nil
 | j::caps=>by
  refine .cons ?_ (lu0 en caps);show SlR K H B (σ[j]?).join (nn0 δ[j]?);cases h:δ[j]? with
  | none=>trivial
  | some sl =>
   cases sl with
   | un=>trivial
   | ow ds=>trivial
   | ex c n=>trivial
   | sh d =>
    obtain⟨v,e,r⟩:=en.get h;rw[e];exact⟨v,rfl,r⟩
theorem et0{o:Option Sl}{ds:D}(h:nn0 o=.ow ds):False:=by
 cases o with
 | none=>cases h
 | some s=>cases s<;>cases h
theorem sy0{ds:D}(h:(y20 n caps δ)[i]?=some (.ow ds)):False:=by
 unfold y20 at h
 by_cases hi:i<n
 ·rw[List.getElem?_append_left (by simpa using hi),List.getElem?_replicate,if_pos hi] at h
  cases h
 ·rw[List.getElem?_append_right (by simpa using hi),List.getElem?_map] at h
  cases q:caps[i - (List.replicate n Sl.un).length]? with
  | none=>rw[q] at h;cases h
  | some j =>
   rw[q] at h;exact et0 (B6 h)
theorem Env.comp{σ:St}(en:Env K H B σ δ)(n:Nat)(caps:List Nat):Env K H B (O7 n caps σ) (y20 n caps δ) :=
 ⟨Pd.app (zz0 n) (lu0 en caps),en.bad,λi j a ds es h1 _ _ _=>(sy0 h1).elim⟩
theorem SlR.gr{o:Option V}{s:Sl}(g:Gr H H' B B')(no:∀ds,s≠.ow ds)(h:SlR K H B o s):SlR K H' B' o s:=by
 cases s with
 | un=>trivial
 | sh d=>obtain⟨v,e,r⟩:=h;exact⟨v,e,r.mono g⟩
 | ow ds=>exact absurd rfl (no ds)
 | ex c n=>obtain⟨a,e,r⟩:=h;exact⟨a,e,r.mono g⟩
theorem Pd.impG(g:Gr H H' B B'):∀{σ:St} {δ:Ds},(∀(i:Nat) (ds:D),δ[i]?≠some (.ow ds))->Paired (SlR K H B) σ δ->Paired (SlR K H' B') σ δ
 | _,_,_,.nil=>.nil
 | _,_,no,.cons r t=>.cons (r.gr g λds z=>no 0 ds (by rw[← z];rfl)) (Pd.impG g (λi ds z=>no (i+1) ds (by simpa using z)) t)
def tDF(K:W.Frag)(B:BS)(δ:Ds)(g:Ds->Option D):TE:=fun σ H Q=>∃d,Env K H B σ δ/\g δ=some d/\∀p H',H p=none->Same H H'->RpO K H' (λa=>B a∨a=p) d p->Q (.ref p) H'
structure PDF(X:Cx)(e:Expr)(g:Ds->Option D):Prop where
 mk::go:∀B δ,PE X e (tDF X.K B δ g)
instance{X:Cx}{e:Expr}{g:Ds->Option D}:CoeFun (PDF X e g) (λ_=>∀B δ,PE X e (tDF X.K B δ g)):=⟨PDF.go⟩
theorem tD.toF{σ:St}{Q:VK}(h:tD K B δ g σ H Q):tDF K B δ g σ H Q:=by
 obtain⟨d,en,e,k⟩:=h;exact⟨d,en,e,λp H' hp s r=>k _ H' s (r.rp (λa z=>.inl z) (en.free hp))⟩
theorem PDF.pd(h:PDF X e g):PD X e g:=.mk λB δ=>(h B δ).imp fun σ H Q z=>z.toF
theorem pv0{K:W.Frag}{B:BS}{δ:Ds}{σ:St}{H:Hp}{Q:VK}{caps:List Nat}{gi:Ds->Option (List D)}{f:D->Ds->Option Ds}{gt:Ds->Option Bool}{ge:Ds->Option D}(hidx:∀j∈idx,j<n)
  (h:tDF K B δ (b8 n caps gi f gt ge) σ H Q) :
  jx0 n caps (tDI K B δ gi) (λv σ H Q=>∃B d δ,tDG K idx f B d δ v σ H Q) (fun σ H Q=>∃B δ,tDT K B δ gt σ H Q) (fun σ H Q=>∃B δ,tD K B δ ge σ H Q) σ H Q:=by
 obtain⟨d,en,h,k⟩:=h;unfold b8 at h;cases e1:gi δ with
 | none=>rw[e1] at h;cases h
 | some items =>
  rw[e1] at h;simp only[Option.bind_some] at h
  by_cases hsz:items.length<=sizeLine
  ·rw[if_pos hsz] at h
   cases e2:V3 f gt ge (y20 n caps δ) items with
   | none=>rw[e2] at h;cases h
   | some out =>
    rw[e2] at h;cases h;refine⟨items,en,e1,λJ H1 s1 it=>λL hL=>?_⟩;have Z:=en.same s1;have b3:¬B L:=Z.free hL;obtain⟨Bp,O⟩:∃Bp:BS,Bp=λa=>B a∨a=L:=⟨_,rfl⟩
    have a6:Bp L:=by rw[O];exact .inr rfl
    have b0:∀a,B a->Bp a:=λa z=>by rw[O];exact .inl z
    have a2:∀a,Bp a->B a∨a=L:=λa z=>by rw[O] at z;exact z
    have gr:∀{H2:Hp},Same H1 H2->Gr H1 H2 B Bp:=λ{H2} s2 b o nb hb=>⟨(λz=>by
     rcases a2 b z with q|q
     ·exact nb q
     ·subst q;rw[hL] at hb;cases hb),s2 b o hb⟩
    refine⟨λi m ys H2=>m=items.length - i/\i<=items.length/\H2 L=some (.lst ys)/\Same H1 H2/\ys.length<=i/\∃pre rest,out=pre++rest/\Rps K H2 Bp pre ys/\V3 f gt ge (y20 n caps δ) (items.drop i)=some rest,
     ⟨_,rfl,C0 _,j6,Z1 hL,A1 _,[],out,rfl,by rw[m5],e2⟩,?_⟩
    rintro i m ys H2 ⟨rfl,b1,hD,s2,b2,pre,rest,ho,rp,ec⟩;have Y:Env K H2 Bp (O7 n caps σ) (y20 n caps δ):=by
     refine⟨Pd.impG (gr s2) (λi ds z=>sy0 z) (Z.comp n caps).all,λa z=>?_,λi j a ds es h1 _ _ _=>(sy0 h1).elim⟩;rcases a2 a z with q|q
     ·exact(Z.same s2).bad a q
     ·subst q;rw[hD];exact .of rfl λ_ _ z=>nomatch z
    by_cases hlt:i<items.length
    ·refine .inr ⟨it.go i H2 (Gr.same s2) hlt,λx H3 y=>?_⟩
     obtain⟨sm,dx,a3,rx⟩:=it.yld i H2 x H3 (Gr.same s2) y hlt;have a8:Rp K H3 Bp dx x:=rx Bp (gr (s2.trans sm)) Y.bad
     replace Y:=Y.same sm
     replace s2:=s2.trans sm
     replace hD:=sm _ _ hD
     replace rp:=rp.same sm
     have a1:items.drop i=dx::items.drop (i+1):=by
      rw[List.drop_eq_getElem_cons hlt];congr 1;rw[List.getElem?_eq_getElem hlt] at a3;exact B6 a3
     rw[a1] at ec;unfold V3 at ec;cases e3:f dx (y20 n caps δ) with
     | none=>rw[e3] at ec;cases ec
     | some δ' =>
      rw[e3] at ec;dsimp only at ec;refine⟨Bp,dx,y20 n caps δ,δ',a8,Y,e3,fun σ4 w en4=>⟨⟨w.len,λj v z=>?_⟩,?_⟩⟩
      ·by_cases hj:j∈idx
       ·rw[ee0 (hidx j hj)] at z;cases z
       ·rw[(w.oth j hj).1];exact z
      ·cases e4:gt δ' with
       | none=>rw[e4] at ec;cases ec
       | some t =>
        rw[e4] at ec;refine⟨Bp,δ',t,en4,e4,λH5 s5=>?_⟩;cases t with
        | false =>
         rw[if_neg B5];exact⟨items.length - (i+1),by omega,rfl,hlt,s5 _ _ hD,s2.trans s5,by omega,pre,rest,ho,rp.same s5,ec⟩
        | true =>
         rw[if_pos rfl];dsimp only at ec;cases e5:ge δ' with
         | none=>rw[e5] at ec;cases ec
         | some yd =>
          rw[e5] at ec;dsimp only at ec;cases e6:V3 f gt ge (y20 n caps δ) (items.drop (i+1)) with
          | none=>rw[e6] at ec;cases ec
          | some rest' =>
           rw[e6] at ec;cases ec;refine⟨Bp,δ',yd,en4.same s5,e5,λv H6 s6 r6=>?_⟩;have a7:H6 L=some (.lst ys):=s6 _ _ (s5 _ _ hD);have g6:Gr H6 (upd H6 L (.lst (ys++[v]))) Bp Bp:=λb o nb hb=>⟨nb,by
            rw[o7 (λz=>nb (by rw[z];exact a6))];exact hb⟩
           refine⟨a7,by omega,items.length - (i+1),by omega,rfl,hlt,j6,λb o hb=>?_,by simp;omega,pre++[yd],rest',by rw[ho];simp,?_,e6⟩
           ·have a4:b≠L:=λz=>by rw[z,hL] at hb;cases hb
            rw[o7 a4];exact s6 _ _ (s5 _ _ (s2 _ _ hb))
           ·exact(Rps.snoc ((rp.same s5).same s6) r6).mono g6
    ·have e:i=items.length:=by omega
     subst e;refine .inl ⟨it.stop _ H2 (Gr.same s2) (A1 _),?_⟩;rw[List.drop_length] at ec;have a5:([]:List D)=rest:=B6 ec;subst a5;rw[List.append_nil] at ho;subst ho;refine k L H2 (s1.free hL) (s1.trans s2) ⟨ys,hD,?_⟩;rw[O] at rp;exact rp
  ·rw[if_neg hsz] at h;cases h
theorem nu0{sc scope:Scope}{elt iter:Expr}{ifs:List Expr}{N':List Str}{n:Nat}{caps:List Nat}{gi:Ds->Option (List D)}{idx:List Nat}{f:D->Ds->Option Ds}{ge:Ds->Option D}
  (hc:X.calm=true) (hsc:X.env.scope=sc) (ok:CompOk sc scope X.N N' n caps) (hidx:∀j∈idx,j<n) (hi:PID X tg iter gi)
  (hg:∀cl s H ex,PGD (Z9 X scope cl N' s H ex) tg idx f) (ht:∀cl s H ex,PFD (Z9 X scope cl N' s H ex) ifs gt) (he:∀cl s H ex,PD (Z9 X scope cl N' s H ex) elt ge)
  (hs:∀x,foldedSetIterable iter X.env x=pure x:=by intro _;rfl) :
  PDF X (.ListComp elt [⟨tg,iter,ifs,0⟩] scope pos) (b8 n caps gi f gt ge):=.mk λB δ =>
 (bu0 hc hsc ok (hi B δ) (g:=λv σ H Q=>∃B d δ,tDG X.K idx f B d δ v σ H Q) (tt:=fun σ H Q=>∃B δ,tDT X.K B δ gt σ H Q) (te:=fun σ H Q=>∃B δ,tD X.K B δ ge σ H Q)
  (λcl s H ex pins s' σ H v u Q I r ⟨B,d,δ,h⟩=>hg cl s _ ex B d δ pins s' σ H v u Q I r h)
  (λcl s H ex pins s' σ H Q I ⟨B,δ,h⟩=>ht cl s _ ex B δ pins s' σ H Q I h)
  (λcl s H ex pins s' σ H Q I ⟨B,δ,h⟩=>he cl s _ ex B δ pins s' σ H Q I h) hs).imp fun σ H Q h=>pv0 hidx h
theorem a80{sc scope:Scope}{elt iter:Expr}{ifs:List Expr}{N':List Str}{n:Nat}{caps:List Nat}{gi:Ds->Option (List D)}{idx:List Nat}{f:D->Ds->Option Ds}{ge:Ds->Option D}
  (hc:X.calm=true) (hsc:X.env.scope=sc) (ok:CompOk sc scope X.N N' n caps) (hidx:∀j∈idx,j<n) (hi:PID X tg iter gi)
  (hg:∀cl s H ex,PGD (Z9 X scope cl N' s H ex) tg idx f) (ht:∀cl s H ex,PFD (Z9 X scope cl N' s H ex) ifs gt) (he:∀cl s H ex,PD (Z9 X scope cl N' s H ex) elt ge)
  (hs:∀x,foldedSetIterable iter X.env x=pure x:=by intro _;rfl) :
  PD X (.ListComp elt [⟨tg,iter,ifs,0⟩] scope pos) (b8 n caps gi f gt ge):=(nu0 hc hsc ok hidx hi hg ht he hs).pd
theorem lx0(i:Nat){y:Str}{py spos:Pos}{sc scope:Scope}{elt iter:Expr}{ifs:List Expr}{N':List Str}{n:Nat}{caps:List Nat}{gi:Ds->Option (List D)}{idx:List Nat}{f:D->Ds->Option Ds}{ge:Ds->Option D}
  (hN:X.N.Nodup) (hc:X.calm=true) (hsc:X.env.scope=sc) (ok:CompOk sc scope X.N N' n caps) (hidx:∀j∈idx,j<n) (hi:PID X tg iter gi)
  (hg:∀cl s H ex,PGD (Z9 X scope cl N' s H ex) tg idx f) (ht:∀cl s H ex,PFD (Z9 X scope cl N' s H ex) ifs gt) (he:∀cl s H ex,PD (Z9 X scope cl N' s H ex) elt ge)
  (hiN:X.N[i]?=some y:=by rfl) (hy:Loc X.env.scope y:=by first|exact Or.inl rfl|exact Or.inr rfl)
  (hsw:swapsWith (.ListComp elt [⟨tg,iter,ifs,0⟩] scope pos) (some (.Name y py)) spos.line X.env=pure true:=by rfl)
  (hs:∀x,foldedSetIterable iter X.env x=pure x:=by intro _;rfl)
  (hf:X.fn y=true∨X.env.scope.names.lookup y=some .local:=by first|exact .inl rfl|exact .inr rfl|assumption) :
  PSD X (.Assign [.Name y py] (.ListComp elt [⟨tg,iter,ifs,0⟩] scope pos) spos) (o9 (gN i) (b8 n caps gi f gt ge)):=.mk λH₀ B₀ δ pins s σ H D I ⟨r,en,e1,k⟩=>by
 unfold o9 at e1;obtain⟨B,b1,b2,env⟩:=en.ex;cases e2:b8 n caps gi f gt ge δ with
 | none=>rw[e2] at e1;cases e1
 | some d =>
  rw[e2] at e1;cases e1;refine jp0 (i:=i) hN hiN hy hc hsc ok (hi B δ) (g:=λv σ H Q=>∃B d δ,tDG X.K idx f B d δ v σ H Q) (tt:=fun σ H Q=>∃B δ,tDT X.K B δ gt σ H Q) (te:=fun σ H Q=>∃B δ,tD X.K B δ ge σ H Q)
   (λcl s H ex pins s' σ H v u Q I r ⟨B,d,δ,h⟩=>hg cl s _ ex B d δ pins s' σ H v u Q I r h)
   (λcl s H ex pins s' σ H Q I ⟨B,δ,h⟩=>ht cl s _ ex B δ pins s' σ H Q I h)
   (λcl s H ex pins s' σ H Q I ⟨B,δ,h⟩=>he cl s _ ex B δ pins s' σ H Q I h) hsw hs hf pins s σ H D I (pv0 hidx (tD.toF ⟨d,env,e2,λv H' s' r'=>k _ H' (en.wr b1 b2 s' q10 ((env.same s').set i r'))⟩))
end
theorem J4{N:List Str}:∀{ds:List D} {vs:List V},Rps K H B ds vs->Paired (SlR K H B) (vs.map some) (ds.map Sl.sh)
 | [],_,h=>by rw[m5] at h;subst h;exact .nil
 | d::ds,_,h=>by
  rw[p8] at h;obtain⟨x,r,rfl,h1,h2⟩:=h;exact .cons ⟨x,rfl,h1⟩ (J4 (N:=N) h2)
theorem U0{es:D}(h:(j5 N ds)[i]?=some (.ow es)):False:=by
 unfold j5 at h
 by_cases hi:i<ds.length
 ·rw[List.getElem?_append_left (by simpa using hi),List.getElem?_map] at h
  cases q:ds[i]? with
  | none=>rw[q] at h;cases h
  | some d=>rw[q] at h;cases h
 ·rw[List.getElem?_append_right (by simpa using hi),List.getElem?_replicate] at h
  split at h<;>cases h
section
variable{P:Program}{w:World}
theorem okD{ps:List Str}{k:Nat}{f:List D->Option D}{G:Ds->Option Res}(F:Fun K x qual st fa fd)(S:FnScope N ps (u5 st))
  (body:∀(cdv:Value) (A:Around) (outer:List PySem.Env) (s:Shared) (H:Hp) (E:XK),Room k (A.deeper (envOfC qual (u5 st) s.heap.objs.size fa cdv))->PSsD (zv0 CX0 P w K mg base N qual (u5 st) fa cdv A outer s H E).nox (Z2 st) G)
  (hf:∀ds d,f ds=some d->ds.length=ps.length/\(G (j5 N ds)=some (.rt d)∨(d=.non/\∃δ,G (j5 N ds)=some (.nx δ))∨G (j5 N ds)=some (.rf d)/\isL d=false)) :
  FnOk P w K mg base CX0 (k+1) fa fd ps (spD K f):=by
 refine F.ok S (λvs H Q E ⟨B,ds,d,_,r,h,_⟩=>?_) (λcdv A outer s H vs Q E hr ⟨B,ds,d,hb,r,h,q⟩=>?_)
 ·rw[r.length];exact(hf ds d h).1
 ·refine⟨_,body cdv A outer s H E hr H B (j5 N ds),?_⟩
  have en:EnvS K H B H (L2.start N vs) (j5 N ds):=by
   refine⟨Same.refl H,⟨B,λ_ z=>z,λ_ z=>.inl z,⟨?_,hb,λi j a J es h1 _ _ _=>(U0 h1).elim⟩⟩,λi J a h1 _=>(U0 h1).elim,hb⟩;unfold L2.start j5;rw[r.length];exact Pd.app (J4 (N:=N) r) (zz0 _)
  rcases (hf ds d h).2 with e|⟨rfl,δ,e⟩|⟨e,hn⟩
  ·exact⟨_,en,e,λv H' s' r'=>q v H' s' r'⟩
  ·exact⟨_,en,e,fun σ' H' en'=>q .non H' en'.same (by rw[U4])⟩
  ·exact⟨_,en,e,λp H' hp s' r'=>q _ H' s' ((r'.toO hn).rp (λa z=>.inl z) (λz=>hb p z hp))⟩
def spN(K:W.Frag)(f:List D->Option D):Sp:=λvs H Q _=>∃(B:BS) (ds:List D) (d:D),(∀a,B a->NB (H a))/\Rps K H B ds vs/\f ds=some d/\∀p H',H p=none->Same H H'->RpO K H' (λa=>B a∨a=p) d p->Q (.ref p) H'
theorem okN{ps:List Str}{k:Nat}{f:List D->Option D}{G:Ds->Option Res}(F:Fun K x qual st fa fd)(S:FnScope N ps (u5 st))
  (body:∀(cdv:Value) (A:Around) (outer:List PySem.Env) (s:Shared) (H:Hp) (E:XK),Room k (A.deeper (envOfC qual (u5 st) s.heap.objs.size fa cdv))->PSsD (zv0 CX0 P w K mg base N qual (u5 st) fa cdv A outer s H E).nox (Z2 st) G)
  (hf:∀ds d,f ds=some d->ds.length=ps.length/\G (j5 N ds)=some (.rf d)/\isL d=false) :
  FnOk P w K mg base CX0 (k+1) fa fd ps (spN K f):=by
 refine F.ok S (λvs H Q E ⟨B,ds,d,_,r,h,_⟩=>?_) (λcdv A outer s H vs Q E hr ⟨B,ds,d,hb,r,h,q⟩=>?_)
 ·rw[r.length];exact(hf ds d h).1
 ·refine⟨_,body cdv A outer s H E hr H B (j5 N ds),?_⟩
  have en:EnvS K H B H (L2.start N vs) (j5 N ds):=by
   refine⟨Same.refl H,⟨B,λ_ z=>z,λ_ z=>.inl z,⟨?_,hb,λi j a J es h1 _ _ _=>(U0 h1).elim⟩⟩,λi J a h1 _=>(U0 h1).elim,hb⟩;unfold L2.start j5;rw[r.length];exact Pd.app (J4 (N:=N) r) (zz0 _)
  exact⟨_,en,(hf ds d h).2.1,λp H' hp s' r'=>q p H' hp s' (r'.toO (hf ds d h).2.2)⟩
end
end DL
namespace L2
open Spec PyProof.Rows
theorem l40:∀{bs:List Bool} {us:List Value} {i:Nat} {v:Value},Vals (bs.map V.bl) us->us[i]?=some v->v=.bool (bs.getD i true)
 | [],_,_,_,r,e=>by
  rw[List.map_nil] at r;cases r;simp at e
 | b::bs,_,0,v,r,e=>by
  rw[List.map_cons] at r;cases r with
  | cons r1 r2=>simp at e;subst e;exact r1
 | b::bs,_,i+1,v,r,e=>by
  rw[List.map_cons] at r;cases r with
  | cons r1 r2=>simpa using l40 (i:=i) r2 (by simpa using e)
theorem all_range(bs:List Bool):(List.range bs.length).all (λi=>bs.getD i true)=bs.all id:=by
 rw[Bool.eq_iff_iff,List.all_eq_true,List.all_eq_true];constructor
 ·intro h b hb
  obtain⟨i,hi,rfl⟩:=Al0.mp hb;have:=h i (B8.mpr hi)
  simpa [Am0,hi] using this
 ·intro h i hi
  have J:=B8.mp hi;have:=h bs[i] (D6 J)
  simpa [Am0,J] using this
theorem dm0(hc:X.calm=true):CallR X (.builtin "all") (λxs H Q=>∃(p:Addr) (bs:List Bool),xs=[.ref p]/\SqL X.K H p (bs.map V.bl)/\Q (.bl (bs.all id)) H):=by
 intro pins s σ H xs us Q I rs h;obtain⟨p,bs,rfl,hq,q⟩:=h;obtain⟨u,rfl,ru⟩:=rs.one;cases ru;obtain⟨its,rv,pl,hz⟩:=I.list hq;refine call_all_walk (wpAny_pyIter_list pl.isList ?_);have hp:p≠s.heap.objs.size:=by
  obtain⟨o,n,e,_⟩:=pl;exact A6 (A3 e)
 refine⟨_,_,_,_,_,_,λi=>bs.getD i true,rfl,Walks.list (A:=X.A.in1) (I.ok.hd hc) s.heap.objs.size p hp its.toArray,⟨⟨_,B9 _ rfl,rfl,rfl⟩,pl.isList.push _⟩,?_,?_⟩
 ·intro i v s' Q' E' hP hQ
  have e:=l40 rv (i:=i) (v:=v) (by simpa using hP);subst e;exact L5 hQ
 ·intro h' tk hk
  have e1:its.toArray.size=bs.length:=by
   have:=rv.length;simp at this;simp[this]
  rw[e1,all_range];refine⟨.bl (bs.all id),H,I.kept (t':=tk) λb o e=>?_,rfl,q⟩;refine hk b o ?_ (A7 _ e);intro z;have z':b=s.heap.objs.size:=by simpa using z
  subst z';exact absurd (A3 e) (C9 _)
theorem lp0:∀{ys:List Str} {us:List Value},Vals (ys.map V.str) us->StrsAre us ys
 | [],_,r=>by rw[List.map_nil] at r;cases r;exact .nil
 | y::ys,_,r=>by
  rw[List.map_cons] at r;cases r with
  | cons r1 r2 =>
   obtain⟨t,e⟩:=r1;subst e;exact .cons y t (lp0 r2)
theorem bh0:MtR X "str.join" (λx xs H Q=>∃(sep:Str) (p:Addr) (ys:List Str),x=.str sep/\xs=[.ref p]/\SqL X.K H p (ys.map V.str)/\(ys.map (·.length)).sum+ys.length*sep.length<=16777216/\Q (.str (Txt.join sep ys)) H):=by
 intro pins s σ H x xs v us Q I rx rs h;obtain⟨sep,p,ys,rfl,rfl,hq,hz,q⟩:=h;obtain⟨t,rfl⟩:=rx;obtain⟨u,rfl,ru⟩:=rs.one;cases ru;obtain⟨its,rv,pl,_⟩:=I.list hq;exact join_list pl.isList (by simpa using lp0 rv) hz λt' k=>⟨.str _,H,I.tok k,⟨t',rfl⟩,q⟩
theorem part_of{o:Option Int}(p:IsPart u o):∃l:Option (Int×Tok),u=partValue l/\l.map (·.1)=o:=by
 cases p with
 | none=>exact⟨none,rfl,rfl⟩
 | int i t=>exact⟨some (i,t),rfl,rfl⟩
theorem W80:SlR X (λx lo hi H Q=>∃z,x=.str z/\z.length<=sizeLine/\Q (.str (Txt.slice z lo hi)) H):=by
 intro pins s σ H x v vl vu lo hi sl Q I rx hs pl pu h;obtain⟨z,rfl,hz,q⟩:=h;obtain⟨t,rfl⟩:=rx;obtain⟨l,rfl,rfl⟩:=part_of pl;obtain⟨u,rfl,rfl⟩:=part_of pu;refine⟨"str",_,F.slot_str_getitem.lookup,L9 _ _ _,wpAny_getItem_str_slice (l:=l) (u:=u) (st:=none) ?_ rfl (post_val_or_str ⟨C3 (Txt.slice_le z _ _) hz,λt' k=>⟨.str _,H,I.tok k,⟨t',rfl⟩,q⟩⟩)⟩;obtain⟨o,h1,h2,h3⟩:=hs;exact⟨o,h1,h2,h3⟩
end L2
namespace DL
open Spec PyProof.Rows L2
def tyD:D->String
 | .non => "NoneType"|.bl _ => "bool"|.int _ => "int"|.str _ => "str"|.tup _ => "tuple"|.lst _ => "list"|.dct _ _ => "dict"|.fn _ _ => "function"
def okT(T:String)(f:D->Bool):Prop:=∀(K:W.Frag) (d:D),W.kitOne K (.type (tyD d)) (.type T)=some (f d)
theorem j90:okT "int" isInt:=λK d=>by cases d<;>kernel_rfl
theorem kr0:okT "str" isStr:=λK d=>by cases d<;>kernel_rfl
theorem e90:okT "bool" isBool:=λK d=>by cases d<;>kernel_rfl
theorem zl0:okT "tuple" isTup:=λK d=>by cases d<;>kernel_rfl
theorem ld0:okT "list" q90:=λK d=>by cases d<;>kernel_rfl
section
theorem df0{T:String}{f:D->Bool}(hT:okT T f):CallR X (.builtin "isinstance") (λxs H Q=>∃B d x,xs=[x,.ty T]/\Rp X.K H B d x/\Q (.bl (f d)) H):=by
 intro pins s σ H xs us Q I rs h;obtain⟨B,d,x,rfl,r,q⟩:=h;obtain⟨u,c,rfl,ru,rc⟩:=rs.two;obtain rfl:c=Value.type T:=rc;have J:∀tk,EP X pins σ Q (.bool (f d)) { s with toks:=tk }:=λtk=>⟨.bl _,H,I.tok tk,rfl,q⟩
 have e:=hT X.K d;cases d with
 | non=>rw[U4] at r;subst r;cases (show u=Value.none from ru);exact E5 W.kitx_none I.kIn True.intro e (λz=>nomatch z) J
 | bl y=>rw[W3] at r;subst r;cases (show u=Value.bool y from ru);exact E5 W.kitx_bool I.kIn True.intro e (λz=>nomatch z) J
 | int i=>rw[j8] at r;subst r;obtain⟨t,rfl⟩:=(show ∃t,u=Value.int i t from ru);exact E5 W.kitx_int I.kIn True.intro e (λz=>nomatch z) J
 | str y=>rw[Y9] at r;subst r;obtain⟨t,rfl⟩:=(show ∃t,u=Value.str y t from ru);exact E5 W.kitx_str I.kIn True.intro e (λz=>nomatch z) J
 | tup ds =>
  rw[R7] at r;obtain⟨a,xs,rfl,hq,_⟩:=r;cases (show u=Value.ref a from ru);obtain⟨its,_,p,_⟩:=I.tuple hq.to;obtain⟨o,h1,h2,_⟩:=p;exact E5 W.kitx_tuple I.kIn ⟨o,h1,h2⟩ e (λz=>nomatch z) J
 | lst ds =>
  rw[W4] at r;obtain⟨a,xs,rfl,hq,_⟩:=r;cases (show u=Value.ref a from ru);obtain⟨its,_,p,_⟩:=I.list hq.to;obtain⟨o,n,h1,h2,_⟩:=p;exact E5 W.kitx_list I.kIn ⟨o,h1,h2⟩ e (λz=>nomatch z) J
 | dct ks ds =>
  rw[vx0] at r;obtain⟨a,xs,rfl,_,hq,_⟩:=r;cases (show u=Value.ref a from ru);cases ks with
  | inl ks =>
   obtain⟨_,_,vs,_,p⟩:=(show ObjOk X.prog X.w H s.heap a (.dK (ks.zip xs)) from I.hok a _ hq);obtain⟨o,es,ep,h1,h2,_⟩:=p;exact E5 W.kitx_dict I.kIn ⟨o,h1,h2.1⟩ e (λz=>nomatch z) J
  | inr ks =>
   obtain⟨_,_,vs,_,o,es,ep,h1,h2,_⟩:=(show ObjOk X.prog X.w H s.heap a (.dT (ks.zip xs)) from I.hok a _ hq);exact E5 W.kitx_dict I.kIn ⟨o,h1,h2.1⟩ e (λz=>nomatch z) J
 | fn ks ds =>
  rw[nk0] at r;obtain⟨a,xs,rfl,hq,_⟩:=r;cases (show u=Value.ref a from ru);obtain⟨oF,_,_,_,_,_,_,_,_,⟨_,h1⟩,⟨h2,_⟩,_⟩:=hq;exact E5 KfT.kit I.kIn ⟨oF,(I.hok a _ h1).1,h2⟩ e (λz=>nomatch z) J
theorem K9{T:String}{f:D->Bool}{Tn:Str}{p p2 pos:Pos}(hT:okT T f)(hb:bootBuiltins Tn=some (.type T))(hm:X.mg "isinstance"=none)(hmT:X.mg Tn=none)(h:PD X e g)(hg:Gl X "isinstance" := by rfl)(hgT:Gl X Tn:=by rfl)
  (hn:Tn ≠"__name__" := by decide) (hd:(Tn==("__debug__" : Str))=false:=by decide)
  (he:starEach [e,.Name Tn p2] X.env=(false,eval e X.env)::starEach [.Name Tn p2] X.env:=by rfl) (he2:starEach [.Name Tn p2] X.env=(false,eval (.Name Tn p2) X.env)::starEach [] X.env:=by rfl)
  (hpl:(backTo pos (starEach [.Name Tn p2] X.env)).any (·.1)=false:=by rfl) :
  PD X (.Call (.Name "isinstance" p) [e,.Name Tn p2] [] pos) (S7 f g) :=
 .mk λB δ=>(su0 (df0 hT) hg hm PyProof.Rows.boot_isinstance (Q5 (h B δ) (Q5 (b40 (v:=.ty T) hgT hmT hb rfl hn hd) zm0 he2) he) (by decide) (by decide) he hpl).imp fun σ H Q ⟨d,en,h,k⟩=>by
  unfold S7 at h;cases e1:g δ with
  | none=>rw[e1] at h;cases h
  | some x =>
   rw[e1] at h;cases h;exact⟨x,en,e1,λv H1 s1 r1=>⟨B,x,v,rfl,r1,k _ H1 s1 (by rw[W3])⟩⟩
theorem t20{C:Int->Int->Prop}[∀i j,Decidable (C i j)]{g:Int->Int->V}{g':Int->Int->D}(hg:∀i j H B,Rp K H B (g' i j) (g i j)):Op2 K (rI C g) (ii λi j=>if C i j then some (g' i j) else none):=by
 intro H B x y dx dy d Q hb rx ry h k;cases dx<;>cases dy<;>simp only[ii] at h<;>try cases h
 rename_i i j;split at h
 ·cases h
  rw[j8] at rx ry;subst rx ry;exact⟨i,j,rfl,rfl,by assumption,k _ H (Same.refl H) (hg i j H B)⟩
 ·cases h
theorem qp0{g:Int->Int->V}{g':Int->Int->D}(hg:∀i j H B,Rp K H B (g' i j) (g i j)):Op2 K (rI0 g) (ii λi j=>some (g' i j)):=by
 intro H B x y dx dy d Q hb rx ry h k;cases dx<;>cases dy<;>simp only[ii] at h<;>try cases h
 rename_i i j;rw[j8] at rx ry;subst rx ry;exact⟨i,j,rfl,rfl,k _ H (Same.refl H) (hg i j H B)⟩
instance decDiv(i j:Int):Decidable (c60 i j):=inferInstanceAs (Decidable (0<j/\j<1073741824))
instance decPow(i j:Int):Decidable (d80 i j):=inferInstanceAs (Decidable (0<=j/\j<=1000000/\i.natAbs<2 ^ 64))
variable{a:Expr}{ga:Ds->Option D}
theorem yh0(ha:PD X a ga)(hb:PD X b gb):PD X (.BinOp a .Sub b pos) (o2 ga gb xj0):=vf0 Xi0 (qp0 (g':=λi j=>.int (i - j)) λ_ _ _ _=>by rw[j8]) ha hb
theorem xh0(ha:PD X a ga)(hb:PD X b gb):PD X (.BinOp a .FloorDiv b pos) (o2 ga gb xp0):=vf0 br0 (t20 (C:=c60) (g':=λi j=>.int (i/j)) λ_ _ _ _=>by rw[j8]) ha hb
theorem X6(ha:PD X a ga)(hb:PD X b gb):PD X (.BinOp a .Mod b pos) (o2 ga gb Z0):=vf0 Xz0 (t20 (C:=λ_ j=>0<j) (g':=λi j=>.int (i%j)) λ_ _ _ _=>by rw[j8]) ha hb
theorem rf0(ha:PD X a ga)(hb:PD X b gb):PD X (.BinOp a .Pow b pos) (o2 ga gb ul0):=vf0 Xu0 (t20 (C:=d80) (g':=λi j=>.int (i ^ j.toNat)) λ_ _ _ _=>by rw[j8]) ha hb
end
end DL
namespace L2
open Spec PyProof.Rows
def c80(K:W.Frag):R2:=λx y H Q=>∃l b xs zs,x=.ref l/\y=.ref b/\SqL K H l xs/\SqL K H b zs/\xs.length+zs.length<=sizeLine/\∀p,H p=none->Q (.ref p) (upd H p (.lst (xs++zs)))
theorem ag0:OpR X (binaryOp .Add) (c80 X.K):=by
 intro pins s σ H x y v u Q I rx ry h;obtain⟨l,b,xs,zs,rfl,rfl,hH,hB,hz,q⟩:=h;cases rx;cases ry;obtain⟨its,r,p1,z1⟩:=I.list hH;obtain⟨J,r2,p2,z2⟩:=I.list hB;obtain⟨⟨cls,dd,data,sl⟩,ho,hc,n,hd⟩:=p1.isList;obtain⟨⟨a4,a3,data2,a1⟩,Y,O,n2,Z⟩:=p2.isList;simp only at hc hd O Z;subst hc hd O Z;have e:its.toArray++J.toArray=(its++J).toArray:=by simp
 have a2:its.toArray.size+J.toArray.size<=sizeLine:=by
  rw[List.size_toArray,List.size_toArray,← r.length,← r2.length];exact hz
 refine U2 ⟨_,ho,rfl⟩ ⟨_,Y,rfl⟩ noFill_list_add seq_list_add PySem.F.slot_list_add PySem.F.entry_list_add (PySem.F.args_list_add_2 _ _) (list_addW l b its.toArray J.toArray n n2 dd a3 sl a1 a2) ⟨ho,Y,?_⟩;rw[e];exact⟨.ref _,_,I.lnew (t':=s.toks) (r.append r2) (by rw[List.length_append];exact hz),rfl,q _ I.fresh⟩
end L2
namespace DL
open Spec PyProof.Rows L2
section
variable{a:Expr}{ga:Ds->Option D}
theorem pl0(hb:∀a,B a->NB (H a)){p:Addr}(h:H p=none):¬B p:=λz=>hb p z h
theorem pa0{p:Addr}(hb:∀a,B a->NB (H a))(h:H p=none)(r:Rps K H B ds xs):Rp K (upd H p (.lst xs)) B (.lst ds) (.ref p):=by
 rw[W4];exact⟨p,xs,rfl,.inl ⟨pl0 hb h,.inl j6⟩,r.same (Z1 h)⟩
theorem pc0{p:Addr}(hb:∀a,B a->NB (H a))(h:H p=none)(r:Rps K H B ds xs):Rp K (upd H p (.tup xs)) B (.tup ds) (.ref p):=by
 rw[R7];exact⟨p,xs,rfl,⟨pl0 hb h,j6⟩,r.same (Z1 h)⟩
theorem t40:Op2 K (rI0 λi j=>.bl (decide (i<j))) ltD:=qp0 (g':=λi j=>.bl (decide (i<j))) λ_ _ _ _=>by rw[W3]
theorem l60:Op2 K (rI0 λi j=>.bl (decide (j<i))) gtD:=qp0 (g':=λi j=>.bl (decide (j<i))) λ_ _ _ _=>by rw[W3]
theorem g50:Op2 K (rI0 λi j=>.bl (decide (j<=i))) geD:=qp0 (g':=λi j=>.bl (decide (j<=i))) λ_ _ _ _=>by rw[W3]
theorem fa0{x y:V}{dx dy:D}{b:Bool}(rx:Rp K H B dx x)(ry:Rp K H B dy y)(h:eqS dx dy=some b):dd0 x y=true/\decide (x=y)=b:=by
 cases dx<;>cases dy<;>simp only[eqS] at h<;>try cases h
 all_goals
  simp only[U4,W3,j8,Y9] at rx ry;subst rx ry;refine⟨rfl,?_⟩;simp
theorem Z7:Op2 K rEq eqD:=by
 intro H B x y dx dy d Q hb rx ry h k;unfold eqD at h;cases e:eqS dx dy with
 | none=>rw[e] at h;cases h
 | some b =>
  rw[e] at h;cases h;obtain⟨h1,h2⟩:=fa0 rx ry e;exact⟨h1,by rw[h2];exact k _ H (Same.refl H) (by rw[W3])⟩
theorem rn0:Op2 K rNe neD:=by
 intro H B x y dx dy d Q hb rx ry h k;unfold neD at h;cases e:eqS dx dy with
 | none=>rw[e] at h;cases h
 | some b =>
  rw[e] at h;cases h;obtain⟨h1,h2⟩:=fa0 rx ry e;exact⟨h1,by rw[h2];exact k _ H (Same.refl H) (by rw[W3])⟩
theorem p40:Op2 K (λx y H Q=>y=.non/\Q (.bl (decide (x=.non))) H) qx0:=by
 intro H B x y dx dy d Q hb rx ry h k;have hy:dy=.non:=by cases dy<;>first|rfl|cases h
 subst hy;cases h;rw[U4] at ry;refine⟨ry,k _ H (Same.refl H) ?_⟩;rw[W3];cases dx<;>simp only[U4,W3,j8,Y9,R7,W4,vx0,nk0] at rx
 all_goals first
  | (subst rx;rfl)
  | (obtain⟨a,xs,rfl,_⟩:=rx;rfl)
theorem Y90(xs:List α)(i:Int):L2.atI xs i=DL.atI xs i:=rfl
theorem vt0(n d:Nat)(o:Option Int):HT.sIx n d o=sIx n d o:=by cases o<;>rfl
theorem kv0{i:Int}{d:D}(r:Rps K H B ds xs)(h:DL.atI ds i=some d):∃v,L2.atI xs i=some v/\Rp K H B d v:=by
 rw[Y90];unfold DL.atI at h ⊢;rw[r.length];cases e:DL.ixN ds.length i with
 | none=>rw[e] at h;cases h
 | some j =>
  rw[e] at h;exact r.get h
theorem Yu0:Op2 K (rIx K) ixD:=by
 intro H B x y dx dy d Q hb rx ry h k;cases dx<;>cases dy<;>simp only[ixD] at h<;>try cases h
 ·split at h
  ·rename_i hz
   rw[Y9] at rx;rw[j8] at ry;subst rx ry;obtain⟨c,hc,rfl⟩:=E6.mp h;exact .inr (.inr ⟨_,_,c,rfl,rfl,hz,hc,k _ H (Same.refl H) (by rw[Y9])⟩)
  ·cases h
 ·rw[R7] at rx
  rw[j8] at ry;subst ry;obtain⟨a,xs,rfl,q,r⟩:=rx;obtain⟨v,hv,rv⟩:=kv0 r h;exact .inr (.inl ⟨a,xs,_,v,rfl,rfl,q.to,hv,k _ H (Same.refl H) rv⟩)
 ·rw[W4] at rx
  rw[j8] at ry;subst ry;obtain⟨a,xs,rfl,q,r⟩:=rx;obtain⟨v,hv,rv⟩:=kv0 r h;exact .inl ⟨a,xs,_,v,rfl,rfl,q.to,hv,k _ H (Same.refl H) rv⟩
theorem p7(ha:PD X a ga)(hb:PD X b gb)(hs:s70 b:=by exact λ_ _=>rfl):PD X (.Subscript a b pos) (o2 ga gb ixD):=Wg0 Zy0 Yu0 ha hb hs
structure PDO(X:Cx)(e:Option Expr)(g:Ds->Option (Option Int)):Prop where
 mk::go:∀B δ,PO X e (fun σ H Q=>∃o,Env X.K H B σ δ/\g δ=some o/\∀H',Same H H'->Q o H')
instance{X:Cx}{e:Option Expr}{g:Ds->Option (Option Int)}:CoeFun (PDO X e g) (λ_=>∀B δ,PO X e (fun σ H Q=>∃o,Env X.K H B σ δ/\g δ=some o/\∀H',Same H H'->Q o H')):=⟨PDO.go⟩
theorem xm0:PDO X none J3:=.mk λB δ pins s σ H Q I ⟨o,en,h,k⟩=>by
 cases h;exact ab0 pins s σ H Q I (k H (Same.refl H))
theorem zj0(h:PD X e g):PDO X (some e) (someO g):=.mk λB δ pins s σ H Q I ⟨o,en,hq,k⟩=>by
 unfold someO at hq;cases e1:g δ with
 | none=>rw[e1] at hq;cases hq
 | some d =>
  rw[e1] at hq;cases d<;>simp[asI] at hq
  subst hq;exact az0 (h B δ) pins s σ H Q I ⟨_,en,e1,λv H' s' r=>⟨_,by rw[j8] at r;exact r,k H' s'⟩⟩
theorem kz0(r:Rps K H B ds xs)(lo hi:Option Int):Rps K H B (cutD ds lo hi) (ti0 xs lo hi):=by
 unfold cutD ti0;rw[r.length,vt0,vt0];exact(r.drop _).take _
theorem zs0{d:D}(h:Rps K H B [d] xs):∃v,xs=[v]/\Rp K H B d v:=by
 rw[p8] at h;obtain⟨x,r,rfl,h1,h2⟩:=h;rw[m5] at h2;subst h2;exact⟨x,rfl,h1⟩
theorem Yl0:FnR K (λxs H Q=>(∃z,xs=[.str z]/\z.length<=sizeLine/\Q (.int z.length) H)∨∃p ys,xs=[.ref p]/\(SqL K H p ys∨SqT K H p ys)/\Q (.int ys.length) H) Z5:=by
 intro H B xs ds d Q hb r h k;unfold Z5 at h;split at h
 ·split at h
  ·cases h
   obtain⟨v,rfl,r1⟩:=zs0 r;rw[Y9] at r1;subst r1;exact .inl ⟨_,rfl,by assumption,k _ H (Same.refl H) (by rw[j8])⟩
  ·cases h
 ·cases h
  obtain⟨v,rfl,r1⟩:=zs0 r;rw[W4] at r1;obtain⟨a,ys,rfl,q,rr⟩:=r1;exact .inr ⟨a,ys,rfl,.inl q.to,k _ H (Same.refl H) (by rw[j8,rr.length])⟩
 ·cases h
  obtain⟨v,rfl,r1⟩:=zs0 r;rw[R7] at r1;obtain⟨a,ys,rfl,q,rr⟩:=r1;exact .inr ⟨a,ys,rfl,.inr q.to,k _ H (Same.refl H) (by rw[j8,rr.length])⟩
 ·cases h
theorem S5(hm:X.mg "len"=none)(ha:PDA X [e] gA)(hg:Gl X "len" := by rfl)(he:starEach [e] X.env=(false,eval e X.env)::starEach [] X.env:=by rfl)(hpl:(backTo pos (starEach [] X.env)).any (·.1)=false:=by rfl) :
  PD X (.Call (.Name "len" p) [e] [] pos) (oA gA Z5):=wu0 (ml0.or le0) Yl0 hm PySem.boot_len ha hg (by decide) (by decide) he hpl
theorem py0:∀{ds:List D} {xs:List V} {bs:List Bool},Rps K H B ds xs->bools ds=some bs->xs=bs.map V.bl
 | [],_,_,r,h=>by
  cases h;rw[m5] at r;exact r
 | d::ds,_,bs,r,h=>by
  rw[p8] at r;obtain⟨x,t,rfl,r1,r2⟩:=r;cases d<;>simp only[bools] at h<;>try cases h
  obtain⟨t',e,rfl⟩:=E6.mp h;rw[W3] at r1;rw[r1,py0 r2 e];rfl
theorem Xr0:FnR K (λxs H Q=>∃(p:Addr) (bs:List Bool),xs=[.ref p]/\SqL K H p (bs.map V.bl)/\Q (.bl (bs.all id)) H) lr0:=by
 intro H B xs ds d Q hb r h k;unfold lr0 at h;split at h
 ·obtain⟨bs,e,rfl⟩:=E6.mp h
  obtain⟨v,rfl,r1⟩:=zs0 r;rw[W4] at r1;obtain⟨a,ys,rfl,q,rr⟩:=r1;have:=py0 rr e;subst this;exact⟨a,bs,rfl,q.to,k _ H (Same.refl H) (by rw[W3])⟩
 ·cases h
theorem m30:∀{ds:List D} {xs:List V} {bs:List Str},Rps K H B ds xs->zi0 ds=some bs->xs=bs.map V.str
 | [],_,_,r,h=>by
  cases h;rw[m5] at r;exact r
 | d::ds,_,bs,r,h=>by
  rw[p8] at r;obtain⟨x,t,rfl,r1,r2⟩:=r;cases d<;>simp only[zi0] at h<;>try cases h
  obtain⟨t',e,rfl⟩:=E6.mp h;rw[Y9] at r1;rw[r1,m30 r2 e];rfl
theorem tz0{apos cpos:Pos}(ho:PD X o g)(ha:PDA X [e] gA)(hbase:attributeBase o "join" X.env (eval o X.env)=eval o X.env:=by rfl)
  (hfew:((backTo cpos (starEach [e] X.env)).all (λx=>!x.1)&&(backToKw cpos (keywordEach [] X.env)).all (λx=>x.1.isSome)
  &&decide ([e].length+([]:List Keyword).length+(if ([]:List Keyword).isEmpty then 0 else 1)<30))=true:=by rfl)
  (hline:(apos.endLine==cpos.line)=true:=by rfl) (hs:starEach [e] X.env=(false,eval e X.env)::starEach [] X.env:=by rfl) (hplain:(backTo cpos (starEach [] X.env)).any (·.1)=false:=by rfl) :
  PD X (.Call (.Attribute o "join" apos) [e] [] cpos) (y50 g gA):=.mk λB δ =>
 (tu0 F.plainAttrs_str F.slot_str_join F.type_str_join bh0 (ho B δ) (ha B δ) hbase hfew hline hs hplain).imp fun σ H Q ⟨d,en,h,k⟩=>by
  unfold y50 at h;cases e1:g δ with
  | none=>rw[e1] at h;cases h
  | some x =>
   cases e2:gA δ with
   | none=>rw[e1,e2] at h;cases h
   | some ds =>
    rw[e1,e2] at h;simp only[Option.bind_some] at h;unfold u60 at h;split at h
    ·cases e3:zi0 _ with
     | none=>rw[e3] at h;cases h
     | some ys =>
      rw[e3] at h;simp only[Option.bind_some] at h;split at h
      ·cases h
       refine⟨_,en,e1,λv H1 s1 r1=>?_⟩;rw[Y9] at r1;subst r1;refine⟨rfl,_,en.same s1,e2,λvs H2 s2 r2=>?_⟩;obtain⟨w,rfl,r3⟩:=zs0 r2;rw[W4] at r3;obtain⟨a,zs,rfl,q,rr⟩:=r3;have:=m30 rr e3;subst this;exact⟨_,a,ys,rfl,rfl,q.to,by assumption,k _ H2 (s1.trans s2) (by rw[Y9])⟩
      ·cases h
    ·cases h
theorem yv0:FnR K (λxs H Q=>∃p ys,xs=[.ref p]/\((SqL K H p ys/\∀l,H l=none->Q (.ref l) (upd H l (.tup ys)))∨(SqT K H p ys/\Q (.ref p) H))) S9:=by
 intro H B xs ds d Q hb r h k;unfold S9 at h;split at h
 ·cases h
  obtain⟨v,rfl,r1⟩:=zs0 r;rw[W4] at r1;obtain⟨a,ys,rfl,q,rr⟩:=r1;exact⟨a,ys,rfl,.inl ⟨q.to,λl hl=>k _ _ (Z1 hl) (pc0 hb hl rr)⟩⟩
 ·cases h
  obtain⟨v,rfl,r1⟩:=zs0 r;have J:=r1;rw[R7] at r1;obtain⟨a,ys,rfl,q,rr⟩:=r1;exact⟨a,ys,rfl,.inr ⟨q.to,k _ H (Same.refl H) J⟩⟩
 ·cases h
end
section
variable{a:Expr}{ga:Ds->Option D}
theorem zf0(h:PD X a ga):PD X (.UnaryOp .USub a pos) (unG J5 ga):=.mk λB δ=>(Vj0 Y70 (h B δ)).imp fun σ H Q ⟨d,en,h,k⟩=>by
 unfold unG at h;cases e1:ga δ with
 | none=>rw[e1] at h;cases h
 | some x =>
  rw[e1] at h;cases x<;>simp[J5] at h
  subst h;exact⟨_,en,e1,λv H' s r=>⟨_,by rw[j8] at r;exact r,k _ H' s (by rw[j8])⟩⟩
theorem d90:PD X (.Dict [] [] pos) (gc (.dct (.inl []) [])):=.mk λB δ pins s σ H Q I ⟨d,en,h,k⟩=>by
 cases h;have hb:sysModules<s.heap.objs.size:=G0 (by decide) ((I.mod.glob.keeps I.bk).lt:mainGlobals<s.heap.objs.size);have hf:H s.heap.objs.size=none:=I.hok.fresh (A1 _);refine wpAny_Dict_empty ⟨.ref s.heap.objs.size,_,I.laid (a:=s.heap.objs.size) (o:=.dK []) (t':=s.toks) (λ_ _ q=>A7 _ q) (A1 _)
  ⟨C0 _,S3.mpr (A4 (A6 hb)),[],.nil,Heap.DictOf.new s.heap⟩,rfl,k _ _ (Z1 hf) ?_⟩
 rw[tl0];exact⟨_,[],rfl,en.free hf,j6,rfl,by rw[m5]⟩
def FnD(P:Program)(w:World)(K:W.Frag)(mg:Str->Option Value)(base:Heap)(x:Str)(k:Nat)(ps:List Str)(f:List D->Option D):Prop :=
 ∃(fa:Addr) (fd:FuncData),FnOk P w K mg base CX0 k fa fd ps (spD K f)/\mg x=some (.ref fa)/\W.keepIn K (.ref fa)=true/\Binds K fd ps []
theorem c7{k m:Nat}{ps:List Str}{f:List D->Option D}(C:FnD X.prog X.w X.K X.mg X.base x k ps f)(hr:Room m X.A)(hk:k<=m)(ha:PDA X (e::es) gA)(hg:Gl X x:=by rfl)(hdb:(x==("__debug__" : Str))=false:=by decide)
  (he:starEach (e::es) X.env=(false,eval e X.env)::starEach es X.env:=by rfl) (hpl:(backTo pos (starEach es X.env)).any (·.1)=false:=by rfl):PD X (.Call (.Name x p) (e::es) [] pos) (oA gA f):=by
 obtain⟨fa,fd,F,hm,kp,hb⟩:=C;exact bp0 F (hr.mono hk) hm kp hb ha hg hdb he hpl
theorem G3{sc scope:Scope}{elt iter tg:Expr}{ifs:List Expr}{N N':List Str}{n:Nat}{caps:List Nat}{gi:Ds->Option (List D)}{idx:List Nat}{f:D->Ds->Option Ds}{gt:Ds->Option Bool}{ge:Ds->Option D}
  (ok:CompOk sc scope N N' n caps) (hidx:∀j∈idx,j<n) (hi:PID X tg iter gi)
  (hg:∀cl s H ex,PGD (Z9 X scope cl N' s H ex) tg idx f) (ht:∀cl s H ex,PFD (Z9 X scope cl N' s H ex) ifs gt) (he:∀cl s H ex,PD (Z9 X scope cl N' s H ex) elt ge)
  (hc:X.calm=true:=by rfl) (hsc:X.env.scope=sc:=by rfl) (hN:X.N=N:=by rfl) (hs:∀x,foldedSetIterable iter X.env x=pure x:=by intro _;rfl) :
  PD X (.ListComp elt [⟨tg,iter,ifs,0⟩] scope pos) (b8 n caps gi f gt ge):=a80 hc hsc (hN▸ok) hidx hi hg ht he hs
theorem u90(i:Nat){y:Str}{py spos:Pos}{sc scope:Scope}{elt iter tg:Expr}{ifs:List Expr}{N N':List Str}{n:Nat}{caps:List Nat}{gi:Ds->Option (List D)}{idx:List Nat}{f:D->Ds->Option Ds}{gt:Ds->Option Bool}{ge:Ds->Option D}
  (hnd:N.Nodup) (ok:CompOk sc scope N N' n caps) (hidx:∀j∈idx,j<n) (hi:PID X tg iter gi)
  (hg:∀cl s H ex,PGD (Z9 X scope cl N' s H ex) tg idx f) (ht:∀cl s H ex,PFD (Z9 X scope cl N' s H ex) ifs gt) (he:∀cl s H ex,PD (Z9 X scope cl N' s H ex) elt ge)
  (hc:X.calm=true:=by rfl) (hsc:X.env.scope=sc:=by rfl) (hN:X.N=N:=by rfl)
  (hiN:X.N[i]?=some y:=by rfl) (hy:Loc X.env.scope y:=by first|exact Or.inl rfl|exact Or.inr rfl)
  (hsw:swapsWith (.ListComp elt [⟨tg,iter,ifs,0⟩] scope pos) (some (.Name y py)) spos.line X.env=pure true:=by rfl)
  (hs:∀x,foldedSetIterable iter X.env x=pure x:=by intro _;rfl)
  (hf:X.fn y=true∨X.env.scope.names.lookup y=some .local:=by first|exact .inl rfl|exact .inr rfl|assumption) :
  PSD X (.Assign [.Name y py] (.ListComp elt [⟨tg,iter,ifs,0⟩] scope pos) spos) (o9 (gN i) (b8 n caps gi f gt ge)):=lx0 i (hN▸hnd) hc hsc (hN▸ok) hidx hi hg ht he hiN hy hsw hs hf
end
end DL
namespace DL
open Spec PyProof.Rows
@[simp] def zu0:Sl->Sl
 | .ow d=>.sh (unl d)
 | s=>s
@[simp] def frz(δ:Ds):Ds:=δ.map zu0
@[simp] def flat:D->Bool
 | .non=>true|.bl _=>true|.int _=>true|.str _=>true|_=>false
@[simp] def z20(g:GE):GE:=fun δ=>(g (frz δ)).bind λd=>if flat d=true then some d else none
@[simp] def vi0(g:GB):GB:=fun δ=>g (frz δ)
@[simp] def u40(g:GE):GE:=fun δ=>g (frz δ)
@[simp] def frzAt(i:Nat)(δ:Ds):Ds:=match δ[i]? with
 | some s=>δ.set i (zu0 s)
 | none=>δ
@[simp] def uc0(i:Nat)(G:GS):GS:=fun δ=>G (frzAt i δ)
@[simp] def N5(i:Nat)(g:GE):GS:=fun δ=>(g δ).map λd=>.nx (δ.set i (.ow d))
abbrev GX:=Ds->Option (D×Ds)
@[simp] def Q3(g:GE):GX:=fun δ=>(g δ).map λd=>(d,δ)
@[simp] def T4(gx:GX)(ft:D->Ds->Option Ds):GS:=fun δ=>(gx δ).bind λr=>(ft r.1 r.2).map .nx
@[simp] def Z8(gx:GX):GS:=fun δ=>(gx δ).map λr=>.nx r.2
@[simp] def owL(i:Nat)(δ:Ds):Option (List D):=match δ[i]? with
 | some (.ow (.lst ds))=>some ds
 | _=>none
@[simp] def G4(i:Nat)(g:GE):GX:=fun δ=>(owL i δ).bind λds=>(g δ).bind λd=>if ds.length<sizeLine then some (.non,δ.set i (.ow (.lst (ds++[d])))) else none
@[simp] def yq0(i:Nat)(g:GE):GX:=fun δ=>(owL i δ).bind λds=>(g δ).bind λd=>match d with
 | .lst es=>if ds.length+es.length<=sizeLine then some (.non,δ.set i (.ow (.lst (ds++es)))) else none
 | _=>none
@[simp] def vh0(i:Nat):GX:=fun δ=>(owL i δ).bind λds=>(ds.getLast?).map λd=>(d,δ.set i (.ow (.lst ds.dropLast)))
abbrev T7:=Sum Int Str
@[simp] def zd0:D->Option T7
 | .int i=>some (.inl i)
 | .str x=>some (.inr x)
 | _=>none
variable{ks:List DL.T7}
def tq0:List D->Option (List T7)
 | []=>some []
 | d::ds=>(zd0 d).bind λk=>(tq0 ds).map (k::·)
@[simp] def vl0:D->Option (List T7)
 | .tup ds=>tq0 ds
 | _=>none
def T6{κ:Type}[DecidableEq κ]:List κ->List D->κ->Option D
 | k::ks,d::ds,q=>if k=q then some d else T6 ks ds q
 | _,_,_=>none
def R6{κ:Type}[DecidableEq κ](ks:List κ)(k:κ):Bool:=ks.any λq=>decide (q=k)
def Q0{κ:Type}[DecidableEq κ](ks:List κ)(k:κ):List κ:=if R6 ks k=true then ks else ks++[k]
def M3{κ:Type}[DecidableEq κ](ks:List κ)(ds:List D)(q:κ)(v:D):List D:=if R6 ks q=true then (ks.zip ds).map (λp=>if p.1=q then v else p.2) else ds++[v]
@[simp] def jw0(i:Nat)(δ:Ds):Option (List T7×List D):=match δ[i]? with
 | some (.ow (.dct (.inl ks) ds))=>some (ks,ds)
 | _=>none
@[simp] def putAt(i:Nat)(g:GE):D->Ds->Option Ds:=λv δ=>(jw0 i δ).bind λr=>(g δ).bind λd=>(zd0 d).bind λk =>
 if r.1.length<sizeLine then some (δ.set i (.ow (.dct (.inl (Q0 r.1 k)) (M3 r.1 r.2 k v)))) else none
@[simp] def J6:D->D->Option D
 | .dct ks ds,d=>match ks with
  | .inl ks=>(zd0 d).bind λk=>T6 ks ds k
  | .inr ks=>(vl0 d).bind λk=>T6 ks ds k
 | _,_=>none
@[simp] def xz0(neg:Bool):D->D->Option D
 | d,.dct ks ds=>match ks with
  | .inl ks=>(zd0 d).map λk=>.bl (xor neg (R6 ks k))
  | .inr ks=>(vl0 d).map λk=>.bl (xor neg (R6 ks k))
 | _,_=>none
def X5(gt:GB)(G:GS):Nat->Ds->Option Res
 | 0,_=>none
 | n+1,δ=>match gt δ with
  | some false=>some (.nx δ)
  | some true=>match G δ with
   | some (.nx δ')=>X5 gt G n δ'
   | some (.ct δ')=>X5 gt G n δ'
   | some (.bk δ')=>some (.nx δ')
   | r=>r
  | none=>none
@[simp] def yu0(i j:Nat):D->Ds->Option Ds
 | .tup [a,b],δ=>some ((δ.set i (.sh a)).set j (.sh b))
 | _,_=>none
@[simp] def eqF:D->D->Bool
 | .non,.non=>true
 | .bl a,.bl b=>a==b
 | .bl a,.int b=>(if a then 1 else 0)==b
 | .int a,.bl b=>a==(if b then 1 else 0)
 | .int a,.int b=>a==b
 | .str a,.str b=>a==b
 | _,_=>false
@[simp] def w00(neg:Bool):D->D->Option D
 | x,.lst ys=>if flat x=true/\ys.all flat=true then some (.bl (xor neg (ys.any λy=>eqF y x))) else none
 | x,.tup ys=>if flat x=true/\ys.all flat=true then some (.bl (xor neg (ys.any λy=>eqF y x))) else none
 | _,_=>none
@[simp] def q00:List D->Option D
 | [.lst ds]=>some (.lst ds)
 | [.tup ds]=>some (.lst ds)
 | _=>none
def mkF(n:Nat)(N:List Str)(G:GS)(ds:List D):Option D:=if ds.length=n then (match G (j5 N ds) with
 | some (.rt d)=>some d
 | some (.rf d)=>if isL d=true then none else some d
 | some (.nx _)=>some .non
 | _=>none) else none
theorem W0{G:GS}{d:D}(h:mkF n N G ds=some d):ds.length=n/\(G (j5 N ds)=some (.rt d)∨(d=.non/\∃δ,G (j5 N ds)=some (.nx δ))∨G (j5 N ds)=some (.rf d)/\isL d=false):=by
 unfold mkF at h;split at h
 ·rename_i hl
  refine⟨hl,?_⟩;split at h
  ·rename_i e;cases h;exact .inl e
  ·rename_i e
   split at h
   ·cases h
   ·rename_i hn
    cases h;exact .inr (.inr ⟨e,Ar0.mpr hn⟩)
  ·rename_i e;cases h;exact .inr (.inl ⟨rfl,_,e⟩)
  ·cases h
 ·cases h
def mkN(n:Nat)(N:List Str)(G:GS)(ds:List D):Option D:=if ds.length=n then (match G (j5 N ds) with
 | some (.rf d)=>if isL d=true then none else some d
 | _=>none) else none
theorem zy0{G:GS}{d:D}(h:mkN n N G ds=some d):ds.length=n/\G (j5 N ds)=some (.rf d)/\isL d=false:=by
 unfold mkN at h;split at h
 ·rename_i hl
  refine⟨hl,?_⟩;split at h
  ·rename_i e
   split at h
   ·cases h
   ·rename_i hn
    cases h;exact⟨e,Ar0.mpr hn⟩
  ·cases h
 ·cases h
theorem Q9{G:GS}{d:D}(hl:ds.length=n)(h:G (j5 N ds)=some (.rf d))(hn:isL d=false:=by rfl):mkN n N G ds=some d:=by
 unfold mkN;rw[if_pos hl,h];simp only[];rw[hn];rfl
@[simp] def z30(g:GE):GS:=fun δ=>(g δ).map .rf
@[simp] def i00(i:Nat):GS:=fun δ=>match δ[i]? with
 | some (.ow d)=>some (.rf d)
 | _=>none
theorem R5{d:D}(h:G1 δ=some (.rf d)):v6 G1 G2 δ=some (.rf d):=by unfold v6;rw[h]
theorem O5{g:GE}{d:D}(h:g δ=some d):z30 g δ=some (.rf d):=by unfold z30;rw[h];rfl
theorem j9{G:GS}{d:D}(hl:ds.length=n)(h:G (j5 N ds)=some (.rt d)):mkF n N G ds=some d:=by
 unfold mkF;rw[if_pos hl,h]
theorem v5{r:Option Res}(h:G1 δ=some (.nx δ'))(k:G2 δ'=r):v6 G1 G2 δ=r:=(X00 h).trans k
@[simp] def o5:D->D->Option D
 | .int i,.int j=>some (.int (i+j))
 | .str x,.str y=>if x.length+y.length<=sizeLine then some (.str (x++y)) else none
 | .lst xs,.lst ys=>if xs.length+ys.length<=sizeLine then some (.lst (xs++ys)) else none
 | .tup xs,.tup ys=>if xs.length+ys.length<=sizeLine then some (.tup (xs++ys)) else none
 | _,_=>none
@[simp] def R0:D->D->Option D
 | .int i,.int j=>if (-(2 ^ 64)<i/\i<2 ^ 64)∨(-(2 ^ 64)<j/\j<2 ^ 64) then some (.int (i*j)) else none
 | _,_=>none
@[simp] def slA(d:D)(lo hi:Option Int):Option D:=match d with
 | .str z=>if z.length<=sizeLine then some (.str (Txt.slice z lo hi)) else none
 | .lst xs=>some (.lst (cutD xs lo hi))
 | .tup xs=>some (.tup (cutD xs lo hi))
 | _=>none
@[simp] def y90(g:GE)(gl gh:GO):GE:=fun δ=>(g δ).bind λd=>(gl δ).bind λl=>(gh δ).bind λh=>slA d l h
end DL
variable{ks:List DL.T7}
namespace L2
open Spec PyProof.Rows
section
variable[DecidableEq κ]
def z00(kvs:List (κ×V))(k:κ):Option V:=(kvs.find? λkv=>decide (kv.1=k)).map (·.2)
def putK(kvs:List (κ×V))(k:κ)(v:V):List (κ×V) :=
 if (kvs.any λkv=>decide (kv.1=k))=true then kvs.map (λkv=>if kv.1=k then (kv.1,v) else kv) else kvs++[(k,v)]
theorem v20{p:κ×V}{r:List (κ×V)}{k:κ}(e:p.1=k):z00 (p::r) k=some p.2:=by simp[z00,List.find?_cons,e]
theorem wn0{p:κ×V}{r:List (κ×V)}{k:κ}(e:¬p.1=k):z00 (p::r) k=z00 r k:=by simp[z00,List.find?_cons,e]
theorem mp0(k:κ):∀kvs:List (κ×V),(kvs.any λkv=>decide (kv.1=k))=(z00 kvs k).isSome
 | []=>rfl
 | p::r=>by
  rw[List.any_cons]
  by_cases e:p.1=k
  ·simp only[v20 e,decide_eq_true e,Bool.true_or,Option.isSome_some]
  ·rw[wn0 e,decide_eq_false e,Bool.false_or];exact mp0 k r
theorem sk0(kvs:List (κ×V))(k:κ)(v:V):(putK kvs k v).length<=kvs.length+1:=by
 unfold putK;split
 ·rw[List.length_map];omega
 ·rw[List.length_append,List.length_cons,List.length_nil];omega
theorem RelO.isSome_eq{o:Option V}{u:Option Value}(r:RelO o u):o.isSome=u.isSome:=by
 cases o with
 | none=>cases u with
  | none=>rfl
  | some _=>exact(show False from r).elim
 | some _=>cases u with
  | none=>exact(show False from r).elim
  | some _=>rfl
theorem KV.val{kvs:List (κ×V)}{vs:List (κ×Value)}(r:KV kvs vs)(k:κ):RelO (z00 kvs k) (valueAt vs k):=by
 unfold KV at r
 induction r with
 | nil=>exact True.intro
 | @cons p q ps qs h t ih =>
  obtain⟨h1,h2⟩:=h
  by_cases e:p.1=k
  ·have e':q.1=k:=h1.symm.trans e
   have b:valueAt (q::qs) k=some q.2:=by simp[valueAt,List.find?_cons,e']
   rw[v20 e,b];exact h2
  ·have e':¬q.1=k:=λz=>e (h1.trans z)
   have b:valueAt (q::qs) k=valueAt qs k:=by simp[valueAt,List.find?_cons,e']
   rw[wn0 e,b];exact ih
theorem KV.any{kvs:List (κ×V)}{vs:List (κ×Value)}(r:KV kvs vs)(k:κ):(kvs.any λkv=>decide (kv.1=k))=vs.any λkv=>decide (kv.1=k):=by
 unfold KV at r
 induction r with
 | nil=>rfl
 | cons h t ih=>rw[List.any_cons,List.any_cons,ih,h.1]
theorem KV.repl{kvs:List (κ×V)}{vs:List (κ×Value)}(r:KV kvs vs)(k:κ){y:V}(ry:RelV y u) :
  KV (kvs.map λkv=>if kv.1=k then (kv.1,y) else kv) (vs.map λkv=>if kv.1=k then (kv.1,u) else kv):=by
 unfold KV at r ⊢
 induction r with
 | nil=>exact .nil
 | @cons p q ps qs h t ih =>
  rw[List.map_cons,List.map_cons];refine .cons ?_ ih;obtain⟨h1,h2⟩:=h
  by_cases e:p.1=k
  ·rw[if_pos e,if_pos (h1.symm.trans e)];exact⟨h1,ry⟩
  ·rw[if_neg e,if_neg (λz=>e (h1.trans z))];exact⟨h1,h2⟩
theorem KV.put{kvs:List (κ×V)}{vs:List (κ×Value)}(r:KV kvs vs)(k:κ){y:V}(ry:RelV y u):KV (putK kvs k y) (stored vs k u):=by
 unfold putK stored;rw[r.any k]
 by_cases e:(vs.any λkv=>decide (kv.1=k))=true
 ·rw[if_pos e,if_pos e];exact r.repl k ry
 ·rw[if_neg e,if_neg e];exact Paired.snoc r ⟨rfl,ry⟩
theorem KV.length{kvs:List (κ×V)}{vs:List (κ×Value)}(r:KV kvs vs):kvs.length=vs.length:=d6 r
end
theorem nc0{P:Program}{w:World}{k:Key}(r:RelV (kV k) u):(O6 P w).is k u=true:=by
 cases k with
 | inl i=>obtain⟨t,e⟩:=(show ∃t,u=Value.int i t from r);subst e;exact k80 P w i t
 | inr x=>obtain⟨t,e⟩:=(show ∃t,u=Value.str x t from r);subst e;exact k20 P w x t
theorem oi0{P:Program}{w:World}:∀{ks:List Key} {us:List Value},Vals (ks.map kV) us->ItemsAre (O6 P w) ks us
 | [],_,r=>by rw[List.map_nil] at r;cases r;exact .nil
 | k::ks,_,r=>by
  rw[List.map_cons] at r;cases r with
  | cons h t=>exact .cons (nc0 h) (oi0 t)
abbrev KT(H:Hp):List (List Key×V)->List (List Key×Addr×Value)->Prop:=Paired λp q=>p.1=q.1/\H q.2.1=some (.tup (p.1.map kV))/\RelV p.2 q.2.2
theorem KT.val{kvs:List (List Key×V)}{xs:List (List Key×Addr×Value)}(r:KT H kvs xs)(k:List Key):RelO (z00 kvs k) ((atKey xs k).map (·.2)):=by
 induction r with
 | nil=>exact True.intro
 | @cons p q ps qs h t ih =>
  obtain⟨h1,_,h2⟩:=h
  by_cases e:p.1=k
  ·have e':q.1=k:=h1.symm.trans e
   have b:atKey (q::qs) k=some q.2:=by simp[atKey,List.find?_cons,e']
   rw[v20 e,b];exact h2
  ·have e':¬q.1=k:=λz=>e (h1.trans z)
   have b:atKey (q::qs) k=atKey qs k:=by simp[atKey,List.find?_cons,e']
   rw[wn0 e,b];exact ih
theorem KT.repl{kvs:List (List Key×V)}{xs:List (List Key×Addr×Value)}(r:KT H kvs xs)(k:List Key){y:V}(ry:RelV y u) :
  KT H (kvs.map λkv=>if kv.1=k then (kv.1,y) else kv) (xs.map (putAt k u)):=by
 induction r with
 | nil=>exact .nil
 | @cons p q ps qs h t ih =>
  rw[List.map_cons,List.map_cons];refine .cons ?_ ih;obtain⟨h1,h2,h3⟩:=h;unfold putAt
  by_cases e:p.1=k
  ·rw[if_pos e,if_pos (h1.symm.trans e)];exact⟨h1,h2,ry⟩
  ·rw[if_neg e,if_neg (λz=>e (h1.trans z))];exact⟨h1,h2,h3⟩
theorem KT.put{kvs:List (List Key×V)}{xs:List (List Key×Addr×Value)}(r:KT H kvs xs)(k:List Key){b:Addr}{y:V}(hb:H b=some (.tup (k.map kV)))(ry:RelV y u) :
  KT H (putK kvs k y) (storedH xs k b u):=by
 have e:(kvs.any λkv=>decide (kv.1=k))=(atKey xs k).isSome:=by
  rw[mp0,(r.val k).isSome_eq,Option.isSome_map]
 unfold putK storedH;rw[e]
 by_cases q:(atKey xs k).isSome=true
 ·rw[if_pos q,if_pos q];exact r.repl k ry
 ·rw[if_neg q,if_neg q];exact Paired.snoc r ⟨rfl,hb,ry⟩
theorem KT.keeps{kvs:List (List Key×V)}{xs:List (List Key×Addr×Value)}(r:KT H kvs xs)(ht:∀b ys,H b=some (.tup ys)->H' b=some (.tup ys)):KT H' kvs xs :=
 Paired.mapP r λ_ _ z=>⟨z.1,ht _ _ z.2.1,z.2.2⟩
section
variable{P:Program}{w:World}{h:Heap}
theorem co0{u:HO}(ok:HOk P w H h)(e:Rd H a u):ObjOk P w H h a u:=e.ok ok
theorem no0(ok:HOk P w H h)(e:Rd H a (.dK kvs)):kvs.length<=sizeLine/\(a==sysModules)=false/\∃vs,KV kvs vs/\h.DictOf (O6 P w) a vs :=
 show ObjOk P w H h a (.dK kvs) from co0 ok e
theorem cl0(ok:HOk P w H h)(e:H a=some (.dK kvs)):kvs.length<=sizeLine/\(a==sysModules)=false/\∃vs,KV kvs vs/\h.DictOf (O6 P w) a vs:=no0 ok (.inl e)
theorem q70{ks:List Key}(ok:HOk P w H h)(e:H a=some (.tup (ks.map kV))):(tupleKind (O6 P w)).is h ks a:=by
 obtain⟨_,its,r,o,h1,h2,n,h3,_⟩:=(show ObjOk P w H h a (.tup (ks.map kV)) from ok a _ e);exact⟨o,its.toArray,n,h1,h2,h3,by simpa using oi0 r⟩
theorem na0{kvs:List (List Key×V)}(ok:HOk P w H h)(e:Rd H a (.dT kvs)):kvs.length<=sizeLine/\(a==sysModules)=false /\
  ∃xs,KT H kvs xs/\h.DictOfH (tupleKind (O6 P w)) a xs:=by
 obtain⟨z,y,xs,r,o,es,ep,h1,h2,h3,h4,h5⟩:=(show ObjOk P w H h a (.dT kvs) from co0 ok e);refine⟨z,y,xs,r,o,es,ep,h1,h2,h3,h4,λx hx=>?_,h5⟩;have all:∀{l:List (List Key×V)} {m:List (List Key×Addr×Value)},KT H l m->∀x∈m,(tupleKind (O6 P w)).is h x.1 x.2.1:=by
  intro l m q
  induction q with
  | nil=>intro x hx;exact nomatch hx
  | @cons p q ps qs hq t ih =>
   intro x hx;rcases B0.mp hx with e|hx
   ·subst e
    exact q70 ok (by rw[← hq.1];exact hq.2.1)
   ·exact ih x hx
 exact all r x hx
theorem Vh0{kvs:List (List Key×V)}(ok:HOk P w H h)(e:H a=some (.dT kvs)):kvs.length<=sizeLine/\(a==sysModules)=false /\
  ∃xs,KT H kvs xs/\h.DictOfH (tupleKind (O6 P w)) a xs:=na0 ok (.inl e)
end
def DGet(H:Hp)(a:Addr)(y:V)(r:Option V):Prop :=
 (∃kvs k,Rd H a (.dK kvs)/\y=kV k/\r=z00 kvs k)∨∃kvs k b,Rd H a (.dT kvs)/\y=.ref b/\H b=some (.tup (k.map kV))/\r=z00 kvs k
def DPut(H:Hp)(a:Addr)(y v:V)(H':Hp):Prop :=
 (∃kvs k,H a=some (.dK kvs)/\y=kV k/\kvs.length<sizeLine/\H'=upd H a (.dK (putK kvs k v))) ∨
 ∃kvs k b,H a=some (.dT kvs)/\y=.ref b/\H b=some (.tup (k.map kV))/\kvs.length<sizeLine/\H'=upd H a (.dT (putK kvs k v))
theorem DGet.k{k:Key}(e:H a=some (.dK kvs)):DGet H a (kV k) (z00 kvs k):=.inl ⟨kvs,k,.inl e,rfl,rfl⟩
theorem DGet.t{b:Addr}{kvs:List (List Key×V)}{k:List Key}(e:H a=some (.dT kvs))(eb:H b=some (.tup (k.map kV))):DGet H a (.ref b) (z00 kvs k):=.inr ⟨kvs,k,b,.inl e,rfl,eb,rfl⟩
theorem DPut.k{k:Key}(e:H a=some (.dK kvs))(hl:kvs.length<sizeLine):DPut H a (kV k) v (upd H a (.dK (putK kvs k v))):=.inl ⟨kvs,k,e,rfl,hl,rfl⟩
section
variable{σ:St}{s:Shared}{y:V}{r:Value}{o:Option V}{A:Around}
theorem Inv.big(I:Inv X pins σ H s):sysModules<s.heap.objs.size:=by
 have h:mainGlobals<s.heap.objs.size:=(I.mod.glob.keeps I.bk).lt;exact G0 (by decide) h
theorem o40(hu:A.units+1<cLine)(I:Inv X pins σ H s)(g:DGet H a y (some v))(ry:RelV y u)(h:∀w' s',Inv X pins σ H s'->RelV v w'->Q w' s') :
  wpAny (model X.prog X.w) A (getItem (.ref a) u) Q E s:=by
 rcases g with⟨kvs,k,e,ey,l⟩|⟨kvs,k,b,e,ey,eb,l⟩
 ·subst ey
  obtain⟨z,hd,vs,rel,dd⟩:=no0 I.hok e;obtain⟨w',hw,J⟩:=RelO.some_of (v:=v) (o:=valueAt vs k) (by rw[l];exact rel.val k);exact wpAny_getItem_of (nc0 ry) dd.mapOf hw (h w' _ (I.tok _) J)
 ·subst ey
  cases (show u=Value.ref b from ry);obtain⟨z,hd,xs,rel,dd⟩:=na0 I.hok e;obtain⟨w',hw,J⟩:=RelO.some_of (v:=v) (o:=(atKey xs k).map (·.2)) (by rw[l];exact rel.val k);obtain⟨p,hp,O⟩:=E6.mp hw;refine wpAny_getItem_heap (l6 hu) (q70 I.hok eb) dd hp ?_;rw[O];exact h w' _ (I.tok _) J
theorem bl0(hu:A.units+1<cLine)(I:Inv X pins σ H s)(g:DGet H a y o)(ry:RelV y u)(h:∀s',Inv X pins σ H s'->Q (.bool (!o.isSome)) s') :
  wpAny (model X.prog X.w) A (compareOp .NotIn u (.ref a)) Q E s:=by
 rcases g with⟨kvs,k,e,ey,l⟩|⟨kvs,k,b,e,ey,eb,l⟩
 ·subst ey
  obtain⟨z,hd,vs,rel,dd⟩:=no0 I.hok e;refine wpAny_notIn_of (nc0 ry) hd dd.mapOf ?_;rw[← (rel.val k).isSome_eq,← l];exact h _ (I.tok _)
 ·subst ey
  cases (show u=Value.ref b from ry);obtain⟨z,hd,xs,rel,dd⟩:=na0 I.hok e;refine wpAny_notIn_heap (l6 hu) (q70 I.hok eb) hd dd ?_;have q:=(rel.val k).isSome_eq;rw[Option.isSome_map] at q;rw[← q,← l];exact h _ (I.tok _)
theorem ku0{t':Nat}{ob:HO}(I:Inv X pins σ H s)(mu:Mut (H a))(hs:Heap.SameBut a s.heap h')(he:∃q,h'.get? a=some q)(new:ObjOk X.prog X.w (upd H a ob) h' a ob) :
  Inv X pins σ (upd H a ob) { s with heap:=h',toks:=t' } :=
 I.write (x:=a) (e:=a) mu (.inl rfl) (λb q hb z=>(hs.2 b hb).trans z) he new
theorem Yy0{P:Program}{w:World}{H':Hp}{vs:List (Key×Value)}(z:kvs.length<=sizeLine)(hd:(a==sysModules)=false)(rel:KV kvs vs)(dd:h'.DictOf (O6 P w) a vs) :
  ObjOk P w H' h' a (.dK kvs):=⟨z,hd,vs,rel,dd⟩
theorem fp0{Q:Unit->Shared->Prop}(hu:A.units+1<cLine)(I:Inv X pins σ H s)(g:DPut H a y v H')(ry:RelV y u)(rv:RelV v r)(h:∀s',Inv X pins σ H' s'->Q () s') :
  wpAny (model X.prog X.w) A (setItem (.ref a) u r) Q E s:=by
 rcases g with⟨kvs,k,e,ey,l,eH⟩|⟨kvs,k,b,e,ey,eb,l,eH⟩
 ·subst ey eH
  obtain⟨z,hd,vs,rel,dd⟩:=cl0 I.hok e;have hz:vs.length<=sizeLine:=by rw[← rel.length];exact z
  have hl:(putK kvs k v).length<=sizeLine:=by have:=sk0 kvs k v;omega
  refine wpAny_setItem_pairs (hsz:=hz) (nc0 ry) dd λh' J hs=>h _ ?_
  have he:∃q,h'.get? a=some q:=let ⟨q,_,_,hq,_⟩:=J;⟨q,hq⟩
  exact ku0 I (by rw[e];exact True.intro) hs he (Yy0 hl hd (rel.put k rv) J)
 ·subst ey eH
  cases (show u=Value.ref b from ry);obtain⟨z,hd,xs,rel,dd⟩:=Vh0 I.hok e;have hz:xs.length<=sizeLine:=by rw[← Paired.length rel];exact z
  have hl:(putK kvs k v).length<=sizeLine:=by have:=sk0 kvs k v;omega
  refine wpAny_setItem_heap (hsz:=hz) (l6 hu) (q70 I.hok eb) dd λh' J hs=>h _ ?_
  obtain⟨q,es,ep,hq,h2,h3,h4,_,h5⟩:=J;refine ku0 I (by rw[e];exact True.intro) hs ⟨q,hq⟩ ⟨hl,hd,_,(rel.put k eb rv).keeps λc ys ec=>?_,q,es,ep,hq,h2,h3,h4,h5⟩;rw[o7 (Ww0 ec e (λz=>nomatch z))];exact ec
end
def dx0(i:Expr):Prop:=∀ov iv,subscripted i false ov iv=operate [ov,iv] (getItem ov iv)
theorem j00{prog:Program}{w:World}{A:Around}{E:Value->Shared->Prop}{s:Shared}{env:Env}{value slice:Expr}{pos:Pos}{T id:String}{Q:Value->Shared->Prop}
  (hl:typeLookup (.type T) "__getitem__"=pure (some (.builtin id))) (hs:dx0 slice)
  (h:wpAny (model prog w) A (eval value env) (λo s₁=>wpAny (model prog w) A (eval slice env) (λi s₂=>s₂.TypeIs o T/\wpAny (model prog w) A (getItem o i) Q E s₂) E s₁) E s) :
  wpAny (model prog w) A (eval (.Subscript value slice pos) env) Q E s:=by
 refine Subscript_ (C5 h (λo s₁ h₁=>C5 h₁ (λi s₂ h₂=>?_) λ_ _ x=>x) λ_ _ x=>x);obtain⟨hT,h₂⟩:=h₂;unfold subscriptTail;refine A0 ?_;rw[getitemInPython_of_ne hT.not_modules];refine A0 (P1 hT hl ?_);have J:wpAny (model prog w) A (subscripted slice false o i) (λr s₃=>wpAny (model prog w) A (letTemporaryGo value o r>>=λ_=>pure r) Q E s₃) E s₂:=by
  rw[hs o i];exact wpAny_operating (C5 h₂ (λr s₃ h₃=>A0 (wpAny_letTemporaryGo (A2 h₃))) λ_ _ x=>x)
 first
  | exact A2 (A0 J)
  | exact A0 (A2 (A0 J))
  | exact A0 J
theorem sg0{σ:St}{s:Shared}{y:V}{o:Option V}(I:Inv X pins σ H s)(g:DGet H a y o):s.TypeIs (.ref a) "dict" := by
 rcases g with⟨kvs,k,e,_,_⟩|⟨kvs,k,b,e,_,_,_⟩
 ·obtain⟨_,_,vs,_,dd⟩:=no0 I.hok e
  exact dd.typeIs
 ·obtain⟨_,_,xs,_,dd⟩:=na0 I.hok e
  exact dd.typeIs
def Vp0(td ty:TE):TE:=fun σ H Q=>td σ H λx H1=>ty σ H1 λy H2=>∃a v,x=.ref a/\DGet H2 a y (some v)/\Q v H2
def b60(ty td:TE):TE:=fun σ H Q=>ty σ H λy H1=>td σ H1 λx H2=>∃a o,x=.ref a/\DGet H2 a y o/\Q (.bl (!o.isSome)) H2
section
variable{i:Expr}{td tv:TE}
theorem Z70(hu:X.A.units+1<cLine)(ho:PE X o td)(hi:PE X i ty)(hs:dx0 i):PE X (.Subscript o i pos) (Vp0 td ty):=by
 intro pins s σ H Q I h;refine j00 At0.lookup hs (thn (ho pins s σ H _ I h) λu s1 ⟨x,H1,I1,rx,q1⟩=>thn (hi pins s1 σ H1 _ I1 q1) λiv s2 ⟨y,H2,I2,ry,a,v,ex,g,q2⟩=>?_);subst ex;obtain rfl:u=Value.ref a:=rx;exact⟨sg0 I2 g,o40 hu I2 g ry λw' s3 I3 J=>⟨v,H2,I3,J,q2⟩⟩
theorem gy0(hu:X.A.units+1<cLine)(hi:PE X i ty)(ho:PE X o td):PC X .NotIn i o (b60 ty td):=by
 intro pins s σ H Q I h;refine thn (hi pins s σ H _ I h) λiv s1 ⟨y,H1,I1,ry,q1⟩=>thn (ho pins s1 σ H1 _ I1 q1) λu s2 ⟨x,H2,I2,rx,a,ov,ex,g,q2⟩=>?_
 subst ex;obtain rfl:u=Value.ref a:=rx;exact bl0 hu I2 g ry λs3 I3=>⟨.bl (!ov.isSome),H2,I3,rfl,q2⟩
end
theorem ef0{P:Program}{w:World}(h:Heap)(hb:sysModules<h.objs.size):ObjOk P w H (h.push { cls:=.type "dict",data:=.dict #[] }) h.objs.size (.dK []) :=
 ⟨C0 _,S3.mpr (A4 (A6 hb)),[],.nil,Heap.DictOf.new h⟩
def Xe0:TE:=λ_ H Q=>∀p,H p=none->Q (.ref p) (upd H p (.dK []))
theorem el0:PE X (.Dict [] [] pos) Xe0:=λpins s σ H Q I h =>
 wpAny_Dict_empty ⟨.ref s.heap.objs.size,_,I.laid (a:=s.heap.objs.size) (o:=.dK []) (t':=s.toks) (λ_ _ q=>A7 _ q) (A1 _) (ef0 s.heap I.big),rfl,h _ (I.hok.fresh (A1 _))⟩
end L2
namespace DL
open Spec PyProof.Rows L2
section
variable{σ σ':St}
theorem Gr.fresh{p:Addr}{o:HO}(h:H p=none):Gr H (upd H p o) B (λa=>B a∨a=p):=λb u n e=>by
 have hb:b≠p:=V7 e h;exact⟨λz=>z.elim n hb,by rw[o7 hb];exact e⟩
theorem Gr.own{o:HO}(h:B a):Gr H (upd H a o) B B:=λb u n e=>⟨n,by rw[o7 (λz=>n (by rw[z];exact h))];exact e⟩
theorem RpO.mono{d:D}(s:∀o,H a=some o->H' a=some o)(g:Gr H H' B B')(h:RpO K H B d a):RpO K H' B' d a:=by
 cases d<;>try exact h.elim
 ·obtain⟨xs,e,r⟩:=h;exact⟨xs,s _ e,r.mono g⟩
 ·obtain⟨xs,e,l,r⟩:=h;exact⟨xs,s _ e,l,r.mono g⟩
theorem RpL.mono{d:D}(s:∀o,H a=some o->H' a=some o)(g:Gr H H' B B')(h:RpL K H B d a):RpL K H' B' d a:=by
 cases d with
 | tup es=>obtain⟨ds,q,xs,e,r⟩:=h;exact⟨ds,q,xs,s _ e,r.mono g⟩
 | _=>exact(RpO.mono s g (RpL.toO rfl h)).toL
theorem Pd.impI{F G:α->β->Prop}:∀{l:List α} {m:List β},(∀(i:Nat) a b,l[i]?=some a->m[i]?=some b->F a b->G a b)->Paired F l m->Paired G l m
 | _,_,_,.nil=>.nil
 | _,_,h,.cons r t=>.cons (h 0 _ _ rfl rfl r) (Pd.impI (λi a b e1 e2=>h (i+1) a b (by simpa using e1) (by simpa using e2)) t)
theorem v50:∀{l:List α} {i:Nat} {a:α},l[i]?=some a->l.set i a=l
 | [],_,_,h=>by simp at h
 | x::l,0,a,h=>by simp at h;subst h;rfl
 | x::l,i+1,a,h=>by rw[List.set_cons_succ,v50 (by simpa using h)]
theorem Pd.setR{F:α->β->Prop}{a:α}{b:β}(r:F a b){l:List α}{m:List β}(e:l[i]?=some a)(h:Paired F l m):Paired F l (m.set i b):=by
 have:=Pd.set r i h
 rwa [v50 e] at this
theorem get_set{l:List α}{a b:α}(h:(l.set i a)[j]?=some b):(i=j/\a=b/\j<l.length)∨(i≠j/\l[j]?=some b):=by
 by_cases e:i=j
 ·subst e
  by_cases hl:i<l.length
  ·rw[List.getElem?_set_self hl] at h
   exact .inl ⟨rfl,B6 h,hl⟩
  ·rw[List.getElem?_eq_none (by simpa using hl)] at h;cases h
 ·rw[List.getElem?_set_ne e] at h
  exact .inr ⟨e,h⟩
theorem Env.at(e:Env K H B σ δ){d:D}(h:δ[i]?=some (.ow d)):∃a,σ[i]?=some (some (.ref a))/\B a/\RpL K H B d a:=by
 obtain⟨o,h1,a,rfl,hb,r⟩:=Pd.get e.all h;exact⟨a,h1,hb,r⟩
theorem Env.mut(e:Env K H B σ δ){d:D}{o:HO}(hi:δ[i]?=some (.ow d0))(hs:σ[i]?=some (some (.ref a)))(r:RpL K (upd H a o) B d a):Env K (upd H a o) B σ (δ.set i (.ow d)):=by
 obtain⟨a',h1,hb,_⟩:=e.at hi;rw[hs] at h1;cases h1;refine⟨?_,λb z=>?_,λj k b ds es h1 h2 h3 h4=>?_⟩
 ·
  have h0:Paired (λ(o':Option V) (s:Sl)=>SlR K (upd H a o) B o' s∨(∃d,s=.ow d/\o'=some (.ref a))) σ δ:=Pd.imp (λo' s h=>by
   cases s with
   | un=>exact .inl trivial
   | ex c n=>obtain⟨v,e,r⟩:=h;exact .inl ⟨v,e,r.mono (Gr.own hb)⟩
   | sh d=>obtain⟨v,e,r⟩:=h;exact .inl ⟨v,e,r.mono (Gr.own hb)⟩
   | ow d =>
    obtain⟨b,e,O,r⟩:=h
    by_cases z:b=a
    ·subst z;exact .inr ⟨d,rfl,e⟩
    ·exact .inl ⟨b,e,O,r.mono (λo h=>by rw[o7 z];exact h) (Gr.own hb)⟩) e.all
  have h1:=Pd.setR (i:=i) (b:=Sl.ow d) (.inl ⟨a,rfl,hb,r⟩) hs h0;refine Pd.impI (λj o' s e1 e2 h=>?_) h1;rcases h with h|⟨d',rfl,rfl⟩
  ·exact h
  ·rcases get_set e2 with⟨rfl,e3,_⟩|⟨J,e3⟩
   ·cases e3;exact⟨a,rfl,hb,r⟩
   ·exact absurd (e.own i j a d0 d' hi e3 hs e1) J
 ·by_cases z':b=a
  ·subst z';exact r.live
  ·rw[o7 z'];exact e.bad b z
 ·have q1:∃d,δ[j]?=some (.ow d):=by
   rcases get_set h1 with⟨rfl,_,_⟩|⟨_,h⟩
   ·exact⟨_,hi⟩
   ·exact⟨_,h⟩
  have q2:∃d,δ[k]?=some (.ow d):=by
   rcases get_set h2 with⟨rfl,_,_⟩|⟨_,h⟩
   ·exact⟨_,hi⟩
   ·exact⟨_,h⟩
  obtain⟨d1,q1⟩:=q1;obtain⟨d2,q2⟩:=q2;exact e.own j k b d1 d2 q1 q2 h3 h4
theorem EnvS.mut(en:EnvS K H₀ B₀ H σ δ)(s:Same H H')(b1:∀a,B₀ a->B a)(b2:∀a,B a->B₀ a∨H₀ a=none){d:D}{o:HO}(hi:δ[i]?=some (.ow d0))(hs:σ[i]?=some (some (.ref a)))
  (env:Env K (upd H' a o) B σ (δ.set i (.ow d))):EnvS K H₀ B₀ (upd H' a o) σ (δ.set i (.ow d)):=by
 have h0:=en.fr i d0 a hi hs;refine⟨λb u h=>?_,⟨B,b1,b2,env⟩,λj ds b h1 h2=>?_,en.b0⟩
 ·have:b≠a:=λz=>by rw[z,h0] at h;cases h
  rw[o7 this];exact s _ _ (en.same b u h)
 ·rcases get_set h1 with⟨rfl,_,_⟩|⟨_,h⟩
  ·rw[hs] at h2;cases h2;exact h0
  ·exact en.fr j ds b h h2
theorem EnvS.take(en:EnvS K H₀ B₀ H σ δ)(b1:∀a,B₀ a->B a)(b2:∀a,B a->B₀ a∨H₀ a=none)(e:Env K H B σ δ)(i:Nat){d:D}{p:Addr}(hp:H p=none)(s:Same H H')
  (r:RpO K H' (λa=>B a∨a=p) d p):EnvS K H₀ B₀ H' (σ.set i (some (.ref p))) (δ.set i (.ow d)):=by
 have g:Gr H H' B (λa=>B a∨a=p):=λb u n h=>⟨λz=>z.elim n (V7 h hp),s _ _ h⟩
 have J:H₀ p=none:=en.same.free hp;have live:∀{j:Nat} {d':D} {b:Addr},δ[j]?=some (.ow d')->σ[j]?=some (some (.ref b))->b≠p:=λ{j d' b} h1 h2=>by
  obtain⟨a,q1,q2,q3⟩:=e.at h1;rw[h2] at q1;cases q1;exact λz=>e.bad _ q2 (by rw[z];exact hp)
 refine⟨en.same.trans s,⟨λa=>B a∨a=p,λa z=>.inl (b1 a z),λa z=>?_,?_,λa z=>?_,λj k a ds es h1 h2 h3 h4=>?_⟩,λj ds a h1 h2=>?_,en.b0⟩
 ·rcases z with z|rfl
  ·exact b2 a z
  ·exact .inr J
 ·refine Pd.set ⟨p,rfl,.inr rfl,r.toL⟩ i (Pd.imp (λo sl h=>?_) e.all)
  cases sl with
  | un=>trivial
  | ex c n=>obtain⟨v,e,r⟩:=h;exact⟨v,e,r.mono g⟩
  | sh d=>obtain⟨v,e,r⟩:=h;exact⟨v,e,r.mono g⟩
  | ow d=>obtain⟨b,e,O,r⟩:=h;exact⟨b,e,.inl O,r.mono (λo h=>s _ _ h) g⟩
 ·rcases z with z|rfl
  ·exact(e.bad a z).same s
  ·exact r.live
 ·rcases get_set h1 with⟨rfl,_,_⟩|⟨n1,h1⟩
  ·rcases get_set h2 with⟨rfl,_,_⟩|⟨n2,h2⟩
   ·rfl
   ·rcases get_set h3 with⟨_,e3,_⟩|⟨n3,_⟩
    ·cases e3
     rw[List.getElem?_set_ne n2] at h4;exact absurd rfl (live h2 h4)
    ·exact absurd rfl n3
  ·rcases get_set h2 with⟨rfl,_,_⟩|⟨n2,h2⟩
   ·rcases get_set h4 with⟨_,e4,_⟩|⟨n4,_⟩
    ·cases e4
     rw[List.getElem?_set_ne n1] at h3;exact absurd rfl (live h1 h3)
    ·exact absurd rfl n4
   ·rw[List.getElem?_set_ne n1] at h3
    rw[List.getElem?_set_ne n2] at h4;exact e.own j k a ds es h1 h2 h3 h4
 ·rcases get_set h1 with⟨rfl,_,_⟩|⟨n1,h1⟩
  ·rcases get_set h2 with⟨_,e3,_⟩|⟨n3,_⟩
   ·cases e3;exact J
   ·exact absurd rfl n3
  ·rw[List.getElem?_set_ne n1] at h2
   exact en.fr j ds a h1 h2
theorem Env.frz(e:Env K H B σ δ):∃B':BS,(∀a,B' a->B a)/\(∀a,B a->B' a∨∃(i:Nat) (d:D),δ[i]?=some (.ow d)/\σ[i]?=some (some (.ref a)))/\Env K H B' σ (DL.frz δ):=by
 refine⟨λa=>B a/\¬∃(i:Nat) (d:D),δ[i]?=some (.ow d)/\σ[i]?=some (some (.ref a)),λa z=>z.1,λa z=>?_,?_,λa z=>e.bad a z.1,λi j a ds es h1 _ _ _=>?_⟩
 ·by_cases q:∃(i:Nat) (d:D),δ[i]?=some (.ow d)/\σ[i]?=some (some (.ref a))
  ·exact .inr q
  ·exact .inl ⟨z,q⟩
 ·have:Paired (λo s=>SlR K H (λa=>B a/\¬∃(i:Nat) (d:D),δ[i]?=some (.ow d)/\σ[i]?=some (some (.ref a))) o (zu0 s)) σ δ:=Pd.impI (λi o s e1 e2 h=>by
   cases s with
   | un=>trivial
   | ex c n=>obtain⟨v,e,r⟩:=h;exact⟨v,e,r.mono (Gr.less λa z=>z.1)⟩
   | sh d=>obtain⟨v,e,r⟩:=h;exact⟨v,e,r.mono (Gr.less λa z=>z.1)⟩
   | ow d =>
    obtain⟨a,rfl,hb,r⟩:=h;exact⟨_,rfl,r.rp (λa z=>z.1) λz=>z.2 ⟨i,d,e2,e1⟩⟩) e.all
  have mp:∀{l:St} {m:Ds} {F:Option V->Sl->Prop},Paired (λo s=>F o (zu0 s)) l m->Paired F l (m.map zu0):=by
   intro l m F h
   induction h with
   | nil=>exact .nil
   | cons r t ih=>exact .cons r ih
  exact mp this
 ·unfold DL.frz at h1
  rw[List.getElem?_map] at h1;cases q:δ[i]? with
  | none=>rw[q] at h1;cases h1
  | some s=>rw[q] at h1;cases s<;>cases h1
theorem EnvS.frz(en:EnvS K H₀ B₀ H σ δ):EnvS K H₀ B₀ H σ (DL.frz δ):=by
 obtain⟨B,b1,b2,env⟩:=en.ex;obtain⟨B',c1,c2,J⟩:=env.frz;refine⟨en.same,⟨B',λa z=>?_,λa z=>b2 a (c1 a z),J⟩,λi ds a h1 _=>?_,en.b0⟩
 ·rcases c2 a (b1 a z) with q|⟨i,d,q1,q2⟩
  ·exact q
  ·exact absurd (en.fr i d a q1 q2) (en.b0 a z)
 ·unfold DL.frz at h1
  rw[List.getElem?_map] at h1;cases q:δ[i]? with
  | none=>rw[q] at h1;cases h1
  | some s=>rw[q] at h1;cases s<;>cases h1
theorem Env.frzAt(e:Env K H B σ δ)(i:Nat):∃B':BS,(∀a,B' a->B a)/\(∀a,B a->B' a∨∃(d:D),δ[i]?=some (.ow d)/\σ[i]?=some (some (.ref a)))/\Env K H B' σ (DL.frzAt i δ):=by
 unfold DL.frzAt;cases h:δ[i]? with
 | none=>exact⟨B,λ_ z=>z,λ_ z=>.inl z,e⟩
 | some s =>
  cases s with
  | un=>dsimp only [zu0];rw[v50 h];exact⟨B,λ_ z=>z,λ_ z=>.inl z,e⟩
  | ex c n=>dsimp only [zu0];rw[v50 h];exact⟨B,λ_ z=>z,λ_ z=>.inl z,e⟩
  | sh d=>dsimp only [zu0];rw[v50 h];exact⟨B,λ_ z=>z,λ_ z=>.inl z,e⟩
  | ow d =>
   obtain⟨a,h1,hb,r⟩:=e.at h;refine⟨λb=>B b/\b≠a,λb z=>z.1,λb z=>?_,?_,λb z=>e.bad b z.1,λj k b ds es Z J h3 h4=>?_⟩
   ·by_cases q:b=a
    ·subst q;exact .inr ⟨d,rfl,h1⟩
    ·exact .inl ⟨z,q⟩
   ·have h0:Paired (λ(o':Option V) (s:Sl)=>SlR K H (λb=>B b/\b≠a) o' s∨(∃d,s=.ow d/\o'=some (.ref a))) σ δ:=Pd.imp (λo' s h=>by
     cases s with
     | un=>exact .inl trivial
     | ex c n=>obtain⟨v,e,r⟩:=h;exact .inl ⟨v,e,r.mono (Gr.less λa z=>z.1)⟩
     | sh d=>obtain⟨v,e,r⟩:=h;exact .inl ⟨v,e,r.mono (Gr.less λa z=>z.1)⟩
     | ow d =>
      obtain⟨b,e,Y,r⟩:=h
      by_cases z:b=a
      ·subst z;exact .inr ⟨d,rfl,e⟩
      ·exact .inl ⟨b,e,⟨Y,z⟩,r.mono (λo h=>h) (Gr.less λa z=>z.1)⟩) e.all
    have h2:=Pd.setR (i:=i) (b:=Sl.sh (unl d)) (.inl ⟨.ref a,rfl,r.rp (λb z=>z.1) λz=>z.2 rfl⟩) h1 h0;refine Pd.impI (λj o' s e1 e2 hh=>?_) h2;rcases hh with hh|⟨d',rfl,rfl⟩
    ·exact hh
    ·rcases get_set e2 with⟨rfl,e3,_⟩|⟨O,e3⟩
     ·cases e3
     ·exact absurd (e.own i j a d d' h e3 h1 e1) O
   ·rcases get_set Z with⟨_,q,_⟩|⟨_,q1⟩
    ·cases q
    ·rcases get_set J with⟨_,q,_⟩|⟨_,q2⟩
     ·cases q
     ·exact e.own j k b ds es q1 q2 h3 h4
theorem EnvS.frzAt(en:EnvS K H₀ B₀ H σ δ)(i:Nat):EnvS K H₀ B₀ H σ (DL.frzAt i δ):=by
 obtain⟨B,b1,b2,env⟩:=en.ex;obtain⟨B',c1,c2,J⟩:=env.frzAt i;refine⟨en.same,⟨B',λa z=>?_,λa z=>b2 a (c1 a z),J⟩,λj ds a h1 h2=>?_,en.b0⟩
 ·rcases c2 a (b1 a z) with q|⟨d,q1,q2⟩
  ·exact q
  ·exact absurd (en.fr i d a q1 q2) (en.b0 a z)
 ·unfold DL.frzAt at h1
  cases q:δ[i]? with
  | none=>rw[q] at h1;exact en.fr j ds a h1 h2
  | some s =>
   rw[q] at h1;rcases get_set h1 with⟨rfl,q',_⟩|⟨_,q1⟩
   ·cases s<;>cases q'
   ·exact en.fr j ds a q1 h2
theorem je0{d:D}(h:flat d=true)(r:Rp K H B d v):Rp K H' B' d v:=by
 cases d<;>simp[flat] at h
 ·rw[U4] at r ⊢;exact r
 ·rw[W3] at r ⊢;exact r
 ·rw[j8] at r ⊢;exact r
 ·rw[Y9] at r ⊢;exact r
end
section
variable{tg:Expr}{g:GE}{gt:GB}{G:GS}
theorem tf0(h:PD X e g):PD X e (z20 g):=.mk λB δ pins s σ H Q I ⟨d,en,hq,k⟩=>by
 obtain⟨B',c1,c2,J⟩:=en.frz;unfold z20 at hq;cases e1:g (frz δ) with
 | none=>rw[e1] at hq;cases hq
 | some x =>
  rw[e1] at hq
  by_cases hf:flat x=true
  ·simp only[Option.bind_some,if_pos hf] at hq
   cases hq;exact h B' (frz δ) pins s σ H Q I ⟨_,J,e1,λv H' s' r=>k v H' s' (je0 hf r)⟩
  ·simp only[Option.bind_some,if_neg hf] at hq
   cases hq
theorem qv0(h:PTD X e gt):PTD X e (vi0 gt):=.mk λB δ pins s σ H Q I ⟨d,en,hq,k⟩=>by
 obtain⟨B',c1,c2,J⟩:=en.frz;exact h B' (frz δ) pins s σ H Q I ⟨d,J,hq,k⟩
theorem uf0(i:Nat)(h:PSD X st G):PSD X st (uc0 i G):=.mk λH₀ B₀ δ pins s σ H D I ⟨r,en,hq,k⟩=>h H₀ B₀ _ pins s σ H D I ⟨r,en.frzAt i,hq,k⟩
theorem yy0(h:PD X e g):PSD X (.Return (some e) pos) (j7 (u40 g)):=.mk λH₀ B₀ δ pins s σ H D I ⟨r,en,hq,k⟩ =>
 o6 h H₀ B₀ (frz δ) pins s σ H D I ⟨r,en.frz,hq,k⟩
theorem Q7{gA:GA}(h:PDA X es gA):PDF X (.List es pos) (Z6 gA) :=
 .mk λB δ=>(gt0 (h B δ)).imp fun σ H Q ⟨d,en,h,k⟩=>by
  unfold Z6 at h;cases e1:gA δ with
  | none=>rw[e1] at h;cases h
  | some ds =>
   rw[e1] at h
   by_cases hl:ds.length<=sizeLine
   ·simp only[Option.bind_some,if_pos hl] at h
    cases h;refine⟨ds,en,e1,λvs H1 s1 r1=>⟨by rw[r1.length];exact hl,λp hp=>k _ _ (s1.free hp) (s1.trans (Z1 hp)) ⟨vs,j6,r1.mono (Gr.fresh hp)⟩⟩⟩
   ·simp only[Option.bind_some,if_neg hl] at h
    cases h
theorem v80:PDF X (.Dict [] [] pos) (gc (.dct (.inl []) [])):=.mk λB δ=>el0.imp fun σ H Q ⟨d,en,h,k⟩=>by
 cases h;exact λp hp=>k p _ hp (Z1 hp) ⟨[],j6,rfl,by rw[m5]⟩
theorem T3(i:Nat){px:Pos}(h:PDF X e g)(hN:X.N.Nodup)(hi:X.N[i]?=some x:=by rfl)(hx:Loc X.env.scope x:=by first|exact Or.inl rfl|exact Or.inr rfl)
  (hs:swapsWithSole [.Name x px] e pos.line X.env=pure false:=by rfl) (hw:swappedStores [.Name x px] e X.env=pure none:=by rfl)
  (h1:(assignEach [.Name x px] X.env).map (·.2)=[assign (.Name x px) X.env]:=by rfl)
  (hf:X.fn x=true∨X.env.scope.names.lookup x=some .local:=by first|exact .inl rfl|exact .inr rfl|assumption):PSD X (.Assign [.Name x px] e pos) (N5 i g):=.mk λH₀ B₀ δ pins s σ H D I ⟨r,en,e1,k⟩=>by
 unfold N5 at e1;obtain⟨B,b1,b2,env⟩:=en.ex;cases e2:g δ with
 | none=>rw[e2] at e1;cases e1
 | some d =>
  rw[e2] at e1;cases e1;exact t80 (h B δ) (zr0 (i:=i) hN hi hx hf) hs hw h1 pins s σ H D I ⟨d,env,e2,λp H' hp s' r=>k _ H' (en.take b1 b2 env i hp s' r)⟩
end
end DL
namespace L2
open Spec PyProof.Rows
open PySem.AutoSeq1 (wpAny_loadPart')
theorem if0(p:Addr)(xs:Array Value)(k:Nat)(q:Addr)(ys:Array Value)(m:Nat)(dq:Option Addr)(sq:Array (Option Value))(h0:¬(!xs.isEmpty&&Builtin.List.listTooLong (xs.size+ys.size))=true)(h1:xs.size<=sizeLine)(h2:xs.size+ys.size<=sizeLine+1) :
  Meets (Builtin.«list.extend» ⟨[.ref p,.ref q],[]⟩) (λ_ R s=>s.heap.get? p=some { cls:=.type "list",dict:=none,data:=.seq xs k,slots:=#[] }/\s.heap.get? q=some { cls:=.type "list",dict:=dq,data:=.seq ys m,slots:=sq }/\R (.ok (.ret Value.none)) { s with heap:=s.heap.update p (Obj.mapSeq λz=>z++ys) }) :=
 .of_wp λprog w A R s h=>by
  obtain⟨hp,g,d,tk,os⟩:=s;obtain⟨hl,hb,h⟩:=h;have f1:=AutoSeq1.idx_int;have f2:=AutoSeq1.sub_tuple_tuple;have f3:=AutoSeq1.sub_list_list;have f4:=AutoSeq1.sub_tuple_list;have f5:=AutoSeq1.sub_list_tuple;have J:(xs++ys).size<=sizeLine+1:=by rw[Array.size_append];exact h2
  wp_walk using (P2 hl rfl (hz:=h1) (_hz':=J)),wpAny_loadPart' hl,wpAny_loadPart' hb
  exact⟨_,rfl,h⟩
def dp0(K:W.Frag):V->List V->Hp->VK->Prop:=λx vs H Q=>∃l b xs zs,x=.ref l/\vs=[.ref b]/\H l=some (.lst xs)/\SqL K H b zs/\xs.length+zs.length<=sizeLine/\Q .non (upd H l (.lst (xs++zs)))
theorem jo0:MtM X "list.extend" (dp0 X.K):=by
 intro pins s σ H x vs v us Q I rx rv h;obtain⟨l,b,xs,zs,rfl,rfl,hH,hB,hz,q⟩:=h;cases rx;obtain⟨u,rfl,ru⟩:=rv.one;cases ru;obtain⟨z,its,n,r,hl,e⟩:=I.lstM hH;obtain⟨J,r2,p2,z2⟩:=I.list hB;obtain⟨⟨a5,a3,data2,a1⟩,a4,Y,n2,Z⟩:=p2.isList;simp only at Y Z;subst Y Z;have hl2:=r2.length;have a2:its.toArray.size+J.toArray.size<=sizeLine:=by rw[List.size_toArray,List.size_toArray];omega
 have O:¬(!its.toArray.isEmpty&&Builtin.List.listTooLong (its.toArray.size+J.toArray.size))=true:=by
  rw[c30 a2,Bool.and_false];exact B5
 refine K2 F.slot_list_extend ⟨_,e,rfl⟩ F.entry_list_extend (F.args_list_extend_2 _ _)
  (if0 l its.toArray n b J.toArray n2 a3 a1 O (by rw[List.size_toArray];omega) (by omega)) ⟨e,a4,?_⟩
 refine⟨.non,_,I.lset (its':=its++J) hH e (by simp) (r.append r2) ?_,rfl,q⟩;rw[List.length_append];omega
def Yz0:V->V->V->Hp->(Hp->Prop)->Prop:=λo i v H Q=>∃a H',o=.ref a/\DPut H a i v H'/\Q H'
theorem set_dict(hu:X.A.units+1<cLine):Xl0 X Yz0:=by
 intro pins s σ H o i v ov iv u Q I ro ri rv h;obtain⟨a,H',rfl,g,q⟩:=h;cases ro;exact fp0 hu I g ri rv λs3 I3=>⟨H',I3,q⟩
end L2
namespace DL
open Spec PyProof.Rows L2
section
variable{σ σ':St}
theorem Rps.dropLast(h:Rps K H B ds xs):Rps K H B ds.dropLast xs.dropLast:=by
 rw[List.dropLast_eq_take,List.dropLast_eq_take,h.length];exact h.take _
structure EnvV(K:W.Frag)(H₀:Hp)(B₀:BS)(H:Hp)(σ:St)(δ:Ds)(d:D)(v:V):Prop where
 same:Same H₀ H
 ex:∃B:BS,(∀a,B₀ a->B a)/\(∀a,B a->B₀ a∨H₀ a=none)/\Env K H B σ δ/\Rp K H B d v
 fr:∀(i:Nat) (ds:D) (a:Addr),δ[i]?=some (.ow ds)->σ[i]?=some (some (.ref a))->H₀ a=none
 b0:∀a,B₀ a->NB (H₀ a)
theorem EnvV.s{d:D}(h:EnvV K H₀ B₀ H σ δ d v):EnvS K H₀ B₀ H σ δ:=⟨h.same,let ⟨B,b1,b2,e,_⟩:=h.ex;⟨B,b1,b2,e⟩,h.fr,h.b0⟩
theorem EnvV.mk'{d:D}(h:EnvS K H₀ B₀ H σ δ)(b1:∀a,B₀ a->B a)(b2:∀a,B a->B₀ a∨H₀ a=none)(e:Env K H B σ δ)(r:Rp K H B d v):EnvV K H₀ B₀ H σ δ d v:=⟨h.same,⟨B,b1,b2,e,r⟩,h.fr,h.b0⟩
end
def tX(K:W.Frag)(H₀:Hp)(B₀:BS)(δ:Ds)(gx:GX):TE:=fun σ H Q=>∃r,EnvS K H₀ B₀ H σ δ/\gx δ=some r/\∀v H',EnvV K H₀ B₀ H' σ r.2 r.1 v->Q v H'
structure PX(X:Cx)(e:Expr)(gx:GX):Prop where
 mk::go:∀H₀ B₀ δ,PE X e (tX X.K H₀ B₀ δ gx)
instance{X:Cx}{e:Expr}{gx:GX}:CoeFun (PX X e gx) (λ_=>∀H₀ B₀ δ,PE X e (tX X.K H₀ B₀ δ gx)):=⟨PX.go⟩
def tTG(K:W.Frag)(H₀:Hp)(B₀:BS)(ft:D->Ds->Option Ds)(d:D)(δ:Ds):TG:=λv σ H Q=>∃δ',EnvV K H₀ B₀ H σ δ d v/\ft d δ=some δ'/\∀σ' H',EnvS K H₀ B₀ H' σ' δ'->Q σ' H'
structure PTG(X:Cx)(tg:Expr)(ft:D->Ds->Option Ds):Prop where
 mk::go:∀H₀ B₀ d δ,PG X tg (tTG X.K H₀ B₀ ft d δ)
instance{X:Cx}{tg:Expr}{ft:D->Ds->Option Ds}:CoeFun (PTG X tg ft) (λ_=>∀H₀ B₀ d δ,PG X tg (tTG X.K H₀ B₀ ft d δ)):=⟨PTG.go⟩
section
variable{tg:Expr}{g:GE}{gt:GB}{G:GS}
theorem wi0(h:PD X e g):PX X e (Q3 g):=.mk λH₀ B₀ δ pins s σ H Q I ⟨r,en,e1,k⟩=>by
 unfold Q3 at e1;obtain⟨B,b1,b2,env⟩:=en.ex;cases e2:g δ with
 | none=>rw[e2] at e1;cases e1
 | some d =>
  rw[e2] at e1;cases e1;exact h B δ pins s σ H Q I ⟨d,env,e2,λv H' s' r=>k v H' (EnvV.mk' (en.grow s') b1 b2 (env.same s') r)⟩
theorem re0(h:owL i δ=some ds):δ[i]?=some (.ow (.lst ds)):=by
 unfold owL at h;split at h
 ·cases h;assumption
 ·cases h
theorem Z00{r:List T7×List D}(h:jw0 i δ=some r):δ[i]?=some (.ow (.dct (.inl r.1) r.2)):=by
 unfold jw0 at h;split at h
 ·cases h;assumption
 ·cases h
theorem u10(i:Nat)(h:PD X e g)(hN:X.N[i]?=some x:=by rfl)(hv:Vis X.env.scope x:=by first|exact Or.inl rfl|exact Or.inr (Or.inl rfl)|exact Or.inr (Or.inr rfl))(hd:(x==("__debug__" : Str))=false:=by decide)(hcd:(x==("__classdict__" : Str))=false:=by decide)
  (hbase:attributeBase (.Name x px) "append" X.env (eval (.Name x px) X.env)=eval (.Name x px) X.env:=by rfl)
  (hfew:((backTo cpos (starEach [e] X.env)).all (λx=>!x.1)&&(backToKw cpos (keywordEach [] X.env)).all (λx=>x.1.isSome)
  &&decide (([e]:List Expr).length+([]:List Keyword).length+(if ([]:List Keyword).isEmpty then 0 else 1)<30))=true:=by rfl)
  (hline:(apos.endLine==cpos.line)=true:=by rfl) (hs:starEach [e] X.env=(false,eval e X.env)::starEach [] X.env:=by rfl) (hplain:(backTo cpos (starEach [] X.env)).any (·.1)=false:=by rfl) :
  PX X (.Call (.Attribute (.Name x px) "append" apos) [e] [] cpos) (G4 i g):=.mk λH₀ B₀ δ pins s σ H Q I ⟨r,en,e1,k⟩=>by
 unfold G4 at e1;obtain⟨B,b1,b2,env⟩:=en.ex;cases e2:owL i δ with
 | none=>rw[e2] at e1;cases e1
 | some ds =>
  cases e3:g δ with
  | none=>rw[e2,e3] at e1;cases e1
  | some d =>
   rw[e2,e3] at e1;simp only[Option.bind_some] at e1;split at e1
   ·rename_i hz
    cases e1;have hi:=re0 e2;obtain⟨a,J,hb,xs,hx,rx⟩:=env.at hi;refine tu0 P3 Av0 Aw0 tg0 (zh0 (i:=i) hN hv hd hcd) (Q5 (h B δ) zm0 hs) hbase hfew hline hs hplain pins s σ H Q I
     ⟨_,J,.inl ⟨rfl,xs,.inl (.inl hx)⟩,d,env,e3,λv H1 s1 r1=>⟨a,xs,v,rfl,rfl,s1 _ _ hx,by rw[rx.length];exact hz,?_⟩⟩
    have O:Env X.K (upd H1 a (.lst (xs++[v]))) B σ (δ.set i (.ow (.lst (ds++[d])))):=(env.same s1).mut hi J ⟨_,j6,(Rps.snoc (rx.same s1) r1).mono (Gr.own hb)⟩;exact k _ _ (EnvV.mk' (en.mut s1 b1 b2 hi J O) b1 b2 O (by rw[U4]))
   ·cases e1
theorem mm0(i:Nat)(h:PD X e g)(hN:X.N[i]?=some x:=by rfl)(hv:Vis X.env.scope x:=by first|exact Or.inl rfl|exact Or.inr (Or.inl rfl)|exact Or.inr (Or.inr rfl))(hd:(x==("__debug__" : Str))=false:=by decide)(hcd:(x==("__classdict__" : Str))=false:=by decide)
  (hbase:attributeBase (.Name x px) "extend" X.env (eval (.Name x px) X.env)=eval (.Name x px) X.env:=by rfl)
  (hfew:((backTo cpos (starEach [e] X.env)).all (λx=>!x.1)&&(backToKw cpos (keywordEach [] X.env)).all (λx=>x.1.isSome)
  &&decide (([e]:List Expr).length+([]:List Keyword).length+(if ([]:List Keyword).isEmpty then 0 else 1)<30))=true:=by rfl)
  (hline:(apos.endLine==cpos.line)=true:=by rfl) (hs:starEach [e] X.env=(false,eval e X.env)::starEach [] X.env:=by rfl) (hplain:(backTo cpos (starEach [] X.env)).any (·.1)=false:=by rfl) :
  PX X (.Call (.Attribute (.Name x px) "extend" apos) [e] [] cpos) (yq0 i g):=.mk λH₀ B₀ δ pins s σ H Q I ⟨r,en,e1,k⟩=>by
 unfold yq0 at e1;obtain⟨B,b1,b2,env⟩:=en.ex;cases e2:owL i δ with
 | none=>rw[e2] at e1;cases e1
 | some ds =>
  cases e3:g δ with
  | none=>rw[e2,e3] at e1;cases e1
  | some d =>
   rw[e2,e3] at e1;simp only[Option.bind_some] at e1;cases d<;>try cases e1
   rename_i es;dsimp only at e1;split at e1
   ·rename_i hz
    cases e1;have hi:=re0 e2;obtain⟨a,J,hb,xs,hx,rx⟩:=env.at hi;refine tu0 P3 PySem.F.slot_list_extend PySem.F.type_list_extend jo0 (zh0 (i:=i) hN hv hd hcd) (Q5 (h B δ) zm0 hs) hbase hfew hline hs hplain pins s σ H Q I
     ⟨_,J,.inl ⟨rfl,xs,.inl (.inl hx)⟩,_,env,e3,λv H1 s1 r1=>?_⟩
    rw[W4] at r1;obtain⟨b,zs,rfl,hq,rz⟩:=r1;refine⟨a,b,xs,zs,rfl,rfl,s1 _ _ hx,hq.to,by rw[rx.length,rz.length];exact hz,?_⟩;have O:Env X.K (upd H1 a (.lst (xs++zs))) B σ (δ.set i (.ow (.lst (ds++es)))):=(env.same s1).mut hi J ⟨_,j6,(Rps.append (rx.same s1) rz).mono (Gr.own hb)⟩;exact k _ _ (EnvV.mk' (en.mut s1 b1 b2 hi J O) b1 b2 O (by rw[U4]))
   ·cases e1
theorem e50(i:Nat)(hN:X.N[i]?=some x:=by rfl)(hv:Vis X.env.scope x:=by first|exact Or.inl rfl|exact Or.inr (Or.inl rfl)|exact Or.inr (Or.inr rfl))(hd:(x==("__debug__" : Str))=false:=by decide)(hcd:(x==("__classdict__" : Str))=false:=by decide)
  (hbase:attributeBase (.Name x px) "pop" X.env (eval (.Name x px) X.env)=eval (.Name x px) X.env:=by rfl) (hline:(apos.endLine==cpos.line)=true:=by rfl) :
  PX X (.Call (.Attribute (.Name x px) "pop" apos) [] [] cpos) (vh0 i):=.mk λH₀ B₀ δ pins s σ H Q I ⟨r,en,e1,k⟩=>by
 unfold vh0 at e1;obtain⟨B,b1,b2,env⟩:=en.ex;cases e2:owL i δ with
 | none=>rw[e2] at e1;cases e1
 | some ds =>
  rw[e2] at e1;simp only[Option.bind_some] at e1;cases e3:ds.getLast? with
  | none=>rw[e3] at e1;cases e1
  | some d =>
   rw[e3] at e1;cases e1;have hi:=re0 e2;obtain⟨a,J,hb,xs,hx,rx⟩:=env.at hi;rw[List.getLast?_eq_getElem?] at e3;obtain⟨y,hy,ry⟩:=rx.get e3;refine Ya0 P3 PySem.F.slot_list_pop PySem.F.type_list_pop Zr0 (zh0 (i:=i) hN hv hd hcd) hbase hline pins s σ H Q I
    ⟨_,J,.inl ⟨rfl,xs,.inl (.inl hx)⟩,a,xs,y,rfl,rfl,hx,by rw[rx.length];exact hy,?_⟩
   have O:Env X.K (upd H a (.lst xs.dropLast)) B σ (δ.set i (.ow (.lst ds.dropLast))):=env.mut hi J ⟨_,j6,rx.dropLast.mono (Gr.own hb)⟩;exact k _ _ (EnvV.mk' (en.mut (Same.refl _) b1 b2 hi J O) b1 b2 O (ry.mono (Gr.own hb)))
theorem lo0{f:D->Ds->Option Ds}(h:PGD X tg idx f):PTG X tg f:=.mk λH₀ B₀ d δ pins s σ H v u Q I r ⟨δ',en,e1,k⟩=>by
 obtain⟨B,b1,b2,env,rv⟩:=en.ex;exact h B d δ pins s σ H v u Q I r ⟨δ',rv,env,e1,fun σ' w en'=>k σ' H (en.s.wr b1 b2 (Same.refl _) w en')⟩
theorem zo0{gx:GX}{ft:D->Ds->Option Ds}(h:PX X e gx)(hg:PTG X tg ft)(hs:swapsWithSole [tg] e pos.line X.env=pure false:=by rfl)(hw:swappedStores [tg] e X.env=pure none:=by rfl)
  (h1:(assignEach [tg] X.env).map (·.2)=[assign tg X.env]:=by rfl):PSD X (.Assign [tg] e pos) (T4 gx ft):=.mk λH₀ B₀ δ pins s σ H D I ⟨r,en,e1,k⟩=>by
 unfold T4 at e1;cases e2:gx δ with
 | none=>rw[e2] at e1;cases e1
 | some q =>
  rw[e2] at e1;simp only[Option.bind_some] at e1;cases e3:ft q.1 q.2 with
  | none=>rw[e3] at e1;cases e1
  | some δ' =>
   rw[e3] at e1;cases e1;exact t80 (h H₀ B₀ δ) (hg H₀ B₀ q.1 q.2) hs hw h1 pins s σ H D I ⟨q,en,e2,λv H' J=>⟨δ',J,e3,fun σ' H'' en''=>k σ' H'' en''⟩⟩
theorem O3{gx:GX}(h:PX X e gx)(hs:swapsWith e none pos.line X.env=pure false:=by rfl):PSD X (.Expr e pos) (Z8 gx):=.mk λH₀ B₀ δ pins s σ H D I ⟨r,en,e1,k⟩=>by
 unfold Z8 at e1;cases e2:gx δ with
 | none=>rw[e2] at e1;cases e1
 | some q =>
  rw[e2] at e1;cases e1;exact p00 (h H₀ B₀ δ) hs pins s σ H D I ⟨q,en,e2,λv H' J=>k σ H' J.s⟩
theorem xu0(n:Nat){body:List Stmt}(hp:PassesOwn (model X.prog X.w) X.A X.env X.xe)(hc:PTD X c gt)(hb:PSsD X body G):PSD X (.While c body [] pos) (X5 gt G n):=.mk λH₀ B₀ δ pins s σ H D I ⟨r,en,e1,k⟩=>by
 have Y:PT X c (fun σ H Q=>∃B δ,tDT X.K B δ gt σ H Q):=λpins s σ H Q I ⟨B,δ,h⟩=>hc B δ pins s σ H Q I h
 have O:PSs X body (λD σ H=>∃δ,tDS X.K H₀ B₀ δ G D σ H):=λpins s σ H D I ⟨δ,h⟩=>hb H₀ B₀ δ pins s σ H D I h
 refine d00 hp Y O pins s σ H D I ⟨λm σ H=>∃δ',EnvS X.K H₀ B₀ H σ δ'/\X5 gt G m δ'=some r,⟨n,δ,en,e1⟩,?_⟩;rintro m σ1 H1 ⟨δ1,J,e2⟩;cases m with
 | zero=>cases e2
 | succ m =>
  unfold X5 at e2;obtain⟨B,b1,b2,env⟩:=J.ex;cases e3:gt δ1 with
  | none=>rw[e3] at e2;cases e2
  | some t =>
   rw[e3] at e2;refine⟨B,δ1,t,env,e3,λH2 s2=>?_⟩;cases t with
   | false =>
    rw[if_neg B5];cases e2;exact k σ1 H2 (J.grow s2)
   | true =>
    rw[if_pos rfl];dsimp only at e2;refine⟨fun σ' H'=>∃δ',EnvS X.K H₀ B₀ H' σ' δ'/\X5 gt G m δ'=some r,fun σ' H' z=>⟨m,l7 m,z⟩,δ1,?_⟩;cases e4:G δ1 with
    | none=>rw[e4] at e2;cases e2
    | some rb =>
     rw[e4] at e2;refine⟨rb,J.grow s2,e4,?_⟩;cases rb with
     | nx δn=>exact fun σ' H' en'=>⟨δn,en',e2⟩
     | ct δn=>exact fun σ' H' en'=>⟨δn,en',e2⟩
     | bk δn=>cases e2;exact fun σ' H' en'=>k σ' H' en'
     | rt d'=>cases e2;exact λv H' s' r'=>k v H' s' r'
     | rf d'=>cases e2;exact λp H' hp s' r'=>k p H' hp s' r'
theorem ud0(i j:Nat){p2 p3:Pos}{kk}(hN:X.N.Nodup)(hij:i≠j)(hc:X.calm=true:=by rfl)(hi:X.N[i]?=some x:=by rfl)(hj:X.N[j]?=some y:=by rfl)
  (hx:Loc X.env.scope x:=by first|exact Or.inl rfl|exact Or.inr rfl) (hy:Loc X.env.scope y:=by first|exact Or.inl rfl|exact Or.inr rfl)
  (hf:X.fn x=true∨X.env.scope.names.lookup x=some .local:=by first|exact .inl rfl|exact .inr rfl|assumption) (hf2:X.fn y=true∨X.env.scope.names.lookup y=some .local:=by first|exact .inl rfl|exact .inr rfl|assumption)
  (hs1:(assignEach [.Name x p2,.Name y p3] X.env).map (·.2)=assign (.Name x p2) X.env::(assignEach [.Name y p3] X.env).map (·.2):=by rfl) (hs2:(assignEach [.Name y p3] X.env).map (·.2)=assign (.Name y p3) X.env::(assignEach [] X.env).map (·.2):=by rfl)
  (hn:(assignEach [.Name x p2,.Name y p3] X.env).length=2:=by rfl) (hst:(assignEach [.Name x p2,.Name y p3] X.env).findIdx? (·.1)=none:=by rfl) :
  PGD X (.Tuple [.Name x p2,.Name y p3] kk pos) [i,j] (yu0 i j):=.mk λB d δ=>(g80 hc (ws0 (zr0 (i:=i) hN hi hx hf) (ws0 (zr0 (i:=j) hN hj hy hf2) kj0 hs2) hs1) hn hst).imp λv σ H Q ⟨δ',r,en,e1,k⟩=>by
 unfold yu0 at e1;split at e1
 ·rename_i da db
  cases e1;rw[R7] at r;obtain⟨p,xs,rfl,hq,rs⟩:=r;rw[p8] at rs;obtain⟨va,t1,rfl,ra,rs⟩:=rs;rw[p8] at rs;obtain⟨vb,t2,rfl,rb,rs⟩:=rs;rw[m5] at rs;subst rs;refine⟨p,_,rfl,hq.to,rfl,va,[vb],rfl,vb,[],rfl,rfl,k _ ?_ ((en.set i ra).set j rb)⟩;refine⟨by simp,λq hq=>?_,λq hq ds h=>?_⟩
  ·have h1:q≠i:=λz=>hq (by rw[z];exact A8)
   have h2:q≠j:=λz=>hq (by rw[z];exact A5 _ A8)
   rw[List.getElem?_set_ne (A4 h2),List.getElem?_set_ne (A4 h1),List.getElem?_set_ne (A4 h2),List.getElem?_set_ne (A4 h1)];exact⟨rfl,rfl⟩
  ·rcases get_set h with⟨rfl,e3,_⟩|⟨n1,e3⟩
   ·cases e3
   ·rcases get_set e3 with⟨rfl,e4,_⟩|⟨n2,e4⟩
    ·cases e4
    ·simp at hq
     rcases hq with z|z
     ·exact n2 z.symm
     ·exact n1 z.symm
 ·cases e1
end
end DL
namespace HT
open PyProof.Rows
section
variable{w:World}{A:Around}{s:Shared}
theorem uq0{t sl:Addr}{hi:Option Int}{Q:Value->Shared->Prop}(ht:IsTup s.heap t items)(hs:s.heap.IsSliceOf sl vl vu .none)(pl:IsPart vl lo)(pu:IsPart vu hi)
  (hw:sIx items.size 0 lo=0/\sIx items.size items.size hi=items.size) (h:Q (.ref t) s):wpAny (model prog w) A (getItem (.ref t) (.ref sl)) Q E s:=by
 obtain⟨os,O,Z,a1⟩:=id hs;have Y:s.TypeIs (.ref sl) "slice" := ⟨os,O,Z⟩;unfold getItem
 try with_reducible refine D8 ?_
 first|refine A0 (A2 ?_)|skip
 refine A0 (wpAny_sequenceKey ht.typeIs (by decide) ?_);refine A0 (W1 (name:=Str.ofString "__getitem__") ht.typeIs L7
  (X0 L7 ht.typeIs entry_tuple_getitem ?_ (args_tuple_getitem _ _)))
 show wpAny _ _ (Builtin.Tuple.tupleItemsOf (.ref t)>>=_) _ _ s;refine A0 (tupleItemsOf_ ht ?_);refine A0 (L8 Y ?_);rw[if_pos (by decide)];refine A0 (wv0 hs pl pu ?_);have J:(((sIx items.size 0 lo:Nat):Int)==0&&(1:Int)==1&&(sIx items.size items.size hi - sIx items.size 0 lo)==items.size)=true:=by
  rw[hw.1,hw.2];simp
 show wpAny _ _ (if (((sIx items.size 0 lo:Nat):Int)==0&&(1:Int)==1&&(sIx items.size items.size hi - sIx items.size 0 lo)==items.size)=true then _ else _) _ _ s;rw[if_pos J];unfold Builtin.Tuple.tupleIsExact;refine A0 (A0 (L8 ht.typeIs (A2 ?_)));rw[if_pos (by decide)];exact A0 (wpAny_rule (A2 ⟨_,rfl,A2 h⟩))
end
end HT
namespace L2
open Spec PyProof.Rows
def Wj0(K:W.Frag):V->Option Int->Option Int->Hp->VK->Prop:=λx lo hi H Q=>∃a xs,x=.ref a/\SqT K H a xs/\(HT.sIx xs.length 0 lo=0/\HT.sIx xs.length xs.length hi=xs.length)/\Q (.ref a) H
theorem av0:SlR X (Wj0 X.K):=by
 intro pins s σ H x v vl vu lo hi sl Q I rx hs pl pu h;obtain⟨a,xs,rfl,hx,hw,q⟩:=h;cases rx;obtain⟨its,r,ht,hz⟩:=I.tuple hx;have J:its.toArray.size=xs.length:=by rw[List.size_toArray];exact r.length.symm
 exact⟨"tuple",_,L7.lookup,ht.typeIs,HT.uq0 ht hs pl pu (by rw[J];exact hw) ⟨.ref a,H,I,rfl,q⟩⟩
def g90(K:W.Frag):R2:=λx y H Q=>∃a b ys,x=.ref a/\y=.ref b/\SqT K H a []/\SqT K H b ys/\Q (.ref b) H
theorem dz0:OpR X (binaryOp .Add) (g90 X.K):=by
 intro pins s σ H x y v u Q I rx ry h;obtain⟨a,b,ys,rfl,rfl,ha,hb,q⟩:=h;cases rx;cases ry;obtain⟨its,r1,p1,_⟩:=I.tuple ha;obtain⟨Z,r2,p2,_⟩:=I.tuple hb;have e:its=[]:=r1.zero;subst e;obtain⟨⟨cls,dd,data,sl⟩,ho,hc,n,hd⟩:=id p1;obtain⟨⟨a3,a1,data2,a2⟩,O,J,n2,Y⟩:=id p2;simp only at hc hd J Y;subst hc hd J Y;exact U2 ⟨_,ho,rfl⟩ ⟨_,O,rfl⟩ i7 i8 i9 j2 (j3 _ _)
  (tuple_addW0 a b _ Z.toArray n n2 dd a1 sl a2 rfl) ⟨ho,O,⟨.ref b,H,I,rfl,q⟩⟩
end L2
namespace DL
open Spec PyProof.Rows L2
section
variable{a:Expr}{ga:Ds->Option D}
theorem di0:Op2 K (λx y H Q=>rI0 (λi j=>.int (i+j)) x y H Q∨(∃i j,x=.str i/\y=.str j/\i.length+j.length<=sizeLine/\Q (.str (i++j)) H)∨c80 K x y H Q∨ch0 K x y H Q∨g90 K x y H Q) o5:=by
 intro H B x y dx dy d Q hb rx ry h k;cases dx<;>cases dy<;>simp only[o5] at h<;>try cases h
 ·rw[j8] at rx ry
  subst rx ry;exact .inl ⟨_,_,rfl,rfl,k _ H (Same.refl H) (by rw[j8])⟩
 ·split at h
  ·cases h
   rw[Y9] at rx ry;subst rx ry;exact .inr (.inl ⟨_,_,rfl,rfl,by assumption,k _ H (Same.refl H) (by rw[Y9])⟩)
  ·cases h
 ·split at h
  ·rename_i hz
   cases h;have Y:=ry;have O:=rx;rw[R7] at rx ry;obtain⟨a,xs,rfl,q1,r1⟩:=rx;obtain⟨b,ys,rfl,q2,r2⟩:=ry
   by_cases he:xs=[]
   ·subst he
    have e:‹List D›=‹List D›:=rfl;have hn:=r1.length;simp at hn;have J:=X2.mp hn.symm;subst J;exact .inr (.inr (.inr (.inr ⟨a,b,ys,rfl,rfl,q1.to,q2.to,k _ H (Same.refl H) (by rw[List.nil_append];exact Y)⟩)))
   ·refine .inr (.inr (.inr (.inl ⟨a,b,xs,ys,rfl,rfl,q1.to,q2.to,he,by rw[r1.length,r2.length];exact hz,λz=>?_,λz p hp=>k _ _ (Z1 hp) (pc0 hb hp (r1.append r2))⟩)))
    subst z;have hn:=r2.length;simp at hn;have J:=X2.mp hn.symm;subst J;exact k _ H (Same.refl H) (by rw[List.append_nil];exact O)
  ·cases h
 ·split at h
  ·rename_i hz
   cases h;rw[W4] at rx ry;obtain⟨a,xs,rfl,q1,r1⟩:=rx;obtain⟨b,ys,rfl,q2,r2⟩:=ry;exact .inr (.inr (.inl ⟨a,b,xs,ys,rfl,rfl,q1.to,q2.to,by rw[r1.length,r2.length];exact hz,λp hp=>k _ _ (Z1 hp) (pa0 hb hp (r1.append r2))⟩))
  ·cases h
theorem n6(ha:PD X a ga)(hb:PD X b gb):PD X (.BinOp a .Add b pos) (o2 ga gb o5):=vf0 (Xw0.or (iv0.or (ag0.or (bw0.or dz0)))) di0 ha hb
theorem kl0(h:Rps K H B ds xs):∀k:Nat,Rps K H B (List.replicate k ds).flatten (List.replicate k xs).flatten
 | 0=>by simp[m5]
 | k+1=>by
  rw[List.replicate_succ,List.replicate_succ,List.flatten_cons,List.flatten_cons];exact h.append (kl0 h k)
instance decMul(i j:Int):Decidable (CMul i j):=inferInstanceAs (Decidable ((-(2 ^ 64)<i/\i<2 ^ 64)∨(-(2 ^ 64)<j/\j<2 ^ 64)))
theorem R8(ha:PD X a ga)(hb:PD X b gb):PD X (.BinOp a .Mult b pos) (o2 ga gb R0):=vf0 Y10 ((show (ii λi j=>if (-(2 ^ 64)<i/\i<2 ^ 64)∨(-(2 ^ 64)<j/\j<2 ^ 64) then some (.int (i*j)) else none)=R0 from by funext x y;cases x<;>cases y<;>rfl)▸t20 (C:=CMul) (g':=λi j=>.int (i*j)) λ_ _ _ _=>by rw[j8]) ha hb
theorem fv0{xs:List D}{hi:Option Int}(h:sIx xs.length 0 lo=0/\sIx xs.length xs.length hi=xs.length):cutD xs lo hi=xs:=by
 unfold cutD;rw[h.1,h.2];simp
theorem v60{lo hi:Option Expr}{gl gh:Ds->Option (Option Int)}{p2:Pos}(he:PD X e g)(hl:PDO X lo gl)(hh:PDO X hi gh) :
  PD X (.Subscript e (.Slice lo hi none p2) pos) (y90 g gl gh):=.mk λB δ =>
 (dh0 (W80.or (bc0.or (Yj0.or av0))) (he B δ) (hl B δ) (hh B δ)).imp fun σ H Q ⟨d,en,h,k⟩=>by
  unfold y90 at h;cases e1:g δ with
  | none=>rw[e1] at h;cases h
  | some x =>
   cases e2:gl δ with
   | none=>rw[e1,e2] at h;cases h
   | some l =>
    cases e3:gh δ with
    | none=>rw[e1,e2,e3] at h;cases h
    | some u =>
     rw[e1,e2,e3] at h;simp only[Option.bind_some] at h;refine⟨x,en,e1,λv H1 s1 r1=>⟨l,en.same s1,(by first|exact e2|rfl),λH2 s2=>⟨u,(en.same s1).same s2,(by first|exact e3|rfl),λH3 s3=>?_⟩⟩⟩;have S:=(s1.trans s2).trans s3;have r3:=(r1.same s2).same s3;have hb:=(((en.same s1).same s2).same s3).bad;cases x<;>simp only[slA] at h<;>try cases h
     ·split at h
      ·cases h
       rw[Y9] at r3;exact .inl ⟨_,r3,by assumption,k _ H3 S (by rw[Y9])⟩
      ·cases h
     ·have r4:=r3
      rw[R7] at r3;obtain⟨a,xs,rfl,q,r⟩:=r3;rename_i dxs
      by_cases hw:sIx dxs.length 0 l=0/\sIx dxs.length dxs.length u=dxs.length
      ·refine .inr (.inr (.inr ⟨a,xs,rfl,q.to,by rw[r.length,vt0,vt0];exact hw,k _ _ S ?_⟩))
       rw[fv0 hw];exact r4
      ·exact .inr (.inr (.inl ⟨a,xs,rfl,q.to,by rw[r.length,vt0,vt0];exact hw,λp hp=>k _ _ (S.trans (Z1 hp)) (pc0 hb hp (kz0 r l u))⟩))
     ·rw[W4] at r3
      obtain⟨a,xs,rfl,q,r⟩:=r3;exact .inr (.inl ⟨a,xs,rfl,q.to,λp hp=>k _ _ (S.trans (Z1 hp)) (pa0 hb hp (kz0 r l u))⟩)
end
end DL
namespace DL
open Spec PyProof.Rows
theorem X7{gA:GA}(h:gA δ=some ds)(hl:ds.length<=sizeLine):Y4 gA δ=some (.tup ds):=by
 unfold Y4;rw[h,Option.bind_some,if_pos hl]
theorem yi0{gA:GA}(h:gA δ=some ds)(hl:ds.length<=sizeLine):Z6 gA δ=some (.lst ds):=by
 unfold Z6;rw[h,Option.bind_some,if_pos hl]
theorem Za0{n:Int}{d:D}(h:d∈V8 0 n):∃k:Nat,(k:Int)<n/\d=.int (k:Int):=by
 obtain⟨k,hk,rfl⟩:=B1.mp h;have:=B8.mp hk;exact⟨k,by omega,by rw[Int.zero_add]⟩
theorem bn0(f:D->α)(n:Int):(V8 0 n).map f=(List.range n.toNat).map λ(k:Nat)=>f (.int (k:Int)):=by
 unfold V8;rw[List.map_map];have:n - 0=n:=by omega
 rw[this];refine List.map_congr_left λk _=>?_
 show f (.int (0+(k:Int)))=_;rw[Int.zero_add]
theorem yc0(n:Int):(V8 0 n).length=n.toNat:=by unfold V8;simp
theorem yb0{gt:GB}{ge:GE}{n:Int}(h:Nat->D)(H:∀k:Nat,(k:Int)<n->∃δ',gN 0 (.int (k:Int)) δ=some δ'/\gt δ'=some true/\ge δ'=some (h k)) :
  V3 (gN 0) gt ge δ (V8 0 n)=some ((List.range n.toNat).map h):=by
 rw[G8 (λd=>match d with|.int j=>h j.toNat|_=>.non) (λd hd=>by
  obtain⟨k,hk,rfl⟩:=Za0 hd;exact H k hk),bn0]
 rfl
end DL
namespace DL
open Spec PyProof.Rows L2
section
variable{a:Expr}{ga:Ds->Option D}
theorem ms0(hm:X.mg x=none)(hv:bootBuiltins x=some (.type "list"))(ha:PD X e g)(hg:Gl X x:=by rfl)
  (hn:x ≠"__name__" := by decide) (hdb:(x==("__debug__" : Str))=false:=by decide) (he:starEach [e] X.env=(false,eval e X.env)::starEach [] X.env:=by rfl) (hpl:(backTo pos (starEach [] X.env)).any (·.1)=false:=by rfl) :
  PDF X (.Call (.Name x p) [e] [] pos) (oA (z7 g v4) q00):=.mk λB δ=>(th0 m90 hg hm hv (Q5 (ha B δ) zm0 he) hn hdb he hpl).imp fun σ H Q ⟨d,en,h,k⟩=>by
 unfold oA z7 v4 at h;cases e1:g δ with
 | none=>rw[e1] at h;cases h
 | some x =>
  rw[e1] at h;simp only[Option.bind_some,Option.map_some] at h;refine⟨x,en,e1,λv H1 s1 r1=>?_⟩;cases x<;>simp only[q00] at h<;>try cases h
  ·rw[R7] at r1
   obtain⟨q,xs,rfl,hq,rr⟩:=r1;exact⟨q,xs,rfl,.inr hq.to,λl hl=>k l _ (s1.free hl) (s1.trans (Z1 hl)) ⟨_,j6,rr.mono (Gr.fresh hl)⟩⟩
  ·rw[W4] at r1
   obtain⟨q,xs,rfl,hq,rr⟩:=r1;exact⟨q,xs,rfl,.inl hq.to,λl hl=>k l _ (s1.free hl) (s1.trans (Z1 hl)) ⟨_,j6,rr.mono (Gr.fresh hl)⟩⟩
end
def FnN(P:Program)(w:World)(K:W.Frag)(mg:Str->Option Value)(base:Heap)(x:Str)(k:Nat)(ps:List Str)(f:List D->Option D):Prop :=
 ∃(fa:Addr) (fd:FuncData),FnOk P w K mg base CX0 k fa fd ps (spN K f)/\mg x=some (.ref fa)/\W.keepIn K (.ref fa)=true/\Binds K fd ps []
theorem vq0{k m:Nat}{ps:List Str}{f:List D->Option D}(C:FnN X.prog X.w X.K X.mg X.base x k ps f)(hr:Room m X.A)(hk:k<=m)(ha:PDA X (e::es) gA)(hg:Gl X x:=by rfl)(hdb:(x==("__debug__" : Str))=false:=by decide)
  (he:starEach (e::es) X.env=(false,eval e X.env)::starEach es X.env:=by rfl) (hpl:(backTo pos (starEach es X.env)).any (·.1)=false:=by rfl):PDF X (.Call (.Name x p) (e::es) [] pos) (oA gA f):=by
 obtain⟨fa,fd,F,hm,kp,hb⟩:=C;exact .mk λB δ=>(p80 (E:=E0) F (hr.mono hk) hg hm kp hb .nil nf0 (ha B δ) hdb he hpl).imp fun σ H Q h=>by
  obtain⟨d,en,h,k⟩:=h;unfold oA at h;cases e1:gA δ with
  | none=>rw[e1] at h;cases h
  | some ds =>
   rw[e1] at h;refine⟨ds,en,e1,λvs H1 s1 r1=>?_⟩;show spN X.K f (vs++[]) H1 Q E0;rw[List.append_nil];exact⟨B,ds,d,(en.same s1).bad,r1,h,λp H' hp s r=>k p H' (s1.free hp) (s1.trans s) r⟩
theorem P0{k m:Nat}{ps:List Str}{f:List D->Option D}(C:FnN X.prog X.w X.K X.mg X.base x k ps f)(hr:Room m X.A)(hk:k<=m)(ha:PDA X (e::es) gA)(hg:Gl X x:=by rfl)(hdb:(x==("__debug__" : Str))=false:=by decide)
  (he:starEach (e::es) X.env=(false,eval e X.env)::starEach es X.env:=by rfl) (hpl:(backTo pos (starEach es X.env)).any (·.1)=false:=by rfl):PD X (.Call (.Name x p) (e::es) [] pos) (oA gA f):=(vq0 C hr hk ha hg hdb he hpl).pd
theorem U8(h:PDF X e g):PSD X (.Return (some e) pos) (z30 g):=.mk λH₀ B₀ δ pins s σ H D I ⟨r,en,e1,k⟩=>by
 unfold z30 at e1;obtain⟨B,b1,b2,env⟩:=en.ex;cases e2:g δ with
 | none=>rw[e2] at e1;cases e1
 | some d =>
  rw[e2] at e1;cases e1;exact ll0 (h B δ) pins s σ H D I ⟨d,env,e2,λp H' hp s' r=>k p H' (en.same.free hp) (en.same.trans s') (r.mono (λo h=>h) (Gr.less λa z=>z.imp (b1 a) id)).toL⟩
theorem me0(i:Nat){px:Pos}(hN:X.N[i]?=some x:=by rfl)(hv:Vis X.env.scope x:=by first|exact Or.inl rfl|exact Or.inr (Or.inl rfl)|exact Or.inr (Or.inr rfl))(hd:(x==("__debug__" : Str))=false:=by decide)(hcd:(x==("__classdict__" : Str))=false:=by decide) :
  PSD X (.Return (some (.Name x px)) pos) (i00 i):=.mk λH₀ B₀ δ pins s σ H D I ⟨r,en,e1,k⟩=>by
 unfold i00 at e1;obtain⟨B,b1,b2,env⟩:=en.ex;split at e1
 ·rename_i d hi
  obtain⟨a,hs,hb,ro⟩:=env.at hi;cases e1;exact ll0 (zh0 (i:=i) hN hv hd hcd) pins s σ H D I ⟨_,hs,k a H (en.fr i d a hi hs) en.same (ro.mono (λo h=>h) (Gr.less λb z=>z.elim (b1 b) λq=>by rw[q];exact hb))⟩
 ·cases e1
end DL
namespace DL
@[simp] def s90:List D->Option D
 | [.lst ds,.lst es]=>some (.tup ((ds.zip es).map λp=>.tup [p.1,p.2]))
 | _=>none
@[simp] def ph0:List D->Option D
 | [.lst ds]=>some (.lst ds.reverse)
 | _=>none
def yl0(ds:List D):List D:=(List.range ds.length).map λ(k:Nat)=>.tup [.int (k:Int),ds.getD k .non]
def e40:List D->Option (List D)
 | [.lst ds]=>some (yl0 ds)
 | _=>none
def q20(gA:GA):GA:=fun δ=>(gA δ).bind e40
@[simp] def vy0:List D->Option D
 | [.dct (.inl ks) ds]=>some (.dct (.inl ks) ds)
 | _=>none
@[simp] def ik0:D->Option (List D)
 | .lst ds=>some ds
 | .tup ds=>some ds
 | _=>none
@[simp] def anyI(g:GE):GA:=fun δ=>(g δ).bind ik0
mutual
def tree:D->Bool
 | .lst _=>false
 | .dct _ _=>false
 | .fn _ _=>false
 | .tup ds=>trees ds
 | _=>true
def trees:List D->Bool
 | []=>true
 | d::ds=>tree d&&trees ds
end
def ux0(g:GE):GE:=fun δ=>(g (frz δ)).bind λd=>if tree d=true then some d else none
theorem bk0{g:GE}{d:D}(h:g (frz δ)=some d)(ht:tree d=true):ux0 g δ=some d:=by
 unfold ux0;rw[h,Option.bind_some,if_pos ht]
def ni0(g:GE)(gA:GA)(f:D->List D->Option D):GE:=fun δ=>(g δ).bind λd=>(gA δ).bind λds=>f d ds
theorem wh0{gA:GA}{n:Int}(h:gA δ=some [.int n])(h1:-(2 ^ 62)<=n)(h2:n<2 ^ 62):J1 gA δ=some (V8 0 n):=by
 unfold J1;rw[h,Option.bind_some];simp only[i80];rw[if_pos ⟨h1,h2⟩]
theorem qi0{g:GE}(h:g δ=some (.lst ds)):oA (z7 g v4) Z5 δ=some (.int (ds.length:Int)):=by
 rw[t7 (cons_of h rfl)];rfl
end DL
namespace RevL
open Spec PyProof.Rows
theorem ir0:typeLookup (.type "list_reverseiterator") "__len__"=pure none:=by rw[typeLookup_type,builtinLookup_eq_fast];kernel_rfl
theorem ed0:typeLookup (.type "list_reverseiterator") "__length_hint__"=pure (some (.builtin "list_reverseiterator.__length_hint__")):=by rw[typeLookup_type,builtinLookup_eq_fast];kernel_rfl
theorem Z50:isSubtype (.type "list_reverseiterator") (.type "list_reverseiterator")=pure true:=by rw[isSubtype_type];kernel_rfl
section
variable{w:World}{A:Around}{s:Shared}
variable{wr:List Addr}{G:Array GenState->Array GenState->Prop}{P:Nat->Value->Prop}{St:Nat->Shared->Prop}
theorem au0(W:WalksS prog w A.in1 I fp wr G n P St)(hT:∀i s,St i s->s.TypeIs (.ref I) "list_reverseiterator")(C:Addr)(res:Value)(c0:Nat)(st:St 0 s)(hC:C∉fp)(hI:I∈fp)
  (gC:s.heap.get? C=some { cls:=.type "list",data:=.seq #[] c0 })
  (hR:∀s' acc' c',Moved (C::wr) G s s'->s'.heap.get? C=some { cls:=.type "list",dict:=none,data:=.seq acc' c',slots:=#[] }->ItemsOf P acc' n->R (.ok (.ret res)) s') (hn:n<=sizeLine) :
  wpAny (model prog w) A.in1 (Builtin.List.listExtendWith (.ref C) (.ref I) res)
   (λfin s'=>match fin with|.done f=>R (.ok f) s'|.again c'=>c'.quiet=true/\codeAny (model prog w) A c' R s') (λe s'=>R (.error e) s') s:=by
 have ne:C≠I:=λe=>hC (e▸hI)
 unfold Builtin.List.listExtendWith;refine A0 (L8 (hT 0 _ st) (by
  have q1:Builtin.List.listSameRef (.ref C) (.ref I)=false:=by simp[Builtin.List.listSameRef,ne]
  have q2:(Value.type "list_reverseiterator"==Value.type "list")=false:=by decide
  have q3:(Value.type "list_reverseiterator"==Value.type "tuple")=false:=by decide
  simp only[q1,q2,q3,Bool.or_false,Bool.false_eq_true,if_false];refine A0 (W.self 0 _ _ _ st (A0 (D8 (by
   unfold Builtin.List.listLengthHint;refine A0 (P1 (hT 0 _ st) ir0 (by
    show wpAny _ A.in1 (specialOf (Value.ref I) (Str.ofString "__length_hint__")>>=_) _ _ _;refine A0 (P1 (hT 0 _ st) ed0 ?_);refine A0 (wpAny_isInstance (hT 0 _ st) Z50 ?_);rw[if_neg (by decide)];dsimp only;rw[if_pos (by decide +kernel),if_neg (by decide)];refine A2 ?_;rw[if_neg (by decide +kernel)];refine A2 ⟨P4 PySem.F.plain_extend_loop _,?_⟩;exact codeAny_extend_loopS W hn _ hC _ n 0 _ _ _ rfl (C0 _) st gC (ItemsOf.nil P) λs' acc' c' m e J=>hR s' acc' c' m e J))))))))
theorem c10(W:WalksS prog w A.in1 I fp wr G n P St)(hT:∀i s,St i s->s.TypeIs (.ref I) "list_reverseiterator")(C:Addr)(st:St 0 s)(hC:C∉fp)(hI:I∈fp)
  (gC:s.heap.get? C=some { cls:=.type "list",data:=.seq #[] })
  (hR:∀s' acc' c',Moved (C::wr) G s s'->s'.heap.get? C=some { cls:=.type "list",dict:=none,data:=.seq acc' c',slots:=#[] }->ItemsOf P acc' n->R (.ok (.ret .none)) s') (hn:n<=sizeLine) :
  wpAny (model prog w) A.in1 (Builtin.«list.__init__» ⟨[.ref C,.ref I],[]⟩)
   (λfin s'=>match fin with|.done f=>R (.ok f) s'|.again c'=>c'.quiet=true/\codeAny (model prog w) A c' R s') (λe s'=>R (.error e) s') s:=by
 show wpAny _ A.in1 (do let old ← Builtin.List.listItems (.ref C);Builtin.List.listUpdate (.ref C) (λ_=>#[]);letGo old.toList.reverse;Builtin.List.listExtendWith (.ref C) (.ref I) .none) _ _ s;refine A0 (by
  unfold Builtin.List.listItems;refine A0 (l9 gC rfl (A2 (by
   show wpAny _ A.in1 (updateSeq C (λ_=>#[])>>=λ_=>letGo (#[]:Array Value).toList.reverse>>=λ_=>Builtin.List.listExtendWith (.ref C) (.ref I) .none) _ _ s;have g2:=E7 (Obj.mapSeq (λ_=>(#[]:Array Value))) gC rfl;have oth:∀b o,b≠C->s.heap.get? b=some o->(s.heap.update C (Obj.mapSeq (λ_=>(#[]:Array Value)))).get? b=some o:=λb o hb e=>(E4 _ _ (A4 hb)).trans e
   refine A0 (P2 gC rfl (A0 (wpAny_letGo (au0 W hT C .none _ (W.frame 0 s _ s.toks st (A1 _) λb hb o e=>oth b o (λh=>hC (h▸hb)) e) hC hI g2 (λs' acc' c' m e J=>?_) hn))));exact hR s' acc' c' (Moved.trans W.gtrans ((Moved.refl W.grefl).then_heap (A1 _) λb o hb e=>oth b o (λh=>hb (h▸A8)) e) m) e J))))
end
section
variable{w:World}{A:Around}{s:Shared}
variable{wr:List Addr}{G:Array GenState->Array GenState->Prop}{P:Nat->Value->Prop}{St:Nat->Shared->Prop}
theorem ox0{Q:Value->Shared->Prop}(W:WalksS prog w A.in1.in1 I fp wr G n P St)(hT:∀i s,St i s->s.TypeIs (.ref I) "list_reverseiterator")(st:St 0 s)(hfp:∀b∈fp,b<s.heap.objs.size)(hI:I∈fp)
  (hQ:∀s' acc' c',Moved (s.heap.objs.size::wr) G { s with heap:=s.heap.push { cls:=.type "list",data:=.seq #[] } } s' ->
   s'.heap.get? s.heap.objs.size=some { cls:=.type "list",dict:=none,data:=.seq acc' c',slots:=#[] }->ItemsOf P acc' n->Q (.ref s.heap.objs.size) s') (hn:n<=sizeLine) :
  wpAny (model prog w) A (call (.type "list") [.ref I]) Q E s:=by
 have hC:s.heap.objs.size∉fp:=λz=>C9 _ (hfp _ z)
 refine callType_codes (Q₁:=λob s1=>ob=.ref s.heap.objs.size/\s1={ s with heap:=s.heap.push { cls:=.type "list",data:=.seq #[] } }) PySem.F.called_list (PySem.F.typeCall_list_1 _) PySem.F.entry_list_init (code_list_new _ ⟨rfl,rfl⟩) λob s1 h1=>?_
 obtain⟨rfl,rfl⟩:=h1;have gC:(s.heap.push { cls:=.type "list",data:=.seq #[] }).get? s.heap.objs.size=some { cls:=.type "list",data:=.seq #[] }:=B9 _ rfl;exact⟨⟨_,gC,rfl⟩,PySem.F.args_list_init_2 _ _,c10 W hT _ (W.frame 0 s _ s.toks st (A1 _) λb _ o e=>A7 _ e) hC hI gC (λs' acc' c' m e J=>⟨rfl,hQ s' acc' c' m e J⟩) hn⟩
theorem n00{l:Addr}{its:Array Value}{Q:Value->Shared->Prop}(hh:A.handled=none)(hl:s.heap.IsList l its)(hz:its.size<=sizeLine)
  (h:∀(h':Heap) (tk c:Nat) (a:Addr),s.heap.objs.size<=a->h'.get? a=some { cls:=.type "list",dict:=none,data:=.seq its.reverse c,slots:=#[] }->(∀b o,s.heap.get? b=some o->h'.get? b=some o)->Q (.ref a) { s with heap:=h',toks:=tk }) :
  wpAny (model prog w) A (call (.type "reversed") [.ref l]) (λv s1=>wpAny (model prog w) A (call (.type "list") [v]) Q E s1) E s:=by
 refine call_reversed_list hl ?_;obtain⟨ol,gl,_,_⟩:=id hl;have Y:l<s.heap.objs.size:=A3 gl;have a1:A.in1.in1.handled=none:=by simp[hh]
 have Wk:=(Walks.listRev (prog:=prog) (w:=w) a1 s.heap.objs.size l (A6 Y) its).toS;refine ox0 Wk (λi s x=>x.2.1.typeIs) ⟨C0 _,⟨_,B9 _ rfl,rfl,by
  show Data.fields #[.ref l,rawInt ((its.size:Int) - 1)]=_;have z:(its.size:Int) - 1 - ((0:Nat):Int)=(its.size:Int) - 1:=by omega
  rw[z]⟩,hl.push _⟩ (λb hb=>?_) (by simp) (λs' O c' m e J=>?_) hz
 ·show b<(s.heap.push _).objs.size
  rw[Heap.size_push];simp only[List.mem_cons,List.not_mem_nil,or_false] at hb;rcases hb with rfl|rfl
  ·exact l7 _
  ·exact B00 Y
 ·obtain⟨h',g',d',Z,a2⟩:=s'
  obtain rfl:g'=s.gens:=m.gens;obtain rfl:d'=s.drawn:=m.drawn;obtain rfl:a2=s.os:=m.os;have ea:O=its.reverse:=by
   apply Array.ext
   ·rw[J.1,Array.size_reverse]
   ·intro i h1 h2
    have q:its[its.size - 1 - i]?=some O[i]:=J.2 i O[i] (P5 h1);have hi:i<its.size:=by rw[← J.1];exact h1
    rw[Array.getElem?_eq_getElem (by omega)] at q;rw[Array.getElem_reverse];exact(B6 q).symm
  subst ea;have a3:(s.heap.push (revObj l ((its.size:Int) - 1))).objs.size=s.heap.objs.size+1:=Heap.size_push ..;refine h h' Z c' _ ?_ e λb o eb=>?_
  ·show s.heap.objs.size<=(s.heap.push _).objs.size
   rw[Heap.size_push];exact Nat.le_succ _
  ·have lb:=A3 eb
   refine m.heap b o ?_ (A7 _ (A7 _ eb));simp only[List.mem_cons,List.not_mem_nil,or_false,not_or];refine⟨?_,A6 lb⟩;show b≠(s.heap.push _).objs.size;rw[Heap.size_push];exact A6 (B00 lb)
end
end RevL
namespace DL
open Spec PyProof.Rows L2
theorem Rps.reverse:∀{ds:List D} {xs:List V},Rps K H B ds xs->Rps K H B ds.reverse xs.reverse
 | [],_,h=>by rw[m5] at h;subst h;simp[m5]
 | d::ds,_,h=>by
  rw[p8] at h;obtain⟨x,r,rfl,h1,h2⟩:=h;rw[List.reverse_cons,List.reverse_cons];exact Rps.snoc (Rps.reverse h2) h1
theorem k30:bootBuiltins "reversed"=some (.type "reversed"):=by decide +kernel
theorem ay0:bootBuiltins "list"=some (.type "list"):=by decide +kernel
theorem an0(hc:X.calm=true)(hl:X.mg "list"=none)(hs:X.mg "reversed"=none)(he:PE X e te)(hgl:Gl X "list" := by rfl)(hgs:Gl X "reversed" := by rfl)
  (e1:starEach [.Call (.Name "reversed" p2) [e] [] pos2] X.env=(false,eval (.Call (.Name "reversed" p2) [e] [] pos2) X.env)::starEach [] X.env:=by rfl) (e2:starEach [e] X.env=(false,eval e X.env)::starEach [] X.env:=by rfl)
  (h1:(backTo pos (starEach [] X.env)).any (·.1)=false:=by rfl) (h2:(backTo pos2 (starEach [] X.env)).any (·.1)=false:=by rfl) :
  PE X (.Call (.Name "list" p) [.Call (.Name "reversed" p2) [e] [] pos2] [] pos) (fun σ H Q=>te σ H λv H'=>∃q xs,v=.ref q/\SqL X.K H' q xs/\∀l,H' l=none->Q (.ref l) (upd H' l (.lst xs.reverse))):=by
 intro pins s σ H Q I h;refine E1 (y00 I hgl hl ay0 ?_ (by decide) (by decide));refine E8 ?_ e1 h1;rw[e1];show wpAny _ _ (spliced ((false,eval (.Call (.Name "reversed" p2) [e] [] pos2) X.env)::backTo pos (starEach [] X.env))) _ _ s;refine N2 ?_;refine E1 (y00 I hgs hs k30 ?_ (by decide) (by decide));refine E8 ?_ e2 h2;rw[e2];show wpAny _ _ (spliced ((false,eval e X.env)::backTo pos2 (starEach [] X.env))) _ _ s;refine N2 (thn (he pins s σ H _ I h) λu s1 ⟨v,H1,I1,r1,q,xs,ev,hq,k⟩=>N1 ?_);subst ev;obtain rfl:u=Value.ref q:=r1;obtain⟨its,rv,pl,hz⟩:=I1.list hq;have J:=rv.length;refine thn (RevL.n00 (I1.ok.hd hc) pl.isList (by rw[List.size_toArray,← J];exact hz) (Q:=EP X pins σ Q) (E:=X.xe) λh' tk c a ha ga hk=>?_) λv s2 hv=>N1 hv
 have hf:H1 a=none:=I1.hok.fresh ha;refine⟨.ref a,_,I1.laid (a:=a) (o:=.lst xs.reverse) (t':=tk) hk ha ?_,rfl,k a hf⟩;exact⟨by rw[List.length_reverse];exact hz,its.reverse,c,rv.reverse,by rw[ga];simp⟩
theorem ds0(hl:X.mg "list"=none)(hs:X.mg "reversed"=none)(he:PD X e g)(hc:X.calm=true:=by rfl)(hgl:Gl X "list" := by rfl)(hgs:Gl X "reversed" := by rfl)
  (e1:starEach [.Call (.Name "reversed" p2) [e] [] pos2] X.env=(false,eval (.Call (.Name "reversed" p2) [e] [] pos2) X.env)::starEach [] X.env:=by rfl) (e2:starEach [e] X.env=(false,eval e X.env)::starEach [] X.env:=by rfl)
  (h1:(backTo pos (starEach [] X.env)).any (·.1)=false:=by rfl) (h2:(backTo pos2 (starEach [] X.env)).any (·.1)=false:=by rfl) :
  PDF X (.Call (.Name "list" p) [.Call (.Name "reversed" p2) [e] [] pos2] [] pos) (oA (z7 g v4) ph0):=.mk λB δ =>
 (an0 hc hl hs (he B δ) hgl hgs e1 e2 h1 h2).imp fun σ H Q ⟨d,en,h,k⟩=>by
  unfold oA z7 v4 at h;cases e3:g δ with
  | none=>rw[e3] at h;cases h
  | some x =>
   rw[e3] at h;simp only[Option.bind_some,Option.map_some] at h;cases x<;>simp only[ph0] at h<;>try cases h
   refine⟨_,en,e3,λv H1 s1 r=>?_⟩;rw[W4] at r;obtain⟨q,xs,rfl,hq,rr⟩:=r;exact⟨q,xs,rfl,hq.to,λl hl=>k l _ (s1.free hl) (s1.trans (Z1 hl)) ⟨_,j6,rr.reverse.mono (Gr.fresh hl)⟩⟩
theorem wj0[DecidableEq κ]:∀{ks:List κ} {ds:List D} {xs:List V} {q:κ},Rps K H B ds xs->(∀d,T6 ks ds q=some d->∃x,z00 (ks.zip xs) q=some x/\Rp K H B d x)/\(ks.length=xs.length->(z00 (ks.zip xs) q).isSome=R6 ks q)
 | [],ds,xs,q,h=>by
  refine⟨λd e=>?_,λ_=>?_⟩
  ·unfold T6 at e;cases e
  ·rfl
 | k::ks,[],xs,q,h=>by
  rw[m5] at h;subst h;refine⟨λd e=>?_,λz=>?_⟩
  ·unfold T6 at e;cases e
  ·simp at z
 | k::ks,d::ds,xs,q,h=>by
  rw[p8] at h;obtain⟨x,r,rfl,h1,h2⟩:=h;obtain⟨i1,i2⟩:=wj0 (ks:=ks) (q:=q) h2
  by_cases e:k=q
  ·subst e
   refine⟨λd' e'=>?_,λ_=>?_⟩
   ·unfold T6 at e'
    rw[if_pos rfl] at e';cases e';exact⟨x,v20 rfl,h1⟩
   ·rw[List.zip_cons_cons,v20 rfl]
    unfold R6;simp
  ·refine⟨λd' e'=>?_,λz=>?_⟩
   ·unfold T6 at e'
    rw[if_neg e] at e';rw[List.zip_cons_cons,wn0 e];exact i1 d' e'
   ·rw[List.zip_cons_cons,wn0 e,i2 (by simpa using z)]
    unfold R6;simp[e]
theorem kp0[DecidableEq κ]:∀{ks:List κ} {xs:List V} {q:κ},ks.length=xs.length->((ks.zip xs).any λkv=>decide (kv.1=q))=R6 ks q
 | [],_,_,_=>rfl
 | k::ks,[],_,h=>by simp at h
 | k::ks,x::xs,q,h=>by
  rw[List.zip_cons_cons,List.any_cons,kp0 (by simpa using h)];rfl
theorem Ze0[DecidableEq κ]{ks:List κ}{q:κ}(h:ks.length=xs.length):∃ys,putK (ks.zip xs) q v=(Q0 ks q).zip ys/\(Q0 ks q).length=ys.length/\(R6 ks q=true->ys=(ks.zip xs).map λp=>if p.1=q then v else p.2)/\(R6 ks q=false->ys=xs++[v]):=by
 unfold putK Q0;rw[kp0 h];cases hk:R6 ks q with
 | true =>
  rw[if_pos rfl,if_pos rfl];refine⟨(ks.zip xs).map λp=>if p.1=q then v else p.2,?_,by simp[h],λ_=>rfl,λz=>by cases z⟩;clear hk
  induction ks generalizing xs with
  | nil=>rfl
  | cons k ks ih =>
   cases xs with
   | nil=>simp at h
   | cons x xs =>
    rw[List.zip_cons_cons,List.map_cons,List.map_cons,List.zip_cons_cons,ih (by simpa using h)]
    by_cases e:k=q<;>simp[e]
 | false =>
  rw[if_neg (by simp),if_neg (by simp)];refine⟨xs++[v],?_,by simp[h],λz=>(by cases z),λ_=>rfl⟩;rw[List.zip_append h];rfl
theorem qb0[DecidableEq κ]{q:κ}{d:D}(hv:Rp K H B d v):∀{ks:List κ} {ds:List D} {xs:List V},Rps K H B ds xs->Rps K H B ((ks.zip ds).map λp=>if p.1=q then d else p.2) ((ks.zip xs).map λp=>if p.1=q then v else p.2)
 | [],_,_,_=>by simp[m5]
 | k::ks,[],xs,h=>by rw[m5] at h;subst h;simp[m5]
 | k::ks,d'::ds,xs,h=>by
  rw[p8] at h;obtain⟨x,r,rfl,h1,h2⟩:=h;rw[List.zip_cons_cons,List.zip_cons_cons,List.map_cons,List.map_cons,p8];refine⟨_,_,rfl,?_,qb0 hv h2⟩
  by_cases e:k=q
  ·simp only[e,if_true];exact hv
  ·simp only[e,if_false];exact h1
section
variable{a:Expr}{ga:Ds->Option D}
theorem rg0{d:D}{k:T7}(h:zd0 d=some k)(r:Rp K H B d v):v=kV k:=by
 cases d<;>simp[zd0] at h
 ·subst h;rw[j8] at r;subst r;rfl
 ·subst h;rw[Y9] at r;subst r;rfl
theorem fu0:∀{ds:List D} {ks:List T7} {xs:List V},tq0 ds=some ks->Rps K H B ds xs->xs=ks.map kV
 | [],ks,xs,h,r=>by cases h;rw[m5] at r;exact r
 | d::ds,ks,xs,h,r=>by
  unfold tq0 at h;rw[p8] at r;obtain⟨x,r',rfl,h1,h2⟩:=r;cases e1:zd0 d with
  | none=>rw[e1] at h;cases h
  | some k =>
   cases e2:tq0 ds with
   | none=>rw[e1,e2] at h;cases h
   | some l =>
    rw[e1,e2] at h;cases h;rw[rg0 e1 h1,fu0 e2 h2];rfl
theorem ff0{d:D}{k:List T7}(h:vl0 d=some k)(r:Rp K H B d v):∃b,v=.ref b/\H b=some (.tup (k.map kV)):=by
 cases d<;>simp only[vl0] at h<;>try cases h
 rw[R7] at r;obtain⟨a,xs,rfl,q,rr⟩:=r;exact⟨a,rfl,by rw[← fu0 h rr];exact q.2⟩
theorem vu0(hu:X.A.units+1<cLine)(ha:PD X a ga)(hb:PD X b gb)(hs:dx0 b:=by exact λ_ _=>rfl):PD X (.Subscript a b pos) (o2 ga gb J6):=.mk λB δ=>(Z70 hu (ha B δ) (hb B δ) hs).imp fun σ H Q ⟨d,en,h,k⟩=>by
 unfold o2 at h;cases e1:ga δ with
 | none=>rw[e1] at h;cases h
 | some x =>
  cases e2:gb δ with
  | none=>rw[e1,e2] at h;cases h
  | some y =>
   rw[e1,e2] at h;simp only[Option.bind_some] at h;refine⟨x,en,e1,λv1 H1 s1 r1=>⟨y,en.same s1,e2,λv2 H2 s2 r2=>?_⟩⟩;cases x<;>simp only[J6] at h<;>try cases h
   rename_i ks ds;have r1:=r1.same s2;cases ks with
   | inl ks =>
    simp only at h;cases e3:zd0 y with
    | none=>rw[e3] at h;cases h
    | some q =>
     rw[e3] at h;simp only[Option.bind_some] at h;rw[tl0] at r1;obtain⟨p,xs,rfl,_,hp,hl,rr⟩:=r1;obtain⟨v,hv,rv⟩:=(wj0 rr).1 d h;have:=rg0 e3 r2;subst this;exact⟨p,v,rfl,by rw[← hv];exact DGet.k hp,k v H2 (s1.trans s2) rv⟩
   | inr ks =>
    simp only at h;cases e3:vl0 y with
    | none=>rw[e3] at h;cases h
    | some q =>
     rw[e3] at h;simp only[Option.bind_some] at h;rw[jc0] at r1;obtain⟨p,xs,rfl,_,hp,hl,rr⟩:=r1;obtain⟨v,hv,rv⟩:=(wj0 rr).1 d h;obtain⟨b,rfl,hb⟩:=ff0 e3 r2;exact⟨p,v,rfl,by rw[← hv];exact DGet.t hp hb,k v H2 (s1.trans s2) rv⟩
theorem mg0(hu:X.A.units+1<cLine)(ha:PD X a ga)(hb:PD X b gb)(hm:behindInMarks .NotIn b=false:=by first|rfl|with_unfolding_all rfl):PTD X (.Compare a [.NotIn] [b] pos) (ob (o2 ga gb (xz0 true))):=.mk λB δ=>(X60 (gy0 hu (ha B δ) (hb B δ)) hm).imp fun σ H Q ⟨t,en,h,k⟩=>by
 unfold ob o2 at h;cases e1:ga δ with
 | none=>rw[e1] at h;cases h
 | some x =>
  cases e2:gb δ with
  | none=>rw[e1,e2] at h;cases h
  | some y =>
   rw[e1,e2] at h;simp only[Option.bind_some] at h;refine⟨x,en,e1,λv1 H1 s1 r1=>⟨y,en.same s1,e2,λv2 H2 s2 r2=>?_⟩⟩;cases y<;>simp only[xz0] at h<;>try cases h
   rename_i ks ds;cases ks with
   | inl ks =>
    simp only at h;cases e3:zd0 x with
    | none=>rw[e3] at h;cases h
    | some q =>
     rw[e3] at h;simp only[Option.map_some,Option.bind_some,asB,Bool.true_xor] at h;cases h;rw[tl0] at r2;obtain⟨p,xs,rfl,_,hp,hl,rr⟩:=r2;have:=rg0 e3 r1;subst this;refine⟨p,_,rfl,DGet.k hp,_,rfl,?_⟩;rw[(wj0 rr).2 hl];exact k H2 (s1.trans s2)
   | inr ks =>
    simp only at h;cases e3:vl0 x with
    | none=>rw[e3] at h;cases h
    | some q =>
     rw[e3] at h;simp only[Option.map_some,Option.bind_some,asB,Bool.true_xor] at h;cases h;rw[jc0] at r2;obtain⟨p,xs,rfl,_,hp,hl,rr⟩:=r2;obtain⟨b,rfl,hb⟩:=ff0 e3 (r1.same s2);refine⟨p,_,rfl,DGet.t hp hb,_,rfl,?_⟩;rw[(wj0 rr).2 hl];exact k H2 (s1.trans s2)
theorem u20(i:Nat)(hu:X.A.units+1<cLine)(h:PD X e g)(hN:X.N[i]?=some x:=by rfl)(hv:Vis X.env.scope x:=by first|exact Or.inl rfl|exact Or.inr (Or.inl rfl)|exact Or.inr (Or.inr rfl))(hd:(x==("__debug__" : Str))=false:=by decide)(hcd:(x==("__classdict__" : Str))=false:=by decide)
  (ha:∀v,assign (.Subscript (.Name x px) e pos) X.env v=(do
   let ov ← holding [v] (eval (.Name x px) X.env)
   let iv ← holding [v,ov] (eval e X.env)
   standAt pos
   holding [v,ov,iv] (setItem ov iv v)
   release [v,ov,iv] []):=by intro _;rfl):PTG X (.Subscript (.Name x px) e pos) (putAt i g):=.mk λH₀ B₀ d δ pins s σ H v u Q I r ⟨δ',en,e1,k⟩=>by
 unfold putAt at e1;obtain⟨B,b1,b2,env,rv⟩:=en.ex;cases e2:jw0 i δ with
 | none=>rw[e2] at e1;cases e1
 | some pr =>
  cases e3:g δ with
  | none=>rw[e2,e3] at e1;cases e1
  | some dk =>
   rw[e2,e3] at e1;simp only[Option.bind_some] at e1;cases e4:zd0 dk with
   | none=>rw[e4] at e1;cases e1
   | some q =>
    rw[e4] at e1;simp only[Option.bind_some] at e1;split at e1
    ·rename_i hz
     cases e1;have hi:=Z00 e2;obtain⟨a,J,hb,xs,hx,hl,rx⟩:=env.at hi;have hl:pr.1.length=xs.length:=hl;refine Yi0 (zh0 (i:=i) hN hv hd hcd) (h B δ) (set_dict hu) ha pins s σ H v u Q I r ⟨_,J,_,env,e3,λiv H1 s1 r1=>?_⟩;have:=rg0 e4 r1;subst this;obtain⟨ys,hy,Z,Y,a1⟩:=Ze0 (q:=q) (v:=v) hl;refine⟨a,_,rfl,DPut.k (s1 _ _ hx) (by rw[List.length_zip,← hl,Nat.min_self];exact hz),?_⟩;have rr:Rps X.K H1 B (M3 pr.1 pr.2 q d) ys:=by
      unfold M3;cases hk:R6 pr.1 q with
      | true=>rw[if_pos rfl,Y hk];exact qb0 (rv.same s1) (rx.same s1)
      | false=>rw[if_neg (by simp),a1 hk];exact Rps.snoc (rx.same s1) (rv.same s1)
     rw[hy];have O:Env X.K (upd H1 a (.dK ((Q0 pr.1 q).zip ys))) B σ (δ.set i (.ow (.dct (.inl (Q0 pr.1 q)) (M3 pr.1 pr.2 q d)))):=(env.same s1).mut hi J ⟨ys,j6,Z,rr.mono (Gr.own hb)⟩;exact k _ _ (en.s.mut s1 b1 b2 hi J O)
    ·cases e1
end
section
variable{σ:St}{s:Shared}{Q:VK}{f:Addr}
theorem Z90{k:Nat}{q:Key}(hr:Room k X.A)(I:Inv X pins σ H s)(F:FnAtH H B f kvs)(ry:RelV (kV q) u)(hv:z00 kvs q=some v)(h:Q v H) :
  wpAny (model X.prog X.w) X.A (call (.ref f) [u]) (EP X pins σ Q) X.xe s:=by
 obtain⟨oF,oC,oK,fd,c,cd,p,x,y,⟨_,h1⟩,⟨h2,h3,p1,p2,p3,e1,e2,e3,e4,e5,e6,e7,e8,e9,a4,Z,Y,a1,hb⟩,⟨_,h4⟩,h5,⟨_,h6⟩,⟨vs,t,h7,h8⟩,_,h9⟩:=F;have o1:=(I.hok f _ h1).1;have o2:=(I.hok c _ h4).1;have o3:=(I.hok cd _ h6).1;refine wpAny_call (W.kla_callFunE hr.depth o1 h3 e2 e3 e1 ⟨cd,oK,vs,t,e9,o3,h7,h8⟩ ?_);rw[hb];refine A2 (wpAny_newFunctionEnv e7 (λz hz=>by rw[List.mem_singleton.mp hz];exact e5) (λh₁ a3 O=>⟨I.nolimit.fresh _ O,?_⟩) e4);have J:∀b o,s.heap.get? b=some o->h₁.get? b=some o:=λb o e=>O.extBut b o (A6 (A3 e)) (A7 _ e)
 have I1:∀t',Inv X pins σ H { s with heap:=h₁,toks:=t' }:=λt'=>I.un (Un.kept J) (I.hok.kept J)
 refine W.kla_codeExpr ?_;have hu:(X.A.deeper (newEnv fd.scope s.heap.objs.size fd.globals fd.closure (fd.qualname ++ ".<locals>.") (some f) fd.code none fd.builtins)).units+1<cLine:=by
  have:=hr.un;show X.A.units+3+1<cLine;omega
 have g:DGet H p (kV q) (some v):=by rw[← hv];exact DGet.k h9
 have hc:(newEnv fd.scope s.heap.objs.size fd.globals fd.closure (fd.qualname ++ ".<locals>.") (some f) fd.code none fd.builtins).cells.lookup x=some c:=by
  show fd.closure.lookup x=some c;rw[e8];simp
 refine j00 At0.lookup (λ_ _=>rfl) (N0 (wpAny_loadName_free e4 e6 hc ⟨oC,J _ _ o2,h5⟩ ?_ Y) Z);refine N0 (g5 e4 e5 a3 (by show List.lookup y [(y,u)]=some u;simp) ⟨sg0 (I1 _) g,?_⟩) a1;exact o40 hu (I1 _) g ry λw' s' I' a2=>⟨v,H,I',a2,h⟩
theorem FnAtH.at(I:Inv X pins σ H s)(F:FnAtH H B f kvs):W.FnAt f s.heap:=by
 obtain⟨oF,oC,oK,fd,c,cd,p,x,y,⟨_,h1⟩,⟨h2,h3,_⟩,_⟩:=F;have o1:=(I.hok f _ h1).1;obtain⟨a,b,d,e⟩:=oF;obtain rfl:d=.func fd:=h3;exact⟨a,b,fd,e,o1⟩
end
def tCL(ta tb:TE):TE:=fun σ H Q=>ta σ H λv H1=>∃f B kvs,v=.ref f/\FnAtH H1 B f kvs/\tb σ H1 λy H2=>∃B2 kvs2 q w,FnAtH H2 B2 f kvs2/\y=kV q/\z00 kvs2 q=some w/\Q w H2
section
variable{k:Nat}{ga:Ds->Option D}
theorem ea0(hr:Room k X.A)(ha:PE X (.Name x p) ta)(hb:PE X e tb)(he:starEach [e] X.env=(false,eval e X.env)::starEach [] X.env:=by rfl)(hpl:(backTo pos (starEach [] X.env)).any (·.1)=false:=by rfl) :
  PE X (.Call (.Name x p) [e] [] pos) (tCL ta tb):=by
 intro pins s σ H Q I h;refine E1 (thn (ha pins s σ H _ I h) λfv s1 ⟨v,H1,I1,rv,f,B,kvs,ev,F,h1⟩=>?_);subst ev;cases (show fv=Value.ref f from rv);refine W.callWith_F (F.at I1) (thn (Q5 hb zm0 he pos pins s1 σ H1 (λvs H2=>∃y,vs=[y]/\∃B2 J q w,FnAtH H2 B2 f J/\y=kV q/\z00 J q=some w/\Q w H2) I1 (by
  show tb σ H1 (λx H1=>ij0 σ H1 λxs H2=>_);have:(λy H2=>∃B2 J q w,FnAtH H2 B2 f J/\y=kV q/\z00 J q=some w/\Q w H2)=λx H1=>ij0 σ H1 λxs H2=>∃y,x::xs=[y]/\∃B2 J q w,FnAtH H2 B2 f J/\y=kV q/\z00 J q=some w/\Q w H2:=by
   funext x H1
   unfold ij0;simp
  rw[← this];exact h1)) λus s2 ⟨vs,H2,I2,r2,y,ey,B2,J,q,w,F2,eq,hv,hQ⟩=>⟨F2.at I2,?_⟩) he hpl
 subst ey eq;cases r2 with
 | cons ry rn =>
  cases rn;exact Z90 hr I2 F2 ry hv hQ
@[simp] def z60:D->D->Option D
 | .fn ks ds,d=>(zd0 d).bind λk=>T6 ks ds k
 | _,_=>none
theorem u50(hr:Room k X.A)(ha:PD X (.Name x p) ga)(hb:PD X e gb)(he:starEach [e] X.env=(false,eval e X.env)::starEach [] X.env:=by rfl)(hpl:(backTo pos (starEach [] X.env)).any (·.1)=false:=by rfl) :
  PD X (.Call (.Name x p) [e] [] pos) (o2 ga gb z60):=.mk λB δ=>(ea0 hr (ha B δ) (hb B δ) he hpl).imp fun σ H Q ⟨d,en,h,k⟩=>by
 unfold o2 at h;cases e1:ga δ with
 | none=>rw[e1] at h;cases h
 | some x =>
  cases e2:gb δ with
  | none=>rw[e1,e2] at h;cases h
  | some y =>
   rw[e1,e2] at h;simp only[Option.bind_some] at h;refine⟨x,en,e1,λv1 H1 s1 r1=>?_⟩;cases x<;>simp only[z60] at h<;>try cases h
   rename_i ks ds;cases e3:zd0 y with
   | none=>rw[e3] at h;cases h
   | some q =>
    rw[e3] at h;simp only[Option.bind_some] at h;rw[nk0] at r1;obtain⟨f,xs,rfl,F,l,rr⟩:=r1;refine⟨f,B,_,rfl,F,y,en.same s1,e2,λv2 H2 s2 r2=>?_⟩;obtain⟨w,hw,J⟩:=(wj0 (ks:=ks) (q:=q) (rr.same s2)).1 d h;exact⟨B,_,q,w,F.mono (Gr.same s2),rg0 e3 r2,hw,k w H2 (s1.trans s2) J⟩
end
theorem ib0{c cv:Value}:∀l:List Value,TriplesOk l->codeAmong pos (l++[rawInt pos'.line,rawInt pos'.col,c])=some cv->codeAmong pos l=some cv∨cv=c:=by
 intro l h
 fun_induction TriplesOk l with
 | case1 =>
  intro e;simp only[List.nil_append,codeAmong,rawInt] at e;split at e
  ·exact .inr (B6 e).symm
  ·cases e
 | case2 a t b u x rest ih =>
  intro e;simp only[List.cons_append,codeAmong] at e ⊢;split at e
  ·rename_i hc
   rw[if_pos hc];exact .inl e
  ·rename_i hc
   rw[if_neg hc];exact ih h e
 | case3 l h1 h2=>exact h.elim
structure LamDone(X:Cx)(H:Hp)(s:Shared)(x y:Str)(c p:Addr)(f cd:Addr)(oF oC oK:Obj)(fd:FuncData)(H2:Hp)(s':Shared):Prop where
 os:s'.os=s.os
 gens:s'.gens=s.gens
 same:Same H H2
 hok:HOk X.prog X.w H2 s'.heap
 new:∀b,H b=none->H2 b≠none->b=c∨s.heap.objs.size<=b
 keep:∀b o,H b=none->s.heap.get? b=some o->s'.heap.get? b=some o
 there:∀b o,s.heap.get? b=some o->∃o',s'.heap.get? b=some o'
 hf:H2 f=some (.frz oF (.own f))
 fn:oF.cls=.type "function"/\oF.data=.func fd/\n80 fd x y c cd
 hc:H2 c=some (.frz oC (.own c))
 cell:oC.data=.cell (some (.ref p))
 hcd:H2 cd=some (.frz oK (.own cd))
 code:∃vs t,oK.data=.fields vs/\vs[1]?=some (.str fd.qualname t)
section
variable{σ:St}{s:Shared}{Pt c f:Addr}{tp:Array Value}{oC oF:Obj}
theorem e60(I:Inv X pins σ H s)(hT:H Pt=some (.tbl tp))(kp:Heap.ExtBut Pt s.heap h')(h1:Same H H1)(hc:H1 c=none)(hf:H1 f=none)(ne:f≠c)(eC:h'.get? c=some oC)(eF:h'.get? f=some oF)
  (new:∀b u,H b=none->H1 b=some u->∃o,u=.frz o (.own b)/\h'.get? b=some o) (tab:TabOk H1 h' Pt (qOf tp)) :
  Same H (upd (upd H1 c (.frz oC (.own c))) f (.frz oF (.own f)))/\HOk X.prog X.w (upd (upd H1 c (.frz oC (.own c))) f (.frz oF (.own f))) h':=by
 have up:Same H1 (upd (upd H1 c (.frz oC (.own c))) f (.frz oF (.own f))):=λb u q=>by
  rw[o7 (V7 q hf),o7 (V7 q hc)];exact q
 refine⟨h1.trans up,λb u q=>?_⟩
 by_cases bf:b=f
 ·subst bf
  rw[j6] at q;cases q;exact⟨eF,_,eF⟩
 rw[o7 bf] at q
 by_cases bc:b=c
 ·subst bc
  rw[j6] at q;cases q;exact⟨eC,_,eC⟩
 rw[o7 bc] at q;cases e:H b with
 | none =>
  obtain⟨o,rfl,eo⟩:=new b u e q;exact⟨eo,_,eo⟩
 | some w =>
  have q2:=h1 b w e;rw[q] at q2;cases q2
  by_cases bT:b=Pt
  ·subst bT
   rw[hT] at e;cases e;obtain⟨cont,t1,t2,t3⟩:=tab;exact⟨cont,t1,t2,λpos cv z=>let ⟨c',oc,vs,tq,z1,z2,z3⟩:=t3 pos cv z;⟨c',oc,vs,tq,z1,up _ _ z2,z3⟩⟩
  ·exact(I.hok b u e).stay (λb' w J r=>kp b' w (by
    rcases J with rfl|J
    ·exact bT
    ·rintro rfl
     rw[hT] at J;cases J) r) (λb' z=>up _ _ (h1 _ _ z)) (λb' xs z=>up _ _ (h1 _ _ z)) λb' ob u' z=>up _ _ (h1 _ _ z)
end
section
variable{σ:St}{s:Shared}{lp:Arguments}{lpos p1:Pos}{Pt c p:Addr}{tp:Array Value}
theorem Y50(I:Inv X pins σ H s)(hN:X.N[i]?=some x)(hs:σ[i]?=some (some (.ref p)))(hk:X.env.kindOf x=some .cell)(hkl:X.env.scope.names.lookup x=some .cell)(hc:X.env.cells.lookup x=some c)(hcl:closureFor lsc X.env=pure [(x,c)])
  (hdef:defaultsOf lp X.env=([],[])) (hcode:X.env.code=.ref c0) (C:W.CodeHd X.base c0 Pt) (hB:X.base.BuiltinsAt X.mg Pt) (hT:H Pt=some (.tbl tp)) (hq:qOf tp=X.env.qual ++ "<lambda>")
  (hfd:∀pm ctv cd,n80 (W.kla_fn "<lambda>" (X.env.qual ++ "<lambda>") lp (.Subscript (.Name x p1) (.Name y p2) p3) lsc [(x,c)] pm (.ref cd) ctv) x y c cd) :
  wpAny (model X.prog X.w) X.A (eval (.Lambda lp (.Subscript (.Name x p1) (.Name y p2) p3) lsc lpos) X.env) (λu s'=>∃f cd oF oC oK fd H2,u=.ref f/\LamDone X H s x y c p f cd oF oC oK fd H2 s') E s:=by
 refine W.kla_eval hdef ?_;obtain⟨m,hn,hl⟩:=id I.loc;obtain⟨u,r,l⟩:=hl i x _ hN hs (.inr (.inl hkl));cases (show u=Value.ref p from r);have a8:s.heap.IsCell c (some (.ref p)):=by
  rcases l with⟨z,_⟩|⟨_,c',z1,z2⟩
  ·rw[hk] at z;cases z
  ·rw[hc] at z1
   cases z1;exact z2
 obtain⟨oC,a3,b0⟩:=a8;obtain⟨cont,e,t,cs⟩:=(show TabOk H s.heap Pt (qOf tp) from I.hok Pt _ hT);have hg:=I.mod.glob.keeps I.bk;have Z:=I.freeC x c hc;have b3:c≠Pt:=λz=>by rw[z,hT] at Z;cases Z
 have b7:mainGlobals≠Pt:=λz=>by
  obtain⟨o,es,ep,eo,_⟩:=I.mod.glob;have:=(I.bs _ _ eo).2;rw[z,hT] at this;cases this
 have a5:c<s.heap.objs.size:=A3 a3;cases hca:codeAmong lpos cont.toList with
 | none =>
  refine W.kla_makeFunction hcl I.ok.glob hg hcode (C.keeps I.bk) e t hca b7 (hB.keeps I.bk) λc' ctv h' tk hx a1 a4 b2 a6=>?_
  obtain⟨c2,oK,vs,tq,c3,c4,dK,vK⟩:=b2;cases c3;have a7:H c'=none:=I.hok.fresh a1;have J:∀b o,h'.get? b=some o->(h'.push (W.kla_obj "<lambda>" (X.env.qual ++ "<lambda>") lp (.Subscript (.Name x p1) (.Name y p2) p3) lsc [(x,c)] ((X.mg "__name__").getD .none) c' ctv)).get? b=some o:=λb o z=>A7 _ z
  have O:s.heap.objs.size<=h'.objs.size:=C3 a1 (E3 a4);have a2:H h'.objs.size=none:=I.hok.fresh O;have b1:c≠c':=A6 (A9 a5 a1);have Y:h'.objs.size≠c:=B7 (A9 a5 O);have kp:Heap.ExtBut Pt s.heap (h'.push (W.kla_obj "<lambda>" (X.env.qual ++ "<lambda>") lp (.Subscript (.Name x p1) (.Name y p2) p3) lsc [(x,c)] ((X.mg "__name__").getD .none) c' ctv)):=λb o nb z=>J _ _ (hx b o nb z)
  obtain⟨sm,ok⟩:=e60 (H1:=upd H c' (.frz oK (.own c'))) (f:=h'.objs.size) I hT kp (Z1 a7) (by rw[o7 b1];exact Z) (by rw[o7 (B7 a4)];exact a2) Y (J _ _ (hx c oC b3 a3)) (B9 _ rfl) (λb u z1 z2=>by
   by_cases bc:b=c'
   ·subst bc
    rw[j6] at z2;cases z2;exact⟨oK,rfl,J _ _ c4⟩
   ·rw[o7 bc,z1] at z2
    cases z2) ⟨_,J _ _ a6,by rw[Array.toList_append];exact TriplesOk_snoc _ _ _ _ t,λpos cv z=>by
    rw[Array.toList_append] at z;rcases ib0 _ t z with z|rfl
    ·obtain⟨c1,oc,ws,c5,z1,z2,z3⟩:=cs pos cv z
     exact⟨c1,oc,ws,c5,z1,Z1 a7 _ _ z2,z3⟩
    ·exact⟨c',oK,vs,tq,rfl,j6,dK,by rw[hq];exact vK⟩⟩
  refine⟨h'.objs.size,c',_,oC,oK,_,_,rfl,⟨rfl,rfl,sm,ok,λb z1 z2=>?_,λb o z1 z2=>kp b o (λz=>by rw[z,hT] at z1;cases z1) z2,λb o z=>?_,j6,⟨rfl,rfl,hfd _ _ _⟩,?_,b0,?_,vs,tq,dK,vK⟩⟩
  ·by_cases bf:b=h'.objs.size
   ·exact .inr (by rw[bf];exact O)
   ·rw[o7 bf] at z2
    by_cases bc:b=c
    ·exact .inl bc
    ·rw[o7 bc] at z2
     by_cases bc':b=c'
     ·exact .inr (by rw[bc'];exact a1)
     ·rw[o7 bc'] at z2
      exact absurd z1 z2
  ·by_cases bT:b=Pt
   ·subst bT
    exact⟨_,J _ _ a6⟩
   ·exact⟨o,kp b o bT z⟩
  ·rw[o7 (A4 Y),j6]
  ·rw[o7 (A6 a4),o7 (A4 b1),j6]
 | some cv =>
  obtain⟨cd,oK,vs,tq,rfl,hcd,dK,vK⟩:=cs _ _ hca;refine W.kla_makeFunctionHit hcl I.ok.glob hg hcode (C.keeps I.bk) e t hca (hB.keeps I.bk) λctv h' tk b6 O=>?_
  have a2:H h'.objs.size=none:=I.hok.fresh O;have J:∀b o,h'.get? b=some o->(h'.push { cls:=.type "function",data:=.func (W.kla_fn "<lambda>" (X.env.qual ++ "<lambda>") lp (.Subscript (.Name x p1) (.Name y p2) p3) lsc [(x,c)] ((X.mg "__name__").getD .none) (.ref cd) ctv) }).get? b=some o:=λb o z=>A7 _ z
  have kp:∀b o,s.heap.get? b=some o->_:=λb o z=>J _ _ (b6 b o z)
  have Y:h'.objs.size≠c:=B7 (A9 a5 O);have b5:cd≠c:=λz=>by rw[z,Z] at hcd;cases hcd
  have b4:cd≠h'.objs.size:=λz=>by rw[z,a2] at hcd;cases hcd
  obtain⟨sm,ok⟩:=e60 (H1:=H) (f:=h'.objs.size) I hT (λb o _ z=>kp b o z) (Same.refl H) Z a2 Y (kp c oC a3) (B9 _ rfl) (λb u z1 z2=>by rw[z1] at z2;cases z2) ⟨cont,kp _ _ e,t,cs⟩;refine⟨h'.objs.size,cd,_,oC,oK,_,_,rfl,⟨rfl,rfl,sm,ok,λb z1 z2=>?_,λb o _ z2=>kp b o z2,λb o z=>⟨o,kp b o z⟩,j6,⟨rfl,rfl,hfd _ _ _⟩,?_,b0,?_,vs,tq,dK,by rw[hq] at vK;exact vK⟩⟩
  ·by_cases bf:b=h'.objs.size
   ·exact .inr (by rw[bf];exact O)
   ·rw[o7 bf] at z2
    by_cases bc:b=c
    ·exact .inl bc
    ·rw[o7 bc] at z2
     exact absurd z1 z2
  ·rw[o7 (A4 Y),j6]
  ·rw[o7 b4,o7 b5]
   exact hcd
end
theorem og0(env:PySem.Env)(b:List Stmt):∀a:List Stmt,execs (a++b) env=(execs a env>>=λf=>match f with|.next=>execs b env|f=>pure f)
 | []=>by rw[List.nil_append,execs];simp
 | st::a=>by
  rw[List.cons_append,execs_cons,execs_cons,bind_assoc];congr 1
  funext f
  cases f<;>simp[og0 env b a]
def TQ(H:Hp)(Pt:Addr)(q:Str):Prop:=∃t ps,H Pt=some (.tbl (#[.str q t]++ps))
theorem bf0(q:Str)(t:Tok)(ps:Array Value):qOf (#[.str q t]++ps)=q:=by
 have:((#[Value.str q t]++ps)[0]?:Option Value)=some (.str q t):=by
  rw[Array.getElem?_append_left (by simp)];rfl
 unfold qOf;rw[this]
theorem TQ.same{Pt:Addr}(s:Same H H')(h:TQ H Pt q):TQ H' Pt q:=let ⟨t,ps,e⟩:=h;⟨t,ps,s _ _ e⟩
def spT(Pt:Addr)(q:Str)(sp:Sp):Sp:=λvs H Q E=>TQ H Pt q/\sp vs H Q E
structure FunL(K:W.Frag)(x qual:Str)(st:Stmt)(f:Addr)(fd:FuncData)(c0:Addr):Prop where
 ex:∃(oc:Value) (od:Option Addr) (kV doc pm:Value) (an:Option Addr) (ct:Value) (osl:Array (Option Value)),
  fd=W.fnOf x qual (W5 st) (Z2 st) (u5 st) .none kV doc pm an (.ref c0) ct/\K.lookup f=some ⟨oc,od,.func fd,osl⟩/\W.codeIn K (.ref c0) qual=true
section
variable{P:Program}{w:World}
theorem okL{x qual:Str}{st:Stmt}{init:List Stmt}{rpos lpos p1 p2 p3:Pos}{lp:Arguments}{lsc:Scope}{vn yn:Str}{fa c0 Pt:Addr}{fd:FuncData}{N ps:List Str}{k i:Nat}{f:List D->Option D}{G:Ds->Option Res}
  (F:FunL K x qual st fa fd c0) (S:FnScope N ps (u5 st)) (C:W.CodeHd base c0 Pt) (hB:base.BuiltinsAt mg Pt)
  (hst:Z2 st=init++[.Return (some (.Lambda lp (.Subscript (.Name vn p1) (.Name yn p2) p3) lsc lpos)) rpos]) (hv:(u5 st).names.lookup vn=some .cell) (hN:N[i]?=some vn)
  (hcl:∀(env:PySem.Env) (c:Addr),env.cells.lookup vn=some c->closureFor lsc env=pure [(vn,c)]) (hdef:∀env:PySem.Env,defaultsOf lp env=([],[]))
  (hfd:∀(qn:Str) (c:Addr) (pm ctv:Value) (cd:Addr),n80 (W.kla_fn "<lambda>" qn lp (.Subscript (.Name vn p1) (.Name yn p2) p3) lsc [(vn,c)] pm (.ref cd) ctv) vn yn c cd)
  (body:∀(cdv:Value) (A:Around) (outer:List PySem.Env) (s:Shared) (H:Hp) (E:XK),Room k (A.deeper (envOfC qual (u5 st) s.heap.objs.size fa cdv))->PSsD (zv0 CX0 P w K mg base N qual (u5 st) fa cdv A outer s H E).nox init G)
  (hf:∀ds d,f ds=some d->ds.length=ps.length/\∃δ ks es,G (j5 N ds)=some (.nx δ)/\δ[i]?=some (.ow (.dct (.inl ks) es))/\d=.fn ks es) :
  FnOk P w K mg base CX0 (k+1) fa fd ps (spT Pt (qual ++ ".<locals>." ++ "<lambda>") (spD K f)):=by
 obtain⟨oc,od,kV,doc,pm,an,ct,osl,rfl,lk,hcd⟩:=F.ex;have len:∀vs H Q E,spT Pt (qual ++ ".<locals>." ++ "<lambda>") (spD K f) vs H Q E->vs.length=ps.length:=λvs H Q E ⟨_,B,ds,d,_,r,h,_⟩=>by rw[r.length];exact(hf ds d h).1
 refine⟨len,λA outer s H b3 us vs Q E hr e0 hb r a1=>?_⟩;have hl:=len _ _ _ _ a1;obtain⟨a4,B,ds,d,O,rr,a5,q⟩:=a1;have KX:K.In s.heap:=e0.mod.kin.keeps λb o e=>(e0.bs b o e).1
 have a8:s.heap.NoLimit:=e0.mod.nolimit.keeps λb o e=>(e0.bs b o e).1
 have Z:∀y∈ps.zip us,(u5 st).names.lookup y.1=some .local∨((u5 st).names.lookup y.1=some .cell/\((cellsFrom (s.heap.objs.size+1) (u5 st).names []).lookup y.1).isSome=true):=λ⟨n,v⟩ hy=>by
  rcases S.par n (U1 hy).1 with q|q
  ·exact .inl q
  ·exact .inr ⟨q,i6 _ _ _ (.inl q)⟩
 refine codeAny_call_function hr.depth (KX _ _ lk) rfl S.co S.gen rfl (W.codeRec_of KX hcd) (hb _ _ _ _ ?_);refine A30 S.kind Z λenv he s1 xx=>?_
 subst he;refine⟨a8.keeps xx.toInCall.keep,codeAny_func ?_⟩;have I:Inv (zv0 CX0 P w K mg base N qual (u5 st) fa (.ref c0) A outer s H E) [] (start N vs) H s1:=oa0 S hr.hd e0 hl r xx;obtain⟨b0,δ,ks,es,hG,hδ,rfl⟩:=hf ds d a5;have en:EnvS K H B H (L2.start N vs) (j5 N ds):=by
  refine⟨Same.refl H,⟨B,λ_ z=>z,λ_ z=>.inl z,⟨?_,O,λi j a a7 es h1 _ _ _=>(U0 h1).elim⟩⟩,λi a7 a h1 _=>(U0 h1).elim,O⟩;unfold L2.start j5;rw[rr.length];exact Pd.app (J4 (N:=N) rr) (zz0 _)
 obtain⟨c,hc⟩:=sx0 (n:=s.heap.objs.size+1) hv;have run:=((body (.ref c0) A outer s H E (hr.deeper _)).go H B (j5 N ds)).nox [] s1 (start N vs) H { nx:=fun σ' H'=>EnvS K H B H' σ' δ,rt:=λ_ _=>False } I ⟨_,en,hG,fun σ' H' z=>z⟩;rw[hst,og0];refine A0 (C5 run (λfl s' hs=>?_) λe s' hs=>hs);cases fl with
 | ret u=>obtain⟨_,_,_,_,_,z⟩:=hs;exact False.elim z
 | brk=>obtain⟨_,_,_,z⟩:=hs;exact False.elim z
 | cont=>obtain⟨_,_,_,z⟩:=hs;exact False.elim z
 | next =>
  obtain⟨σ',H',J,Y⟩:=hs;obtain⟨B',b1,b2,env⟩:=Y.ex;obtain⟨p,hσ,b4,rL⟩:=env.at hδ;obtain⟨t,tp,hT⟩:=a4.same Y.same;refine wpAny_execs_cons (wpAny_Return_some (thn (Y50 (i:=i) (c:=c) (c0:=c0) (Pt:=Pt) J hN hσ hv hv hc (hcl _ _ hc) (hdef _) rfl C hB hT (bf0 _ _ _) λpm ctv cd=>hfd _ _ _ _ _) λu s2 ⟨f',cd,oF,oC,oK,a6,H2,eu,L⟩=>?_));subst eu;have sm:Same H H2:=Y.same.trans L.same;have a3:∀b o,s.heap.get? b=some o->b≠c:=λb o e z=>by
   have h1:s.heap.objs.size<=c:=E3 (xx.above vn c (E2 hc));have h2:=A3 e;rw[z] at h2;exact absurd h2 (Nat.not_lt.mpr h1)
  have nB:∀{z:Addr} {o:Obj},H2 z=some (.frz o (.own z))->¬B z:=λe z=>((O _ z).same sm).nf _ _ e
  obtain⟨xs,e1,e2,e3⟩:=(show RpO K H' B' (.dct (.inl ks) es) p from rL);have un:Un (frs outer) [] H H2 s.heap s2.heap:=by
   have jb:Un (frs outer) [] H H' s.heap s'.heap:=J.base;refine⟨λb o e n hb hx=>L.keep b o (jb.free b o e n hx) (jb.keep b o e n hb hx),λb o e n hb hx=>?_,λb o e n hx=>?_,λb o e hx=>?_,λb xs e=>L.same _ _ (jb.tups b xs e),λb o u e=>L.same _ _ (jb.frzs b o u e),λb ps e=>?_⟩
   ·obtain⟨sl,z⟩:=jb.slot b o e n hb hx
    exact⟨sl,L.keep b _ (jb.free b o e n hx) z⟩
   ·cases z:H2 b with
    | none=>rfl
    | some o' =>
     have z0:=jb.free b o e n hx;rcases L.new b z0 (by rw[z];exact λz=>nomatch z) with y|y
     ·exact absurd y (a3 b o e)
     ·have h1:s.heap.objs.size<=s'.heap.objs.size:=J.sz
      exact absurd (A9 (A3 e) (C3 h1 y)) (C9 _)
   ·obtain⟨o',z⟩:=jb.there b o e hx
    exact L.there b o' z
   ·obtain⟨a2,z⟩:=jb.tbls b ps e
    exact⟨a2,L.same _ _ z⟩
  refine⟨.ref f',H2,L.os.trans J.os,by rw[L.gens];exact J.bare,un,L.hok,rfl,q _ _ sm ?_⟩;rw[nk0];exact⟨f',xs,rfl,⟨oF,oC,oK,a6,c,cd,p,vn,yn,⟨nB L.hf,L.hf⟩,L.fn,⟨nB L.hc,L.hc⟩,L.cell,⟨nB L.hcd,L.hcd⟩,L.code,λz=>O p z (Y.fr i _ p hδ hσ),L.same _ _ e1⟩,e2,(e3.mono (Gr.less b1)).same L.same⟩
end
end DL
namespace L2
open Spec PyProof.Rows DL
theorem e00{P:Program}{w:World}{K:W.Frag}{mg mb:Str->Option Value}{CX:CXT}{k:Nat}{fa a Pt c0:Addr}{fd:FuncData}{x q:Str}{sp:Sp}{s₁:Shared}{vs:List Value}{ns:List Int}
  (KX:K.In s₁.heap) (hns:s₁.heap.Ns mainGlobals mg) (hb:s₁.heap.Ns builtinsNs mb) (hbb:∀x:Str,x ≠"__name__"->mb x=bootBuiltins x) (hlim:s₁.heap.NoLimit) (hg:s₁.gens=#[])
  (ha:s₁.heap.get? a=some { cls:=.type "list",data:=.seq vs.toArray }) (hi:IntsAre vs ns) (hl:ns.length<=sizeLine) (hr:Room k callerA)
  (hP:s₁.heap.get? Pt=some { cls:=.none,data:=.fields #[] }) (hKP:K.lookup Pt=none) (C:W.CodeHd s₁.heap c0 Pt) (hB:s₁.heap.BuiltinsAt mg Pt)
  (F:∀base:Heap,K.In base->base.Ns mainGlobals mg->W.CodeHd base c0 Pt->base.BuiltinsAt mg Pt->FnOk P w K mg base CX k fa fd [x] (spT Pt q sp)) (hbind:∀(s:Shared) (u:Value),BindsTo s fd ⟨[u],[]⟩ [(x,u)])
  (hsp:∀H:Hp,SqL K H a (ns.map V.int)->sp [.ref a] H (λv _=>v=.bl true) λ_ _ _=>False)
  (hCX:∀H e s',CX [] H s₁ (λ_ _ _=>False) e s'->False) :
  codeAny (model P w) callerA (.call (.ref fa) ⟨[.ref a],[]⟩) (λr s'=>r=.ok (.ret (.bool true))/\OldK s₁.heap s'.heap/\s'.os=s₁.os/\AllBare s'.gens) s₁:=by
 have rv:=pq0 hi;have a6:=hi.length;have a7:a≠Pt:=λz=>by rw[z,hP] at ha;cases ha
 have Z:∀H0:Hp,(∀b,H0 b=none∨(b=a/\K.lookup a=none/\∃o xs,H0 b=some (.frz o (.lst xs))/\s₁.heap.get? a=some o/\ObjOk P w H0 s₁.heap a (.lst xs)))->SqL K (upd H0 Pt (.tbl #[.str q 0])) a (ns.map V.int) ->
   codeAny (model P w) callerA (.call (.ref fa) ⟨[.ref a],[]⟩) (λr s'=>r=.ok (.ret (.bool true))/\OldK s₁.heap s'.heap/\s'.os=s₁.os/\AllBare s'.gens) s₁:=by
  intro H0 hO hS;obtain⟨H,eH⟩:∃H,H=upd H0 Pt (.tbl #[.str q 0]):=⟨_,rfl⟩;rw[← eH] at hS;have hT:H Pt=some (.tbl #[.str q 0]):=by rw[eH,j6]
  have none_of:∀{b:Addr} {o:Obj},s₁.heap.get? b=some o->o.cls≠.none->o.cls≠.type "list"->H b=none:=λ{b o} e n1 n2=>by
   have h1:b≠Pt:=λz=>by rw[z,hP] at e;cases e;exact n1 rfl
   rw[eH,o7 h1];rcases hO b with z|⟨rfl,_⟩
   ·exact z
   ·rw[ha] at e;cases e;exact absurd rfl n2
  have Y:∀{b:Addr} {o:Obj},K.lookup b=some o->H b=none:=λ{b o} e=>by
   have h1:b≠Pt:=λz=>by rw[z,hKP] at e;cases e
   rw[eH,o7 h1];rcases hO b with z|⟨rfl,z,_⟩
   ·exact z
   ·rw[z] at e;cases e
  have a2:∀{b:Addr} {o:Obj} {es:Array DictEntry} {ep:Nat},s₁.heap.get? b=some o->o.data=.dict es ep->H b=none:=λ{b o es ep} e d=>by
   have h1:b≠Pt:=λz=>by rw[z,hP] at e;cases e;cases d
   rw[eH,o7 h1];rcases hO b with z|⟨rfl,_⟩
   ·exact z
   ·rw[ha] at e;cases e
    have d':Data.seq vs.toArray _=Data.dict es ep:=d;cases d'
  have O:∀{b:Addr} {m:Str->Option Value},s₁.heap.Ns b m->(vg0 s₁.heap H).Ns b m:=λ{b m} ⟨o,es,ep,e,d,r⟩=>⟨o,es,ep,uj0 e (a2 e d),d,r⟩
  have a4:K.In (vg0 s₁.heap H):=λb o e=>uj0 (KX b o e) (Y e)
  have hM:Mod K mg (vg0 s₁.heap H):=⟨a4,O hns,⟨mb,O hb,hbb⟩,let ⟨mc,h1,h2⟩:=hlim;⟨mc,O h1,h2⟩⟩;have hok:HOk P w H s₁.heap:=λb u e=>by
   by_cases hbP:b=Pt
   ·subst hbP
    rw[hT] at e;cases e;exact⟨#[],hP,trivial,λpos cv z=>by cases z⟩
   ·rw[eH,o7 hbP] at e
    rcases hO b with z|⟨rfl,_,o,xs,z,z2,z3⟩
    ·rw[z] at e;cases e
    ·rw[z] at e
     cases e;exact⟨z2,z3⟩
  have Cb:W.CodeHd (vg0 s₁.heap H) c0 Pt:=by
   obtain⟨o,ws,a5,tf,a3,tg,a8,text,tt,e1,e2,r⟩:=C;exact⟨o,ws,a5,tf,a3,tg,a8,text,tt,uj0 e1 (none_of e1 (by rw[e2];exact λz=>nomatch z) (by rw[e2];intro z;injection z with z;exact absurd z (by decide))),e2,r⟩
  have Bb:(vg0 s₁.heap H).BuiltinsAt mg Pt:=by
   obtain⟨bm,o,b1,b2,b3,b4,b5,b6,b7⟩:=hB;exact⟨bm,o,b1,b2,b3,b4,uj0 b5 (none_of b5 (by rw[b6];exact λz=>nomatch z) (by rw[b6];intro z;injection z with z;exact absurd z (by decide))),b6,b7⟩
  have e0:Env0 P w K mg (vg0 s₁.heap H) callerA [] s₁ H:=⟨rfl,hM,λb o e=>a70 e,l0 (g60 _ _),trivial,λb hb=>absurd (show b∈([]:List Addr) from hb) (by simp),hok,.of_eq hg⟩;refine N4 ((F _ a4 (O hns) Cb Bb).run callerA [] s₁ H ⟨[.ref a],[]⟩ [.ref a] [.ref a] _ _ hr e0 (hbind s₁ (.ref a)) (.cons rfl .nil) ⟨⟨0,#[],by rw[hT];rfl⟩,hsp H hS⟩) λr s' h=>?_
  cases r with
  | error e=>exact(hCX H e s' h).elim
  | ok fl =>
   cases fl with
   | next=>exact False.elim h
   | brk=>exact False.elim h
   | cont=>exact False.elim h
   | ret u =>
    obtain⟨v,H',os,bare,un,a1,r',qv⟩:=h;have q':v=.bl true:=qv;subst q';obtain rfl:u=Value.bool true:=r';have J:∃cont,s'.heap.get? Pt=some { cls:=.none,data:=.fields cont }:=by
     obtain⟨b0,e⟩:=un.tbls Pt _ hT;obtain⟨cont,e1,_⟩:=(show TabOk H' s'.heap Pt _ from a1 Pt _ e);exact⟨cont,e1⟩
    have kept:∀b o,b≠Pt->s₁.heap.get? b=some o->s'.heap.get? b=some o:=λb o nb e=>by
     cases z:H b with
     | none=>exact un.keep b o e z (by intro y;exact absurd (show b∈([]:List Addr) from y) (by simp)) (by simp)
     | some u =>
      have z':=z;rw[eH,o7 nb] at z';rcases hO b with y|⟨rfl,_,ob,xs,y,y2,_⟩
      ·rw[y] at z';cases z'
      ·rw[y] at z'
       cases z';obtain⟨e2,_⟩:=a1 _ _ (un.frzs _ _ _ z);rw[e] at y2;cases y2;exact e2
    refine⟨rfl,⟨λb o e=>?_,λb o e=>?_⟩,os,bare⟩
    ·by_cases nb:b=Pt
     ·subst nb
      rw[hP] at e;cases e;obtain⟨cont,e1⟩:=J;exact .inr (.inl ⟨(C.tab hP).isCodeTable,rfl,#[],cont,rfl,by rw[Array.empty_append];exact e1⟩)
     ·exact .inl (kept b o nb e)
    ·by_cases nb:b=Pt
     ·subst nb
      obtain⟨cont,e1⟩:=J;exact⟨_,e1⟩
     ·exact⟨o,kept b o nb e⟩
 cases hk:K.lookup a with
 | some o =>
  have e:=KX a o hk;rw[ha] at e;cases e;exact Z (λ_=>none) (λ_=>.inl rfl) (.inr ⟨_,vs.toArray,_,hk,rfl,rfl,rfl,by rw[List.size_toArray,a6];exact hl,by simpa using rv⟩)
 | none =>
  refine Z (λb=>if b=a then some (.frz { cls:=.type "list",data:=.seq vs.toArray } (.lst (ns.map V.int))) else none) (λb=>?_) (.inl (.inr ⟨{ cls:=.type "list",data:=.seq vs.toArray },by rw[o7 a7];exact if_pos rfl⟩))
  by_cases hb:b=a
  ·exact .inr ⟨hb,hk,_,_,if_pos hb,ha,by rw[List.length_map];exact hl,vs,_,rv,ha⟩
  ·exact .inl (if_neg hb)
end L2
namespace L2
open Spec PyProof.Rows
structure FunV(K:W.Frag)(x qual:Str)(st:Stmt)(f:Addr)(fd:FuncData)(dV:Value):Prop where
 ex:∃(oc:Value) (od:Option Addr) (kV doc pm:Value) (an:Option Addr) (cdv ct:Value) (osl:Array (Option Value)),
  fd=W.fnOf x qual (W5 st) (Z2 st) (u5 st) dV kV doc pm an cdv ct/\K.lookup f=some ⟨oc,od,.func fd,osl⟩/\W.codeIn K cdv qual=true
 kp:W.keepIn K (.ref f)=true
section
variable{P:Program}{w:World}
theorem FunV.ok{f:Addr}{ps:List Str}{k:Nat}(F:FunV K x qual st f fd dV)(S:FnScope N ps (u5 st))(len:∀vs H Q E,sp vs H Q E->vs.length=ps.length)
  (hbody:∀(cdv:Value) (A:Around) (outer:List Env) (s:Shared) (H:Hp) (vs:List V) (Q:VK) (E:XK),Room k (A.deeper (envOfC qual (u5 st) s.heap.objs.size f cdv))->sp vs H Q E ->
   ∃t,PSs (zv0 CX0 P w K mg base N qual (u5 st) f cdv A outer s H E).nox (Z2 st) t/\t { nx:=λ_ H'=>Q .non H',rt:=Q } (start N vs) H):FnOk P w K mg base CX0 (k+1) f fd ps sp:=by
 obtain⟨oc,od,kV,doc,pm,an,cdv,ct,osl,rfl,lk,hcd⟩:=F.ex;refine jn0 lk hcd S len λA outer s H vs Q E hr J=>?_
 obtain⟨t,h,q⟩:=hbody cdv A outer s H vs Q E hr J;exact⟨t,h.nox,q⟩
theorem kn0{f:Addr}{kV:Value}(l:K.lookup f=some ⟨oc,od,.func (W.fnOf x qual (W5 st) (Z2 st) (u5 st) dV kV doc pm an cdv ct),osl⟩)
  (c:W.codeIn K cdv qual=true) (k:W.keepIn K (.ref f)=true):FunV K x qual st f (W.fnOf x qual (W5 st) (Z2 st) (u5 st) dV kV doc pm an cdv ct) dV:=⟨⟨oc,od,kV,doc,pm,an,cdv,ct,osl,rfl,l,c⟩,k⟩
end
end L2
namespace DL
open Spec PyProof.Rows L2
section
variable{P:Program}{w:World}
theorem U10{ps:List Str}{k:Nat}{f:List D->Option D}{G:Ds->Option Res}(F:FunV K x qual st fa fd dV)(S:FnScope N ps (u5 st))
  (body:∀(cdv:Value) (A:Around) (outer:List PySem.Env) (s:Shared) (H:Hp) (E:XK),Room k (A.deeper (envOfC qual (u5 st) s.heap.objs.size fa cdv))->PSsD (zv0 CX0 P w K mg base N qual (u5 st) fa cdv A outer s H E).nox (Z2 st) G)
  (hf:∀ds d,f ds=some d->ds.length=ps.length/\(G (j5 N ds)=some (.rt d)∨(d=.non/\∃δ,G (j5 N ds)=some (.nx δ))∨G (j5 N ds)=some (.rf d)/\isL d=false)) :
  FnOk P w K mg base CX0 (k+1) fa fd ps (spD K f):=by
 refine F.ok S (λvs H Q E ⟨B,ds,d,_,r,h,_⟩=>?_) (λcdv A outer s H vs Q E hr ⟨B,ds,d,hb,r,h,q⟩=>?_)
 ·rw[r.length];exact(hf ds d h).1
 ·refine⟨_,body cdv A outer s H E hr H B (j5 N ds),?_⟩
  have en:EnvS K H B H (L2.start N vs) (j5 N ds):=by
   refine⟨Same.refl H,⟨B,λ_ z=>z,λ_ z=>.inl z,⟨?_,hb,λi j a J es h1 _ _ _=>(U0 h1).elim⟩⟩,λi J a h1 _=>(U0 h1).elim,hb⟩;unfold L2.start j5;rw[r.length];exact Pd.app (J4 (N:=N) r) (zz0 _)
  rcases (hf ds d h).2 with e|⟨rfl,δ,e⟩|⟨e,hn⟩
  ·exact⟨_,en,e,λv H' s' r'=>q v H' s' r'⟩
  ·exact⟨_,en,e,fun σ' H' en'=>q .non H' en'.same (by rw[U4])⟩
  ·exact⟨_,en,e,λp H' hp s' r'=>q _ H' s' ((r'.toO hn).rp (λa z=>.inl z) (λz=>hb p z hp))⟩
theorem Ue0{ps:List Str}{k:Nat}{f:List D->Option D}{G:Ds->Option Res}(F:FunV K x qual st fa fd dV)(S:FnScope N ps (u5 st))
  (body:∀(cdv:Value) (A:Around) (outer:List PySem.Env) (s:Shared) (H:Hp) (E:XK),Room k (A.deeper (envOfC qual (u5 st) s.heap.objs.size fa cdv))->PSsD (zv0 CX0 P w K mg base N qual (u5 st) fa cdv A outer s H E).nox (Z2 st) G)
  (hf:∀ds d,f ds=some d->ds.length=ps.length/\G (j5 N ds)=some (.rf d)/\isL d=false) :
  FnOk P w K mg base CX0 (k+1) fa fd ps (spN K f):=by
 refine F.ok S (λvs H Q E ⟨B,ds,d,_,r,h,_⟩=>?_) (λcdv A outer s H vs Q E hr ⟨B,ds,d,hb,r,h,q⟩=>?_)
 ·rw[r.length];exact(hf ds d h).1
 ·refine⟨_,body cdv A outer s H E hr H B (j5 N ds),?_⟩
  have en:EnvS K H B H (L2.start N vs) (j5 N ds):=by
   refine⟨Same.refl H,⟨B,λ_ z=>z,λ_ z=>.inl z,⟨?_,hb,λi j a J es h1 _ _ _=>(U0 h1).elim⟩⟩,λi J a h1 _=>(U0 h1).elim,hb⟩;unfold L2.start j5;rw[r.length];exact Pd.app (J4 (N:=N) r) (zz0 _)
  exact⟨_,en,(hf ds d h).2.1,λp H' hp s' r'=>q p H' hp s' (r'.toO (hf ds d h).2.2)⟩
end
section
variable{a:Expr}{ga:Ds->Option D}
def Uk0(P:Program)(w:World)(K:W.Frag)(mg:Str->Option Value)(base:Heap)(x:Str)(k:Nat)(ps:List Str)(f:List D->Option D)(dd:List D):Prop :=
 ∃(fa:Addr) (fd:FuncData) (us:List Value) (vs:List V),FnOk P w K mg base CX0 k fa fd ps (spN K f)/\mg x=some (.ref fa)/\W.keepIn K (.ref fa)=true/\Binds K fd ps us/\Vals vs us/\∀H B,Rps K H B dd vs
def Vu0(P:Program)(w:World)(K:W.Frag)(mg:Str->Option Value)(base:Heap)(x:Str)(k:Nat)(ps:List Str)(f:List D->Option D)(dd:List D):Prop :=
 ∃(fa:Addr) (fd:FuncData) (us:List Value) (vs:List V),FnOk P w K mg base CX0 k fa fd ps (spD K f)/\mg x=some (.ref fa)/\W.keepIn K (.ref fa)=true/\Binds K fd ps us/\Vals vs us/\∀H B,Rps K H B dd vs
theorem xk0{sc scope:Scope}{elt iter tg:Expr}{ifs:List Expr}{N N':List Str}{n:Nat}{caps:List Nat}{gi:Ds->Option (List D)}{idx:List Nat}{f:D->Ds->Option Ds}{gt:Ds->Option Bool}{ge:Ds->Option D}
  (ok:CompOk sc scope N N' n caps) (hidx:∀j∈idx,j<n) (hi:PID X tg iter gi)
  (hg:∀cl s H ex,PGD (Z9 X scope cl N' s H ex) tg idx f) (ht:∀cl s H ex,PFD (Z9 X scope cl N' s H ex) ifs gt) (he:∀cl s H ex,PD (Z9 X scope cl N' s H ex) elt ge)
  (hc:X.calm=true:=by rfl) (hsc:X.env.scope=sc:=by rfl) (hN:X.N=N:=by rfl) (hs:∀x,foldedSetIterable iter X.env x=pure x:=by intro _;rfl) :
  PDF X (.ListComp elt [⟨tg,iter,ifs,0⟩] scope pos) (b8 n caps gi f gt ge):=nu0 hc hsc (hN▸ok) hidx hi hg ht he hs
theorem f00{d:D}(h:flat d=true)(r:Rp K H B d v):yx0 v=true/\∀e u,flat e=true->Rp K H B e u->eqV v u=eqF d e:=by
 cases d<;>simp[flat] at h
 ·rw[U4] at r;subst r
  refine⟨rfl,λe u he ru=>?_⟩;cases e<;>simp[flat] at he<;>simp only[U4,W3,j8,Y9] at ru<;>subst ru<;>rfl
 ·rw[W3] at r;subst r
  refine⟨rfl,λe u he ru=>?_⟩;cases e<;>simp[flat] at he<;>simp only[U4,W3,j8,Y9] at ru<;>subst ru<;>rfl
 ·rw[j8] at r;subst r
  refine⟨rfl,λe u he ru=>?_⟩;cases e<;>simp[flat] at he<;>simp only[U4,W3,j8,Y9] at ru<;>subst ru<;>rfl
 ·rw[Y9] at r;subst r
  refine⟨rfl,λe u he ru=>?_⟩;cases e<;>simp[flat] at he<;>simp only[U4,W3,j8,Y9] at ru<;>subst ru<;>rfl
theorem fg0{d:D}(h:flat d=true)(r:Rp K H B d v):∀{ds:List D} {xs:List V},ds.all flat=true->Rps K H B ds xs->xs.all yx0=true/\inV v xs=ds.any λy=>eqF y d
 | [],_,_,rs=>by rw[m5] at rs;subst rs;exact⟨rfl,rfl⟩
 | e::ds,_,ha,rs=>by
  rw[p8] at rs;obtain⟨x,t,rfl,r1,r2⟩:=rs;rw[List.all_cons,Bool.and_eq_true] at ha;obtain⟨i1,i2⟩:=fg0 h r ha.2 r2;obtain⟨f1,f2⟩:=f00 ha.1 r1;refine⟨by rw[List.all_cons,f1,i1];rfl,?_⟩;unfold inV at i2 ⊢;rw[List.any_cons,List.any_cons,f2 d v h r,i2]
theorem fm0(neg:Bool):Op2 K (rIn K neg) (w00 neg):=by
 intro H B x y dx dy d Q hb rx ry h k;have J:∀(ds:List D) (xs:List V),Rps K H B ds xs->flat dx=true/\ds.all flat=true->d=.bl (xor neg (ds.any λy=>eqF y dx))->∀p,y=.ref p->(SqL K H p xs∨SqT K H p xs)->rIn K neg x y H Q:=by
  intro ds xs rs hf hd p hp hq;obtain⟨f1,f2⟩:=fg0 hf.1 rx hf.2 rs;refine⟨p,xs,hp,hq,(f00 hf.1 rx).1,f1,k _ H (Same.refl H) ?_⟩;rw[hd,W3,f2];cases neg<;>simp
 cases dy<;>simp only[w00] at h<;>try cases h
 ·split at h
  ·rename_i hf
   have hd:=(B6 h).symm;rw[R7] at ry;obtain⟨p,xs,e,q,rs⟩:=ry;exact J _ xs rs hf hd p e (.inr q.to)
  ·cases h
 ·split at h
  ·rename_i hf
   have hd:=(B6 h).symm;rw[W4] at ry;obtain⟨p,xs,e,q,rs⟩:=ry;exact J _ xs rs hf hd p e (.inl q.to)
  ·cases h
end
theorem Z80{tg:Expr}(h:PD X e g):PID X tg e (anyI g):=.mk λB δ pins s σ H R I ⟨items,en,e1,k⟩=>by
 unfold anyI at e1;cases e2:g δ with
 | none=>rw[e2] at e1;cases e1
 | some d =>
  rw[e2] at e1;simp only[Option.bind_some] at e1;cases d<;>simp only[ik0] at e1<;>try cases e1
  ·exact(zp0 (tg:=tg) h) B δ pins s σ H R I ⟨_,en,by unfold tupI;rw[e2];rfl,k⟩
  ·exact(U9 (tg:=tg) h) B δ pins s σ H R I ⟨_,en,by unfold O9;rw[e2];rfl,k⟩
end DL
namespace ZipL
open Spec PyProof.Rows
abbrev IsZ(h:Heap)(z TI TO a:Addr)(f:Bool):Prop :=
 h.get? z=some { cls:=.type "zip",dict:=none,data:=.fields #[rawInt a,.bool f,.bool false,.ref TI,.ref TO],slots:=#[] }
section
variable{w:World}{A:Around}{s:Shared}
theorem alive{o:Obj}{Q:Option Obj->Shared->Prop}(ho:s.heap.get? a=some o)(h:Q (some o) s):wpAny (model prog w) A (loadIfAlive a) Q E s:=by
 have h':Q (s.heap.get? a) s:=by rw[ho];exact h
 exact λ_ _ _=>h'
theorem l30{TI TO:Addr}{f:Bool}{Q:Bool->Shared->Prop}(hz:IsZ s.heap z TI TO a f)(ha:s.heap.get? a=some oa)
  (hQ:∀h',IsZ h' z TI TO a true->Heap.SameBut z s.heap h'->Q false { s with heap:=h' }):wpAny (model prog w) A (Builtin.SmallTypes.ownedTupleIsFree (.ref z)) Q E s:=by
 unfold Builtin.SmallTypes.ownedTupleIsFree;refine A0 (D0 hz rfl (x:=rawInt a) rfl ?_);show wpAny _ _ (loadIfAlive ((a:Int).toNat)>>=_) _ _ _;rw[Int.toNat_natCast];refine A0 (alive ha ?_);simp only[Option.isNone_some,Bool.false_eq_true,if_false];refine A0 (D0 hz rfl (x:=.bool f) rfl ?_);cases f with
 | true =>
  rw[if_neg (show ¬((Value.bool true != Value.bool true)=true) from B5)];exact A2 (hQ _ hz (Heap.SameBut.refl _ _))
 | false =>
  rw[if_pos (show (Value.bool false != Value.bool true)=true from rfl)];exact A0 (wpAny_setField_rec hz (by simp) λh3 O J=>A2 (hQ h3 O J))
theorem dt0{TI TO i2 a:Addr}{f:Bool}{oa:Obj}{k1 k2:Nat}{xs ys:Array Value}{x y:Value}{Q:Value->Shared->Prop}(D:ZipApart z TI TO i1 i2 l1 l2)
  (hz:IsZ s.heap z TI TO a f) (ha:s.heap.get? a=some oa) (hTI:IsPair s.heap TI (.ref i1) (.ref i2))
  (h1:s.heap.IsListIter i1 l1 k1) (h2:s.heap.IsListIter i2 l2 k2) (hl1:s.heap.IsList l1 xs) (hl2:s.heap.IsList l2 ys) (hx:xs[k1]?=some x) (hy:ys[k2]?=some y)
  (hQ:∀h',IsZ h' z TI TO a true->h'.IsListIter i1 l1 (k1+1)->h'.IsListIter i2 l2 (k2+1)->IsPair h' s.heap.objs.size x y->h'.objs.size=s.heap.objs.size+1 ->
   (∀c o,c≠z->c≠i1->c≠i2->s.heap.get? c=some o->h'.get? c=some o)->Q (.ref s.heap.objs.size) { s with heap:=h' }) :
  wpAny (model prog w) A (Builtin.«zip.__next__» ⟨[.ref z],[]⟩) (λfin s'=>∃v,fin=.done (.ret v)/\Q v s') E s:=by
 show wpAny _ _ (field (.ref z) 2>>=_) _ _ _;refine A0 (D0 hz rfl (x:=.bool false) rfl ?_);show wpAny _ _ (field (.ref z) 3>>=_) _ _ _;refine A0 (D0 hz rfl (x:=.ref TI) rfl ?_);refine A0 (l9 hTI rfl ?_);show wpAny _ _ (Builtin.SmallTypes.ownedTupleIsFree (.ref z)>>=_) _ _ _;refine A0 (l30 hz ha λh₁ a5 J=>?_);simp only[Bool.false_eq_true,if_false];refine A0 ?_;simp only[List.forIn_toArray,List.forIn_cons,List.forIn_nil];refine A0 (A0 (D8 ?_));show wpAny _ _ (Builtin.SmallTypes.nextOf (.ref i1)>>=_) _ _ _;refine A0 (m3 (h1.extBut J.extBut D.i1z) (hl1.extBut J.extBut D.l1z) hx λh₂ a3 O=>A2 ?_);refine A2 ?_;refine A0 (A0 (D8 ?_));show wpAny _ _ (Builtin.SmallTypes.nextOf (.ref i2)>>=_) _ _ _;refine A0 (m3 ((h2.extBut J.extBut D.i2z).extBut O.extBut D.i12.symm) ((hl2.extBut J.extBut D.l2z).extBut O.extBut D.l2i1) hy λh₄ a1 Z=>A2 ?_);refine A2 (A2 ?_);refine A0 (wpAny_newTuple (hsz:=by show 2<=sizeLine;decide) ?_);have Y:h₄.objs.size=s.heap.objs.size:=by rw[Z.1,O.1,J.1]
 have a4:IsZ h₄ z TI TO a true:=Z.extBut _ _ D.i2z.symm (O.extBut _ _ D.i1z.symm a5);have a2:∀c o,c≠z->c≠i1->c≠i2->s.heap.get? c=some o->h₄.get? c=some o:=λc o c1 c3 c4 e=>Z.extBut _ _ c4 (O.extBut _ _ c3 (J.extBut _ _ c1 e))
 refine A2 ⟨_,rfl,?_⟩;show Q (.ref h₄.objs.size) _;have hq:=hQ (h₄.push { cls:=.type "tuple",data:=.seq #[x,y] }) (A7 _ a4) ((a3.extBut Z.extBut D.i12).at λo e=>A7 _ e) (a1.at λo e=>A7 _ e)
  (by rw[← Y];exact B9 _ rfl) (by rw[Heap.size_push,Y]) λc o c1 c3 c4 e=>A7 _ (a2 c o c1 c3 c4 e)
 rw[Y];exact hq
theorem af0{TI TO i2 a:Addr}{f:Bool}{oa:Obj}{k1 k2:Nat}{xs ys:Array Value}{Q:Fin->Shared->Prop}(hh:A.handled=none)(D:ZipApart z TI TO i1 i2 l1 l2)
  (hz:IsZ s.heap z TI TO a f) (ha:s.heap.get? a=some oa) (hTI:IsPair s.heap TI (.ref i1) (.ref i2))
  (h1:s.heap.IsListIter i1 l1 k1) (h2:s.heap.IsListIter i2 l2 k2) (hl1:s.heap.IsList l1 xs) (hl2:s.heap.IsList l2 ys) (hend:xs[k1]?=none∨ys[k2]?=none)
  (hE:∀h' e,(∀c o,c≠z->c≠i1->c≠i2->s.heap.get? c=some o->h'.get? c=some o)->(∃o,h'.get? e=some o/\o.cls=.type "StopIteration")->E (.ref e) { s with heap:=h' }) :
  wpAny (model prog w) A (Builtin.«zip.__next__» ⟨[.ref z],[]⟩) Q E s:=by
 show wpAny _ _ (field (.ref z) 2>>=_) _ _ _;refine A0 (D0 hz rfl (x:=.bool false) rfl ?_);show wpAny _ _ (field (.ref z) 3>>=_) _ _ _;refine A0 (D0 hz rfl (x:=.ref TI) rfl ?_);refine A0 (l9 hTI rfl ?_);show wpAny _ _ (Builtin.SmallTypes.ownedTupleIsFree (.ref z)>>=_) _ _ _;refine A0 (l30 hz ha λh₁ a1 J=>?_);simp only[Bool.false_eq_true,if_false];refine A0 ?_;simp only[List.forIn_toArray,List.forIn_cons,List.forIn_nil];refine A0 (A0 (D8 ?_));show wpAny _ _ (Builtin.SmallTypes.nextOf (.ref i1)>>=_) _ _ _;cases hx:xs[k1]? with
 | none =>
  refine A0 (wpAny_nextOf_list_end hh (h1.extBut J.extBut D.i1z) (hl1.extBut J.extBut D.l1z) hx λh₂ e O he=>?_);exact hE h₂ e (λc o c1 c3 _ x=>O _ _ c3 (J.extBut _ _ c1 x)) he
 | some x =>
  have hy:ys[k2]?=none:=by rcases hend with h|h;rw[hx] at h;cases h;exact h
  refine A0 (m3 (h1.extBut J.extBut D.i1z) (hl1.extBut J.extBut D.l1z) hx λh₂ Z O=>A2 ?_);refine A2 ?_;refine A0 (A0 (D8 ?_));show wpAny _ _ (Builtin.SmallTypes.nextOf (.ref i2)>>=_) _ _ _;refine A0 (wpAny_nextOf_list_end hh ((h2.extBut J.extBut D.i2z).extBut O.extBut D.i12.symm) ((hl2.extBut J.extBut D.l2z).extBut O.extBut D.l2i1) hy λh₄ e Y he=>?_);exact hE h₄ e (λc o c1 c3 c4 x=>Y _ _ c4 (O.extBut _ _ c3 (J.extBut _ _ c1 x))) he
theorem iw0{TI TO i2 a:Addr}{f:Bool}{oa:Obj}{k1 k2:Nat}{xs ys:Array Value}{x y:Value}{Q:Option Value->Shared->Prop}(D:ZipApart z TI TO i1 i2 l1 l2)
  (hz:IsZ s.heap z TI TO a f) (ha:s.heap.get? a=some oa) (hTI:IsPair s.heap TI (.ref i1) (.ref i2))
  (h1:s.heap.IsListIter i1 l1 k1) (h2:s.heap.IsListIter i2 l2 k2) (hl1:s.heap.IsList l1 xs) (hl2:s.heap.IsList l2 ys) (hx:xs[k1]?=some x) (hy:ys[k2]?=some y)
  (hQ:∀h',IsZ h' z TI TO a true->h'.IsListIter i1 l1 (k1+1)->h'.IsListIter i2 l2 (k2+1)->IsPair h' s.heap.objs.size x y->h'.objs.size=s.heap.objs.size+1 ->
   (∀c o,c≠z->c≠i1->c≠i2->s.heap.get? c=some o->h'.get? c=some o)->Q (some (.ref s.heap.objs.size)) { s with heap:=h' }) :
  wpAny (model prog w) A (pyNext (.ref z)) Q E s:=by
 have hT:s.TypeIs (.ref z) "zip" := ⟨_,hz,rfl⟩;unfold pyNext;exact A0 (wpAny_attempt (W1 (name:=Str.ofString "__next__") hT Y1
  (X0 Y1 hT F.entry_zip_next
   (dt0 D hz ha hTI h1 h2 hl1 hl2 hx hy λh' a1 a3 a4 a5 a6 a7=>A2 (hQ h' a1 a3 a4 a5 a6 a7)) (F.args_zip_next_1 _))))
theorem p30{TI TO i2 a:Addr}{f:Bool}{oa:Obj}{k1 k2:Nat}{xs ys:Array Value}{Q:Option Value->Shared->Prop}(hh:A.handled=none)(D:ZipApart z TI TO i1 i2 l1 l2)
  (hz:IsZ s.heap z TI TO a f) (ha:s.heap.get? a=some oa) (hTI:IsPair s.heap TI (.ref i1) (.ref i2))
  (h1:s.heap.IsListIter i1 l1 k1) (h2:s.heap.IsListIter i2 l2 k2) (hl1:s.heap.IsList l1 xs) (hl2:s.heap.IsList l2 ys) (hend:xs[k1]?=none∨ys[k2]?=none)
  (hQ:∀h',(∀c o,c≠z->c≠i1->c≠i2->s.heap.get? c=some o->h'.get? c=some o)->Q none { s with heap:=h' }):wpAny (model prog w) A (pyNext (.ref z)) Q E s:=by
 have hT:s.TypeIs (.ref z) "zip" := ⟨_,hz,rfl⟩;unfold pyNext;refine A0 (wpAny_attempt (W1 (name:=Str.ofString "__next__") hT Y1
  (X0 Y1 hT F.entry_zip_next (af0 hh D hz ha hTI h1 h2 hl1 hl2 hend λh' e hk he=>?_) (F.args_zip_next_1 _))))
 obtain⟨o,ho,hc⟩:=he;refine A0 (wpAny_isInstance (T := "StopIteration") (b:=true) ⟨o,ho,hc⟩ isSubtype_stop ?_);exact A2 (hQ _ hk)
end
structure ZSt(h:Heap)(z TI TO i1 i2 l1 l2 S:Addr)(xs ys:Array Value)(i:Nat):Prop where
 own:(i=0/\IsZip h z TI TO .none/\∃p q,IsPair h TO p q)∨∃a f oa,IsZ h z TI TO a f/\h.get? a=some oa/\a≠z/\a≠i1/\a≠i2/\a≠S
 hTI:IsPair h TI (.ref i1) (.ref i2)
 h1:h.IsListIter i1 l1 i
 h2:h.IsListIter i2 l2 i
 hl1:h.IsList l1 xs
 hl2:h.IsList l2 ys
structure ZLow(z TI TO i1 i2 l1 l2 S:Addr):Prop where
 z:z<S
 TI:TI<S
 TO:TO<S
 i1:i1<S
 i2:i2<S
 l1:l1<S
 l2:l2<S
structure ZG(xs ys:Array Value)(S:Addr)(h:Heap)(as:List Addr):Prop where
 rise:as.Pairwise (·<·)
 above:∀a∈as,S<a
 pairs:∀(j:Nat) (a:Addr),as[j]?=some a->∃x y,xs[j]?=some x/\ys[j]?=some y/\IsPair h a x y
section
variable{w:World}{A:Around}{s:Shared}{TI TO i2 S:Addr}{xs:Array Value}{h:Heap}
theorem ZG.there{as:List Addr}(g:ZG xs ys S h as)(ha:a∈as):a<h.objs.size:=by
 obtain⟨j,hj⟩:=List.mem_iff_getElem?.mp ha;obtain⟨_,_,_,_,e⟩:=g.pairs j a hj;exact A3 e
theorem ZSt.keep(x:ZSt h z TI TO i1 i2 l1 l2 S xs ys i)(L:ZLow z TI TO i1 i2 l1 l2 S)(hk:∀b o,b≠S->h.get? b=some o->h'.get? b=some o):ZSt h' z TI TO i1 i2 l1 l2 S xs ys i:=by
 refine⟨?_,hk _ _ (A6 L.TI) x.hTI,x.h1.at λo e=>hk _ o (A6 L.i1) e,x.h2.at λo e=>hk _ o (A6 L.i2) e,x.hl1.at λo e=>hk _ o (A6 L.l1) e,x.hl2.at λo e=>hk _ o (A6 L.l2) e⟩;rcases x.own with⟨e,hz,p,q,hp⟩|⟨a,f,oa,hz,ha,n1,n2,n3,n4⟩
 ·exact .inl ⟨e,hk _ _ (A6 L.z) hz,p,q,hk _ _ (A6 L.TO) hp⟩
 ·exact .inr ⟨a,f,oa,hk _ _ (A6 L.z) hz,hk _ _ n4 ha,n1,n2,n3,n4⟩
theorem Wd0{x y:Value}{Q:Option Value->Shared->Prop}(D:ZipApart z TI TO i1 i2 l1 l2)(st:ZSt s.heap z TI TO i1 i2 l1 l2 S xs ys i)(hS:S<s.heap.objs.size)(hx:xs[i]?=some x)(hy:ys[i]?=some y)
  (hQ:∀h',ZSt h' z TI TO i1 i2 l1 l2 S xs ys (i+1)->IsPair h' s.heap.objs.size x y->(∀c o,c≠z->c≠TO->c≠i1->c≠i2->s.heap.get? c=some o->h'.get? c=some o)->Q (some (.ref s.heap.objs.size)) { s with heap:=h' }) :
  wpAny (model prog w) A (pyNext (.ref z)) Q E s:=by
 obtain⟨o1,e1,_⟩:=id st.h1;obtain⟨o2,e2,_⟩:=id st.h2;rcases st.own with⟨rfl,hz,p,q,hp⟩|⟨a,f,oa,hz,ha,n1,n2,n3,n4⟩
 ·refine wpAny_pyNext_zip_item D hz st.hTI hp st.h1 st.h2 st.hl1 st.hl2 hx hy λh' a1 a2 a3 a4 a5 a6 hk=>hQ h' ⟨.inr ⟨_,false,_,a1,a5,B7 (A3 hz),B7 (A3 e1),B7 (A3 e2),B7 hS⟩,hk _ _ D.TIz D.TITO D.TIi1 D.TIi2 st.hTI,a3,a4,
   st.hl1.at λo e=>hk _ o D.l1z D.l1TO D.l1i1 D.l1i2 e,st.hl2.at λo e=>hk _ o D.l2z D.l2TO D.l2i1 D.l2i2 e⟩ a5 hk
 ·refine iw0 D hz ha st.hTI st.h1 st.h2 st.hl1 st.hl2 hx hy λh' a1 a3 a4 a5 a6 hk=>hQ h' ⟨.inr ⟨a,true,oa,a1,hk _ _ n1 n2 n3 ha,n1,n2,n3,n4⟩,hk _ _ D.TIz D.TIi1 D.TIi2 st.hTI,a3,a4,
   st.hl1.at λo e=>hk _ o D.l1z D.l1i1 D.l1i2 e,st.hl2.at λo e=>hk _ o D.l2z D.l2i1 D.l2i2 e⟩ a5 λc o c1 _ c3 c4 e=>hk c o c1 c3 c4 e
theorem Vg0{Q:Option Value->Shared->Prop}(hh:A.handled=none)(D:ZipApart z TI TO i1 i2 l1 l2)(st:ZSt s.heap z TI TO i1 i2 l1 l2 S xs ys i)(hend:xs[i]?=none∨ys[i]?=none)
  (hQ:∀h',(∀c o,c≠z->c≠TO->c≠i1->c≠i2->s.heap.get? c=some o->h'.get? c=some o)->Q none { s with heap:=h' }):wpAny (model prog w) A (pyNext (.ref z)) Q E s:=by
 rcases st.own with⟨rfl,hz,p,q,hp⟩|⟨a,f,oa,hz,ha,n1,n2,n3,n4⟩
 ·exact wpAny_pyNext_zip_end hh D hz st.hTI hp st.h1 st.h2 st.hl1 st.hl2 hend hQ
 ·exact p30 hh D hz ha st.hTI st.h1 st.h2 st.hl1 st.hl2 hend λh' hk=>hQ h' λc o c1 _ c3 c4 e=>hk c o c1 c3 c4 e
end
section
variable{w:World}{A:Around}{s:Shared}{TI TO i2 S lo:Addr}{xs:Array Value}{h₁:Heap}
theorem Wy0(hh:A.handled=none)(D:ZipApart z TI TO i1 i2 l1 l2)(L:ZLow z TI TO i1 i2 l1 l2 S)(hlo:lo<=z/\lo<=TO/\lo<=i1/\lo<=i2)(hn:min xs.size ys.size<=sizeLine)(res:Value)
  (hR:∀h' tk acc c as,(∀b o,b<lo->h₁.get? b=some o->h'.get? b=some o)->h'.get? S=some { cls:=.type "list",dict:=none,data:=.seq acc c,slots:=#[] }->as.length=min xs.size ys.size->ZG xs ys S h' as ->
   acc.toList=as.map Value.ref->R (.ok (.ret res)) { s with heap:=h',toks:=tk }) :
  ∀(k i:Nat) (h:Heap) (tk c:Nat) (acc:Array Value) (as:List Addr),min xs.size ys.size - i=k->i<=min xs.size ys.size->ZSt h z TI TO i1 i2 l1 l2 S xs ys i->(∀b o,b<lo->h₁.get? b=some o->h.get? b=some o) ->
   h.get? S=some { cls:=.type "list",dict:=none,data:=.seq acc c,slots:=#[] }->acc.toList=as.map Value.ref->as.length=i->ZG xs ys S h as ->
   codeAny (model prog w) A (.builtin "list.extend.loop" ⟨[.ref S,.ref z,res],[]⟩) R { s with heap:=h,toks:=tk }:=by
 have b4:=hlo.1;have b3:lo<S:=O0 hlo.1 L.z;have lk:∀(h h':Heap),(∀c o,c≠z->c≠TO->c≠i1->c≠i2->h.get? c=some o->h'.get? c=some o)->∀b o,b<lo->h.get? b=some o->h'.get? b=some o:=λh h' hk b o hb e =>
  hk b o (A6 (A9 hb hlo.1)) (A6 (A9 hb hlo.2.1)) (A6 (A9 hb hlo.2.2.1)) (A6 (A9 hb hlo.2.2.2)) e
 have a1:∀(h h':Heap),(∀c o,c≠z->c≠TO->c≠i1->c≠i2->h.get? c=some o->h'.get? c=some o)->∀b o,S<=b->h.get? b=some o->h'.get? b=some o:=λh h' hk b o hb e =>
  hk b o (B7 (A9 L.z hb)) (B7 (A9 L.TO hb)) (B7 (A9 L.i1 hb)) (B7 (A9 L.i2 hb)) e
 intro k
 induction k with
 | zero =>
  intro i h tk c acc as hk hi a3 O hS J Y hG;have b2:xs[i]?=none∨ys[i]?=none:=by
   rcases Nat.le_total xs.size ys.size with q|q
   ·exact .inl (B50 (by omega))
   ·exact .inr (B50 (by omega))
  refine I0 F.entry_extend_loop ?_;rw[Around.under_plainId Y2 _];show wpAny _ A.in1 (pyNext (.ref z)>>=_) _ _ _;refine A0 (Vg0 (s:={ s with heap:=h,toks:=tk }) (A:=A.in1) hh D a3 b2 λh' he=>?_);refine A2 (hR h' tk acc c as (λb o h1 e=>lk h h' he b o h1 (O b o h1 e)) (a1 h h' he S _ (A1 _) hS) (by omega) ⟨hG.rise,hG.above,λj a hj=>?_⟩ J);obtain⟨x,y,e1,e2,e3⟩:=hG.pairs j a hj;exact⟨x,y,e1,e2,a1 h h' he a _ (E3 (hG.above a (D5 hj))) e3⟩
 | succ k ih =>
  intro i h tk c acc as hk hi a3 O hS J Y hG;have a2:i<min xs.size ys.size:=by omega
  have b0:i<xs.size:=A9 a2 (Nat.min_le_left ..);have a7:i<ys.size:=A9 a2 (A50 ..);have a8:acc.size=i:=by rw[← Array.length_toList,J,List.length_map,Y]
  have a4:S<h.objs.size:=A3 hS;refine I0 F.entry_extend_loop ?_;rw[Around.under_plainId Y2 _];show wpAny _ A.in1 (pyNext (.ref z)>>=_) _ _ _;refine A0 (Wd0 (s:={ s with heap:=h,toks:=tk }) D a3 a4 (P5 b0) (P5 a7) λh' b1 ht Z=>?_);dsimp only at ht Z ⊢;have a6:=a1 h h' Z S _ (A1 _) hS;have up:∀b o,b≠S->h'.get? b=some o->(h'.update S (Obj.mapSeq (·.push (Value.ref h.objs.size)))).get? b=some o:=λb o hb e=>(E4 _ _ (A4 hb)).trans e
  show wpAny _ A.in1 (updateSeq S (·.push (Value.ref h.objs.size))>>=_) _ _ _;refine A0 ?_;refine P2 a6 rfl (A2 ⟨P4 Y2 _,ih (i+1) _ tk _ (acc.push (Value.ref h.objs.size)) (as++[h.objs.size]) (by omega) a2 (b1.keep L up)
   (λb o h1 e=>up b o (A6 (G0 h1 b3)) (lk h h' Z b o h1 (O b o h1 e))) (E7 _ a6 rfl) (by rw[Array.toList_push,J,List.map_append];rfl) (by rw[List.length_append,Y];rfl) ⟨?_,?_,?_⟩⟩) (by rw[a8];omega) (by show (acc.push (Value.ref h.objs.size)).size<=sizeLine+1;rw[Array.size_push,a8];omega)
  ·refine List.pairwise_append.mpr ⟨hG.rise,List.pairwise_singleton _ _,λa ha b hb=>?_⟩
   rw[List.mem_singleton.mp hb];exact hG.there ha
  ·intro a ha
   rcases B4.mp ha with ha|ha
   ·exact hG.above a ha
   ·rw[List.mem_singleton.mp ha];exact a4
  ·intro j b hj
   rcases Nat.lt_trichotomy j as.length with h1|h1|h1
   ·rw[List.getElem?_append_left h1] at hj
    obtain⟨x',y',e1,e2,e3⟩:=hG.pairs j b hj;have hb:=hG.above b (D5 hj);exact⟨x',y',e1,e2,up b _ (B7 hb) (a1 h h' Z b _ (E3 hb) e3)⟩
   ·subst h1
    have hb:h.objs.size=b:=by simpa using hj
    subst hb;exact⟨_,_,by rw[Y];exact P5 b0,by rw[Y];exact P5 a7,up _ _ (B7 a4) ht⟩
   ·have a5:(as++[h.objs.size])[j]?=none:=List.getElem?_eq_none (by rw[List.length_append,List.length_singleton];omega)
    rw[a5] at hj;cases hj
end
theorem ih0:typeLookup (.type "zip") "__len__"=pure none:=by rw[typeLookup_type,builtinLookup_eq_fast];kernel_rfl
theorem ke0:typeLookup (.type "zip") "__length_hint__"=pure none:=by rw[typeLookup_type,builtinLookup_eq_fast];kernel_rfl
section
variable{w:World}{A:Around}{s:Shared}{TI TO i2 lo:Addr}{xs:Array Value}
def Xo0(xs ys:Array Value)(lo:Addr)(s:Shared)(h':Heap)(as:List Addr):Prop :=
 (∀b o,b<lo->s.heap.get? b=some o->h'.get? b=some o)/\as.length=min xs.size ys.size/\ZG xs ys s.heap.objs.size h' as
theorem ly0{Q:List Value->Shared->Prop}(hh:A.handled=none)(D:ZipApart z TI TO i1 i2 l1 l2)(hlo:lo<=z/\lo<=TO/\lo<=i1/\lo<=i2)
  (st:∀S,S≠z->S≠i1->S≠i2->ZSt s.heap z TI TO i1 i2 l1 l2 S xs ys 0) (hn:min xs.size ys.size<=sizeLine) (L:ZLow z TI TO i1 i2 l1 l2 s.heap.objs.size)
  (hT:s.TypeIs (.ref z) "zip") (hI:∃f0,IsZip s.heap z TI TO f0)
  (hQ:∀h' tk as,Xo0 xs ys lo s h' as->s.heap.objs.size<h'.objs.size->Q (as.map Value.ref) { s with heap:=h',toks:=tk }):wpAny (model prog w) A (collect (.ref z)) Q E s:=by
 have Z:s.heap.objs.size≠z:=B7 L.z;obtain⟨f0,hI⟩:=hI;unfold collect;refine A0 (wpAny_runValue (I0 F.entry_proto_collect ?_));rw[Around.under_plainId F.plain_proto_collect _];show wpAny _ A.in1 (newList []>>=λl=>again (.builtin "list.__iadd__" ⟨[l,.ref z],[]⟩)) _ _ s;refine A0 (E9 ?_);refine A2 ⟨P4 F.plain_list_iadd _,I0 F.entry_list_iadd ?_⟩;rw[Around.under_plainId F.plain_list_iadd _];have Y:(s.heap.push { cls:=.type "list",data:=.seq ([]:List Value).toArray }).get? s.heap.objs.size=some { cls:=.type "list",data:=.seq ([]:List Value).toArray }:=B9 _ rfl;have a2:=A7 { cls:=.type "list",data:=.seq ([]:List Value).toArray } hI;have J:Shared.TypeIs { s with heap:=s.heap.push { cls:=.type "list",data:=.seq ([]:List Value).toArray } } (.ref z) "zip" := ⟨_,a2,rfl⟩;show wpAny _ A.in1 (Builtin.List.listExtendWith (.ref s.heap.objs.size) (.ref z) (.ref s.heap.objs.size)) _ _ _;unfold Builtin.List.listExtendWith;refine A0 (L8 J ?_);have h1:Builtin.List.listSameRef (.ref s.heap.objs.size) (.ref z)=false:=by simp[Builtin.List.listSameRef,Z]
 have h2:(Value.type "zip"==Value.type "list")=false:=by decide
 have h3:(Value.type "zip"==Value.type "tuple")=false:=by decide
 simp only[h1,h2,h3,Bool.or_false,Bool.false_eq_true,if_false];refine A0 (wpAny_pyIter_zip (s:={ s with heap:=s.heap.push { cls:=.type "list",data:=.seq ([]:List Value).toArray } }) a2 ?_);refine A0 (D8 ?_);unfold Builtin.List.listLengthHint;refine A0 (P1 J ih0 ?_);show wpAny _ A.in1 (specialOf (Value.ref z) (Str.ofString "__length_hint__")>>=_) _ _ _;refine A0 (P1 J ke0 ?_);refine A2 ?_;show wpAny _ A.in1 (rule "list.extend.makes-room">>=λ_=>Builtin.List.listTouch (.ref s.heap.objs.size)>>=λ_ =>
  again (.builtin "list.extend.loop" ⟨[.ref s.heap.objs.size,.ref z,.ref s.heap.objs.size],[]⟩)) _ _ _
 refine A0 (wpAny_rule ?_);refine A0 ?_;show wpAny _ A.in1 (updateSeq s.heap.objs.size (·.push .none)>>=λ_=>updateSeq s.heap.objs.size (·.pop)) _ _ _;refine A0 (P2 Y rfl ?_);have a1:=E7 (Obj.mapSeq (·.push Value.none)) Y rfl;refine P2 a1 rfl ?_;have a4:=E7 (Obj.mapSeq (·.pop)) a1 rfl;have oth:∀b o,b≠s.heap.objs.size->s.heap.get? b=some o ->
   (((s.heap.push { cls:=.type "list",data:=.seq ([]:List Value).toArray }).update s.heap.objs.size (Obj.mapSeq (·.push Value.none))).update s.heap.objs.size (Obj.mapSeq (·.pop))).get? b=some o :=
  λb o hb e=>(E4 _ _ (A4 hb)).trans ((E4 _ _ (A4 hb)).trans (A7 _ e))
 refine A2 ⟨P4 Y2 _,Wy0 (s:=s) (lo:=lo) (h₁:=s.heap) hh D L hlo hn _ (λh' tk a5 c as hk O hl hG a3=>?_) _ 0 _ s.toks _ #[] [] rfl (C0 _)
  ((st _ Z (B7 L.i1) (B7 L.i2)).keep L oth) (λb o hb e=>oth b o (A6 (A3 e)) e) a4 rfl rfl ⟨List.Pairwise.nil,(λ_ ha=>nomatch ha),(λj a hj=>by simp at hj)⟩⟩
 show wpAny _ A (load s.heap.objs.size>>=_) _ _ _;refine A0 (wpAny_load O ?_);refine A2 ?_;have:=hQ h' tk as ⟨hk,hl,hG⟩ (A3 O);rw[← a3] at this;exact this
end
section
variable{w:World}{A:Around}{s:Shared}{TI TO i2 lo:Addr}{xs:Array Value}
theorem t30{Q₁:Value->Shared->Prop}(hh:A.handled=none)(D:ZipApart z TI TO i1 i2 l1 l2)(hlo:lo<=z/\lo<=TO/\lo<=i1/\lo<=i2)
  (st:∀S,S≠z->S≠i1->S≠i2->ZSt s.heap z TI TO i1 i2 l1 l2 S xs ys 0) (hn:min xs.size ys.size<=sizeLine) (L:ZLow z TI TO i1 i2 l1 l2 s.heap.objs.size)
  (hT:s.TypeIs (.ref z) "zip") (hI:∃f0,IsZip s.heap z TI TO f0)
  (h:∀h' tk as,Xo0 xs ys lo s h' as->s.heap.objs.size<h'.objs.size->Q₁ (.ref h'.objs.size) { s with heap:=h'.push { cls:=.type "tuple",data:=.seq (as.map Value.ref).toArray },toks:=tk }) :
  codeAny (model prog w) A (.call (.builtin "tuple.__new__") ⟨[.type "tuple",.ref z],[]⟩) (wants Q₁ E) s:=by
 refine codeAny_of_tree ?_;show wpAny _ A.in1 (do checkBuiltinCall "tuple.__new__" ⟨[.type "tuple",.ref z],[]⟩;again (.builtin "tuple.__new__" ⟨[.type "tuple",.ref z],[]⟩)) _ _ s;refine A0 (wpAny_of_eq (F.newCall_tuple_1 _) (A2 ⟨P4 F.plain_tuple_new _,I0 F.entry_tuple_new ?_⟩));rw[Around.under_plainId F.plain_tuple_new _];have Z:=sub_tuple_self;have Y:=init_tuple_lookup;have a1:=madeHere_tuple;have O:A.in1.handled=none:=by simp[hh]
 wp_walk using L8 hT,ly0 (lo:=lo) O D hlo st hn L hT hI
 intro h' tk as hz J;show wpAny _ _ (Builtin.Tuple.tupleExact (as.map Value.ref).toArray>>=λv=>ret v) _ _ _;unfold Builtin.Tuple.tupleExact;refine A0 (E9 ?_ (by show (as.map Value.ref).toArray.size<=sizeLine;rw[List.size_toArray,List.length_map,hz.2.1];exact hn));exact A2 (h h' tk as hz J)
theorem gx0{Q:Value->Shared->Prop}(hh:A.handled=none)(hl1:s.heap.IsList l1 xs)(hl2:s.heap.IsList l2 ys)(hn:min xs.size ys.size<=sizeLine)
  (h:∀(h':Heap) (tk:Nat) (as:List Addr) (t:Addr),(∀b o,s.heap.get? b=some o->h'.get? b=some o)->as.length=min xs.size ys.size->(∀a∈as,s.heap.objs.size<=a/\a<t)->as.Nodup->s.heap.objs.size<=t ->
   (∀(j:Nat) (a:Addr),as[j]?=some a->∃x y,xs[j]?=some x/\ys[j]?=some y/\IsPair h' a x y)->h'.get? t=some { cls:=.type "tuple",data:=.seq (as.map Value.ref).toArray }->Q (.ref t) { s with heap:=h',toks:=tk }) :
  wpAny (model prog w) A (call (.type "zip") [.ref l1,.ref l2]) (λv s1=>wpAny (model prog w) A (call (.type "tuple") [v]) Q E s1) E s:=by
 have a1:l1<s.heap.objs.size:=by obtain⟨_,e,_⟩:=hl1;exact A3 e
 have a2:l2<s.heap.objs.size:=by obtain⟨_,e,_⟩:=hl2;exact A3 e
 refine call_zip_2 hl1 hl2 λh1 hz hTI a5 a3 Z a4 hk=>?_
 have J:h1.IsList l1 xs:=hl1.at λo e=>hk _ o e
 have O:h1.IsList l2 ys:=hl2.at λo e=>hk _ o e
 have H:∀k,k<5->s.heap.objs.size+k<h1.objs.size:=λk hk=>by rw[a4];exact Nat.add_lt_add_left hk _
 refine callType_codes (Q₁:=λobj s₁=>s₁.TypeIs obj "tuple"/\Q obj s₁) F.called_tuple (F.typeCall_tuple_1 _) F.entry_object_init
  (t30 (lo:=s.heap.objs.size) (xs:=xs) (ys:=ys) (by simp[hh]) (zipApart_new a1 a2) ⟨M0 _ 4,M0 _ 3,A1 _,M0 _ 1⟩ (λS n1 n2 n3=>⟨.inl ⟨rfl,hz,_,_,a5⟩,hTI,a3,Z,J,O⟩) hn
   ⟨H 4 (by decide),H 2 (by decide),H 3 (by decide),H 0 (by decide),H 1 (by decide),G0 a1 (H 0 (by decide)),G0 a2 (H 0 (by decide))⟩
   ⟨_,hz,rfl⟩ ⟨_,hz⟩ λh' tk as ze Y=>⟨⟨_,B9 _ rfl,rfl⟩,?_⟩) λobj s₁ h₁=>?_
 ·obtain⟨k1,k2,g⟩:=ze
  refine h (h'.push _) tk as h'.objs.size (λb o e=>A7 _ (k1 b o (A3 e) (hk b o e))) k2 (λa ha=>⟨?_,g.there ha⟩) (g.rise.imp λh=>A6 h) ?_ (λj a hj=>?_) (B9 _ rfl)
  ·exact E3 (G0 (H 0 (by decide)) (g.above a ha))
  ·exact E3 (G0 (H 0 (by decide)) Y)
  ·obtain⟨x,y,e1,e2,e3⟩:=g.pairs j a hj
   exact⟨x,y,e1,e2,A7 _ e3⟩
 ·exact⟨h₁.1,F.args_object_init_2 obj _,object_init_meets F.called_tuple.init.lookup F.called_tuple.made (by decide) prog w A.in1 _ s₁ ⟨h₁.1,rfl,h₁.2⟩⟩
end
end ZipL
namespace L2
open Spec PyProof.Rows
def w80(H:Hp):List (Addr×HO)->Hp
 | []=>H
 | p::l=>upd (w80 H l) p.1 p.2
theorem ss0{b:Addr}:∀{l:List (Addr×HO)},(∀p∈l,p.1≠b)->w80 H l b=H b
 | [],_=>rfl
 | p::l,h=>by
  show upd (w80 H l) p.1 p.2 b=_;rw[o7 (A4 (h p A8)),ss0 λq hq=>h q (A5 _ hq)]
theorem pm0{b:Addr}{u:HO}:∀{l:List (Addr×HO)},w80 H l b=some u->(∃p∈l,p.1=b/\p.2=u)∨H b=some u
 | [],e=>.inr e
 | p::l,e=>by
  by_cases h:b=p.1
  ·subst h
   have e':upd (w80 H l) p.1 p.2 p.1=some u:=e;rw[j6] at e';exact .inl ⟨p,A8,rfl,B6 e'⟩
  ·have e':upd (w80 H l) p.1 p.2 b=some u:=e
   rw[o7 h] at e';rcases pm0 e' with⟨q,hq,x⟩|x
   ·exact .inl ⟨q,A5 _ hq,x⟩
   ·exact .inr x
theorem rb0:∀{l:List (Addr×HO)},(l.map Prod.fst).Nodup->∀p∈l,w80 H l p.1=some p.2
 | [],_,p,h=>nomatch h
 | q::l,n,p,h=>by
  rw[List.map_cons,List.nodup_cons] at n;show upd (w80 H l) q.1 q.2 p.1=_;rcases B0.mp h with rfl|h
  ·rw[j6]
  ·rw[o7 (λz=>n.1 (by rw[← z];exact B90 h)),rb0 n.2 p h]
section
variable{s:Shared}
theorem Inv.laidL{l:List (Addr×HO)}{t':Nat}(I:Inv X pins σ H s)(k:∀b u,s.heap.get? b=some u->h'.get? b=some u)
  (hl:∀p∈l,s.heap.objs.size<=p.1/\∃xs,p.2=.tup xs/\ObjOk X.prog X.w H h' p.1 (.tup xs)):Inv X pins σ (w80 H l) { s with heap:=h',toks:=t' }:=by
 have J:∀b,b<s.heap.objs.size->w80 H l b=H b:=λb hb=>ss0 λp hp z=>by
  have:=(hl p hp).1;rw[z] at this;exact C9 _ (A9 hb this)
 refine I.un ⟨λb u q _ _ _=>k b u q,λb u q _ _ _=>⟨u.slots,k b u q⟩,λb u q n _=>by rw[J b (A3 q)];exact n,λb u q _=>⟨u,k b u q⟩,λb xs q=>by rw[J b (I.hok.lt q)];exact q,
  λb u xs q=>by rw[J b (I.hok.lt q)];exact q,λb ps q=>⟨#[],by rw[J b (I.hok.lt q),q];simp⟩⟩ λb u e=>?_
 rcases pm0 e with⟨p,hp,rfl,rfl⟩|e'
 ·obtain⟨_,xs,ex,ok⟩:=hl p hp
  rw[ex];exact ok
 ·exact(I.hok b u e').stay (λc v _ q=>k c v q) (λc q=>by rw[J c (I.hok.lt q)];exact q) (λc xs q=>by rw[J c (I.hok.lt q)];exact q) λc ob u' q=>by rw[J c (I.hok.lt q)];exact q
end
def m70(X:Cx)(f1 f2:Value)(r:List V->Hp->VK->Prop):Prop :=
 ∀(pins:List (Addr×Obj)) (s:Shared) (σ:St) (H:Hp) (xs:List V) (us:List Value) (Q:VK),Inv X pins σ H s->Vals xs us->r xs H Q ->
  wpAny (model X.prog X.w) X.A (call f2 us) (λv s1=>wpAny (model X.prog X.w) X.A (call f1 [v]) (EP X pins σ Q) X.xe s1) X.xe s
section
variable{x1 x2:Str}{T1 T2:String}{t:TA}
theorem fr0(hc:m70 X (.type T1) (.type T2) r)(hg1:Gl X x1)(hg2:Gl X x2)(hm1:X.mg x1=none)(hm2:X.mg x2=none)(hv1:bootBuiltins x1=some (.type T1))(hv2:bootBuiltins x2=some (.type T2))(ha:PA X (e::es) t)
  (hn1:x1 ≠"__name__" := by decide) (hd1:(x1==("__debug__" : Str))=false:=by decide) (hn2:x2 ≠"__name__" := by decide) (hd2:(x2==("__debug__" : Str))=false:=by decide)
  (e1:starEach [.Call (.Name x2 p2) (e::es) [] pos2] X.env=(false,eval (.Call (.Name x2 p2) (e::es) [] pos2) X.env)::starEach [] X.env:=by rfl) (h1:(backTo pos (starEach [] X.env)).any (·.1)=false:=by rfl)
  (he:starEach (e::es) X.env=(false,eval e X.env)::starEach es X.env:=by rfl) (hpl:(backTo pos2 (starEach es X.env)).any (·.1)=false:=by rfl) :
  PE X (.Call (.Name x1 p) [.Call (.Name x2 p2) (e::es) [] pos2] [] pos) (tCB r t):=by
 intro pins s σ H Q I h;refine E1 (y00 I hg1 hm1 hv1 ?_ hn1 hd1);refine E8 ?_ e1 h1;rw[e1];show wpAny _ _ (spliced ((false,eval (.Call (.Name x2 p2) (e::es) [] pos2) X.env)::backTo pos (starEach [] X.env))) _ _ s;refine N2 ?_;refine E1 (y00 I hg2 hm2 hv2 ?_ hn2 hd2);refine E8 (thn (ha pos2 pins s σ H _ I h) λus s1 ⟨vs,H1,I1,r1,q1⟩=>?_) he hpl;exact thn (hc pins s1 σ H1 vs us Q I1 r1 q1) λv s2 hv=>N1 hv
end
end L2
namespace DL
open Spec PyProof.Rows L2
section
variable{x1 x2:Str}{T1 T2:String}{f:List D->Option D}
theorem o30(hc:m70 X (.type T1) (.type T2) r)(hf:FnR X.K r f)(hm1:X.mg x1=none)(hm2:X.mg x2=none)(hv1:bootBuiltins x1=some (.type T1))(hv2:bootBuiltins x2=some (.type T2))(ha:PDA X (e::es) gA)(hg1:Gl X x1:=by rfl)(hg2:Gl X x2:=by rfl)
  (hn1:x1 ≠"__name__" := by decide) (hd1:(x1==("__debug__" : Str))=false:=by decide) (hn2:x2 ≠"__name__" := by decide) (hd2:(x2==("__debug__" : Str))=false:=by decide)
  (e1:starEach [.Call (.Name x2 p2) (e::es) [] pos2] X.env=(false,eval (.Call (.Name x2 p2) (e::es) [] pos2) X.env)::starEach [] X.env:=by rfl) (h1:(backTo pos (starEach [] X.env)).any (·.1)=false:=by rfl)
  (he:starEach (e::es) X.env=(false,eval e X.env)::starEach es X.env:=by rfl) (hpl:(backTo pos2 (starEach es X.env)).any (·.1)=false:=by rfl) :
  PD X (.Call (.Name x1 p) [.Call (.Name x2 p2) (e::es) [] pos2] [] pos) (oA gA f) :=
 .mk λB δ=>(fr0 hc hg1 hg2 hm1 hm2 hv1 hv2 (ha B δ) hn1 hd1 hn2 hd2 e1 h1 he hpl).imp fun σ H Q h=>my0 hf h
end
def zt0:List Addr->List (V×V)->List (Addr×HO)
 | a::as,p::ps=>(a,.tup [p.1,p.2])::zt0 as ps
 | _,_=>[]
theorem o20:∀{as:List Addr} {ps:List (V×V)},as.length=ps.length->(zt0 as ps).map Prod.fst=as
 | [],[],_=>rfl
 | [],_::_,h=>by simp at h
 | _::_,[],h=>by simp at h
 | a::as,p::ps,h=>by
  show a::(zt0 as ps).map Prod.fst=_;rw[o20 (by simpa using h)]
theorem oj0:∀{as:List Addr} {ps:List (V×V)} {q:Addr×HO},q∈zt0 as ps->∃(j:Nat) (p:V×V),as[j]?=some q.1/\ps[j]?=some p/\q.2=.tup [p.1,p.2]
 | [],_,q,h=>by simp[zt0] at h
 | _::_,[],q,h=>by simp[zt0] at h
 | a::as,p::ps,q,h=>by
  rcases B0.mp h with rfl|h
  ·exact⟨0,p,rfl,rfl,rfl⟩
  ·obtain⟨j,p',h1,h2,h3⟩:=oj0 h
   exact⟨j+1,p',by simpa using h1,by simpa using h2,h3⟩
def cd0(K:W.Frag):List V->Hp->VK->Prop:=λvs H Q=>∃q1 q2 xs ys,vs=[.ref q1,.ref q2]/\SqL K H q1 xs/\SqL K H q2 ys /\
 ∀(t:Addr) (as:List Addr),as.length=(xs.zip ys).length->as.Nodup->t∉as->H t=none->(∀a∈as,H a=none)->Q (.ref t) (w80 H ((t,.tup (as.map V.ref))::zt0 as (xs.zip ys)))
theorem ob0:∀as:List Addr,Vals (as.map V.ref) (as.map Value.ref)
 | []=>.nil
 | a::as=>.cons rfl (ob0 as)
theorem u00(hc:X.calm=true:=by rfl):m70 X (.type "tuple") (.type "zip") (cd0 X.K):=by
 intro pins s σ H vs us Q I r h;obtain⟨q1,q2,xs,ys,rfl,h1,h2,k⟩:=h;cases r with
 | cons r1 r =>
  cases r with
  | cons r2 r =>
   cases r;obtain rfl:=r1;obtain rfl:=r2;obtain⟨us1,v1,p1,z1⟩:=I.list h1;obtain⟨us2,v2,p2,z2⟩:=I.list h2;have l1:=v1.length;have l2:=v2.length;refine ZipL.gx0 (I.ok.hd hc) p1.isList p2.isList (by rw[List.size_toArray,List.size_toArray];omega) λh' tk as t hk hl ha Y ht hp gt=>?_
   rw[List.size_toArray,List.size_toArray] at hl;have O:as.length=(xs.zip ys).length:=by rw[List.length_zip,hl];omega
   refine⟨.ref t,_,I.laidL (t':=tk) hk λp J=>?_,rfl,k t as O Y (λz=>C9 _ (ha t z).2) (I.hok.fresh ht) λa h=>I.hok.fresh (ha a h).1⟩;rcases B0.mp J with rfl|J
   ·refine⟨ht,_,rfl,?_,as.map Value.ref,ob0 as,⟨_,gt,rfl,_,rfl,rfl⟩⟩
    rw[List.length_map,hl];omega
   ·obtain⟨j,⟨x,y⟩,e1,e2,e3⟩:=oj0 J
    obtain⟨u,w,f1,f2,f3⟩:=hp j p.1 e1;have hz:=List.getElem?_zip_eq_some.mp e2;obtain⟨u',g1,g2⟩:=v1.get hz.1;obtain⟨w',g3,g4⟩:=v2.get hz.2;have eu:u'=u:=by
     have:us1.toArray[j]?=some u':=by simpa using g1
     rw[f1] at this;exact(B6 this).symm
    have ew:w'=w:=by
     have:us2.toArray[j]?=some w':=by simpa using g3
     rw[f2] at this;exact(B6 this).symm
    subst eu;subst ew;exact⟨(ha p.1 (D5 e1)).1,_,e3,(by show 2<=sizeLine;decide),[u',w'],.cons g2 (.cons g4 .nil),⟨_,f3,rfl,_,rfl,rfl⟩⟩
theorem oe0:∀{ds es:List D} {xs ys:List V} {as:List Addr},Rps K H B ds xs->Rps K H B es ys->as.length=(xs.zip ys).length->(∀p∈zt0 as (xs.zip ys),H p.1=some p.2/\¬B p.1) ->
  Rps K H B ((ds.zip es).map λp=>D.tup [p.1,p.2]) (as.map V.ref)
 | [],es,xs,ys,as,r1,r2,hl,h=>by
  rw[m5] at r1;subst r1;simp at hl;subst hl;simp[m5]
 | d::ds,[],xs,ys,as,r1,r2,hl,h=>by
  rw[m5] at r2;subst r2;simp at hl;subst hl;simp[m5]
 | d::ds,e::es,xs,ys,as,r1,r2,hl,h=>by
  rw[p8] at r1 r2;obtain⟨x,xs',rfl,a1,a2⟩:=r1;obtain⟨y,J,rfl,b1,b2⟩:=r2;cases as with
  | nil=>simp at hl
  | cons a as =>
   have h0:=h (a,.tup [x,y]) A8;rw[List.zip_cons_cons,List.map_cons,List.map_cons,p8];refine⟨_,_,rfl,?_,oe0 a2 b2 (by simpa using hl) λp hp=>h p (A5 _ hp)⟩;rw[R7];refine⟨a,[x,y],rfl,⟨h0.2,h0.1⟩,?_⟩;rw[p8];refine⟨_,_,rfl,a1,?_⟩;rw[p8];exact⟨_,_,rfl,b1,by rw[m5]⟩
theorem o00:FnR K (cd0 K) s90:=by
 intro H B xs ds d Q bad r h k;unfold s90 at h;split at h<;>try cases h
 rename_i ds es;rw[p8] at r;obtain⟨x,r',rfl,r1,r⟩:=r;rw[p8] at r;obtain⟨y,r',rfl,r2,r⟩:=r;rw[m5] at r;subst r;rw[W4] at r1 r2;obtain⟨q1,us,rfl,s1,t1⟩:=r1;obtain⟨q2,ws,rfl,s2,t2⟩:=r2;refine⟨q1,q2,us,ws,rfl,s1.to,s2.to,λt as hl O ht ft fa=>?_⟩;have J:(((t,HO.tup (as.map V.ref))::zt0 as (us.zip ws)).map Prod.fst)=t::as:=by rw[List.map_cons,o20 hl]
 have hN:(((t,HO.tup (as.map V.ref))::zt0 as (us.zip ws)).map Prod.fst).Nodup:=by rw[J];exact L6.mpr ⟨ht,O⟩
 have fr:∀p∈((t,HO.tup (as.map V.ref))::zt0 as (us.zip ws)),H p.1=none:=λp hp=>by
  have:p.1∈t::as:=by rw[← J];exact B90 hp
  rcases B0.mp this with e|e
  ·rw[e];exact ft
  ·exact fa _ e
 have sm:Same H (w80 H ((t,HO.tup (as.map V.ref))::zt0 as (us.zip ws))):=λb u e=>by
  rw[ss0 λp hp z=>by rw[← z,fr p hp] at e;cases e];exact e
 have nb:∀p∈((t,HO.tup (as.map V.ref))::zt0 as (us.zip ws)),¬B p.1:=λp hp z=>bad _ z (fr p hp)
 refine k _ _ sm ?_;rw[R7];refine⟨t,as.map V.ref,rfl,⟨nb _ A8,rb0 hN _ A8⟩,oe0 (t1.same sm) (t2.same sm) hl λp hp=>⟨rb0 hN p (A5 _ hp),nb p (A5 _ hp)⟩⟩
end DL
namespace L2
open Spec PyProof.Rows
section
variable{s:Shared}
theorem Inv.turnedL(I:Inv X pins σ H s)(hf:∀b∈fp,wy0 X pins H b)(k:∀b o,b∉fp->s.heap.get? b=some o->h'.get? b=some o):Inv X pins σ H { s with heap:=h',toks:=t' }:=by
 have J:∀b u,H b=some u->b∉fp:=λb u e z=>by rw[(hf b z).1] at e;cases e
 refine I.step (g':=s.gens) (d':=s.drawn) (ch:=fp) (λb hb=>⟨(hf b hb).2.2.2.1,(hf b hb).2.1,(hf b hb).2.2.2.2.1,(hf b hb).2.2.2.2.2⟩) (λb o _ _ hc e _=>k b o hc e) (λb o _ _ hc e _=>⟨o.slots,k b o hc e⟩) (λ_ _ _ _ n=>n)
  (λb o hc e=>⟨o,k b o hc e⟩) (λ_ _ e=>e) (λ_ _ _ e=>e) (λb ps e=>⟨#[],by rw[e];simp⟩) (λm hm=>?_) (λb u e=>?_) I.bare
 ·obtain⟨o,es,ep,ho,r⟩:=hm
  exact⟨o,es,ep,k _ o (λz=>(hf _ z).2.1 rfl) ho,r⟩
 ·refine(I.hok b u e).stay (λc v hc q=>k c v ?_ q) (λ_ q=>q) (λ_ _ q=>q) λ_ _ _ q=>q
  rcases hc with z|z
  ·rw[z];exact J b u e
  ·exact J c _ z
theorem Inv.turnedNew{t':Nat}{x y:V}{w:Value}(I:Inv X pins σ H s)(hf:∀b∈fp,wy0 X pins H b)(rx:RelV x u)(ry:RelV y w)(hlt:∀b∈fp,b<s.heap.objs.size)
  (hob:h'.get? s.heap.objs.size=some { cls:=.type "tuple",data:=.seq #[u,w] }) (k:∀b o,b∉fp->s.heap.get? b=some o->h'.get? b=some o) :
  Inv X pins σ (upd H s.heap.objs.size (.tup [x,y])) { s with heap:=h',toks:=t' }/\∀b∈fp,upd H s.heap.objs.size (.tup [x,y]) b=none:=by
 have ne:∀b∈fp,b≠s.heap.objs.size:=λb hb=>A6 (hlt b hb)
 have fr:∀b∈fp,upd H s.heap.objs.size (.tup [x,y]) b=none:=λb hb=>by rw[o7 (ne b hb)];exact(hf b hb).1
 have I1:Inv X pins σ (upd H s.heap.objs.size (.tup [x,y])) { s with heap:=s.heap.push { cls:=.type "tuple",data:=.seq #[u,w] },toks:=t' } :=
  I.laid (λb o e=>A7 _ e) (A1 _) ⟨(by show 2<=sizeLine;decide),[u,w],.cons rx (.cons ry .nil),⟨_,B9 _ rfl,rfl,_,rfl,rfl⟩⟩
 refine⟨Inv.turnedL (s:={ s with heap:=s.heap.push { cls:=.type "tuple",data:=.seq #[u,w] },toks:=t' }) (t':=t') (fp:=fp) I1 (λb hb=>⟨fr b hb,(hf b hb).2⟩) λb o hb e=>?_,fr⟩;rcases Heap.get?_push_cases e with⟨rfl,rfl⟩|e
 ·exact hob
 ·exact k b o hb e
end
def Ite(K:W.Frag)(a:Addr):It :=
 ⟨λi H=>∃xs x,SqL K H a xs/\xs[i]?=some x,
   λi H v H'=>∃t x,v=.ref t/\H t=none/\H'=upd H t (.tup [.int (i:Int),x])/\∀xs,SqL K H a xs->xs[i]?=some x,
   λi H=>∃xs,SqL K H a xs/\xs.length<=i⟩
theorem ft0{P:Program}{w:World}{x1}{e:Addr}(hei:e≠it):Turn P w K (.Tuple elts x1 pos) (Ite K a) [e,it] e
  (λi h=>(∃old,IsEnum h e it i old)/\h.IsListIter it a i) where
 mem:=by simp
 obj:=λi h st c hc=>by
  obtain⟨⟨old,he⟩,⟨o1,e1,c1,d1⟩⟩:=st;simp only[List.mem_cons,List.not_mem_nil,or_false] at hc;rcases hc with rfl|rfl
  ·exact⟨_,he,λv z=>nomatch z⟩
  ·exact⟨_,e1,λv z=>by rw[d1] at z;cases z⟩
 keep:=λi h h' st k=>by
  obtain⟨⟨old,he⟩,h1⟩:=st;exact⟨⟨old,k e (by simp) _ he⟩,h1.at λo x=>k it (by simp) o x⟩
 item:=by
  intro X hP hw hK hc i pins s σ H E I hf st hg;subst hP hw hK;obtain⟨⟨old,he⟩,h1⟩:=st;obtain⟨xs,x,hq,hx⟩:=hg;obtain⟨us,rv,p1,z1⟩:=I.list hq;obtain⟨u,hu,ru⟩:=rv.get hx;refine wpAny_pyNext_enum_item he h1 p1.isList (x:=u) (by simpa using hu) hei λh' a1 a2 a3 a4 hk=>?_
  refine⟨_,rfl,wpAny_letOwnedTupleGo_enum (s:={ s with heap:=h',toks:=s.toks+1 }) a1 λJ b1 hs=>?_⟩;have le:=A3 he;obtain⟨o1,e1,_⟩:=id h1;have l1:=A3 e1;obtain⟨I1,fr⟩:=I.turnedNew (h':=J) (t':=s.toks+1) (fp:=[e,it]) (x:=.int (i:Int)) (u:=.int i s.toks) hf ⟨_,rfl⟩ ru (λc hc=>by
   simp only[List.mem_cons,List.not_mem_nil,or_false] at hc;rcases hc with rfl|rfl<;>assumption) ((hs.2 _ (B7 le)).trans a3) (λc o hc x=>by
   simp only[List.mem_cons,List.not_mem_nil,or_false,not_or] at hc;exact(hs.2 _ hc.1).trans (hk c o hc.1 hc.2 x))
  exact⟨.ref s.heap.objs.size,_,I1,rfl,⟨_,x,rfl,I.hok.fresh (A1 _),rfl,λys hy=>by rw[I.list_inj hy hq];exact hx⟩,⟨⟨_,by simpa using b1⟩,a2.at λo y=>(hs.2 it hei.symm).trans y⟩,fr⟩
 done:=by
  intro X hP hw hK hc i pins s σ H E I hf st hg;subst hP hw hK;obtain⟨⟨old,he⟩,h1⟩:=st;obtain⟨xs,hq,O⟩:=hg;obtain⟨us,rv,p1,z1⟩:=I.list hq;have l1:=rv.length;refine wpAny_pyNext_enum_end (I.ok.hd hc) he h1 p1.isList (by simp;omega) λh' hk=>⟨rfl,I.turnedL (t':=s.toks) (fp:=[e,it]) hf λc o hc x=>?_⟩
  simp only[List.mem_cons,List.not_mem_nil,or_false,not_or] at hc;exact hk c o hc.2 x
 self:=λ_ _ _ _ _ st h=>by
  obtain⟨⟨old,he⟩,_⟩:=st;exact wpAny_pyIter_enum he h
theorem gs0:bootBuiltins "enumerate"=some (.type "enumerate"):=by decide +kernel
def Vq0(K:W.Frag)(ta:TA):TI:=fun σ H R=>ta σ H λvs H1=>∃a,vs=[.ref a]/\(∃xs,SqL K H1 a xs)/\R (Ite K a) H1
theorem Zh0{a:Expr}{ta:TA}{p pos:Pos}(hg:Gl X "enumerate")(hm:X.mg "enumerate"=none)(ha:PA X [a] ta)(hs:starEach [a] X.env=[(false,eval a X.env)]:=by rfl) :
  PI X (.Tuple elts x1 tpos) (.Call (.Name "enumerate" p) [a] [] pos) (Vq0 X.K ta):=by
 intro pins s σ H R I h;refine Call_ (y00 I hg hm gs0 (E8 (thn (ha pos pins s σ H _ I h) λus s1 ⟨vs,H1,I1,r1,q1⟩=>?_) hs rfl));obtain⟨qa,e,⟨xs,h1⟩,q⟩:=q1;subst e;cases r1 with
 | cons r rr =>
  cases rr;obtain rfl:=r;obtain⟨us1,v1,p1,z1⟩:=I1.list h1;refine call_enumerate_list p1.isList λh' hz J O hk=>?_
  refine wpAny_pyIter_enum (s:={ s1 with heap:=h' }) hz ?_;refine⟨_,_,_,_,H1,rfl,I1.kept (t':=s1.toks) hk,ft0 (B7 (l7 _)),⟨⟨_,hz⟩,J⟩,λb hb=>?_,q⟩;simp only[List.mem_cons,List.not_mem_nil,or_false] at hb;rcases hb with rfl|rfl
  ·exact I1.fpOk (M0 _ 1) (I1.hok.fresh (M0 _ 1))
  ·exact I1.fpOk (A1 _) (I1.hok.fresh (A1 _))
end L2
namespace DL
open Spec PyProof.Rows L2
section
variable{a:Expr}
theorem b50{t:Addr}{x y:V}{d e:D}(hn:¬B t)(ht:H t=some (.tup [x,y]))(r1:Rp K H B d x)(r2:Rp K H B e y):Rp K H B (.tup [d,e]) (.ref t):=by
 rw[R7];refine⟨t,[x,y],rfl,⟨hn,ht⟩,?_⟩;rw[p8];refine⟨_,_,rfl,r1,?_⟩;rw[p8];exact⟨_,_,rfl,r2,by rw[m5]⟩
theorem eg0(hm:X.mg "enumerate"=none)(ha:PDA X [a] gA)(hg:Gl X "enumerate" := by rfl)(hs:starEach [a] X.env=[(false,eval a X.env)]:=by rfl) :
  PID X (.Tuple elts x1 tpos) (.Call (.Name "enumerate" p) [a] [] pos) (q20 gA):=.mk λB δ=>L2.PI.imp (Zh0 hg hm (ha B δ) hs) fun σ H R ⟨items,en,e1,k⟩=>by
 unfold q20 at e1;cases e2:gA δ with
 | none=>rw[e2] at e1;cases e1
 | some ds =>
  rw[e2] at e1;simp only[Option.bind_some] at e1;unfold e40 at e1;split at e1<;>try cases e1
  rename_i ds;refine⟨_,en,e2,λvs H' s' r=>?_⟩;rw[p8] at r;obtain⟨x,t,rfl,r1,r⟩:=r;rw[m5] at r;subst r;rw[W4] at r1;obtain⟨q1,us,rfl,s1,t1⟩:=r1;have J:(yl0 ds).length=us.length:=by unfold yl0;simp[t1.length]
  refine⟨q1,rfl,⟨us,s1.to⟩,k _ H' s' ⟨λi H2 g2 hi=>?_,λi H2 v H3 g2 y hi=>?_,λi H2 g2 hi=>?_⟩⟩
  ·rw[J] at hi
   exact⟨us,us[i],(s1.mono g2).to,by simp[hi]⟩
  ·obtain⟨t,x,rfl,ht,rfl,hx⟩:=y
   rw[J,t1.length] at hi;obtain⟨x',e4,rx⟩:=t1.get (i:=i) (D9 hi);have ex:=hx us (s1.mono g2).to;rw[e4] at ex;cases ex;refine⟨Z1 ht,.tup [.int (i:Int),ds[i]],by unfold yl0;simp[hi],λB' gB hb=>?_⟩;exact b50 (λz=>hb t z ht) j6 (by rw[j8]) (rx.mono gB)
  ·rw[J] at hi
   exact⟨us,(s1.mono g2).to,hi⟩
end
mutual
theorem kq0(hB:∀a,B a->B' a∨(∃xs,H a=some (.lst xs))∨∃ks xs,H a=some (dOb ks xs)):∀(d:D) (v:V),tree d=true->Rp K H B' d v->Rp K H B d v
 | .non,v,_,r=>by rw[U4] at r ⊢;exact r
 | .bl _,v,_,r=>by rw[W3] at r ⊢;exact r
 | .int _,v,_,r=>by rw[j8] at r ⊢;exact r
 | .str _,v,_,r=>by rw[Y9] at r ⊢;exact r
 | .lst _,v,h,_=>by unfold tree at h;cases h
 | .dct _ _,v,h,_=>by unfold tree at h;cases h
 | .fn _ _,v,h,_=>by unfold tree at h;cases h
 | .tup ds,v,h,r=>by
  unfold tree at h;rw[R7] at r ⊢;obtain⟨a,xs,rfl,q,rs⟩:=r;refine⟨a,xs,rfl,?_,mo0 hB ds xs h rs⟩;obtain⟨n,q⟩:=q;refine⟨λz=>?_,q⟩;rcases hB a z with z|⟨ys,z⟩|⟨ks,ys,z⟩
  ·exact n z
  ·rw[z] at q;cases q
  ·rw[z] at q;cases ks<;>cases q
theorem mo0(hB:∀a,B a->B' a∨(∃xs,H a=some (.lst xs))∨∃ks xs,H a=some (dOb ks xs)):∀(ds:List D) (vs:List V),trees ds=true->Rps K H B' ds vs->Rps K H B ds vs
 | [],vs,_,r=>by rw[m5] at r ⊢;exact r
 | d::ds,vs,h,r=>by
  unfold trees at h;rw[Bool.and_eq_true] at h;rw[p8] at r ⊢;obtain⟨x,t,rfl,r1,r2⟩:=r;exact⟨x,t,rfl,kq0 hB d x h.1 r1,mo0 hB ds t h.2 r2⟩
end
theorem Zi0{g:GE}(h:PD X e g):PD X e (ux0 g):=.mk λB δ pins s σ H Q I ⟨d,en,hq,k⟩=>by
 obtain⟨B',c1,c2,J⟩:=en.frz;unfold ux0 at hq;cases e1:g (frz δ) with
 | none=>rw[e1] at hq;cases hq
 | some x =>
  rw[e1] at hq
  by_cases hf:tree x=true
  ·simp only[Option.bind_some,if_pos hf] at hq
   cases hq;refine h B' (frz δ) pins s σ H Q I ⟨_,J,e1,λv H' s' r=>k v H' s' (kq0 (λa z=>?_) _ _ hf r)⟩;rcases c2 a z with q|⟨i,d',h1,h2⟩
   ·exact .inl q
   ·obtain⟨o,h3,a',e4,_,ro⟩:=Pd.get en.all h1
    rw[h2] at h3;cases h3;cases e4;cases d'<;>try exact ro.elim
    ·obtain⟨_,_,xs,e5,_⟩:=ro;exact .inr (.inl ⟨xs,s' _ _ e5⟩)
    ·obtain⟨xs,e5,_⟩:=ro;exact .inr (.inl ⟨xs,s' _ _ e5⟩)
    ·obtain⟨xs,e5,_⟩:=ro;exact .inr (.inr ⟨_,_,s' _ _ e5⟩)
  ·simp only[Option.bind_some,if_neg hf] at hq
   cases hq
def ai0:List V->Hp->VK->Prop:=λvs H Q=>∃a kvs,vs=[.ref a]/\H a=some (.dK kvs)/\∀l,H l=none->Q (.ref l) (upd H l (.dK kvs))
theorem mb0:CallR X (.type "dict") ai0:=by
 intro pins s σ H vs us Q I r h;obtain⟨a,kvs,rfl,ha,k⟩:=h;cases r with
 | cons r rr =>
  cases rr;obtain rfl:=r;obtain⟨hz,hS,ws,rv,m⟩:kvs.length<=sizeLine/\(a==sysModules)=false/\∃vs,KV kvs vs/\s.heap.DictOf (O6 X.prog X.w) a vs:=I.hok a _ ha;have hl:kvs.length=ws.length:=d6 rv;have hb:sysModules<s.heap.objs.size:=G0 (by decide) ((I.mod.glob.keeps I.bk).lt:mainGlobals<s.heap.objs.size);refine kt_call_dict hS m (by rw[← hl];exact hz) λh' hd hs=>?_
  have hf:H s.heap.objs.size=none:=I.hok.fresh (A1 _);refine⟨.ref s.heap.objs.size,_,I.laid (a:=s.heap.objs.size) (o:=.dK kvs) (t':=s.toks) (λb o q=>(hs.2 b (A6 (A3 q))).trans (A7 _ q)) (A1 _)
   ⟨hz,S3.mpr (A4 (A6 hb)),ws,rv,hd⟩,rfl,k _ hf⟩
theorem io0(hm:X.mg "dict"=none)(hv:bootBuiltins "dict"=some (.type "dict"))(ha:PD X e g)(hg:Gl X "dict" := by rfl)
  (he:starEach [e] X.env=(false,eval e X.env)::starEach [] X.env:=by rfl) (hpl:(backTo pos (starEach [] X.env)).any (·.1)=false:=by rfl) :
  PDF X (.Call (.Name "dict" p) [e] [] pos) (oA (z7 g v4) vy0):=.mk λB δ=>(th0 mb0 hg hm hv (Q5 (ha B δ) zm0 he) (by decide) (by decide) he hpl).imp fun σ H Q ⟨d,en,h,k⟩=>by
 unfold oA z7 v4 at h;cases e1:g δ with
 | none=>rw[e1] at h;cases h
 | some x =>
  rw[e1] at h;simp only[Option.bind_some,Option.map_some] at h;refine⟨x,en,e1,λv H1 s1 r1=>?_⟩;cases x<;>try (simp only[vy0] at h;cases h;done)
  rename_i ks ds;cases ks with
  | inr ks=>simp only[vy0] at h;cases h
  | inl ks =>
  simp only[vy0] at h;cases h;rw[tl0] at r1;obtain⟨q,xs,rfl,nq,hq,hl,rr⟩:=r1;exact⟨q,_,rfl,hq,λl J=>k l _ (s1.free J) (s1.trans (Z1 J)) ⟨xs,j6,hl,rr.mono (Gr.fresh J)⟩⟩
end DL
namespace DL
open Spec PyProof.Rows L2
section
variable{name:PySem.Str}{id:String}{r:V->List V->Hp->VK->Prop}{f:D->List D->Option D}
theorem is0{P:Program}{w:World}{mg:PySem.Str->Option Value}{k:Nat}{f:Addr}{ps:List PySem.Str}:FnOk P w K mg base CX0 k f fd ps (spD K λ_=>none) :=
 ⟨λvs H Q E ⟨_,_,_,_,_,h,_⟩=>(by cases h),λA outer s H J us vs Q E _ _ _ _ ⟨_,_,_,_,_,h,_⟩=>(by cases h)⟩
end
section
variable{a:Expr}{ga gc:Ds->Option D}
open Builtin Builtin.Str Builtin.Int in
theorem Wn0{prog:Program}{w:World}{A:Around}{E:Value->Shared->Prop}{s:Shared}{x:Str}{n:Int}{t u:Tok}{Q:Value->Shared->Prop}(hr:(decide (n < -(2 ^ 63:Int))||decide (n ≥ 2 ^ 63))=false)
  (hb:¬n<1->(n==1||x.length==0)=false->¬((x.length:Int) > (2 ^ 63 - 1)/n)) (hl:¬n<1->(n==1||x.length==0)=false->tooLong (x.length*n.toNat)=false)
  (h:(if n<1 then Made.str Str.empty else if (n==1||x.length==0)=true then Made.val (.str x t) else Made.str ⟨(List.replicate n.toNat x.cps).foldl (·++·) #[]⟩).post Q s) :
  wpAny (model prog w) A (binaryOp .Mult (.int n u) (.str x t)) Q E s :=
 PySem.lm_binaryOp_repeat_right (T := "str") (U := "int") (by decide) (λs'=>N9 s' n u) (L9 s x t) PySem.F.fills_int_mul PySem.noFill_str_mul Bb0 PySem.lm_noRepeat_int PySem.repeat_str PySem.F.slot_int_index.lookup
  (call_gives Bb0 (N9 s n u) PySem.F.entry_int_mul (PySem.F.args_int_mul_2 _ _) (PySem.AutoIntG3.int___mul___int_str_0 n u x t)
   ⟨rfl,L9 _ x t,call_gives PySem.F.slot_str_mul (L9 s x t) PySem.F.entry_str_mul (PySem.F.args_str_mul_2 _ _) (gives_str_mul x n t u hr hb hl) h⟩)
end
end DL
namespace DL
open Spec PyProof.Rows L2
def sz0(i:Nat)(g:GE):GS:=fun δ=>match δ[i]? with
 | some (.sh (.int a))=>(g δ).bind λd=>match d with
  | .int b=>some (.nx (δ.set i (.sh (.int (a+b)))))
  | _=>none
 | _=>none
theorem j70(i:Nat)(hN:X.N.Nodup)(h:PD X e g)(hi:X.N[i]?=some x:=by rfl)(hx:Loc X.env.scope x:=by first|exact Or.inl rfl|exact Or.inr rfl)
  (hf:X.fn x=true∨X.env.scope.names.lookup x=some .local:=by first|exact .inl rfl|exact .inr rfl|assumption):PSD X (.AugAssign (.Name x pos') .Add e pos) (sz0 i g):=.mk λH₀ B₀ δ pins s σ H D I ⟨r,en,e1,k⟩=>by
 unfold sz0 at e1;obtain⟨B,b1,b2,env⟩:=en.ex;split at e1
 ·rename_i a ha
  cases e2:g δ with
  | none=>rw[e2] at e1;cases e1
  | some d =>
   rw[e2] at e1;simp only[Option.bind_some] at e1;cases d<;>simp only at e1<;>try cases e1
   rename_i b;obtain⟨v,hv,rv⟩:=env.get ha;rw[j8] at rv;subst rv;refine Y40 hN hi hx (h B δ) Yb0 hf pins s σ H D I ⟨_,hv,.int b,env,e2,λv2 H1 s1 r1=>?_⟩;rw[j8] at r1;subst r1;refine⟨a,b,rfl,rfl,?_⟩;exact k _ H1 (en.wr b1 b2 s1 q10 ((env.same s1).set i (by rw[j8])))
 ·cases e1
def flats(ds:List D):Bool:=ds.all flat
def lq0(g:GE):GE:=fun δ=>(g (frz δ)).bind λd=>match d with
 | .lst ds=>if flats ds=true then some (.lst ds) else none
 | _=>none
theorem aq0{g:GE}(h:g (frz δ)=some (.lst ds))(hf:flats ds=true):lq0 g δ=some (.lst ds):=by
 unfold lq0;rw[h,Option.bind_some];simp only[];rw[if_pos hf]
section
variable{g:GE}
theorem pr0:∀{ds:List D} {xs:List V},flats ds=true->Rps K H B ds xs->Rps K H' B' ds xs
 | [],xs,_,r=>by rw[m5] at r ⊢;exact r
 | d::ds,xs,h,r=>by
  rw[p8] at r ⊢;obtain⟨x,r',e1,r1,r2⟩:=r;unfold flats at h;rw[List.all_cons,Bool.and_eq_true] at h;exact⟨x,r',e1,je0 h.1 r1,pr0 (ds:=ds) h.2 r2⟩
theorem do0(h:PDF X e g):PDF X e (lq0 g):=.mk λB δ pins s σ H Q I ⟨d,en,hq,k⟩=>by
 obtain⟨B',c1,c2,J⟩:=en.frz;unfold lq0 at hq;cases e1:g (frz δ) with
 | none=>rw[e1] at hq;cases hq
 | some x =>
  rw[e1,Option.bind_some] at hq;cases x with
  | lst ds =>
   simp only[] at hq
   by_cases hf:flats ds=true
   ·rw[if_pos hf] at hq
    cases hq;exact h B' (frz δ) pins s σ H Q I ⟨_,J,e1,λp H' hp s' r=>k p H' hp s' (by
     obtain⟨xs,e5,r5⟩:=r;exact⟨xs,e5,pr0 hf r5⟩)⟩
   ·rw[if_neg hf] at hq;cases hq
  | non=>cases hq
  | bl _=>cases hq
  | int _=>cases hq
  | str _=>cases hq
  | tup _=>cases hq
  | dct _ _=>cases hq
  | fn _ _=>cases hq
end
end DL
namespace L2
open Spec PyProof.Rows
def V10:V->List V->Hp->VK->Prop:=λx vs H Q=>∃l xs y,x=.ref l/\vs=[.int 0,y]/\H l=some (.lst xs)/\xs.length<sizeLine/\Q .non (upd H l (.lst (y::xs)))
theorem ak0:MtM X "list.insert" V10:=by
 intro pins s σ H x vs v us Q I rx rv h;obtain⟨l,xs,y,rfl,rfl,hH,hz,q⟩:=h;cases rx;obtain⟨u0,u,rfl,J,ru⟩:=rv.two;obtain⟨t0,rfl⟩:=J;obtain⟨z,its,n,r,hl,e⟩:=I.lstM hH;refine K2 F.slot_list_insert ⟨_,e,rfl⟩ F.entry_list_insert (F.args_list_insert_3 _ _ _) (PySem.AutoListH.list_insert_list_int_val_1 l its.toArray n 0 t0 u (by decide +kernel) (by rw[List.size_toArray];omega)) ⟨e,?_⟩;refine⟨.non,_,I.lset (its':=u::its) hH e ?_ (.cons ru r) ?_,rfl,q⟩
 ·simp
 ·rw[List.length_cons];omega
end L2
namespace DL
open Spec PyProof.Rows L2
@[simp] def rc0:List D->Option D
 | [.str x]=>match x.cps.toList with
  | [c]=>some (.int (c:Nat))
  | _=>none
 | _=>none
theorem f50:FnR K (λxs H Q=>∃x,xs=[.str x]/\x.length=1/\Q (.int (x.cps.getD 0 0:Nat)) H) rc0:=by
 intro H B xs ds d Q hb r h k;unfold rc0 at h;split at h
 ·rename_i x
  split at h
  ·rename_i c hc
   cases h;obtain⟨v,rfl,r1⟩:=zs0 r;rw[Y9] at r1;subst r1;obtain⟨⟨l⟩⟩:=x;have:l=[c]:=hc;subst this;exact⟨_,rfl,rfl,k _ H (Same.refl H) (by rw[j8];rfl)⟩
  ·cases h
 ·cases h
def s20(i:Nat)(g:GE):GX:=fun δ=>(owL i δ).bind λds=>(g δ).bind λd=>if ds.length<sizeLine then some (.non,δ.set i (.ow (.lst (d::ds)))) else none
section
variable{g:GE}
theorem ac0(i:Nat)(h:PD X e g)(hN:X.N[i]?=some x:=by rfl)(hv:Vis X.env.scope x:=by first|exact Or.inl rfl|exact Or.inr (Or.inl rfl)|exact Or.inr (Or.inr rfl))(hd:(x==("__debug__" : Str))=false:=by decide)(hcd:(x==("__classdict__" : Str))=false:=by decide)
  (hbase:attributeBase (.Name x px) "insert" X.env (eval (.Name x px) X.env)=eval (.Name x px) X.env:=by rfl)
  (hfew:((backTo cpos (starEach [.Constant (.int 0) j p0,e] X.env)).all (λx=>!x.1)&&(backToKw cpos (keywordEach [] X.env)).all (λx=>x.1.isSome)
  &&decide (([.Constant (.int 0) j p0,e]:List Expr).length+([]:List Keyword).length+(if ([]:List Keyword).isEmpty then 0 else 1)<30))=true:=by rfl)
  (hline:(apos.endLine==cpos.line)=true:=by rfl) (hs:starEach [.Constant (.int 0) j p0,e] X.env=(false,eval (.Constant (.int 0) j p0) X.env)::starEach [e] X.env:=by rfl) (hs1:starEach [e] X.env=(false,eval e X.env)::starEach [] X.env:=by rfl) (hplain:(backTo cpos (starEach [e] X.env)).any (·.1)=false:=by rfl) :
  PX X (.Call (.Attribute (.Name x px) "insert" apos) [.Constant (.int 0) j p0,e] [] cpos) (s20 i g):=.mk λH₀ B₀ δ pins s σ H Q I ⟨r,en,e1,k⟩=>by
 unfold s20 at e1;obtain⟨B,b1,b2,env⟩:=en.ex;cases e2:owL i δ with
 | none=>rw[e2] at e1;cases e1
 | some ds =>
  cases e3:g δ with
  | none=>rw[e2,e3] at e1;cases e1
  | some d =>
   rw[e2,e3] at e1;simp only[Option.bind_some] at e1;split at e1
   ·rename_i hz
    cases e1;have hi:=re0 e2;obtain⟨a,J,hb,xs,hx,rx⟩:=env.at hi;refine tu0 P3 PySem.F.slot_list_insert PySem.F.type_list_insert ak0 (zh0 (i:=i) hN hv hd hcd) (Q5 fe0 (Q5 (h B δ) zm0 hs1) hs) hbase hfew hline hs hplain pins s σ H Q I
     ⟨_,J,.inl ⟨rfl,xs,.inl (.inl hx)⟩,d,env,e3,λv H1 s1 r1=>⟨a,xs,v,rfl,rfl,s1 _ _ hx,by rw[rx.length];exact hz,?_⟩⟩
    have O:Env X.K (upd H1 a (.lst (v::xs))) B σ (δ.set i (.ow (.lst (d::ds)))):=(env.same s1).mut hi J ⟨_,j6,by
     rw[p8];exact⟨v,xs,rfl,r1.mono (Gr.own hb),(rx.same s1).mono (Gr.own hb)⟩⟩
    exact k _ _ (EnvV.mk' (en.mut s1 b1 b2 hi J O) b1 b2 O (by rw[U4]))
   ·cases e1
end
end DL
namespace L2
open Spec PyProof.Rows
def Vn0(K:W.Frag):V->List V->Hp->VK->Prop:=λx vs H Q=>∃(p:Addr) (ys:List Str) (z:Str) (j:Nat),x=.ref p/\vs=[.str z]/\SqL K H p (ys.map V.str)/\ys[j]?=some z/\(∀m,m<j->ys[m]?≠some z)/\Q (.int (j:Int)) H
theorem po0:∀{ys:List Str} {us:List Value},Vals (ys.map V.str) us->∀(m:Nat) (y:Str),ys[m]?=some y->∃t,us[m]?=some (.str y t)
 | [],_,.nil,m,y,h=>by cases h
 | y'::ys,_,.cons r t,0,y,h=>by
  cases h;obtain⟨tk,rfl⟩:=r;exact⟨tk,rfl⟩
 | y'::ys,_,.cons r t,m+1,y,h=>by
  obtain⟨tk,e⟩:=po0 t m y (by simpa using h);exact⟨tk,by simpa using e⟩
theorem px0:∀ys:List Str,(ys.map V.str).all yx0=true
 | []=>rfl
 | y::ys=>by
  rw[List.map_cons,List.all_cons,px0 ys];rfl
theorem ba0:MtR X "list.index" (Vn0 X.K):=by
 intro pins s σ H x vs v us Q I rx rv h;obtain⟨p,ys,z,j,rfl,rfl,hq,hj,a1,q⟩:=h;cases rx;obtain⟨u,rfl,ru⟩:=rv.one;obtain⟨its,r,pl,hz⟩:=I.list hq;obtain⟨o,n,h1,h2,h3⟩:=id pl;have a3:its.length=ys.length:=by rw[← r.length,List.length_map]
 have a4:j<ys.length:=(C4.mp hj).1;have O:∀m (hm:m<its.toArray.size),∃y t,ys[m]?=some y/\its.toArray[m]=.str y t:=λm hm=>by
  have J:m<ys.length:=by rw[List.size_toArray] at hm;omega
  obtain⟨t,e⟩:=po0 r m ys[m] (D9 J);refine⟨ys[m],t,D9 J,?_⟩;have:its[m]?=some its[m]:=D9 (by omega);rw[this] at e;have e':=B6 e
  simpa using e'
 obtain⟨c0,dd,dt,sl⟩:=o;obtain rfl:c0=.type "list" := h2;obtain⟨rfl,rfl⟩:dd=none/\dt=.seq its.toArray n:=h3;obtain⟨t,rfl⟩:=ru;have Y:∀(y:Str) (tk:Tok),eqU (.str z) (.str y tk)=true↔y=z:=λy tk=>by
  show (eqV (.str y) (.str z))=true↔_;simp[eqV]
 have a2:(j:Int)<2 ^ 63 - 1:=by
  have h5:ys.length<=sizeLine:=by rw[List.length_map] at hz;exact hz
  have h6:sizeLine<2 ^ 62:=by decide
  omega
 refine K2 (T := "list") F.slot_list_index (show s.TypeIs (.ref p) "list" from ⟨_,h1,rfl⟩) F.entry_list_index (F.args_list_index_2 _ _) (SeqAt.list_indexAt p its.toArray n none sl (.str z t) (eqU (.str z)) j (by rw[List.size_toArray];omega) a2 ?_ ?_) ⟨h1,λy hy=>ub0 (x:=.str z) ⟨t,rfl⟩ rfl r (px0 ys) y (by simpa using hy),⟨.int (j:Int),H,I.tok _,⟨_,rfl⟩,q⟩⟩
 ·obtain⟨y,tk,e1,e2⟩:=O j (by rw[List.size_toArray];omega)
  rw[e2,Y];rw[hj] at e1;cases e1;rfl
 ·intro m hm Z
  obtain⟨y,tk,e1,e2⟩:=O m hm;rw[e2];cases hb:eqU (.str z) (.str y tk) with
  | false=>rfl
  | true=>exact absurd ((Y y tk).mp hb▸e1) (a1 m Z)
end L2
namespace DL
open Spec PyProof.Rows L2
def i60:D->List D->Option D
 | .lst ds,[.str z]=>(zi0 ds).bind λys=>(ys.findIdx? λy=>decide (y=z)).map λj=>.int (j:Int)
 | _,_=>none
theorem d30:∀{ds:List D} {ys:List Str} {xs:List V},zi0 ds=some ys->Rps K H B ds xs->xs=ys.map V.str:=by
 intro ds
 induction ds with
 | nil =>
  intro ys xs h r;rw[m5] at r;subst r;simp only[zi0] at h;cases h;rfl
 | cons d ds ih =>
  intro ys xs h r;rw[p8] at r;obtain⟨x,r',rfl,r1,r2⟩:=r;cases d<;>simp only[zi0] at h<;>try cases h
  rename_i s;cases e1:zi0 ds with
  | none=>rw[e1] at h;cases h
  | some zs =>
   rw[e1] at h;cases h;rw[Y9] at r1;subst r1;rw[ih e1 r2];rfl
theorem Yx0(ho:PD X o g)(ha:PDA X [e] gA)(hbase:attributeBase o "index" X.env (eval o X.env)=eval o X.env:=by rfl)
  (hfew:((backTo cpos (starEach [e] X.env)).all (λx=>!x.1)&&(backToKw cpos (keywordEach [] X.env)).all (λx=>x.1.isSome)
  &&decide ([e].length+([]:List Keyword).length+(if ([]:List Keyword).isEmpty then 0 else 1)<30))=true:=by rfl)
  (hline:(apos.endLine==cpos.line)=true:=by rfl) (hs:starEach [e] X.env=(false,eval e X.env)::starEach [] X.env:=by rfl) (hplain:(backTo cpos (starEach [] X.env)).any (·.1)=false:=by rfl) :
  PD X (.Call (.Attribute o "index" apos) [e] [] cpos) (ni0 g gA i60):=.mk λB δ =>
 (tu0 F.plainAttrs_list F.slot_list_index F.type_list_index ba0 (ho B δ) (ha B δ) hbase hfew hline hs hplain).imp fun σ H Q ⟨d,en,h,k⟩=>by
  unfold ni0 at h;cases e1:g δ with
  | none=>rw[e1] at h;cases h
  | some x =>
   cases e2:gA δ with
   | none=>rw[e1,e2] at h;cases h
   | some es =>
    rw[e1,e2] at h;simp only[Option.bind_some] at h;unfold i60 at h;split at h
    ·rename_i ds z
     cases e3:zi0 ds with
     | none=>rw[e3] at h;cases h
     | some ys =>
      rw[e3,Option.bind_some] at h;cases e4:ys.findIdx? (λy=>decide (y=z)) with
      | none=>rw[e4] at h;cases h
      | some j =>
       rw[e4] at h;cases h;refine⟨_,en,e1,λv H1 s1 r1=>?_⟩;rw[W4] at r1;obtain⟨p,xs,rfl,hq,rx⟩:=r1;obtain rfl:=d30 e3 rx;refine⟨.inl ⟨rfl,_,hq.to⟩,_,en.same s1,e2,λvs H2 s2 r2=>?_⟩;rw[p8] at r2;obtain⟨y,rr,rfl,r3,r4⟩:=r2;rw[m5] at r4;subst r4;rw[Y9] at r3;subst r3;obtain⟨hj,h1,h2⟩:=List.findIdx?_eq_some_iff_getElem.mp e4;refine⟨p,ys,z,j,rfl,rfl,(hq.mono (Gr.same s2)).to,?_,λm hm he=>?_,k _ _ (s1.trans s2) (by rw[j8])⟩
       ·rw[List.getElem?_eq_getElem hj,of_decide_eq_true h1]
       ·have J:m<ys.length:=by omega
        rw[List.getElem?_eq_getElem J] at he;exact h2 m hm (Y3 (B6 he))
    ·cases h
end DL
namespace L2
open Spec PyProof.Rows
def CMulW(i j:Int):Prop:=i.natAbs.log2<=2000000/\j.natAbs.log2<=2000
instance decMulW(i j:Int):Decidable (CMulW i j):=inferInstanceAs (Decidable (i.natAbs.log2<=2000000/\j.natAbs.log2<=2000))
theorem CMulW.ok{i j:Int}(h:CMulW i j):IntMulOk i j:=by
 obtain⟨h1,h2⟩:=h;have b1:Builtin.Int.intBits i<=2000001:=by unfold Builtin.Int.intBits;split<;>omega
 have b2:Builtin.Int.intBits j<=2001:=by unfold Builtin.Int.intBits;split<;>omega
 unfold IntMulOk Builtin.Int.intTooBig;intro h;rw[Bool.and_eq_true] at h;have h3:=P6 h.2;rw[bitsLine_eq] at h3;omega
theorem bo0:OpR X (binaryOp .Mult) (rI CMulW λi j=>.int (i*j)):=opI λ_ _ _ _ _ _ _ hc q=>mul_int q hc.ok
def ek0(K:W.Frag)(mg:Str->Option Value)(x:Str)(ys:List Str):Prop :=
 ∃(a:Addr) (o:Obj) (its:Array Value) (n:Nat),mg x=some (.ref a)/\K.lookup a=some o/\o.cls=.type "tuple"/\o.dict=none/\o.data=.seq its n/\its.size<=sizeLine/\Vals (ys.map V.str) its.toList
end L2
namespace DL
open Spec PyProof.Rows L2
@[simp] def da0:D->D->Option D:=ii λi j=>if i.natAbs.log2<=2000000/\j.natAbs.log2<=2000 then some (.int (i*j)) else none
section
variable{a:Expr}{ga gb:GE}{gA:GA}{ys:List Str}
theorem b90(ha:PD X a ga)(hb:PD X b gb):PD X (.BinOp a .Mult b pos) (o2 ga gb da0):=vf0 bo0 (t20 (C:=CMulW) (g':=λi j=>.int (i*j)) λ_ _ _ _=>by rw[j8]) ha hb
end
end DL
namespace Att
open PySem.W PySem.Calls PyProof.Rows
theorem j20(W:Nat):∀ns:List Int,WData.weightAll (ns.map .int)<=W->∀z∈ns,z.natAbs.log2<=W
 | [],_,z,hz=>by cases hz
 | n::ns,h,z,hz=>by
  rw[List.map_cons,WData.weightAll] at h;rcases B0.mp hz with rfl|hz
  ·have h1:WData.weight (.int z)<=W:=by omega
   unfold WData.weight at h1
   by_cases q:z=0
   ·subst q;exact C0 _
   ·rw[if_neg (by simpa using q)] at h1
    omega
  ·exact j20 W ns (by omega) z hz
theorem lc0{l:OpenLaw}{n:Nat}{q:Program}{loose:List Str}{XP:(Str->Option Value)->Heap->Prop}{YP:World->Heap->Prop}{d:DefRec}
  (hn:l.most=some n) (hdf:d.params.defaults=[])
  (call:∀(w:World) (s₀ s₁:Shared) (mg mb:Str->Option Value) (fa:Addr) (o:Obj) (pm cd doc:Value) (a:Addr) (vs:List Value) (ns:List Int),
   Ground q loose [] XP w s₀ mg mb s₁.heap->YP w s₁.heap ->
   s₁.heap.get? fa=some o->o.data=.func (docDef d.name d.params d.body d.scope pm cd doc)->s₁.heap.CodeRec cd d.name->mg d.name=some (.ref fa) ->
   s₁.heap.get? a=some { cls:=.type "list",data:=.seq vs.toArray }->IntsAre vs ns->ns.length<=n->(∀z∈ns,z.natAbs.log2<=1048576)->s₁.gens=#[] ->
   codeAny (model l.prog w) callerA (.call (.ref fa) ⟨[.ref a],[]⟩) (λr s'=>r=.ok (.ret (.bool true))/\OldK s₁.heap s'.heap/\s'.os=s₁.os/\AllBare s'.gens) s₁) :
  WalkO q loose XP YP l.row.toRowW d [] (λf vs=>PySem.call f vs):=by
 intro w s₀ s₁ mg mb G Y fa o pm cd doc dV kV ho hd hcd hD a3 hg a5 vals as a1 a2 a7 a4 a6;obtain rfl:dV=.none:=Dflts.none hD hdf;obtain rfl:kV=.none:=Dflts.noKw hD;obtain⟨a,vs,ns,rfl,rfl,Z,J,O⟩:=fs0 hn a1 a4;have hw:∀z∈ns,z.natAbs.log2<=1048576:=by
  have h1:(WData.layable (.list (ns.map .int))&&true)=true:=a2;rw[Bool.and_true] at h1;unfold WData.layable at h1;rw[Bool.and_eq_true] at h1;have h2:WData.weight (.list (ns.map .int))<=2 ^ 20:=P6 h1.2;rw[WData.weight] at h2;exact j20 (2 ^ 20) ns h2
 refine enter_call (N4 (call w s₀ s₁ mg mb fa o pm cd doc a vs ns G Y ho (fd_plain hd) hcd a3 Z J O hw hg) λr s' hq=>?_);obtain⟨rfl,h2,h3,h4⟩:=hq;exact⟨.inl ⟨.bool true,.bool true,[],rfl,λ_=>rfl,.bool true,gm0 l _,λ_=>⟨List.Pairwise.nil,λ_ hm=>(nomatch hm)⟩⟩,h2,h3,h4⟩
end Att
namespace DL
open Spec PyProof.Rows L2
section
variable{σ:St}{s:Shared}{Pt:Addr}
theorem Wr0(I:Inv X pins σ H s)(h:TQ X.H₀ Pt q):TQ H Pt q:=by
 obtain⟨t,ps,e⟩:=h;obtain⟨J,e'⟩:=I.base.tbls Pt _ e;exact⟨t,ps++J,by rw[e',Array.append_assoc]⟩
theorem eo0{k:Nat}{f:Addr}{ps:List Str}{dvs:List V}{ds:List Value}{E:XK}{t:TA}(F:FnOk X.prog X.w X.K X.mg X.base CX k f fd ps (spT Pt q sp))(hT:TQ X.H₀ Pt q)(hr:Room k X.A)(hg:Gl X x)(hm:X.mg x=some (.ref f))
  (hk:W.keepIn X.K (.ref f)=true) (hb:Binds X.K fd ps ds) (hd:Vals dvs ds) (hx:rs0 CX X E) (ha:PA X (e::es) t) (hdb:(x==("__debug__" : Str))=false:=by decide) (he:starEach (e::es) X.env=(false,eval e X.env)::starEach es X.env:=by rfl)
  (hpl:(backTo pos (starEach es X.env)).any (·.1)=false:=by rfl):PE X (.Call (.Name x p) (e::es) [] pos) (cm0 sp dvs E t):=by
 intro pins s σ H Q I h;refine E1 (xb0 I hg hm ?_ hdb);refine i5 (h₀:=X.base) I.ok.mod.kin hk (thn (ha pos pins s σ H _ I h) λus s1 ⟨vs,H1,I1,r,q⟩=>⟨I1.kIn,?_⟩) he hpl;exact gd0 F hr hb hd hx I1 r ⟨Wr0 I1 hT,q⟩
def ex0(P:Program)(w:World)(K:W.Frag)(mg:Str->Option Value)(base:Heap)(Pt:Addr)(q:Str)(x:Str)(k:Nat)(ps:List Str)(f:List D->Option D):Prop :=
 ∃(fa:Addr) (fd:FuncData),FnOk P w K mg base CX0 k fa fd ps (spT Pt q (spD K f))/\mg x=some (.ref fa)/\W.keepIn K (.ref fa)=true/\Binds K fd ps []
theorem fh0{k m:Nat}{ps:List Str}{f:List D->Option D}(C:ex0 X.prog X.w X.K X.mg X.base Pt q x k ps f)(hT:TQ X.H₀ Pt q)(hr:Room m X.A)(hk:k<=m)(ha:PDA X (e::es) gA)(hg:Gl X x:=by rfl)(hdb:(x==("__debug__" : Str))=false:=by decide)
  (he:starEach (e::es) X.env=(false,eval e X.env)::starEach es X.env:=by rfl) (hpl:(backTo pos (starEach es X.env)).any (·.1)=false:=by rfl):PD X (.Call (.Name x p) (e::es) [] pos) (oA gA f):=by
 obtain⟨fa,fd,F,hm,kp,hb⟩:=C;exact .mk λB δ=>(eo0 (E:=E0) F hT (hr.mono hk) hg hm kp hb .nil nf0 (ha B δ) hdb he hpl).imp fun σ H Q h=>by
  obtain⟨d,en,h,k⟩:=h;unfold oA at h;cases e1:gA δ with
  | none=>rw[e1] at h;cases h
  | some ds =>
   rw[e1] at h;refine⟨ds,en,e1,λvs H1 s1 r1=>?_⟩;show spD X.K f (vs++[]) H1 Q E0;rw[List.append_nil];exact⟨B,ds,d,(en.same s1).bad,r1,h,λv H' s r=>k v H' (s1.trans s) r⟩
end
def mkL(n i:Nat)(N:List Str)(G:GS):List D->Option D:=λds =>
 if ds.length=n then match G (j5 N ds) with
  | some (.nx δ)=>match δ[i]? with
   | some (.ow (.dct (.inl ks) es))=>some (.fn ks es)
   | _=>none
  | _=>none
 else none
theorem X90{G:GS}{d:D}(h:mkL n i N G ds=some d):ds.length=n/\∃δ ks es,G (j5 N ds)=some (.nx δ)/\δ[i]?=some (.ow (.dct (.inl ks) es))/\d=.fn ks es:=by
 unfold mkL at h;split at h
 ·rename_i hn
  split at h
  ·rename_i δ e1
   split at h
   ·rename_i ks es e2
    cases h;exact⟨hn,δ,ks,es,e1,e2,rfl⟩
   ·cases h
  ·cases h
 ·cases h
section
variable{P:Program}{w:World}{Pt:Addr}
theorem Vy0{ps:List Str}{k:Nat}{f:List D->Option D}{G:Ds->Option Res}(F:Fun K x qual st fa fd)(S:FnScope N ps (u5 st))
  (body:∀(cdv:Value) (A:Around) (outer:List PySem.Env) (s:Shared) (H:Hp) (E:XK),TQ H Pt q->Room k (A.deeper (envOfC qual (u5 st) s.heap.objs.size fa cdv))->PSsD (zv0 CX0 P w K mg base N qual (u5 st) fa cdv A outer s H E).nox (Z2 st) G)
  (hf:∀ds d,f ds=some d->ds.length=ps.length/\(G (j5 N ds)=some (.rt d)∨(d=.non/\∃δ,G (j5 N ds)=some (.nx δ))∨G (j5 N ds)=some (.rf d)/\isL d=false)) :
  FnOk P w K mg base CX0 (k+1) fa fd ps (spT Pt q (spD K f)):=by
 refine F.ok S (λvs H Q E ⟨_,B,ds,d,_,r,h,_⟩=>?_) (λcdv A outer s H vs Q E hr ⟨hT,B,ds,d,hb,r,h,q⟩=>?_)
 ·rw[r.length];exact(hf ds d h).1
 ·refine⟨_,body cdv A outer s H E hT hr H B (j5 N ds),?_⟩
  have en:EnvS K H B H (L2.start N vs) (j5 N ds):=by
   refine⟨Same.refl H,⟨B,λ_ z=>z,λ_ z=>.inl z,⟨?_,hb,λi j a J es h1 _ _ _=>(U0 h1).elim⟩⟩,λi J a h1 _=>(U0 h1).elim,hb⟩;unfold L2.start j5;rw[r.length];exact Pd.app (J4 (N:=N) r) (zz0 _)
  rcases (hf ds d h).2 with e|⟨rfl,δ,e⟩|⟨e,hn⟩
  ·exact⟨_,en,e,λv H' s' r'=>q v H' s' r'⟩
  ·exact⟨_,en,e,fun σ' H' en'=>q .non H' en'.same (by rw[U4])⟩
  ·exact⟨_,en,e,λp H' hp s' r'=>q _ H' s' ((r'.toO hn).rp (λa z=>.inl z) (λz=>hb p z hp))⟩
end
theorem Xx0:∀z∈[(y,NameKind.local),(x,NameKind.free)],z.2≠.cell:=λz hz=>by
 rcases B0.mp hz with rfl|hz
 ·exact λq=>nomatch q
 ·rw[List.mem_singleton.mp hz]
  exact λq=>nomatch q
theorem dr0(h:lsc.names=[(y,.local),(x,.free)])(env:PySem.Env)(c:Addr)(hc:env.cells.lookup x=some c):closureFor lsc env=pure [(x,c)]:=by
 unfold closureFor;rw[h];simp[cellOf,hc]
end DL
namespace L2
open Spec PyProof.Rows DL
theorem dl0{l:W.OpenLaw}{n k:Nat}{qp:Program}{loose:List Str}{XP:(Str->Option Value)->Heap->Prop}{d:DefRec}{K:Params->W.Frag}{as:List Addr}{ee:∀P,as=(K P).map (·.1)}{Pt c0:Addr}{q:Str}{CX:CXT}{sp:W.Frag->Sp}{x:Str}
  (hn:l.most=some n) (hn2:n<=sizeLine) (hdf:d.params.defaults=[]) (hr:Room k callerA)
  (hKP:∀P:Params,(K P).lookup Pt=none) (hC:∀P:Params,W.codeHdIn (K P) c0 Pt=true)
  (F:∀(w:World) (mg:Str->Option Value) (fa:Addr) (h:Heap),(K w.params).In h->h.Ns mainGlobals mg->mg d.name=some (.ref fa) ->
   ∃fd:FuncData,(∀(s:Shared) (u:Value),BindsTo s fd ⟨[u],[]⟩ [(x,u)]) /\
    ∀base:Heap,(K w.params).In base->base.Ns mainGlobals mg->W.CodeHd base c0 Pt->base.BuiltinsAt mg Pt->FnOk l.prog w (K w.params) mg base CX k fa fd [x] (spT Pt q (sp (K w.params))))
  (hsp:∀(K:W.Frag) (H:Hp) (a:Addr) (ns:List Int),ns.length<=n->(∀z∈ns,z.natAbs.log2<=1048576)->SqL K H a (ns.map V.int)->sp K [.ref a] H (λv _=>v=.bl true) λ_ _ _=>False)
  (hCX:∀(H:Hp) (s:Shared) (e:Value) (s':Shared),CX [] H s (λ_ _ _=>False) e s'->False) :
  W.WalkO qp loose XP (W.kmHook K as ee [Pt]).says l.row.toRowW d [] (λf vs=>PySem.call f vs):=by
 refine Att.lc0 hn hdf λw s₀ s₁ mg mb fa o pm cd doc a vs ns G Y ho hd hcd a1 Z O J hw hg=>?_
 have KX:=W.km_in_of Y;have hP:=W.km_tabs_of Y Pt (C8.mpr rfl);obtain⟨fd,hb,hF⟩:=F w mg fa _ KX G.T.g a1;have hB:s₁.heap.BuiltinsAt mg Pt:=by
  obtain⟨bm,ob,b1,b2,b3,b4,b5,b6⟩:=G.T.bmain;refine⟨bm,ob,b1,b2,λz=>?_,λz=>?_,b3,b4,b5,b6⟩
  ·obtain⟨o',es,ep,e',d',_⟩:=G.T.g
   rw[z,e'] at b3;cases b3;rw[d'] at b6;cases b6
  ·rw[z,hP] at b3
   cases b3;cases b4
 exact e00 KX G.T.g G.T.b G.T.builtins G.T.nolimit hg Z O (C3 J hn2) hr hP (hKP _) (W.codeHd_of_K KX (hC _)) hB hF hb (λH hS=>hsp (K w.params) H a ns J hw hS) λH e s'=>hCX H s₁ e s'
end L2
namespace XC
def z10:List Str:=["__class__", "__getattribute__", "__getattr__"]
abbrev bmV:List Value:=[.type "ValueError",.type "Exception",.type "BaseException",.type "object"]
inductive Row (h:Heap):List Value->Prop
 | end:Row h bmV
 | own {C:Addr} {cls:Value} {dd:Option Addr} {cd:ClassData} {sl:Array (Option Value)} {m:Str->Option Value} {tl:List Value} :
   h.get? C=some { cls:=cls,dict:=dd,data:=.cls cd,slots:=sl }->h.Ns cd.ns m->(∀n∈z10,m n=none)->Row h tl->Row h (.ref C::tl)
structure Cl(h:Heap)(C:Addr)(tl:List Value):Prop where
 obj:∃(nm q:Str) (N:Addr) (bs:List Value) (hdct:Bool) (sn:List Str) (sub:List Value) (ab:Bool) (col:Option Bool) (dd:Option Addr) (k0 k1 k2 k3 k5:Option Value) (newId:String),
  h.get? C=some (excClassObj nm q C N bs tl hdct sn sub ab col dd k0 k1 k2 k3 k5 newId)
 row:Row h (.ref C::tl)
theorem Row.has{h:Heap}(r:Row h tl){T:String}{b:Bool}(hb:bmV.contains (.type T)=b):tl.contains (.type T)=b:=by
 induction r with
 | «end»=>exact hb
 | own _ _ _ _ ih=>rw[List.contains_cons,ih];rfl
section
variable{w:World}{A:Around}{h:Heap}{g:Array GenState}{d:Drawn}{t:Nat}{os:OsState}{o:Obj}
theorem Row.along{M:Model}{n:Str}{y:Option Value}{Q:Option Value->Shared->Prop}(hn:n∈z10)(hy:lookupAlong bmV n=pure y)(hq:Q y ⟨h,g,d,t,os⟩)(r:Row h tl):wpAny M A (lookupAlong tl n) Q E ⟨h,g,d,t,os⟩:=by
 induction r with
 | «end»=>rw[hy];exact A2 hq
 | own h1 h2 h3 _ ih =>
  rw[lookupAlong_cons];refine A0 (wpAny_classOwn_cls h1 h2 ?_);rw[h3 n hn];exact ih
theorem Cl.look{M:Model}{n:Str}{y:Option Value}{Q:Option Value->Shared->Prop}(c:Cl h C tl)(hn:n∈z10)(hy:typeLookup (.type "ValueError") n=pure y)(hq:Q y ⟨h,g,d,t,os⟩):wpAny M A (typeLookup (.ref C) n) Q E ⟨h,g,d,t,os⟩:=by
 obtain⟨nm,q,N,bs,Y,sn,sub,ab,col,dd,k0,k1,k2,k3,k5,O,hC⟩:=c.obj;have J:lookupAlong bmV n=pure y:=by
  rw[typeLookup_eq,F.excBase_ValueError.mroIs] at hy;exact hy
 rw[typeLookup_eq];exact A0 (wpAny_mroOf_exc hC (c.row.along hn J hq))
theorem Cl.sub{M:Model}{v:Value}{Q:Bool->Shared->Prop}(c:Cl h C tl)(hq:Q ((Value.ref C::tl).contains v) ⟨h,g,d,t,os⟩):wpAny M A (isSubtype (.ref C) v) Q E ⟨h,g,d,t,os⟩:=by
 obtain⟨nm,q,N,bs,O,sn,sub,ab,col,dd,k0,k1,k2,k3,k5,J,hC⟩:=c.obj;exact wpAny_isSubtype_exc hC hq
theorem Cl.isT(c:Cl h C tl):(⟨h,g,d,t,os⟩:Shared).TypeIs (.ref C) "type" := by
 obtain⟨nm,q,N,bs,O,sn,sub,ab,col,dd,k0,k1,k2,k3,k5,J,hC⟩:=c.obj;exact⟨_,hC,rfl⟩
theorem Cl.hasT(c:Cl h C tl){T:String}{b:Bool}(hb:bmV.contains (.type T)=b):(Value.ref C::tl).contains (.type T)=b:=c.row.has hb
theorem dg0:typeLookup (.type "ValueError") "__class__"=pure (some (.builtin "object.__class__")):=by rw[typeLookup_type,builtinLookup_eq_fast];kernel_rfl
theorem n1:("__class__" : Str)∈z10:=.head _
theorem n2:("__getattribute__" : Str)∈z10:=.tail _ (.head _)
theorem n3:("__getattr__" : Str)∈z10:=.tail _ (.tail _ (.head _))
theorem get_class(c:Cl h C tl)(hx:h.get? a=some o)(hc:o.cls=.ref C)(hq:R (.ok (.ret (.ref C))) ⟨h,g,d,t,os⟩) :
  codeAny (model prog w) A (.call (.builtin "getset_descriptor.__get__") ⟨[.builtin "object.__class__",.ref a,.ref C],[]⟩) R ⟨h,g,d,t,os⟩:=by
 have ty:(⟨h,g,d,t,os⟩:Shared).TypeIs (.builtin "object.__class__") "getset_descriptor" := L4;have J:(Value.ref C::tl).contains (.type (".".intercalate ("object.__class__".cutAt '.').dropLast))=true:=by rw[F.owner_object_class];exact c.hasT (by decide +kernel)
 refine S2 L3.plain F.entry_gs_get (L3.check _ _ _ _ _ _ _ _ ty (F.args_gs_get _ _ _) ?_)
 repeat (any_goals (first|with_reducible assumption|(with_reducible refine D2 hx ?_;rw[hc])|(with_reducible refine c.sub ?_;rw[J])|wp_step))
 refine⟨Code.quiet_builtin _ (by decide +kernel),I0 u2 ?_⟩;unfold Builtin.«object.__class__»
 repeat (any_goals (first|with_reducible assumption|(with_reducible refine D2 hx ?_;rw[hc])|wp_step))
theorem e70{tk:Tok}{Q:Fin->Shared->Prop}(c:Cl h C tl)(hx:h.get? a=some o)(hc:o.cls=.ref C)(hq:Q (.done (.ret (.ref C))) ⟨h,g,d,t,os⟩) :
  wpAny (model prog w) A (Builtin.«object.__getattribute__» ⟨[.ref a,.str "__class__" tk],[]⟩) Q E ⟨h,g,d,t,os⟩:=by
 have ty:(⟨h,g,d,t,os⟩:Shared).TypeIs (.builtin "object.__class__") "getset_descriptor" := L4;have f5:=L4;have f6:=L3.lookup;have f7:=F.slot_gs_set.lookup
 repeat (any_goals (first|with_reducible assumption|(with_reducible refine D2 hx ?_;rw[hc])|with_reducible refine c.look n1 dg0 ?_|wp_step))
 refine get_class c hx hc ?_
 repeat (any_goals (first|with_reducible assumption|wp_step))
theorem g00{M:Model}{v:Value}{Q:Unit->Shared->Prop}(c:Cl h C tl)(hx:h.get? a=some o)(hc:o.cls=.ref C)(hq:Q () ⟨h,g,d,t,os⟩):wpAny M A (checkBuiltinCall "BaseException.__getattribute__" ⟨[.ref a,v],[]⟩) Q E ⟨h,g,d,t,os⟩:=by
 have k1:builtinKind "BaseException.__getattribute__"=some .slot:=by decide +kernel
 have k2:splitId "BaseException.__getattribute__"=some ("BaseException", "__getattribute__"):=by decide +kernel
 have k3:(Value.ref C::tl).contains (.type "BaseException")=true:=c.hasT (by decide +kernel);have k4:=F.args_bexc_ga (.ref a) v;simp only[checkBuiltinCall,k1,k2];refine A0 ?_;unfold isInstance
 repeat (first|(with_reducible refine D2 hx ?_;rw[hc])|(with_reducible refine c.sub ?_;rw[k3])|wp_step)
 exact hq
theorem js0{tk:Tok}(c:Cl h C tl)(hx:h.get? a=some o)(hc:o.cls=.ref C)(hq:R (.ok (.ret (.ref C))) ⟨h,g,d,t,os⟩) :
  codeAny (model prog w) A (.call (.builtin "BaseException.__getattribute__") ⟨[.ref a,.str "__class__" tk],[]⟩) R ⟨h,g,d,t,os⟩ :=
 S2 F.attr_ValueError.ga.plain F.entry_bexc_ga (g00 c hx hc (e70 c hx hc hq))
theorem ev0{tk:Tok}{fill expr:Bool}(c:Cl h C tl)(hx:h.get? a=some o)(hc:o.cls=.ref C)(hq:Q (.ref C) ⟨h,g,d,t,os⟩) :
  wpAny (model prog w) A (getAttrBy (.ref a) (.str "__class__" tk) fill expr) Q E ⟨h,g,d,t,os⟩:=by
 have f3:=F.attr_ValueError.ga.bind (.ref a);have z0:(expr&&onTheHeap (Value.builtin "BaseException.__getattribute__"))=false:=by cases expr<;>rfl
 have z2:(Value.builtin "BaseException.__getattribute__"==Value.builtin "object.__getattribute__")=false:=by decide +kernel
 have z1:(onTheHeap (Value.ref C)&&Value.builtin "BaseException.__getattribute__"==Value.builtin "object.__getattribute__")=false:=by rw[z2];rfl
 repeat (any_goals (first|with_reducible assumption|(with_reducible refine D2 hx ?_;rw[hc])|with_reducible refine c.look n2 F.attr_ValueError.ga.lookup ?_|with_reducible refine c.look n3 F.attrBase_ValueError.noGetattr ?_|wp_step))
 refine js0 c hx hc ?_
 repeat (any_goals (first|with_reducible assumption|wp_step))
theorem iq0{Q:Option Value->Shared->Prop}(c:Cl h C tl)(hx:h.get? a=some o)(hc:o.cls=.ref C)(hq:Q (some (.ref C)) ⟨h,g,d,t+1,os⟩):wpAny (model prog w) A (getAttr? (.ref a) "__class__") Q E ⟨h,g,d,t,os⟩:=by
 unfold getAttr? getAttrBy?
 repeat (any_goals (first|with_reducible assumption|with_reducible apply ev0 c hx hc|wp_step))
end
section
variable{w:World}{A:Around}{h:Heap}{g:Array GenState}{d:Drawn}{t:Nat}{os:OsState}{W:Addr}{o:Obj}{tw:List Value}
theorem c00:(Value.ref C::tl).contains (.ref C)=true:=by simp
theorem dy0{dep:Int}{tk:Tok}{Q:Fin->Shared->Prop}(c:Cl h C tl)(cw:Cl h W tw)(hx:h.get? a=some o)(hc:o.cls=.ref C)
  (hq:∀t',Q (.done (.ret (.bool ((Value.ref C::tl).contains (.ref W))))) ⟨h,g,d,t',os⟩) :
  wpAny (model prog w) A (Builtin.«isinstance.nested» ⟨[.ref a,.ref W,.int dep tk],[]⟩) Q E ⟨h,g,d,t,os⟩:=by
 obtain⟨e1,qW,NW,c1,a2,b5,a6,b7,a3,c5,c8,a7,d1,b6,b2,Y,J⟩:=cw.obj;obtain⟨d4,qC,NC,c3,a1,e2,a4,b0,a5,a8,b4,c4,d2,c2,d3,Z,O⟩:=c.obj;have hW:=cw.isT (g:=g) (d:=d) (t:=t) (os:=os);have b3:=cw.isT (g:=g) (d:=d) (t:=t+1) (os:=os);have b1:=c.isT (g:=g) (d:=d) (t:=t+1) (os:=os)
 by_cases e:C=W
 ·subst e
  rw[c00] at hq;have z:=hq t;have s1:(Value.ref C==Value.ref C)=true:=by simp
  repeat (any_goals (first|with_reducible assumption|(with_reducible refine D2 hx ?_;rw[hc])|wp_step))
 ·have s1:(Value.ref C==Value.ref W)=false:=by simp[e]
  cases hb:(Value.ref C::tl).contains (.ref W) with
  | true =>
   rw[hb] at hq;have z:=hq t
   repeat (any_goals (first|with_reducible assumption|(with_reducible refine D2 hx ?_;rw[hc])|with_reducible refine D2 J ?_|with_reducible refine D2 O ?_|(with_reducible refine c.sub ?_;rw[hb])|wp_step))
  | false =>
   rw[hb] at hq;have z:=hq (t+1)
   repeat (any_goals (first|with_reducible assumption|(with_reducible refine D2 hx ?_;rw[hc])|with_reducible refine D2 J ?_|with_reducible refine D2 O ?_|(with_reducible refine c.sub ?_;rw[hb])|with_reducible apply iq0 c hx hc|wp_step))
end
section
variable{w:World}{A:Around}{s:Shared}{W:Addr}{o:Obj}{tw:List Value}
theorem bq0{Q:Value->Shared->Prop}(c:Cl s.heap C tl)(cw:Cl s.heap W tw)(hx:s.heap.get? a=some o)(hc:o.cls=.ref C)
  (hq:∀t',Q (.bool ((Value.ref C::tl).contains (.ref W))) { s with toks:=t' }):wpAny (model prog w) A (call (.builtin "isinstance") [.ref a,.ref W]) Q E s:=by
 refine call_isinstance (S:=λ_ R s'=>s'=s/\∀t',R (.ok (.ret (.bool ((Value.ref C::tl).contains (.ref W))))) { s with toks:=t' }) (λP' w' A' R s' hs=>?_) ⟨rfl,hq⟩;obtain⟨rfl,hr⟩:=hs;obtain⟨h,g,d,t,os⟩:=s';exact isinstance_outer (dy0 c cw hx hc λt'=>hr t') (by intro e;cases e)
theorem k60{h:Heap}{g:Array GenState}{d:Drawn}{t:Nat}{os:OsState}{M:Model}{Q:Bool->Shared->Prop}(c:Cl h C tl)(cw:Cl h W tw)(hx:h.get? a=some o)(hc:o.cls=.ref C)
  (hq:Q ((Value.ref C::tl).contains (.ref W)) ⟨h,g,d,t,os⟩):wpAny M A (excMatches (.ref a) (.ref W)) Q E ⟨h,g,d,t,os⟩:=by
 obtain⟨b2,qW,NW,a7,Y,a4,a1,a6,Z,a8,b0,a2,b1,a5,a3,O,J⟩:=cw.obj;have hB:(Value.ref W::tw).contains (.type "BaseException")=true:=cw.hasT (by decide +kernel);have f:=tc_notTuple;unfold excMatches
 repeat (first|(with_reducible refine D2 hx ?_;rw[hc])|with_reducible refine D2 J ?_|(with_reducible refine cw.sub ?_;rw[hB])|with_reducible refine c.sub ?_|wp_step)
 cases hb:(Value.ref C::tl).contains (.ref W)<;>(rw[hb] at hq;wp_walk;exact hq)
end
end XC
namespace XC
open PySem.W
def ip0(K:Frag):List Value->Bool
 | []=>false
 | v::r=>(v::r)==bmV||match v with
  | .ref A=>(match K.lookup A with
   | some ⟨_,_,.cls cd,_⟩=>nsOkIn K cd.ns&&z10.all (λn=>nsIn K cd.ns n==some none)&&ip0 K r
   | _=>false)
  | _=>false
theorem f40{K:Frag}{h:Heap}(X:K.In h):∀{l:List Value},ip0 K l=true->Row h l
 | [],e=>by cases e
 | v::r,e=>by
  unfold ip0 at e;rcases Bool.or_eq_true_iff.mp e with q|q
  ·rw[beq_iff_eq.mp q]
   exact .end
  ·split at q
   ·split at q
    ·rename_i ho
     simp only[Bool.and_eq_true,List.all_eq_true,beq_iff_eq] at q;exact .own (X _ _ ho) (.of_isNs (isNs_of_in X q.1.1)) (λn hn=>nsMap_none_of_in X q.1.1 (q.1.2 n hn)) (f40 X q.2)
    ·cases q
   ·cases q
def clB(K:Frag)(C:Addr)(tl:List Value):Bool:=match K.lookup C with
 | some ⟨.type "type",_,.cls cd,sl⟩=>(match sl.toList with
  | [_,_,_,_,some (.builtin _),_]=>cd.mro==.ref C::tl&&!cd.hasDel&&ip0 K (.ref C::tl)
  | _=>false)
 | _=>false
theorem cg0{K:Frag}{h:Heap}(X:K.In h)(e:clB K C tl=true):Cl h C tl:=by
 unfold clB at e;split at e
 ·rename_i dd cd sl ho
  split at e
  ·rename_i k0 k1 k2 k3 n k5 hs
   simp only[Bool.and_eq_true,beq_iff_eq,Bool.not_eq_true'] at e;obtain⟨⟨hm,J⟩,hr⟩:=e;obtain⟨nm,bs,mro,ns,qn,hd,sn,sub,ab,col,Y⟩:=cd;dsimp only at hm J;subst hm J;have O:sl=#[k0,k1,k2,k3,some (.builtin n),k5]:=by
    obtain⟨l⟩:=sl;simp only at hs;rw[hs]
   subst O;exact⟨⟨nm,qn,ns,bs,hd,sn,sub,ab,col,dd,k0,k1,k2,k3,k5,_,X _ _ ho⟩,f40 X hr⟩
  ·cases e
 ·cases e
structure Rs(h:Heap)(C:Addr)(tl:List Value):Prop where
 obj:∃(nm q:Str) (N:Addr) (bs:List Value) (hdct:Bool) (sn:List Str) (sub:List Value) (ab:Bool) (col:Option Bool) (dd:Option Addr) (k0 k1 k2 k3 k5:Option Value) (mN:Str->Option Value),
  h.get? C=some (excClassObj nm q C N bs tl hdct sn sub ab col dd k0 k1 k2 k3 k5 "ValueError.__new__")/\h.Ns N mN/\mN "__init__"=none/\OwnTail h bmV tl
def rsB(K:Frag)(C:Addr)(tl:List Value):Bool:=match K.lookup C with
 | some ⟨.type "type",_,.cls cd,sl⟩=>(match sl.toList with
  | [_,_,_,_,some (.builtin n),_]=>cd.mro==.ref C::tl&&n == "ValueError.__new__"&&!cd.hasDel&&tailIn K bmV tl&&nsOkIn K cd.ns&&nsIn K cd.ns "__init__"==some none
  | _=>false)
 | _=>false
theorem V20{K:Frag}{h:Heap}(X:K.In h)(e:rsB K C tl=true):Rs h C tl:=by
 unfold rsB at e;split at e
 ·rename_i dd cd sl ho
  split at e
  ·rename_i k0 k1 k2 k3 n k5 hs
   simp only[Bool.and_eq_true,beq_iff_eq,Bool.not_eq_true'] at e;obtain⟨⟨⟨⟨⟨hm,rfl⟩,J⟩,ht⟩,hok⟩,O⟩:=e;obtain⟨nm,bs,mro,ns,qn,hd,sn,sub,ab,col,Z⟩:=cd;dsimp only at hm J hok O;subst hm J;have Y:sl=#[k0,k1,k2,k3,some (.builtin "ValueError.__new__"),k5]:=by
    obtain⟨l⟩:=sl;simp only at hs;rw[hs]
   subst Y;exact⟨⟨nm,qn,ns,bs,hd,sn,sub,ab,col,dd,k0,k1,k2,k3,k5,_,X _ _ ho,.of_isNs (isNs_of_in X hok),nsMap_none_of_in X hok O,tail_of_in X ht⟩⟩
  ·cases e
 ·cases e
def Zo0(K:Frag)(r:Addr)(c:Str):Bool:=match nsIn K mainGlobals c with
 | some (some (.ref C))=>clB K C (.ref r::bmV)
 | _=>false
def Zz0(K:Frag)(r:Addr)(c:Str):Bool:=match nsIn K mainGlobals c with
 | some (some (.ref C))=>rsB K C (.ref r::bmV)
 | _=>false
def ej0(K:Frag)(root:Str)(cs rs:List Str):Bool:=match nsIn K mainGlobals root with
 | some (some (.ref r))=>clB K r bmV&&cs.all (Zo0 K r)&&rs.all (Zz0 K r)&&(root::cs).all λc=>(root::cs).all λc'=>c==c'||!(nsIn K mainGlobals c==nsIn K mainGlobals c')
 | _=>false
structure At(K:Frag)(mg:Str->Option Value)(c:Str)(C:Addr)(tl:List Value):Prop where
 mg:mg c=some (.ref C)
 ns:nsIn K mainGlobals c=some (some (.ref C))
 cl:∀h:Heap,K.In h->Cl h C tl
structure Tab(K:Frag)(mg:Str->Option Value)(root:Str)(r:Addr)(cs rs:List Str):Prop where
 top:At K mg root r bmV
 all:∀c∈cs,∃C,At K mg c C (.ref r::bmV)
 rai:∀c∈rs,∃C,nsIn K mainGlobals c=some (some (.ref C))/\∀h:Heap,K.In h->Rs h C (.ref r::bmV)
 diff:∀c∈root::cs,∀c'∈root::cs,nsIn K mainGlobals c=nsIn K mainGlobals c'->c=c'
theorem tab_of{K:Frag}{h:Heap}(X:K.In h)(G:h.Ns mainGlobals mg)(e:ej0 K root cs rs=true):∃r,Tab K mg root r cs rs:=by
 unfold ej0 at e;split at e
 ·rename_i r hr
  simp only[Bool.and_eq_true,List.all_eq_true] at e;obtain⟨⟨⟨h1,h2⟩,h3⟩,h4⟩:=e;refine⟨r,⟨⟨mg_of X G hr,hr,λh X=>cg0 X h1⟩,λc hc=>?_,λc hc=>?_,λc hc c' J q=>?_⟩⟩
  ·have q:=h2 c hc
   unfold Zo0 at q;split at q
   ·rename_i C hC
    exact⟨C,mg_of X G hC,hC,λh X=>cg0 X q⟩
   ·cases q
  ·have q:=h3 c hc
   unfold Zz0 at q;split at q
   ·rename_i C hC
    exact⟨C,hC,λh X=>V20 X q⟩
   ·cases q
  ·have z:=h4 c hc c' J
   rw[q] at z;simp only[beq_self_eq_true,Bool.not_true,Bool.or_false,beq_iff_eq] at z;exact z
 ·cases e
end XC
namespace L2
def Lie(ok:Addr->Prop)(h:Heap)(C:Value)(od:Option Addr)(e:Addr):Prop:=∃oe vs,h.get? e=some oe/\oe.cls=C/\oe.dict=od/\oe.data=.fields vs/\1<vs.size/\ok e /\
 (vs[1]?=some .none∨∃T oT ts,vs[1]?=some (.ref T)/\T≠e/\ok T/\h.get? T=some oT/\oT.data=.fields ts/\ts[3]?=some .none)
structure Noted(ok:Addr->Prop)(F:List Addr)(h h':Heap):Prop where
 keep:∀b o,h.get? b=some o->¬ok b->b∉F->h'.get? b=some o
 slot:∀b o,h.get? b=some o->¬ok b->∃sl,h'.get? b=some { o with slots:=sl }
 there:∀b o,h.get? b=some o->∃o',h'.get? b=some o'
section
variable{M:Model}{A:Around}{s:Shared}
theorem ko0{base:Heap}{ok:Addr->Prop}{env:Env}{outer:List Env}{L e:Addr}{oe:Obj}{vs:Array Value}{head:Value}{hadNext:Bool}{Q:Unit->Shared->Prop}
  (hfr:A.frames=some (env::outer)) (hl:s.heap.FunFrames base (env::outer)) (hf:env.frame=some L) (he:s.heap.get? e=some oe) (hd:oe.data=.fields vs) (hsz:1<vs.size) (oke:ok e)
  (new:∀b,s.heap.objs.size<=b->ok b)
  (h:∀h',Noted ok ((env::outer).filterMap (·.frame)) s.heap h'->Lie ok h' oe.cls oe.dict e->Q () { s with heap:=h' }) :
  wpAny M A (do let a ← frameOf env;let pl ← entryPlaceOf L hadNext;let b ← EntryCells.newEntry head a .none (rawInt L) .none pl;setField (.ref e) 1 b) (λ_ s'=>wpAny M A (setFlight (.ref e) none) Q E s') E s:=by
 have Z:e∉(env::outer).filterMap (·.frame):=λz=>by
  obtain⟨_,o,q,n⟩:=hl.mem z;rw[he] at q;cases q;exact n vs hd
 refine A0 (wpAny_frameOf_fun hfr hl hf λg sl=>A0 (wpAny_entryPlaceOf λpl hp=>?_));unfold EntryCells.newEntry newFields;refine A0 (E9 ?_ (hp.sizeOk5 _ _ _ _ _));obtain⟨ar,O⟩:∃ar,ar=([head,.ref L,.none,rawInt L,.none]++(if pl.isEmpty then List.replicate 6 Value.none else pl)).toArray:=⟨_,rfl⟩;have J:3<ar.size:=by rw[O];simp only[List.size_toArray,List.length_append,List.length_cons,List.length_nil];omega
 rw[← O];have ge:g.get? e=some oe:=(sl.2.1 e Z).trans he;have nT:g.objs.size≠e:=B7 (A3 ge);have pe:=A7 (h:=g) { cls:=.type "traceback",dict:=none,data:=.fields ar } ge;refine m4 pe hd hsz ?_;have d3:=L0 hd (·.setIfInBounds 1 (Value.ref g.objs.size));have e3:=E7 (Obj.mapFields (·.setIfInBounds 1 (Value.ref g.objs.size))) pe (P7 d3);have t3:=(E4 (g.push { cls:=.type "traceback",dict:=none,data:=.fields ar }) (Obj.mapFields (·.setIfInBounds 1 (Value.ref g.objs.size))) (A4 nT)).trans (B9 g rfl);unfold setFlight;refine A0 (D0 e3 d3 (x:=.ref g.objs.size) (by simp[hsz]) ?_);rw[if_pos (by simp)];refine m4 t3 rfl J (h _ ?_ ?_)
 ·have oth:∀b o,g.get? b=some o->b≠e->(((g.push { cls:=.type "traceback",dict:=none,data:=.fields ar }).update e (Obj.mapFields (·.setIfInBounds 1 (Value.ref g.objs.size)))).update g.objs.size (Obj.mapFields (·.setIfInBounds 3 ((none:Option Addr).elim Value.none λf=>rawInt f)))).get? b=some o:=λb o q n=>by
   rw[Heap.get?_update_other _ _ (B7 (A3 q)),Heap.get?_update_other _ _ (A4 n)];exact A7 _ q
  refine⟨λb o q n1 n2=>oth b o ((sl.2.1 b n2).trans q) (λz=>n1 (z▸oke)),λb o q n1=>?_,λb o q=>?_⟩
  ·obtain⟨x,hx⟩:=sl.2.2 b o q
   exact⟨x,oth b _ hx (λz=>n1 (z▸oke))⟩
  ·by_cases z:b=e
   ·subst z
    rw[Heap.get?_update_other _ _ nT];exact⟨_,e3⟩
   ·obtain⟨x,hx⟩:=sl.2.2 b o q
    exact⟨_,oth b _ hx z⟩
 ·have Y:(((g.push { cls:=.type "traceback",dict:=none,data:=.fields ar }).update e (Obj.mapFields (·.setIfInBounds 1 (Value.ref g.objs.size)))).update g.objs.size (Obj.mapFields (·.setIfInBounds 3 ((none:Option Addr).elim Value.none λf=>rawInt f)))).get? e=some (oe.mapFields (·.setIfInBounds 1 (Value.ref g.objs.size))):=by
   rw[Heap.get?_update_other _ _ nT];exact e3
  refine⟨_,_,Y,Obj.cls_mapFields _ _,?_,d3,by simp[hsz],oke,.inr ⟨g.objs.size,_,_,by simp[hsz],nT,new _ (by rw[sl.1];exact A1 _),E7 _ t3 (P7 (L0 rfl _)),L0 rfl _,?_⟩⟩
  ·obtain⟨c,d,dt,x⟩:=oe
   cases dt<;>rfl
  ·simp[J]
theorem note{base:Heap}{ok:Addr->Prop}{env:Env}{outer:List Env}{L e:Addr}{C:Value}{od:Option Addr}{Q:Unit->Shared->Prop}
  (hfr:A.frames=some (env::outer)) (hl:s.heap.FunFrames base (env::outer)) (hf:env.frame=some L) (lie:Lie ok s.heap C od e)
  (new:∀b,s.heap.objs.size<=b->ok b)
  (h:∀h',Noted ok ((env::outer).filterMap (·.frame)) s.heap h'->Lie ok h' C od e->Q () { s with heap:=h' }) :
  wpAny M A (noteFrame (.ref e) env) (λ_ s'=>wpAny M A (setFlight (.ref e) none) Q E s') E s:=by
 obtain⟨oe,vs,he,rfl,rfl,hd,Y,O,q⟩:=lie;unfold noteFrame;simp only[hf];rcases q with q|⟨T,oT,ts,q,nT,okT,hT,J,q3⟩
 ·refine A0 (D0 he hd q ?_)
  rw[if_neg (by decide)];exact ko0 hfr hl hf he hd Y O new h
 ·refine A0 (D0 he hd q ?_)
  rw[if_pos (by simp)];refine A0 (D0 hT J q3 ?_);rw[if_neg (by simp[rawInt])];refine A0 (m4 hT J (Be0.mp q3).1 ?_);have oth:∀b,b≠T->(s.heap.update T (Obj.mapFields (·.setIfInBounds 3 Value.none))).get? b=s.heap.get? b:=λb n=>E4 _ _ (A4 n)
  have self:∃o',(s.heap.update T (Obj.mapFields (·.setIfInBounds 3 Value.none))).get? T=some o':=⟨_,E7 _ hT (P7 (L0 J _))⟩;have nr:∀b o,s.heap.get? b=some o->(∀vs,o.data≠.fields vs)->b≠T:=λb o h1 h2 z=>by
   rw[z,hT] at h1;cases h1;exact h2 ts J
  refine ko0 hfr (hl.of_keeps λb o h1 h2=>⟨o,(oth b (nr b o h1 h2)).trans h1,rfl⟩) hf ((oth e (A4 nT)).trans he) hd Y O (λb hb=>new b (by rw[Heap.size_after_update] at hb;exact hb)) λh' nd le=>h h' ⟨λb o h1 n1 n2=>nd.keep b o ((oth b (λz=>n1 (z▸okT))).trans h1) n1 n2,λb o h1 n1=>nd.slot b o ((oth b (λz=>n1 (z▸okT))).trans h1) n1,λb o h1=>?_⟩ le
  by_cases z:b=T
  ·obtain⟨o',Z⟩:=self
   exact nd.there b o' (by rw[z];exact Z)
  ·exact nd.there b o ((oth b z).trans h1)
end
end L2
namespace L2
open Spec PyProof.Rows
theorem Lie.mono{ok ok':Addr->Prop}{h:Heap}{C:Value}{e:Addr}(q:∀b,ok b->ok' b)(l:Lie ok h C od e):Lie ok' h C od e:=by
 obtain⟨oe,vs,h1,h2,h3,h4,h5,h6,h7⟩:=l;refine⟨oe,vs,h1,h2,h3,h4,h5,q _ h6,h7.imp id ?_⟩;rintro⟨T,oT,ts,t1,t2,t3,t4⟩;exact⟨T,oT,ts,t1,t2,q _ t3,t4⟩
def FpW(X:Cx)(pins:List (Addr×Obj))(H:Hp)(b:Addr):Prop :=
 H b=none/\b≠X.env.locals/\b∉X.fs/\(b∈X.ex∨X.s₀.heap.get? b=none)/\(∀x c,X.env.cells.lookup x=some c->c≠b)/\∀p∈X.pn++pins,p.1≠b
abbrev pf0(X:Cx)(pins:List (Addr×Obj))(H:Hp)(h:Heap)(C:Addr)(od:Option Addr)(e:Addr):Prop:=Lie (FpW X pins H) h (.ref C) od e
section
variable{M:Model}{A:Around}{s:Shared}
theorem flight{ok:Addr->Prop}{C:Value}{e:Addr}{Q:Unit->Shared->Prop}(lie:Lie ok s.heap C od e)
  (h:∀h',Noted ok [] s.heap h'->Lie ok h' C od e->Q () { s with heap:=h' }):wpAny M A (setFlight (.ref e) none) Q E s:=by
 obtain⟨oe,vs,he,rfl,rfl,hd,Y,O,q⟩:=id lie;rcases q with q|⟨T,oT,ts,q,nT,okT,hT,J,q3⟩
 ·unfold setFlight
  refine A0 (D0 he hd q ?_);rw[if_neg (by decide)];exact A2 (h _ ⟨λb o z _ _=>z,λb o z _=>⟨o.slots,z⟩,λb o z=>⟨o,z⟩⟩ lie)
 ·have s3:3<ts.size:=(Be0.mp q3).1
  refine wpAny_setFlight_none he hd q hT J s3 (h _ ?_ ?_)
  ·have oth:∀b o,s.heap.get? b=some o->b≠T->(s.heap.update T (Obj.mapFields (·.setIfInBounds 3 .none))).get? b=some o:=λb o z n=>(E4 _ _ (A4 n)).trans z
   refine⟨λb o z n _=>oth b o z λw=>n (w▸okT),λb o z n=>⟨o.slots,oth b o z λw=>n (w▸okT)⟩,λb o z=>?_⟩
   by_cases w:b=T
   ·subst w
    exact⟨_,E7 _ hT (P7 (L0 J _))⟩
   ·exact⟨o,oth b o z w⟩
  ·refine⟨oe,vs,(E4 _ _ nT).trans he,rfl,rfl,hd,Y,O,.inr ⟨T,_,_,q,nT,okT,E7 _ hT (P7 (L0 J _)),L0 J _,by simp[s3]⟩⟩
end
section
variable{σ:St}{s:Shared}
theorem Inv.fpW{b:Addr}(I:Inv X pins σ H s)(hb:s.heap.get? b=none)(hn:H' b=none):FpW X pins H' b:=by
 refine⟨hn,λz=>?_,λz=>?_,?_,λx c e z=>?_,λp hp z=>?_⟩
 ·obtain⟨m,⟨o,_,_,ho,_⟩,_⟩:=I.loc
  rw[← z,hb] at ho;cases ho
 ·obtain⟨_,o,ho,_⟩:=I.funs.mem z
  rw[hb] at ho;cases ho
 ·by_cases q:b∈X.ex
  ·exact .inl q
  ·refine .inr ?_
   cases e:X.s₀.heap.get? b with
   | none=>rfl
   | some o =>
    obtain⟨o',h'⟩:=I.base.there b o e q;rw[hb] at h';cases h'
 ·obtain⟨v,o,q,_⟩:=I.cell x c e
  rw[z,hb] at q;cases q
 ·have q:=(I.pin p hp).1
  rw[z,hb] at q;cases q
theorem Inv.dead{b:Addr}(I:Inv X pins σ H s)(hb:s.heap.get? b=none):H b=none:=by
 cases e:H b with
 | none=>rfl
 | some o =>
  have:∃u,s.heap.get? b=some u:=by
   have z:=I.hok b o e;clear e
   induction o with
   | lst xs=>obtain⟨_,_,_,_,q⟩:=z;exact⟨_,q⟩
   | tup xs=>obtain⟨_,_,_,_,q,_⟩:=z;exact⟨_,q⟩
   | dK kvs=>obtain⟨_,_,_,_,_,_,_,q,_⟩:=z;exact⟨_,q⟩
   | dT kvs=>obtain⟨_,_,_,_,_,_,_,q,_⟩:=z;exact⟨_,q⟩
   | set S n=>obtain⟨_,_,_,_,q,_⟩:=z;exact⟨_,q⟩
   | ins C dx fs=>obtain⟨_,_,_,q,_⟩:=z;exact⟨_,q⟩
   | own y=>exact z
   | xd fs=>obtain⟨_,⟨_,_,_,q,_⟩,_⟩:=z;exact⟨_,q⟩
   | rng lo hi=>obtain⟨_,_,_,q⟩:=z;exact⟨_,q⟩
   | frz ob u ih=>exact⟨_,z.1⟩
   | tbl ps=>obtain⟨_,q,_⟩:=(show TabOk H s.heap _ _ from z);exact⟨_,q⟩
   | met f y=>exact⟨_,z⟩
   | ext φ=>exact z.2.1
  obtain⟨u,q⟩:=this;rw[hb] at q;cases q
theorem Inv.afterNote{F:List Addr}(I:Inv X pins σ H s)(hF:∀b∈F,b∈frs X.stack)(nd:Noted (FpW X pins H) F s.heap h'):Inv X pins σ H { s with heap:=h' }:=by
 have nt:∀b u,H b=some u->¬FpW X pins H b:=λb u q z=>by
  rw[z.1] at q;cases q
 have hok:HOk X.prog X.w H h':=λa o q=>(I.hok a o q).stay (λb u hb e=>by
  have tr:∃v,H b=some v:=by
   rcases hb with rfl|hb
   ·exact⟨_,q⟩
   ·exact⟨_,hb⟩
  obtain⟨v,tr⟩:=tr;exact nd.keep b u e (nt b v tr) λz=>by
   rw[I.stkFree b (hF b z)] at tr;cases tr) (λ_ q=>q) (λ_ _ q=>q) λ_ _ _ q=>q
 have nF:∀b,b≠X.env.locals->b∉X.fs->b∉F:=λb n1 n2 z=>(B0.mp (I.stkSub b (hF b z))).elim n1 n2
 have up:∀b o,X.s₀.heap.get? b=some o->b≠X.env.locals:=λb o e=>A6 (A9 (A3 e) I.ok.above)
 have J:∀b o,X.s₀.heap.get? b=some o->b∉X.ex->¬FpW X pins H b:=λb o e hx z=>by
  rcases z.2.2.2.1 with q|q
  ·exact hx q
  ·rw[e] at q
   cases q
 have O:∀x c,X.env.cells.lookup x=some c->∀v,s.heap.IsCell c v->h'.IsCell c v:=λx c e v ⟨o,ho,hd⟩=>by
  obtain⟨sl,q⟩:=nd.slot c o ho λz=>z.2.2.2.2.1 x c e rfl
  exact⟨_,q,hd⟩
 refine⟨I.ok,I.os,I.bare,⟨λb o e n hb hx=>nd.keep b o (I.base.keep b o e n hb hx) (J b o e hx) (nF b (up b o e) hb),λb o e n hb hx=>?_,I.base.free,λb o e hx=>?_,I.base.tups,I.base.frzs,I.base.tbls⟩,?_,λx c e=>?_,I.free,I.freeC,λp hp=>?_,hok,I.len⟩
 ·obtain⟨sl,e1⟩:=I.base.slot b o e n hb hx
  obtain⟨Y,e2⟩:=nd.slot b _ e1 (J b o e hx);exact⟨Y,e2⟩
 ·obtain⟨o',e1⟩:=I.base.there b o e hx
  exact nd.there b o' e1
 ·obtain⟨m,⟨o,es,ep,ho,r⟩,hl⟩:=I.loc
  obtain⟨sl,hL⟩:=nd.slot _ o ho λz=>z.2.1 rfl
  refine⟨m,⟨_,es,ep,hL,r⟩,λi x v e1 e2 e3=>?_⟩;obtain⟨u,r,l⟩:=hl i x v e1 e2 e3;refine⟨u,r,?_⟩;rcases l with l|⟨k,c,e,z⟩
  ·exact .inl l
  ·exact .inr ⟨k,c,e,O x c e _ z⟩
 ·obtain⟨v,z⟩:=I.cell x c e
  exact⟨v,O x c e v z⟩
 ·obtain⟨e,n,ne,nf,d⟩:=I.pin p hp
  exact⟨nd.keep p.1 p.2 e (λz=>z.2.2.2.2.2 p hp rfl) (nF p.1 ne nf),n,ne,nf,d⟩
theorem Inv.frame(I:Inv X pins σ H s)(st:X.stack=X.env::X.outer):X.env.frame=some X.env.locals:=by
 rcases I.ok.stk with q|q
 ·rw[st] at q
  exact absurd (D4 List.length q) (by simp)
 ·exact q.2
theorem Inv.noted{M:Model}{E:Value->Shared->Prop}{e:Addr}{Q:Unit->Shared->Prop}(I:Inv X pins σ H s)(st:X.stack=X.env::X.outer)(lie:pf0 X pins H s.heap C od e)
  (h:∀h',Inv X pins σ H { s with heap:=h' }->pf0 X pins H h' C od e->Q () { s with heap:=h' }) :
  wpAny M X.A (noteFrame (.ref e) X.env) (λ_ s1=>wpAny M X.A (setFlight (.ref e) none) Q E s1) E s:=by
 refine note (base:=X.base) (outer:=X.outer) (by rw[I.ok.frames,st]) (st▸I.stack) (I.frame st) lie (λb hb=>I.fpW (u8 hb) (I.hok.fresh hb)) λh' nd le=>h h' (I.afterNote (λb hb=>?_) nd) le
 rw[st];exact hb
theorem Inv.flown{M:Model}{A:Around}{E:Value->Shared->Prop}{e:Addr}{Q:Unit->Shared->Prop}(I:Inv X pins σ H s)(lie:pf0 X pins H s.heap C od e)
  (h:∀h',Inv X pins σ H { s with heap:=h' }->pf0 X pins H h' C od e->Q () { s with heap:=h' }):wpAny M A (setFlight (.ref e) none) Q E s :=
 flight lie λh' nd le=>h h' (I.afterNote (λb hb=>by cases hb) nd) le
theorem Inv.track{φ:Heap->Prop}(I:Inv X pins σ H s)(fp:FpW X pins H a)(hφ:φ s.heap)(ho:∃o,s.heap.get? a=some o)(st:∀h1 h2:Heap,φ h1->(∀o,h1.get? a=some o->h2.get? a=some o)->φ h2) :
  Inv X pins σ (upd H a (.ext φ)) s:=by
 obtain⟨z1,z2,z3,z4,z5,z6⟩:=fp;have oth:∀b u,H b=some u->upd H a (.ext φ) b=some u:=λb u q=>by rw[o7 (V7 q z1)];exact q
 refine⟨I.ok,I.os,I.bare,⟨I.base.keep,I.base.slot,λb o e n hx=>?_,I.base.there,λb xs e=>oth b _ (I.base.tups b xs e),λb o u e=>oth b _ (I.base.frzs b o u e),λb ps e=>?_⟩,I.loc,I.cell,?_,λx c e=>?_,λp hp=>?_,λb u q=>?_,I.len⟩
 ·have:b≠a:=λw=>by
   subst w;rcases z4 with z4|z4
   ·exact hx z4
   ·rw[e] at z4
    cases z4
  rw[o7 this];exact I.base.free b o e n hx
 ·obtain⟨J,q⟩:=I.base.tbls b ps e
  exact⟨J,oth b _ q⟩
 ·rw[o7 (A4 z2)];exact I.free
 ·rw[o7 (z5 x c e)];exact I.freeC x c e
 ·obtain⟨e,n,r⟩:=I.pin p hp
  exact⟨e,by rw[o7 (z6 p hp)];exact n,r⟩
 ·by_cases w:b=a
  ·subst w
   rw[j6] at q;cases q;exact⟨hφ,ho,st⟩
  ·rw[o7 w] at q
   exact(I.hok b u q).stay (λ_ _ _ z=>z) (λc z=>oth c _ z) (λc xs z=>oth c _ z) λc _ _ z=>oth c _ z
theorem Inv.goes{M:Model}{A:Around}{E:Value->Shared->Prop}{pos:Pos}{Q:Unit->Shared->Prop}(I:Inv X pins σ H s)(hN:X.N.Nodup)(hi:X.N[i]?=some x)(hx:X.env.scope.names.lookup x=some .local)
  (h:∀s',Inv X pins (σ.set i none) H s'->Q () s'):wpAny M A (do bindName X.env x .none;unbindBehindTheSuite X.env x pos) Q E s:=by
 have J:(X.env.scope.kind==.class||(X.env.scope.kind==.module&&X.env.locals != X.env.globals))=false:=by rw[I.ok.kind];rfl
 have hk:X.env.kindOf x=some .local:=hx;refine A0 (wpAny_bindName (u80 I hN hi (.inl hx) (v:=.non) (u:=.none) rfl (λs1 I1=>?_) (.inr hx)));unfold unbindBehindTheSuite;refine wpAny_onRaise ?_;unfold unbindName;refine A0 (wpAny_point (A0 ?_));unfold deleteName;simp only[hk,J];rw[if_neg (by decide)];have cne:=I1.cne;obtain⟨m,hn,hl⟩:=id I1.loc;have hiσ:i<σ.length:=by rw[I.len];exact(C4.mp hi).1
 have hm:(m x).isSome=true:=by
  obtain⟨u,_,l⟩:=hl i x .non hi (by rw[List.getElem?_set_self hiσ]) (.inl hx);rcases l with⟨_,l⟩|⟨l,_⟩
  ·rw[l];rfl
  ·rw[hk] at l
   rcases l with l|l<;>cases l
 refine A0 (wpAny_nsDel_keeps hn λh' w O hs=>?_);rw[hm];simp only[Bool.not_true,Bool.false_eq_true,if_false];refine A2 (wpAny_point (h _ ?_));obtain⟨oL,_,_,Y,_⟩:=id hn;have up:∀b o,X.s₀.heap.get? b=some o->b≠X.env.locals:=λb o e=>A6 (A9 (A3 e) I1.ok.above)
 refine⟨I1.ok,I1.os,I1.bare,⟨λb o e n hb hx=>?_,λb o e n hb hx=>?_,I1.base.free,λb o e hx=>?_,I1.base.tups,I1.base.frzs,I1.base.tbls⟩,⟨_,O,λj y v' e1 e2 e3=>?_⟩,λy c e=>?_,I1.free,I1.freeC,λp hp=>?_,λb u q=>?_,by simpa using I.len⟩
 ·exact(hs.2 b (up b o e)).trans (I1.base.keep b o e n hb hx)
 ·obtain⟨sl,e1⟩:=I1.base.slot b o e n hb hx
  exact⟨sl,(hs.2 b (up b o e)).trans e1⟩
 ·obtain⟨o',e1⟩:=I1.base.there b o e hx
  exact⟨o',(hs.2 b (up b o e)).trans e1⟩
 ·by_cases hj:j=i
  ·subst hj
   rw[List.getElem?_set_self hiσ] at e2;cases e2
  ·rw[List.getElem?_set_ne (A4 hj)] at e2
   obtain⟨u',r',q⟩:=hl j y v' e1 (by rw[List.getElem?_set_ne (A4 hj)];exact e2) e3;refine⟨u',r',?_⟩;rcases q with⟨k,e⟩|⟨k,c,e,z⟩
   ·refine .inl ⟨k,?_⟩
    have:y≠x:=λe=>hj (sp0 hN e1 (e▸hi))
    simp[this,e]
   ·exact .inr ⟨k,c,e,z.sameBut hs (cne y c e)⟩
 ·obtain⟨w',z⟩:=I1.cell y c e
  exact⟨w',z.sameBut hs (cne y c e)⟩
 ·obtain⟨e,n,ne,nf,d⟩:=I1.pin p hp
  exact⟨(hs.2 p.1 ne).trans e,n,ne,nf,d⟩
 ·refine(I1.hok b u q).stay (λc w' hc z=>(hs.2 c ?_).trans z) (λ_ q=>q) (λ_ _ q=>q) λ_ _ _ q=>q
  rintro rfl;rcases hc with rfl|hc
  ·rw[I1.free] at q;cases q
  ·rw[I1.free] at hc;cases hc
end
def CXE(P:Program)(w:World):CXT:=λouter H s E e s'=>∃ea C od H',e=.ref ea/\s'.os=s.os/\AllBare s'.gens/\Un (frs outer) [] H H' s.heap s'.heap/\HOk P w H' s'.heap /\
 Lie (λb=>H' b=none/\s.heap.get? b=none) s'.heap (.ref C) od ea/\E (.ref C) od H'
def im0(X:Cx)(σ:St)(H:Hp)(C:Addr)(od:Option Addr):Prop:=∀pins s e,Inv X pins σ H s->pf0 X pins H s.heap C od e->X.xe (.ref e) s
section
variable{k:Nat}{f:Addr}{ps:List Str}{ds:List Value}{c:Str}{t:TA}
def Xg0(X:Cx)(sp:Sp)(dvs:List V)(t:TA):TE:=fun σ H Q=>t σ H λvs H1=>sp (vs++dvs) H1 Q λc od H'=>∀C,c=.ref C->im0 X σ H' C od
theorem nv0(F:FnOk X.prog X.w X.K X.mg X.base (CXE X.prog X.w) k f fd ps sp)(hr:Room k X.A)(hg:Gl X x)(hm:X.mg x=some (.ref f))(hk:W.keepIn X.K (.ref f)=true)(hb:Binds X.K fd ps ds)(hd:Vals dvs ds)
  (ha:PA X (e::es) t) (hdb:(x==("__debug__" : Str))=false:=by decide) (he:starEach (e::es) X.env=(false,eval e X.env)::starEach es X.env:=by rfl) (hpl:(backTo pos (starEach es X.env)).any (·.1)=false:=by rfl) :
  PE X (.Call (.Name x p) (e::es) [] pos) (Xg0 X sp dvs t):=by
 intro pins s σ H Q I h;refine E1 (xb0 I hg hm ?_ hdb);refine i5 (h₀:=X.base) I.ok.mod.kin hk (thn (ha pos pins s σ H _ I h) λus s1 ⟨vs,H1,I1,r,q⟩=>⟨I1.kIn,?_⟩) he hpl;have r2:Vals (vs++dvs) (us++ds):=r.append hd;have hl:(us++ds).length=ps.length:=by rw[← r2.length];exact F.len _ _ _ _ q
 refine wpAny_call (N4 (F.run X.A X.stack s1 H1 ⟨us,[]⟩ (us++ds) (vs++dvs) Q _ hr I1.env0 (hb s1 us I1.kIn hl) r2 q) λr s' hq=>?_);cases r with
 | error ex =>
  obtain⟨ea,C,od,H',rfl,os,bare,un,hok,J,wish⟩:=hq;exact wish C rfl pins s' ea (I1.call' (ch:=[]) os un hok bare λb z=>by cases z) (J.mono λb z=>I1.fpW z.2 z.1)
 | ok fl =>
  cases fl with
  | ret u=>exact I1.after hq
  | next=>exact False.elim hq
  | brk=>exact False.elim hq
  | cont=>exact False.elim hq
theorem d20{y:Str}{j:Nat}{cp:Pos}(hm:X.mg c=some (.ref C))(rs:∀h:Heap,X.K.In h->XC.Rs h C tl)(hbase:tl.contains (.type "BaseException")=true)(hc:X.calm=true)(hg:Gl X c)
  (hd:(c==("__debug__" : Str))=false:=by decide) (he:starEach [.Constant (.str y) j cp] X.env=[(false,eval (.Constant (.str y) j cp) X.env)]:=by rfl)
  (hbt:backTo cpos [(false,eval (.Constant (.str y) j cp) X.env)]=[(false,eval (.Constant (.str y) j cp) X.env)]:=by rfl) :
  PS X (.Raise (some (.Call (.Name c np) [.Constant (.str y) j cp] [] cpos)) none pos) (λ_ σ H=>im0 X σ H C none):=by
 intro pins s σ H D I h;obtain⟨nm,q,N,bs,J,sn,sub,ab,col,dd,k0,k1,k2,k3,k5,mN,hC,hN,O,ht⟩:=(rs s.heap I.kIn).obj;refine wpAny_Raise_call_subU F.excBase_ValueError (by decide +kernel) F.excBase_ValueError (bm:=tl) (C:=C) (N:=N) (nm:=nm) (q:=q) (bs:=bs) (hdct:=J) (sn:=sn) (sub:=sub) (ab:=ab) (col:=col) (dd:=dd) (k0:=k0) (k1:=k1) (k2:=k2) (k3:=k3) (k5:=k5) (mN:=mN) hbase (I.ok.hd hc) (by rw[he,hbt];rfl) O (xb0 I hg hm ⟨rfl,?_⟩ hd);rw[he,hbt];refine Calls.evalArgs_plain (N2 (Calls.Constant_str (N1 ⟨rfl,by show (1:Nat)<=sizeLine;decide,hC,hN,ht,λh' e hm=>?_⟩)));obtain⟨t,h1,h2,h3⟩:=hm.there;have I':Inv X pins σ H { s with heap:=h',toks:=s.toks+1 }:=I.kept hm.keeps;exact h pins _ e I' ⟨_,_,h1,rfl,rfl,rfl,(by show 1<6;decide),I.fpW hm.new (I.dead hm.new),.inl rfl⟩
end
end L2
namespace DL
open Spec PyProof.Rows L2
inductive DX where
 | ok (d:D)|ex (c:Str) (n:Option Int)
inductive RX where
 | ok (r:Res)|ex (c:Str) (n:Option Int) (δ:Ds)
abbrev GZ:=Ds->Option RX
def okZ(G:GS):GZ:=fun δ=>(G δ).map .ok
variable{Gb:DL.GZ}
def ui0:GZ:=fun δ=>some (.ok (.nx δ))
def U6(G1 G2:GZ):GZ:=fun δ=>match G1 δ with
 | some (.ok (.nx δ'))=>G2 δ'
 | r=>r
def ifZ(gt:GB)(Ga Gb:GZ):GZ:=fun δ=>(gt δ).bind λt=>if t=true then Ga δ else Gb δ
def mj0(c:Str):GZ:=fun δ=>some (.ex c none δ)
def XdX(K:W.Frag)(H₀:Hp)(B₀:BS)(H:Hp)(σ:St)(δ:Ds)(od:Option Addr):Option Int->Prop
 | none=>True
 | some k=>∃(dx:Addr) (B:BS),od=some dx/\H₀ dx=none/\H dx=some (.xd [("at",.int k)])/\(∀a,B₀ a->B a)/\(∀a,B a->B₀ a∨H₀ a=none)/\Env K H B σ δ/\¬B dx
def XdS(H H':Hp)(od:Option Addr):Option Int->Prop
 | none=>True
 | some k=>∃dx,od=some dx/\H dx=none/\H' dx=some (.xd [("at",.int k)])
theorem XdX.out{σ:St}{n:Option Int}(x:XdX K H₀ B₀ H σ δ od n):XdS H₀ H od n:=by
 cases n with
 | none=>trivial
 | some k=>obtain⟨dx,B,e,h1,h2,_⟩:=x;exact⟨dx,e,h1,h2⟩
theorem o70(s:Same H H')(h:H' a=none):H a=none:=by
 cases e:H a with
 | none=>rfl
 | some o=>rw[s a o e] at h;cases h
def U00(i:Nat)(δ:Ds):DX->RX
 | .ok d=>.ok (.nx (δ.set i (.sh d)))
 | .ex c n=>.ex c n δ
def ie0(gA:GA)(f:List D->Option DX)(i:Nat):GZ:=fun δ=>(gA δ).bind λds=>(f ds).map (U00 i δ)
def Xd0(X:Cx)(H₀:Hp)(B₀:BS)(D:Ends):RX->Prop
 | .ok r=>e80 X.K H₀ B₀ D r
 | .ex c n δ=>∀σ H C od,EnvS X.K H₀ B₀ H σ δ->W.nsIn X.K mainGlobals c=some (some (.ref C))->XdX X.K H₀ B₀ H σ δ od n->im0 X σ H C od
def tXS(X:Cx)(H₀:Hp)(B₀:BS)(δ:Ds)(G:GZ):TS:=λD σ H=>∃r,EnvS X.K H₀ B₀ H σ δ/\G δ=some r/\Xd0 X H₀ B₀ D r
structure PSX(X:Cx)(st:Stmt)(G:GZ):Prop where
 mk::go:∀H₀ B₀ δ,PS X st (tXS X H₀ B₀ δ G)
structure PSsX(X:Cx)(st:List Stmt)(G:GZ):Prop where
 mk::go:∀H₀ B₀ δ,PSs X st (tXS X H₀ B₀ δ G)
section
variable{as bs:List Stmt}{G:GS}{G1 G2 Ga:GZ}{gt:GB}{gA:GA}
theorem zn0(h:PSD X st G):PSX X st (okZ G):=.mk λH₀ B₀ δ pins s σ H D I ⟨r,en,e,k⟩=>by
 unfold okZ at e;cases e1:G δ with
 | none=>rw[e1] at e;cases e
 | some r1 =>
  rw[e1] at e;cases e;exact h H₀ B₀ δ pins s σ H D I ⟨r1,en,e1,k⟩
theorem v10:PSsX X [] ui0:=.mk λH₀ B₀ δ pins s σ H D I ⟨r,en,e,k⟩=>by
 cases e;exact pd0 pins s σ H D I (k σ H en)
theorem V0(h1:PSX X st G1)(h2:PSsX X rest G2):PSsX X (st::rest) (U6 G1 G2):=.mk λH₀ B₀ δ pins s σ H D I ⟨r,en,e,k⟩=>by
 unfold U6 at e;cases e1:G1 δ with
 | none=>rw[e1] at e;cases e
 | some r1 =>
  rw[e1] at e;cases r1 with
  | ex c n δ'=>cases e;exact K3 (h1.go H₀ B₀ δ) J0 pins s σ H D I ⟨_,en,e1,k⟩
  | ok r1 =>
   cases r1 with
   | nx δ'=>exact K3 (h1.go H₀ B₀ δ) (h2.go H₀ B₀ δ') pins s σ H D I ⟨_,en,e1,fun σ' H' en'=>⟨r,en',e,k⟩⟩
   | rt d=>cases e;exact K3 (h1.go H₀ B₀ δ) J0 pins s σ H D I ⟨_,en,e1,k⟩
   | bk δ'=>cases e;exact K3 (h1.go H₀ B₀ δ) J0 pins s σ H D I ⟨_,en,e1,k⟩
   | ct δ'=>cases e;exact K3 (h1.go H₀ B₀ δ) J0 pins s σ H D I ⟨_,en,e1,k⟩
   | rf d=>cases e;exact K3 (h1.go H₀ B₀ δ) J0 pins s σ H D I ⟨_,en,e1,k⟩
theorem Yo0(hc:PTD X c gt)(ha:PSsX X as Ga)(hb:PSsX X bs Gb):PSX X (.If c as bs pos) (ifZ gt Ga Gb):=.mk λH₀ B₀ δ pins s σ H D I ⟨r,en,e1,k⟩=>by
 unfold ifZ at e1;obtain⟨B,b1,b2,env⟩:=en.ex;cases e2:gt δ with
 | none=>rw[e2] at e1;cases e1
 | some t =>
  rw[e2] at e1;refine cs0 (hc B δ) (ha.go H₀ B₀ δ) (hb.go H₀ B₀ δ) pins s σ H D I ⟨t,env,e2,λH' s'=>?_⟩;cases t with
  | true=>exact⟨r,en.grow s',e1,k⟩
  | false=>exact⟨r,en.grow s',e1,k⟩
theorem eb0{r:Addr}:(Value.ref r::XC.bmV).contains (.type "BaseException")=true:=by
 rw[List.contains_cons];rfl
theorem gc0{r:Addr}{cn y:Str}{j:Nat}{np cp cpos:Pos}(T:XC.Tab X.K X.mg root r cs rs)(h1:cn∈rs)(h2:cn∈cs)(hcalm:X.calm=true:=by rfl)(hg:Gl X cn:=by rfl)
  (hd:(cn==("__debug__" : Str))=false:=by decide) (he:starEach [.Constant (.str y) j cp] X.env=[(false,eval (.Constant (.str y) j cp) X.env)]:=by rfl)
  (hbt:backTo cpos [(false,eval (.Constant (.str y) j cp) X.env)]=[(false,eval (.Constant (.str y) j cp) X.env)]:=by rfl) :
  PSX X (.Raise (some (.Call (.Name cn np) [.Constant (.str y) j cp] [] cpos)) none pos) (mj0 cn):=.mk λH₀ B₀ δ pins s σ H D I ⟨r',en,e1,k⟩=>by
 cases e1;obtain⟨C,J⟩:=T.all cn h2;obtain⟨C',n,O⟩:=T.rai cn h1;have:C'=C:=by
  have:=n.symm.trans J.ns;cases this;rfl
 subst this;exact d20 J.mg O eb0 hcalm hg hd he hbt pins s σ H D I (k σ H C' none en J.ns trivial)
end
def spX(K:W.Frag)(f:List D->Option DX):Sp:=λvs H Q E=>∃(B:BS) (ds:List D) (r:DX),(∀a,B a->NB (H a))/\Rps K H B ds vs/\f ds=some r/\match r with
 | .ok d=>∀v H',Same H H'->Rp K H' B d v->Q v H'
 | .ex c n=>∀C od H',Same H H'->W.nsIn K mainGlobals c=some (some (.ref C))->XdS H H' od n->E (.ref C) od H'
structure FnX(P:Program)(w:World)(K:W.Frag)(mg:Str->Option Value)(base:Heap)(x:Str)(k:Nat)(ps:List Str)(f:List D->Option DX):Prop where
 ex:∃fa fd,FnOk P w K mg base (CXE P w) k fa fd ps (spX K f)/\mg x=some (.ref fa)/\W.keepIn K (.ref fa)=true/\Binds K fd ps []
section
variable{gA:GA}
theorem ei0(i:Nat){y:Str}{k m:Nat}{ps:List Str}{f:List D->Option DX}(C:FnX X.prog X.w X.K X.mg X.base x k ps f)(hr:Room m X.A)(hk:k<=m)(ha:PDA X (e::es) gA)(hN:X.N.Nodup)
  (hi:X.N[i]?=some y:=by rfl) (hx:Loc X.env.scope y:=by first|exact Or.inl rfl|exact Or.inr rfl) (hf:X.fn y=true∨X.env.scope.names.lookup y=some .local:=by first|exact .inl rfl|exact .inr rfl|assumption)
  (hg:Gl X x:=by rfl) (hdb:(x==("__debug__" : Str))=false:=by decide) (he:starEach (e::es) X.env=(false,eval e X.env)::starEach es X.env:=by rfl) (hpl:(backTo pos (starEach es X.env)).any (·.1)=false:=by rfl)
  {ap:Pos} (hs:swapsWithSole [.Name y px] (.Call (.Name x p) (e::es) [] pos) ap.line X.env=pure false:=by rfl) (hw:swappedStores [.Name y px] (.Call (.Name x p) (e::es) [] pos) X.env=pure none:=by rfl)
  (h1:(assignEach [.Name y px] X.env).map (·.2)=[assign (.Name y px) X.env]:=by rfl) :
  PSX X (.Assign [.Name y px] (.Call (.Name x p) (e::es) [] pos) ap) (ie0 gA f i):=.mk λH₀ B₀ δ pins s σ H D I ⟨r,en,e1,k⟩=>by
 unfold ie0 at e1;obtain⟨B,b1,b2,env⟩:=en.ex;obtain⟨fa,fd,F,hm,J,hb⟩:=C.ex;cases e2:gA δ with
 | none=>rw[e2] at e1;cases e1
 | some ds =>
  rw[e2,Option.bind_some] at e1;cases e3:f ds with
  | none=>rw[e3] at e1;cases e1
  | some dx =>
   rw[e3] at e1;cases e1;refine t80 (nv0 (dvs:=[]) (ds:=[]) F (hr.mono hk) hg hm J hb .nil (ha B δ) hdb he hpl) (zr0 (i:=i) hN hi hx hf) hs hw h1 pins s σ H D I ⟨ds,env,e2,λvs H1 s1 r1=>?_⟩;show spX X.K f (vs++[]) H1 _ _;rw[List.append_nil];refine⟨B,ds,dx,(env.same s1).bad,r1,e3,?_⟩;cases dx with
   | ok d=>exact λv H' s2 r2=>k _ H' (en.wr b1 b2 (s1.trans s2) q10 ((env.same (s1.trans s2)).set i r2))
   | ex c m =>
    intro C od H' s2 n x C' q;cases q;refine k σ H' C od (en.grow (s1.trans s2)) n ?_;cases m with
    | none=>trivial
    | some m =>
     obtain⟨dx,e,x1,x2⟩:=x;exact⟨dx,B,e,o70 (en.same.trans s1) x1,x2,b1,b2,env.same (s1.trans s2),λz=>(env.same s1).bad dx z x1⟩
end
section
variable{P:Program}{w:World}
def mkX(n:Nat)(N:List Str)(G:GZ)(ds:List D):Option DX:=if ds.length=n then (match G (j5 N ds) with
 | some (.ok (.rt d))=>some (.ok d)
 | some (.ex c n _)=>some (.ex c n)
 | _=>none) else none
theorem g70{G:GZ}{r:DX}(h:mkX n N G ds=some r):ds.length=n/\((∃d,r=.ok d/\G (j5 N ds)=some (.ok (.rt d)))∨∃c n δ,r=.ex c n/\G (j5 N ds)=some (.ex c n δ)):=by
 unfold mkX at h;split at h
 ·rename_i hl
  refine⟨hl,?_⟩;split at h
  ·rename_i e;cases h;exact .inl ⟨_,rfl,e⟩
  ·rename_i e;cases h;exact .inr ⟨_,_,_,rfl,e⟩
  ·cases h
 ·cases h
theorem gp0{G:GZ}{d:D}(hl:ds.length=n)(h:G (j5 N ds)=some (.ok (.rt d))):mkX n N G ds=some (.ok d):=by
 unfold mkX;rw[if_pos hl,h]
theorem ge0{G:GZ}{c:Str}{m:Option Int}(hl:ds.length=n)(h:G (j5 N ds)=some (.ex c m δ)):mkX n N G ds=some (.ex c m):=by
 unfold mkX;rw[if_pos hl,h]
theorem okX{ps:List Str}{k:Nat}{G:GZ}(F:Fun K x qual st fa fd)(S:FnScope N ps (u5 st))
  (body:∀(cdv:Value) (A:Around) (outer:List PySem.Env) (s:Shared) (H:Hp) (E:XK),Room k (A.deeper (envOfC qual (u5 st) s.heap.objs.size fa cdv))->PSsX (zv0 (CXE P w) P w K mg base N qual (u5 st) fa cdv A outer s H E) (Z2 st) G) :
  FnOk P w K mg base (CXE P w) (k+1) fa fd ps (spX K (mkX ps.length N G)):=by
 obtain⟨oc,od,kV,doc,pm,an,cdv,ct,osl,rfl,lk,hcd⟩:=F.ex;refine jn0 lk hcd S (λvs H Q E ⟨B,ds,r,_,rr,h,_⟩=>by rw[rr.length];exact(g70 h).1) λA outer s H vs Q E hr Y=>?_
 obtain⟨B,ds,r,hb,rr,h,q⟩:=Y;refine⟨_,(body cdv A outer s H E hr).go H B (j5 N ds),?_⟩;have en:EnvS K H B H (L2.start N vs) (j5 N ds):=by
  refine⟨Same.refl H,⟨B,λ_ z=>z,λ_ z=>.inl z,⟨?_,hb,λi j a O es h1 _ _ _=>(U0 h1).elim⟩⟩,λi O a h1 _=>(U0 h1).elim,hb⟩;unfold L2.start j5;rw[rr.length];exact Pd.app (J4 (N:=N) rr) (zz0 _)
 rcases (g70 h).2 with⟨d,rfl,e⟩|⟨c,m,δ,rfl,e⟩
 ·exact⟨_,en,e,λv H' s' r'=>q v H' s' r'⟩
 ·refine⟨_,en,e,fun σ H' C od' en' n x pins s1 ea I lie=>?_⟩
  refine A0 (I.noted rfl lie λh' I' J=>?_);refine⟨ea,C,od',H',rfl,I'.os,I'.bare,I'.base,I'.hok,J.mono λb z=>⟨z.1,?_⟩,q C od' H' en'.same n x.out⟩;rcases z.2.2.2.1 with y|y
  ·exact absurd (show b∈([]:List Addr) from y) (by simp)
  ·exact y
end
end DL
variable{Gb:DL.GZ}
namespace L2
open Spec PyProof.Rows
theorem Xa0{c:Str}(hm:X.mg c=some (.ref C))(hg:Gl X c)(hd:(c==("__debug__" : Str))=false:=by decide):PE X (.Name c pos) (tC (.ref C)):=λpins s σ H Q I h=>xb0 I hg hm ⟨.ref C,H,I,rfl,h⟩ hd
def Wc0(K:W.Frag)(tl:List Value):List V->Hp->VK->Prop:=λvs H Q=>∃a C W od,vs=[.ref a,.ref W]/\H a=some (.ext (DL.sr0 a C od))/\(∀h:Heap,K.In h->XC.Cl h C tl)/\(∃tw,∀h:Heap,K.In h->XC.Cl h W tw)/\Q (.bl ((Value.ref C::tl).contains (.ref W))) H
theorem f60:CallR X (.builtin "isinstance") (Wc0 X.K tl):=by
 intro pins s σ H xs us Q I r h;obtain⟨a,C,W,od,rfl,hH,cl,⟨tw,cw⟩,q⟩:=h;cases r with
 | cons r1 r =>
  cases r with
  | cons r2 r =>
   cases r;cases r1;cases r2;obtain⟨⟨oe,h1,h2,_⟩,_,_⟩:=I.hok a _ hH;exact XC.bq0 (cl _ I.kIn) (cw _ I.kIn) h1 h2 λt'=>⟨.bl _,H,I.tok t',rfl,q⟩
end L2
namespace DL
open Spec PyProof.Rows L2
def exI(i:Nat)(cs:List Str)(f:Str->Bool):GE:=fun δ=>match δ[i]? with
 | some (.ex c _)=>if cs.contains c=true then some (.bl (f c)) else none
 | _=>none
section
variable{r:Addr}{pc:Pos}
theorem W30{σ:St}{f:Str->Bool}{d:D}(en:Env K H B σ δ)(h:exI i cs f δ=some d) :
  ∃c a C od,c∈cs/\d=.bl (f c)/\σ[i]?=some (some (.ref a))/\H a=some (.ext (sr0 a C od))/\W.nsIn K mainGlobals c=some (some (.ref C)):=by
 unfold exI at h;split at h
 ·rename_i c n hδ
  split at h
  ·rename_i hc
   cases h;obtain⟨o,h1,a,rfl,C,od,h2,h3,h4,h5⟩:=Pd.get en.all hδ;exact⟨c,a,C,od,Bh0.mp hc,rfl,h1,h3,h4⟩
  ·cases h
 ·cases h
theorem p60{c:Str}{C':Addr}(a:XC.At K mg c C tl)(n:W.nsIn K mainGlobals c=some (some (.ref C'))):C'=C:=by
 have:=n.symm.trans a.ns;cases this;rfl
theorem a00(T:XC.Tab K mg root r cs rs)(hr:root∉cs){c c':Str}{C':Addr}(h1:c∈cs)(h2:c'∈cs)(a:XC.At K mg c C (.ref r::XC.bmV))(a':XC.At K mg c' C' (.ref r::XC.bmV)) :
  (Value.ref C::Value.ref r::XC.bmV).contains (.ref C')=decide (c=c'):=by
 by_cases e:c=c'
 ·subst e
  rw[p60 a a'.ns,decide_eq_true rfl];simp
 ·rw[decide_eq_false e]
  have n1:C≠C':=λz=>e (T.diff c (.tail _ h1) c' (.tail _ h2) (by rw[a.ns,a'.ns,z]))
  have n2:r≠C':=λz=>hr (by
   have:=T.diff root (.head _) c' (.tail _ h2) (by rw[T.top.ns,a'.ns,z]);rw[this];exact h2)
  simp[Ne.symm n1,Ne.symm n2]
theorem bg0(i:Nat){c':Str}(T:XC.Tab X.K X.mg root r cs rs)(hr:root∉cs)(h':c'∈cs)(hm:X.mg "isinstance"=none)(hi:X.N[i]?=some x:=by rfl)(hgi:Gl X "isinstance" := by rfl)(hgc:Gl X c':=by rfl)
  (hv:Vis X.env.scope x:=by first|exact Or.inl rfl|exact Or.inr (Or.inl rfl)|exact Or.inr (Or.inr rfl)) (hd:(x==("__debug__" : Str))=false:=by decide) (hcd:(x==("__classdict__" : Str))=false:=by decide) (hdc:(c'==("__debug__" : Str))=false:=by decide)
  (s1:starEach [.Name c' pc] X.env=[(false,eval (.Name c' pc) X.env)]:=by rfl) (s2:starEach [.Name x px,.Name c' pc] X.env=(false,eval (.Name x px) X.env)::starEach [.Name c' pc] X.env:=by rfl) (hpl:(backTo pos (starEach [.Name c' pc] X.env)).any (·.1)=false:=by rfl) :
  PD X (.Call (.Name "isinstance" p) [.Name x px,.Name c' pc] [] pos) (exI i cs λc=>decide (c=c')):=.mk λB δ=>by
 obtain⟨C',a'⟩:=T.all c' h';refine(su0 (f60 (tl:=.ref r::XC.bmV)) hgi hm boot_isinstance (Q5 (zh0 hi hv hd hcd) (Q5 (Xa0 a'.mg hgc hdc) zm0 s1) s2) (by decide) (by decide) s2 hpl).imp fun σ H Q ⟨d,en,h,k⟩=>?_
 obtain⟨c,a,C,od,hc,rfl,h1,h2,h3⟩:=W30 en h;obtain⟨C2,a2⟩:=T.all c hc;obtain rfl:=p60 a2 h3;refine⟨.ref a,h1,a,C,C',od,rfl,h2,a2.cl,⟨_,a'.cl⟩,?_⟩;rw[a00 T hr hc h' a2 a'];exact k _ _ (Same.refl _) (by rw[W3])
end
end DL
namespace L2
open Spec PyProof.Rows
abbrev Cx.body(X:Cx)(pn:List (Addr×Obj))(xe:Value->Shared->Prop):Cx:={ X with pn:=pn,xe:=xe }
abbrev Cx.hand(X:Cx)(A:Around):Cx:={ X with A:=A,calm:=false,xe:=λ_ _=>False }
section
variable{pins':List (Addr×Obj)}{σ:St}{s:Shared}{W:Value->Shared->Prop}{A:Around}
theorem Cx.Ok.body(o:X.Ok){pn:List (Addr×Obj)}:(X.body pn W).Ok:=⟨o.mod,o.kind,o.glob,o.blt,o.above,o.inj,o.has,o.cab,o.hd,o.frames,o.stk,o.exf,o.bs,o.bsz,o.noex,o.exfs,o.funs,o.frf⟩
theorem Cx.Ok.unbody{pn:List (Addr×Obj)}(o:(X.body pn W).Ok):X.Ok:=⟨o.mod,o.kind,o.glob,o.blt,o.above,o.inj,o.has,o.cab,o.hd,o.frames,o.stk,o.exf,o.bs,o.bsz,o.noex,o.exfs,o.funs,o.frf⟩
theorem Inv.toBody(I:Inv X pins σ H s):Inv (X.body (X.pn++pins) W) [] σ H s:=⟨I.ok.body,I.os,I.bare,I.base,I.loc,I.cell,I.free,I.freeC,λp hp=>I.pin p (by simpa using hp),I.hok,I.len⟩
theorem Inv.ofBody(I:Inv (X.body (X.pn++pins) W) pins' σ H s):Inv X pins σ H s:=⟨I.ok.unbody,I.os,I.bare,I.base,I.loc,I.cell,I.free,I.freeC,λp hp=>I.pin p (D7 _ hp),I.hok,I.len⟩
theorem FpW.ofBody{b:Addr}(f:FpW (X.body (X.pn++pins) W) pins' H b):FpW X pins H b:=⟨f.1,f.2.1,f.2.2.1,f.2.2.2.1,f.2.2.2.2.1,λp hp=>f.2.2.2.2.2 p (D7 _ hp)⟩
theorem Cx.Ok.hand(o:X.Ok)(hf:A.frames=X.A.frames):(X.hand A).Ok:=⟨o.mod,o.kind,o.glob,o.blt,o.above,o.inj,o.has,o.cab,(λz=>by cases z),hf.trans o.frames,o.stk,o.exf,o.bs,o.bsz,o.noex,o.exfs,o.funs,o.frf⟩
theorem Inv.toHand(I:Inv X pins σ H s)(hf:A.frames=X.A.frames):Inv (X.hand A) pins σ H s:=⟨I.ok.hand hf,I.os,I.bare,I.base,I.loc,I.cell,I.free,I.freeC,I.pin,I.hok,I.len⟩
theorem Inv.ofHand{σ':St}(I:Inv (X.hand A) pins σ H s)(J:Inv X pins σ' H' s'):Inv X pins σ H s:=⟨J.ok,I.os,I.bare,I.base,I.loc,I.cell,I.free,I.freeC,I.pin,I.hok,I.len⟩
end
end L2
namespace DL
open Spec PyProof.Rows L2
section
variable{σ:St}{c:Str}
theorem rj0{s:Sl}{d:D}(hs:∀d,s≠.ow d)(h:(δ.set i s)[j]?=some (.ow d)):j≠i:=by
 rintro rfl
 by_cases hl:j<δ.length
 ·rw[List.getElem?_set_self hl] at h
  cases h;exact hs _ rfl
 ·rw[List.getElem?_eq_none (by simpa using hl)] at h
  cases h
theorem Env.setSl{o:Option V}{s:Sl}(e:Env K H B σ δ)(hs:∀d,s≠.ow d)(r:SlR K H B o s):Env K H B (σ.set i o) (δ.set i s):=by
 refine⟨Pd.set r i e.all,e.bad,λj k b ds es h1 h2 h3 h4=>?_⟩;have hj:=rj0 hs h1;have hk:=rj0 hs h2;rw[List.getElem?_set_ne (A4 hj)] at h1 h3;rw[List.getElem?_set_ne (A4 hk)] at h2 h4;exact e.own j k b ds es h1 h2 h3 h4
theorem EnvS.setSl{o:Option V}{s:Sl}(e:EnvS K H₀ B₀ H σ δ)(hs:∀d,s≠.ow d)(r:∀B,Env K H B σ δ->SlR K H B o s):EnvS K H₀ B₀ H (σ.set i o) (δ.set i s):=by
 obtain⟨B,b1,b2,en⟩:=e.ex;refine⟨e.same,⟨B,b1,b2,en.setSl hs (r B en)⟩,λj ds b h1 h2=>?_,e.b0⟩;have hj:=rj0 hs h1;rw[List.getElem?_set_ne (A4 hj)] at h1 h2;exact e.fr j ds b h1 h2
theorem xdB{n:Option Int}(e:EnvS K H₀ B₀ H σ δ)(x:XdX K H₀ B₀ H σ δ od n):∃B,(∀a,B₀ a->B a)/\(∀a,B a->B₀ a∨H₀ a=none)/\Env K H B σ δ/\de0 H B od n:=by
 cases n with
 | none =>
  obtain⟨B,b1,b2,en⟩:=e.ex;exact⟨B,b1,b2,en,trivial⟩
 | some k =>
  obtain⟨dx,B,h1,h2,h3,b1,b2,en,nb⟩:=x;exact⟨B,b1,b2,en,dx,h1,nb,h3⟩
theorem EnvS.setEx{m:Option Int}(e:EnvS K H₀ B₀ H σ δ)(x:XdX K H₀ B₀ H σ δ od m)(hH:H a=none)(n:W.nsIn K mainGlobals c=some (some (.ref C))):EnvS K H₀ B₀ (upd H a (.ext (sr0 a C od))) (σ.set i (some (.ref a))) (δ.set i (.ex c m)):=by
 obtain⟨B,b1,b2,en,xd⟩:=xdB e x;have nb:¬B a:=λz=>en.bad a z hH
 have J:Env K (upd H a (.ext (sr0 a C od))) B σ δ:=en.same (Z1 hH);have O:de0 (upd H a (.ext (sr0 a C od))) B od m:=by
  cases m with
  | none=>trivial
  | some k =>
   obtain⟨dx,h1,h2,h3⟩:=xd;exact⟨dx,h1,h2,by rw[o7 (V7 h3 hH)];exact h3⟩
 refine⟨e.same.trans (Z1 hH),⟨B,b1,b2,J.setSl (λd z=>nomatch z) ⟨a,rfl,C,od,nb,j6,n,O⟩⟩,λj ds b h1 h2=>?_,e.b0⟩;have hj:=rj0 (s:=.ex c m) (λd z=>nomatch z) h1;rw[List.getElem?_set_ne (A4 hj)] at h1 h2;exact e.fr j ds b h1 h2
end
def jl0(cs:List Str)(i:Nat)(Gb:GZ)(Gh:GS):GS:=fun δ=>match Gb δ with
 | some (.ok (.nx δ'))=>some (.nx δ')
 | some (.ex c n δ')=>if cs.contains c=true then (match Gh (δ'.set i (.ex c n)) with
  | some (.nx δ'')=>some (.nx (δ''.set i .un))
  | _=>none) else none
 | _=>none
section
variable{r:Addr}{body suite:List Stmt}{b₀:Stmt}{hp:Pos}{Gh:GS}
theorem c20:(Value.ref C::Value.ref r::XC.bmV).contains (.ref r)=true:=by simp
theorem am0(i:Nat)(T:XC.Tab X.K X.mg root r cs rs)(hb:∀pn xe,PSsX (X.body pn xe) body Gb)(hh:∀e:Addr,PSsD (X.hand (X.A.mark (some (.ref e)))) (b₀::suite) Gh)(hN:X.N.Nodup)(st:X.stack=X.env::X.outer:=by rfl)
  (hi:X.N[i]?=some x:=by rfl) (hx:X.env.scope.names.lookup x=some .local:=by rfl) (hg:Gl X root:=by rfl) (hdb:(root==("__debug__" : Str))=false:=by decide) :
  PSD X (.Try body [.ExceptHandler (some (.Name root np)) (some x) (b₀::suite) hp] [] [] pos) (jl0 cs i Gb Gh):=.mk λH₀ B₀ δ pins s σ H D I ⟨res,en,e,k⟩=>by
 refine wpAny_Try_except ?_;obtain⟨W,hW⟩:∃W:Value->Shared->Prop,W=λe s₁=>wpAny (model X.prog X.w) X.A (noteFrame e X.env) (λ_ s₂=>wpAny (model X.prog X.w) X.A (setFlight e none) (λ_ s₃=>wpAny (model X.prog X.w) X.A (handleBy e X.env [.ExceptHandler (some (.Name root np)) (some x) (b₀::suite) hp]) (SP X pins D) X.xe s₃) X.xe s₂) X.xe s₁:=⟨_,rfl⟩
 rw[← hW];have I1:Inv (X.body (X.pn++pins) W) [] σ H s:=I.toBody;unfold jl0 at e;cases e1:Gb δ with
 | none=>rw[e1] at e;cases e
 | some rx =>
  rw[e1] at e;have run:∀D1:Ends,Xd0 (X.body (X.pn++pins) W) H₀ B₀ D1 rx->wpAny (model X.prog X.w) X.A (execs body X.env) (SP (X.body (X.pn++pins) W) [] D1) W s:=λD1 k1=>(hb (X.pn++pins) W).go H₀ B₀ δ [] s σ H D1 I1 ⟨rx,en,e1,k1⟩
  cases rx with
  | ok r1 =>
   cases r1 with
   | nx δ' =>
    cases e;refine C5 (run { nx:=D.nx,rt:=λ_ _=>False } k) (λf s1 q=>?_) (λ_ _ z=>z);cases f with
    | next =>
     obtain⟨σ',H',I',q⟩:=q;exact pd0 pins s1 σ' H' D I'.ofBody q
    | ret v=>obtain⟨_,_,_,_,_,z⟩:=q;exact z.elim
    | brk=>obtain⟨_,_,_,z⟩:=q;exact z.elim
    | cont=>obtain⟨_,_,_,z⟩:=q;exact z.elim
   | rt d=>cases e
   | bk δ'=>cases e
   | ct δ'=>cases e
   | rf d=>cases e
  | ex c m δ' =>
   simp only[] at e;split at e
   ·rename_i hc
    have hc:=Bh0.mp hc;split at e
    ·rename_i δ'' e2
     cases e;refine C5 (run { nx:=λ_ _=>False,rt:=λ_ _=>False } fun σ' H' C od en' n xx pins' s1 ea I' lie'=>?_) (λf s1 q=>?_) (λ_ _ z=>z)
     ·show W (.ref ea) s1
      rw[hW];have I2:Inv X pins σ' H' s1:=I'.ofBody;have a3:pf0 X pins H' s1.heap C od ea:=lie'.mono λb z=>z.ofBody
      refine I2.noted st a3 λh2 I3 J=>?_
      obtain⟨C2,a2⟩:=T.all c hc;obtain rfl:=p60 a2 n;obtain⟨oe,vs,he,a6,_⟩:=id J;have I4:Inv (X.hand (X.A.mark (some (.ref ea)))) pins σ' H' { s1 with heap:=h2 }:=I3.toHand rfl;refine wpAny_handleBy_cons (codeAny_handlers_test (xb0 I4 hg T.top.mg (XC.k60 (h:=h2) (a2.cl _ I4.kIn) (T.top.cl _ I4.kIn) he a6 ?_) hdb)) (by intro q;cases q);rw[c20];refine codeAny_handlers_suite_as (I4.flown (C:=C) (od:=od) J λh5 I5 a4=>?_);obtain⟨Y,b0,Z,O,a5,a8,_,a1,_⟩:=id a4;have I6:Inv (X.hand (X.A.mark (some (.ref ea)))) pins σ' (upd H' ea (.ext (sr0 ea C od))) { s1 with heap:=h5 }:=I5.track a1 ⟨Y,Z,O,λdx z=>a5.trans z,b0,a8⟩ ⟨Y,Z⟩ λg1 g2 ⟨o,q1,q2,q3⟩ q=>⟨o,q o q1,q2,q3⟩
      refine u80 (X:=X.hand (X.A.mark (some (.ref ea)))) I6 hN hi (.inl hx) (v:=.ref ea) rfl (λs7 I7=>?_) (.inr hx);refine C5 ((hh ea).go H₀ B₀ (δ'.set i (.ex c m)) pins s7 _ _ { nx:=fun σ H=>EnvS X.K H₀ B₀ H σ δ'',rt:=λ_ _=>False } I7 ⟨.nx δ'',en'.setEx xx a1.1 n,e2,λ_ _ z=>z⟩) (λf s8 q=>?_) (λ_ _ z=>z.elim);cases f with
      | next =>
       obtain⟨σ8,H8,I8,a7⟩:=q;exact(I8.ofHand I2).goes hN hi hx λs9 I9=>⟨_,H8,I9,k _ _ (a7.setSl (λd z=>nomatch z) λ_ _=>trivial)⟩
      | ret v=>obtain⟨_,_,_,_,_,z⟩:=q;exact z.elim
      | brk=>obtain⟨_,_,_,z⟩:=q;exact z.elim
      | cont=>obtain⟨_,_,_,z⟩:=q;exact z.elim
     ·cases f with
      | next=>obtain⟨_,_,_,z⟩:=q;exact z.elim
      | ret v=>obtain⟨_,_,_,_,_,z⟩:=q;exact z.elim
      | brk=>obtain⟨_,_,_,z⟩:=q;exact z.elim
      | cont=>obtain⟨_,_,_,z⟩:=q;exact z.elim
    ·cases e
   ·cases e
end
end DL
namespace DL
open Spec PyProof.Rows L2
def zw0(f:List D->Option DX)(ds:List D):Option D:=match f ds with
 | some (.ok d)=>some d
 | _=>none
theorem ka0{f:List D->Option DX}{d:D}(h:zw0 f ds=some d):f ds=some (.ok d):=by
 unfold zw0 at h;split at h
 ·rename_i e;cases h;exact e
 ·cases h
theorem e20{f:List D->Option DX}{d:D}(h:f ds=some (.ok d)):zw0 f ds=some d:=by
 unfold zw0;rw[h]
section
variable{P:Program}{w:World}
theorem Yw0{k:Nat}{ps:List Str}{f:List D->Option DX}(F:FnOk P w K mg base (CXE P w) k fa fd ps (spX K f)):FnOk P w K mg base CX0 k fa fd ps (spD K (zw0 f)):=by
 have cv:∀{vs H Q E},spD K (zw0 f) vs H Q E->spX K f vs H Q (λ_ _ _=>False):=λ{vs H Q E} ⟨B,ds,d,hb,r,h,q⟩=>⟨B,ds,.ok d,hb,r,ka0 h,q⟩
 refine⟨λvs H Q E h=>F.len vs H Q _ (cv h),λA outer s H J us vs Q E hr e0 hb r sp=>N4 (F.run A outer s H J us vs Q _ hr e0 hb r (cv sp)) λr s' hq=>?_⟩;cases r with
 | error ex =>
  obtain⟨_,_,_,_,_,_,_,_,_,_,z⟩:=hq;exact z.elim
 | ok fl =>
  cases fl with
  | ret u=>exact hq
  | next=>exact hq
  | brk=>exact hq
  | cont=>exact hq
theorem FnX.plain{k:Nat}{ps:List Str}{f:List D->Option DX}(C:FnX P w K mg base x k ps f):FnD P w K mg base x k ps (zw0 f):=by
 obtain⟨fa,fd,F,h⟩:=C.ex;exact⟨fa,fd,Yw0 F,h⟩
end
end DL
namespace DL
open Spec PyProof.Rows L2
@[simp] def dv0(i j k:Nat):D->Ds->Option Ds
 | .tup [a,b,c],δ=>some (((δ.set i (.sh a)).set j (.sh b)).set k (.sh c))
 | _,_=>none
section
variable{e0:Expr}{g:GE}{gA:GA}
theorem c50(i j k:Nat){z:Str}{p2 p3 p4:Pos}{kk}(hN:X.N.Nodup)(hij:i≠j/\i≠k/\j≠k)(hc:X.calm=true:=by rfl)(hi:X.N[i]?=some x:=by rfl)(hj:X.N[j]?=some y:=by rfl)(hk:X.N[k]?=some z:=by rfl)
  (hx:Loc X.env.scope x:=by first|exact Or.inl rfl|exact Or.inr rfl) (hy:Loc X.env.scope y:=by first|exact Or.inl rfl|exact Or.inr rfl) (hz:Loc X.env.scope z:=by first|exact Or.inl rfl|exact Or.inr rfl)
  (hf:X.fn x=true∨X.env.scope.names.lookup x=some .local:=by first|exact .inl rfl|exact .inr rfl|assumption) (hf2:X.fn y=true∨X.env.scope.names.lookup y=some .local:=by first|exact .inl rfl|exact .inr rfl|assumption) (hf3:X.fn z=true∨X.env.scope.names.lookup z=some .local:=by first|exact .inl rfl|exact .inr rfl|assumption)
  (hs1:(assignEach [.Name x p2,.Name y p3,.Name z p4] X.env).map (·.2)=assign (.Name x p2) X.env::(assignEach [.Name y p3,.Name z p4] X.env).map (·.2):=by rfl) (hs2:(assignEach [.Name y p3,.Name z p4] X.env).map (·.2)=assign (.Name y p3) X.env::(assignEach [.Name z p4] X.env).map (·.2):=by rfl) (hs3:(assignEach [.Name z p4] X.env).map (·.2)=assign (.Name z p4) X.env::(assignEach [] X.env).map (·.2):=by rfl)
  (hn:(assignEach [.Name x p2,.Name y p3,.Name z p4] X.env).length=3:=by rfl) (hst:(assignEach [.Name x p2,.Name y p3,.Name z p4] X.env).findIdx? (·.1)=none:=by rfl) :
  PGD X (.Tuple [.Name x p2,.Name y p3,.Name z p4] kk pos) [i,j,k] (dv0 i j k):=.mk λB d δ=>(g80 hc (ws0 (zr0 (i:=i) hN hi hx hf) (ws0 (zr0 (i:=j) hN hj hy hf2) (ws0 (zr0 (i:=k) hN hk hz hf3) kj0 hs3) hs2) hs1) hn hst).imp λv σ H Q ⟨δ',r,en,e1,kq⟩=>by
 unfold dv0 at e1;split at e1
 ·rename_i da db dc
  cases e1;rw[R7] at r;obtain⟨p,xs,rfl,hq,rs⟩:=r;rw[p8] at rs;obtain⟨va,t1,rfl,ra,rs⟩:=rs;rw[p8] at rs;obtain⟨vb,t2,rfl,rb,rs⟩:=rs;rw[p8] at rs;obtain⟨vc,t3,rfl,rc,rs⟩:=rs;rw[m5] at rs;subst rs;refine⟨p,_,rfl,hq.to,rfl,va,[vb,vc],rfl,vb,[vc],rfl,vc,[],rfl,rfl,kq _ ?_ (((en.set i ra).set j rb).set k rc)⟩;refine⟨by simp,λq hq=>?_,λq hq ds h=>?_⟩
  ·have h1:q≠i:=λz=>hq (by rw[z];exact A8)
   have h2:q≠j:=λz=>hq (by rw[z];exact A5 _ A8)
   have h3:q≠k:=λz=>hq (by rw[z];exact A5 _ (A5 _ A8))
   rw[List.getElem?_set_ne (A4 h3),List.getElem?_set_ne (A4 h2),List.getElem?_set_ne (A4 h1),List.getElem?_set_ne (A4 h3),List.getElem?_set_ne (A4 h2),List.getElem?_set_ne (A4 h1)];exact⟨rfl,rfl⟩
  ·rcases get_set h with⟨rfl,e3,_⟩|⟨n1,e3⟩
   ·cases e3
   ·rcases get_set e3 with⟨rfl,e4,_⟩|⟨n2,e4⟩
    ·cases e4
    ·rcases get_set e4 with⟨rfl,e5,_⟩|⟨n3,e5⟩
     ·cases e5
     ·simp at hq
      rcases hq with z|z|z
      ·exact n3 z.symm
      ·exact n2 z.symm
      ·exact n1 z.symm
 ·cases e1
end
end DL
namespace DL
open Spec PyProof.Rows L2
def cpX(i j:Nat):GS:=fun δ=>match δ[j]? with
 | some (.ex c n)=>some (.nx (δ.set i (.ex c n)))
 | _=>none
section
variable{a0:Expr}{gA:GA}{posg pg:Pos}
theorem ap0(i j:Nat)(hN:X.N.Nodup)(hj:X.N[j]?=some x:=by rfl)(hi:X.N[i]?=some y:=by rfl)(hx:Loc X.env.scope y:=by first|exact Or.inl rfl|exact Or.inr rfl)(hf:X.fn y=true∨X.env.scope.names.lookup y=some .local:=by first|exact .inl rfl|exact .inr rfl|assumption)
  (hv:Vis X.env.scope x:=by first|exact Or.inl rfl|exact Or.inr (Or.inl rfl)|exact Or.inr (Or.inr rfl)) (hd:(x==("__debug__" : Str))=false:=by decide) (hcd:(x==("__classdict__" : Str))=false:=by decide)
  {ap:Pos} (hs:swapsWithSole [.Name y px] (.Name x p) ap.line X.env=pure false:=by rfl) (hw:swappedStores [.Name y px] (.Name x p) X.env=pure none:=by rfl)
  (h1:(assignEach [.Name y px] X.env).map (·.2)=[assign (.Name y px) X.env]:=by rfl) :
  PSD X (.Assign [.Name y px] (.Name x p) ap) (cpX i j):=.mk λH₀ B₀ δ pins s σ H D I ⟨r,en,e1,k⟩=>by
 unfold cpX at e1;split at e1
 ·rename_i c n hδ
  cases e1;obtain⟨B,b1,b2,env⟩:=en.ex;obtain⟨o,ho,a,rfl,xc⟩:=Pd.get env.all hδ;refine t80 (zh0 (i:=j) hj hv hd hcd) (zr0 (i:=i) hN hi hx hf) hs hw h1 pins s σ H D I ⟨.ref a,ho,?_⟩;exact k _ H (en.setSl (λd z=>nomatch z) λB' O=>by
   obtain⟨o',J,a',e',Y⟩:=Pd.get O.all hδ;rw[ho] at J;cases J;cases e';exact⟨a,rfl,Y⟩)
 ·cases e1
end
end DL
namespace L2
open Spec PyProof.Rows
def cq0(K:W.Frag):R2:=λx y H Q=>∃a xs k,x=.ref a/\y=.int k/\SqL K H a xs/\xs≠[]/\0<=k/\k<2 ^ 62/\xs.length*k.toNat<=2 ^ 20/\∀p,H p=none->Q (.ref p) (upd H p (.lst (List.replicate k.toNat xs).flatten))
theorem bb0:OpR X (binaryOp .Mult) (cq0 X.K):=by
 intro pins s σ H x y v u Q I rx ry h;obtain⟨a,xs,k,rfl,rfl,ha,hx,h2,h3,hz,q⟩:=h;cases rx;obtain⟨t,rfl⟩:=ry;obtain⟨its,r1,p1,_⟩:=I.list ha;obtain⟨⟨cls,dd,data,sl⟩,ho,hc,n,hd⟩:=p1.isList;simp only at hc hd;subst hc hd;have hl:=r1.length;have he:its.toArray.isEmpty=false:=by
  cases its with
  | nil=>exact absurd (r1.nil_iff.mp rfl) hx
  | cons a b=>rfl
 have J:its.toArray.size*k.toNat<=2 ^ 20:=by rw[List.size_toArray,← hl];exact hz
 have O:(List.replicate (if its.toArray.isEmpty=true then 0 else k.toNat) its.toArray).foldl (·++·) #[]=(List.replicate k.toNat its).flatten.toArray:=by
  rw[he];have:=foldl_rep its k.toNat [];rw[List.nil_append] at this;exact this
 have a1:¬(!Builtin.List.listFitsIndex k)=true:=by
  have:Builtin.List.listFitsIndex k=true:=by unfold Builtin.List.listFitsIndex;simp;omega
  rw[this];decide
 have Y:¬its.toArray.size*k.toNat > (2 ^ 63 - 1)/8:=by omega
 have Z:¬Builtin.List.listTooLong (its.toArray.size*k.toNat)=true:=by
  rw[List.size_toArray] at J ⊢;unfold Builtin.List.listTooLong;simp;unfold sizeLine;omega
 refine wpAny_binaryOp_repeat_ref (T := "list") (U := "int") (by decide) ⟨_,ho,rfl⟩ (λs'=>N9 s' k t) noFill_list_mul F.fills_int_mul F.slot_int_rmul repeat_list F.slot_int_index.lookup
  (K2 F.slot_int_rmul (N9 s k t) F.entry_int_rmul (F.args_int_rmul_2 _ _) (lm_int_rmul_list_any k t a its.toArray n dd sl)
   ⟨ho,rfl,⟨_,ho,rfl⟩,K2 F.slot_list_mul ⟨_,ho,rfl⟩ F.entry_list_mul (F.args_list_mul_2 _ _) (lm_list_mul_any a its.toArray n dd sl k t a1 Y Z) ⟨ho,?_⟩⟩)
 rw[O];exact⟨.ref _,_,I.lnew (t':=s.toks) (r1.rep k.toNat) (by rw[len_rep,Nat.mul_comm];unfold sizeLine;omega),rfl,q _ I.fresh⟩
end L2
namespace DL
open Spec PyProof.Rows L2
def mulL:D->D->Option D
 | .lst xs,.int k=>if xs≠[]/\0<=k/\k<2 ^ 62/\xs.length*k.toNat<=2 ^ 20 then some (.lst (List.replicate k.toNat xs).flatten) else none
 | _,_=>none
section
variable{a:Expr}{ga gb:GE}{tg:Expr}
theorem d40:Op2 K (cq0 K) mulL:=by
 intro H B x y dx dy d Q hb rx ry h k;unfold mulL at h;split at h
 ·split at h
  ·rename_i hz
   cases h;rw[W4] at rx;rw[j8] at ry;subst ry;obtain⟨a,xs,rfl,q1,r1⟩:=rx;refine⟨a,xs,_,rfl,rfl,q1.to,λz=>hz.1 ?_,hz.2.1,hz.2.2.1,by rw[r1.length];exact hz.2.2.2,λp hp=>k _ _ (Z1 hp) (pa0 hb hp (kl0 r1 _))⟩;subst z;have hn:=r1.length;simp at hn;exact X2.mp hn.symm
  ·cases h
 ·cases h
theorem s30(ha:PD X a ga)(hb:PD X b gb):PD X (.BinOp a .Mult b pos) (o2 ga gb mulL):=vf0 bb0 d40 ha hb
end
def qh0(gA:GA)(f:List D->Option DX):GZ:=fun δ=>(gA δ).bind λds=>(f ds).map λr=>match r with
 | .ok _=>.ok (.nx δ)
 | .ex c n=>.ex c n δ
section
variable{gA:GA}
theorem fn0{k m:Nat}{ps:List Str}{f:List D->Option DX}(C:FnX X.prog X.w X.K X.mg X.base x k ps f)(hr:Room m X.A)(hk:k<=m)(ha:PDA X (e::es) gA)
  (hg:Gl X x:=by rfl) (hdb:(x==("__debug__" : Str))=false:=by decide) (he:starEach (e::es) X.env=(false,eval e X.env)::starEach es X.env:=by rfl) (hpl:(backTo pos (starEach es X.env)).any (·.1)=false:=by rfl)
  {ap:Pos} (hs:swapsWith (.Call (.Name x p) (e::es) [] pos) none ap.line X.env=pure false:=by rfl) :
  PSX X (.Expr (.Call (.Name x p) (e::es) [] pos) ap) (qh0 gA f):=.mk λH₀ B₀ δ pins s σ H D I ⟨r,en,e1,k⟩=>by
 unfold qh0 at e1;obtain⟨B,b1,b2,env⟩:=en.ex;obtain⟨fa,fd,F,hm,J,hb⟩:=C.ex;cases e2:gA δ with
 | none=>rw[e2] at e1;cases e1
 | some ds =>
  rw[e2,Option.bind_some] at e1;cases e3:f ds with
  | none=>rw[e3] at e1;cases e1
  | some dx =>
   rw[e3] at e1;cases e1;refine p00 (nv0 (dvs:=[]) (ds:=[]) F (hr.mono hk) hg hm J hb .nil (ha B δ) hdb he hpl) hs pins s σ H D I ⟨ds,env,e2,λvs H1 s1 r1=>?_⟩;show spX X.K f (vs++[]) H1 _ _;rw[List.append_nil];refine⟨B,ds,dx,(env.same s1).bad,r1,e3,?_⟩;cases dx with
   | ok d=>exact λv H' s2 r2=>k _ H' (en.grow (s1.trans s2))
   | ex c m =>
    intro C od H' s2 n x C' q;cases q;refine k σ H' C od (en.grow (s1.trans s2)) n ?_;cases m with
    | none=>trivial
    | some m =>
     obtain⟨dx,e,x1,x2⟩:=x;exact⟨dx,B,e,o70 (en.same.trans s1) x1,x2,b1,b2,env.same (s1.trans s2),λz=>(env.same s1).bad dx z x1⟩
end
def atC(ys:List Str):D->Option D
 | .int i=>(L2.atI ys i).map D.str
 | _=>none
section
variable{a0 ix:Expr}{gi gb:GE}{gA:GA}{posg pg p5 rp:Pos}
theorem ew0(ys:List Str)(i:Int):L2.atI (ys.map V.str) i=(L2.atI ys i).map V.str:=by
 unfold L2.atI;rw[List.length_map];cases L2.ixN ys.length i with
 | none=>rfl
 | some j=>simp
theorem Zp0{ys:List Str}(hK:ek0 X.K X.mg x ys)(hb:PD X b gb)(hg:Gl X x:=by rfl)(hd:(x==("__debug__" : Str))=false:=by decide)(hs:s70 b:=by exact λ_ _=>rfl) :
  PD X (.Subscript (.Name x p0) b pos) (unG (atC ys) gb):=.mk λB δ=>by
 obtain⟨p,o,its,n,hm,hk,hc,Y,J,O,hv⟩:=hK;refine(cy0 h90 (p90 (v:=.ref p) hg hm rfl hd) (hb B δ) hs).imp fun σ H Q ⟨d,en,h,k⟩=>?_
 unfold unG at h;cases e2:gb δ with
 | none=>rw[e2] at h;cases h
 | some dk =>
  rw[e2,Option.bind_some] at h;unfold atC at h;split at h
  ·rename_i i
   cases e3:L2.atI ys i with
   | none=>rw[e3] at h;cases h
   | some y =>
    rw[e3] at h;cases h;refine⟨_,en,e2,λv H1 s1 r1=>?_⟩;rw[j8] at r1;subst r1;exact⟨p,ys.map V.str,i,.str y,rfl,rfl,.inr ⟨o,its,n,hk,hc,J,O,hv⟩,by rw[ew0,e3];rfl,k _ H1 s1 (by rw[Y9])⟩
  ·cases h
end
def N8{α:Type}(xs:List α)(lo hi st:Option Int):List α:=(sliceRange (sliceBounds lo hi st xs.length).1 (sliceBounds lo hi st xs.length).2.1 (sliceBounds lo hi st xs.length).2.2).filterMap (xs[·]?)
theorem lg0(r:Rps K H B ds xs):∀l:List Nat,Rps K H B (l.filterMap (ds[·]?)) (l.filterMap (xs[·]?))
 | []=>by rw[List.filterMap_nil,List.filterMap_nil,m5]
 | i::l=>by
  have ih:=lg0 r l;cases e:ds[i]? with
  | none =>
   have e2:xs[i]?=none:=S4.mpr (by rw[r.length];exact S4.mp e);rw[List.filterMap_cons_none e,List.filterMap_cons_none e2];exact ih
  | some d =>
   obtain⟨x,ex,rx⟩:=r.get e;rw[List.filterMap_cons_some e,List.filterMap_cons_some ex,p8];exact⟨_,_,rfl,rx,ih⟩
theorem ps0(r:Vals xs us):∀l:List Nat,Vals (l.filterMap (xs[·]?)) (l.filterMap (us[·]?))
 | []=>.nil
 | i::l=>by
  have ih:=ps0 r l;cases e:xs[i]? with
  | none =>
   rw[List.filterMap_cons_none e,List.filterMap_cons_none (r.none_of e)];exact ih
  | some d =>
   obtain⟨u,eu,ru⟩:=r.get e;rw[List.filterMap_cons_some e,List.filterMap_cons_some eu];exact .cons ru ih
section
variable{lo hi st:Option Expr}{tl th ts:TO}
def Vl0(K:W.Frag)(te:TE)(tl th ts:TO):TE:=fun σ H Q=>te σ H λx H1=>tl σ H1 λl H2=>th σ H2 λu H3=>ts σ H3 λc H4=>∃a xs,x=.ref a/\SqL K H4 a xs/\c≠some 0/\∀p,H4 p=none->Q (.ref p) (upd H4 p (.lst (N8 xs l u c)))
theorem aj0(he:PE X e te)(hl:PO X lo tl)(hu:PO X hi th)(hst:PO X st ts)(hsub:∀o i,subscripted (.Slice lo hi st p2) false o i=operate [o,i] (getItem o i):=by intros;with_unfolding_all rfl):PE X (.Subscript e (.Slice lo hi st p2) pos) (Vl0 X.K te tl th ts):=by
 intro pins s σ H Q I h;refine Subscript_ (thn (he pins s σ H _ I h) λv s1 ⟨x,H1,I1,r1,q1⟩=>?_);refine wpAny_Slice (thn (hl pins s1 σ H1 _ I1 q1) λvl s2 ⟨l,H2,I2,pl,q2⟩=>thn (hu pins s2 σ H2 _ I2 q2) λvu s3 ⟨u,H3,I3,pu,q3⟩=>thn (hst pins s3 σ H3 _ I3 q3) λvc s4 ⟨c,H4,I4,pc,a,xs,ex,hx,hc,q⟩=>?_);subst ex;cases r1;have I5:Inv X pins σ H4 { s4 with heap:=s4.heap.push { cls:=.type "slice",data:=.fields #[vl,vu,vc] } }:=I4.kept (t':=s4.toks) λb ob q=>A7 _ q
 obtain⟨its,r,ht,hz⟩:=I5.list hx;have O:=r.length;have hg:wpAny (model X.prog X.w) X.A (getItem (.ref a) (.ref s4.heap.objs.size)) (EP X pins σ Q) X.xe { s4 with heap:=s4.heap.push { cls:=.type "slice",data:=.fields #[vl,vu,vc] } }:=by
  refine Af0 ht.isList (Heap.IsSliceOf.new ..) pl pu pc hc ?_ (by rw[List.size_toArray]<;>omega);refine⟨.ref _,_,I5.laid (t':=s4.toks) (o:=.lst (N8 xs l u c)) (λb ob q=>A7 _ q) (A1 _) ?_,rfl,q _ (I5.hok.fresh (A1 _))⟩;have hp:slicePick its.toArray l u c=(N8 its l u c).toArray:=by
   unfold slicePick N8;simp
  have Y:(N8 its l u c).length<=its.length:=by
   have:=slicePick_size_le its.toArray l u c;rw[hp] at this
   simpa using this
  have J:Vals (N8 xs l u c) (N8 its l u c):=by
   unfold N8;rw[O];exact ps0 r _
  exact⟨by rw[J.length];omega,N8 its l u c,0,J,by rw[hp];exact B9 _ rfl⟩
 exact tail_any (ops:=[.ref a,.ref s4.heap.objs.size]) ht.isList.typeIs k7.lookup hg (hsub _ _)
def tv0(g:GE)(gl gh gs:Ds->Option (Option Int)):GE:=fun δ=>(g δ).bind λd=>(gl δ).bind λlo=>(gh δ).bind λhi=>(gs δ).bind λc=>match d with
 | .lst xs=>if c≠some 0 then some (.lst (N8 xs lo hi c)) else none
 | _=>none
theorem jd0{g:GE}{gl gh gs:Ds->Option (Option Int)}(he:PD X e g)(hl:PDO X lo gl)(hh:PDO X hi gh)(hs:PDO X st gs)(hsub:∀o i,subscripted (.Slice lo hi st p2) false o i=operate [o,i] (getItem o i):=by intros;with_unfolding_all rfl) :
  PD X (.Subscript e (.Slice lo hi st p2) pos) (tv0 g gl gh gs):=.mk λB δ=>(aj0 (he B δ) (hl B δ) (hh B δ) (hs B δ) hsub).imp fun σ H Q ⟨d,en,h,k⟩=>by
 unfold tv0 at h;cases e1:g δ with
 | none=>rw[e1] at h;cases h
 | some x =>
  rw[e1,Option.bind_some] at h;cases e2:gl δ with
  | none=>rw[e2] at h;cases h
  | some l =>
   rw[e2,Option.bind_some] at h;cases e3:gh δ with
   | none=>rw[e3] at h;cases h
   | some u =>
    rw[e3,Option.bind_some] at h;cases e4:gs δ with
    | none=>rw[e4] at h;cases h
    | some c =>
     rw[e4,Option.bind_some] at h;split at h
     ·rename_i xs
      split at h
      ·rename_i hc
       cases h;refine⟨_,en,e1,λv H1 s1 r1=>⟨l,en.same s1,(by first|exact e2|rfl),λH2 s2=>⟨u,en.same (s1.trans s2),(by first|exact e3|rfl),λH3 s3=>⟨c,en.same ((s1.trans s2).trans s3),(by first|exact e4|rfl),λH4 s4=>?_⟩⟩⟩⟩;have r4:=((r1.same s2).same s3).same s4;rw[W4] at r4;obtain⟨a,ys,rfl,hq,rr⟩:=r4;have J:=((s1.trans s2).trans s3).trans s4;refine⟨a,ys,rfl,hq.to,hc,λp hp=>k _ _ (J.trans (Z1 hp)) ?_⟩;rw[W4];refine⟨p,_,rfl,.inl ⟨(en.same J).free hp,.inl j6⟩,?_⟩;have:Rps X.K H4 B (N8 xs l u c) (N8 ys l u c):=by
        unfold N8;rw[rr.length];exact lg0 rr _
       exact this.same (Z1 hp)
      ·cases h
     ·cases h
end
def lent(p:Addr)(l:List D):D:=.tup [.int (p:Int),.lst l]
def But(p:Addr)(H H':Hp):Prop:=∀b o,b≠p->H b=some o->H' b=some o
section
variable{σ:St}
theorem sq0{p:Addr}{l:List D}:RpL K H B (lent p l) a↔a=p/\∃xs,H a=some (.lst xs)/\Rps K H B l xs:=by
 constructor
 ·rintro⟨ds,e,xs,h,r⟩
  cases e;exact⟨rfl,xs,h,r⟩
 ·rintro⟨rfl,xs,h,r⟩
  exact⟨l,rfl,xs,h,r⟩
theorem Gr.but{p:Addr}(hb:B p)(h:But p H H'):Gr H H' B B:=λb u n e=>⟨n,h b u (λz=>n (z▸hb)) e⟩
theorem Env.mutB(e:Env K H B σ δ){d:D}(hi:δ[i]?=some (.ow d0))(hs:σ[i]?=some (some (.ref a)))(hh:But a H H')(r:RpL K H' B d a):Env K H' B σ (δ.set i (.ow d)):=by
 obtain⟨a',h1,hb,_⟩:=e.at hi;rw[hs] at h1;cases h1;refine⟨?_,λb z=>?_,λj k b ds es h1 h2 h3 h4=>?_⟩
 ·have h0:Paired (λ(o':Option V) (s:Sl)=>SlR K H' B o' s∨(∃d,s=.ow d/\o'=some (.ref a))) σ δ:=Pd.imp (λo' s h=>by
   cases s with
   | un=>exact .inl trivial
   | ex c n=>obtain⟨v,e,r⟩:=h;exact .inl ⟨v,e,r.mono (Gr.but hb hh)⟩
   | sh d=>obtain⟨v,e,r⟩:=h;exact .inl ⟨v,e,r.mono (Gr.but hb hh)⟩
   | ow d =>
    obtain⟨b,e,O,r⟩:=h
    by_cases z:b=a
    ·subst z;exact .inr ⟨d,rfl,e⟩
    ·exact .inl ⟨b,e,O,r.mono (λo h=>hh b o z h) (Gr.but hb hh)⟩) e.all
  have h1:=Pd.setR (i:=i) (b:=Sl.ow d) (.inl ⟨a,rfl,hb,r⟩) hs h0;refine Pd.impI (λj o' s e1 e2 h=>?_) h1;rcases h with h|⟨d',rfl,rfl⟩
  ·exact h
  ·rcases get_set e2 with⟨rfl,e3,_⟩|⟨J,e3⟩
   ·cases e3;exact⟨a,rfl,hb,r⟩
   ·exact absurd (e.own i j a d0 d' hi e3 hs e1) J
 ·by_cases z':b=a
  ·subst z';exact r.live
  ·cases q:H b with
   | none=>exact absurd q (e.bad b z)
   | some o=>exact .of (hh b o z' q) λob u w=>(e.bad b z).nf ob u (by rw[q,w])
 ·have q1:∃d,δ[j]?=some (.ow d):=by
   rcases get_set h1 with⟨rfl,_,_⟩|⟨_,h⟩
   ·exact⟨_,hi⟩
   ·exact⟨_,h⟩
  have q2:∃d,δ[k]?=some (.ow d):=by
   rcases get_set h2 with⟨rfl,_,_⟩|⟨_,h⟩
   ·exact⟨_,hi⟩
   ·exact⟨_,h⟩
  obtain⟨d1,q1⟩:=q1;obtain⟨d2,q2⟩:=q2;exact e.own j k b d1 d2 q1 q2 h3 h4
theorem EnvS.mutB(en:EnvS K H₀ B₀ H σ δ)(b1:∀a,B₀ a->B a)(b2:∀a,B a->B₀ a∨H₀ a=none){d:D}(hi:δ[i]?=some (.ow d0))(hs:σ[i]?=some (some (.ref a)))(hh:But a H H')
  (env:Env K H' B σ (δ.set i (.ow d))):EnvS K H₀ B₀ H' σ (δ.set i (.ow d)):=by
 have h0:=en.fr i d0 a hi hs;refine⟨λb u h=>?_,⟨B,b1,b2,env⟩,λj ds b h1 h2=>?_,en.b0⟩
 ·have:b≠a:=λz=>by rw[z,h0] at h;cases h
  exact hh _ _ this (en.same b u h)
 ·rcases get_set h1 with⟨rfl,_,_⟩|⟨_,h⟩
  ·rw[hs] at h2;cases h2;exact h0
  ·exact en.fr j ds b h h2
end
def spM(K:W.Frag)(me:Bool)(f:List D->Option (List D)):Sp:=λvs H Q _=>∃(B:BS) (ds:List D) (us:List V) (p:Addr) (l l':List D),(∀a,B a->NB (H a))/\B p/\vs=us++[.ref p]/\Rps K H B ds us/\(∃xs,H p=some (.lst xs)/\Rps K H B l xs)/\f (ds++[.lst l])=some l' /\
 ∀H',But p H H'->(∃xs,H' p=some (.lst xs)/\Rps K H' B l' xs)->Q (if me=true then .ref p else .non) H'
structure FnM(P:Program)(w:World)(K:W.Frag)(mg:Str->Option Value)(base:Heap)(x:Str)(k:Nat)(ps:List Str)(me:Bool)(f:List D->Option (List D)):Prop where
 ex:∃fa fd,FnOk P w K mg base CX0 k fa fd ps (spM K me f)/\mg x=some (.ref fa)/\W.keepIn K (.ref fa)=true/\Binds K fd ps []
@[simp] def M7(N:List Str)(ds:List D)(p:Addr)(l:List D):Ds:=ds.map .sh++.ow (lent p l)::List.replicate (N.length - (ds.length+1)) .un
theorem tj0{p:Addr}{l:List D}{d:D}(h:(M7 N ds p l)[i]?=some (.ow d)):i=ds.length/\d=lent p l:=by
 unfold M7 at h
 by_cases hi:i<ds.length
 ·rw[List.getElem?_append_left (by simpa using hi),List.getElem?_map] at h
  cases q:ds[i]? with
  | none=>rw[q] at h;cases h
  | some x=>rw[q] at h;cases h
 ·rw[List.getElem?_append_right (by simpa using hi),List.length_map] at h
  cases q:i - ds.length with
  | zero=>rw[q] at h;cases h;exact⟨by omega,rfl⟩
  | succ n =>
   rw[q,List.getElem?_cons_succ,List.getElem?_replicate] at h;split at h<;>cases h
section
variable{P:Program}{w:World}
theorem okM{ps:List Str}{k:Nat}{me:Bool}{f:List D->Option (List D)}{G:Ds->Option Res}(F:Fun K x qual st fa fd)(S:FnScope N ps (u5 st))
  (body:∀(cdv:Value) (A:Around) (outer:List PySem.Env) (s:Shared) (H:Hp) (E:XK),Room k (A.deeper (envOfC qual (u5 st) s.heap.objs.size fa cdv))->PSsD (zv0 CX0 P w K mg base N qual (u5 st) fa cdv A outer s H E).nox (Z2 st) G)
  (hf:∀ds l l',f (ds++[.lst l])=some l'->(ds++[D.lst l]).length=ps.length/\∀p,(me=true/\G (M7 N ds p l)=some (.rf (lent p l')))∨(me=false/\∃δ',G (M7 N ds p l)=some (.nx δ')/\δ'[ds.length]?=some (.ow (lent p l')))) :
  FnOk P w K mg base CX0 (k+1) fa fd ps (spM K me f):=by
 refine F.ok S (λvs H Q E ⟨B,ds,us,p,l,l',_,_,hv,r,_,h,_⟩=>?_) (λcdv A outer s H vs Q E hr ⟨B,ds,us,p,l,l',hb,hp,hv,r,⟨xs,hx,rx⟩,h,q⟩=>?_)
 ·rw[hv,List.length_append,r.length]
  have:=(hf ds l l' h).1;rw[List.length_append] at this;exact this
 ·subst hv
  refine⟨_,body cdv A outer s H E hr (λa=>if a=p then none else H a) (λa=>B a/\a≠p) (M7 N ds p l),?_⟩;have sm:Same (λa=>if a=p then none else H a) H:=λb o e=>by
   by_cases z:b=p
   ·simp only[z,if_true] at e;cases e
   ·simp only[z,if_false] at e;exact e
  have sb:∀{H':Hp},Same (λa=>if a=p then none else H a) H'->But p H H':=λs' b o z e=>s' b o (by simp only[z,if_false];exact e)
  have en:EnvS K (λa=>if a=p then none else H a) (λa=>B a/\a≠p) H (L2.start N (us++[.ref p])) (M7 N ds p l):=by
   refine⟨sm,⟨B,λ_ z=>z.1,λa z=>?_,⟨?_,hb,λi j a O es h1 h2 _ _=>?_⟩⟩,λi O a h1 h2=>?_,λa z=>?_⟩
   ·by_cases q:a=p
    ·exact .inr (by simp only[q,if_true])
    ·exact .inl ⟨z,q⟩
   ·unfold L2.start M7
    rw[List.map_append,List.append_assoc,List.length_append,r.length];exact Pd.app (J4 (N:=N) r) (.cons ⟨p,rfl,hp,sq0.mpr ⟨rfl,xs,hx,rx⟩⟩ (zz0 _))
   ·rw[(tj0 h1).1,(tj0 h2).1]
   ·obtain⟨rfl,_⟩:=tj0 h1
    have:(L2.start N (us++[.ref p]))[ds.length]?=some (some (.ref p)):=by
     unfold L2.start;rw[← r.length,List.map_append,List.append_assoc,List.getElem?_append_right (by simp),List.length_map,Nat.sub_self];rfl
    rw[this] at h2;cases h2;simp only[if_true]
   ·simp only[z.2,if_false]
    exact hb a z.1
  have less:∀a,B a->(B a/\a≠p)∨a=p:=λa z=>by
   by_cases q:a=p
   ·exact .inr q
   ·exact .inl ⟨z,q⟩
  rcases (hf ds l l' h).2 p with⟨m,e⟩|⟨m,δ',e,e'⟩
  ·refine⟨_,en,e,λa H' _ s' r'=>?_⟩
   obtain⟨rfl,ys,hy,ry⟩:=sq0.mp r';have:=q H' (sb s') ⟨ys,hy,ry.mono (Gr.less less)⟩;rw[m] at this;exact this
  ·refine⟨_,en,e,fun σ' H' en'=>?_⟩
   obtain⟨B',c1,c2,J⟩:=en'.ex;obtain⟨a,h1,hB,rl⟩:=J.at e';obtain⟨rfl,ys,hy,ry⟩:=sq0.mp rl;have:=q H' (sb en'.same) ⟨ys,hy,ry.mono (Gr.less λb z=>by
    by_cases q:b=a
    ·rw[q];exact hB
    ·exact c1 b ⟨z,q⟩)⟩
   rw[m] at this;exact this
end
def y40(i:Nat)(gA:GA)(f:List D->Option (List D)):GS:=fun δ=>(gA δ).bind λds=>match δ[i]? with
 | some (.ow (.lst l))=>(f (ds++[.lst l])).map λl'=>.nx (δ.set i (.ow (.lst l')))
 | some (.ow (.tup [.int p,.lst l]))=>(f (ds++[.lst l])).map λl'=>.nx (δ.set i (.ow (.tup [.int p,.lst l'])))
 | _=>none
structure PAM(X:Cx)(i:Nat)(es:List Expr)(gA:GA):Prop where
 mk::go:∀B δ,PA X es (fun σ H Q=>∃ds a,Env X.K H B σ δ/\gA δ=some ds/\σ[i]?=some (some (.ref a))/\∀vs H',Same H H'->Rps X.K H' B ds vs->Q (vs++[.ref a]) H')
section
variable{g:GE}{gA:GA}
theorem qz0(i:Nat)(hN:X.N[i]?=some y:=by rfl)(hv:Vis X.env.scope y:=by first|exact Or.inl rfl|exact Or.inr (Or.inl rfl)|exact Or.inr (Or.inr rfl))(hd:(y==("__debug__" : Str))=false:=by decide)(hcd:(y==("__classdict__" : Str))=false:=by decide)
  (hs:starEach [.Name y px] X.env=(false,eval (.Name y px) X.env)::starEach [] X.env:=by rfl):PAM X i [.Name y px] v4:=.mk λB δ=>(Q5 (zh0 (i:=i) hN hv hd hcd) zm0 hs).imp fun σ H Q ⟨ds,a,en,h,hi,k⟩=>by
 cases h;exact⟨_,hi,k [] H (Same.refl H) (by rw[m5])⟩
theorem xd0(ha:PD X e g)(hr:PAM X i es gA)(hs:starEach (e::es) X.env=(false,eval e X.env)::starEach es X.env:=by rfl):PAM X i (e::es) (z7 g gA) :=
 .mk λB δ=>(Q5 (ha B δ) (hr.go B δ) hs).imp fun σ H Q ⟨ds,a,en,h,hi,k⟩=>by
  unfold z7 at h;cases e1:g δ with
  | none=>rw[e1] at h;cases h
  | some d =>
   cases e2:gA δ with
   | none=>rw[e1,e2] at h;cases h
   | some es' =>
    rw[e1,e2] at h;cases h;refine⟨d,en,e1,λv H1 s1 r1=>⟨es',a,en.same s1,rfl,hi,λvs H2 s2 r2=>?_⟩⟩;have:=k (v::vs) H2 (s1.trans s2) (by rw[p8];exact⟨v,vs,rfl,r1.same s2,r2⟩);exact this
theorem uw0(i:Nat){k m:Nat}{ps:List Str}{f:List D->Option (List D)}(C:FnM X.prog X.w X.K X.mg X.base x k ps me f)(hr:Room m X.A)(hk:k<=m)(ha:PAM X i (e::es) gA)
  (hg:Gl X x:=by rfl) (hdb:(x==("__debug__" : Str))=false:=by decide) (he:starEach (e::es) X.env=(false,eval e X.env)::starEach es X.env:=by rfl) (hpl:(backTo pos (starEach es X.env)).any (·.1)=false:=by rfl)
  {ap:Pos} (hs:swapsWith (.Call (.Name x p) (e::es) [] pos) none ap.line X.env=pure false:=by rfl) :
  PSD X (.Expr (.Call (.Name x p) (e::es) [] pos) ap) (y40 i gA f):=.mk λH₀ B₀ δ pins s σ H D I ⟨r,en,e1,kk⟩=>by
 unfold y40 at e1;obtain⟨B,b1,b2,env⟩:=en.ex;obtain⟨fa,fd,F,hm,a1,hb⟩:=C.ex;cases e2:gA δ with
 | none=>rw[e2] at e1;cases e1
 | some ds =>
  rw[e2,Option.bind_some] at e1;have go:∀{d0:DL.D} {l l':List DL.D} (mk:List DL.D->DL.D),δ[i]?=some (.ow d0)->d0=mk l->(∀a,RpL X.K H B d0 a->∃xs,H a=some (.lst xs)/\Rps X.K H B l xs)->(∀H' a,RpL X.K H B d0 a->(∃xs,H' a=some (.lst xs)/\Rps X.K H' B l' xs)->RpL X.K H' B (mk l') a)->f (ds++[.lst l])=some l' ->
    e80 X.K H₀ B₀ D (.nx (δ.set i (.ow (mk l'))))->wpAny (model X.prog X.w) X.A (exec (.Expr (.Call (.Name x p) (e::es) [] pos) ap) X.env) (SP X pins D) X.xe s:=by
   intro d0 l l' mk hi hd h1 h2 hf hD;obtain⟨a,J,hB,ro⟩:=env.at hi;obtain⟨xs,hx,rx⟩:=h1 a ro;refine p00 (p80 (E:=E0) F (hr.mono hk) hg hm a1 hb .nil nf0 (ha.go B δ) hdb he hpl) hs pins s σ H D I ⟨ds,a,env,e2,J,λvs H1 s1 r1=>?_⟩;show spM X.K me f ((vs++[.ref a])++[]) H1 _ _;rw[List.append_nil];refine⟨B,ds,vs,a,l,l',(env.same s1).bad,hB,rfl,r1,⟨xs,s1 _ _ hx,rx.same s1⟩,hf,λH' hh Z=>?_⟩;have O:But a H H':=λb o n e=>hh b o n (s1 b o e)
   have Y:Env X.K H' B σ (δ.set i (.ow (mk l'))):=env.mutB hi J O (h2 H' a ro Z);exact hD σ H' (en.mutB b1 b2 hi J O Y)
  split at e1
  ·rename_i l hi
   cases e3:f (ds++[.lst l]) with
   | none=>rw[e3] at e1;cases e1
   | some l' =>
    rw[e3] at e1;cases e1;exact go .lst hi rfl (λa h=>h) (λH' a _ h=>h) e3 kk
  ·rename_i q l hi
   cases e3:f (ds++[.lst l]) with
   | none=>rw[e3] at e1;cases e1
   | some l' =>
    rw[e3] at e1;cases e1;refine go (λl=>.tup [.int q,.lst l]) hi rfl (λa ⟨ds,e,h⟩=>?_) (λH' a ⟨ds,e,_⟩ h=>⟨l',?_,h⟩) e3 kk
    ·cases e;exact h
    ·cases e;rfl
  ·cases e1
end
def l20(i:Nat)(g:GE):GX:=fun δ=>(g δ).bind λd=>match δ[i]? with
 | some (.ow (.tup [.int p,.lst l]))=>if l.length<sizeLine then some (.non,δ.set i (.ow (.tup [.int p,.lst (l++[d])]))) else none
 | _=>none
section
variable{g:GE}
theorem a90(i:Nat)(h:PD X e g)(hN:X.N[i]?=some x:=by rfl)(hv:Vis X.env.scope x:=by first|exact Or.inl rfl|exact Or.inr (Or.inl rfl)|exact Or.inr (Or.inr rfl))(hd:(x==("__debug__" : Str))=false:=by decide)(hcd:(x==("__classdict__" : Str))=false:=by decide)
  (hbase:attributeBase (.Name x px) "append" X.env (eval (.Name x px) X.env)=eval (.Name x px) X.env:=by rfl)
  (hfew:((backTo cpos (starEach [e] X.env)).all (λx=>!x.1)&&(backToKw cpos (keywordEach [] X.env)).all (λx=>x.1.isSome)
  &&decide (([e]:List Expr).length+([]:List Keyword).length+(if ([]:List Keyword).isEmpty then 0 else 1)<30))=true:=by rfl)
  (hline:(apos.endLine==cpos.line)=true:=by rfl) (hs:starEach [e] X.env=(false,eval e X.env)::starEach [] X.env:=by rfl) (hplain:(backTo cpos (starEach [] X.env)).any (·.1)=false:=by rfl) :
  PX X (.Call (.Attribute (.Name x px) "append" apos) [e] [] cpos) (l20 i g):=.mk λH₀ B₀ δ pins s σ H Q I ⟨r,en,e1,k⟩=>by
 unfold l20 at e1;obtain⟨B,b1,b2,env⟩:=en.ex;cases e3:g δ with
 | none=>rw[e3] at e1;cases e1
 | some d =>
  rw[e3,Option.bind_some] at e1;split at e1
  ·rename_i p ds hi
   split at e1
   ·rename_i hz
    cases e1;obtain⟨a,J,hb,Y,hq,xs,hx,rx⟩:=env.at hi;cases hq;refine tu0 P3 Av0 Aw0 tg0 (zh0 (i:=i) hN hv hd hcd) (Q5 (h B δ) zm0 hs) hbase hfew hline hs hplain pins s σ H Q I
     ⟨_,J,.inl ⟨rfl,xs,.inl (.inl hx)⟩,d,env,e3,λv H1 s1 r1=>⟨a,xs,v,rfl,rfl,s1 _ _ hx,by rw[rx.length];exact hz,?_⟩⟩
    have O:Env X.K (upd H1 a (.lst (xs++[v]))) B σ (δ.set i (.ow (.tup [.int (a:Int),.lst (ds++[d])]))):=(env.same s1).mut hi J ⟨_,rfl,_,j6,(Rps.snoc (rx.same s1) r1).mono (Gr.own hb)⟩;exact k _ _ (EnvV.mk' (en.mut s1 b1 b2 hi J O) b1 b2 O (by rw[U4]))
   ·cases e1
  ·cases e1
end
end DL
namespace DL
open Spec PyProof.Rows L2
theorem kd0{P:Program}{w:World}{mg:PySem.Str->Option Value}{k:Nat}{ps:List PySem.Str}{f:List D->Option (List D)}(hf:∀ds,f ds=none):FnOk P w K mg base CX0 k fa fd ps (spM K me f) :=
 ⟨λvs H Q E ⟨_,_,_,_,_,_,_,_,_,_,_,h,_⟩=>(by rw[hf] at h;cases h),λA outer s H J us vs Q E _ _ _ _ ⟨_,_,_,_,_,_,_,_,_,_,_,h,_⟩=>(by rw[hf] at h;cases h)⟩
end DL
namespace L2
open Spec PyProof.Rows PySem.W
theorem fd0:CallR X (.builtin "len") (λxs H Q=>∃(p:Addr) (kvs:List (Key×V)),xs=[.ref p]/\H p=some (.dK kvs)/\Q (.int kvs.length) H):=by
 intro pins s σ H xs us Q I r h;obtain⟨p,kvs,rfl,hq,q⟩:=h;obtain⟨u,rfl,rx⟩:=vals1 r;cases rx;have hn:=vo0;obtain⟨z,hd,vs,rel,dd⟩:=cl0 I.hok hq;have hl:=rel.length;exact call_len_dict hd dd (by omega) ⟨.int kvs.length,H,I.tok _,⟨s.toks+1,by rw[hl]⟩,q⟩
end L2
namespace DL
open Spec PyProof.Rows L2
def s00:List D->Option D
 | [.dct (.inl ks) _]=>some (.int ks.length)
 | _=>none
theorem ao0:FnR K (λxs H Q=>∃(p:Addr) (kvs:List (Key×V)),xs=[.ref p]/\H p=some (.dK kvs)/\Q (.int kvs.length) H) s00:=by
 intro H B xs ds d Q hb r h k;unfold s00 at h;split at h
 ·cases h
  obtain⟨v,rfl,r1⟩:=zs0 r;rw[tl0] at r1;obtain⟨p,ys,rfl,_,hp,hl,rr⟩:=r1;refine⟨p,_,rfl,hp,k _ H (Same.refl H) ?_⟩;rw[j8,List.length_zip,← hl,Nat.min_self]
 ·cases h
end DL
namespace W
open DL
def hasAll(x s:Str):Bool:=x.cps.toList.all λc=>decide (c∈s.cps.toList)
def nameS:Str := "0123456789abcdefghijklmnopqrstuvwxyz"
def vb0:Str := " 0123456789abcdefghijklmnopqrstuvwxyz"
def isName(x:Str):Bool:=(decide ((x.length:Int)<=8)&&hasAll x nameS)&&decide (0<(x.length:Int))
def U80:D->Str
 | .tup (.str n::_)=>n
 | _ => ""
inductive Pt where
 | text (w:Str)|row (vs:List D)|table (ps:List (Str×D))|rcd (c:Str) (ps:List (Str×D))
variable{ps:List W.Pt}
def pr(p:Str×D):D:=.tup [.str p.1,p.2]
def Pt.d:Pt->D
 | .text w=>.tup [.str "text",.str w]
 | .row vs=>.tup [.str "row",.tup vs]
 | .table ps=>.tup [.str "table",.tup (ps.map pr)]
 | .rcd c ps=>.tup [.str "record",.str c,.tup (ps.map pr)]
def Pt.vals:Pt->List D
 | .text _=>[]
 | .row vs=>vs
 | .table ps=>ps.map (·.2)
 | .rcd _ ps=>ps.map (·.2)
def Pt.pnames:Pt->List Str
 | .text _=>[]
 | .row _=>[]
 | .table ps=>ps.map (·.1)
 | .rcd _ ps=>ps.map (·.1)
def Pt.cls:Pt->List Str
 | .rcd c _=>[c]
 | _=>[]
def Pt.all(p:Pt):List Str:=p.pnames++p.cls
theorem i70{n:Str}(h:isName n=true):n.length<=8:=by
 unfold isName at h;simp only[Bool.and_eq_true,decide_eq_true_eq] at h;omega
theorem mr0(ps:List (Str×D)):V3 (gN 0) noT (o2 (gv 0) (gc (.int 1)) ixD) [.un] (ps.map pr)=some (ps.map (·.2)):=by
 rw[G8 (λd=>match d with|.tup [_,v]=>v|_=>.non) (λd hd=>by
  obtain⟨p,hp,rfl⟩:=B1.mp hd;exact⟨[.sh (pr p)],rfl,rfl,rfl⟩),List.map_map]
 rfl
theorem lj0(ps:List (Str×D)):V3 (gN 0) noT (o2 (gv 0) (gc (.int 0)) ixD) [.un] (ps.map pr)=some ((ps.map (·.1)).map .str):=by
 rw[G8 (λd=>.str (U80 d)) (λd hd=>by
  obtain⟨p,hp,rfl⟩:=B1.mp hd;exact⟨[.sh (pr p)],rfl,rfl,rfl⟩),List.map_map,List.map_map]
 rfl
def Pt.few(p:Pt):Prop:=p.vals.length<=sizeLine
def N7:Str := "abcdefghijklmnopqrstuvwxyz0123456789"
def cg(i:Int):Nat:=N7.cps.toList.getD i.toNat 0
theorem kh0(i:Int)(h0:0<=i)(h1:i<36):ixD (.str N7) (.int i)=some (.str ⟨#[cg i]⟩):=by
 have hl:N7.cps.toList.length=36:=by decide +kernel
 have hz:N7.length<=sizeLine:=by decide +kernel
 have:=zk0 (xs:=N7.cps.toList) (i:=i) h0 (by rw[hl];omega) 0;simp only[ixD,if_pos hz,this,Option.map_some];rfl
theorem gj0(i:Int)(h0:0<=i)(h1:i<36):cg i∈nameS.cps.toList:=by
 have h:∀n:Nat,n<36->N7.cps.toList.getD n 0∈nameS.cps.toList:=by decide +kernel
 exact h i.toNat (by omega)
theorem W00(i j:Int)(h0:0<=i)(h1:i<36)(h2:0<=j)(h3:j<36)(e:cg i=cg j):i=j:=by
 have h:∀n:Nat,n<36->∀m:Nat,m<36->N7.cps.toList.getD n 0=N7.cps.toList.getD m 0->n=m:=by decide +kernel
 have:=h i.toNat (by omega) j.toNat (by omega) e;omega
def ones(l:List Nat):List Str:=l.map λc=>⟨#[c]⟩
def strOf(l:List Nat):Str:=⟨l.toArray⟩
theorem join_ones(l:List Nat):Txt.join "" (ones l)=strOf l:=by
 have O:∀(l:List Nat) (J:List Nat),(ones l).foldl (λa p=>a++("" : Str).cps++p.cps) J.toArray=(J++l).toArray:=by
  intro l
  induction l with
  | nil=>intro J;simp[ones]
  | cons c l ih =>
   intro J;show (ones l).foldl _ (J.toArray++("" : Str).cps++#[c])=_;have e:J.toArray++("" : Str).cps++#[c]=(J++[c]).toArray:=by
    have:("" : Str).cps=#[]:=rfl;rw[this];simp
   rw[e,ih];simp
 cases l with
 | nil=>rfl
 | cons c l =>
  show (⟨_⟩:Str)=_;unfold strOf;congr 1;exact O l [c]
theorem xr0:∀l:List Nat,((ones l).map (·.length)).sum=l.length
 | []=>rfl
 | c::l=>by
  show 1+((ones l).map (·.length)).sum=l.length+1;rw[xr0 l];omega
theorem ga0(l:List Nat)(h1:0<l.length)(h2:l.length<=8)(h3:∀c∈l,c∈nameS.cps.toList):isName (strOf l)=true:=by
 unfold isName hasAll;have e:(strOf l).length=l.length:=by show l.toArray.size=_;simp
 have e2:(strOf l).cps.toList=l:=by simp[strOf]
 rw[e,e2];simp only[Bool.and_eq_true,decide_eq_true_eq,List.all_eq_true];exact⟨⟨by omega,λc hc=>by simpa using h3 c hc⟩,by omega⟩
theorem gg0{l m:List Nat}(h:strOf l=strOf m):l=m:=by
 unfold strOf at h;injection h with h
 simpa using D4 Array.toList h
end W
variable{ps:List W.Pt}
namespace Ja
open DL
def q80:GS:=(v6 (ifD (ob (o2 (o2 (gv 0) (gc (.int 2)) Z0) (gc (.int 1)) eqD))
 (v6 (j7 (o2 (unG J5 (o2 (gv 0) (gc (.int 2)) xp0)) (gc (.int 1)) xj0))
 u6)
 u6)
 (v6 (j7 (o2 (gv 0) (gc (.int 2)) xp0))
 u6))
def q30:List Str:=["number"]
def wg0:List D->Option D:=mkF 1 q30 q80
def o60:GS:=(v6 (M4 (jt0 (gv 1)) (gN 2)
 (v6 (ifD (ob (o2 (oA (z7 (gv 2) v4) rc0) (gv 0) eqD))
 (v6 (j7 (gv 2))
 u6)
 u6)
 u6))
 (v6 (j7 (gc .non))
 u6))
def pj0:List Str:=["byte", "signs", "sign"]
def yd0:List D->Option D:=mkF 2 pj0 o60
def vs0:GS:=(v6 (ifD (ob (o2 (gv 0) (gc (.str "text")) eqD))
 (v6 (j7 (o2 (Z6 (z7 (gc (.str "sign")) v4)) (gv 1) mulL))
 u6)
 u6)
 (v6 (ifD (ob (o2 (gv 0) (gc (.str "row")) eqD))
 (v6 (j7 (o2 (Z6 (z7 (gc (.str "value")) v4)) (gv 1) mulL))
 u6)
 u6)
 (v6 (ifD (ob (o2 (gv 0) (gc (.str "table")) eqD))
 (v6 (j7 (o2 (Z6 (z7 (gc (.str "name")) (z7 (gc (.str "value")) v4))) (gv 1) mulL))
 u6)
 u6)
 (v6 (j7 (o2 (Z6 (z7 (gc (.str "class")) v4)) (o2 (Z6 (z7 (gc (.str "name")) (z7 (gc (.str "value")) v4))) (gv 1) mulL) o5))
 u6))))
def u30:List Str:=["kind", "size"]
def G5:List D->Option D:=mkF 2 u30 vs0
def te0:GS:=(v6 (j7 (oA (z7 (tv0 (gv 0) (someO (gc (.int 0))) J3 (someO (gc (.int 2)))) (z7 (tv0 (gv 0) (someO (gc (.int 1))) J3 (someO (gc (.int 2)))) v4)) s90))
 u6)
def t70:List Str:=["held"]
def zg0:List D->Option D:=mkF 1 t70 te0
def si0:GS:=(v6 (ifD (ob (o2 (gv 0) (gc (.str "text")) eqD))
 (v6 (j7 (Y4 (z7 (gc (.str "text")) (z7 (y50 (gc (.str "")) (z7 (gv 1) v4)) v4))))
 u6)
 u6)
 (v6 (ifD (ob (o2 (gv 0) (gc (.str "row")) eqD))
 (v6 (j7 (Y4 (z7 (gc (.str "row")) (z7 (oA (z7 (gv 1) v4) S9) v4))))
 u6)
 u6)
 (v6 (ifD (ob (o2 (gv 0) (gc (.str "table")) eqD))
 (v6 (j7 (Y4 (z7 (gc (.str "table")) (z7 (oA (z7 (gv 1) v4) zg0) v4))))
 u6)
 u6)
 (v6 (j7 (Y4 (z7 (gc (.str "record")) (z7 (o2 (gv 1) (gc (.int 0)) ixD) (z7 (oA (z7 (y90 (gv 1) (someO (gc (.int 1))) J3) v4) zg0) v4)))))
 u6))))
def so0:List Str:=["kind", "held"]
def xq0:List D->Option D:=mkF 2 so0 si0
def wp0:GS:=(v6 (ifD (ob (o2 (gv 0) (gc (.int 0)) eqD))
 (v6 (j7 (gc .non))
 u6)
 u6)
 (v6 (ifD (ob (o2 (o2 (gv 0) (gc (.int 2)) Z0) (gc (.int 0)) eqD))
 (v6 (j7 (Y4 (z7 (gc (.str "at")) (z7 (o2 (o2 (gv 0) (gc (.int 2)) xp0) (gc (.int 1)) xj0) v4))))
 u6)
 u6)
 (v6 (j7 (oA (z7 (o2 (gv 0) (gc (.int 2)) xp0) v4) wg0))
 u6)))
def wz0:List Str:=["number"]
def z40:List D->Option D:=mkF 1 wz0 wp0
def sm0:GS:=(v6 (o9 (gN 2) (gc (.int 0)))
 (v6 (o9 (gN 3) (o2 (gv 0) (gv 1) z60))
 (v6 (X5 (ob (o2 (gv 3) (gc (.int 128)) geD))
 (v6 (o9 (gN 2) (o2 (o2 (o2 (gv 2) (gc (.int 128)) R0) (gv 3) o5) (gc (.int 128)) xj0))
 (v6 (sz0 1 (gc (.int 1)))
 (v6 (o9 (gN 3) (o2 (gv 0) (gv 1) z60))
 u6))) 100000)
 (v6 (j7 (Y4 (z7 (o2 (o2 (gv 2) (gc (.int 128)) R0) (gv 3) o5) (z7 (o2 (gv 1) (gc (.int 1)) o5) v4))))
 u6))))
def sl0:List Str:=["look", "place", "number", "byte"]
def W2:List D->Option D:=mkF 2 sl0 sm0
def oh0:GS:=(v6 (j7 (y50 (gc (.str "")) (z7 (b8 1 [0] (ug0 (z7 (gv 1) (z7 (o2 (gv 1) (gv 2) o5) v4))) (gN 0) noT (oA (z7 (o2 (gv 1) (gv 0) z60) (z7 (gc (.str "0123456789abcdefghijklmnopqrstuvwxyz")) v4)) yd0)) v4)))
 u6)
def t00:List Str:=["look", "start", "length"]
def vc0:List D->Option D:=mkF 3 t00 oh0
def oc0:GS:=(v6 (ifD (ob (o2 (gv 2) (gc (.str "sign")) eqD))
 (v6 (j7 (Y4 (z7 (oA (z7 (o2 (gv 0) (gv 1) z60) (z7 (gc (.str " 0123456789abcdefghijklmnopqrstuvwxyz")) v4)) yd0) (z7 (o2 (gv 1) (gc (.int 1)) o5) v4))))
 u6)
 u6)
 (v6 (o9 (gN 3) (oA (z7 (gv 0) (z7 (gv 1) v4)) W2))
 (v6 (ifD (ob (o2 (gv 2) (gc (.str "value")) eqD))
 (v6 (j7 (Y4 (z7 (oA (z7 (o2 (gv 3) (gc (.int 0)) ixD) v4) z40) (z7 (o2 (gv 3) (gc (.int 1)) ixD) v4))))
 u6)
 u6)
 (v6 (j7 (Y4 (z7 (oA (z7 (gv 0) (z7 (o2 (gv 3) (gc (.int 1)) ixD) (z7 (o2 (gv 3) (gc (.int 0)) ixD) v4))) vc0) (z7 (o2 (o2 (gv 3) (gc (.int 1)) ixD) (o2 (gv 3) (gc (.int 0)) ixD) o5) v4))))
 u6))))
def o90:List Str:=["look", "place", "want", "number"]
def G7:List D->Option D:=mkF 3 o90 oc0
def pw0:GS:=(v6 (o9 (gN 2) (oA (z7 (gv 0) (z7 (gv 1) v4)) W2))
 (v6 (o9 (gN 3) (unG (atC ["text", "row", "table", "record"]) (o2 (o2 (gv 2) (gc (.int 0)) ixD) (gc (.int 4)) Z0)))
 (v6 (o9 (gN 4) (o2 (gv 2) (gc (.int 1)) ixD))
 (v6 (N5 5 (Z6 v4))
 (v6 (M4 (O9 (oA (z7 (gv 3) (z7 (o2 (o2 (gv 2) (gc (.int 0)) ixD) (gc (.int 4)) xp0) v4)) G5)) (gN 6)
 (v6 (o9 (gN 7) (oA (z7 (gv 0) (z7 (gv 4) (z7 (gv 6) v4))) G7))
 (v6 (Z8 (G4 5 (o2 (gv 7) (gc (.int 0)) ixD)))
 (v6 (o9 (gN 4) (o2 (gv 7) (gc (.int 1)) ixD))
 u6))))
 (v6 (j7 (u40 (oA (z7 (gv 3) (z7 (gv 5) v4)) xq0)))
 u6))))))
def o10:List Str:=["look", "start", "number", "kind", "place", "held", "want", "item"]
def K6:List D->Option D:=mkF 2 o10 pw0
def t10:GS:=(v6 (ifD (w50 (ob (o2 (o2 (gv 0) (gc (.int 0)) ixD) (gc (.str "text")) eqD)) (ob (o2 (o2 (gv 0) (gc (.int 0)) ixD) (gc (.str "row")) eqD)))
 (v6 (z30 (Z6 v4))
 u6)
 u6)
 (v6 (z30 (b8 1 [] (tupI (o2 (gv 0) (unG J5 (gc (.int 1))) ixD)) (gN 0) noT (o2 (gv 0) (gc (.int 0)) ixD)))
 u6))
def v30:List Str:=["part"]
def yk0:List D->Option D:=mkN 1 v30 t10
def md0:GS:=(v6 (ifD (ob (o2 (o2 (gv 0) (gc (.int 0)) ixD) (gc (.str "text")) eqD))
 (v6 (z30 (Z6 v4))
 u6)
 u6)
 (v6 (ifD (ob (o2 (o2 (gv 0) (gc (.int 0)) ixD) (gc (.str "row")) eqD))
 (v6 (z30 (oA (z7 (o2 (gv 0) (gc (.int 1)) ixD) v4) q00))
 u6)
 u6)
 (v6 (z30 (b8 1 [] (tupI (o2 (gv 0) (unG J5 (gc (.int 1))) ixD)) (gN 0) noT (o2 (gv 0) (gc (.int 1)) ixD)))
 u6)))
def r00:List Str:=["part"]
def m_values:List D->Option D:=mkN 1 r00 md0
def km0:GS:=(v6 (z30 (b8 1 [] (O9 (oA (z7 (gv 0) v4) m_values)) (gN 0) (ob (S7 isTup (gv 0))) (o2 (gv 0) (gc (.int 1)) ixD)))
 u6)
def p20:List Str:=["part"]
def M6:List D->Option D:=mkN 1 p20 km0
def uo0:GS:=(v6 (ifD (ob (o2 (o2 (gv 0) (gc (.int 0)) ixD) (gc (.str "text")) eqD))
 (v6 (j7 (gv 0))
 u6)
 u6)
 (v6 (ifD (ob (o2 (o2 (gv 0) (gc (.int 0)) ixD) (gc (.str "row")) eqD))
 (v6 (j7 (Y4 (z7 (gc (.str "row")) (z7 (oA (z7 (gv 1) v4) S9) v4))))
 u6)
 u6)
 (v6 (o9 (gN 2) (oA (z7 (oA (z7 (gv 0) v4) yk0) (z7 (gv 1) v4)) s90))
 (v6 (ifD (ob (o2 (o2 (gv 0) (gc (.int 0)) ixD) (gc (.str "table")) eqD))
 (v6 (j7 (Y4 (z7 (gc (.str "table")) (z7 (gv 2) v4))))
 u6)
 u6)
 (v6 (j7 (Y4 (z7 (gc (.str "record")) (z7 (o2 (gv 0) (gc (.int 1)) ixD) (z7 (gv 2) v4)))))
 u6)))))
def um0:List Str:=["part", "some", "pairs"]
def z70:List D->Option D:=mkF 2 um0 uo0
def rv0:GS:=(v6 (o9 (gN 2) (b8 1 [1] (O9 (oA (z7 (gv 0) v4) m_values)) (gN 0) noT (ifG (ob (S7 isTup (gv 0))) (Y4 (z7 (gc (.str "at")) (z7 (o2 (gv 1) (o2 (gv 0) (gc (.int 1)) ixD) J6) v4))) (gv 0))))
 (v6 (j7 (oA (z7 (gv 0) (z7 (gv 2) v4)) z70))
 u6))
def u70:List Str:=["part", "numbers", "some"]
def wd0:List D->Option D:=mkF 2 u70 rv0
def vm0:GS:=(v6 (ifD (ob (o2 (gv 1) (oA (z7 (gv 0) v4) Z5) ltD))
 (v6 (j7 (o2 (gv 0) (gv 1) ixD))
 u6)
 u6)
 (v6 (j7 (o2 (o2 (o2 (gv 1) (gc (.int 7919)) R0) (gc (.int 5)) o5) (o2 (gv 1) (gc (.int 31)) o5) R0))
 u6))
def vw0:List Str:=["_law_script", "_law_k"]
def d7:List D->Option D:=mkF 2 vw0 vm0
def qo0:GS:=(v6 (j7 (o2 (o2 (o2 (o2 (o2 (o2 (gv 0) (gc (.int 2147483629)) Z0) (gc (.int 1)) o5) (o2 (o2 (gc (.int 48271)) (o2 (gc (.int 69621)) (gv 1) R0) o5) (o2 (o2 (gc (.int 2)) (gv 1) R0) (gv 1) R0) o5) R0) (gv 1) o5) (gc (.int 2147483647)) Z0) (gc (.int 7)) xp0))
 u6)
def q50:List Str:=["_law_cell", "_law_k"]
def o4:List D->Option D:=mkF 2 q50 qo0
def sh0:GS:=(v6 (o9 (gN 2) (gc (.str "abcdefghijklmnopqrstuvwxyz0123456789")))
 (v6 (o9 (gN 3) (y50 (gc (.str "")) (z7 (b8 1 [0,2] (J1 (z7 (o2 (oA (z7 (gv 0) (z7 (gc (.int 20)) v4)) o4) (gc (.int 8)) Z0) v4)) (gN 0) noT (o2 (gv 2) (o2 (oA (z7 (gv 1) (z7 (gv 0) v4)) o4) (gc (.int 36)) Z0) ixD)) v4)))
 (v6 (o9 (gN 4) (o2 (oA (z7 (gv 0) (z7 (gc (.int 21)) v4)) o4) (o2 (oA (z7 (gv 3) v4) Z5) (gc (.int 1)) o5) Z0))
 (v6 (z30 (b8 1 [0,2,3,4] (J1 (z7 (gv 1) v4)) (gN 0) noT (o2 (o2 (y90 (gv 3) J3 (someO (gv 4))) (o2 (gv 2) (o2 (o2 (o2 (gc (.int 3)) (gv 0) R0) (gv 1) o5) (gc (.int 36)) Z0) ixD) o5) (y90 (gv 3) (someO (gv 4)) J3) o5)))
 u6))))
def xo0:List Str:=["_law_cell", "_law_many", "_law_signs_here", "_law_base", "_law_at"]
def xn0:List D->Option D:=mkN 2 xo0 sh0
def wm0:GS:=(v6 (o9 (gN 3) (o2 (oA (z7 (gv 0) (z7 (gv 1) v4)) o4) (gc (.int 5)) Z0))
 (v6 (ifD (ob (o2 (gv 3) (gc (.int 0)) eqD))
 (v6 (j7 (gc .non))
 u6)
 u6)
 (v6 (ifD (ob (o2 (gv 3) (gc (.int 3)) ltD))
 (v6 (j7 (Y4 (z7 (gc (.str "at")) (z7 (o2 (oA (z7 (gv 0) (z7 (o2 (gc (.int 40)) (gv 1) o5) v4)) o4) (gv 2) Z0) v4))))
 u6)
 u6)
 (v6 (ifD (ob (o2 (gv 3) (gc (.int 3)) eqD))
 (v6 (j7 (o2 (o2 (oA (z7 (gv 0) (z7 (o2 (gc (.int 60)) (gv 1) o5) v4)) o4) (gc (.int 260)) Z0) (gc (.int 130)) xj0))
 u6)
 u6)
 (v6 (j7 (o2 (o2 (o2 (o2 (o2 (o2 (gv 0) (gc (.int 1)) o5) (o2 (gv 1) (gc (.int 3)) o5) R0) (o2 (gc (.int 982451653)) (gc (.int 7)) ul0) da0) (o2 (o2 (gc (.int 2)) (o2 (gc (.int 10)) (gc (.int 60)) ul0) R0) (gc (.int 1)) xj0) Z0) (gc (.int 1)) o5) (o2 (gc (.int 10)) (gc (.int 60)) ul0) xj0))
 u6)))))
def v40:List Str:=["_law_cell", "_law_k", "_law_many", "_law_way"]
def W8:List D->Option D:=mkF 3 v40 wm0
def wa0:GS:=(v6 (o9 (gN 3) (o2 (oA (z7 (gv 0) (z7 (gc (.int 1)) v4)) o4) (gc (.int 5)) Z0))
 (v6 (o9 (gN 4) (o2 (Z6 (z7 (gc (.int 0)) (z7 (gc (.int 1)) (z7 (gc (.int 2)) (z7 (gc (.int 3)) (z7 (gc (.int 2)) (z7 (gc (.int 1)) (z7 (gc (.int 4)) (z7 (gc (.int 12)) v4))))))))) (o2 (oA (z7 (gv 0) (z7 (gc (.int 2)) v4)) o4) (gc (.int 8)) Z0) ixD))
 (v6 (ifD (ob (o2 (gv 3) (gc (.int 0)) eqD))
 (v6 (o9 (gN 5) (gc (.str "abcdefghijklmnopqrstuvwxyz0123456789 ")))
 (v6 (j7 (Y4 (z7 (gc (.str "text")) (z7 (y50 (gc (.str "")) (z7 (b8 1 [0,5] (J1 (z7 (o2 (oA (z7 (gv 0) (z7 (gc (.int 3)) v4)) o4) (gc (.int 21)) Z0) v4)) (gN 0) noT (o2 (gv 2) (o2 (oA (z7 (gv 1) (z7 (o2 (gc (.int 80)) (gv 0) o5) v4)) o4) (gc (.int 37)) Z0) ixD)) v4)) v4))))
 u6))
 u6)
 (v6 (o9 (gN 6) (b8 1 [0,2] (J1 (z7 (gv 4) v4)) (gN 0) noT (oA (z7 (gv 1) (z7 (o2 (gc (.int 4)) (gv 0) o5) (z7 (gv 2) v4))) W8)))
 (v6 (ifD (ob (o2 (gv 3) (gc (.int 1)) eqD))
 (v6 (j7 (Y4 (z7 (gc (.str "row")) (z7 (oA (z7 (gv 6) v4) S9) v4))))
 u6)
 u6)
 (v6 (o9 (gN 7) (o2 (oA (z7 (gv 0) (z7 (gc (.int 30)) v4)) o4) (gc (.int 12)) Z0))
 (v6 (o9 (gN 8) (oA (z7 (b8 1 [1,6,7] (J1 (z7 (gv 4) v4)) (gN 0) noT (Y4 (z7 (o2 (gv 1) (o2 (o2 (gv 3) (gv 0) o5) (gc (.int 12)) Z0) ixD) (z7 (o2 (gv 2) (gv 0) ixD) v4)))) v4) S9))
 (v6 (ifD (ob (o2 (gv 3) (gc (.int 2)) eqD))
 (v6 (j7 (Y4 (z7 (gc (.str "table")) (z7 (gv 8) v4))))
 u6)
 u6)
 (v6 (j7 (Y4 (z7 (gc (.str "record")) (z7 (o2 (gv 1) (o2 (oA (z7 (gv 0) (z7 (gc (.int 31)) v4)) o4) (gc (.int 12)) Z0) ixD) (z7 (gv 8) v4)))))
 u6)))))))))
def N6:List Str:=["_law_cell", "_law_names", "_law_many", "_law_kind", "_law_size", "_law_signs_here", "_law_some", "_law_turn", "_law_pairs"]
def V9:List D->Option D:=mkF 3 N6 wa0
def uu0:GS:=(v6 (o9 (gN 3) (o2 (gc (.int 1)) (o2 (oA (z7 (oA (z7 (gv 0) (z7 (gv 1) v4)) d7) (z7 (gc (.int 3)) v4)) o4) (gv 2) Z0) o5))
 (v6 (o9 (gN 4) (oA (z7 (oA (z7 (gv 0) (z7 (o2 (gv 1) (gc (.int 1)) o5) v4)) d7) (z7 (gc (.int 12)) v4)) xn0))
 (v6 (j7 (oA (z7 (b8 1 [0,1,3,4] (J1 (z7 (gv 3) v4)) (gN 0) noT (oA (z7 (oA (z7 (gv 1) (z7 (o2 (o2 (gv 2) (gc (.int 2)) o5) (gv 0) o5) v4)) d7) (z7 (gv 4) (z7 (gv 3) v4))) V9)) v4) S9))
 u6)))
def ww0:List Str:=["_law_script", "_law_start", "_law_most", "_law_many", "_law_names"]
def yj0:List D->Option D:=mkF 3 ww0 uu0
def up0:GS:=(v6 (N5 1 (Z6 (z7 (o2 (gv 0) (gc (.int 128)) Z0) v4)))
 (v6 (X5 (ob (o2 (gv 0) (gc (.int 127)) gtD))
 (v6 (o9 (gN 0) (o2 (gv 0) (gc (.int 128)) xp0))
 (v6 (Z8 (s20 1 (o2 (gc (.int 128)) (o2 (gv 0) (gc (.int 128)) Z0) o5)))
 u6)) 100000)
 (v6 (i00 1)
 u6)))
def un0:List Str:=["_law_number", "_law_found"]
def Z3:List D->Option D:=mkN 1 un0 up0
def t90:GS:=(v6 (z30 (b8 1 [] (jt0 (gv 0)) (gN 0) noT (oA (z7 (gv 0) v4) rc0)))
 u6)
def wr0:List Str:=["_law_word"]
def M9:List D->Option D:=mkN 1 wr0 t90
def xx0:GS:=(v6 (ifD (ob (o2 (gv 0) (gc .non) qx0))
 (v6 (z30 (Z6 (z7 (gc (.int 0)) v4)))
 u6)
 u6)
 (v6 (ifD (ob (S7 isTup (gv 0)))
 (v6 (z30 (oA (z7 (o2 (o2 (gc (.int 2)) (o2 (gv 0) (gc (.int 1)) ixD) R0) (gc (.int 2)) o5) v4) Z3))
 u6)
 u6)
 (v6 (ifD (ob (o2 (gv 0) (gc (.int 0)) ltD))
 (v6 (z30 (oA (z7 (o2 (o2 (gc (.int 2)) (o2 (o2 (gc (.int 0)) (o2 (gc (.int 2)) (gv 0) R0) xj0) (gc (.int 1)) xj0) R0) (gc (.int 1)) o5) v4) Z3))
 u6)
 u6)
 (v6 (z30 (oA (z7 (o2 (o2 (gc (.int 4)) (gv 0) R0) (gc (.int 1)) o5) v4) Z3))
 u6))))
def xt0:List Str:=["_law_value"]
def W7:List D->Option D:=mkN 1 xt0 xx0
def wb0:GS:=(v6 (o9 (gN 1) (ni0 (Z6 (z7 (gc (.str "text")) (z7 (gc (.str "row")) (z7 (gc (.str "table")) (z7 (gc (.str "record")) v4))))) (z7 (o2 (gv 0) (gc (.int 0)) ixD) v4) i60))
 (v6 (o9 (gN 2) (oA (z7 (o2 (o2 (gc (.int 4)) (oA (z7 (o2 (gv 0) (unG J5 (gc (.int 1))) ixD) v4) Z5) R0) (gv 1) o5) v4) Z3))
 (v6 (ifD (ob (o2 (gv 1) (gc (.int 0)) eqD))
 (v6 (j7 (o2 (gv 2) (oA (z7 (o2 (gv 0) (gc (.int 1)) ixD) v4) M9) o5))
 u6)
 u6)
 (v6 (ifD (ob (o2 (gv 1) (gc (.int 1)) eqD))
 (v6 (M4 (tupI (o2 (gv 0) (gc (.int 1)) ixD)) (gN 3)
 (v6 (o9 (gN 2) (o2 (gv 2) (oA (z7 (gv 3) v4) W7) o5))
 u6))
 (v6 (j7 (gv 2))
 u6))
 u6)
 (v6 (ifD (ob (o2 (gv 1) (gc (.int 3)) eqD))
 (v6 (o9 (gN 2) (o2 (o2 (gv 2) (oA (z7 (oA (z7 (o2 (gv 0) (gc (.int 1)) ixD) v4) Z5) v4) Z3) o5) (oA (z7 (o2 (gv 0) (gc (.int 1)) ixD) v4) M9) o5))
 u6)
 u6)
 (v6 (M4 (tupI (o2 (gv 0) (unG J5 (gc (.int 1))) ixD)) (yu0 4 3)
 (v6 (o9 (gN 2) (o2 (o2 (gv 2) (oA (z7 (oA (z7 (gv 4) v4) Z5) v4) Z3) o5) (oA (z7 (gv 4) v4) M9) o5))
 (v6 (o9 (gN 2) (o2 (gv 2) (oA (z7 (gv 3) v4) W7) o5))
 u6)))
 (v6 (j7 (gv 2))
 u6)))))))
def wc0:List Str:=["_law_part", "_law_kind", "_law_found", "_law_value", "_law_name"]
def J7:List D->Option D:=mkF 1 wc0 wb0
def v70:GS:=(v6 (o9 (gN 1) (b8 1 [] (tupI (gv 0)) (gN 0) noT (oA (z7 (gv 0) v4) J7)))
 (v6 (o9 (gN 2) (oA (z7 (oA (z7 (gv 0) v4) Z5) v4) Z3))
 (v6 (M4 (O9 (gv 1)) (gN 3)
 (v6 (o9 (gN 2) (o2 (gv 2) (oA (z7 (oA (z7 (gv 3) v4) Z5) v4) Z3) o5))
 u6))
 (v6 (N5 4 (Z6 v4))
 (v6 (N5 5 (oA (z7 (gv 2) v4) q00))
 (v6 (M4 (O9 (gv 1)) (gN 3)
 (v6 (Z8 (G4 4 (z20 (oA (z7 (gv 5) v4) Z5))))
 (v6 (Z8 (yq0 5 (gv 3)))
 u6)))
 (v6 (j7 (u40 (Y4 (z7 (gv 5) (z7 (oA (z7 (gv 2) v4) Z5) (z7 (o2 (gv 4) (Z6 (z7 (oA (z7 (gv 5) v4) Z5) v4)) o5) v4))))))
 u6)))))))
def ys0:List Str:=["_law_web", "_law_some", "_law_index", "_law_one", "_law_begins", "_law_whole"]
def O4:List D->Option D:=mkF 1 ys0 v70
def tb0:GS:=(v6 (ifD (ob (o2 (o2 (gv 0) (gc (.int 0)) ixD) (gc (.str "text")) eqD))
 (v6 (z30 (Z6 v4))
 u6)
 u6)
 (v6 (o9 (gN 1) (o2 (gv 0) (unG J5 (gc (.int 1))) ixD))
 (v6 (ifD (ob (o2 (o2 (gv 0) (gc (.int 0)) ixD) (gc (.str "row")) neD))
 (v6 (o9 (gN 1) (b8 1 [] (tupI (o2 (gv 0) (unG J5 (gc (.int 1))) ixD)) (gN 0) noT (o2 (gv 0) (gc (.int 1)) ixD)))
 u6)
 u6)
 (v6 (z30 (b8 1 [] (anyI (gv 1)) (gN 0) (ob (S7 isTup (gv 0))) (o2 (gv 0) (gc (.int 1)) ixD)))
 u6))))
def yp0:List Str:=["_law_part", "_law_some"]
def U3:List D->Option D:=mkN 1 yp0 tb0
def q40:GS:=(v6 (ifD (ob (S7 isTup (gv 0)))
 (v6 (j7 (Y4 (z7 (gc (.str "at")) (z7 (o2 (gv 1) (o2 (gv 0) (gc (.int 1)) ixD) J6) v4))))
 u6)
 u6)
 (v6 (j7 (gv 0))
 u6))
def rp0:List Str:=["_law_value", "_law_numbers"]
def V6:List D->Option D:=mkF 2 rp0 q40
def za0:GS:=(v6 (N5 2 (gc (.dct (.inl []) [])))
 (v6 (M4 (O9 (gv 1)) (yu0 3 4)
 (v6 (M4 (ug0 (z7 (gv 3) (z7 (gv 4) v4))) (gN 5)
 (v6 (T4 (Q3 (o2 (gv 0) (gv 5) ixD)) (putAt 2 (gv 5)))
 u6))
 u6))
 u6))
def zb0:List Str:=["_law_whole", "_law_spans", "_law_there", "_law_low", "_law_high", "_law_place"]
def U5:List D->Option D:=mkL 2 2 zb0 za0
end Ja
namespace Pn
open Ja
open DL W
theorem ve0(p:Pt)(h:p.few):m_values [p.d]=some (.lst p.vals):=by
 cases p with
 | text w=>kernel_rfl
 | row vs =>
  refine Q9 rfl (v5 (δ':=[.sh (Pt.row vs).d]) (by rw[Z4 (by kernel_rfl)];rfl) (R5 (by rw[V4 (by kernel_rfl)];rfl)))
 | table ps =>
  refine Q9 rfl (v5 (δ':=[.sh (Pt.table ps).d]) (by rw[Z4 (by kernel_rfl)];rfl) (v5 (δ':=[.sh (Pt.table ps).d]) (by rw[Z4 (by kernel_rfl)];rfl) (R5 (O5 ?_))));exact Y6 (items:=ps.map pr) rfl (by have:(ps.map (·.2)).length<=sizeLine:=h;simpa using this) (mr0 ps)
 | rcd c ps =>
  refine Q9 rfl (v5 (δ':=[.sh (Pt.rcd c ps).d]) (by rw[Z4 (by kernel_rfl)];rfl) (v5 (δ':=[.sh (Pt.rcd c ps).d]) (by rw[Z4 (by kernel_rfl)];rfl) (R5 (O5 ?_))));exact Y6 (items:=ps.map pr) rfl (by have:(ps.map (·.2)).length<=sizeLine:=h;simpa using this) (mr0 ps)
theorem oz0(p:Pt)(h:p.few):yk0 [p.d]=some (.lst (p.pnames.map .str)):=by
 cases p with
 | text w=>kernel_rfl
 | row vs=>kernel_rfl
 | table ps =>
  refine Q9 rfl (v5 (δ':=[.sh (Pt.table ps).d]) (by rw[Z4 (by kernel_rfl)];rfl) (R5 (O5 ?_)));exact Y6 (items:=ps.map pr) rfl (by have:(ps.map (·.2)).length<=sizeLine:=h;simpa using this) (lj0 ps)
 | rcd c ps =>
  refine Q9 rfl (v5 (δ':=[.sh (Pt.rcd c ps).d]) (by rw[Z4 (by kernel_rfl)];rfl) (R5 (O5 ?_)));exact Y6 (items:=ps.map pr) rfl (by have:(ps.map (·.2)).length<=sizeLine:=h;simpa using this) (lj0 ps)
def put:Pt->List D->Pt
 | .text w,_=>.text w
 | .row _,vs=>.row vs
 | .table ps,vs=>.table ((ps.map (·.1)).zip vs)
 | .rcd c ps,vs=>.rcd c ((ps.map (·.1)).zip vs)
theorem to0(ns:List Str)(vs:List D):s90 [.lst (ns.map .str),.lst vs]=some (.tup ((ns.zip vs).map pr)):=by
 simp only[s90];rw[List.zip_map_left,List.map_map];rfl
theorem Zb0(p:Pt)(h:p.few)(vs:List D):z70 [p.d,.lst vs]=some (put p vs).d:=by
 have e:=oz0 p h;cases p with
 | text w=>kernel_rfl
 | row us=>kernel_rfl
 | table ps =>
  refine j9 rfl (v5 (δ':=[.sh (Pt.table ps).d,.sh (.lst vs),.un]) (by rw[Z4 (by kernel_rfl)];rfl) (v5 (δ':=[.sh (Pt.table ps).d,.sh (.lst vs),.un]) (by rw[Z4 (by kernel_rfl)];rfl) (v5 (o8 (d:=.tup (((ps.map (·.1)).zip vs).map pr)) ?_) (p6 ?_))))
  ·rw[t7 (cons_of (by rw[t7 (ds:=[(Pt.table ps).d]) rfl];exact e) (cons_of rfl rfl))]
   exact to0 _ _
  ·rw[V4 (by kernel_rfl)]
   rfl
 | rcd c ps =>
  refine j9 rfl (v5 (δ':=[.sh (Pt.rcd c ps).d,.sh (.lst vs),.un]) (by rw[Z4 (by kernel_rfl)];rfl) (v5 (δ':=[.sh (Pt.rcd c ps).d,.sh (.lst vs),.un]) (by rw[Z4 (by kernel_rfl)];rfl) (v5 (o8 (d:=.tup (((ps.map (·.1)).zip vs).map pr)) ?_)
   (v5 (δ':=[.sh (Pt.rcd c ps).d,.sh (.lst vs),.sh (.tup (((ps.map (·.1)).zip vs).map pr))]) (by rw[Z4 (by kernel_rfl)];rfl) ?_))))
  ·rw[t7 (cons_of (by rw[t7 (ds:=[(Pt.rcd c ps).d]) rfl];exact e) (cons_of rfl rfl))]
   exact to0 _ _
  ·rfl
end Pn
namespace W
open DL StrLaws Builtin.Str
theorem we0(l:List Nat):(strOf l).cps.toList=l:=by simp[strOf]
theorem ye0(l:List Nat):(strOf l).length=l.length:=by show l.toArray.size=_;simp
end W
namespace Gw
open DL W StrLaws
theorem mul_r(i j:Int)(h:-(2 ^ 64)<j/\j<2 ^ 64):R0 (.int i) (.int j)=some (.int (i*j)):=by simp only[R0];rw[if_pos (.inr h)]
theorem ue0(i j:Int)(h:-(2 ^ 64)<i/\i<2 ^ 64):R0 (.int i) (.int j)=some (.int (i*j)):=by simp only[R0];rw[if_pos (.inl h)]
theorem uk0(i j:Int)(h:0<j):Z0 (.int i) (.int j)=some (.int (i%j)):=by simp only[Z0,ii];rw[if_pos h]
theorem vr0{g:GE}{l:List D}{d:D}(h1:owL i δ=some l)(h2:g δ=some d)(h3:l.length<sizeLine):Z8 (G4 i g) δ=some (.nx (δ.set i (.ow (.lst (l++[d]))))):=by
 unfold Z8 G4;rw[h1,h2];simp only[Option.bind_some];rw[if_pos h3];rfl
theorem Yn0(l:List Nat)(k:Int)(h0:0<=k)(h1:k<=l.length):Txt.slice (strOf l) none (some k)=strOf (l.take k.toNat):=by
 show sliceText _ _ _=_;rw[sliceText_to ⟨h0,by rw[we0];exact h1⟩,we0];simp[strOf]
theorem X80(l:List Nat)(k:Int)(h0:0<=k)(h1:k<=l.length):Txt.slice (strOf l) (some k) none=strOf (l.drop k.toNat):=by
 show sliceText _ _ _=_;rw[sliceText_from ⟨h0,by rw[we0];exact h1⟩,we0];unfold strOf;congr 2;rw[List.take_of_length_le];rw[List.length_drop];omega
theorem V90(a b:List Nat):strOf a++strOf b=strOf (a++b):=by
 show (⟨_⟩:Str)=⟨_⟩;simp[strOf]
theorem ci0(a b:List Nat)(h:a.length+b.length<=sizeLine):o5 (.str (strOf a)) (.str (strOf b))=some (.str (strOf (a++b))):=by
 simp only[o5];rw[if_pos (by rw[ye0,ye0];exact h),V90]
end Gw
namespace Bw
open Ja
open DL W
def y80(T9:List D->Option D):GS:=(v6 (ifD (ob (o2 (gv 1) (gc .non) qx0))
 (v6 (j7 (o2 (gv 0) (gc .non) qx0))
 u6)
 u6)
 (v6 (ifD (ob (S7 isStr (gv 1)))
 (v6 (j7 (wl0 (S7 isStr (gv 0)) (o2 (gv 0) (gv 1) eqD)))
 u6)
 u6)
 (v6 (ifD (ob (S7 isInt (gv 1)))
 (v6 (j7 (wl0 (S7 isInt (gv 0)) (wl0 (jz0 (S7 isBool (gv 0))) (o2 (gv 0) (gv 1) eqD))))
 u6)
 u6)
 (v6 (ifD (w50 (ob (o2 (S7 isTup (gv 0)) (S7 isTup (gv 1)) neD)) (ob (o2 (S7 q90 (gv 0)) (S7 q90 (gv 1)) neD)))
 (v6 (j7 (gc (.bl false)))
 u6)
 u6)
 (v6 (j7 (wl0 (o2 (oA (z7 (gv 0) v4) Z5) (oA (z7 (gv 1) v4) Z5) eqD) (oA (z7 (b8 1 [0,1] (J1 (z7 (oA (z7 (gv 1) v4) Z5) v4)) (gN 0) noT (oA (z7 (o2 (gv 1) (gv 0) ixD) (z7 (o2 (gv 2) (gv 0) ixD) v4)) T9)) v4) lr0)))
 u6)))))
def ze0:List Str:=["_law_found", "_law_due"]
def d9:Nat->List D->Option D
 | 0=>λ_=>none
 | k+1=>mkF 2 ze0 (y80 (d9 k))
end Bw
namespace Bw
open Ja
open DL W StrLaws
theorem O1(c k:Int)(h0:0<=k)(h1:k<=1000000):∃x,0<=x/\x<2147483647/\o4 [.int c,.int k]=some (.int x):=by
 obtain⟨q,hq⟩:∃q,q=((c%2147483629+1)*(48271+69621*k+2*k*k)+k)%2147483647:=⟨_,rfl⟩;have q0:0<=q:=by rw[hq];exact L1 _ (by decide)
 have q1:q<2147483647:=by rw[hq];exact M1 _ (by decide)
 refine⟨q/7,by omega,by omega,j9 rfl (p6 (d8 ?_))⟩;have kk:2*k*k<=2*1000000*1000000:=by
  have:=Int.mul_le_mul h1 h1 h0 (by omega);rw[Int.mul_assoc];omega
 have J:0<=2*k*k:=by
  have:=Int.mul_nonneg h0 h0;rw[Int.mul_assoc];omega
 rw[t6 (x:=.int q) (y:=.int 7) (by
  rw[t6 (x:=.int ((c%2147483629+1)*(48271+69621*k+2*k*k)+k)) (y:=.int 2147483647) (by
   rw[t6 (x:=.int ((c%2147483629+1)*(48271+69621*k+2*k*k))) (y:=.int k) (by
    rw[t6 (x:=.int (c%2147483629+1)) (y:=.int (48271+69621*k+2*k*k)) rfl (by
     rw[t6 (x:=.int (48271+69621*k)) (y:=.int (2*k*k)) (by
      rw[t6 (x:=.int 48271) (y:=.int (69621*k)) rfl (by rw[t6 (x:=.int 69621) (y:=.int k) rfl rfl];exact Gw.mul_r _ _ (by omega))];rfl) (by
      rw[t6 (x:=.int (2*k)) (y:=.int k) (by rw[t6 (x:=.int 2) (y:=.int k) rfl rfl];exact Gw.mul_r _ _ (by omega)) rfl];exact Gw.mul_r _ _ (by omega))]
     rfl)]
    exact Gw.mul_r _ _ (by omega)) rfl]
   rfl) rfl]
  rw[hq];exact Gw.uk0 _ _ (by decide)) rfl]
 rfl
structure Pool(nm:List Str):Prop where
 len:nm.length=12
 names:∀s∈nm,isName s=true
 nd:nm.Nodup
theorem Zc0(c:Int):∃nm,xn0 [.int c,.int 12]=some (.lst (nm.map .str))/\Pool nm:=by
 have z:(1000:Nat)<=sizeLine:=by decide
 obtain⟨O,a0,a1,a2⟩:=O1 c 20 (by decide) (by decide);obtain⟨J,b0,b1,b2⟩:=O1 c 21 (by decide) (by decide);obtain⟨f,hf⟩:∃f:Nat->Int,∀j:Nat,j<8->0<=f j/\f j<36/\∀δ:Ds,o2 (oA (z7 (gv 1) (z7 (gv 0) v4)) o4) (gc (.int 36)) Z0 (.sh (.int (j:Int))::.sh (.int c)::δ)=some (.int (f j)):=by
  have:∀j:Nat,∃v:Int,j<8->0<=v/\v<36/\∀δ:Ds,o2 (oA (z7 (gv 1) (z7 (gv 0) v4)) o4) (gc (.int 36)) Z0 (.sh (.int (j:Int))::.sh (.int c)::δ)=some (.int v):=λj=>by
   by_cases hj:j<8
   ·obtain⟨x,y0,y1,y2⟩:=O1 c (j:Int) (by omega) (by omega)
    refine⟨x%36,λ_=>⟨by omega,by omega,fun δ=>?_⟩⟩;rw[t6 (x:=.int x) (y:=.int 36) (by rw[t7 (ds:=[.int c,.int (j:Int)]) rfl];exact y2) rfl];rfl
   ·exact⟨0,λh=>absurd h hj⟩
  obtain⟨f,hf⟩:=P8 this;exact⟨f,hf⟩
 obtain⟨n,hn⟩:∃n:Nat,(n:Int)=O%8:=⟨(O%8).toNat,by omega⟩;have n8:n<8:=by omega
 obtain⟨w,hw⟩:∃w:List Nat,w=(List.range n).map λj=>cg (f j):=⟨_,rfl⟩
 have wl:w.length=n:=by rw[hw];simp
 have wm:∀x∈w,x∈nameS.cps.toList:=λx hx=>by
  rw[hw] at hx;obtain⟨j,hj,rfl⟩:=B1.mp hx;have hj:=B8.mp hj;exact gj0 _ (hf j (by omega)).1 (hf j (by omega)).2.1
 have base:∀s3 s4:Sl,y50 (gc (.str "")) (z7 (b8 1 [0,2] (J1 (z7 (o2 (oA (z7 (gv 0) (z7 (gc (.int 20)) v4)) o4) (gc (.int 8)) Z0) v4)) (gN 0) noT (o2 (gv 2) (o2 (oA (z7 (gv 1) (z7 (gv 0) v4)) o4) (gc (.int 36)) Z0) ixD)) v4) [.sh (.int c),.sh (.int 12),.sh (.str N7),s3,s4]=some (.str (strOf w)):=λs3 s4=>by
  rw[tw0 (x:=.str "") (ds:=[.lst ((ones w).map .str)]) rfl (cons_of (Y6 (items:=V8 0 (n:Int)) (wh0 (cons_of (by
   rw[t6 (x:=.int O) (y:=.int 8) (by rw[t7 (ds:=[.int c,.int 20]) rfl];exact a2) rfl,hn];rfl) rfl) (by omega) (by omega)) (by rw[yc0];omega) (by
   have q:=yb0 (gt:=noT) (ge:=(o2 (gv 2) (o2 (oA (z7 (gv 1) (z7 (gv 0) v4)) o4) (gc (.int 36)) Z0) ixD)) (δ:=[.un,.sh (.int c),.sh (.str N7)]) (n:=(n:Int)) (λj=>.str ⟨#[cg (f j)]⟩) (λk hk=>⟨[.sh (.int (k:Int)),.sh (.int c),.sh (.str N7)],rfl,rfl,by
    have Z:k<n:=by omega
    obtain⟨g0,g1,g2⟩:=hf k (by omega);rw[t6 (x:=.str N7) (y:=.int (f k)) rfl (g2 _)];exact kh0 (f k) g0 g1⟩)
   refine q.trans ?_;rw[Int.toNat_natCast,hw];unfold ones;rw[List.map_map,List.map_map];rfl)) rfl)]
  have e1:=strs_map id (ones w);have Y:zi0 ((ones w).map D.str)=some (ones w):=by simpa using e1
  simp only[u60];rw[Y,Option.bind_some,xr0,join_ones,if_pos (by
   have:("" : PySem.Str).length=0:=by decide +kernel
   rw[this];omega)]
 obtain⟨a,ha⟩:∃a:Nat,(a:Int)=J%((n:Int)+1):=⟨(J%((n:Int)+1)).toNat,by have:=L1 J (by omega:(n:Int)+1≠0);omega⟩;have a3:a<=n:=by have:=M1 J (by omega:(0:Int)<(n:Int)+1);omega
 obtain⟨F,hF⟩:∃F:Nat->List Nat,F=λ(k:Nat)=>w.take a++cg ((3*(k:Int)+c)%36)::w.drop a:=⟨_,rfl⟩
 have Fl:∀k,(F k).length=n+1:=λk=>by
  rw[hF];show (w.take a++cg ((3*(k:Int)+c)%36)::w.drop a).length=n+1;rw[List.length_append,List.length_cons,List.length_take,List.length_drop];omega
 refine⟨(List.range 12).map λk=>strOf (F k),Q9 rfl (v5 (o8 (d:=.str N7) rfl) (v5 (o8 (d:=.str (strOf w)) (base _ _)) (v5 (o8 (d:=.int (a:Int)) ?_) (R5 (O5 (Y6 (items:=V8 0 12) rfl (by rw[yc0];show (12:Nat)<=_;omega) ?_)))))),by simp,λs hs=>?_,?_⟩
 ·rw[t6 (x:=.int J) (y:=.int ((n:Int)+1)) (by rw[t7 (ds:=[.int c,.int 21]) rfl];exact b2) (by
   rw[t6 (x:=.int (n:Int)) (y:=.int 1) (by
    rw[t7 (ds:=[.str (strOf w)]) rfl];simp only[Z5];rw[ye0,wl,if_pos (by omega)]) rfl]
   rfl),Gw.uk0 _ _ (by omega),ha]
 ·have q:=yb0 (gt:=noT) (ge:=(o2 (o2 (y90 (gv 3) J3 (someO (gv 4))) (o2 (gv 2) (o2 (o2 (o2 (gc (.int 3)) (gv 0) R0) (gv 1) o5) (gc (.int 36)) Z0) ixD) o5) (y90 (gv 3) (someO (gv 4)) J3) o5)) (δ:=[.un,.sh (.int c),.sh (.str N7),.sh (.str (strOf w)),.sh (.int (a:Int))]) (n:=12) (λk=>.str (strOf (F k))) (λk hk=>⟨[.sh (.int (k:Int)),.sh (.int c),.sh (.str N7),.sh (.str (strOf w)),.sh (.int (a:Int))],rfl,rfl,by
   have Z:(k:Int)<12:=hk;have t1:y90 (gv 3) J3 (someO (gv 4)) [.sh (.int (k:Int)),.sh (.int c),.sh (.str N7),.sh (.str (strOf w)),.sh (.int (a:Int))]=some (.str (strOf (w.take a))):=by
    show slA (.str (strOf w)) none (some (a:Int))=_;simp only[slA];rw[if_pos (by rw[ye0,wl];omega),Gw.Yn0 _ _ (by omega) (by omega),Int.toNat_natCast]
   have t2:y90 (gv 3) (someO (gv 4)) J3 [.sh (.int (k:Int)),.sh (.int c),.sh (.str N7),.sh (.str (strOf w)),.sh (.int (a:Int))]=some (.str (strOf (w.drop a))):=by
    show slA (.str (strOf w)) (some (a:Int)) none=_;simp only[slA];rw[if_pos (by rw[ye0,wl];omega),Gw.X80 _ _ (by omega) (by omega),Int.toNat_natCast]
   have t3:o2 (gv 2) (o2 (o2 (o2 (gc (.int 3)) (gv 0) R0) (gv 1) o5) (gc (.int 36)) Z0) ixD [.sh (.int (k:Int)),.sh (.int c),.sh (.str N7),.sh (.str (strOf w)),.sh (.int (a:Int))]=some (.str (strOf [cg ((3*(k:Int)+c)%36)])):=by
    rw[t6 (x:=.str N7) (y:=.int ((3*(k:Int)+c)%36)) rfl (by
     rw[t6 (x:=.int (3*(k:Int)+c)) (y:=.int 36) (by
      rw[t6 (x:=.int (3*(k:Int))) (y:=.int c) (by rw[t6 (x:=.int 3) (y:=.int (k:Int)) rfl rfl];exact Gw.ue0 _ _ (by decide)) rfl];rfl) rfl]
     rfl)]
    exact kh0 _ (by omega) (by omega)
   rw[t6 (x:=.str (strOf (w.take a++[cg ((3*(k:Int)+c)%36)]))) (y:=.str (strOf (w.drop a))) (by
    rw[t6 t1 t3];exact Gw.ci0 _ _ (by rw[List.length_take];simp;omega)) t2]
   rw[Gw.ci0 _ _ (by rw[List.length_append,List.length_take,List.length_drop];simp;omega),hF];show some (D.str (strOf _))=some (D.str (strOf (w.take a++cg ((3*(k:Int)+c)%36)::w.drop a)));rw[List.append_assoc];rfl⟩)
  refine q.trans ?_;rw[List.map_map];rfl
 ·obtain⟨k,hk,rfl⟩:=B1.mp hs
  refine ga0 _ (by rw[Fl];omega) (by rw[Fl];omega) λx hx=>?_
  rw[hF] at hx;rcases B4.mp hx with q|q
  ·exact wm x (Q1 q)
  ·rcases B0.mp q with rfl|q
   ·exact gj0 _ (by omega) (by omega)
   ·exact wm x (List.mem_of_mem_drop q)
 ·refine List.nodup_iff_pairwise_ne.mpr (List.pairwise_map.mpr (List.Pairwise.imp_of_mem ?_ (List.nodup_range (n:=12))))
  intro i j hi hj a4 e;have hi:=B8.mp hi;have hj:=B8.mp hj;have e:=gg0 e;rw[hF] at e;have e:w.take a++cg ((3*(i:Int)+c)%36)::w.drop a=w.take a++cg ((3*(j:Int)+c)%36)::w.drop a:=e;have e:=List.append_cancel_left e;have e:=(List.cons.inj e).1;have e:=W00 _ _ (by omega) (by omega) (by omega) (by omega) e;omega
end Bw
namespace Bw
open Ja
open DL W
theorem O8{g:GE}{b:Bool}(h:g δ=some (.bl b)):ob g δ=some b:=by
 unfold ob;rw[h];rfl
def dg(r:Nat):List Int:=if h:r=0 then [] else ((128+r%128:Nat):Int)::dg (r/128)
termination_by r
decreasing_by omega
theorem Ub0:dg 0=[]:=by unfold dg;rw[dif_pos rfl]
theorem Um0(r:Nat)(h:r≠0):dg r=((128+r%128:Nat):Int)::dg (r/128):=by conv=>lhs;unfold dg;rw[dif_neg h]
def hi(r:Nat):List Int:=(dg r).reverse
theorem sw0:hi 0=[]:=by unfold hi;rw[Ub0];rfl
theorem iz0(r:Nat)(h:r≠0):hi r=hi (r/128)++[((128+r%128:Nat):Int)]:=by unfold hi;rw[Um0 r h,List.reverse_cons]
def bs(n:Nat):List Int:=hi (n/128)++[((n%128:Nat):Int)]
theorem W60:∀(m r:Nat),r<2 ^ m->(hi r).length<=m:=by
 intro m
 induction m with
 | zero =>
  intro r h;have h2:r=0:=by
   simp at h;exact h
  subst h2;rw[sw0];exact A1 _
 | succ m ih =>
  intro r h
  by_cases h0:r=0
  ·subst h0;rw[sw0];exact C0 _
  ·rw[iz0 r h0,List.length_append]
   have:2 ^ (m+1)=2 ^ m*2:=n5 2 m;have:=ih (r/128) (by omega);simp only[List.length_cons,List.length_nil];omega
theorem z80(n:Nat)(h:n<2 ^ 300):(bs n).length<=301:=by
 unfold bs;rw[List.length_append];have:=W60 300 (n/128) (O0 (Nat.div_le_self _ _) h);simp only[List.length_cons,List.length_nil];omega
def VT:GB:=(ob (o2 (gv 0) (gc (.int 127)) gtD))
def VB:GS:=(v6 (o9 (gN 0) (o2 (gv 0) (gc (.int 128)) xp0))
 (v6 (Z8 (s20 1 (o2 (gc (.int 128)) (o2 (gv 0) (gc (.int 128)) Z0) o5)))
 u6))
theorem vt(b:Sl)(r:Nat):VT [.sh (.int (r:Int)),b]=some (decide (127<r)):=by
 show some (decide ((127:Int)<(r:Int)))=_
 by_cases h:127<r
 ·rw[decide_eq_true h,decide_eq_true (by omega)]
 ·rw[decide_eq_false h,decide_eq_false (by omega)]
theorem Xn0{g:GE}{l:List D}{d:D}(h1:owL i δ=some l)(h2:g δ=some d)(h3:l.length<sizeLine):Z8 (s20 i g) δ=some (.nx (δ.set i (.ow (.lst (d::l))))):=by
 unfold Z8 s20;rw[h1,h2];simp only[Option.bind_some];rw[if_pos h3];rfl
theorem vh:∀(m r:Nat) (o:List Int) (f:Nat),r<2 ^ m->m<f->o.length+m<sizeLine ->
  ∃s,X5 VT VB f [.sh (.int (r:Int)),.ow (.lst (o.map .int))]=some (.nx [s,.ow (.lst ((hi (r/128)++o).map .int))])
 | m,r,o,0,_,hf,_=>absurd hf (Q2 _)
 | m,r,o,f+1,hr,hf,hl=>by
  by_cases h0:r/128=0
  ·unfold X5
   rw[vt,decide_eq_false (by omega),h0,sw0];exact⟨_,rfl⟩
  ·cases m with
   | zero=>simp at hr;omega
   | succ m =>
    have hb:VB [.sh (.int (r:Int)),.ow (.lst (o.map .int))]=some (.nx [.sh (.int ((r/128:Nat):Int)),.ow (.lst ((((128+r/128%128:Nat):Int)::o).map .int))]):=by
     have e1:(128:Int)+((r/128:Nat):Int)%128=((128+r/128%128:Nat):Int):=by omega
     have e2:(r:Int)/128=((r/128:Nat):Int):=by omega
     refine v5 (o8 (d:=.int ((r/128:Nat):Int)) (by rw[← e2];rfl)) ?_;refine v5 (Xn0 (l:=o.map .int) (d:=.int (128+((r/128:Nat):Int)%128)) rfl rfl (by rw[List.length_map];omega)) ?_;rw[e1];rfl
    have h2:r/128<2 ^ m:=by
     have:2 ^ (m+1)=2 ^ m*2:=n5 2 m;omega
    obtain⟨s,e⟩:=vh m (r/128) (((128+r/128%128:Nat):Int)::o) f h2 (by omega) (by simp only[List.length_cons];omega);refine⟨s,?_⟩;unfold X5;rw[vt,decide_eq_true (by omega)];simp only[hb];rw[e,iz0 (r/128) h0,List.append_assoc];rfl
theorem xw0(n:Nat)(h:n<2 ^ 300):Z3 [.int (n:Int)]=some (.lst ((bs n).map .int)):=by
 have z:(1000:Nat)<=sizeLine:=by decide
 obtain⟨s,e⟩:=vh 300 n [((n%128:Nat):Int)] 100000 h (by decide) (by show 1+300<_;omega);refine Q9 rfl ?_;have e1:(n:Int)%128=((n%128:Nat):Int):=by omega
 refine v5 (δ':=[.sh (.int (n:Int)),.ow (.lst [.int ((n%128:Nat):Int)])]) (by rw[← e1];rfl) ?_;exact v5 e (R5 rfl)
inductive Vb:D->Prop
 | non:Vb .non
 | lk (j:Nat) (h:j<1000):Vb (.tup [.str "at",.int (j:Int)])
 | int (z:Int) (h:z.natAbs<2 ^ 250):Vb (.int z)
def fold(z:Int):Nat:=if z<0 then (-2*z - 1).toNat else (2*z).toNat
def vn:D->Nat
 | .tup [_,.int j]=>(2*j+2).toNat
 | .int z=>2*fold z+1
 | _=>0
theorem fold_lt(z:Int)(h:z.natAbs<2 ^ 250):fold z<2 ^ 252:=by
 unfold fold;have e:(2:Nat) ^ 252=4*2 ^ 250:=by decide +kernel
 generalize (2:Nat) ^ 250=w at h e;split<;>omega
theorem nq0{v:D}(h:Vb v):vn v<2 ^ 300:=by
 cases h with
 | non=>show 0<_;decide +kernel
 | lk j h =>
  show (2*(j:Int)+2).toNat<_;have:(2:Nat) ^ 12<2 ^ 300:=by decide +kernel
  have e:(2:Nat) ^ 12=4096:=by decide
  generalize (2:Nat) ^ 300=w at this;omega
 | int z h =>
  show 2*fold z+1<_;have:=fold_lt z h;have e:(2:Nat) ^ 252+2 ^ 252<2 ^ 300:=by decide +kernel
  generalize (2:Nat) ^ 300=w at e;generalize (2:Nat) ^ 252=w at e this;omega
theorem U40:bs 0=[0]:=by unfold bs;rw[show 0/128=0 from rfl,sw0];rfl
theorem pt0{v:D}(h:Vb v):W7 [v]=some (.lst ((bs (vn v)).map .int)):=by
 have J:=nq0 h;cases h with
 | non =>
  show _=some (D.lst ((bs 0).map .int));rw[U40];rfl
 | lk j h =>
  refine Q9 rfl (v5 (δ':=[.sh (.tup [.str "at",.int (j:Int)])]) rfl (R5 ?_));rw[V4 rfl];refine R5 (O5 ?_);rw[t7 (ds:=[.int ((vn (.tup [.str "at",.int (j:Int)]):Nat):Int)]) (cons_of ?_ rfl)]
  ·exact xw0 _ J
  ·rw[t6 (x:=.int (2*(j:Int))) (y:=.int 2) (by rw[t6 (x:=.int 2) (y:=.int (j:Int)) rfl rfl];exact Gw.ue0 _ _ (by decide)) rfl]
   have:((vn (.tup [.str "at",.int (j:Int)]):Nat):Int)=2*(j:Int)+2:=by show (((2*(j:Int)+2).toNat:Nat):Int)=_;omega
   rw[this];rfl
 | int z h =>
  by_cases hz:z<0
  ·refine Q9 rfl (v5 (δ':=[.sh (.int z)]) rfl (v5 (δ':=[.sh (.int z)]) rfl (R5 ?_)))
   rw[V4 (by show some (decide (z<0))=_;rw[decide_eq_true hz])];refine R5 (O5 ?_);rw[t7 (ds:=[.int ((vn (.int z):Nat):Int)]) (cons_of ?_ rfl)]
   ·exact xw0 _ J
   ·rw[t6 (x:=.int (2*(0 - 2*z - 1))) (y:=.int 1) (by
     rw[t6 (x:=.int 2) (y:=.int (0 - 2*z - 1)) rfl (by
      rw[t6 (x:=.int (0 - 2*z)) (y:=.int 1) (by
       rw[t6 (x:=.int 0) (y:=.int (2*z)) rfl (by rw[t6 (x:=.int 2) (y:=.int z) rfl rfl];exact Gw.ue0 _ _ (by decide))];rfl) rfl]
      rfl)]
     exact Gw.ue0 _ _ (by decide)) rfl]
    have:((vn (.int z):Nat):Int)=2*(0 - 2*z - 1)+1:=by
     show (((2*fold z+1):Nat):Int)=_;unfold fold;rw[if_pos hz];omega
    rw[this];rfl
  ·refine Q9 rfl (v5 (δ':=[.sh (.int z)]) rfl (v5 (δ':=[.sh (.int z)]) rfl (v5 (δ':=[.sh (.int z)]) (by rw[Z4 (by show some (decide (z<0))=_;rw[decide_eq_false hz])];rfl) (R5 (O5 ?_)))))
   rw[t7 (ds:=[.int ((vn (.int z):Nat):Int)]) (cons_of ?_ rfl)]
   ·exact xw0 _ J
   ·rw[t6 (x:=.int (4*z)) (y:=.int 1) (by rw[t6 (x:=.int 4) (y:=.int z) rfl rfl];exact Gw.ue0 _ _ (by decide)) rfl]
    have:((vn (.int z):Nat):Int)=4*z+1:=by
     show (((2*fold z+1):Nat):Int)=_;unfold fold;rw[if_neg hz];omega
    rw[this];rfl
def sg(s:Str):List Int:=s.cps.toList.map λ(c:Nat)=>(c:Int)
theorem xy0(s:Str):(sg s).length=s.length:=by unfold sg;rw[List.length_map];rfl
theorem eq0(s:Str):V3 (gN 0) noT (oA (z7 (gv 0) v4) rc0) [.un] (signs s)=some ((sg s).map .int):=by
 unfold signs;rw[G8 (λd=>match d with|.str x=>.int ((x.cps.toList.headD 0:Nat):Int)|_=>.non) (λd hd=>by
  obtain⟨c,hc,rfl⟩:=B1.mp hd;exact⟨[.sh (.str ⟨#[c]⟩)],rfl,rfl,rfl⟩)]
 unfold sg;rw[List.map_map,List.map_map];rfl
theorem ii0(s:Str)(h:s.length<=sizeLine):M9 [.str s]=some (.lst ((sg s).map .int)) :=
 Q9 rfl (R5 (O5 (Y6 (items:=signs s) rfl (by unfold signs;rw[List.length_map];exact h) (eq0 s))))
theorem add_l(a b:List Int)(h:a.length+b.length<=sizeLine):o5 (.lst (a.map .int)) (.lst (b.map .int))=some (.lst ((a++b).map .int)):=by
 simp only[o5];rw[if_pos (by rw[List.length_map,List.length_map];exact h),List.map_append]
theorem W70{g:GE}{e:List Int}(h1:owL i δ=some (l.map .int))(h2:g δ=some (.lst (e.map .int)))(h3:l.length+e.length<=sizeLine):Z8 (yq0 i g) δ=some (.nx (δ.set i (.ow (.lst ((l++e).map .int))))):=by
 unfold Z8 yq0;rw[h1,h2];simp only[Option.bind_some];rw[if_pos (by rw[List.length_map,List.length_map];exact h3),List.map_append];rfl
theorem wt0(f:α->List Int)(c:Nat):∀l:List α,(∀d∈l,(f d).length<=c)->(l.flatMap f).length<=l.length*c
 | [],_=>by simp
 | a::l,h=>by
  rw[List.flatMap_cons,List.length_append,List.length_cons,Nat.add_mul];have h1:=h a A8;have h2:=wt0 f c l λd hd=>h d (A5 _ hd)
  omega
theorem xi0(f:α->List Int){l:List α}{d:α}(h:l[j]?=some d):(l.take j).flatMap f++f d=(l.take (j+1)).flatMap f:=by
 rw[List.take_succ,h,List.flatMap_append];simp
def ib:D->List Int
 | .str s=>bs s.length++sg s
 | v=>bs (vn v)
def Ib(d:D):Prop:=(∃s:Str,d=.str s/\s.length<=20)∨Vb d
theorem Vb.ib{d:D}(h:Vb d):ib d=bs (vn d):=by cases h<;>rfl
theorem small(h:n<=100000000):n<2 ^ 300:=O0 h (by decide +kernel)
theorem v00{d:D}(h:Ib d):(ib d).length<=330:=by
 rcases h with⟨s,rfl,hs⟩|h
 ·show (bs s.length++sg s).length<=_
  have:=z80 s.length (small (by omega));rw[List.length_append,xy0];omega
 ·rw[h.ib]
  have:=z80 _ (nq0 h);omega
theorem ta0{g:GE}{s:Str}(h:g δ=some (.str s))(hs:s.length<=sizeLine):oA (z7 g v4) Z5 δ=some (.int (s.length:Int)):=by
 rw[t7 (ds:=[.str s]) (cons_of h rfl)];simp only[Z5];rw[if_pos hs]
def cnt:Pt->Nat
 | .text w=>w.length
 | .row vs=>vs.length
 | .table ps=>ps.length
 | .rcd _ ps=>ps.length
def kn:Pt->Nat
 | .text _=>0
 | .row _=>1
 | .table _=>2
 | .rcd _ _=>3
def two(p:Str×D):List D:=[.str p.1,p.2]
def its:Pt->List D
 | .text _=>[]
 | .row vs=>vs
 | .table ps=>ps.flatMap two
 | .rcd c ps=>.str c::ps.flatMap two
def tx:Pt->List Int
 | .text w=>sg w
 | _=>[]
def pb(p:Pt):List Int:=bs (4*cnt p+kn p)++tx p++(its p).flatMap ib
structure Gp(p:Pt):Prop where
 cnt:cnt p<=20
 len:(its p).length<=50
 it:∀d∈its p,Ib d
theorem Zt0{p:Pt}(h:Gp p):(tx p).length<=20:=by
 cases p with
 | text w=>show (sg w).length<=20;rw[xy0];exact h.cnt
 | _=>exact C0 _
theorem nj0(p:Pt):kn p<=3:=by cases p<;>simp[kn]
theorem m00{p:Pt}(h:Gp p):(bs (4*cnt p+kn p)).length<=301:=z80 _ (small (by have:=h.cnt;have:=nj0 p;omega))
theorem K8{p:Pt}(h:Gp p):(pb p).length<=20000:=by
 unfold pb;have h1:=Zt0 h;have h2:=m00 h;have h3:=wt0 ib 330 (its p) λd hd=>v00 (h.it d hd)
 have h4:=h.len;rw[List.length_append,List.length_append];have:(its p).length*330<=50*330:=S0 _ h4;omega
theorem ar0{p:Pt}(h:cnt p<=20)(δ:Ds):oA (z7 (o2 (gv 0) (unG J5 (gc (.int 1))) ixD) v4) Z5 (.sh p.d::δ)=some (.int (cnt p:Int)):=by
 have z:(1000:Nat)<=sizeLine:=by decide
 cases p with
 | text w =>
  have h:w.length<=20:=h;exact ta0 rfl (by omega)
 | row vs=>rfl
 | table ps =>
  show some (D.int (((ps.map pr).length:Nat):Int))=_;rw[List.length_map];rfl
 | rcd c ps =>
  show some (D.int (((ps.map pr).length:Nat):Int))=_;rw[List.length_map];rfl
theorem Vt0(p:Pt)(δ:Ds):ni0 (Z6 (z7 (gc (.str "text")) (z7 (gc (.str "row")) (z7 (gc (.str "table")) (z7 (gc (.str "record")) v4))))) (z7 (o2 (gv 0) (gc (.int 0)) ixD) v4) i60 (.sh p.d::δ)=some (.int (kn p:Int)):=by
 cases p<;>kernel_rfl
theorem Wo0(a b:Nat):4*(a:Int)+(b:Int)=((4*a+b:Nat):Int):=by omega
theorem z90:∀ps:List (Str×D),(ps.flatMap two).length=2*ps.length
 | []=>rfl
 | p::ps=>by rw[List.flatMap_cons,List.length_append,z90 ps,List.length_cons];show 2+_=_;omega
def RB:GS:=(v6 (o9 (gN 2) (o2 (gv 2) (oA (z7 (gv 3) v4) W7) o5))
 u6)
def TB:GS:=(v6 (o9 (gN 2) (o2 (o2 (gv 2) (oA (z7 (oA (z7 (gv 4) v4) Z5) v4) Z3) o5) (oA (z7 (gv 4) v4) M9) o5))
 (v6 (o9 (gN 2) (o2 (gv 2) (oA (z7 (gv 3) v4) W7) o5))
 u6))
theorem eh0(a b e:Sl)(pre:List Int)(l:List D)(hi:∀d∈l,Vb d)(hl:pre.length+l.length*330<=sizeLine)(s:Sl):∃s',S8 (gN 3) RB l [a,b,.sh (.lst (pre.map .int)),s,e]=some (.nx [a,b,.sh (.lst ((pre++l.flatMap ib).map .int)),s',e]):=by
 obtain⟨δ',l1,l2⟩:=S6 (f:=gN 3) (G:=RB) (λi δ=>∃s,δ=[a,b,.sh (.lst ((pre++(l.take i).flatMap ib).map .int)),s,e]) l 0 [a,b,.sh (.lst (pre.map .int)),s,e] (by
  rintro j d δ hj ⟨s,rfl⟩;have Y:=(C4.mp hj).1;have hd:=hi d (D5 hj);have O:=v00 (.inr hd);have J:=wt0 ib 330 (l.take j) λd hd=>v00 (.inr (hi d (Q1 hd)))
  rw[Nat.zero_add];refine⟨_,_,rfl,v5 (o8 (d:=.lst ((pre++(l.take j).flatMap ib++ib d).map .int)) ?_) rfl,.sh d,?_⟩
  ·rw[t6 (x:=.lst ((pre++(l.take j).flatMap ib).map .int)) (y:=.lst ((ib d).map .int)) rfl (by rw[t7 (ds:=[d]) rfl,hd.ib];exact pt0 hd)]
   exact add_l _ _ (by
    rw[List.length_append];rw[List.length_take] at J;have:(min j l.length)*330+330<=l.length*330:=by
     have:min j l.length=j:=by omega
     rw[this];omega
    omega)
  ·rw[List.append_assoc,xi0 ib hj]
   rfl) ⟨s,by simp⟩
 obtain⟨s',rfl⟩:=l2;refine⟨s',?_⟩;rw[l1,Nat.zero_add,List.take_length]
def pbs(p:Str×D):List Int:=ib (.str p.1)++ib p.2
theorem m20:∀ps:List (Str×D),ps.flatMap pbs=(ps.flatMap two).flatMap ib
 | []=>rfl
 | p::ps=>by
  rw[List.flatMap_cons,List.flatMap_cons,List.flatMap_append,m20 ps];unfold two pbs;simp
theorem rr0(a b:Sl)(pre:List Int)(l:List (Str×D))(hi:∀d∈l,d.1.length<=20/\Vb d.2)(hl:pre.length+l.length*660<=sizeLine)(s e:Sl) :
  ∃s' e',S8 (yu0 4 3) TB (l.map pr) [a,b,.sh (.lst (pre.map .int)),s,e]=some (.nx [a,b,.sh (.lst ((pre++l.flatMap pbs).map .int)),s',e']):=by
 have z:(1000:Nat)<=sizeLine:=by decide
 obtain⟨δ',l1,l2⟩:=S6 (f:=yu0 4 3) (G:=TB) (λi δ=>∃s e,δ=[a,b,.sh (.lst ((pre++(l.take i).flatMap pbs).map .int)),s,e]) (l.map pr) 0 [a,b,.sh (.lst (pre.map .int)),s,e] (by
  rintro j d δ hj ⟨s,e,rfl⟩;rw[List.getElem?_map] at hj;cases hp:l[j]? with
  | none=>rw[hp] at hj;cases hj
  | some p =>
   rw[hp] at hj;cases hj;have Y:=(C4.mp hp).1;obtain⟨hn,hv⟩:=hi p (D5 hp);have h1:(ib (.str p.1)).length<=330:=v00 (.inl ⟨_,rfl,hn⟩);have h2:(ib p.2).length<=330:=v00 (.inr hv);have O:=wt0 pbs 660 (l.take j) λd hd=>by
    obtain⟨q1,q2⟩:=hi d (Q1 hd);have a1:=v00 (.inl ⟨_,rfl,q1⟩:Ib (.str d.1));have a2:=v00 (.inr q2);unfold pbs;rw[List.length_append];omega
   rw[Nat.zero_add];have Z:pre.length+((l.take j).flatMap pbs).length+660<=sizeLine:=by
    rw[List.length_take] at O;have:(min j l.length)*660+660<=l.length*660:=by
     have:min j l.length=j:=by omega
     rw[this];omega
    omega
   have J:ib (.str p.1)=bs p.1.length++sg p.1:=rfl;rw[J,List.length_append] at h1;refine⟨[a,b,.sh (.lst ((pre++(l.take j).flatMap pbs).map .int)),.sh p.2,.sh (.str p.1)],_,rfl,v5 (o8 (d:=.lst ((pre++(l.take j).flatMap pbs++bs p.1.length++sg p.1).map .int)) ?_) (v5 (o8 (d:=.lst ((pre++(l.take j).flatMap pbs++bs p.1.length++sg p.1++ib p.2).map .int)) ?_) rfl),.sh p.2,.sh (.str p.1),?_⟩
   ·rw[t6 (x:=.lst ((pre++(l.take j).flatMap pbs++bs p.1.length).map .int)) (y:=.lst ((sg p.1).map .int)) (by
     rw[t6 (x:=.lst ((pre++(l.take j).flatMap pbs).map .int)) (y:=.lst ((bs p.1.length).map .int)) rfl (by
      rw[t7 (ds:=[.int (p.1.length:Int)]) (cons_of (ta0 rfl (by omega)) rfl)];exact xw0 _ (small (by omega)))]
     exact add_l _ _ (by rw[List.length_append];omega)) (by rw[t7 (ds:=[.str p.1]) rfl];exact ii0 _ (by omega))]
    exact add_l _ _ (by rw[List.length_append,List.length_append];omega)
   ·change o2 _ _ _ [a,b,.sh (.lst ((pre++(l.take j).flatMap pbs++bs p.1.length++sg p.1).map .int)),.sh p.2,.sh (.str p.1)]=_
    rw[t6 (x:=.lst ((pre++(l.take j).flatMap pbs++bs p.1.length++sg p.1).map .int)) (y:=.lst ((ib p.2).map .int)) rfl (by rw[t7 (ds:=[p.2]) rfl,hv.ib];exact pt0 hv)];exact add_l _ _ (by rw[List.length_append,List.length_append,List.length_append];omega)
   ·have e1:pre++(l.take j).flatMap pbs++bs p.1.length++sg p.1++ib p.2=pre++(l.take (j+1)).flatMap pbs:=by
     rw[← xi0 pbs hp];unfold pbs;rw[J];simp only[List.append_assoc]
    rw[e1];rfl) ⟨s,e,by simp⟩
 obtain⟨s',e',rfl⟩:=l2;refine⟨s',e',?_⟩;rw[l1,Nat.zero_add,List.length_map,List.take_length]
structure Gq(p:Pt):Prop where
 cnt:cnt p<=20
 vals:∀v∈p.vals,Vb v
 names:∀s∈p.all,s.length<=20
 few:p.vals.length<=12
theorem s80{ps:List (Str×D)}(h1:∀v∈ps.map (·.2),Vb v)(h2:∀s∈ps.map (·.1),s.length<=20):∀d∈ps,d.1.length<=20/\Vb d.2:=λd hd=>⟨h2 _ (B1.mpr ⟨d,hd,rfl⟩),h1 _ (B1.mpr ⟨d,hd,rfl⟩)⟩
theorem gq0{ps:List (Str×D)}(h:∀d∈ps,d.1.length<=20/\Vb d.2):∀d∈ps.flatMap two,Ib d:=λd hd=>by
 obtain⟨p,hp,hm⟩:=Bl0.mp hd;obtain⟨q1,q2⟩:=h p hp;unfold two at hm;rcases B0.mp hm with rfl|hm
 ·exact .inl ⟨_,rfl,q1⟩
 ·rw[List.mem_singleton.mp hm];exact .inr q2
theorem Gq.gp{p:Pt}(h:Gq p):Gp p:=by
 obtain⟨h1,h2,h3⟩:=h;cases p with
 | text w=>exact⟨h1,C0 _,λd hd=>by cases hd⟩
 | row vs=>exact⟨h1,by have:vs.length<=20:=h1;show vs.length<=50;omega,λd hd=>.inr (h2 d hd)⟩
 | table ps =>
  have hp:=s80 h2 λs hs=>h3 s (D7 _ hs)
  exact⟨h1,by have:ps.length<=20:=h1;show (ps.flatMap two).length<=50;rw[z90];omega,gq0 hp⟩
 | rcd c ps =>
  have hp:=s80 h2 λs hs=>h3 s (D7 _ hs)
  refine⟨h1,by have:ps.length<=20:=h1;show (D.str c::ps.flatMap two).length<=50;rw[List.length_cons,z90];omega,λd hd=>?_⟩;rcases B0.mp hd with rfl|hd
  ·exact .inl ⟨_,rfl,h3 c (C6 _ (C8.mpr rfl))⟩
  ·exact gq0 hp d hd
theorem Ym0{p:Pt}(h:Gq p):J7 [p.d]=some (.lst ((pb p).map .int)):=by
 have z:(1000000:Nat)<=sizeLine:=by decide
 have hg:=h.gp;have hh:=m00 hg;have J:=h.cnt;have O:∀(s2 s3 s4:Sl),oA (z7 (o2 (o2 (gc (.int 4)) (oA (z7 (o2 (gv 0) (unG J5 (gc (.int 1))) ixD) v4) Z5) R0) (gv 1) o5) v4) Z3 [.sh p.d,.sh (.int (kn p:Int)),s2,s3,s4]=some (.lst ((bs (4*cnt p+kn p)).map .int)):=λs2 s3 s4=>by
  rw[t7 (ds:=[.int ((4*cnt p+kn p:Nat):Int)]) (cons_of (by
   rw[t6 (x:=.int (4*(cnt p:Int))) (y:=.int (kn p:Int)) (by
    rw[t6 (x:=.int 4) (y:=.int (cnt p:Int)) rfl (ar0 J _)];exact Gw.ue0 _ _ (by decide)) rfl,← Wo0]
   rfl) rfl)]
  exact xw0 _ (small (by have:=nj0 p;omega))
 refine j9 rfl (v5 (o8 (d:=.int (kn p:Int)) (Vt0 p _)) (v5 (o8 (d:=.lst ((bs (4*cnt p+kn p)).map .int)) (O _ _ _)) ?_));cases p with
 | text w =>
  have hw:w.length<=20:=J;refine p6 ?_;rw[V4 (by kernel_rfl)];refine p6 (d8 ?_);rw[t6 (x:=.lst ((bs (4*cnt (.text w)+kn (.text w))).map .int)) (y:=.lst ((sg w).map .int)) rfl (by rw[t7 (ds:=[.str w]) rfl];exact ii0 w (by omega))];rw[add_l _ _ (by rw[xy0];omega)];unfold pb;show _=some (D.lst ((bs (4*cnt (.text w)+kn (.text w))++sg w++[]).map .int));rw[List.append_nil]
 | row vs =>
  have hv:vs.length<=20:=J;obtain⟨s',e⟩:=eh0 (.sh (Pt.row vs).d) (.sh (.int 1)) .un (bs (4*cnt (.row vs)+kn (.row vs))) vs h.vals (by omega) .un;refine v5 (δ':=[.sh (Pt.row vs).d,.sh (.int 1),.sh (.lst ((bs (4*cnt (.row vs)+kn (.row vs))).map .int)),.un,.un]) (by rw[Z4 (by kernel_rfl)];rfl) (p6 ?_);rw[V4 (by kernel_rfl)];refine v5 (Q4 (items:=vs) rfl e) (p6 (d8 ?_));unfold pb;show some (D.lst _)=some (D.lst ((bs (4*cnt (.row vs)+kn (.row vs))++[]++vs.flatMap ib).map .int));rw[List.append_nil]
 | table ps =>
  have hv:ps.length<=20:=J;obtain⟨s',e',e⟩:=rr0 (.sh (Pt.table ps).d) (.sh (.int 2)) (bs (4*cnt (.table ps)+kn (.table ps))) ps (s80 h.vals λs hs=>h.names s (D7 _ hs)) (by omega) .un .un;refine v5 (δ':=[.sh (Pt.table ps).d,.sh (.int 2),.sh (.lst ((bs (4*cnt (.table ps)+kn (.table ps))).map .int)),.un,.un]) (by rw[Z4 (by kernel_rfl)];rfl) (v5 (δ':=[.sh (Pt.table ps).d,.sh (.int 2),.sh (.lst ((bs (4*cnt (.table ps)+kn (.table ps))).map .int)),.un,.un]) (by rw[Z4 (by kernel_rfl)];rfl) (v5 (δ':=[.sh (Pt.table ps).d,.sh (.int 2),.sh (.lst ((bs (4*cnt (.table ps)+kn (.table ps))).map .int)),.un,.un]) (by rw[Z4 (by kernel_rfl)];rfl) (v5 (Q4 (items:=ps.map pr) rfl e) (p6 (d8 ?_)))));unfold pb;show some (D.lst _)=some (D.lst ((bs (4*cnt (.table ps)+kn (.table ps))++[]++(ps.flatMap two).flatMap ib).map .int));rw[List.append_nil,m20]
 | rcd c ps =>
  have hv:ps.length<=20:=J;have Y:c.length<=20:=h.names c (C6 _ (C8.mpr rfl));have Z:=z80 c.length (small (by omega));obtain⟨s',e',e⟩:=rr0 (.sh (Pt.rcd c ps).d) (.sh (.int 3)) (bs (4*cnt (.rcd c ps)+kn (.rcd c ps))++bs c.length++sg c) ps (s80 h.vals λs hs=>h.names s (D7 _ hs)) (by rw[List.length_append,List.length_append,xy0];omega) .un .un;refine v5 (δ':=[.sh (Pt.rcd c ps).d,.sh (.int 3),.sh (.lst ((bs (4*cnt (.rcd c ps)+kn (.rcd c ps))).map .int)),.un,.un]) (by rw[Z4 (by kernel_rfl)];rfl) (v5 (δ':=[.sh (Pt.rcd c ps).d,.sh (.int 3),.sh (.lst ((bs (4*cnt (.rcd c ps)+kn (.rcd c ps))).map .int)),.un,.un]) (by rw[Z4 (by kernel_rfl)];rfl) (v5 (δ':=[.sh (Pt.rcd c ps).d,.sh (.int 3),.sh (.lst ((bs (4*cnt (.rcd c ps)+kn (.rcd c ps))++bs c.length++sg c).map .int)),.un,.un]) ?_ (v5 (Q4 (items:=ps.map pr) rfl e) (p6 (d8 ?_)))))
  ·rw[V4 (by kernel_rfl)]
   refine v5 (o8 (d:=.lst ((bs (4*cnt (.rcd c ps)+kn (.rcd c ps))++bs c.length++sg c).map .int)) ?_) rfl;rw[t6 (x:=.lst ((bs (4*cnt (.rcd c ps)+kn (.rcd c ps))++bs c.length).map .int)) (y:=.lst ((sg c).map .int)) (by
    rw[t6 (x:=.lst ((bs (4*cnt (.rcd c ps)+kn (.rcd c ps))).map .int)) (y:=.lst ((bs c.length).map .int)) rfl (by
     rw[t7 (ds:=[.int (c.length:Int)]) (cons_of (ta0 rfl (by omega)) rfl)];exact xw0 _ (small (by omega)))]
    exact add_l _ _ (by omega)) (by rw[t7 (ds:=[.str c]) rfl];exact ii0 c (by omega))]
   exact add_l _ _ (by rw[List.length_append,xy0];omega)
  ·unfold pb
   show some (D.lst _)=some (D.lst ((bs (4*cnt (.rcd c ps)+kn (.rcd c ps))++[]++(D.str c::ps.flatMap two).flatMap ib).map .int));rw[List.append_nil,List.flatMap_cons,m20];show some (D.lst ((bs _++bs c.length++sg c++_).map .int))=some (D.lst ((bs _++((bs c.length++sg c)++_)).map .int));simp only[List.append_assoc]
def web(ps:List Pt):D:=.tup (ps.map Pt.d)
def body(p:Pt):D:=.lst ((pb p).map .int)
def ix(ps:List Pt):List Int:=bs ps.length++ps.flatMap λp=>bs (pb p).length
def bun(ps:List Pt):List Int:=ix ps++ps.flatMap pb
structure Gw'(ps:List Pt):Prop where
 len:ps.length<=60
 it:∀p∈ps,Gq p
theorem yw0(h:Gw' ps):(ix ps).length<=20000:=by
 unfold ix;have h1:=z80 ps.length (small (by have:=h.len;omega));have h2:=wt0 (λp=>bs (pb p).length) 301 ps λp hp=>z80 _ (small (by have:=K8 (h.it p hp).gp;omega))
 have h3:=h.len;rw[List.length_append];have:ps.length*301<=60*301:=S0 _ h3;omega
theorem vn0(h:Gw' ps)(j:Nat):((ps.take j).flatMap pb).length<=1200000:=by
 have h2:=wt0 pb 20000 (ps.take j) λp hp=>K8 (h.it p (Q1 hp)).gp
 have h3:=h.len;rw[List.length_take] at h2;have:min j ps.length*20000<=60*20000:=S0 _ (by omega);omega
theorem yf0(h:Gw' ps):(bun ps).length<=1300000:=by
 unfold bun;have h1:=yw0 h;have h2:=vn0 h ps.length;rw[List.take_length] at h2;rw[List.length_append];omega
theorem h70{m:List D->Option D}(h:∀p∈ps,m [p.d]=some (body p))(hl:ps.length<=60)(δ:Ds):b8 1 [] (tupI (gv 0)) (gN 0) noT (oA (z7 (gv 0) v4) m) (.sh (web ps)::δ)=some (.lst (ps.map body)):=by
 have z:(1000:Nat)<=sizeLine:=by decide
 refine Y6 (items:=ps.map Pt.d) rfl (by rw[List.length_map];omega) ?_;have J:∀l:List Pt,(∀p∈l,m [p.d]=some (body p))->V3 (gN 0) noT (oA (z7 (gv 0) v4) m) [.un] (l.map Pt.d)=some (l.map body):=by
  intro l
  induction l with
  | nil=>intro _;rfl
  | cons p l ih =>
   intro h;rw[List.map_cons];unfold V3;show (match oA (z7 (gv 0) v4) m [.sh p.d] with|none=>none|some y=>(V3 (gN 0) noT (oA (z7 (gv 0) v4) m) [.un] (l.map Pt.d)).map λr=>y::r)=_;rw[t7 (ds:=[p.d]) rfl,h p A8];simp only[];rw[ih λp hp=>h p (A5 _ hp)];rfl
 exact J ps h
theorem er0(p:Pt){g:GE}(h:g δ=some (body p)):oA (z7 g v4) Z5 δ=some (.int ((pb p).length:Int)):=by
 rw[qi0 (ds:=(pb p).map .int) h,List.length_map]
theorem lb0{d:D}(h:(ps.map body)[j]?=some d):∃p,ps[j]?=some p/\d=body p:=by
 rw[List.getElem?_map] at h;cases hp:ps[j]? with
 | none=>rw[hp] at h;cases h
 | some p=>rw[hp] at h;cases h;exact⟨p,rfl,rfl⟩
def C1:GS:=(v6 (o9 (gN 2) (o2 (gv 2) (oA (z7 (oA (z7 (gv 3) v4) Z5) v4) Z3) o5))
 u6)
def C2:GS:=(v6 (Z8 (G4 4 (z20 (oA (z7 (gv 5) v4) Z5))))
 (v6 (Z8 (yq0 5 (gv 3)))
 u6))
def bg(ps:List Pt)(j:Nat):Nat:=(ix ps).length+((ps.take j).flatMap pb).length
def sts(ps:List Pt)(n:Nat):List D:=(List.range n).map λj=>.int ((bg ps j:Nat):Int)
theorem s60(ps:List Pt)(j:Nat):sts ps (j+1)=sts ps j++[.int ((bg ps j:Nat):Int)]:=by
 unfold sts;rw[List.range_succ,List.map_append];rfl
theorem yg0(ps:List Pt)(j:Nat):(sts ps j).length=j:=by unfold sts;rw[List.length_map,List.length_range]
theorem mz0(ps:List Pt):bg ps ps.length=(bun ps).length:=by unfold bg bun;rw[List.take_length,List.length_append]
theorem Vf0(h:Gw' ps):O4 [web ps]=some (.tup [.lst ((bun ps).map .int),.int ((ix ps).length:Int),.lst (sts ps (ps.length+1))]):=by
 have z:(10000000:Nat)<=sizeLine:=by decide
 have hl:=h.len;have h1:=z80 ps.length (small (by omega));have hx:=yw0 h;have Y:=yf0 h;obtain⟨δ',l1,l2⟩:=S6 (f:=gN 3) (G:=C1) (λi δ=>∃s,δ=[.sh (web ps),.sh (.lst (ps.map body)),.sh (.lst ((bs ps.length++(ps.take i).flatMap λp=>bs (pb p).length).map .int)),s,.un,.un]) (ps.map body) 0 [.sh (web ps),.sh (.lst (ps.map body)),.sh (.lst ((bs ps.length).map .int)),.un,.un,.un] (by
  rintro j d δ hj ⟨s,rfl⟩;obtain⟨p,hp,rfl⟩:=lb0 hj;have J:=(C4.mp hp).1;have O:=K8 (h.it p (D5 hp)).gp;have hb:=z80 (pb p).length (small (by omega));have h2:=wt0 (λp=>bs (pb p).length) 301 (ps.take j) λp hp=>z80 _ (small (by have:=K8 (h.it p (Q1 hp)).gp;omega))
  rw[Nat.zero_add];refine⟨_,_,rfl,v5 (o8 (d:=.lst ((bs ps.length++((ps.take j).flatMap λp=>bs (pb p).length)++bs (pb p).length).map .int)) ?_) rfl,.sh (body p),?_⟩
  ·rw[t6 (x:=.lst ((bs ps.length++(ps.take j).flatMap λp=>bs (pb p).length).map .int)) (y:=.lst ((bs (pb p).length).map .int)) rfl (by
    rw[t7 (ds:=[.int ((pb p).length:Int)]) (cons_of (er0 p rfl) rfl)];exact xw0 _ (small (by omega)))]
   exact add_l _ _ (by
    rw[List.length_append];rw[List.length_take] at h2;have:min j ps.length*301<=60*301:=S0 _ (by omega);omega)
  ·rw[List.append_assoc,xi0 (λp=>bs (pb p).length) hp]
   rfl) ⟨.un,by simp⟩
 obtain⟨s1,rfl⟩:=l2;rw[Nat.zero_add,List.length_map,List.take_length] at l1;obtain⟨δ',l3,l4⟩:=S6 (f:=gN 3) (G:=C2) (λi δ=>∃(s:Sl),δ=[.sh (web ps),.sh (.lst (ps.map body)),.sh (.lst ((ix ps).map .int)),s,.ow (.lst (sts ps i)),.ow (.lst ((ix ps++(ps.take i).flatMap pb).map .int))]) (ps.map body) 0 [.sh (web ps),.sh (.lst (ps.map body)),.sh (.lst ((ix ps).map .int)),s1,.ow (.lst []),.ow (.lst ((ix ps).map .int))] (by
  rintro j d δ hj ⟨s,rfl⟩;obtain⟨p,hp,rfl⟩:=lb0 hj;have J:=(C4.mp hp).1;have O:=K8 (h.it p (D5 hp)).gp;have h2:=vn0 h j;rw[Nat.zero_add];refine⟨_,[.sh (web ps),.sh (.lst (ps.map body)),.sh (.lst ((ix ps).map .int)),.sh (body p),.ow (.lst (sts ps (j+1))),.ow (.lst ((ix ps++(ps.take j).flatMap pb++pb p).map .int))],rfl,?_,.sh (body p),?_⟩
  ·rw[s60]
   refine v5 (Gw.vr0 (l:=sts ps j) (d:=.int ((bg ps j:Nat):Int)) rfl (by
    unfold z20;rw[qi0 (ds:=(ix ps++(ps.take j).flatMap pb).map .int) rfl,List.length_map];unfold bg;rw[List.length_append];rfl) (by rw[yg0];omega)) ?_
   exact v5 (W70 (l:=ix ps++(ps.take j).flatMap pb) (e:=pb p) rfl rfl (by rw[List.length_append];omega)) rfl
  ·rw[List.append_assoc (ix ps),xi0 pb hp]) ⟨s1,by simp[sts]⟩
 obtain⟨s2,rfl⟩:=l4;rw[Nat.zero_add,List.length_map,List.take_length] at l3;refine j9 rfl (v5 (o8 (d:=.lst (ps.map body)) (h70 (λp hp=>Ym0 (h.it p hp)) hl _)) (v5 (o8 (d:=.lst ((bs ps.length).map .int)) ?_) (v5 (Q4 (items:=ps.map body) rfl l1) (v5 (δ':=[.sh (web ps),.sh (.lst (ps.map body)),.sh (.lst ((ix ps).map .int)),s1,.ow (.lst []),.un]) rfl (v5 (δ':=[.sh (web ps),.sh (.lst (ps.map body)),.sh (.lst ((ix ps).map .int)),s1,.ow (.lst []),.ow (.lst ((ix ps).map .int))]) rfl (v5 (Q4 (items:=ps.map body) rfl l3) (p6 (d8 ?_))))))))
 ·rw[t7 (ds:=[.int (ps.length:Int)]) (cons_of (by
   rw[t7 (ds:=[web ps]) rfl];show some (D.int (((ps.map Pt.d).length:Nat):Int))=_;rw[List.length_map]) rfl)]
  exact xw0 _ (small (by omega))
 ·show Y4 _ (frz _)=_
  have e3:o2 (gv 4) (Z6 (z7 (oA (z7 (gv 5) v4) Z5) v4)) o5 [.sh (web ps),.sh (.lst (ps.map body)),.sh (.lst ((ix ps).map .int)),zu0 s2,.sh (.lst (sts ps ps.length)),.sh (.lst ((bun ps).map .int))]=some (.lst (sts ps ps.length++[.int (((bun ps).map D.int).length:Int)])):=by
   have e4:Z6 (z7 (oA (z7 (gv 5) v4) Z5) v4) [.sh (web ps),.sh (.lst (ps.map body)),.sh (.lst ((ix ps).map .int)),zu0 s2,.sh (.lst (sts ps ps.length)),.sh (.lst ((bun ps).map .int))]=some (.lst [.int (((bun ps).map D.int).length:Int)]):=yi0 rfl (by show 1<=sizeLine;omega);rw[t6 (x:=.lst (sts ps ps.length)) (y:=.lst [.int (((bun ps).map D.int).length:Int)]) rfl e4];simp only[o5];rw[if_pos (by rw[yg0];simp only[List.length_cons,List.length_nil];omega)]
  rw[s60,mz0];rw[List.length_map] at e3;refine X7 (ds:=[.lst ((bun ps).map .int),.int ((ix ps).length:Int),.lst (sts ps ps.length++[.int ((bun ps).length:Int)])]) ?_ (by show 3<=sizeLine;omega);exact cons_of rfl (cons_of (by rw[qi0 (ds:=(ix ps).map .int) rfl,List.length_map]) (cons_of e3 rfl))
theorem Xk0(k:Nat)(z:Int):d9 (k+1) [.int z,.int z]=some (.bl true):=by
 refine j9 rfl (v5 (δ':=[.sh (.int z),.sh (.int z)]) rfl (v5 (δ':=[.sh (.int z),.sh (.int z)]) rfl (p6 ?_)));rw[V4 rfl];refine p6 (d8 ?_);show some (D.bl (decide (z=z)))=_;rw[decide_eq_true rfl]
theorem yt0(ns:List Int)(hb:∀z∈ns,z.natAbs.log2<=1048576)(k:Int)(h0:0<=k)(h1:k<=1000):∃z,d7 [.lst (ns.map .int),.int k]=some (.int z)/\z.natAbs.log2<=1048576:=by
 by_cases h:k<ns.length
 ·have J:k.toNat<ns.length:=by omega
  refine⟨ns[k.toNat],j9 rfl (p6 ?_),hb _ (D6 J)⟩;rw[V4 (by
   show some (decide (k<(((ns.map D.int).length:Nat):Int)))=_;rw[decide_eq_true (by rw[List.length_map];exact h)])]
  refine p6 (d8 ?_);show atI (ns.map D.int) k=_;rw[zk0 h0 (by rw[List.length_map];exact h) .non];simp[List.getD_eq_getElem?_getD,J]
 ·refine⟨(k*7919+5)*(k+31),j9 rfl (v5 (δ':=[.sh (.lst (ns.map .int)),.sh (.int k)]) ?_ (p6 (d8 ?_))),?_⟩
  ·rw[Z4 (by
    show some (decide (k<(((ns.map D.int).length:Nat):Int)))=_;rw[decide_eq_false (by rw[List.length_map];exact h)])]
   rfl
  ·rw[t6 (x:=.int (k*7919+5)) (y:=.int (k+31)) (by
    rw[t6 (x:=.int (k*7919)) (y:=.int 5) (by rw[t6 (x:=.int k) (y:=.int 7919) rfl rfl];exact Gw.mul_r _ _ (by decide)) rfl];rfl) rfl]
   exact Gw.mul_r _ _ (by omega)
  ·have q1:(k*7919+5)*(k+31)<=8000000*2000:=Int.mul_le_mul (by omega) (by omega) (by omega) (by omega)
   have q2:0<=(k*7919+5)*(k+31):=Int.mul_nonneg (by omega) (by omega);generalize (k*7919+5)*(k+31)=w at q1 q2;rcases Bm0 w.natAbs with e|e
   ·rw[e];decide
   ·have:w.natAbs.log2<60:=(Nat.log2_lt (B7 e)).mpr (by omega)
    omega
theorem lg(c k:Int)(L:Nat)(h:c.natAbs.log2<=L)(hk:0<=k/\k<=1000):((c+1)*(k+3)).natAbs.log2<=L+13:=by
 have h1:c.natAbs<2 ^ (L+1):=A9 Nat.lt_log2_self (Nat.pow_le_pow_right (by decide) (by omega));have h2:(c+1).natAbs<=2 ^ (L+1):=by omega
 have h3:(k+3).natAbs<=2 ^ 10:=by
  have:(2:Nat) ^ 10=1024:=by decide
  omega
 have h4:((c+1)*(k+3)).natAbs<=2 ^ (L+11):=by
  rw[Int.natAbs_mul];have:=Nat.mul_le_mul h2 h3;rw[← Nat.pow_add] at this;exact this
 rcases Bm0 ((c+1)*(k+3)).natAbs with e|e
 ·rw[e,Nat.log2_zero];omega
 ·have h5:(2:Nat) ^ (L+11)<2 ^ (L+12):=Nat.pow_lt_pow_right (by decide) (by omega)
  have:=(Nat.log2_lt (B7 e)).mpr (O0 h4 h5);omega
theorem Up0:ul0 (.int 982451653) (.int 7)=some (.int (982451653 ^ 7)):=by kernel_rfl
theorem Wi0:ul0 (.int 10) (.int 60)=some (.int (10 ^ 60)):=by kernel_rfl
theorem lg7:(982451653 ^ 7:Int).natAbs.log2<=2000:=by decide +kernel
def Lk(m:Nat)(v:D):Prop:=∀j:Nat,v=.tup [.str "at",.int (j:Int)]->j<m
theorem ct0{m:Nat}(h:i<m):Lk m (.tup [.str "at",.int (i:Int)]):=λj e=>by
 injection e with e
 injection e with _ e
 injection e with e _
 injection e with e
 omega
theorem du0(c k m:Int)(hc:c.natAbs.log2<=1048576)(hk:0<=k/\k<=100)(hm:0<m/\m<=1000):∃v,W8 [.int c,.int k,.int m]=some v/\Vb v/\Lk m.toNat v:=by
 have z:(1000:Nat)<=sizeLine:=by decide
 obtain⟨x,a0,a1,a2⟩:=O1 c k hk.1 (by omega);obtain⟨y,b0,b1,b2⟩:=O1 c (40+k) (by omega) (by omega);obtain⟨w,c0,c1,c2⟩:=O1 c (60+k) (by omega) (by omega);have s1:∀s:Sl,o9 (gN 3) (o2 (oA (z7 (gv 0) (z7 (gv 1) v4)) o4) (gc (.int 5)) Z0) [.sh (.int c),.sh (.int k),.sh (.int m),s]=some (.nx [.sh (.int c),.sh (.int k),.sh (.int m),.sh (.int (x%5))]):=λs=>by
  refine o8 (i:=3) (d:=.int (x%5)) ?_;rw[t6 (x:=.int x) (y:=.int 5) (by rw[t7 (ds:=[.int c,.int k]) rfl];exact a2) rfl];rfl
 by_cases h0:x%5=0
 ·refine⟨.non,j9 rfl (v5 (s1 _) (p6 ?_)),.non,λj h=>nomatch h⟩
  rw[V4 (by show some (decide (x%5=0))=_;rw[decide_eq_true h0])];rfl
 have n0:∀G:GS,ifD (ob (o2 (gv 3) (gc (.int 0)) eqD)) G u6 [.sh (.int c),.sh (.int k),.sh (.int m),.sh (.int (x%5))]=some (.nx [.sh (.int c),.sh (.int k),.sh (.int m),.sh (.int (x%5))]):=λG=>by
  rw[Z4 (by show some (decide (x%5=0))=_;rw[decide_eq_false h0])];rfl
 by_cases h3:x%5<3
 ·have j0:0<=y%m:=L1 _ (by omega)
  have j1:y%m<m:=M1 _ hm.1;refine⟨.tup [.str "at",.int (((y%m).toNat:Nat):Int)],j9 rfl (v5 (s1 _) (v5 (n0 _) (p6 ?_))),.lk _ (by omega),ct0 (by omega)⟩;rw[V4 (by show some (decide (x%5<3))=_;rw[decide_eq_true h3])];refine p6 (d8 (X7 (cons_of rfl (cons_of ?_ rfl)) (by show 2<=sizeLine;omega)));rw[t6 (x:=.int y) (y:=.int m) (by rw[t7 (ds:=[.int c,.int (40+k)]) rfl];exact b2) rfl,Gw.uk0 _ _ hm.1,Int.toNat_of_nonneg j0]
 have n3:∀G:GS,ifD (ob (o2 (gv 3) (gc (.int 3)) ltD)) G u6 [.sh (.int c),.sh (.int k),.sh (.int m),.sh (.int (x%5))]=some (.nx [.sh (.int c),.sh (.int k),.sh (.int m),.sh (.int (x%5))]):=λG=>by
  rw[Z4 (by show some (decide (x%5<3))=_;rw[decide_eq_false h3])];rfl
 by_cases h4:x%5=3
 ·refine⟨.int (w%260 - 130),j9 rfl (v5 (s1 _) (v5 (n0 _) (v5 (n3 _) (p6 ?_)))),.int _ (A9 (m:=1000) (by omega) (by decide)),λj h=>nomatch h⟩
  rw[V4 (by show some (decide (x%5=3))=_;rw[decide_eq_true h4])];refine p6 (d8 ?_);rw[t6 (x:=.int (w%260)) (y:=.int 130) (by
   rw[t6 (x:=.int w) (y:=.int 260) (by rw[t7 (ds:=[.int c,.int (60+k)]) rfl];exact c2) rfl];rfl) rfl]
  rfl
 have n4:∀G:GS,ifD (ob (o2 (gv 3) (gc (.int 3)) eqD)) G u6 [.sh (.int c),.sh (.int k),.sh (.int m),.sh (.int (x%5))]=some (.nx [.sh (.int c),.sh (.int k),.sh (.int m),.sh (.int (x%5))]):=λG=>by
  rw[Z4 (by show some (decide (x%5=3))=_;rw[decide_eq_false h4])];rfl
 obtain⟨u,hu⟩:∃u:Int,u=(c+1)*(k+3)*982451653 ^ 7%(2*10 ^ 60 - 1):=⟨_,rfl⟩;have u0:0<=u:=by rw[hu];exact L1 _ (by decide)
 have u1:u<2*10 ^ 60 - 1:=by rw[hu];exact M1 _ (by decide)
 refine⟨.int (u+1 - 10 ^ 60),j9 rfl (v5 (s1 _) (v5 (n0 _) (v5 (n3 _) (v5 (n4 _) (p6 (d8 ?_)))))),.int _ ?_,λj h=>nomatch h⟩
 ·have J:∀δ:Ds,o2 (gc (.int 10)) (gc (.int 60)) ul0 δ=some (.int (10 ^ 60)):=fun δ=>by rw[t6 (x:=.int 10) (y:=.int 60) rfl rfl];exact Wi0
  rw[t6 (x:=.int (u+1)) (y:=.int (10 ^ 60)) (by
   rw[t6 (x:=.int u) (y:=.int 1) (by
    rw[t6 (x:=.int ((c+1)*(k+3)*982451653 ^ 7)) (y:=.int (2*10 ^ 60 - 1)) (by
     rw[t6 (x:=.int ((c+1)*(k+3))) (y:=.int (982451653 ^ 7)) (by
      rw[t6 (x:=.int (c+1)) (y:=.int (k+3)) rfl rfl];exact Gw.mul_r _ _ (by omega)) (by rw[t6 (x:=.int 982451653) (y:=.int 7) rfl rfl];exact Up0)]
     have:=lg c k 1048576 hc (by omega);simp only[da0,ii];rw[if_pos ⟨by omega,lg7⟩]) (by
     rw[t6 (x:=.int (2*10 ^ 60)) (y:=.int 1) (by rw[t6 (x:=.int 2) (y:=.int (10 ^ 60)) rfl (J _)];exact Gw.ue0 _ _ (by decide)) rfl];rfl),Gw.uk0 _ _ (by decide),hu]) rfl]
   rfl) (J _)]
  rfl
 ·have e:((10:Int) ^ 60)<2 ^ 240:=by decide +kernel
  have e2:((10:Int) ^ 60)=((10 ^ 60:Nat):Int):=by decide +kernel
  have e3:(10 ^ 60:Nat)<2 ^ 250:=by decide +kernel
  rw[e2] at u1 ⊢;generalize (10 ^ 60:Nat)=t at u1 e3;generalize (2:Nat) ^ 250=r at e3;omega
theorem i50(nm:List Str)(hp:Pool nm)(i:Int)(h0:0<=i)(h1:i<12):ixD (.lst (nm.map .str)) (.int i)=some (.str (nm.getD i.toNat ""))/\nm.getD i.toNat ""∈nm:=by
 have hl:=hp.len;have J:i.toNat<nm.length:=by omega
 constructor
 ·show atI (nm.map D.str) i=_
  rw[zk0 h0 (by rw[List.length_map];omega) .non];simp[List.getD_eq_getElem?_getD,J]
 ·rw[List.getD_eq_getElem?_getD,List.getElem?_eq_getElem J]
  exact D6 J
def S37:Str := "abcdefghijklmnopqrstuvwxyz0123456789 "
theorem V60:∀c∈S37.cps.toList,c∈vb0.cps.toList:=by decide +kernel
theorem U60(i:Int)(h0:0<=i)(h1:i<37):∃c:Nat,c∈vb0.cps.toList/\ixD (.str S37) (.int i)=some (.str ⟨#[c]⟩):=by
 have hl:S37.cps.toList.length=37:=by decide +kernel
 refine⟨S37.cps.toList.getD i.toNat 0,V60 _ (by rw[List.getD_eq_getElem?_getD,List.getElem?_eq_getElem (show i.toNat<_ by omega)];exact D6 _),?_⟩;simp only[ixD];rw[if_pos (by decide +kernel),zk0 h0 (by rw[hl];exact h1) 0];rfl
def Gs(p:Pt):Prop:=(∀s∈p.all,isName s=true)/\∀w,p=.text w->∀c∈w.cps.toList,c∈vb0.cps.toList
theorem al0(c m:Int)(nm:List Str)(hp:Pool nm)(hc:c.natAbs.log2<=1048576)(hm:0<m/\m<=1000):∃p:Pt,V9 [.int c,.lst (nm.map .str),.int m]=some p.d/\Gq p/\(∀v∈p.vals,Lk m.toNat v)/\Gs p:=by
 have z:(1000:Nat)<=sizeLine:=by decide
 obtain⟨x1,p0,p1,p2⟩:=O1 c 1 (by decide) (by decide);obtain⟨x2,q0,q1,q2⟩:=O1 c 2 (by decide) (by decide);obtain⟨x3,r0,r1,r2⟩:=O1 c 3 (by decide) (by decide);obtain⟨xt,t0,t1,t2⟩:=O1 c 30 (by decide) (by decide);obtain⟨xc,c0,c1,c2⟩:=O1 c 31 (by decide) (by decide);obtain⟨n,b1,hn⟩:∃n:Nat,n<=12/\∀δ:Ds,o2 (Z6 (z7 (gc (.int 0)) (z7 (gc (.int 1)) (z7 (gc (.int 2)) (z7 (gc (.int 3)) (z7 (gc (.int 2)) (z7 (gc (.int 1)) (z7 (gc (.int 4)) (z7 (gc (.int 12)) v4))))))))) (o2 (oA (z7 (gv 0) (z7 (gc (.int 2)) v4)) o4) (gc (.int 8)) Z0) ixD (.sh (.int c)::δ)=some (.int (n:Int)):=by
  have J:∀(n:Nat),ixD (.lst [.int 0,.int 1,.int 2,.int 3,.int 2,.int 1,.int 4,.int 12]) (.int (x2%8))=some (.int (n:Int))->∀δ:Ds,o2 (Z6 (z7 (gc (.int 0)) (z7 (gc (.int 1)) (z7 (gc (.int 2)) (z7 (gc (.int 3)) (z7 (gc (.int 2)) (z7 (gc (.int 1)) (z7 (gc (.int 4)) (z7 (gc (.int 12)) v4))))))))) (o2 (oA (z7 (gv 0) (z7 (gc (.int 2)) v4)) o4) (gc (.int 8)) Z0) ixD (.sh (.int c)::δ)=some (.int (n:Int)):=λn h δ=>by
   rw[t6 (x:=.lst [.int 0,.int 1,.int 2,.int 3,.int 2,.int 1,.int 4,.int 12]) (y:=.int (x2%8)) (yi0 rfl (by show 8<=sizeLine;omega)) (by
    rw[t6 (x:=.int x2) (y:=.int 8) (by rw[t7 (ds:=[.int c,.int 2]) rfl];exact q2) rfl];rfl)]
   exact h
  have q:x2%8=0∨x2%8=1∨x2%8=2∨x2%8=3∨x2%8=4∨x2%8=5∨x2%8=6∨x2%8=7:=by omega
  rcases q with q|q|q|q|q|q|q|q<;>rw[q] at J
  ·exact⟨0,by omega,J 0 rfl⟩
  ·exact⟨1,by omega,J 1 rfl⟩
  ·exact⟨2,by omega,J 2 rfl⟩
  ·exact⟨3,by omega,J 3 rfl⟩
  ·exact⟨2,by omega,J 2 rfl⟩
  ·exact⟨1,by omega,J 1 rfl⟩
  ·exact⟨4,by omega,J 4 rfl⟩
  ·exact⟨12,by omega,J 12 rfl⟩
 have s3:∀δ:Ds,o2 (oA (z7 (gv 0) (z7 (gc (.int 1)) v4)) o4) (gc (.int 5)) Z0 (.sh (.int c)::δ)=some (.int (x1%5)):=fun δ=>by
  rw[t6 (x:=.int x1) (y:=.int 5) (by rw[t7 (ds:=[.int c,.int 1]) rfl];exact p2) rfl];rfl
 by_cases k0:x1%5=0
 ·obtain⟨f,hf⟩:∃f:Nat->Nat,∀j:Nat,j<21->f j∈vb0.cps.toList/\∀δ:Ds,o2 (gv 2) (o2 (oA (z7 (gv 1) (z7 (o2 (gc (.int 80)) (gv 0) o5) v4)) o4) (gc (.int 37)) Z0) ixD (.sh (.int (j:Int))::.sh (.int c)::.sh (.str S37)::δ)=some (.str ⟨#[f j]⟩):=by
   have:∀j:Nat,∃v:Nat,j<21->v∈vb0.cps.toList/\∀δ:Ds,o2 (gv 2) (o2 (oA (z7 (gv 1) (z7 (o2 (gc (.int 80)) (gv 0) o5) v4)) o4) (gc (.int 37)) Z0) ixD (.sh (.int (j:Int))::.sh (.int c)::.sh (.str S37)::δ)=some (.str ⟨#[v]⟩):=λj=>by
    by_cases hj:j<21
    ·obtain⟨x,y0,y1,y2⟩:=O1 c (80+(j:Int)) (by omega) (by omega)
     obtain⟨v,a8,hv⟩:=U60 (x%37) (by omega) (by omega);refine⟨v,λ_=>⟨a8,fun δ=>?_⟩⟩;rw[t6 (x:=.str S37) (y:=.int (x%37)) rfl (by
      rw[t6 (x:=.int x) (y:=.int 37) (by rw[t7 (ds:=[.int c,.int (80+(j:Int))]) rfl];exact y2) rfl];rfl)]
     exact hv
    ·exact⟨0,λh=>absurd h hj⟩
   obtain⟨f,hf⟩:=P8 this;exact⟨f,hf⟩
  obtain⟨l,hl⟩:∃l:Nat,(l:Int)=x3%21:=⟨(x3%21).toNat,by omega⟩;have b3:l<21:=by omega
  obtain⟨w,hw⟩:∃w:List Nat,w=(List.range l).map f:=⟨_,rfl⟩;have wl:w.length=l:=by rw[hw];simp
  refine⟨.text (strOf w),j9 rfl (v5 (o8 (d:=.int (x1%5)) (s3 _)) (v5 (o8 (d:=.int (n:Int)) (hn _)) (p6 ?_))),⟨by show (strOf w).length<=20;rw[ye0];omega,λv hv=>(by cases hv),λs hs=>(by cases hs),C0 _⟩,λv hv=>(by cases hv),λs hs=>(by cases hs),λw' e c hc=>by
   injection e with e
   subst e;have hc:c∈w:=by unfold strOf at hc;simpa using hc
   rw[hw] at hc;obtain⟨k,hk,rfl⟩:=B1.mp hc;exact(hf k (by have:=B8.mp hk;omega)).1⟩
  rw[V4 (by show some (decide (x1%5=0))=_;rw[decide_eq_true k0])];refine v5 (o8 (d:=.str S37) rfl) (p6 (d8 (X7 (cons_of rfl (cons_of (d:=.str (strOf w)) ?_ rfl)) (by show 2<=sizeLine;omega))))
  change y50 _ _ [.sh (.int c),.sh (.lst (nm.map .str)),.sh (.int m),.sh (.int (x1%5)),.sh (.int (n:Int)),.sh (.str S37),.un,.un,.un]=_
  rw[tw0 (x:=.str "") (ds:=[.lst ((ones w).map .str)]) rfl (cons_of (Y6 (items:=V8 0 (l:Int)) (wh0 (cons_of (by
   rw[t6 (x:=.int x3) (y:=.int 21) (by rw[t7 (ds:=[.int c,.int 3]) rfl];exact r2) rfl,hl];rfl) rfl) (by omega) (by omega)) (by rw[yc0];omega) (by
   have q:=yb0 (gt:=noT) (ge:=(o2 (gv 2) (o2 (oA (z7 (gv 1) (z7 (o2 (gc (.int 80)) (gv 0) o5) v4)) o4) (gc (.int 37)) Z0) ixD)) (δ:=[.un,.sh (.int c),.sh (.str S37)]) (n:=(l:Int)) (λj=>.str ⟨#[f j]⟩) (λk hk=>⟨[.sh (.int (k:Int)),.sh (.int c),.sh (.str S37)],rfl,rfl,(hf k (by omega)).2 []⟩);refine q.trans ?_;rw[Int.toNat_natCast,hw];unfold ones;rw[List.map_map,List.map_map];rfl)) rfl)]
  have e1:=strs_map id (ones w);have b0:zi0 ((ones w).map D.str)=some (ones w):=by simpa using e1
  simp only[u60];rw[b0,Option.bind_some,xr0,join_ones,if_pos (by
   have:("" : PySem.Str).length=0:=by decide +kernel
   rw[this];omega)]
 obtain⟨f,hf⟩:∃f:Nat->D,∀j:Nat,j<12->(Vb (f j)/\Lk m.toNat (f j))/\W8 [.int c,.int (4+(j:Int)),.int m]=some (f j):=by
  have:∀j:Nat,∃v:D,j<12->(Vb v/\Lk m.toNat v)/\W8 [.int c,.int (4+(j:Int)),.int m]=some v:=λj=>by
   by_cases hj:j<12
   ·obtain⟨v,h1,h2⟩:=du0 c (4+(j:Int)) m hc (by omega) hm
    exact⟨v,λ_=>⟨h2,h1⟩⟩
   ·exact⟨.non,λh=>absurd h hj⟩
  obtain⟨f,hf⟩:=P8 this;exact⟨f,hf⟩
 obtain⟨vs,Z⟩:∃vs:List D,vs=(List.range n).map f:=⟨_,rfl⟩;have vl:vs.length=n:=by rw[Z];simp
 have vv:∀v∈vs,Vb v/\Lk m.toNat v:=λv hv=>by
  rw[Z] at hv;obtain⟨k,hk,rfl⟩:=B1.mp hv;exact(hf k (by have:=B8.mp hk;omega)).1
 have n0:∀G:GS,ifD (ob (o2 (gv 3) (gc (.int 0)) eqD)) G u6 [.sh (.int c),.sh (.lst (nm.map .str)),.sh (.int m),.sh (.int (x1%5)),.sh (.int (n:Int)),.un,.un,.un,.un]=some (.nx [.sh (.int c),.sh (.lst (nm.map .str)),.sh (.int m),.sh (.int (x1%5)),.sh (.int (n:Int)),.un,.un,.un,.un]):=λG=>by
  rw[Z4 (by show some (decide (x1%5=0))=_;rw[decide_eq_false k0])];rfl
 have s6:b8 1 [0,2] (J1 (z7 (gv 4) v4)) (gN 0) noT (oA (z7 (gv 1) (z7 (o2 (gc (.int 4)) (gv 0) o5) (z7 (gv 2) v4))) W8) [.sh (.int c),.sh (.lst (nm.map .str)),.sh (.int m),.sh (.int (x1%5)),.sh (.int (n:Int)),.un,.un,.un,.un]=some (.lst vs):=by
  refine Y6 (items:=V8 0 (n:Int)) (wh0 (cons_of rfl rfl) (by omega) (by omega)) (by rw[yc0];omega) ?_;have q:=yb0 (gt:=noT) (ge:=oA (z7 (gv 1) (z7 (o2 (gc (.int 4)) (gv 0) o5) (z7 (gv 2) v4))) W8) (δ:=[.un,.sh (.int c),.sh (.int m)]) (n:=(n:Int)) f (λk hk=>⟨[.sh (.int (k:Int)),.sh (.int c),.sh (.int m)],rfl,rfl,by
   rw[t7 (ds:=[.int c,.int (4+(k:Int)),.int m]) rfl];exact(hf k (by omega)).2⟩)
  rw[Int.toNat_natCast] at q;rw[Z];exact q
 by_cases k1:x1%5=1
 ·refine⟨.row vs,j9 rfl (v5 (o8 (d:=.int (x1%5)) (s3 _)) (v5 (o8 (d:=.int (n:Int)) (hn _)) (v5 (n0 _) (v5 (o8 (d:=.lst vs) s6) (p6 ?_))))),⟨by show vs.length<=20;omega,λv hv=>(vv v hv).1,λs hs=>(by cases hs),by show vs.length<=12;omega⟩,λv hv=>(vv v hv).2,λs hs=>(by cases hs),λw e=>by cases e⟩
  rw[V4 (by show some (decide (x1%5=1))=_;rw[decide_eq_true k1])];exact p6 (d8 (X7 (cons_of rfl (cons_of rfl rfl)) (by show 2<=sizeLine;omega)))
 have n1:∀G:GS,ifD (ob (o2 (gv 3) (gc (.int 1)) eqD)) G u6 [.sh (.int c),.sh (.lst (nm.map .str)),.sh (.int m),.sh (.int (x1%5)),.sh (.int (n:Int)),.un,.sh (.lst vs),.un,.un]=some (.nx [.sh (.int c),.sh (.lst (nm.map .str)),.sh (.int m),.sh (.int (x1%5)),.sh (.int (n:Int)),.un,.sh (.lst vs),.un,.un]):=λG=>by
  rw[Z4 (by show some (decide (x1%5=1))=_;rw[decide_eq_false k1])];rfl
 obtain⟨st,a7⟩:∃st:Int,st=xt%12:=⟨_,rfl⟩;have b2:0<=st:=by omega
 obtain⟨nf,a4⟩:∃nf:Nat->Str,nf=λ(k:Nat)=>nm.getD ((st+(k:Int))%12).toNat "" := ⟨_,rfl⟩
 have a3:∀k,nf k∈nm:=λk=>by rw[a4];exact(i50 nm hp ((st+(k:Int))%12) (by omega) (by omega)).2
 obtain⟨ps,O⟩:∃ps:List (Str×D),ps=(List.range n).map λk=>(nf k,f k):=⟨_,rfl⟩
 have pl:ps.length=n:=by rw[O];simp
 have pv:∀v∈ps.map (·.2),Vb v/\Lk m.toNat v:=λv hv=>by
  rw[O,List.map_map] at hv;obtain⟨k,hk,rfl⟩:=B1.mp hv;exact(hf k (by have:=B8.mp hk;omega)).1
 have Y:∀s∈nm,s.length<=20:=λs hs=>by have:=i70 (hp.names s hs);omega
 have pn:∀s∈ps.map (·.1),s.length<=20:=λv hv=>by
  rw[O,List.map_map] at hv;obtain⟨k,hk,rfl⟩:=B1.mp hv;exact Y _ (a3 k)
 have a5:∀s∈ps.map (·.1),isName s=true:=λv hv=>by
  rw[O,List.map_map] at hv;obtain⟨k,hk,rfl⟩:=B1.mp hv;exact hp.names _ (a3 k)
 have s7:o9 (gN 7) (o2 (oA (z7 (gv 0) (z7 (gc (.int 30)) v4)) o4) (gc (.int 12)) Z0) [.sh (.int c),.sh (.lst (nm.map .str)),.sh (.int m),.sh (.int (x1%5)),.sh (.int (n:Int)),.un,.sh (.lst vs),.un,.un]=some (.nx [.sh (.int c),.sh (.lst (nm.map .str)),.sh (.int m),.sh (.int (x1%5)),.sh (.int (n:Int)),.un,.sh (.lst vs),.sh (.int st),.un]):=by
  refine o8 (i:=7) (d:=.int st) ?_;rw[t6 (x:=.int xt) (y:=.int 12) (by rw[t7 (ds:=[.int c,.int 30]) rfl];exact t2) rfl,a7];rfl
 have s8:o9 (gN 8) (oA (z7 (b8 1 [1,6,7] (J1 (z7 (gv 4) v4)) (gN 0) noT (Y4 (z7 (o2 (gv 1) (o2 (o2 (gv 3) (gv 0) o5) (gc (.int 12)) Z0) ixD) (z7 (o2 (gv 2) (gv 0) ixD) v4)))) v4) S9) [.sh (.int c),.sh (.lst (nm.map .str)),.sh (.int m),.sh (.int (x1%5)),.sh (.int (n:Int)),.un,.sh (.lst vs),.sh (.int st),.un]=some (.nx [.sh (.int c),.sh (.lst (nm.map .str)),.sh (.int m),.sh (.int (x1%5)),.sh (.int (n:Int)),.un,.sh (.lst vs),.sh (.int st),.sh (.tup (ps.map pr))]):=by
  refine o8 (i:=8) (d:=.tup (ps.map pr)) ?_;rw[t7 (ds:=[.lst (ps.map pr)]) (cons_of (Y6 (items:=V8 0 (n:Int)) (wh0 (cons_of rfl rfl) (by omega) (by omega)) (by rw[yc0];omega) (by
   rw[O,List.map_map];have q:=yb0 (gt:=noT) (ge:=(Y4 (z7 (o2 (gv 1) (o2 (o2 (gv 3) (gv 0) o5) (gc (.int 12)) Z0) ixD) (z7 (o2 (gv 2) (gv 0) ixD) v4)))) (δ:=[.un,.sh (.lst (nm.map .str)),.sh (.lst vs),.sh (.int st)]) (n:=(n:Int)) (λj=>pr (nf j,f j)) (λk hk=>⟨[.sh (.int (k:Int)),.sh (.lst (nm.map .str)),.sh (.lst vs),.sh (.int st)],rfl,rfl,by
    have a6:k<n:=by omega
    refine X7 (cons_of (d:=.str (nf k)) ?_ (cons_of (d:=f k) ?_ rfl)) (by show 2<=sizeLine;omega)
    ·rw[t6 (x:=.lst (nm.map .str)) (y:=.int ((st+(k:Int))%12)) rfl rfl,a4]
     exact(i50 nm hp _ (by omega) (by omega)).1
    ·rw[t6 (x:=.lst vs) (y:=.int (k:Int)) rfl rfl]
     show atI vs (k:Int)=_;rw[zk0 (by omega) (by omega) .non,Int.toNat_natCast,Z];simp[List.getD_eq_getElem?_getD,a6]⟩)
   rw[Int.toNat_natCast] at q;exact q)) rfl)]
  rfl
 by_cases k2:x1%5=2
 ·refine⟨.table ps,j9 rfl (v5 (o8 (d:=.int (x1%5)) (s3 _)) (v5 (o8 (d:=.int (n:Int)) (hn _)) (v5 (n0 _) (v5 (o8 (d:=.lst vs) s6) (v5 (n1 _) (v5 s7 (v5 s8 (p6 ?_)))))))),⟨by show ps.length<=20;omega,λv hv=>(pv v hv).1,λs hs=>pn s (by simpa [Pt.all,Pt.pnames,Pt.cls] using hs),by show (ps.map (·.2)).length<=12;rw[List.length_map];omega⟩,λv hv=>(pv v hv).2,λs hs=>a5 s (by simpa [Pt.all,Pt.pnames,Pt.cls] using hs),λw e=>by cases e⟩
  rw[V4 (by show some (decide (x1%5=2))=_;rw[decide_eq_true k2])];exact p6 (d8 (X7 (cons_of rfl (cons_of rfl rfl)) (by show 2<=sizeLine;omega)))
 ·obtain⟨a1,a2⟩:=i50 nm hp (xc%12) (by omega) (by omega)
  refine⟨.rcd (nm.getD (xc%12).toNat "") ps,j9 rfl (v5 (o8 (d:=.int (x1%5)) (s3 _)) (v5 (o8 (d:=.int (n:Int)) (hn _)) (v5 (n0 _) (v5 (o8 (d:=.lst vs) s6) (v5 (n1 _) (v5 s7 (v5 s8 (v5 (δ':=[.sh (.int c),.sh (.lst (nm.map .str)),.sh (.int m),.sh (.int (x1%5)),.sh (.int (n:Int)),.un,.sh (.lst vs),.sh (.int st),.sh (.tup (ps.map pr))]) ?_ (p6 (d8 ?_)))))))))),⟨by show ps.length<=20;omega,λv hv=>(pv v hv).1,λs hs=>?_,by show (ps.map (·.2)).length<=12;rw[List.length_map];omega⟩,λv hv=>(pv v hv).2,λs hs=>?_,λw e=>by cases e⟩
  ·rw[Z4 (by show some (decide (x1%5=2))=_;rw[decide_eq_false k2])];rfl
  ·exact X7 (cons_of rfl (cons_of (by
    rw[t6 (x:=.lst (nm.map .str)) (y:=.int (xc%12)) rfl (by
     rw[t6 (x:=.int xc) (y:=.int 12) (by rw[t7 (ds:=[.int c,.int 31]) rfl];exact c2) rfl];rfl)]
    exact a1) (cons_of rfl rfl))) (by show 3<=sizeLine;omega)
  ·rcases B4.mp hs with q|q
   ·exact pn s q
   ·have:=C8.mp q
    rw[this];exact Y _ a2
  ·rcases B4.mp hs with q|q
   ·exact a5 s q
   ·have:=C8.mp q
    rw[this];exact hp.names _ a2
theorem ez0(ns:List Int)(hb:∀z∈ns,z.natAbs.log2<=1048576)(a:Int)(ha:0<=a/\a<=100)(most:Int)(hm:0<most/\most<=60):∃ps:List Pt,yj0 [.lst (ns.map .int),.int a,.int most]=some (web ps)/\Gw' ps/\0<ps.length/\(∀p∈ps,∀v∈p.vals,Lk ps.length v)/\∀p∈ps,Gs p:=by
 have z:(1000:Nat)<=sizeLine:=by decide
 obtain⟨c0,e0,_⟩:=yt0 ns hb a ha.1 (by omega);obtain⟨c1,e1,_⟩:=yt0 ns hb (a+1) (by omega) (by omega);obtain⟨x,x0,x1,x2⟩:=O1 c0 3 (by decide) (by decide);obtain⟨nm,hn,hp⟩:=Zc0 c1;have j0:0<=x%most:=L1 _ (by omega);have j1:x%most<most:=M1 _ hm.1;obtain⟨n,J⟩:∃n:Nat,(n:Int)=1+x%most:=⟨(1+x%most).toNat,by omega⟩;have O:n<=60:=by omega
 have n1:0<n:=by omega
 obtain⟨f,hf⟩:∃f:Nat->Pt,∀k:Nat,k<60->(Gq (f k)/\(∀v∈(f k).vals,Lk n v)/\Gs (f k))/\∀δ:Ds,oA (z7 (oA (z7 (gv 1) (z7 (o2 (o2 (gv 2) (gc (.int 2)) o5) (gv 0) o5) v4)) d7) (z7 (gv 4) (z7 (gv 3) v4))) V9 (.sh (.int (k:Int))::.sh (.lst (ns.map .int))::.sh (.int a)::.sh (.int (n:Int))::.sh (.lst (nm.map .str))::δ)=some (f k).d:=by
  have:∀k:Nat,∃p:Pt,k<60->(Gq p/\(∀v∈p.vals,Lk n v)/\Gs p)/\∀δ:Ds,oA (z7 (oA (z7 (gv 1) (z7 (o2 (o2 (gv 2) (gc (.int 2)) o5) (gv 0) o5) v4)) d7) (z7 (gv 4) (z7 (gv 3) v4))) V9 (.sh (.int (k:Int))::.sh (.lst (ns.map .int))::.sh (.int a)::.sh (.int (n:Int))::.sh (.lst (nm.map .str))::δ)=some p.d:=λk=>by
   by_cases hk:k<60
   ·obtain⟨c,e,hc⟩:=yt0 ns hb (a+2+(k:Int)) (by omega) (by omega)
    obtain⟨p,h1,h2⟩:=al0 c (n:Int) nm hp hc (by omega);refine⟨p,λ_=>⟨h2,fun δ=>?_⟩⟩;rw[t7 (ds:=[.int c,.lst (nm.map .str),.int (n:Int)]) (cons_of (by
     rw[t7 (ds:=[.lst (ns.map .int),.int (a+2+(k:Int))]) rfl];exact e) (cons_of rfl (cons_of rfl rfl)))]
    exact h1
   ·exact⟨.row [],λh=>absurd h hk⟩
  obtain⟨f,hf⟩:=P8 this;exact⟨f,hf⟩
 refine⟨(List.range n).map f,j9 rfl (v5 (o8 (d:=.int (n:Int)) ?_) (v5 (o8 (d:=.lst (nm.map .str)) ?_) (p6 (d8 ?_)))),⟨by simp;omega,λp hp=>?_⟩,by simp;omega,λp hp=>?_,λp hp=>?_⟩
 ·rw[t6 (x:=.int 1) (y:=.int (x%most)) rfl (by
   rw[t6 (x:=.int x) (y:=.int most) (by
    rw[t7 (ds:=[.int c0,.int 3]) (cons_of (by rw[t7 (ds:=[.lst (ns.map .int),.int a]) rfl];exact e0) rfl)];exact x2) rfl]
   exact Gw.uk0 _ _ hm.1),J]
  rfl
 ·rw[t7 (ds:=[.int c1,.int 12]) (cons_of (by rw[t7 (ds:=[.lst (ns.map .int),.int (a+1)]) rfl];exact e1) rfl)]
  exact hn
 ·rw[t7 (ds:=[.lst (((List.range n).map f).map Pt.d)]) (cons_of (Y6 (items:=V8 0 (n:Int)) (wh0 (cons_of rfl rfl) (by omega) (by omega)) (by rw[yc0];omega) (by
   have q:=yb0 (gt:=noT) (ge:=oA (z7 (oA (z7 (gv 1) (z7 (o2 (o2 (gv 2) (gc (.int 2)) o5) (gv 0) o5) v4)) d7) (z7 (gv 4) (z7 (gv 3) v4))) V9) (δ:=[.un,.sh (.lst (ns.map .int)),.sh (.int a),.sh (.int (n:Int)),.sh (.lst (nm.map .str))]) (n:=(n:Int)) (λk=>(f k).d) (λk hk=>⟨_,rfl,rfl,(hf k (by omega)).2 []⟩);rw[Int.toNat_natCast] at q;rw[List.map_map];exact q)) rfl)]
  rfl
 ·obtain⟨k,hk,rfl⟩:=B1.mp hp
  exact(hf k (by have:=B8.mp hk;omega)).1.1
 ·obtain⟨k,hk,rfl⟩:=B1.mp hp
  rw[List.length_map,List.length_range];exact(hf k (by have:=B8.mp hk;omega)).1.2.1
 ·obtain⟨k,hk,rfl⟩:=B1.mp hp
  exact(hf k (by have:=B8.mp hk;omega)).1.2.2
end Bw
namespace K22
open Ja
open DL W
inductive Dfs (adj:Nat->List Nat) (S:List Nat):Nat->List Nat->List Nat->List Nat->Prop
 | nil (o:List Nat):Dfs adj S 0 o [] o
 | skip {c:Nat} {o T r:List Nat} {x:Nat}:x∈o∨x∈S->Dfs adj S c o T r->Dfs adj S (c+1) o (x::T) r
 | visit {c:Nat} {o T r:List Nat} {x:Nat}:x∉o->x∉S->(adj x++T).length+o.length<=10000->Dfs adj S c (o++[x]) (adj x++T) r->Dfs adj S (c+1) o (x::T) r
theorem sub_len:∀{l m:List Nat},l.Nodup->(∀a∈l,a∈m)->l.length<=m.length
 | [],m,_,_=>C0 _
 | a::l,m,h,hs=>by
  obtain⟨h1,h2⟩:=L6.mp h;obtain⟨m1,m2,rfl⟩:=List.append_of_mem (hs a A8);have:=sub_len (m:=m1++m2) h2 λb hb=>by
   have:=hs b (A5 _ hb);rcases B4.mp this with q|q
   ·exact B4.mpr (.inl q)
   ·rcases B0.mp q with rfl|q
    ·exact absurd hb h1
    ·exact B4.mpr (.inr q)
  simp only[List.length_append,List.length_cons] at this ⊢;omega
theorem gr0(adj:Nat->List Nat)(S:List Nat)(n:Nat)(hn:n<=60)(ha:∀i,i<n->(adj i).length<=12/\∀j∈adj i,j<n):∀(M:Nat) (o T:List Nat),T.length+13*(n - o.length)<=M->M<=5000->o.Nodup->(∀x∈o,x<n/\x∉S)->(∀x∈T,x<n) ->
  ∃c r,Dfs adj S c o T r/\c<=M/\r.Nodup/\(∀x∈r,x<n/\x∉S)/\o.length<=r.length:=by
 intro M
 induction M with
 | zero =>
  intro o T hM a4 ho J hT;have:T=[]:=X2.mp (by omega);subst this;exact⟨0,o,.nil o,A1 _,ho,J,A1 _⟩
 | succ M ih =>
  intro o T hM a4 ho J hT;cases T with
  | nil=>exact⟨0,o,.nil o,C0 _,ho,J,A1 _⟩
  | cons x T =>
   rw[List.length_cons] at hM
   by_cases hx:x∈o∨x∈S
   ·obtain⟨c,r,h1,h2,h3⟩:=ih o T (by omega) (by omega) ho J λy hy=>hT y (A5 _ hy)
    exact⟨c+1,r,.skip hx h1,by omega,h3⟩
   ·have Y:=hT x A8
    obtain⟨hl,hj⟩:=ha x Y;have a1:x∉o:=λz=>hx (.inl z)
    have a2:x∉S:=λz=>hx (.inr z)
    have Z:(o++[x]).Nodup:=c6.mpr ⟨ho,by simp,λa ha b hb e=>by
     have:=C8.mp hb;subst this;subst e;exact a1 ha⟩
    have O:∀y∈o++[x],y<n/\y∉S:=λy hy=>by
     rcases B4.mp hy with z|z
     ·exact J y z
     ·have:=C8.mp z;subst this;exact⟨Y,a2⟩
    have a3:(o++[x]).length<=n:=by
     have:=sub_len Z (m:=List.range n) λy hy=>B8.mpr (O y hy).1
     rwa [n9] at this
    rw[List.length_append,List.length_singleton] at a3;obtain⟨c,r,h1,h2,h3,h4,h5⟩:=ih (o++[x]) (adj x++T) (by simp only[List.length_append,List.length_singleton];omega) (by omega) Z O (λy hy=>by
     rcases B4.mp hy with z|z
     ·exact hj y z
     ·exact hT y (A5 _ z))
    refine⟨c+1,r,.visit a1 a2 (by rw[List.length_append];omega) h1,by omega,h3,h4,?_⟩;rw[List.length_append] at h5;omega
def vis(adj:Nat->List Nat)(S:List Nat):Nat->Nat->List Nat->Option (List Nat)
 | 0,_,_=>none
 | q+1,k,o=>if k∈o∨k∈S then some o else (adj k).foldlM (λo j=>vis adj S q j o) (o++[k])
theorem tm0{f g:List Nat->Nat->Option (List Nat)}(h:∀o j r,f o j=some r->g o j=some r):∀(l:List Nat) (o r:List Nat),l.foldlM f o=some r->l.foldlM g o=some r
 | [],o,r,e=>e
 | j::l,o,r,e=>by
  rw[List.foldlM_cons] at e ⊢;cases e1:f o j with
  | none=>rw[e1] at e;cases e
  | some o1 =>
   rw[e1] at e;rw[h o j o1 e1];exact tm0 h l o1 r e
theorem m40{adj:Nat->List Nat}:∀(q k:Nat) (o r:List Nat),vis adj S q k o=some r->vis adj S (q+1) k o=some r
 | 0,_,_,_,e=>by cases e
 | q+1,k,o,r,e=>by
  rw[vis] at e ⊢;split at e
  ·rename_i h
   rw[if_pos h];exact e
  ·rename_i h
   rw[if_neg h];exact tm0 (λo j r e=>m40 q j o r e) _ _ _ e
theorem b70{adj:Nat->List Nat}(hj:∀i,i<n->∀j∈adj i,j<n):∀{c:Nat} {o T r:List Nat},Dfs adj S c o T r->o.Nodup->(∀x∈o,x<n)->(∀x∈T,x<n)->∀q,n+1<=q+o.length->T.foldlM (λo j=>vis adj S q j o) o=some r:=by
 intro c o T r h
 induction h with
 | nil o=>intro _ _ _ q _;rfl
 | @skip c o T r x hx hd ih =>
  intro ho J hT q hq;have h1:o.length<=n:=by
   have:=sub_len ho (m:=List.range n) λy hy=>B8.mpr (J y hy)
   rwa [n9] at this
  obtain⟨q,rfl⟩:∃q',q=q'+1:=⟨q - 1,by omega⟩;rw[List.foldlM_cons,vis,if_pos hx];exact ih ho J (λy hy=>hT y (A5 _ hy)) (q+1) hq
 | @visit c o T r x hx hs hz hd ih =>
  intro ho J hT q hq;have Y:=hT x A8;have Z:(o++[x]).Nodup:=c6.mpr ⟨ho,by simp,λa ha b hb e=>by
   have:=C8.mp hb;subst this;subst e;exact hx ha⟩
  have O:∀y∈o++[x],y<n:=λy hy=>by
   rcases B4.mp hy with z|z
   ·exact J y z
   ·have:=C8.mp z;subst this;exact Y
  have h1:o.length+1<=n:=by
   have:=sub_len Z (m:=List.range n) λy hy=>B8.mpr (O y hy)
   rwa [n9,List.length_append,List.length_singleton] at this
  obtain⟨q,rfl⟩:∃q',q=q'+1:=⟨q - 1,by omega⟩;have e:=ih Z O (λy hy=>by
   rcases B4.mp hy with z|z
   ·exact hj x Y y z
   ·exact hT y (A5 _ z)) q (by rw[List.length_append,List.length_singleton];omega)
  rw[List.foldlM_append] at e;cases e1:(adj x).foldlM (λo j=>vis adj S q j o) (o++[x]) with
  | none=>rw[e1] at e;cases e
  | some o1 =>
   rw[e1] at e;rw[List.foldlM_cons,vis,if_neg (λz=>z.elim hx hs),e1];exact tm0 (λo j r e=>m40 q j o r e) _ _ _ e
theorem Y60{adj:Nat->List Nat}(hj:∀i,i<n->∀j∈adj i,j<n){c x:Nat}{r:List Nat}(h:Dfs adj S c [] [x] r)(hx:x<n)(q:Nat)(hq:n+1<=q):vis adj S q x []=some r:=by
 have e:=b70 hj h c9 (λy hy=>by cases hy) (λy hy=>by rw[List.mem_singleton.mp hy];exact hx) q (by simpa using hq);rw[List.foldlM_cons] at e;cases e1:vis adj S q x [] with
 | none=>rw[e1] at e;cases e
 | some o1=>rw[e1] at e;exact e
def nd(l:List Nat):List D:=l.map λ(i:Nat)=>D.int (i:Int)
def nn(l:List D):List Nat:=l.filterMap λd=>match d with|.int i=>some i.toNat|_=>none
theorem nh0:∀l:List Nat,nn (nd l)=l
 | []=>rfl
 | a::l=>by
  have:=nh0 l;unfold nn nd at this ⊢;rw[List.map_cons,List.filterMap_cons];simp only[Int.toNat_natCast];rw[this]
def tgs(vs:List D):List Nat:=vs.filterMap λv=>match v with|.tup [_,.int j]=>some j.toNat|_=>none
section
end
theorem wo0(a b:List Nat):nd (a++b)=nd a++nd b:=by unfold nd;rw[List.map_append]
theorem Zn0(a:List Nat):(nd a).reverse=nd a.reverse:=by unfold nd;rw[List.map_reverse]
theorem K4(a:List Nat):(nd a).length=a.length:=by simp[nd]
theorem Yv0(o:List Nat)(x:Nat):((nd o).any λy=>eqF y (.int (x:Int)))=decide (x∈o):=by
 unfold nd;rw[List.any_map,Bool.eq_iff_iff,List.any_eq_true,decide_eq_true_eq];constructor
 ·rintro⟨y,hy,e⟩
  have e:decide ((y:Int)=(x:Int))=true:=e;have e:=P6 e;have:y=x:=by omega
  subst this;exact hy
 ·intro h
  exact⟨x,h,show decide ((x:Int)=(x:Int))=true from Y3 rfl⟩
theorem l90(o:List Nat):((nd o).all λd=>flat d)=true:=by
 unfold nd;rw[List.all_map,List.all_eq_true];exact λ_ _=>rfl
theorem ln0{adj:Nat->List Nat}(hj:∀i,i<n->∀j∈adj i,j<n):∀(q k:Nat) (o r:List Nat),vis adj S q k o=some r->k<n->o.Nodup->(∀x∈o,x<n)->r.Nodup/\∀x∈r,x<n
 | 0,_,_,_,e,_,_,_=>by cases e
 | q+1,k,o,r,e,hk,ho,hon=>by
  rw[vis] at e;split at e
  ·cases e;exact⟨ho,hon⟩
  ·rename_i h
   have go:∀(l:List Nat) (o r:List Nat),l.foldlM (λo j=>vis adj S q j o) o=some r->(∀j∈l,j<n)->o.Nodup->(∀x∈o,x<n)->r.Nodup/\∀x∈r,x<n:=by
    intro l
    induction l with
    | nil=>intro o r e _ ho hon;cases e;exact⟨ho,hon⟩
    | cons j l ih =>
     intro o r e hl ho hon;rw[List.foldlM_cons] at e;cases e1:vis adj S q j o with
     | none=>rw[e1] at e;cases e
     | some o1 =>
      rw[e1] at e;obtain⟨a,b⟩:=ln0 hj q j o o1 e1 (hl j A8) ho hon;exact ih o1 r e (λi hi=>hl i (A5 _ hi)) a b
   refine go _ _ _ e (hj k hk) (c6.mpr ⟨ho,by simp,λa ha b hb e=>?_⟩) λx hx=>?_
   ·rw[List.mem_singleton.mp hb] at e;exact h (.inl (e▸ha))
   ·rcases B4.mp hx with z|z
    ·exact hon x z
    ·rw[List.mem_singleton.mp z];exact hk
theorem Wu0(o:List Nat)(x:Nat):w00 true (.int (x:Int)) (.lst (nd o))=some (.bl (decide (x∉o))):=by
 simp only[w00];rw[if_pos ⟨rfl,l90 o⟩,Yv0];congr 2
 by_cases h:x∈o<;>simp[h]
theorem h50:∀{vs:List D},(∀v∈vs,v=.non∨(∃z,v=.int z)∨∃j:Nat,v=.tup [.str "at",.int (j:Int)]/\j<n)->∀j∈tgs vs,j<n:=by
 intro vs h j hj;obtain⟨v,hv,e⟩:=T0.mp hj;rcases h v hv with rfl|⟨z,rfl⟩|⟨i,rfl,hi⟩
 ·cases e
 ·cases e
 ·simp only[Int.toNat_natCast,Option.some.injEq] at e
  omega
theorem ve0(p:Pt)(h:p.few):m_values [p.d]=some (.lst p.vals):=Pn.ve0 p h
theorem c70(p:Pt)(h:p.few)(vs:List D):z70 [p.d,.lst vs]=some (Pn.put p vs).d:=Pn.Zb0 p h vs
def Lv(n:Nat)(v:D):Prop:=v=.non∨(∃z,v=.int z)∨∃j:Nat,v=.tup [.str "at",.int (j:Int)]/\j<n
structure Pw(n:Nat)(p:Pt):Prop where
 few:p.vals.length<=12
 lv:∀v∈p.vals,Lv n v
theorem Pw.f{p:Pt}(h:Pw n p):p.few:=by
 have z:(12:Nat)<=sizeLine:=by decide
 exact C3 h.few z
theorem ks0(vs:List D):(tgs vs).length<=vs.length:=List.length_filterMap_le _ _
theorem Xq0(j:Nat)(vs:List D):tgs (.tup [.str "at",.int (j:Int)]::vs)=j::tgs vs:=by unfold tgs;rw[List.filterMap_cons];simp only[Int.toNat_natCast]
theorem t60:∀vs:List D,(∀v∈vs,Lv n v)->V3 (gN 0) (ob (S7 isTup (gv 0))) (o2 (gv 0) (gc (.int 1)) ixD) [.un] vs=some (nd (tgs vs))
 | [],_=>rfl
 | v::vs,h=>by
  have ih:=t60 vs λu hu=>h u (A5 _ hu)
  unfold V3;rcases h v A8 with rfl|⟨z,rfl⟩|⟨j,rfl,hj⟩
  ·exact ih
  ·exact ih
  ·show (match o2 (gv 0) (gc (.int 1)) ixD [.sh (.tup [.str "at",.int (j:Int)])] with|none=>none|some y=>(V3 (gN 0) (ob (S7 isTup (gv 0))) (o2 (gv 0) (gc (.int 1)) ixD) [.un] vs).map λr=>y::r)=_
   rw[ih,Xq0];rfl
theorem wk0{p:Pt}(h:Pw n p):M6 [p.d]=some (.lst (nd (tgs p.vals))) :=
 Q9 rfl (R5 (O5 (Y6 (items:=p.vals) (by
  show Option.bind (oA (z7 (gv 0) v4) m_values [.sh p.d]) qd0=_;rw[t7 (ds:=[p.d]) rfl,ve0 p h.f];rfl) h.f (t60 p.vals h.lv))))
def lkv(f:Nat->Nat):D->D
 | .tup [_,.int j]=>.tup [.str "at",.int (f j.toNat:Int)]
 | v=>v
def rel(f:Nat->Nat)(p:Pt):Pt:=Pn.put p (p.vals.map (lkv f))
theorem uv0(h:D.tup [.str "at",.int (j:Int)]∈vs):j∈tgs vs:=T0.mpr ⟨_,h,by simp only[Int.toNat_natCast]⟩
theorem k90{p:Pt}(h:Pw n p)(f:Nat->Nat)(D':D)(hd:∀j∈tgs p.vals,J6 D' (.int (j:Int))=some (.int (f j:Int))):wd0 [p.d,D']=some (rel f p).d:=by
 refine j9 rfl (v5 (δ':=[.sh p.d,.sh D',.sh (.lst (p.vals.map (lkv f)))]) (o8 (Y6 (items:=p.vals) (by
  show Option.bind (oA (z7 (gv 0) v4) m_values [.sh p.d,.sh D',.un]) qd0=_;rw[t7 (ds:=[p.d]) rfl,ve0 p h.f];rfl) h.f ?_)) (p6 (d8 (by rw[t7 (ds:=[p.d,.lst (p.vals.map (lkv f))]) rfl];exact c70 p h.f _))))
 refine G8 (lkv f) λv hv=>⟨[.sh v,.sh D'],rfl,rfl,?_⟩
 rcases h.lv v hv with rfl|⟨z,rfl⟩|⟨j,rfl,hj⟩
 ·rfl
 ·rfl
 ·unfold ifG
  rw[show ob (S7 isTup (gv 0)) [.sh (.tup [.str "at",.int (j:Int)]),.sh D']=some true from rfl];show Y4 _ _=_;exact X7 (cons_of rfl (cons_of (d:=.int (f j:Int)) (by
   rw[t6 (x:=D') (y:=.int (j:Int)) rfl rfl];exact hd j (uv0 hv)) rfl)) (by show 2<=sizeLine;decide)
theorem c40(p:Pt)(vs:List D)(h:vs.length=p.vals.length):(Pn.put p vs).vals=vs:=by
 cases p with
 | text w=>exact(List.eq_nil_of_length_eq_zero h).symm
 | row us=>rfl
 | table ps =>
  show ((ps.map (·.1)).zip vs).map (·.2)=vs;refine Bp0 ?_;have h':vs.length=(ps.map (·.2)).length:=h;simp only[List.length_map] at h' ⊢;omega
 | rcd c ps =>
  show ((ps.map (·.1)).zip vs).map (·.2)=vs;refine Bp0 ?_;have h':vs.length=(ps.map (·.2)).length:=h;simp only[List.length_map] at h' ⊢;omega
end K22
namespace Km
open Ja
open DL W K22
structure GoodL(W:D)(n:Nat):Prop where
 few:n<=60
 ex:∃Wb,W=.tup Wb/\Wb.length=n/\∀i,i<n->∃js:List Nat,U3 [Wb.getD i .non]=some (.lst (nd js))/\js.length<=20/\∀j∈js,j<n
def ya0(W:D)(i:Nat):List Nat:=match W with
 | .tup Wb=>(match U3 [Wb.getD i .non] with
  | some (.lst vs)=>nn vs
  | _=>[])
 | _=>[]
def X30(W:D)(k:Int)(od:List D):Prop:=∃(n:Nat) (o:List Nat),GoodL W n/\0<=k/\k<n/\od=nd o/\o.Nodup/\∀x∈o,x<n
open Classical in
def m9(q:Nat):List D->Option (List D)
 | [W,.int k,.lst od]=>if X30 W k od then (vis (ya0 W) [] q k.toNat (nn od)).map nd else none
 | _=>none
def Y5:List D->Option (List D):=m9 62
def O2(Y5:List D->Option (List D)):GS:=(v6 (ifD (vi0 (ob (o2 (gv 1) (gv 2) (w00 true))))
 (v6 (Z8 (l20 2 (gv 1)))
 (v6 (M4 (O9 (oA (z7 (o2 (gv 0) (gv 1) ixD) v4) U3)) (gN 3)
 (v6 (y40 2 (z7 (gv 0) (z7 (gv 3) v4)) Y5)
 u6))
 u6))
 u6)
 u6)
def M5:List Str:=["_law_web", "_law_at", "_law_found", "_law_other"]
section
def yr0:GS:=(v6 (N5 2 (Z6 v4))
 (v6 (y40 2 (z7 (gv 0) (z7 (gv 1) v4)) Y5)
 (v6 (uc0 2 (N5 3 (gc (.dct (.inl []) []))))
 (v6 (M4 (O9 (gv 2)) (gN 4)
 (v6 (T4 (Q3 (z20 (oA (z7 (gv 3) v4) s00))) (putAt 3 (gv 4)))
 u6))
 (v6 (uc0 3 (N5 5 (Z6 v4)))
 (v6 (M4 (O9 (gv 2)) (gN 4)
 (v6 (o9 (gN 6) (o2 (gv 0) (gv 4) ixD))
 (v6 (ifD (ob (o2 (o2 (gv 6) (gc (.int 0)) ixD) (gc (.str "row")) eqD))
 (v6 (o9 (gN 6) (Y4 (z7 (gc (.str "row")) (z7 (oA (z7 (b8 1 [3] (tupI (o2 (gv 6) (gc (.int 1)) ixD)) (gN 0) noT (oA (z7 (gv 0) (z7 (gv 1) v4)) V6)) v4) S9) v4))))
 u6)
 (v6 (ifD (ob (o2 (o2 (gv 6) (gc (.int 0)) ixD) (gc (.str "text")) neD))
 (v6 (o9 (gN 7) (b8 2 [3] (tupI (o2 (gv 6) (unG J5 (gc (.int 1))) ixD)) (yu0 0 1) noT (Y4 (z7 (gv 0) (z7 (oA (z7 (gv 1) (z7 (gv 2) v4)) V6) v4)))))
 (v6 (o9 (gN 6) (o2 (y90 (gv 6) J3 (someO (unG J5 (gc (.int 1))))) (Y4 (z7 (oA (z7 (gv 7) v4) S9) v4)) o5))
 u6))
 u6)
 u6))
 (v6 (Z8 (G4 5 (gv 6)))
 u6))))
 (v6 (j7 (u40 (oA (z7 (gv 5) v4) S9)))
 u6)))))))
def J9:List Str:=["_law_web", "_law_at", "_law_found", "_law_numbers", "_law_k", "_law_parts", "_law_part", "_law_pairs"]
def M8:List D->Option D:=mkF 2 J9 yr0
end
theorem in0{W:D}(hW:GoodL W n)(o:List Nat)(q j:Nat)(hj:j<n)(ho:o.Nodup)(hon:∀x∈o,x<n):m9 q [W,.int (j:Int),.lst (nd o)]=(vis (ya0 W) [] q j o).map nd:=by
 unfold m9;simp only[];rw[if_pos ⟨n,o,hW,by omega,by omega,rfl,ho,hon⟩,nh0,Int.toNat_natCast]
theorem fw0{W:D}(hW:GoodL W n)(hi:i<n):(∃d,ixD W (.int (i:Int))=some d/\U3 [d]=some (.lst (nd (ya0 W i))))/\(ya0 W i).length<=20/\∀j∈ya0 W i,j<n:=by
 obtain⟨Wb,rfl,hl,h⟩:=hW.ex;obtain⟨js,e,h1,h2⟩:=h i hi;have ea:ya0 (.tup Wb) i=js:=by
  unfold ya0;simp only[];rw[e];exact nh0 js
 rw[ea];refine⟨⟨Wb.getD i .non,?_,e⟩,h1,h2⟩;show atI Wb (i:Int)=_;rw[zk0 (by omega) (by omega) .non,Int.toNat_natCast]
theorem fx0{W:D}(hW:GoodL W n):∀i,i<n->∀j∈ya0 W i,j<n:=λi hi=>(fw0 hW hi).2.2
def CB(f:List D->Option (List D)):GS:=(v6 (y40 2 (z7 (gv 0) (z7 (gv 3) v4)) f)
 u6)
theorem nw0{W:D}(hW:GoodL W n)(K:Sl)(p q:Nat):∀(js:List Nat) (o r:List Nat) (s3:Sl),(∀j∈js,j<n)->js.foldlM (λo j=>vis (ya0 W) [] q j o) o=some r->o.Nodup->(∀x∈o,x<n) ->
  ∃s3',S8 (gN 3) (CB (m9 q)) (nd js) [.sh W,K,.ow (lent p (nd o)),s3]=some (.nx [.sh W,K,.ow (lent p (nd r)),s3'])
 | [],o,r,s3,_,e,_,_=>by cases e;exact⟨s3,rfl⟩
 | j::js,o,r,s3,hv,e,ho,hon=>by
  rw[List.foldlM_cons] at e;cases e1:vis (ya0 W) [] q j o with
  | none=>rw[e1] at e;cases e
  | some o1 =>
   rw[e1] at e;have hj:=hv j A8;obtain⟨a,b⟩:=ln0 (fx0 hW) q j o o1 e1 hj ho hon;obtain⟨s',h⟩:=nw0 hW K p q js o1 r (.sh (.int (j:Int))) (λi hi=>hv i (A5 _ hi)) e a b;refine⟨s',?_⟩;have h1:CB (m9 q) [.sh W,K,.ow (lent p (nd o)),.sh (.int (j:Int))]=some (.nx [.sh W,K,.ow (lent p (nd o1)),.sh (.int (j:Int))]):=by
    refine v5 (δ':=[.sh W,K,.ow (lent p (nd o1)),.sh (.int (j:Int))]) ?_ rfl;unfold y40;show Option.map _ (m9 q [W,.int (j:Int),.lst (nd o)])=_;rw[in0 hW o q j hj ho hon,e1];rfl
   show S8 (gN 3) (CB (m9 q)) (.int (j:Int)::nd js) _=_;unfold S8;show (match CB (m9 q) [.sh W,K,.ow (lent p (nd o)),.sh (.int (j:Int))] with|some (.nx δ')=>S8 (gN 3) (CB (m9 q)) (nd js) δ'|some (.ct δ')=>S8 (gN 3) (CB (m9 q)) (nd js) δ'|some (.bk δ')=>some (.nx δ')|r=>r)=_;rw[h1];exact h
theorem w40(q:Nat):∀ds l l',m9 (q+1) (ds++[.lst l])=some l'->(ds++[D.lst l]).length=3/\∀p,(false=true/\O2 (m9 q) (M7 M5 ds p l)=some (.rf (lent p l')))∨(false=false/\∃δ',O2 (m9 q) (M7 M5 ds p l)=some (.nx δ')/\δ'[ds.length]?=some (.ow (lent p l'))):=by
 intro ds l l' h;have zs:(1000:Nat)<=sizeLine:=by decide
 obtain⟨W,k,od,he⟩:∃W k od,ds++[D.lst l]=[W,.int k,.lst od]:=by
  unfold m9 at h;split at h
  ·rename_i W k od e;exact⟨W,k,od,e⟩
  ·cases h
 have a1:ds=[W,.int k]/\l=od:=by
  have:ds++[D.lst l]=[W,.int k]++[.lst od]:=he;have:=List.append_inj' this rfl;refine⟨this.1,?_⟩;injection this.2 with z
  injection z
 obtain⟨rfl,rfl⟩:=a1;refine⟨rfl,λp=>.inr ⟨rfl,?_⟩⟩;have h:m9 (q+1) [W,.int k,.lst l]=some l':=h;have ha:X30 W k l:=Classical.byContradiction λha=>by
  unfold m9 at h;simp only[] at h;rw[if_neg ha] at h;cases h
 obtain⟨n,o,hW,k0,k1,rfl,ho,J⟩:=ha;obtain⟨k,rfl⟩:∃k':Nat,k=(k':Int):=⟨k.toNat,by omega⟩;have hk:k<n:=by omega
 rw[in0 hW o (q+1) k hk ho J] at h;cases e1:vis (ya0 W) [] (q+1) k o with
 | none=>rw[e1] at h;cases h
 | some r =>
  rw[e1] at h;cases h;have a4:o.length<=60:=by
   have:=sub_len ho (m:=List.range n) λy hy=>B8.mpr (J y hy)
   rw[List.length_range] at this;have:=hW.few;omega
  have ht:vi0 (ob (o2 (gv 1) (gv 2) (w00 true))) [.sh W,.sh (.int (k:Int)),.ow (lent p (nd o)),.un]=some (decide (k∉o)):=by
   show ob (o2 (gv 1) (gv 2) (w00 true)) [.sh W,.sh (.int (k:Int)),.sh (.lst (nd o)),.un]=_;unfold ob;rw[t6 (x:=.int (k:Int)) (y:=.lst (nd o)) rfl rfl,Wu0];rfl
  rw[vis] at e1
  by_cases hc:k∈o
  ·rw[if_pos (.inl hc)] at e1
   cases e1;refine⟨[.sh W,.sh (.int (k:Int)),.ow (lent p (nd o)),.un],v5 (δ':=[.sh W,.sh (.int (k:Int)),.ow (lent p (nd o)),.un]) ?_ rfl,rfl⟩;rw[decide_eq_false (by simpa using hc)] at ht;show ifD _ _ _ [.sh W,.sh (.int (k:Int)),.ow (lent p (nd o)),.un]=_;rw[Z4 ht];rfl
  ·rw[if_neg (λz=>z.elim hc (λz=>by cases z))] at e1
   have Y:(o++[k]).Nodup:=c6.mpr ⟨ho,by simp,λa ha b hb e=>by
    rw[List.mem_singleton.mp hb] at e;exact hc (e▸ha)⟩
   have O:∀x∈o++[k],x<n:=λx hx=>by
    rcases B4.mp hx with z|z
    ·exact J x z
    ·rw[List.mem_singleton.mp z];exact hk
   obtain⟨⟨d,Z,a2⟩,a5,a3⟩:=fw0 hW hk;obtain⟨s3,hf⟩:=nw0 hW (.sh (.int (k:Int))) p q (ya0 W k) (o++[k]) r .un a3 e1 Y O;refine⟨[.sh W,.sh (.int (k:Int)),.ow (lent p (nd r)),s3],v5 (δ':=[.sh W,.sh (.int (k:Int)),.ow (lent p (nd r)),s3]) ?_ rfl,rfl⟩;rw[decide_eq_true hc] at ht;show ifD _ _ _ [.sh W,.sh (.int (k:Int)),.ow (lent p (nd o)),.un]=_;rw[V4 ht];refine v5 (δ':=[.sh W,.sh (.int (k:Int)),.ow (lent p (nd (o++[k]))),.un]) ?_ (v5 (Q4 (items:=nd (ya0 W k)) ?_ hf) rfl)
   ·unfold Z8 l20
    show Option.map _ (if (nd o).length<sizeLine then some (D.non,([.sh W,.sh (.int (k:Int)),.ow (.tup [.int (p:Int),.lst (nd o++[.int (k:Int)])]),.un]:Ds)) else none)=_;rw[if_pos (by rw[K4];omega)];rw[wo0];rfl
   ·show Option.bind (oA (z7 (o2 (gv 0) (gv 1) ixD) v4) U3 _) qd0=_
    rw[t7 (ds:=[d]) (cons_of (by rw[t6 (x:=W) (y:=.int (k:Int)) rfl rfl];exact Z) rfl),a2];rfl
theorem xl0(ds:List D):m9 0 ds=none:=by
 unfold m9;split
 ·split<;>rfl
 ·rfl
end Km
namespace Km
open Ja
open DL W K22
open Bw (bs sg cnt kn its tx fold Vb Gp Gq)
def pd(ks:List T7):D:=.dct (.inl ks) (nd (List.range ks.length))
def ix{α:Type}[DecidableEq α]:List α->α->Nat
 | [],_=>0
 | b::l,a=>if b=a then 0 else ix l a+1
theorem jq0[DecidableEq α]:∀{l:List α} {a:α},a∈l->ix l a<l.length
 | [],_,h=>by cases h
 | b::l,a,h=>by
  unfold ix;rw[List.length_cons]
  by_cases e:b=a
  ·rw[if_pos e];omega
  ·have:=jq0 (l:=l) (a:=a) ((B0.mp h).resolve_left λz=>e z.symm)
   rw[if_neg e];omega
theorem lw0:∀(ks:List T7) (s:Nat) (k:T7),k∈ks->T6 ks (nd (List.range' s ks.length)) k=some (.int ((s+ix ks k:Nat):Int))
 | [],s,k,h=>by cases h
 | a::ks,s,k,h=>by
  rw[List.length_cons,List.range'_succ];show (if a=k then some (D.int (s:Int)) else T6 ks (nd (List.range' (s+1) ks.length)) k)=_;unfold ix
  by_cases e:a=k
  ·rw[if_pos e,if_pos e]
   rfl
  ·have hk:k∈ks:=(B0.mp h).resolve_left λz=>e z.symm
   rw[if_neg e,if_neg e,lw0 ks (s+1) k hk,show s+1+ix ks k=s+(ix ks k+1) by omega]
theorem ny0{k:T7}(h:k∈ks):T6 ks (nd (List.range ks.length)) k=some (.int (ix ks k:Int)):=by
 rw[List.range_eq_range',lw0 ks 0 k h,Nat.zero_add]
theorem bi0(ks:List T7)(k:T7):R6 ks k=true↔k∈ks:=by
 unfold R6;rw[List.any_eq_true];constructor
 ·rintro⟨x,hx,e⟩
  rw[← of_decide_eq_true e];exact hx
 ·intro h
  exact⟨k,h,Y3 rfl⟩
theorem Wb0{k:T7}(h:k∉ks):R6 ks k=false:=by
 cases e:R6 ks k with
 | false=>rfl
 | true=>exact absurd ((bi0 ks k).mp e) h
theorem mx0{k:T7}(h:k∉ks):(.dct (.inl (Q0 ks k)) (M3 ks (nd (List.range ks.length)) k (.int (ks.length:Int))):D)=pd (ks++[k]):=by
 unfold Q0 M3 pd;rw[Wb0 h,if_neg (by simp),if_neg (by simp),List.length_append,List.length_singleton,List.range_succ,wo0];rfl
theorem idx_map[DecidableEq α][DecidableEq β](f:α->β)(a:α):∀l:List α,(∀b∈l,f b=f a->b=a)->ix (l.map f) (f a)=ix l a
 | [],_=>rfl
 | b::l,h=>by
  rw[List.map_cons];unfold ix
  by_cases e:b=a
  ·rw[if_pos e,if_pos (by rw[e])]
  ·rw[if_neg e,if_neg (λz=>e (h b A8 z)),idx_map f a l λc hc=>h c (A5 _ hc)]
def kb(B:List Nat):List T7:=B.map λ(k:Nat)=>(Sum.inl (k:Int):T7)
theorem kb_mem(B:List Nat)(j:Nat):(Sum.inl (j:Int):T7)∈kb B↔j∈B:=by
 unfold kb;rw[List.mem_map];constructor
 ·rintro⟨k,hk,e⟩
  have:(k:Int)=(j:Int):=by injection e
  have:k=j:=by omega
  rw[← this];exact hk
 ·exact λh=>⟨j,h,rfl⟩
theorem mn0(B:List Nat)(j:Nat):ix (kb B) (Sum.inl (j:Int):T7)=ix B j:=idx_map (λ(k:Nat)=>(Sum.inl (k:Int):T7)) j B λb _ e=>by
 have:(b:Int)=(j:Int):=by injection e
 omega
theorem rz0(B:List Nat):(kb B).length=B.length:=by unfold kb;rw[List.length_map]
structure Wb(ps:List Pt):Prop where
 len:0<ps.length/\ps.length<=60
 it:∀p∈ps,Gq p
 lk:∀p∈ps,∀v∈p.vals,Bw.Lk ps.length v
theorem fl0{B:List Nat}(h:j∈B):J6 (pd (kb B)) (.int (j:Int))=some (.int (ix B j:Int)):=by
 show T6 (kb B) (nd (List.range (kb B).length)) (.inl (j:Int))=_;rw[ny0 ((kb_mem B j).mpr h),mn0]
theorem vk0(hj:j<ps.length):ixD (Bw.web ps) (.int (j:Int))=some (ps.getD j (.row [])).d/\ps.getD j (.row [])∈ps:=by
 constructor
 ·show atI (ps.map Pt.d) (j:Int)=_
  rw[zk0 (by omega) (by rw[List.length_map];omega) .non,Int.toNat_natCast];simp[List.getD_eq_getElem?_getD,hj]
 ·rw[List.getD_eq_getElem?_getD,List.getElem?_eq_getElem hj]
  exact D6 hj
end Km
namespace Km
open Ja
open DL W K22
open Bw (bs sg cnt kn its tx fold Vb Gp Gq two)
def lkd(j:Nat):D:=.tup [.str "at",.int (j:Int)]
theorem vp0(f:D->D):∀ps:List (Str×D),(ps.map (·.1)).zip ((ps.map (·.2)).map f)=ps.map λp=>(p.1,f p.2)
 | []=>rfl
 | p::ps=>by
  rw[List.map_cons,List.map_cons,List.map_cons,List.zip_cons_cons,vp0 f ps,List.map_cons]
theorem pg0(f:D->D)(hf:∀s,f (.str s)=.str s):∀ps:List (Str×D),(ps.map λp=>(p.1,f p.2)).flatMap two=(ps.flatMap two).map f
 | []=>rfl
 | p::ps=>by
  rw[List.map_cons,List.flatMap_cons,pg0 f hf ps,List.flatMap_cons,List.map_append];show[D.str p.1,f p.2]++_=[f (.str p.1),f p.2]++_;rw[hf]
theorem lh0(π:Nat->Nat)(p:Pt):cnt (rel π p)=cnt p/\kn (rel π p)=kn p/\tx (rel π p)=tx p/\its (rel π p)=(its p).map (lkv π)/\(rel π p).vals=p.vals.map (lkv π)/\(rel π p).all=p.all:=by
 have hv:(rel π p).vals=p.vals.map (lkv π):=c40 p _ (by rw[List.length_map]);cases p with
 | text w=>exact⟨rfl,rfl,rfl,rfl,hv,rfl⟩
 | row vs=>exact⟨by show (vs.map (lkv π)).length=vs.length;rw[List.length_map],rfl,rfl,rfl,hv,rfl⟩
 | table ps =>
  have e:rel π (.table ps)=.table (ps.map λp=>(p.1,lkv π p.2)):=D4 Pt.table (vp0 (lkv π) ps);refine⟨?_,rfl,rfl,?_,hv,?_⟩
  ·rw[e];show (ps.map λp=>(p.1,lkv π p.2)).length=ps.length;rw[List.length_map]
  ·rw[e];exact pg0 (lkv π) (λ_=>rfl) ps
  ·rw[e];show (ps.map λp=>(p.1,lkv π p.2)).map (·.1)++[]=ps.map (·.1)++[];rw[List.map_map];rfl
 | rcd c ps =>
  have e:rel π (.rcd c ps)=.rcd c (ps.map λp=>(p.1,lkv π p.2)):=D4 (Pt.rcd c) (vp0 (lkv π) ps);refine⟨?_,rfl,rfl,?_,hv,?_⟩
  ·rw[e];show (ps.map λp=>(p.1,lkv π p.2)).length=ps.length;rw[List.length_map]
  ·rw[e]
   show D.str c::_=D.str c::(ps.flatMap two).map (lkv π);rw[← pg0 (lkv π) (λ_=>rfl) ps]
  ·rw[e];show (ps.map λp=>(p.1,lkv π p.2)).map (·.1)++[c]=ps.map (·.1)++[c];rw[List.map_map];rfl
theorem m10(π:Nat->Nat)(j:Nat):lkv π (lkd j)=lkd (π j):=by unfold lkd lkv;simp only[Int.toNat_natCast]
def laid(ps:List Pt)(L:List Nat):List Pt:=L.map λk=>rel (ix L) (ps.getD k (.row []))
theorem b80(hw:Wb ps)(h0:0<L.length/\L.length<=60)(hL:∀k∈L,k<ps.length)(hc:∀k∈L,∀i∈tgs (ps.getD k (.row [])).vals,i∈L):Wb (laid ps L):=by
 have hl:(laid ps L).length=L.length:=by unfold laid;rw[List.length_map]
 refine⟨by rw[hl];exact h0,λp hp=>?_,λp hp v hv=>?_⟩
 ·obtain⟨k,hk,rfl⟩:=B1.mp hp
  obtain⟨_,w2⟩:=vk0 (hL k hk);have hq:=hw.it _ w2;obtain⟨r1,_,_,_,r5,r6⟩:=lh0 (ix L) (ps.getD k (.row []));refine⟨by rw[r1];exact hq.cnt,λv hv=>?_,by rw[r6];exact hq.names,by rw[r5,List.length_map];exact hq.few⟩;rw[r5] at hv;obtain⟨u,hu,rfl⟩:=B1.mp hv;have hb:=hq.vals u hu;cases hb with
  | non=>exact .non
  | lk i _ =>
   rw[show lkv (ix L) (.tup [.str "at",.int (i:Int)])=lkd (ix L i) from m10 _ _];exact .lk _ (by have:=jq0 (hc k hk i (uv0 hu));omega)
  | int z hz=>exact .int z hz
 ·obtain⟨k,hk,rfl⟩:=B1.mp hp
  obtain⟨_,w2⟩:=vk0 (hL k hk);obtain⟨_,_,_,_,r5,_⟩:=lh0 (ix L) (ps.getD k (.row []));rw[r5] at hv;obtain⟨u,hu,rfl⟩:=B1.mp hv;have hb:=(hw.it _ w2).vals u hu;rw[hl];cases hb with
  | non=>exact λj e=>nomatch e
  | lk i _ =>
   rw[show lkv (ix L) (.tup [.str "at",.int (i:Int)])=lkd (ix L i) from m10 _ _];exact Bw.ct0 (jq0 (hc k hk i (uv0 hu)))
  | int z hz=>exact λj e=>nomatch e
end Km
namespace K22
open Ja
open DL W
def kd(l:List Nat):List T7:=l.map λ(i:Nat)=>Sum.inl (i:Int)
def td(l:List Nat):List D:=l.map λ_=>.bl true
theorem ho0(a b:List Nat):kd (a++b)=kd a++kd b:=by unfold kd;rw[List.map_append]
theorem rl0(o:List Nat)(x:Nat):R6 (kd o) (.inl (x:Int))=decide (x∈o):=by
 unfold R6 kd;rw[List.any_map];rw[Bool.eq_iff_iff,List.any_eq_true,decide_eq_true_eq];constructor
 ·rintro⟨y,hy,e⟩
  have e:=P6 e;injection e with e
  have:y=x:=by omega
  subst this;exact hy
 ·intro h;exact⟨x,h,Y3 rfl⟩
def MT:GB:=(ob (o2 (z20 (oA (z7 (gv 5) v4) Z5)) (gc (.int 0)) gtD))
def MBo(op:D->D->Option D):GS:=(v6 (T4 (vh0 5) (gN 6))
 (v6 (ifD (vi0 (ob (o2 (gv 6) (gv 4) (xz0 true))))
 (v6 (T4 (Q3 (gc (.bl true))) (putAt 4 (gv 6)))
 (v6 (Z8 (G4 3 (gv 6)))
 (v6 (Z8 (yq0 5 (oA (z7 (oA (z7 (o2 (gv 0) (gv 6) op) v4) M6) v4) ph0)))
 u6)))
 u6)
 u6))
def ms(W:D)(k l:Sl)(U o T:List Nat)(s:Sl):Ds:=[.sh W,k,l,.ow (.lst (nd o)),.ow (.dct (.inl (kd (U++o))) (nd U++td o)),.ow (.lst (nd T.reverse)),s]
section
variable{W:D}{k l:Sl}{U:List Nat}
theorem jm0(s:Sl)(o T:List Nat):MT (ms W k l U o T s)=some (decide (0<T.length)):=by
 have e:z20 (oA (z7 (gv 5) v4) Z5) (ms W k l U o T s)=some (.int (T.length:Int)):=by
  show some (D.int ((nd T.reverse).length:Int))=_;rw[K4,List.length_reverse]
 unfold MT ob;rw[t6 (x:=.int (T.length:Int)) (y:=.int 0) e rfl];show some (decide ((0:Int)<(T.length:Int)))=_;congr 1;rw[decide_eq_decide];omega
theorem Yp0(s:Sl)(o T:List Nat)(x:Nat):T4 (vh0 5) (gN 6) (ms W k l U o (x::T) s)=some (.nx (ms W k l U o T (.sh (.int (x:Int))))):=by
 have e1:owL 5 (ms W k l U o (x::T) s)=some (nd (x::T).reverse):=rfl;have e2:nd (x::T).reverse=nd T.reverse++[.int (x:Int)]:=by rw[List.reverse_cons,wo0];rfl
 unfold T4 vh0;rw[e1,Option.bind_some,e2,List.getLast?_concat,List.dropLast_concat];rfl
theorem cv0(o T:List Nat)(x:Nat):vi0 (ob (o2 (gv 6) (gv 4) (xz0 true))) (ms W k l U o T (.sh (.int (x:Int))))=some (decide (x∉U++o)):=by
 show some (xor true (R6 (kd (U++o)) (.inl (x:Int))))=_;rw[rl0,Bool.true_xor];congr 1
 by_cases h:x∈U++o
 ·rw[decide_eq_true h,decide_eq_false (λz=>z h)];rfl
 ·rw[decide_eq_false h,decide_eq_true h];rfl
theorem e30{op:D->D->Option D}{P:Nat->Prop}{adj:Nat->List Nat}(hS:∀y,y∈U↔y∈S)(hU:U.length<=1000)(hA:∀x,P x->∃d,op W (.int (x:Int))=some d/\M6 [d]=some (.lst (nd (adj x)))/\(adj x).length<=12/\∀j∈adj x,P j):∀{c:Nat} {o T r:List Nat},Dfs adj S c o T r->(∀x∈T,P x)->o.length+T.length<=10001->∀(m:Nat) (s:Sl),c<m->∃s',X5 MT (MBo op) m (ms W k l U o T s)=some (.nx (ms W k l U r [] s')):=by
 intro c o T r h
 induction h with
 | nil o =>
  intro _ _ m s hm;cases m with
  | zero=>omega
  | succ m =>
   refine⟨s,?_⟩;unfold X5;rw[jm0];rfl
 | @skip c o T r x hx hd ih =>
  intro hT hl m s hm;cases m with
  | zero=>omega
  | succ m =>
   rw[List.length_cons] at hl;obtain⟨s',e⟩:=ih (λy hy=>hT y (A5 _ hy)) (by omega) m (.sh (.int (x:Int))) (by omega);refine⟨s',?_⟩;have J:x∈U++o:=B4.mpr (hx.symm.imp (hS x).mpr id);have eb:MBo op (ms W k l U o (x::T) s)=some (.nx (ms W k l U o T (.sh (.int (x:Int))))) :=
    v5 (Yp0 s o T x) (v5 (δ':=ms W k l U o T (.sh (.int (x:Int)))) (by rw[Z4 (by rw[cv0,decide_eq_false (λz=>z J)])];rfl) rfl)
   unfold X5;rw[jm0,decide_eq_true (by simp)];dsimp only;rw[eb];exact e
 | @visit c o T r x hx hxS hz hd ih =>
  intro hT hl m s hm;cases m with
  | zero=>omega
  | succ m =>
   have Y:=hT x A8;obtain⟨d,Z,a1,a2,O⟩:=hA x Y;have zs:(20000:Nat)<=sizeLine:=by decide
   rw[List.length_append] at hz;obtain⟨s',e⟩:=ih (λy hy=>by
    rcases B4.mp hy with q|q
    ·exact O y q
    ·exact hT y (A5 _ q)) (by simp only[List.length_append,List.length_singleton];omega) m (.sh (.int (x:Int))) (by omega)
   refine⟨s',?_⟩;have J:x∉U++o:=λz=>(B4.mp z).elim (λq=>hxS ((hS x).mp q)) hx
   have p1:T4 (Q3 (gc (.bl true))) (putAt 4 (gv 6)) (ms W k l U o T (.sh (.int (x:Int))))=some (.nx [.sh W,k,l,.ow (.lst (nd o)),.ow (.dct (.inl (kd (U++(o++[x])))) (nd U++td (o++[x]))),.ow (.lst (nd T.reverse)),.sh (.int (x:Int))]):=by
    have hk:R6 (kd (U++o)) (.inl (x:Int))=false:=by rw[rl0,decide_eq_false J]
    have e1:Q0 (kd (U++o)) (.inl (x:Int))=kd (U++(o++[x])):=by
     unfold Q0;rw[hk,if_neg (by simp),← List.append_assoc,ho0 (U++o)];rfl
    have e2:M3 (kd (U++o)) (nd U++td o) (.inl (x:Int)) (.bl true)=nd U++td (o++[x]):=by
     unfold M3;rw[hk,if_neg (by simp)];unfold td;rw[List.map_append,List.append_assoc];rfl
    unfold T4 Q3;show ((if (kd (U++o)).length<sizeLine then some ([.sh W,k,l,.ow (.lst (nd o)),Sl.ow (.dct (.inl (Q0 (kd (U++o)) (.inl (x:Int)))) (M3 (kd (U++o)) (nd U++td o) (.inl (x:Int)) (.bl true))),.ow (.lst (nd T.reverse)),.sh (.int (x:Int))]) else none).map Res.nx)=_;rw[if_pos (by unfold kd;rw[List.length_map,List.length_append];omega),e1,e2];rfl
   have p2:Z8 (G4 3 (gv 6)) [.sh W,k,l,.ow (.lst (nd o)),.ow (.dct (.inl (kd (U++(o++[x])))) (nd U++td (o++[x]))),.ow (.lst (nd T.reverse)),.sh (.int (x:Int))]=some (.nx [.sh W,k,l,.ow (.lst (nd (o++[x]))),.ow (.dct (.inl (kd (U++(o++[x])))) (nd U++td (o++[x]))),.ow (.lst (nd T.reverse)),.sh (.int (x:Int))]):=by
    rw[Gw.vr0 (l:=nd o) (d:=.int (x:Int)) rfl rfl (by rw[K4];omega),wo0];rfl
   have p3:Z8 (yq0 5 (oA (z7 (oA (z7 (o2 (gv 0) (gv 6) op) v4) M6) v4) ph0)) [.sh W,k,l,.ow (.lst (nd (o++[x]))),.ow (.dct (.inl (kd (U++(o++[x])))) (nd U++td (o++[x]))),.ow (.lst (nd T.reverse)),.sh (.int (x:Int))]=some (.nx (ms W k l U (o++[x]) (adj x++T) (.sh (.int (x:Int))))):=by
    have ev:oA (z7 (oA (z7 (o2 (gv 0) (gv 6) op) v4) M6) v4) ph0 [.sh W,k,l,.ow (.lst (nd (o++[x]))),.ow (.dct (.inl (kd (U++(o++[x])))) (nd U++td (o++[x]))),.ow (.lst (nd T.reverse)),.sh (.int (x:Int))]=some (.lst (nd (adj x).reverse)):=by
     rw[t7 (ds:=[.lst (nd (adj x))]) (cons_of (d:=.lst (nd (adj x))) (by
      rw[t7 (ds:=[d]) (cons_of (d:=d) (by rw[t6 (x:=W) (y:=.int (x:Int)) rfl rfl];exact Z) rfl)];exact a1) rfl)]
     show some (D.lst (nd (adj x)).reverse)=_;rw[Zn0]
    unfold Z8 yq0;rw[ev];show Option.map _ (if (nd T.reverse).length+(nd (adj x).reverse).length<=sizeLine then _ else _)=_;rw[if_pos (by rw[K4,K4,List.length_reverse,List.length_reverse];omega),← wo0,← List.reverse_append];rfl
   have eb:MBo op (ms W k l U o (x::T) s)=some (.nx (ms W k l U (o++[x]) (adj x++T) (.sh (.int (x:Int))))) :=
    v5 (Yp0 s o T x) (v5 (δ':=ms W k l U (o++[x]) (adj x++T) (.sh (.int (x:Int)))) (by
     rw[V4 (by rw[cv0,decide_eq_true J])];exact v5 p1 (v5 p2 (v5 p3 rfl))) rfl)
   unfold X5;rw[jm0,decide_eq_true (by simp)];dsimp only;rw[eb];exact e
end
theorem o50{adj:Nat->List Nat}:∀{c:Nat} {o T r:List Nat},Dfs adj S c o T r->(∀i∈o,∀j∈adj i,j∈o∨j∈S∨j∈T)->(∃s,r=o++s)/\∀i∈r,∀j∈adj i,j∈r∨j∈S:=by
 intro c o T r h
 induction h with
 | nil o =>
  intro H;refine⟨⟨[],(List.append_nil o).symm⟩,λi hi j hj=>?_⟩;rcases H i hi j hj with q|q|q
  ·exact .inl q
  ·exact .inr q
  ·cases q
 | @skip c o T r x hx hd ih =>
  intro H;refine ih λi hi j hj=>?_
  rcases H i hi j hj with q|q|q
  ·exact .inl q
  ·exact .inr (.inl q)
  ·rcases B0.mp q with rfl|q
   ·exact hx.imp id .inl
   ·exact .inr (.inr q)
 | @visit c o T r x hx hxS hz hd ih =>
  intro H;obtain⟨⟨s,e⟩,h2⟩:=ih λi hi j hj=>by
   rcases B4.mp hi with hi|hi
   ·rcases H i hi j hj with q|q|q
    ·exact .inl (D7 _ q)
    ·exact .inr (.inl q)
    ·rcases B0.mp q with rfl|q
     ·exact .inl (by simp)
     ·exact .inr (.inr (C6 _ q))
   ·rw[List.mem_singleton.mp hi] at hj
    exact .inr (.inr (D7 _ hj))
  exact⟨⟨x::s,by rw[e,List.append_assoc];rfl⟩,h2⟩
end K22
namespace Km
open Ja
open DL W K22
open Bw (bs sg cnt kn its tx fold Vb Gp Gq two)
theorem l50{p:Pt}(h:Gq p):p.few/\p.vals.length<=20:=by
 have z:(1000:Nat)<=sizeLine:=by decide
 have hc:=h.cnt;have:p.vals.length<=20:=by
  cases p with
  | text w=>exact C0 _
  | row vs=>exact hc
  | table ps=>show (ps.map (·.2)).length<=20;rw[List.length_map];exact hc
  | rcd c ps=>show (ps.map (·.2)).length<=20;rw[List.length_map];exact hc
 exact⟨C3 this (by omega),this⟩
theorem f80{v:D}(h:Vb v)(L:List Nat)(hl:∀j:Nat,v=lkd j->j∈L):V6 [v,pd (kb L)]=some (lkv (ix L) v):=by
 cases h with
 | non=>kernel_rfl
 | int z _=>exact j9 rfl (v5 (δ':=[.sh (.int z),.sh (pd (kb L))]) (by rw[Z4 (by rfl)];rfl) (p6 rfl))
 | lk j _ =>
  rw[show lkv (ix L) (.tup [.str "at",.int (j:Int)])=lkd (ix L j) from m10 _ _];refine j9 rfl (p6 ?_);rw[V4 (by rfl)];refine p6 (d8 (X7 (cons_of rfl (cons_of (d:=.int (ix L j:Int)) ?_ rfl)) (by show 2<=sizeLine;decide)));rw[t6 (x:=pd (kb L)) (y:=.int (j:Int)) rfl rfl];exact fl0 (hl j rfl)
theorem ro0{d:D}(h:(nd L)[j]?=some d):∃k,L[j]?=some k/\d=.int (k:Int):=by
 unfold nd at h;rw[List.getElem?_map] at h;cases e:L[j]? with
 | none=>rw[e] at h;cases h
 | some k=>rw[e] at h;cases h;exact⟨k,rfl,rfl⟩
theorem ra0(hn:L.Nodup){k:Nat}(h:L[j]?=some k):k∉L.take j:=λz=>by
 obtain⟨i,hi,e⟩:=Al0.mp z;obtain⟨hj,ej⟩:=C4.mp h;rw[List.length_take] at hi;rw[List.getElem_take] at e;exact List.pairwise_iff_getElem.mp hn i j (by omega) hj (by omega) (e.trans ej.symm)
theorem Yf0{v:D}(h:V6 [v,pd (kb L)]=some (lkv (ix L) v)):oA (z7 (gv 0) (z7 (gv 1) v4)) V6 [.sh v,.sh (pd (kb L))]=some (lkv (ix L) v):=by
 rw[t7 (ds:=[v,pd (kb L)]) rfl];exact h
theorem Z60(hv:∀v∈vs,Vb v)(hl:∀i∈tgs vs,i∈L):V3 (gN 0) noT (oA (z7 (gv 0) (z7 (gv 1) v4)) V6) [.un,.sh (pd (kb L))] vs=some (vs.map (lkv (ix L))):=by
 refine G8 (lkv (ix L)) λv h=>⟨[.sh v,.sh (pd (kb L))],rfl,rfl,?_⟩
 have h2:∀j:Nat,v=lkd j->j∈L:=λj e=>by
  subst e;exact hl j (uv0 h)
 exact Yf0 (f80 (hv v h) L h2)
theorem ji0{v:D}(hb:Vb v)(hk:Bw.Lk n v):Lv n v:=by
 cases hb with
 | non=>exact .inl rfl
 | lk j _=>exact .inr (.inr ⟨j,rfl,hk j rfl⟩)
 | int z _=>exact .inr (.inl ⟨z,rfl⟩)
def LG:GE:=b8 1 [] (anyI (gv 1)) (gN 0) (ob (S7 isTup (gv 0))) (o2 (gv 0) (gc (.int 1)) ixD)
theorem jr0{X Y:D}(hv:∀v∈vs,Lv n v)(hl:vs.length<=20)(hY:ik0 Y=some vs):LG [.sh X,.sh Y]=some (.lst (nd (tgs vs))):=by
 have z:(1000:Nat)<=sizeLine:=by decide
 exact Y6 (items:=vs) hY (by omega) (t60 vs hv)
theorem mt0(ps:List (Str×D)):V3 (gN 0) noT (o2 (gv 0) (gc (.int 1)) ixD) [.un] (ps.map pr)=some (ps.map (·.2)):=by
 rw[G8 (λd=>match d with|.tup [_,b]=>b|_=>.non) (λd hd=>by
  obtain⟨q,_,rfl⟩:=B1.mp hd;exact⟨[.sh (pr q)],rfl,rfl,rfl⟩),List.map_map]
 rfl
theorem wk0{p:Pt}(hq:Gq p)(hk:∀v∈p.vals,Bw.Lk n v):U3 [p.d]=some (.lst (nd (tgs p.vals))):=by
 have z:(1000:Nat)<=sizeLine:=by decide
 have hv:∀v∈p.vals,Lv n v:=λv h=>ji0 (hq.vals v h) (hk v h)
 have hl:=(l50 hq).2;cases p with
 | text w=>kernel_rfl
 | row vs =>
  refine Q9 rfl (v5 (δ':=[.sh (Pt.row vs).d,.un]) (by rw[Z4 (by kernel_rfl)];rfl) (v5 (δ':=[.sh (Pt.row vs).d,.sh (.tup vs)]) rfl (v5 (δ':=[.sh (Pt.row vs).d,.sh (.tup vs)]) (by rw[Z4 (by kernel_rfl)];rfl) (R5 (O5 ?_)))));exact jr0 hv hl rfl
 | table ps =>
  have hp:ps.length<=20:=by have:(ps.map (·.2)).length<=20:=hl;rwa [S1] at this
  refine Q9 rfl (v5 (δ':=[.sh (Pt.table ps).d,.un]) (by rw[Z4 (by kernel_rfl)];rfl) (v5 (δ':=[.sh (Pt.table ps).d,.sh (.tup (ps.map pr))]) rfl (v5 (δ':=[.sh (Pt.table ps).d,.sh (.lst (ps.map (·.2)))]) ?_ (R5 (O5 ?_)))))
  ·rw[V4 (by kernel_rfl)]
   exact v5 (o8 (d:=.lst (ps.map λq:Str×D=>q.2)) (Y6 (items:=ps.map pr) rfl (by rw[List.length_map];omega) (mt0 ps))) rfl
  ·exact jr0 hv hl rfl
 | rcd c ps =>
  have hp:ps.length<=20:=by have:(ps.map (·.2)).length<=20:=hl;rwa [S1] at this
  refine Q9 rfl (v5 (δ':=[.sh (Pt.rcd c ps).d,.un]) (by rw[Z4 (by kernel_rfl)];rfl) (v5 (δ':=[.sh (Pt.rcd c ps).d,.sh (.tup (ps.map pr))]) rfl (v5 (δ':=[.sh (Pt.rcd c ps).d,.sh (.lst (ps.map (·.2)))]) ?_ (R5 (O5 ?_)))))
  ·rw[V4 (by kernel_rfl)]
   exact v5 (o8 (d:=.lst (ps.map λq:Str×D=>q.2)) (Y6 (items:=ps.map pr) rfl (by rw[List.length_map];omega) (mt0 ps))) rfl
  ·exact jr0 hv hl rfl
theorem Wb.tg(hw:Wb ps){k:Nat}(hk:k<ps.length):(∀i∈tgs (ps.getD k (.row [])).vals,i<ps.length)/\(tgs (ps.getD k (.row [])).vals).length<=20:=by
 obtain⟨_,w2⟩:=vk0 hk;have hq:=hw.it _ w2;exact⟨h50 (n:=ps.length) λv hv=>ji0 (hq.vals v hv) (hw.lk _ w2 v hv),C3 (ks0 _) (l50 hq).2⟩
theorem cr0(hi:i<ps.length):(ps.map Pt.d).getD i .non=(ps.getD i (.row [])).d:=by simp[List.getD_eq_getElem?_getD,hi]
theorem Wb.good(hw:Wb ps):GoodL (Bw.web ps) ps.length:=⟨hw.len.2,ps.map Pt.d,rfl,by rw[List.length_map],λi hi=>by
 obtain⟨_,w2⟩:=vk0 hi;obtain⟨t1,t2⟩:=hw.tg hi;exact⟨_,by rw[cr0 hi];exact wk0 (hw.it _ w2) (hw.lk _ w2),t2,t1⟩⟩
theorem Wb.adj(hw:Wb ps)(hi:i<ps.length):ya0 (Bw.web ps) i=tgs (ps.getD i (.row [])).vals:=by
 obtain⟨_,w2⟩:=vk0 hi;show (match U3 [(ps.map Pt.d).getD i .non] with|some (.lst vs)=>nn vs|_=>[])=_;rw[cr0 hi,wk0 (hw.it _ w2) (hw.lk _ w2)];exact nh0 _
theorem put3{B:List Nat}{k:Nat}(hB:B.length<=60)(hk:k∉B)(a b c e f g:Sl):T4 (Q3 (z20 (oA (z7 (gv 3) v4) s00))) (putAt 3 (gv 4)) [a,b,c,.ow (pd (kb B)),.sh (.int (k:Int)),e,f,g]=some (.nx [a,b,c,.ow (pd (kb (B++[k]))),.sh (.int (k:Int)),e,f,g]):=by
 have zs:(1000000:Nat)<=sizeLine:=by decide
 show Option.map Res.nx (if (kb B).length<sizeLine then some ([a,b,c,.ow (.dct (.inl (Q0 (kb B) (.inl (k:Int)))) (M3 (kb B) (nd (List.range (kb B).length)) (.inl (k:Int)) (.int ((kb B).length:Int)))),.sh (.int (k:Int)),e,f,g]:Ds) else none)=_;rw[if_pos (by rw[rz0];omega),mx0 (λz=>hk ((kb_mem B k).mp z))];unfold kb;rw[List.map_append];rfl
def N3:GS:=(v6 (T4 (Q3 (z20 (oA (z7 (gv 3) v4) s00))) (putAt 3 (gv 4)))
 u6)
theorem Ws0(a b c e f g s:Sl)(L:List Nat)(hn:L.Nodup)(hl:L.length<=60):∃s',S8 (gN 4) N3 (nd L) [a,b,c,.ow (.dct (.inl []) []),s,e,f,g]=some (.nx [a,b,c,.ow (pd (kb L)),s',e,f,g]):=by
 obtain⟨δ',l1,l2⟩:=S6 (f:=gN 4) (G:=N3) (λi δ=>∃s:Sl,δ=[a,b,c,.ow (pd (kb (L.take i))),s,e,f,g]) (nd L) 0 [a,b,c,.ow (.dct (.inl []) []),s,e,f,g] (by
  rintro j d δ hj ⟨s,rfl⟩;obtain⟨k,hk,rfl⟩:=ro0 hj;rw[Nat.zero_add];have e1:L.take (j+1)=L.take j++[k]:=by rw[List.take_succ,hk];rfl
  refine⟨_,_,rfl,v5 (put3 (by rw[List.length_take];omega) (ra0 hn hk) _ _ _ _ _ _) rfl,.sh (.int (k:Int)),by rw[e1]⟩) ⟨s,rfl⟩
 obtain⟨s',rfl⟩:=l2;rw[K4,Nat.zero_add,List.take_length] at l1;exact⟨s',l1⟩
def R1:GS:=(v6 (o9 (gN 6) (Y4 (z7 (gc (.str "row")) (z7 (oA (z7 (b8 1 [3] (tupI (o2 (gv 6) (gc (.int 1)) ixD)) (gN 0) noT (oA (z7 (gv 0) (z7 (gv 1) v4)) V6)) v4) S9) v4))))
 u6)
def R2:GS:=(v6 (o9 (gN 7) (b8 2 [3] (tupI (o2 (gv 6) (unG J5 (gc (.int 1))) ixD)) (yu0 0 1) noT (Y4 (z7 (gv 0) (z7 (oA (z7 (gv 1) (z7 (gv 2) v4)) V6) v4)))))
 (v6 (o9 (gN 6) (o2 (y90 (gv 6) J3 (someO (unG J5 (gc (.int 1))))) (Y4 (z7 (oA (z7 (gv 7) v4) S9) v4)) o5))
 u6))
def R3:GS:=(v6 (ifD (ob (o2 (o2 (gv 6) (gc (.int 0)) ixD) (gc (.str "text")) neD)) R2 u6) u6)
def R4:GS:=(ifD (ob (o2 (o2 (gv 6) (gc (.int 0)) ixD) (gc (.str "row")) eqD)) R1 R3)
theorem kg0{ps:List (Str×D)}(hv:∀v∈ps.map (·.2),Vb v)(hl:∀i∈tgs (ps.map (·.2)),i∈L):V3 (yu0 0 1) noT (Y4 (z7 (gv 0) (z7 (oA (z7 (gv 1) (z7 (gv 2) v4)) V6) v4))) [.un,.un,.sh (pd (kb L))] (ps.map pr)=some ((ps.map λq:Str×D=>(q.1,lkv (ix L) q.2)).map pr):=by
 have z:(2:Nat)<=sizeLine:=by decide
 rw[G8 (λd=>match d with|.tup [a,b]=>.tup [a,lkv (ix L) b]|_=>.non) (λd hd=>by
  obtain⟨q,hq,rfl⟩:=B1.mp hd;have hm:q.2∈ps.map (·.2):=B1.mpr ⟨q,hq,rfl⟩;refine⟨[.sh (.str q.1),.sh q.2,.sh (pd (kb L))],rfl,rfl,X7 (cons_of rfl (cons_of (d:=lkv (ix L) q.2) ?_ rfl)) z⟩;rw[t7 (ds:=[q.2,pd (kb L)]) rfl];exact f80 (hv _ hm) L λj e=>hl j (uv0 (by rw[e] at hm;exact hm))),List.map_map,List.map_map]
 rfl
theorem V70{p:Pt}(hq:Gq p)(hl:∀i∈tgs p.vals,i∈L)(a b c d e s7:Sl):∃s7',R4 [a,b,c,.sh (pd (kb L)),d,e,.sh p.d,s7]=some (.nx [a,b,c,.sh (pd (kb L)),d,e,.sh (rel (ix L) p).d,s7']):=by
 have z:(1000:Nat)<=sizeLine:=by decide
 have hv:=hq.vals;have J:=(l50 hq).2;cases p with
 | text w =>
  refine⟨s7,?_⟩;show ifD _ _ _ [a,b,c,.sh (pd (kb L)),d,e,.sh (Pt.text w).d,s7]=_;rw[Z4 (by kernel_rfl)];refine v5 (δ':=[a,b,c,.sh (pd (kb L)),d,e,.sh (Pt.text w).d,s7]) ?_ rfl;rw[Z4 (by kernel_rfl)];rfl
 | row vs =>
  refine⟨s7,?_⟩;show ifD _ _ _ [a,b,c,.sh (pd (kb L)),d,e,.sh (Pt.row vs).d,s7]=_;rw[V4 (by kernel_rfl)];have J:vs.length<=20:=J;refine v5 (o8 (d:=(rel (ix L) (.row vs)).d) (X7 (cons_of rfl (cons_of (d:=.tup (vs.map (lkv (ix L)))) ?_ rfl)) (by show 2<=sizeLine;omega))) rfl;rw[t7 (ds:=[.lst (vs.map (lkv (ix L)))]) (cons_of (Y6 (items:=vs) rfl (by omega) (Z60 hv hl)) rfl)];rfl
 | table ps =>
  have hp:ps.length<=20:=by have:(ps.map (·.2)).length<=20:=J;rwa [S1] at this
  have er:rel (ix L) (.table ps)=.table (ps.map λq:Str×D=>(q.1,lkv (ix L) q.2)):=D4 Pt.table (vp0 (lkv (ix L)) ps);rw[er];refine⟨.sh (.lst ((ps.map λq:Str×D=>(q.1,lkv (ix L) q.2)).map pr)),?_⟩;show ifD _ _ _ [a,b,c,.sh (pd (kb L)),d,e,.sh (Pt.table ps).d,s7]=_;rw[Z4 (by kernel_rfl)];refine v5 (δ':=[a,b,c,.sh (pd (kb L)),d,e,.sh (Pt.table (ps.map λq:Str×D=>(q.1,lkv (ix L) q.2))).d,.sh (.lst ((ps.map λq:Str×D=>(q.1,lkv (ix L) q.2)).map pr))]) ?_ rfl;rw[V4 (by kernel_rfl)];refine v5 (o8 (d:=.lst ((ps.map λq:Str×D=>(q.1,lkv (ix L) q.2)).map pr)) (Y6 (items:=ps.map pr) rfl (by rw[List.length_map];omega) (kg0 hv hl))) (v5 (o8 ?_) rfl);rw[t6 (x:=.tup [.str "table"]) (y:=.tup [.tup ((ps.map λq:Str×D=>(q.1,lkv (ix L) q.2)).map pr)]) rfl (X7 (cons_of rfl rfl) (by show 1<=sizeLine;omega))];rfl
 | rcd cl ps =>
  have hp:ps.length<=20:=by have:(ps.map (·.2)).length<=20:=J;rwa [S1] at this
  have er:rel (ix L) (.rcd cl ps)=.rcd cl (ps.map λq:Str×D=>(q.1,lkv (ix L) q.2)):=D4 (Pt.rcd cl) (vp0 (lkv (ix L)) ps);rw[er];refine⟨.sh (.lst ((ps.map λq:Str×D=>(q.1,lkv (ix L) q.2)).map pr)),?_⟩;show ifD _ _ _ [a,b,c,.sh (pd (kb L)),d,e,.sh (Pt.rcd cl ps).d,s7]=_;rw[Z4 (by kernel_rfl)];refine v5 (δ':=[a,b,c,.sh (pd (kb L)),d,e,.sh (Pt.rcd cl (ps.map λq:Str×D=>(q.1,lkv (ix L) q.2))).d,.sh (.lst ((ps.map λq:Str×D=>(q.1,lkv (ix L) q.2)).map pr))]) ?_ rfl;rw[V4 (by kernel_rfl)];refine v5 (o8 (d:=.lst ((ps.map λq:Str×D=>(q.1,lkv (ix L) q.2)).map pr)) (Y6 (items:=ps.map pr) rfl (by rw[List.length_map];omega) (kg0 hv hl))) (v5 (o8 ?_) rfl);rw[t6 (x:=.tup [.str "record",.str cl]) (y:=.tup [.tup ((ps.map λq:Str×D=>(q.1,lkv (ix L) q.2)).map pr)]) rfl (X7 (cons_of rfl rfl) (by show 1<=sizeLine;omega))];rfl
def DR:GS:=(v6 (o9 (gN 6) (o2 (gv 0) (gv 4) ixD))
 (v6 R4
 (v6 (Z8 (G4 5 (gv 6)))
 u6)))
theorem db0(hw:Wb ps){a:Nat}(b2:L.Nodup)(hL:∀k∈L,k<ps.length)(hc:∀k∈L,∀i∈tgs (ps.getD k (.row [])).vals,i∈L)(hcome:Y5 [Bw.web ps,.int (a:Int),.lst []]=some (nd L)):M8 [Bw.web ps,.int (a:Int)]=some (Bw.web (laid ps L)):=by
 have zs:(9000:Nat)<=sizeLine:=by decide
 have a1:=hw.len;have Y:L.length<=60:=by
  have:=sub_len b2 (m:=List.range ps.length) λy hy=>B8.mpr (hL y hy)
  rw[List.length_range] at this;omega
 obtain⟨s4,l2⟩:=Ws0 (.sh (Bw.web ps)) (.sh (.int (a:Int))) (.sh (.lst (nd L))) .un .un .un .un L b2 Y;obtain⟨δ',l3,l4⟩:=S6 (f:=gN 4) (G:=DR) (λi δ=>∃s s6 s7:Sl,δ=[.sh (Bw.web ps),.sh (.int (a:Int)),.sh (.lst (nd L)),.sh (pd (kb L)),s,.ow (.lst ((L.take i).map λk=>(rel (ix L) (ps.getD k (.row []))).d)),s6,s7]) (nd L) 0 [.sh (Bw.web ps),.sh (.int (a:Int)),.sh (.lst (nd L)),.sh (pd (kb L)),s4,.ow (.lst []),.un,.un] (by
  rintro j d δ hj ⟨s,s6,s7,rfl⟩;obtain⟨k,hk,rfl⟩:=ro0 hj;have O:=D5 hk;rw[Nat.zero_add];obtain⟨w1,w2⟩:=vk0 (hL k O);have hq:=hw.it _ w2;have J:=hc k O;have e1:(L.take (j+1)).map (λk=>(rel (ix L) (ps.getD k (.row []))).d)=(L.take j).map (λk=>(rel (ix L) (ps.getD k (.row []))).d)++[(rel (ix L) (ps.getD k (.row []))).d]:=by rw[List.take_succ,hk,List.map_append];rfl
  generalize ps.getD k (.row [])=p at w1 w2 hq J e1;obtain⟨Z,hr⟩:=V70 hq J (.sh (Bw.web ps)) (.sh (.int (a:Int))) (.sh (.lst (nd L))) (.sh (.int (k:Int))) (.ow (.lst ((L.take j).map λk=>(rel (ix L) (ps.getD k (.row []))).d))) s7;refine⟨[.sh (Bw.web ps),.sh (.int (a:Int)),.sh (.lst (nd L)),.sh (pd (kb L)),.sh (.int (k:Int)),.ow (.lst ((L.take j).map λk=>(rel (ix L) (ps.getD k (.row []))).d)),s6,s7],_,rfl,v5 (o8 (d:=p.d) ?_) (v5 hr (v5 (Gw.vr0 (l:=(L.take j).map λk=>(rel (ix L) (ps.getD k (.row []))).d) (d:=(rel (ix L) p).d) rfl rfl (by rw[List.length_map,List.length_take];omega)) rfl)),.sh (.int (k:Int)),.sh (rel (ix L) p).d,Z,by rw[e1];rfl⟩;rw[t6 (x:=Bw.web ps) (y:=.int (k:Int)) rfl rfl];exact w1) ⟨s4,.un,.un,rfl⟩
 obtain⟨s,s6,s7,rfl⟩:=l4;rw[K4,Nat.zero_add,List.take_length] at l3;refine j9 rfl (v5 (δ':=[.sh (Bw.web ps),.sh (.int (a:Int)),.ow (.lst []),.un,.un,.un,.un,.un]) rfl (v5 (δ':=[.sh (Bw.web ps),.sh (.int (a:Int)),.ow (.lst (nd L)),.un,.un,.un,.un,.un]) ?_ (v5 (δ':=[.sh (Bw.web ps),.sh (.int (a:Int)),.sh (.lst (nd L)),.ow (.dct (.inl []) []),.un,.un,.un,.un]) rfl (v5 (Q4 (items:=nd L) rfl l2) (v5 (δ':=[.sh (Bw.web ps),.sh (.int (a:Int)),.sh (.lst (nd L)),.sh (pd (kb L)),s4,.ow (.lst []),.un,.un]) rfl (v5 (Q4 (items:=nd L) rfl l3) (p6 (d8 ?_))))))))
 ·unfold y40
  show Option.map _ (Y5 [Bw.web ps,.int (a:Int),.lst []])=_;rw[hcome];rfl
 ·show oA (z7 (gv 5) v4) S9 [.sh (Bw.web ps),.sh (.int (a:Int)),.sh (.lst (nd L)),.sh (pd (kb L)),s,.sh (.lst (L.map λk=>(rel (ix L) (ps.getD k (.row []))).d)),zu0 s6,zu0 s7]=_
  rw[t7 (ds:=[.lst (L.map λk=>(rel (ix L) (ps.getD k (.row []))).d)]) rfl];show some (D.tup _)=some (D.tup ((L.map λk=>rel (ix L) (ps.getD k (.row []))).map Pt.d));rw[List.map_map];rfl
end Km
namespace Ia
open Ja
open DL W
def y70:GZ:=(U6 (okZ (o9 (gN 2) (oA (z7 (gv 0) (z7 (gc (.int 0)) v4)) W2)))
 (U6 (ifZ (w50 (ob (o2 (gv 1) (gc (.int 0)) ltD)) (ob (o2 (gv 1) (o2 (gv 2) (gc (.int 0)) ixD) geD)))
 (U6 (mj0 "NoPlace")
 ui0)
 ui0)
 (U6 (okZ (o9 (gN 3) (o2 (gv 2) (gc (.int 1)) ixD)))
 (U6 (okZ (N5 4 (Z6 v4)))
 (U6 (okZ (X5 (ob (o2 (z20 (oA (z7 (gv 4) v4) Z5)) (o2 (gv 2) (gc (.int 0)) ixD) ltD))
 (v6 (o9 (gN 5) (oA (z7 (gv 0) (z7 (gv 3) v4)) W2))
 (v6 (Z8 (G4 4 (o2 (gv 5) (gc (.int 0)) ixD)))
 (v6 (o9 (gN 3) (o2 (gv 5) (gc (.int 1)) ixD))
 u6))) 100000))
 (U6 (okZ (uc0 4 (N5 6 (Z6 v4))))
 (U6 (okZ (M4 (O9 (gv 4)) (gN 5)
 (v6 (Z8 (G4 6 (gv 3)))
 (v6 (sz0 3 (gv 5))
 u6))))
 (U6 (okZ (j7 (u40 (gv 6))))
 ui0))))))))
def y30:List Str:=["look", "k", "count", "place", "sizes", "size", "starts"]
def X8:List D->Option DX:=mkX 2 y30 y70
end Ia
namespace Ia
open Ja
open DL W
open Bw (bs hi dg sw0 iz0 O8)
def Tel(F:D)(a:Nat)(l:List Int):Prop:=∀i (h:i<l.length),z60 F (.int ((a+i:Nat):Int))=some (.int l[i])
theorem Tel.left{a:Nat}{m:List Int}(h:Tel F a (l++m)):Tel F a l:=λi hi=>by
 have:=h i (by rw[List.length_append];omega)
 rwa [List.getElem_append_left hi] at this
theorem Tel.right{a:Nat}{m:List Int}(h:Tel F a (l++m)):Tel F (a+l.length) m:=λi hi=>by
 have:=h (l.length+i) (by rw[List.length_append];omega);rw[List.getElem_append_right (by omega)] at this;rw[show a+l.length+i=a+(l.length+i) from by omega,this];simp
theorem Tel.head{a:Nat}{x:Int}(h:Tel F a (x::l)):z60 F (.int (a:Int))=some (.int x):=h 0 (by simp)
theorem Tel.tail{a:Nat}{x:Int}(h:Tel F a (x::l)):Tel F (a+1) l:=Tel.right (l:=[x]) h
def NT:GB:=(ob (o2 (gv 3) (gc (.int 128)) geD))
def NB':GS:=(v6 (o9 (gN 2) (o2 (o2 (o2 (gv 2) (gc (.int 128)) R0) (gv 3) o5) (gc (.int 128)) xj0))
 (v6 (sz0 1 (gc (.int 1)))
 (v6 (o9 (gN 3) (o2 (gv 0) (gv 1) z60))
 u6)))
theorem nt(F:Sl)(a:Sl)(b:Sl)(z:Int):NT [F,a,b,.sh (.int z)]=some (decide (128<=z)):=O8 rfl
def val(m:Nat)(l:List Nat):Nat:=l.foldl (λm d=>m*128+d) m
def dgs(l:List Nat)(x:Nat):List Int:=l.map (λd=>((128+d:Nat):Int))++[(x:Int)]
theorem ah0(F:D)(d m a:Nat)(y':Int)(hcall:z60 F (.int ((a:Int)+1))=some (.int y')):NB' [.sh F,.sh (.int (a:Int)),.sh (.int (m:Int)),.sh (.int ((128+d:Nat):Int))]=some (.nx [.sh F,.sh (.int ((a+1:Nat):Int)),.sh (.int ((m*128+d:Nat):Int)),.sh (.int y')]):=by
 have e1:o2 (o2 (o2 (gv 2) (gc (.int 128)) R0) (gv 3) o5) (gc (.int 128)) xj0 [.sh F,.sh (.int (a:Int)),.sh (.int (m:Int)),.sh (.int ((128+d:Nat):Int))]=some (.int ((m*128+d:Nat):Int)):=by
  rw[t6 (x:=.int ((m:Int)*128+((128+d:Nat):Int))) (y:=.int 128) (by
   rw[t6 (x:=.int ((m:Int)*128)) (y:=.int ((128+d:Nat):Int)) (by
    rw[t6 (x:=.int (m:Int)) (y:=.int 128) rfl rfl];simp only[R0];rw[if_pos (.inr (by decide))]) rfl]
   rfl) rfl]
  show some (D.int ((m:Int)*128+((128+d:Nat):Int) - 128))=_;rw[show (m:Int)*128+((128+d:Nat):Int) - 128=((m*128+d:Nat):Int) by omega]
 refine v5 (o8 e1) (v5 (δ':=[.sh F,.sh (.int ((a:Int)+1)),.sh (.int ((m*128+d:Nat):Int)),.sh (.int ((128+d:Nat):Int))]) rfl (v5 (o8 (d:=.int y') ?_) ?_))
 ·rw[t6 (x:=F) (y:=.int ((a:Int)+1)) rfl rfl]
  exact hcall
 ·rw[show (a:Int)+1=((a+1:Nat):Int) by omega]
  rfl
def qu0(l:List Nat)(x:Nat):Int:=match l with
 | []=>(x:Int)
 | d::_=>((128+d:Nat):Int)
theorem kf0(l:List Nat)(x:Nat):∃r,dgs l x=qu0 l x::r:=by
 cases l with
 | nil=>exact⟨[],rfl⟩
 | cons d l=>exact⟨dgs l x,rfl⟩
theorem p70{gt:GB}{G:GS}{f:Nat}(h:gt δ=some false):X5 gt G (f+1) δ=some (.nx δ):=by
 unfold X5;rw[h]
theorem s50{gt:GB}{G:GS}{f:Nat}(h:gt δ=some true)(hb:G δ=some (.nx δ')):X5 gt G (f+1) δ=X5 gt G f δ':=by
 conv=>lhs;unfold X5
 rw[h];simp only[hb]
theorem go(F:D)(x:Nat)(hx:x<128):∀(l:List Nat) (m a:Nat) (f:Nat),l.length<f->Tel F a (dgs l x) ->
  X5 NT NB' f [.sh F,.sh (.int (a:Int)),.sh (.int (m:Int)),.sh (.int (qu0 l x))]=some (.nx [.sh F,.sh (.int ((a+l.length:Nat):Int)),.sh (.int (val m l:Int)),.sh (.int (x:Int))]):=by
 intro l
 induction l with
 | nil =>
  intro m a f hf ht;cases f with
  | zero=>exact absurd hf (Q2 _)
  | succ f =>
   have t:NT [.sh F,.sh (.int (a:Int)),.sh (.int (m:Int)),.sh (.int (x:Int))]=some false:=by
    rw[nt,decide_eq_false (by omega)]
   exact p70 t
 | cons d l ih =>
  intro m a f hf ht;cases f with
  | zero=>exact absurd hf (Q2 _)
  | succ f =>
   have O:Tel F (a+1) (dgs l x):=by
    have e:dgs (d::l) x=qu0 (d::l) x::dgs l x:=rfl;rw[e] at ht;exact ht.tail
   obtain⟨r,hr⟩:=kf0 l x;have J:z60 F (.int ((a:Int)+1))=some (.int (qu0 l x)):=by
    have h2:=O;rw[hr] at h2;have h3:=h2.head;rw[show (((a+1:Nat)):Int)=(a:Int)+1 by omega] at h3;exact h3
   have t:NT [.sh F,.sh (.int (a:Int)),.sh (.int (m:Int)),.sh (.int ((128+d:Nat):Int))]=some true:=by
    rw[nt,decide_eq_true (by omega)]
   have h1:=ih (m*128+d) (a+1) f (by rw[List.length_cons] at hf;omega) O;have h2:=(s50 (f:=f) t (ah0 F d m a _ J)).trans h1;rw[show a+1+l.length=a+(d::l).length by rw[List.length_cons];omega] at h2;exact h2
theorem Wf0:∀(k r:Nat),r<2 ^ k->∃l:List Nat,(∀d∈l,d<128)/\hi r=l.map (λd=>((128+d:Nat):Int))/\val 0 l=r/\l.length<=k:=by
 intro k
 induction k with
 | zero =>
  intro r h;have:r=0:=by simpa using h
  subst this;exact⟨[],λd hd=>(by cases hd),sw0,rfl,A1 _⟩
 | succ k ih =>
  intro r h
  by_cases h0:r=0
  ·subst h0
   exact⟨[],λd hd=>(by cases hd),sw0,rfl,C0 _⟩
  ·have:2 ^ (k+1)=2 ^ k*2:=n5 2 k
   obtain⟨l,h1,h2,h3,h4⟩:=ih (r/128) (by omega);refine⟨l++[r%128],λd hd=>?_,?_,?_,by simp;omega⟩
   ·rcases B4.mp hd with q|q
    ·exact h1 d q
    ·rw[List.mem_singleton.mp q];omega
   ·rw[iz0 r h0,h2,List.map_append]
    rfl
   ·unfold val at h3 ⊢
    rw[List.foldl_append,h3];show r/128*128+r%128=r;omega
theorem t50{a:Nat}(hn:n<2 ^ 300)(h:Tel F a (bs n)):W2 [F,.int (a:Int)]=some (.tup [.int (n:Int),.int ((a+(bs n).length:Nat):Int)]):=by
 have z:(1000:Nat)<=sizeLine:=by decide
 obtain⟨l,h1,h2,h3,h4⟩:=Wf0 300 (n/128) (by omega);have e:bs n=dgs l (n%128):=by unfold Bw.bs dgs;rw[h2]
 rw[e] at h;obtain⟨r,hr⟩:=kf0 l (n%128);have hc:z60 F (.int (a:Int))=some (.int (qu0 l (n%128))):=by
  have h2:=h;rw[hr] at h2;exact h2.head
 have hl:(bs n).length=l.length+1:=by rw[e];unfold dgs;simp
 refine j9 rfl (v5 (o8 (d:=.int 0) rfl) (v5 (o8 (d:=.int (qu0 l (n%128))) ?_) (v5 (δ':=[.sh F,.sh (.int ((a+l.length:Nat):Int)),.sh (.int (val 0 l:Int)),.sh (.int ((n%128:Nat):Int))]) ?_ (p6 (d8 ?_)))))
 ·rw[t6 (x:=F) (y:=.int (a:Int)) rfl rfl]
  exact hc
 ·exact go F (n%128) (by omega) l 0 a 100000 (by omega) h
 ·refine X7 (cons_of (d:=.int (n:Int)) ?_ (cons_of (d:=.int ((a+(bs n).length:Nat):Int)) ?_ rfl)) (by show 2<=sizeLine;omega)
  ·rw[t6 (x:=.int ((val 0 l:Int)*128)) (y:=.int ((n%128:Nat):Int)) (by
    rw[t6 (x:=.int (val 0 l:Int)) (y:=.int 128) rfl rfl];simp only[R0];rw[if_pos (.inr (by decide))]) rfl,h3]
   show some (D.int (((n/128:Nat):Int)*128+((n%128:Nat):Int)))=_;rw[show ((n/128:Nat):Int)*128+((n%128:Nat):Int)=(n:Int) by omega]
  ·show some (D.int (((a+l.length:Nat):Int)+1))=_
   rw[hl,show ((a+l.length:Nat):Int)+1=((a+(l.length+1):Nat):Int) by omega]
end Ia
namespace Ia
open Ja
open DL W
section
variable[DecidableEq κ]
theorem ls0(k0 k:κ)(ks:List κ):R6 (k0::ks) k=(decide (k0=k)||R6 ks k):=rfl
theorem get_map(q k:κ)(v:D):∀(ks:List κ) (ds:List D),ks.length=ds.length->T6 ks ((ks.zip ds).map λp=>if p.1=k then v else p.2) q=if q=k then (if R6 ks k=true then some v else none) else T6 ks ds q
 | [],[],_=>by unfold T6 R6;simp
 | k0::ks,d::ds,h=>by
  have ih:=get_map q k v ks ds (by simpa using h);rw[List.zip_cons_cons,List.map_cons,ls0];unfold T6
  by_cases h1:k0=q
  ·subst h1
   by_cases h2:k0=k
   ·subst h2;simp
   ·simp[h2]
  ·rw[if_neg h1,if_neg h1,ih]
   by_cases h3:q=k
   ·subst h3;simp[h1]
   ·simp[h3]
theorem mk0(q k:κ)(v:D):∀(ks:List κ) (ds:List D),ks.length=ds.length->R6 ks k=false->T6 (ks++[k]) (ds++[v]) q=if q=k then some v else T6 ks ds q
 | [],[],_,_=>by
  show (if k=q then some v else none)=if q=k then some v else none
  by_cases h:k=q
  ·rw[if_pos h,if_pos h.symm]
  ·rw[if_neg h,if_neg λz=>h z.symm]
 | k0::ks,d::ds,h,hh=>by
  rw[ls0,Bool.or_eq_false_iff] at hh;have h0:k0≠k:=of_decide_eq_false hh.1;have ih:=mk0 q k v ks ds (by simpa using h) hh.2;rw[List.cons_append,List.cons_append];unfold T6
  by_cases h1:k0=q
  ·rw[if_pos h1,if_pos h1,if_neg (λz=>h0 (h1.trans z))]
  ·rw[if_neg h1,if_neg h1,ih]
theorem Zd0(q k:κ)(v:D)(ks:List κ)(ds:List D)(h:ks.length=ds.length):T6 (Q0 ks k) (M3 ks ds k v) q=if q=k then some v else T6 ks ds q:=by
 unfold Q0 M3;cases hh:R6 ks k with
 | true =>
  rw[if_pos rfl,if_pos rfl,get_map q k v ks ds h,hh,if_pos rfl]
 | false =>
  rw[if_neg (by simp),if_neg (by simp)];exact mk0 q k v ks ds h hh
theorem ax0(k:κ)(v:D)(ks:List κ)(ds:List D)(h:ks.length=ds.length):(Q0 ks k).length=(M3 ks ds k v).length/\(Q0 ks k).length<=ks.length+1:=by
 unfold Q0 M3;cases hh:R6 ks k with
 | true=>simp[h]
 | false=>simp[h]
end
def LB:GS:=(v6 (T4 (Q3 (o2 (gv 0) (gv 5) ixD)) (putAt 2 (gv 5)))
 u6)
def Cov(T:List D)(ks:List T7)(ds:List D)(P:Nat->Prop):Prop:=∀i,P i->T6 ks ds (.inl (i:Int))=some (T.getD i .non)
theorem Wz0(T:List D)(S s3 s4:Sl){P:Nat->Prop}(h:ks.length=ds.length)(hc:Cov T ks ds P)(hl:ks.length<sizeLine)(hj:j<T.length) :
  ∃ks' ds',LB [.sh (.lst T),S,.ow (.dct (.inl ks) ds),s3,s4,.sh (.int (j:Int))]=some (.nx [.sh (.lst T),S,.ow (.dct (.inl ks') ds'),s3,s4,.sh (.int (j:Int))])/\ks'.length=ds'.length/\ks'.length<=ks.length+1/\Cov T ks' ds' (λi=>P i∨i=j):=by
 obtain⟨l1,l2⟩:=ax0 (.inl (j:Int):T7) (T.getD j .non) ks ds h;refine⟨_,_,v5 (δ':=[.sh (.lst T),S,.ow (.dct (.inl (Q0 ks (.inl (j:Int)))) (M3 ks ds (.inl (j:Int)) (T.getD j .non))),s3,s4,.sh (.int (j:Int))]) ?_ rfl,l1,l2,λi hi=>?_⟩
 ·have e:o2 (gv 0) (gv 5) ixD [.sh (.lst T),S,.ow (.dct (.inl ks) ds),s3,s4,.sh (.int (j:Int))]=some (T.getD j .non):=by
   rw[t6 (x:=.lst T) (y:=.int (j:Int)) rfl rfl];show atI T (j:Int)=_;rw[zk0 (by omega) (by omega) .non,Int.toNat_natCast]
  unfold T4 Q3;rw[e];show Option.map Res.nx (Option.bind (some (ks,ds)) λr=>Option.bind (some (D.int (j:Int))) λd=>Option.bind (zd0 d) λk=>if r.1.length<sizeLine then some _ else none)=_;simp only[Option.bind_some,zd0];rw[if_pos hl];rfl
 ·rw[Zd0 _ _ _ _ _ h]
  by_cases hij:i=j
  ·subst hij
   rw[if_pos rfl]
  ·rw[if_neg (λz=>hij (by injection z with z;omega))]
   exact hc i (hi.resolve_right hij)
theorem h00(T:List D)(S s3 s4 s5:Sl){P:Nat->Prop}(h:ks.length=ds.length)(hc:Cov T ks ds P){lo hi:Nat}(hlo:lo<=hi)(hh:hi<=T.length)(hl:ks.length+(hi - lo)<sizeLine) :
  ∃ks' ds' s5',S8 (gN 5) LB (V8 (lo:Int) (hi:Int)) [.sh (.lst T),S,.ow (.dct (.inl ks) ds),s3,s4,s5]=some (.nx [.sh (.lst T),S,.ow (.dct (.inl ks') ds'),s3,s4,s5'])/\ks'.length=ds'.length/\ks'.length<=ks.length+(hi - lo)/\Cov T ks' ds' (λi=>P i∨(lo<=i/\i<hi)):=by
 have hn:(V8 (lo:Int) (hi:Int)).length=hi - lo:=by unfold V8;rw[List.length_map,List.length_range];omega
 obtain⟨δ',l1,ks',ds',s5',rfl,a1,a2,a3⟩:=S6 (f:=gN 5) (G:=LB) (λj δ=>∃ks' ds' s5',δ=[.sh (.lst T),S,.ow (.dct (.inl ks') ds'),s3,s4,s5']/\ks'.length=ds'.length/\ks'.length<=ks.length+j/\Cov T ks' ds' (λi=>P i∨(lo<=i/\i<lo+j))) (V8 (lo:Int) (hi:Int)) 0 [.sh (.lst T),S,.ow (.dct (.inl ks) ds),s3,s4,s5] (by
  rintro j d δ hj ⟨ks',ds',s5',rfl,a1,a2,a3⟩;rw[Nat.zero_add] at a2 a3 ⊢;have J:j<hi - lo:=by have:=(C4.mp hj).1;omega
  have ed:d=.int ((lo+j:Nat):Int):=by
   unfold V8 at hj;rw[List.getElem?_map,List.getElem?_range (by omega)] at hj;cases hj;show D.int ((lo:Int)+(j:Int))=_;rw[show (lo:Int)+(j:Int)=((lo+j:Nat):Int) by omega]
  subst ed;obtain⟨k2,d2,b1,b2,b3,b4⟩:=Wz0 T S s3 s4 a1 a3 (by omega) (j:=lo+j) (by omega);exact⟨_,_,rfl,b1,k2,d2,_,rfl,b2,by omega,λi hi=>b4 i (by
   rcases hi with z|⟨z1,z2⟩
   ·exact .inl (.inl z)
   ·by_cases e:i=lo+j
    ·exact .inr e
    ·exact .inl (.inr ⟨z1,by omega⟩))⟩) ⟨ks,ds,s5,rfl,h,A1 _,λi hi=>hc i (hi.resolve_right λz=>by omega)⟩
 rw[Nat.zero_add,hn] at a2 a3;exact⟨ks',ds',s5',l1,a1,a2,λi hi=>a3 i (hi.imp id λz=>⟨z.1,by omega⟩)⟩
theorem ng0{gA:GA}(h:gA δ=some [.int (i:Int),.int (j:Int)])(h1:i<=2000000)(h2:j<=2000000):ug0 gA δ=some (V8 (i:Int) (j:Int)):=by
 unfold ug0;rw[h,Option.bind_some];have c:(2000000:Int)<2 ^ 62:=by decide
 have c0:-(2 ^ 62)<=(0:Int):=by decide
 have a1:(i:Int)<=2000000:=by omega
 have a2:(j:Int)<=2000000:=by omega
 have b1:-(2 ^ 62)<=(i:Int)/\(i:Int)<2 ^ 62:=⟨Int.le_trans c0 (o0 i),p9 a1 c⟩;have b2:-(2 ^ 62)<=(j:Int)/\(j:Int)<2 ^ 62:=⟨Int.le_trans c0 (o0 j),p9 a2 c⟩;simp only[ia0];rw[if_pos ⟨b1,b2⟩]
def spn(p:Nat×Nat):D:=.tup [.int (p.1:Int),.int (p.2:Int)]
def LO:GS:=(v6 (M4 (ug0 (z7 (gv 3) (z7 (gv 4) v4))) (gN 5) LB)
 u6)
theorem Zg0(T:List D)(sp:List (Nat×Nat))(hT:T.length<=2000000)(hs:sp.length<=3)(h:∀p∈sp,p.1<=p.2/\p.2<=T.length):∃ks ds,U5 [.lst T,.lst (sp.map spn)]=some (.fn ks ds)/\∀p∈sp,∀i,p.1<=i->i<p.2->T6 ks ds (.inl (i:Int))=some (T.getD i .non):=by
 have z:(10000000:Nat)<=sizeLine:=by decide
 obtain⟨δ',l1,ks,ds,s3,s4,s5,rfl,a1,a2,a3⟩:=S6 (f:=yu0 3 4) (G:=LO) (λj δ=>∃ks ds s3 s4 s5,δ=[.sh (.lst T),.sh (.lst (sp.map spn)),.ow (.dct (.inl ks) ds),s3,s4,s5]/\ks.length=ds.length/\ks.length<=2000000*j/\Cov T ks ds (λi=>∃p∈sp.take j,p.1<=i/\i<p.2)) (sp.map spn) 0 [.sh (.lst T),.sh (.lst (sp.map spn)),.ow (.dct (.inl []) []),.un,.un,.un] (by
  rintro j d δ hj ⟨ks,ds,s3,s4,s5,rfl,a1,a2,a3⟩;rw[Nat.zero_add] at a2 a3 ⊢;rw[List.getElem?_map] at hj;obtain⟨p,hp,rfl⟩:=E6.mp hj;have O:=(C4.mp hp).1;obtain⟨q1,q2⟩:=h p (D5 hp);obtain⟨k2,d2,J,b1,b2,b3,b4⟩:=h00 T (.sh (.lst (sp.map spn))) (.sh (.int (p.1:Int))) (.sh (.int (p.2:Int))) s5 a1 a3 q1 q2 (by omega);refine⟨[.sh (.lst T),.sh (.lst (sp.map spn)),.ow (.dct (.inl ks) ds),.sh (.int (p.1:Int)),.sh (.int (p.2:Int)),s5],_,rfl,v5 (Q4 (items:=V8 (p.1:Int) (p.2:Int)) ?_ b1) rfl,k2,d2,_,_,J,rfl,b2,by omega,λi hi=>b4 i ?_⟩
  ·exact ng0 (cons_of rfl (cons_of rfl rfl)) (by omega) (by omega)
  ·obtain⟨r,hr,z1,z2⟩:=hi
   rw[List.take_succ,hp] at hr;rcases B4.mp hr with y|y
   ·exact .inl ⟨r,y,z1,z2⟩
   ·have:r=p:=by simpa using y
    subst this;exact .inr ⟨z1,z2⟩) ⟨[],[],.un,.un,.un,rfl,rfl,by simp,λi hi=>by obtain⟨p,hp,_⟩:=hi;simp at hp⟩
 rw[Nat.zero_add,List.length_map,List.take_length] at a3;refine⟨ks,ds,?_,λp hp i h1 h2=>a3 i ⟨p,hp,h1,h2⟩⟩;have g:za0 (j5 zb0 [.lst T,.lst (sp.map spn)])=some (.nx [.sh (.lst T),.sh (.lst (sp.map spn)),.ow (.dct (.inl ks) ds),s3,s4,s5]) :=
  v5 (δ':=[.sh (.lst T),.sh (.lst (sp.map spn)),.ow (.dct (.inl []) []),.un,.un,.un]) rfl (v5 (Q4 (items:=sp.map spn) rfl l1) rfl)
 show mkL 2 2 zb0 za0 _=_;unfold mkL;rw[if_pos (show[D.lst T,D.lst (List.map spn sp)].length=2 from rfl),g];rfl
end Ia
namespace Ia
open Ja
open DL W
open Bw (Vb fold vn O8)
theorem Zw0(z:Int):wg0 [.int (fold z:Int)]=some (.int z):=by
 have t:ob (o2 (o2 (gv 0) (gc (.int 2)) Z0) (gc (.int 1)) eqD) [.sh (.int (fold z:Int))]=some (decide ((fold z:Int)%2=1)):=O8 (by
  rw[t6 (x:=.int ((fold z:Int)%2)) (y:=.int 1) rfl rfl];rfl)
 by_cases h:z<0
 ·have e:(fold z:Int)=-2*z - 1:=by unfold Bw.fold;rw[if_pos h];omega
  refine j9 rfl (p6 ?_);show ifD _ _ _ [.sh (.int (fold z:Int))]=_;rw[V4 (by rw[t,decide_eq_true (by omega)])];refine p6 (d8 ?_);show some (D.int (-((fold z:Int)/2) - 1))=_;rw[e,show -((-2*z - 1)/2) - 1=z by omega]
 ·have e:(fold z:Int)=2*z:=by unfold Bw.fold;rw[if_neg h];omega
  refine j9 rfl (v5 (δ':=[.sh (.int (fold z:Int))]) ?_ (p6 (d8 ?_)))
  ·show ifD _ _ _ [.sh (.int (fold z:Int))]=_
   rw[Z4 (by rw[t,decide_eq_false (by omega)])];rfl
  ·show some (D.int ((fold z:Int)/2))=_
   rw[e,show 2*z/2=z by omega]
theorem bm0{v:D}(h:Vb v):z40 [.int (vn v:Int)]=some v:=by
 have z:(1000:Nat)<=sizeLine:=by decide
 have t1:∀n:Int,ob (o2 (gv 0) (gc (.int 0)) eqD) [.sh (.int n)]=some (decide (n=0)):=λn=>O8 rfl
 have t2:∀n:Int,ob (o2 (o2 (gv 0) (gc (.int 2)) Z0) (gc (.int 0)) eqD) [.sh (.int n)]=some (decide (n%2=0)):=λn=>O8 (by
  rw[t6 (x:=.int (n%2)) (y:=.int 0) rfl rfl];rfl)
 cases h with
 | non =>
  refine j9 rfl (p6 ?_);show ifD _ _ _ [.sh (.int 0)]=_;rw[V4 (by rw[t1,decide_eq_true rfl])];rfl
 | lk j hj =>
  have e:((vn (.tup [.str "at",.int (j:Int)]):Nat):Int)=2*(j:Int)+2:=by show (((2*(j:Int)+2).toNat:Nat):Int)=_;omega
  rw[e];refine j9 rfl (v5 (δ':=[.sh (.int (2*(j:Int)+2))]) ?_ (p6 ?_))
  ·show ifD _ _ _ [.sh (.int (2*(j:Int)+2))]=_
   rw[Z4 (by rw[t1,decide_eq_false (by omega)])];rfl
  ·show ifD _ _ _ [.sh (.int (2*(j:Int)+2))]=_
   rw[V4 (by rw[t2,decide_eq_true (by omega)])];refine p6 (d8 (X7 (cons_of rfl (cons_of (d:=.int (j:Int)) ?_ rfl)) (by show 2<=sizeLine;omega)));show some (D.int ((2*(j:Int)+2)/2 - 1))=_;rw[show (2*(j:Int)+2)/2 - 1=(j:Int) by omega]
 | int x hx =>
  have e:((vn (.int x):Nat):Int)=2*(fold x:Int)+1:=by show ((2*fold x+1:Nat):Int)=_;omega
  rw[e];refine j9 rfl (v5 (δ':=[.sh (.int (2*(fold x:Int)+1))]) ?_ (v5 (δ':=[.sh (.int (2*(fold x:Int)+1))]) ?_ (p6 (d8 ?_))))
  ·show ifD _ _ _ [.sh (.int (2*(fold x:Int)+1))]=_
   rw[Z4 (by rw[t1,decide_eq_false (by omega)])];rfl
  ·show ifD _ _ _ [.sh (.int (2*(fold x:Int)+1))]=_
   rw[Z4 (by rw[t2,decide_eq_false (by omega)])];rfl
  ·rw[t7 (ds:=[.int (fold x:Int)]) (cons_of (by
    show some (D.int ((2*(fold x:Int)+1)/2))=_;rw[show (2*(fold x:Int)+1)/2=(fold x:Int) by omega]) rfl)]
   exact Zw0 x
end Ia
namespace Ia
open Ja
open DL W
open Bw (O8)
def SB:GS:=(v6 (ifD (ob (o2 (oA (z7 (gv 2) v4) rc0) (gv 0) eqD))
 (v6 (j7 (gv 2))
 u6)
 u6)
 u6)
theorem Zs0(c e:Nat)(S:Sl):ob (o2 (oA (z7 (gv 2) v4) rc0) (gv 0) eqD) [.sh (.int (c:Int)),S,.sh (.str ⟨#[e]⟩)]=some (decide ((e:Int)=(c:Int))):=O8 (by
 rw[t6 (x:=.int (e:Int)) (y:=.int (c:Int)) rfl rfl];rfl)
theorem lk0(c:Nat)(S:Sl):∀(l:List Nat) (s:Sl),c∈l->S8 (gN 2) SB (l.map λe=>D.str ⟨#[e]⟩) [.sh (.int (c:Int)),S,s]=some (.rt (.str ⟨#[c]⟩))
 | [],s,h=>by cases h
 | e::l,s,h=>by
  rw[List.map_cons,S8];show (match SB [.sh (.int (c:Int)),S,.sh (.str ⟨#[e]⟩)] with
   | some (.nx δn)=>S8 (gN 2) SB (l.map λe=>D.str ⟨#[e]⟩) δn
   | some (.ct δn)=>S8 (gN 2) SB (l.map λe=>D.str ⟨#[e]⟩) δn
   | some (.bk δn)=>some (.nx δn)
   | r=>r)=_
  by_cases hc:e=c
  ·subst hc
   have b:SB [.sh (.int (e:Int)),S,.sh (.str ⟨#[e]⟩)]=some (.rt (.str ⟨#[e]⟩)):=by
    refine p6 ?_;rw[V4 (by rw[Zs0,decide_eq_true rfl])];rfl
   rw[b]
  ·have b:SB [.sh (.int (c:Int)),S,.sh (.str ⟨#[e]⟩)]=some (.nx [.sh (.int (c:Int)),S,.sh (.str ⟨#[e]⟩)]):=by
    refine v5 (δ':=[.sh (.int (c:Int)),S,.sh (.str ⟨#[e]⟩)]) ?_ rfl;rw[Z4 (by rw[Zs0,decide_eq_false (by omega)])];rfl
   rw[b];exact lk0 c S l _ ((B0.mp h).resolve_left λz=>hc z.symm)
theorem jh0(x:Str)(c:Nat)(h:c∈x.cps.toList):yd0 [.int (c:Int),.str x]=some (.str ⟨#[c]⟩):=by
 refine j9 rfl (p6 (Q4 (items:=x.cps.toList.map λe=>D.str ⟨#[e]⟩) rfl (lk0 c _ _ _ h)))
end Ia
namespace Ia
open Ja
open DL W
open Bw (sg O8)
theorem uy0{f:D->Ds->Option Ds}{gt:GB}{ge:GE}(r h:Nat->D):∀l:List Nat,(∀j∈l,∃δ',f (r j) δ=some δ'/\gt δ'=some true/\ge δ'=some (h j))->V3 f gt ge δ (l.map r)=some (l.map h)
 | [],_=>rfl
 | j::l,H=>by
  obtain⟨δ',e1,e2,e3⟩:=H j A8;have ih:=uy0 r h l λi hi=>H i (A5 _ hi)
  rw[List.map_cons];unfold V3;rw[e1];dsimp only;rw[e2];dsimp only;rw[e3,ih];rfl
theorem bs0{a:Nat}{s:Str}(hs:s.length<=20)(ha:a<=1900000)(h:Tel F a (sg s))(hc:∀c∈s.cps.toList,c∈nameS.cps.toList):vc0 [F,.int (a:Int),.int (s.length:Int)]=some (.str s):=by
 have z:(1000:Nat)<=sizeLine:=by decide
 obtain⟨l,hl⟩:∃l:List Nat,l=s.cps.toList:=⟨_,rfl⟩;have ll:l.length=s.length:=by rw[hl];rfl
 have es:s=strOf l:=by unfold strOf;rw[hl]
 refine j9 rfl (p6 (d8 ?_))
 change y50 _ _ [.sh F,.sh (.int (a:Int)),.sh (.int (s.length:Int))]=_
 rw[tw0 (x:=.str "") (ds:=[.lst ((ones l).map .str)]) rfl (cons_of (Y6 (items:=V8 (a:Int) ((a+s.length:Nat):Int)) (ng0 (i:=a) (j:=a+s.length) (cons_of rfl (cons_of (by
   show some (D.int ((a:Int)+(s.length:Int)))=_;rw[show (a:Int)+(s.length:Int)=((a+s.length:Nat):Int) by omega]) rfl)) (by omega) (by omega)) (by unfold V8;rw[List.length_map,List.length_range];omega) (by
   have e0:(ones l).map D.str=(List.range s.length).map λj=>D.str ⟨#[l.getD j 0]⟩:=by
    refine List.ext_getElem (by unfold ones;simp[ll]) λi h1 h2=>?_
    have hi:i<l.length:=by rw[List.length_map,List.length_range] at h2;omega
    unfold ones;simp[hi]
   have e1:V8 (a:Int) ((a+s.length:Nat):Int)=(List.range s.length).map λ(k:Nat)=>D.int ((a:Int)+(k:Int)):=by
    unfold V8;rw[show (((a+s.length:Nat):Int) - (a:Int)).toNat=s.length by omega]
   rw[e0,e1];refine uy0 _ _ _ λj hj=>⟨[.sh (.int ((a:Int)+(j:Int))),.sh F],rfl,rfl,?_⟩
   have hj:j<s.length:=B8.mp hj;have J:j<l.length:=by omega
   have ej:l.getD j 0=l[j]:=by simp[J]
   rw[t7 (ds:=[.int ((l.getD j 0:Nat):Int),.str nameS]) (cons_of (by
    rw[t6 (x:=F) (y:=.int ((a:Int)+(j:Int))) rfl rfl,show (a:Int)+(j:Int)=((a+j:Nat):Int) by omega];have q:=h j (by rw[Bw.xy0];exact hj);rw[q,ej];have:(sg s)[j]'(by rw[Bw.xy0];exact hj)=((l[j]:Nat):Int):=by
     unfold Bw.sg;rw[List.getElem_map];subst hl;rfl
    rw[this]) rfl)]
   exact jh0 nameS _ (hc _ (by rw[ej,← hl];exact D6 _)))) rfl)]
 have e1:=strs_map id (ones l);have O:zi0 ((ones l).map D.str)=some (ones l):=by simpa using e1
 simp only[u60];rw[O,Option.bind_some,xr0,join_ones,if_pos (by
  have:("" : PySem.Str).length=0:=by decide +kernel
  rw[this];omega),es]
end Ia
namespace Ia
open Ja
open DL W
open Bw (sg O8 bs vn Vb nq0 small)
theorem tr0{F:Sl}{p s3:Sl}:ob (o2 (gv 2) (gc (.str y)) eqD) [F,p,.sh (.str x),s3]=some (decide (x=y)):=O8 rfl
theorem Zf0{a c:Nat}(h:Tel F a [(c:Int)])(hc:c∈vb0.cps.toList):G7 [F,.int (a:Int),.str "sign"]=some (.tup [.str ⟨#[c]⟩,.int ((a+1:Nat):Int)]):=by
 have z:(1000:Nat)<=sizeLine:=by decide
 refine j9 rfl (p6 ?_)
 change ifD _ _ _ [.sh F,.sh (.int (a:Int)),.sh (.str "sign"),.un]=_
 rw[V4 (by rw[tr0,decide_eq_true rfl])];refine p6 (d8 (X7 (cons_of (d:=.str ⟨#[c]⟩) ?_ (cons_of (d:=.int ((a+1:Nat):Int)) ?_ rfl)) (by show 2<=sizeLine;omega)))
 ·rw[t7 (ds:=[.int (c:Int),.str vb0]) (cons_of (by rw[t6 (x:=F) (y:=.int (a:Int)) rfl rfl];exact h.head) rfl)]
  exact jh0 vb0 c hc
 ·show some (D.int ((a:Int)+1))=_
  rw[show (a:Int)+1=((a+1:Nat):Int) by omega]
theorem en0{a:Nat}{v:D}(hv:Vb v)(h:Tel F a (bs (vn v))):G7 [F,.int (a:Int),.str "value"]=some (.tup [v,.int ((a+(bs (vn v)).length:Nat):Int)]):=by
 have z:(1000:Nat)<=sizeLine:=by decide
 have hn:=t50 (nq0 hv) h;refine j9 rfl (v5 (δ':=[.sh F,.sh (.int (a:Int)),.sh (.str "value"),.un]) ?_ (v5 (o8 (d:=.tup [.int (vn v:Int),.int ((a+(bs (vn v)).length:Nat):Int)]) ?_) (p6 ?_)))
 ·change ifD _ _ _ [.sh F,.sh (.int (a:Int)),.sh (.str "value"),.un]=_
  rw[Z4 (by rw[tr0,decide_eq_false (by decide +kernel)])];rfl
 ·rw[t7 (ds:=[F,.int (a:Int)]) rfl]
  exact hn
 ·change ifD _ _ _ [.sh F,.sh (.int (a:Int)),.sh (.str "value"),.sh (.tup [.int (vn v:Int),.int ((a+(bs (vn v)).length:Nat):Int)])]=_
  rw[V4 (by rw[tr0,decide_eq_true rfl])];refine p6 (d8 (X7 (cons_of (d:=v) ?_ (cons_of rfl rfl)) (by show 2<=sizeLine;omega)));rw[t7 (ds:=[.int (vn v:Int)]) (cons_of (by rw[t6 (x:=.tup [.int (vn v:Int),.int ((a+(bs (vn v)).length:Nat):Int)]) (y:=.int 0) rfl rfl];rfl) rfl)];exact bm0 hv
theorem bj0{a:Nat}{s:Str}{w:Str}(hw1:w ≠"sign")(hw2:w ≠"value")(hs:s.length<=20)(ha:a<=1800000)(h:Tel F a (bs s.length++sg s))(hc:∀c∈s.cps.toList,c∈nameS.cps.toList) :
  G7 [F,.int (a:Int),.str w]=some (.tup [.str s,.int ((a+(bs s.length++sg s).length:Nat):Int)]):=by
 have z:(1000:Nat)<=sizeLine:=by decide
 have J:s.length<2 ^ 300:=small (by omega);have hn:=t50 J h.left;have hl:=Bw.z80 s.length J;have hm:=bs0 hs (a:=a+(bs s.length).length) (by omega) h.right hc;refine j9 rfl (v5 (δ':=[.sh F,.sh (.int (a:Int)),.sh (.str w),.un]) ?_ (v5 (o8 (d:=.tup [.int (s.length:Int),.int ((a+(bs s.length).length:Nat):Int)]) ?_) (v5 (δ':=[.sh F,.sh (.int (a:Int)),.sh (.str w),.sh (.tup [.int (s.length:Int),.int ((a+(bs s.length).length:Nat):Int)])]) ?_ (p6 (d8 ?_)))))
 ·change ifD _ _ _ [.sh F,.sh (.int (a:Int)),.sh (.str w),.un]=_
  rw[Z4 (by rw[tr0,decide_eq_false hw1])];rfl
 ·rw[t7 (ds:=[F,.int (a:Int)]) rfl]
  exact hn
 ·change ifD _ _ _ [.sh F,.sh (.int (a:Int)),.sh (.str w),.sh (.tup [.int (s.length:Int),.int ((a+(bs s.length).length:Nat):Int)])]=_
  rw[Z4 (by rw[tr0,decide_eq_false hw2])];rfl
 ·refine X7 (cons_of (d:=.str s) ?_ (cons_of (d:=.int ((a+(bs s.length++sg s).length:Nat):Int)) ?_ rfl)) (by show 2<=sizeLine;omega)
  ·rw[t7 (ds:=[F,.int ((a+(bs s.length).length:Nat):Int),.int (s.length:Int)]) rfl]
   exact hm
  ·show some (D.int (((a+(bs s.length).length:Nat):Int)+(s.length:Int)))=_
   rw[List.length_append,Bw.xy0,show ((a+(bs s.length).length:Nat):Int)+(s.length:Int)=((a+((bs s.length).length+s.length):Nat):Int) by omega]
end Ia
namespace Ia
open Ja
open DL W
def PAB:GS:=(v6 (o9 (gN 7) (oA (z7 (gv 0) (z7 (gv 4) (z7 (gv 6) v4))) G7))
 (v6 (Z8 (G4 5 (o2 (gv 7) (gc (.int 0)) ixD)))
 (v6 (o9 (gN 4) (o2 (gv 7) (gc (.int 1)) ixD))
 u6)))
structure Itm where
 w:Str
 d:D
 b:List Int
def Itm.ok(F:D)(t:Itm):Prop:=∀a:Nat,a<=1800000->Tel F a t.b->G7 [F,.int (a:Int),.str t.w]=some (.tup [t.d,.int ((a+t.b.length:Nat):Int)])
theorem items_go(F:D)(b c k:Sl):∀(l:List Itm) (a:Nat) (held:List D) (s6 s7:Sl),(∀t∈l,t.ok F)->Tel F a (l.flatMap Itm.b)->a+(l.flatMap Itm.b).length<=1800000->held.length+l.length<sizeLine ->
  ∃s6' s7',S8 (gN 6) PAB (l.map λt:Itm=>D.str t.w) [.sh F,b,c,k,.sh (.int (a:Int)),.ow (.lst held),s6,s7]=some (.nx [.sh F,b,c,k,.sh (.int ((a+(l.flatMap Itm.b).length:Nat):Int)),.ow (.lst (held++l.map Itm.d)),s6',s7'])
 | [],a,held,s6,s7,_,_,_,_=>⟨s6,s7,by simp[S8]⟩
 | t::l,a,held,s6,s7,ho,ht,hb,hl=>by
  rw[List.flatMap_cons] at ht hb ⊢;rw[List.length_append] at hb ⊢;have h1:=ho t A8 a (by omega) ht.left;obtain⟨s6',s7',ih⟩:=items_go F b c k l (a+t.b.length) (held++[t.d]) (.sh (.str t.w)) (.sh (.tup [t.d,.int ((a+t.b.length:Nat):Int)])) (λu hu=>ho u (A5 _ hu)) ht.right (by omega) (by simp only[List.length_append,List.length_cons,List.length_nil] at hl ⊢;omega);refine⟨s6',s7',?_⟩;have body:PAB [.sh F,b,c,k,.sh (.int (a:Int)),.ow (.lst held),.sh (.str t.w),s7]=some (.nx [.sh F,b,c,k,.sh (.int ((a+t.b.length:Nat):Int)),.ow (.lst (held++[t.d])),.sh (.str t.w),.sh (.tup [t.d,.int ((a+t.b.length:Nat):Int)])]):=by
   refine v5 (o8 (d:=.tup [t.d,.int ((a+t.b.length:Nat):Int)]) ?_) (v5 (Gw.vr0 (l:=held) (d:=t.d) rfl rfl (by rw[List.length_cons] at hl;omega)) rfl);rw[t7 (ds:=[F,.int (a:Int),.str t.w]) rfl];exact h1
  rw[List.map_cons,S8];show (match PAB [.sh F,b,c,k,.sh (.int (a:Int)),.ow (.lst held),.sh (.str t.w),s7] with
   | some (.nx δn)=>S8 (gN 6) PAB (l.map λt:Itm=>D.str t.w) δn
   | some (.ct δn)=>S8 (gN 6) PAB (l.map λt:Itm=>D.str t.w) δn
   | some (.bk δn)=>some (.nx δn)
   | r=>r)=_
  rw[body];show S8 (gN 6) PAB (l.map λt:Itm=>D.str t.w) _=_;rw[ih,List.append_assoc,Nat.add_assoc];rfl
end Ia
namespace Ia
open Ja
open DL W
open Bw (O8)
theorem q60{s1:Sl}:ob (o2 (gv 0) (gc (.str y)) eqD) [.sh (.str x),s1]=some (decide (x=y)):=O8 rfl
theorem fq0(xs:List D)(n:Nat)(hn:n<=100)(h0:xs≠[])(hx:xs.length<=2):mulL (.lst xs) (.int (n:Int))=some (.lst (List.replicate n xs).flatten):=by
 have h1:xs.length*n<=2*100:=Nat.mul_le_mul hx hn;have c:(100:Int)<2 ^ 62:=by decide
 have c2:(2:Nat)*100<=2 ^ 20:=by decide
 have q1:(0:Int)<=(n:Int):=o0 n;have q2:(n:Int)<2 ^ 62:=p9 (by omega) c;have q3:xs.length*((n:Int)).toNat<=2 ^ 20:=by rw[Int.toNat_natCast];exact C3 h1 c2
 simp only[mulL];rw[if_pos ⟨h0,q1,q2,q3⟩,Int.toNat_natCast]
def kw:Nat->Str
 | 0 => "text"
 | 1 => "row"
 | 2 => "table"
 | _ => "record"
def wnt:Nat->Nat->List D
 | 0,n=>(List.replicate n [D.str "sign"]).flatten
 | 1,n=>(List.replicate n [D.str "value"]).flatten
 | 2,n=>(List.replicate n [D.str "name",.str "value"]).flatten
 | _,n=>D.str "class"::(List.replicate n [D.str "name",.str "value"]).flatten
theorem by0(k n:Nat)(hk:k<=3)(hn:n<=100):G5 [.str (kw k),.int (n:Int)]=some (.lst (wnt k n)):=by
 have z:(1000:Nat)<=sizeLine:=by decide
 have m1:∀(w:Str) (δ0:Sl),o2 (Z6 (z7 (gc (.str w)) v4)) (gv 1) mulL [δ0,.sh (.int (n:Int))]=some (.lst (List.replicate n [D.str w]).flatten):=λw δ0=>by
  rw[t6 (x:=.lst [.str w]) (y:=.int (n:Int)) (yi0 rfl (by show 1<=sizeLine;omega)) rfl];exact fq0 _ n hn (by simp) (by simp)
 have m2:∀(δ0:Sl),o2 (Z6 (z7 (gc (.str "name")) (z7 (gc (.str "value")) v4))) (gv 1) mulL [δ0,.sh (.int (n:Int))]=some (.lst (List.replicate n [D.str "name",.str "value"]).flatten):=fun δ0=>by
  rw[t6 (x:=.lst [.str "name",.str "value"]) (y:=.int (n:Int)) (yi0 rfl (by show 2<=sizeLine;omega)) rfl];exact fq0 _ n hn (by simp) (by simp)
 have f:∀(x y:Str) (G:GS),x≠y->ifD (ob (o2 (gv 0) (gc (.str y)) eqD)) G u6 [.sh (.str x),.sh (.int (n:Int))]=some (.nx [.sh (.str x),.sh (.int (n:Int))]):=λx y G h=>by
  rw[Z4 (by rw[q60,decide_eq_false h])];rfl
 have t:∀(x:Str) (G:GS),ifD (ob (o2 (gv 0) (gc (.str x)) eqD)) G u6 [.sh (.str x),.sh (.int (n:Int))]=G [.sh (.str x),.sh (.int (n:Int))]:=λx G=>V4 (by rw[q60,decide_eq_true rfl])
 match k,hk with
 | 0,_=>exact j9 rfl (p6 ((t "text" _).trans (p6 (d8 (m1 _ _)))))
 | 1,_=>exact j9 rfl (v5 (f "row" "text" _ (by decide +kernel)) (p6 ((t "row" _).trans (p6 (d8 (m1 _ _))))))
 | 2,_=>exact j9 rfl (v5 (f "table" "text" _ (by decide +kernel)) (v5 (f "table" "row" _ (by decide +kernel)) (p6 ((t "table" _).trans (p6 (d8 (m2 _)))))))
 | 3,_ =>
  refine j9 rfl (v5 (f "record" "text" _ (by decide +kernel)) (v5 (f "record" "row" _ (by decide +kernel)) (v5 (f "record" "table" _ (by decide +kernel)) (p6 (d8 ?_)))));rw[t6 (x:=.lst [.str "class"]) (y:=.lst (List.replicate n [D.str "name",.str "value"]).flatten) (yi0 rfl (by show 1<=sizeLine;omega)) (m2 _)];simp only[o5];rw[if_pos (by simp;omega)];rfl
end Ia
namespace Ia
open Ja
open DL W
open Bw (two)
theorem kw0(l:List D)(lo:Nat)(h:lo<=l.length):N8 l (some (lo:Int)) none (some 2)=(List.range ((l.length - lo+1)/2)).filterMap λk=>l[lo+2*k]?:=by
 have e:sliceBounds (some (lo:Int)) none (some 2) l.length=((lo:Int),(l.length:Int),2):=by
  unfold sliceBounds;have h2:¬((lo:Int)<0):=by omega
  have h3:(2:Int) > 0:=by decide
  simp only[Option.getD_some,if_neg h2,if_pos h3];have:max (0:Int) (min (lo:Int) (l.length:Int))=(lo:Int):=by omega
  rw[this]
 unfold N8;rw[e];unfold sliceRange;simp only;rw[if_pos (by decide),List.filterMap_map];have c:(if (lo:Int)<(l.length:Int) then ((l.length:Int) - (lo:Int)+2 - 1)/2 else 0).toNat=(l.length - lo+1)/2:=by
  split<;>omega
 rw[c];have fe:((λx:Nat=>l[x]?) ∘ λk:Nat=>((lo:Int)+2*(k:Int)).toNat)=λk=>l[lo+2*k]?:=by
  funext k
  show l[((lo:Int)+2*(k:Int)).toNat]?=_;rw[show ((lo:Int)+2*(k:Int)).toNat=lo+2*k by omega]
 rw[fe]
end Ia
namespace Ia
open Ja
open DL W
open Bw (two z90 sg bs vn ib pb cnt kn its tx Gq Gs)
theorem dj0(xs:List D)(k:Int)(h:0<=k):cutD xs (some k) none=xs.drop k.toNat:=by
 unfold cutD sIx;simp only[];rw[if_neg (by omega)]
 by_cases q:k.toNat<=xs.length
 ·rw[Nat.min_eq_left q,List.take_of_length_le (by rw[List.length_drop];exact A1 _)]
 ·rw[Nat.min_eq_right (by omega),List.drop_of_length_le (A1 _),List.drop_of_length_le (by omega),List.take_nil]
theorem V00{g gk:GE}{xs:List D}{k:Nat}(h1:g δ=some (.lst xs))(h2:gk δ=some (.int (k:Int))):y90 g (someO gk) J3 δ=some (.lst (xs.drop k)):=by
 unfold y90 someO;rw[h1,h2];show slA (.lst xs) (some (k:Int)) none=_;simp only[slA];rw[dj0 _ _ (by omega),Int.toNat_natCast]
theorem l80:∀l:List α,(List.range l.length).filterMap (λk=>l[k]?)=l
 | []=>rfl
 | a::l=>by
  rw[List.length_cons,List.range_succ_eq_map,List.filterMap_cons];simp only[List.getElem?_cons_zero];rw[List.filterMap_map];have:=l80 l;congr 1
theorem cc0:∀(ps:List (Str×D)) (k:Nat),(ps.flatMap two)[2*k]?=(ps.map λq=>D.str q.1)[k]?
 | [],k=>by simp
 | q::ps,0=>rfl
 | q::ps,k+1=>by
  have:=cc0 ps k;rw[List.flatMap_cons,List.map_cons,List.getElem?_cons_succ,← this];rfl
theorem b00:∀(ps:List (Str×D)) (k:Nat),(ps.flatMap two)[1+2*k]?=(ps.map λq=>q.2)[k]?
 | [],k=>by simp
 | q::ps,0=>rfl
 | q::ps,k+1=>by
  have:=b00 ps k;rw[List.flatMap_cons,List.map_cons,List.getElem?_cons_succ,← this,show 1+2*(k+1)=(1+2*k)+2 by omega];rfl
theorem Y20(ps:List (Str×D)):N8 (ps.flatMap two) (some 0) none (some 2)=ps.map λq=>D.str q.1:=by
 have h:=kw0 (ps.flatMap two) 0 (C0 _);rw[z90,show (2*ps.length - 0+1)/2=(ps.map λq=>D.str q.1).length by rw[List.length_map];omega] at h;refine h.trans (k9 ?_ (l80 (ps.map λq=>D.str q.1)));congr 1
 funext k
 rw[Nat.zero_add];exact cc0 ps k
theorem Xc0(ps:List (Str×D)):N8 (ps.flatMap two) (some 1) none (some 2)=ps.map λq=>q.2:=by
 cases ps with
 | nil=>rfl
 | cons q ps =>
  have h:=kw0 ((q::ps).flatMap two) 1 (by rw[z90,List.length_cons];omega);rw[z90,show (2*(q::ps).length - 1+1)/2=((q::ps).map λq=>q.2).length by rw[List.length_map,List.length_cons];omega] at h;refine h.trans (k9 ?_ (l80 ((q::ps).map λq=>q.2)));congr 1
  funext k
  exact b00 (q::ps) k
theorem to0:∀ps:List (Str×D),((ps.map λq=>D.str q.1).zip (ps.map λq=>q.2)).map (λp=>D.tup [p.1,p.2])=ps.map pr
 | []=>rfl
 | q::ps=>by
  rw[List.map_cons,List.map_cons,List.zip_cons_cons,List.map_cons,to0 ps];rfl
theorem mu0(ps:List (Str×D)):zg0 [.lst (ps.flatMap two)]=some (.tup (ps.map pr)):=by
 refine j9 rfl (p6 (d8 ?_));have e0:tv0 (gv 0) (someO (gc (.int 0))) J3 (someO (gc (.int 2))) [.sh (.lst (ps.flatMap two))]=some (.lst (N8 (ps.flatMap two) (some 0) none (some 2))):=rfl;have e1:tv0 (gv 0) (someO (gc (.int 1))) J3 (someO (gc (.int 2))) [.sh (.lst (ps.flatMap two))]=some (.lst (N8 (ps.flatMap two) (some 1) none (some 2))):=rfl;refine(t7 (cons_of e0 (cons_of e1 rfl))).trans ?_;rw[Y20,Xc0];show some (D.tup _)=_;rw[to0]
def held:Pt->List D
 | .text w=>(ones w.cps.toList).map .str
 | .row vs=>vs
 | .table ps=>ps.flatMap two
 | .rcd c ps=>.str c::ps.flatMap two
theorem aw0(p:Pt)(h:cnt p<=20):xq0 [.str (kw (kn p)),.lst (held p)]=some p.d:=by
 have z:(1000:Nat)<=sizeLine:=by decide
 have f:∀(x y:Str) (G:GS) (s:Sl),x≠y->ifD (ob (o2 (gv 0) (gc (.str y)) eqD)) G u6 [.sh (.str x),s]=some (.nx [.sh (.str x),s]):=λx y G s h=>by
  rw[Z4 (by rw[q60,decide_eq_false h])];rfl
 have t:∀(x:Str) (G:GS) (s:Sl),ifD (ob (o2 (gv 0) (gc (.str x)) eqD)) G u6 [.sh (.str x),s]=G [.sh (.str x),s]:=λx G s=>V4 (by rw[q60,decide_eq_true rfl])
 cases p with
 | text w =>
  refine j9 rfl (p6 ((t "text" _ _).trans (p6 (d8 (X7 (cons_of rfl (cons_of (d:=.str w) ?_ rfl)) (by show 2<=sizeLine;omega))))));obtain⟨l,hl⟩:∃l:List Nat,l=w.cps.toList:=⟨_,rfl⟩;have es:w=strOf l:=by unfold strOf;rw[hl]
  have ll:l.length<=20:=by rw[hl];exact h
  change y50 _ _ [.sh (.str "text"),.sh (.lst ((ones w.cps.toList).map .str))]=_
  rw[tw0 (x:=.str "") (ds:=[.lst ((ones l).map .str)]) rfl (cons_of (by rw[hl];rfl) rfl)];have e1:=strs_map id (ones l);have J:zi0 ((ones l).map D.str)=some (ones l):=by simpa using e1
  simp only[u60];rw[J,Option.bind_some,xr0,join_ones,if_pos (by
   have:("" : PySem.Str).length=0:=by decide +kernel
   rw[this];omega),es]
 | row vs =>
  exact j9 rfl (v5 (f "row" "text" _ _ (by decide +kernel)) (p6 ((t "row" _ _).trans (p6 (d8 (X7 (cons_of rfl (cons_of (d:=.tup vs) rfl rfl)) (by show 2<=sizeLine;omega)))))))
 | table ps =>
  refine j9 rfl (v5 (f "table" "text" _ _ (by decide +kernel)) (v5 (f "table" "row" _ _ (by decide +kernel)) (p6 ((t "table" _ _).trans (p6 (d8 (X7 (cons_of rfl (cons_of (d:=.tup (ps.map pr)) ?_ rfl)) (by show 2<=sizeLine;omega))))))));rw[t7 (ds:=[.lst (ps.flatMap two)]) rfl];exact mu0 ps
 | rcd c ps =>
  refine j9 rfl (v5 (f "record" "text" _ _ (by decide +kernel)) (v5 (f "record" "row" _ _ (by decide +kernel)) (v5 (f "record" "table" _ _ (by decide +kernel)) (p6 (d8 (X7 (cons_of rfl (cons_of (d:=.str c) (by
   show atI (D.str c::ps.flatMap two) 0=_;rw[zk0 (by omega) (by rw[List.length_cons];omega) .non];rfl) (cons_of (d:=.tup (ps.map pr)) ?_ rfl))) (by show 3<=sizeLine;omega)))))))
  have e:y90 (gv 1) (someO (gc (.int 1))) J3 [.sh (.str "record"),.sh (.lst (.str c::ps.flatMap two))]=some (.lst (ps.flatMap two)):=by
   have:=V00 (g:=gv 1) (gk:=gc (.int 1)) (δ:=[.sh (.str "record"),.sh (.lst (.str c::ps.flatMap two))]) (k:=1) rfl rfl;exact this
  refine(t7 (cons_of e rfl)).trans ?_;exact mu0 ps
end Ia
namespace Ia
open Ja
open DL W
open Bw (two z90 sg bs vn ib pb cnt kn nj0 its tx Gq Gs Vb small)
def i2(q:Str×D):List Itm:=[⟨"name",.str q.1,bs q.1.length++sg q.1⟩,⟨"value",q.2,bs (vn q.2)⟩]
def itm:Pt->List Itm
 | .text w=>w.cps.toList.map λc=>⟨"sign",.str ⟨#[c]⟩,[(c:Int)]⟩
 | .row vs=>vs.map λv=>⟨"value",v,bs (vn v)⟩
 | .table ps=>ps.flatMap i2
 | .rcd c ps=>⟨"class",.str c,bs c.length++sg c⟩::ps.flatMap i2
theorem tc0(x:List D):∀l:List α,(List.replicate l.length x).flatten=l.flatMap λ_=>x
 | []=>rfl
 | a::l=>by rw[List.length_cons,List.replicate_succ,List.flatten_cons,List.flatMap_cons,tc0 x l]
theorem ns0(f:α->β):∀l:List α,(l.flatMap λa=>[f a])=l.map f
 | []=>rfl
 | a::l=>by rw[List.flatMap_cons,List.map_cons,ns0 f l];rfl
theorem d50:∀ps:List (Str×D),(ps.flatMap i2).map (λt:Itm=>D.str t.w)=ps.flatMap λ_=>[D.str "name",.str "value"]
 | []=>rfl
 | q::ps=>by rw[List.flatMap_cons,List.map_append,d50 ps,List.flatMap_cons];rfl
theorem ep0:∀ps:List (Str×D),(ps.flatMap i2).map Itm.d=ps.flatMap two
 | []=>rfl
 | q::ps=>by rw[List.flatMap_cons,List.map_append,ep0 ps,List.flatMap_cons];rfl
theorem dq0:∀ps:List (Str×D),(∀q∈ps,Vb q.2)->(ps.flatMap i2).flatMap Itm.b=(ps.flatMap two).flatMap ib
 | [],_=>rfl
 | q::ps,h=>by
  rw[List.flatMap_cons,List.flatMap_append,dq0 ps λr hr=>h r (A5 _ hr),List.flatMap_cons,List.flatMap_append];congr 1;show (bs q.1.length++sg q.1)++(bs (vn q.2)++[])=ib (.str q.1)++(ib q.2++[]);rw[(h q A8).ib];rfl
theorem Wa0(p:Pt):(itm p).map (λt:Itm=>D.str t.w)=wnt (kn p) (cnt p):=by
 cases p with
 | text w =>
  show _=(List.replicate w.cps.toList.length [D.str "sign"]).flatten;rw[tc0,ns0];show List.map _ (w.cps.toList.map _)=_;rw[List.map_map];rfl
 | row vs =>
  show _=(List.replicate vs.length [D.str "value"]).flatten;rw[tc0,ns0];show List.map _ (vs.map _)=_;rw[List.map_map];rfl
 | table ps =>
  show _=(List.replicate ps.length [D.str "name",.str "value"]).flatten;rw[tc0];exact d50 ps
 | rcd c ps =>
  show _=D.str "class"::(List.replicate ps.length [D.str "name",.str "value"]).flatten;rw[tc0,← d50 ps];rfl
theorem cu0(p:Pt):(itm p).map Itm.d=held p:=by
 cases p with
 | text w =>
  show List.map _ (w.cps.toList.map _)=((w.cps.toList.map λc=>(⟨#[c]⟩:Str))).map D.str;rw[List.map_map,List.map_map];rfl
 | row vs =>
  show List.map _ (vs.map _)=vs;rw[List.map_map];exact List.map_id _
 | table ps=>exact ep0 ps
 | rcd c ps =>
  show D.str c::(ps.flatMap i2).map Itm.d=D.str c::ps.flatMap two;rw[ep0]
theorem fz0:∀vs:List D,(∀v∈vs,Vb v)->(vs.map λv=>(⟨"value",v,bs (vn v)⟩:Itm)).flatMap Itm.b=vs.flatMap ib
 | [],_=>rfl
 | v::vs,h=>by
  rw[List.map_cons,List.flatMap_cons,List.flatMap_cons,fz0 vs λr hr=>h r (A5 _ hr),(h v A8).ib]
theorem cj0:∀l:List Nat,(l.map λ(c:Nat)=>(⟨"sign",.str ⟨#[c]⟩,[(c:Int)]⟩:Itm)).flatMap Itm.b=l.map λ(c:Nat)=>(c:Int)
 | []=>rfl
 | v::vs=>by
  rw[List.map_cons,List.flatMap_cons,cj0 vs];rfl
theorem il0{ps:List (Str×D)}(h:∀v∈ps.map (·.2),Vb v):∀q∈ps,Vb q.2:=λq hq=>h _ (B1.mpr ⟨q,hq,rfl⟩)
theorem W90{p:Pt}(h:Gq p):(itm p).flatMap Itm.b=tx p++(its p).flatMap ib:=by
 cases p with
 | text w =>
  show (w.cps.toList.map _).flatMap _=sg w++[];rw[List.append_nil];exact cj0 _
 | row vs=>exact fz0 vs h.vals
 | table ps=>exact dq0 ps (il0 h.vals)
 | rcd c ps =>
  show (bs c.length++sg c)++(ps.flatMap i2).flatMap Itm.b=([]:List Int)++(D.str c::ps.flatMap two).flatMap ib;rw[dq0 ps (il0 h.vals),List.nil_append,List.flatMap_cons];rfl
theorem bv0{s:Str}(h:isName s=true):∀c∈s.cps.toList,c∈nameS.cps.toList:=by
 unfold isName at h;rw[Bool.and_eq_true,Bool.and_eq_true] at h;have h2:=h.1.2;unfold hasAll at h2;rw[List.all_eq_true] at h2;exact λc hc=>P6 (h2 c hc)
theorem X20{p:Pt}(h:Gq p)(hs:Gs p):∀t∈itm p,t.ok F:=by
 have nm:∀(s:Str) (w:Str),s∈p.all->w ≠"sign"->w ≠"value"->Itm.ok F ⟨w,.str s,bs s.length++sg s⟩:=λs w hm h1 h2 a ha ht=>bj0 h1 h2 (h.names s hm) ha ht (bv0 (hs.1 s hm))
 have vl:∀v:D,Vb v->Itm.ok F ⟨"value",v,bs (vn v)⟩:=λv hv a ha ht=>en0 hv ht
 have J:∀ps:List (Str×D),(∀q∈ps,Vb q.2)->(∀q∈ps,q.1∈p.all)->∀t∈ps.flatMap i2,t.ok F:=λps h1 h2 t ht=>by
  obtain⟨q,hq,ht⟩:=Bl0.mp ht;rcases B0.mp ht with rfl|ht
  ·exact nm _ _ (h2 q hq) (by decide +kernel) (by decide +kernel)
  ·rw[List.mem_singleton.mp ht]
   exact vl _ (h1 q hq)
 cases p with
 | text w =>
  intro t ht;obtain⟨c,hc,rfl⟩:=B1.mp ht;exact λa ha ht=>Zf0 ht (hs.2 w rfl c hc)
 | row vs =>
  intro t ht;obtain⟨v,hv,rfl⟩:=B1.mp ht;exact vl v (h.vals v hv)
 | table ps=>exact J ps (il0 h.vals) λq hq=>B4.mpr (.inl (B1.mpr ⟨q,hq,rfl⟩))
 | rcd c ps =>
  intro t ht;rcases B0.mp ht with rfl|ht
  ·exact nm c _ (B4.mpr (.inr (C8.mpr rfl))) (by decide +kernel) (by decide +kernel)
  ·exact J ps (il0 h.vals) (λq hq=>B4.mpr (.inl (B1.mpr ⟨q,hq,rfl⟩))) t ht
theorem ae0{p:Pt}(h:Gq p):(itm p).length<=50:=by
 have h1:((itm p).map Itm.d).length=(itm p).length:=S1 _;rw[← h1,cu0];have hc:=h.cnt;cases p with
 | text w =>
  have hc:w.cps.toList.length<=20:=hc;show (((w.cps.toList.map λc=>(⟨#[c]⟩:Str))).map D.str).length<=50;rw[List.length_map,List.length_map];omega
 | row vs=>exact C3 hc (by decide)
 | table ps =>
  have hc:ps.length<=20:=hc;show (ps.flatMap two).length<=50;rw[z90];omega
 | rcd c ps =>
  have hc:ps.length<=20:=hc;show (D.str c::ps.flatMap two).length<=50;rw[List.length_cons,z90];omega
theorem jj0{a:Nat}{p:Pt}(h:Gq p)(hs:Gs p)(ht:Tel F a (pb p))(ha:a+(pb p).length<=1800000):K6 [F,.int (a:Int)]=some p.d:=by
 have z:(1000:Nat)<=sizeLine:=by decide
 have hc:=h.cnt;have hk:=nj0 p;obtain⟨n,hn⟩:∃n,n=4*cnt p+kn p:=⟨_,rfl⟩;have ep:pb p=bs n++(itm p).flatMap Itm.b:=by
  rw[W90 h,hn];unfold Bw.pb;rw[List.append_assoc]
 rw[ep] at ht ha;rw[List.length_append] at ha;have O:=t50 (F:=F) (a:=a) (n:=n) (small (by omega)) ht.left;obtain⟨s6,s7,J⟩:=items_go F (.sh (.int (a:Int))) (.sh (.tup [.int (n:Int),.int ((a+(bs n).length:Nat):Int)])) (.sh (.str (kw (kn p)))) (itm p) (a+(bs n).length) [] .un .un (X20 h hs) ht.right (by omega) (by have:=ae0 h;show 0+_<_;omega);rw[List.nil_append,cu0,Wa0] at J;have hw:=by0 (kn p) (cnt p) hk (by omega);have hm:=aw0 p hc;refine j9 rfl (v5 (o8 (d:=.tup [.int (n:Int),.int ((a+(bs n).length:Nat):Int)]) ?_) (v5 (o8 (d:=.str (kw (kn p))) ?_) (v5 (o8 (d:=.int ((a+(bs n).length:Nat):Int)) rfl) (v5 (δ':=[.sh F,.sh (.int (a:Int)),.sh (.tup [.int (n:Int),.int ((a+(bs n).length:Nat):Int)]),.sh (.str (kw (kn p))),.sh (.int ((a+(bs n).length:Nat):Int)),.ow (.lst []),.un,.un]) rfl (v5 (Q4 (items:=wnt (kn p) (cnt p)) ?_ J) (p6 (d8 ?_)))))))
 ·rw[t7 (ds:=[F,.int (a:Int)]) rfl]
  exact O
 ·show unG _ _ [.sh F,.sh (.int (a:Int)),.sh (.tup [.int (n:Int),.int ((a+(bs n).length:Nat):Int)]),.un,.un,.un,.un,.un]=_
  have e:o2 (o2 (gv 2) (gc (.int 0)) ixD) (gc (.int 4)) Z0 [.sh F,.sh (.int (a:Int)),.sh (.tup [.int (n:Int),.int ((a+(bs n).length:Nat):Int)]),.un,.un,.un,.un,.un]=some (.int (kn p:Int)):=by
   rw[t6 (x:=.int (n:Int)) (y:=.int 4) rfl rfl];show some (D.int ((n:Int)%4))=_;rw[show (n:Int)%4=(kn p:Int) by omega]
  unfold unG;rw[e,Option.bind_some];cases p<;>rfl
 ·have e:oA (z7 (gv 3) (z7 (o2 (o2 (gv 2) (gc (.int 0)) ixD) (gc (.int 4)) xp0) v4)) G5 [.sh F,.sh (.int (a:Int)),.sh (.tup [.int (n:Int),.int ((a+(bs n).length:Nat):Int)]),.sh (.str (kw (kn p))),.sh (.int ((a+(bs n).length:Nat):Int)),.ow (.lst []),.un,.un]=some (.lst (wnt (kn p) (cnt p))):=by
   rw[t7 (ds:=[.str (kw (kn p)),.int (cnt p:Int)]) (cons_of rfl (cons_of (by
    rw[t6 (x:=.int (n:Int)) (y:=.int 4) rfl rfl];show some (D.int ((n:Int)/4))=_;rw[show (n:Int)/4=(cnt p:Int) by omega]) rfl))]
   exact hw
  show O9 _ _=_;unfold O9;rw[e];rfl
 ·show oA _ _ [.sh F,.sh (.int (a:Int)),.sh (.tup [.int (n:Int),.int ((a+(bs n).length:Nat):Int)]),.sh (.str (kw (kn p))),_,.sh (.lst (held p)),_,_]=_
  rw[t7 (ds:=[.str (kw (kn p)),.lst (held p)]) rfl];exact hm
end Ia
namespace Ia
open Ja
open DL W
open Bw (bg sts s60 yg0 bs pb K8 z80 ix bun yw0 vn0 yf0 xi0 Gw' Gs small O8)
section
variable{G1 G2 Ga:GZ}{G:GS}{c:Str}{m:Option Int}{d:D}{r:Option RX}
theorem zex(h:G1 δ=some (.ex c m δ')):U6 G1 G2 δ=some (.ex c m δ'):=by unfold U6;rw[h]
theorem zto(h:G1 δ=some (.ok (.nx δ')))(k:G2 δ'=r):U6 G1 G2 δ=r:=by unfold U6;rw[h];exact k
theorem zrt(h:G1 δ=some (.ok (.rt d))):U6 G1 G2 δ=some (.ok (.rt d)):=by unfold U6;rw[h]
theorem zok{r:Res}(h:G δ=some r):okZ G δ=some (.ok r):=by unfold okZ;rw[h];rfl
theorem zt(h:g1 δ=some true):ifZ g1 Ga Gb δ=Ga δ:=by unfold ifZ;rw[h];rfl
theorem zf(h:g1 δ=some false):ifZ g1 Ga Gb δ=Gb δ:=by unfold ifZ;rw[h];rfl
theorem Uc0{g2:GB}(h1:g1 δ=some true):w50 g1 g2 δ=some true:=by
 unfold w50;rw[h1,Option.bind_some,if_pos rfl]
theorem Us0{g2:GB}{b:Bool}(h1:g1 δ=some false)(h2:g2 δ=some b):w50 g1 g2 δ=some b:=by
 unfold w50;rw[h1,Option.bind_some,if_neg (by decide),h2]
end
def lp(p:Pt):D:=.int ((pb p).length:Int)
theorem ig0{p:Pt}(h:ps[j]?=some p):bg ps (j+1)=bg ps j+(pb p).length:=by
 unfold Bw.bg;rw[← xi0 pb h,List.length_append];omega
theorem Wp0(h:Gw' ps)(j:Nat):bg ps j<=1300000:=by
 have:=yw0 h;have:=vn0 h j;unfold Bw.bg;omega
def PT:GB:=(ob (o2 (z20 (oA (z7 (gv 4) v4) Z5)) (o2 (gv 2) (gc (.int 0)) ixD) ltD))
def PB:GS:=(v6 (o9 (gN 5) (oA (z7 (gv 0) (z7 (gv 3) v4)) W2))
 (v6 (Z8 (G4 4 (o2 (gv 5) (gc (.int 0)) ixD)))
 (v6 (o9 (gN 3) (o2 (gv 5) (gc (.int 1)) ixD))
 u6)))
theorem pt(F k:Sl)(N c a:Int)(l:List D)(s5 s6:Sl):PT [F,k,.sh (.tup [.int N,.int c]),.sh (.int a),.ow (.lst l),s5,s6]=some (decide ((l.length:Int)<N)):=O8 (by
 rw[t6 (x:=.int (l.length:Int)) (y:=.int N) (by
  unfold z20;rw[qi0 (ds:=l) rfl];rfl) rfl]
 rfl)
theorem dc0(F:D)(k:Sl)(N c:Int)(s6:Sl):∀(l:List Pt) (pre:List Pt) (a f:Nat) (s5:Sl),l.length<f->N=((pre.length+l.length:Nat):Int)->pre.length+l.length<=60->(∀p∈l,(pb p).length<=20000)->Tel F a (l.flatMap λp=>bs (pb p).length) ->
  ∃s5',X5 PT PB f [.sh F,k,.sh (.tup [.int N,.int c]),.sh (.int (a:Int)),.ow (.lst (pre.map lp)),s5,s6]=some (.nx [.sh F,k,.sh (.tup [.int N,.int c]),.sh (.int ((a+(l.flatMap λp=>bs (pb p).length).length:Nat):Int)),.ow (.lst ((pre++l).map lp)),s5',s6]):=by
 have z:(1000:Nat)<=sizeLine:=by decide
 intro l
 induction l with
 | nil =>
  intro pre a f s5 hf hN J hp ht;cases f with
  | zero=>exact absurd hf (Q2 _)
  | succ f =>
   refine⟨s5,?_⟩;rw[p70 (by rw[pt,decide_eq_false (by rw[List.length_map,hN];simp)]),List.append_nil];rfl
 | cons p l ih =>
  intro pre a f s5 hf hN J hp ht;cases f with
  | zero=>exact absurd hf (Q2 _)
  | succ f =>
   rw[List.length_cons] at hf hN J;rw[List.flatMap_cons] at ht;have hn:=t50 (F:=F) (a:=a) (n:=(pb p).length) (small (by have:=hp p A8;omega)) ht.left;obtain⟨s5',e⟩:=ih (pre++[p]) (a+(bs (pb p).length).length) f (.sh (.tup [.int ((pb p).length:Int),.int ((a+(bs (pb p).length).length:Nat):Int)])) (by omega) (by rw[hN,List.length_append];show _=(((pre.length+1)+l.length:Nat):Int);omega) (by rw[List.length_append];show (pre.length+1)+_<=_;omega) (λq hq=>hp q (A5 _ hq)) ht.right;refine⟨s5',?_⟩;have body:PB [.sh F,k,.sh (.tup [.int N,.int c]),.sh (.int (a:Int)),.ow (.lst (pre.map lp)),s5,s6]=some (.nx [.sh F,k,.sh (.tup [.int N,.int c]),.sh (.int ((a+(bs (pb p).length).length:Nat):Int)),.ow (.lst ((pre++[p]).map lp)),.sh (.tup [.int ((pb p).length:Int),.int ((a+(bs (pb p).length).length:Nat):Int)]),s6]):=by
    refine v5 (o8 (d:=.tup [.int ((pb p).length:Int),.int ((a+(bs (pb p).length).length:Nat):Int)]) ?_) (v5 (Gw.vr0 (l:=pre.map lp) (d:=lp p) rfl rfl (by rw[List.length_map];omega)) ?_)
    ·rw[t7 (ds:=[F,.int (a:Int)]) rfl]
     exact hn
    ·rw[List.map_append]
     rfl
   rw[s50 (by rw[pt,decide_eq_true (by rw[List.length_map,hN];omega)]) body,e,List.flatMap_cons,List.length_append,List.append_assoc,Nat.add_assoc];rfl
def SB':GS:=(v6 (Z8 (G4 6 (gv 3)))
 (v6 (sz0 3 (gv 5))
 u6))
theorem fo0(h:Gw' ps)(F k cn zs s5:Sl):∃s3 s5',S8 (gN 5) SB' (ps.map lp) [F,k,cn,.sh (.int ((bg ps 0:Nat):Int)),zs,s5,.ow (.lst [])]=some (.nx [F,k,cn,s3,zs,s5',.ow (.lst (sts ps ps.length))]):=by
 have z:(1000:Nat)<=sizeLine:=by decide
 have hl:=h.len;obtain⟨δ',l1,s5',rfl⟩:=S6 (f:=gN 5) (G:=SB') (λj δ=>∃s5',δ=[F,k,cn,.sh (.int ((bg ps j:Nat):Int)),zs,s5',.ow (.lst (sts ps j))]) (ps.map lp) 0 [F,k,cn,.sh (.int ((bg ps 0:Nat):Int)),zs,s5,.ow (.lst [])] (by
  rintro j d δ hj ⟨s5',rfl⟩;rw[List.getElem?_map] at hj;obtain⟨p,hp,rfl⟩:=E6.mp hj;have J:=(C4.mp hp).1;rw[Nat.zero_add];refine⟨_,[F,k,cn,.sh (.int ((bg ps (j+1):Nat):Int)),zs,.sh (lp p),.ow (.lst (sts ps (j+1)))],rfl,?_,.sh (lp p),rfl⟩;refine v5 (Gw.vr0 (l:=sts ps j) (d:=.int ((bg ps j:Nat):Int)) rfl rfl (by rw[yg0];omega)) (v5 (δ':=[F,k,cn,.sh (.int (((bg ps j:Nat):Int)+((pb p).length:Int))),zs,.sh (lp p),.ow (.lst (sts ps j++[.int ((bg ps j:Nat):Int)]))]) rfl ?_);rw[← s60,ig0 hp,show ((bg ps j:Nat):Int)+((pb p).length:Int)=((bg ps j+(pb p).length:Nat):Int) by omega];rfl) ⟨s5,rfl⟩
 rw[Nat.zero_add,List.length_map] at l1;exact⟨_,_,l1⟩
theorem cn0{F:Sl}{k n c:Int}{s3 s4 s5 s6:Sl}:w50 (ob (o2 (gv 1) (gc (.int 0)) ltD)) (ob (o2 (gv 1) (o2 (gv 2) (gc (.int 0)) ixD) geD)) [F,.sh (.int k),.sh (.tup [.int n,.int c]),s3,s4,s5,s6]=some (decide (k<0∨n<=k)):=by
 have t1:ob (o2 (gv 1) (gc (.int 0)) ltD) [F,.sh (.int k),.sh (.tup [.int n,.int c]),s3,s4,s5,s6]=some (decide (k<0)):=O8 rfl;have t2:ob (o2 (gv 1) (o2 (gv 2) (gc (.int 0)) ixD) geD) [F,.sh (.int k),.sh (.tup [.int n,.int c]),s3,s4,s5,s6]=some (decide (n<=k)):=O8 (by
  rw[t6 (x:=.int k) (y:=.int n) rfl rfl];rfl)
 by_cases h:k<0
 ·rw[Uc0 (by rw[t1,decide_eq_true h]),decide_eq_true (.inl h)]
 ·rw[Us0 (by rw[t1,decide_eq_false h]) t2]
  congr 1;exact decide_eq_decide.mpr ⟨.inr,λq=>q.resolve_left h⟩
section
variable(h:Gw' ps)(ht:Tel F 0 (ix ps))
include h ht
theorem ce0:W2 [F,.int 0]=some (.tup [.int (ps.length:Int),.int ((bs ps.length).length:Int)]):=by
 have:=t50 (F:=F) (a:=0) (n:=ps.length) (small (by have:=h.len;omega)) (Tel.left ht);rw[Nat.zero_add] at this;exact this
theorem gz0(k:Int)(hk:k<0∨(ps.length:Int)<=k):X8 [F,.int k]=some (.ex "NoPlace" none):=by
 have hn:=ce0 h ht;refine ge0 (δ:=[.sh F,.sh (.int k),.sh (.tup [.int (ps.length:Int),.int ((bs ps.length).length:Int)]),.un,.un,.un,.un]) rfl (zto (δ':=[.sh F,.sh (.int k),.sh (.tup [.int (ps.length:Int),.int ((bs ps.length).length:Int)]),.un,.un,.un,.un]) (zok (o8 (i:=2) ?_)) (zex ?_))
 ·rw[t7 (ds:=[F,.int 0]) rfl]
  exact hn
 ·rw[zt (by rw[cn0,decide_eq_true hk])]
  rfl
theorem fy0(k:Int)(h0:0<=k)(hk:k<(ps.length:Int)):X8 [F,.int k]=some (.ok (.lst (sts ps ps.length))):=by
 have hn:=ce0 h ht;have hl:=h.len;obtain⟨s5,e1⟩:=dc0 F (.sh (.int k)) (ps.length:Int) ((bs ps.length).length:Int) .un ps [] (bs ps.length).length 100000 .un (by omega) (by simp) (by simpa using hl) (λp hp=>K8 (h.it p hp).gp) (by
  have q:=Tel.right ht;rw[Nat.zero_add] at q;exact q)
 rw[List.nil_append,show (bs ps.length).length+(ps.flatMap λp=>bs (pb p).length).length=bg ps 0 by unfold Bw.bg Bw.ix;rw[List.length_append];simp] at e1;obtain⟨s3,J,e2⟩:=fo0 h (.sh F) (.sh (.int k)) (.sh (.tup [.int (ps.length:Int),.int ((bs ps.length).length:Int)])) (.sh (.lst (ps.map lp))) s5;refine gp0 rfl (zto (δ':=[.sh F,.sh (.int k),.sh (.tup [.int (ps.length:Int),.int ((bs ps.length).length:Int)]),.un,.un,.un,.un]) (zok (o8 (i:=2) ?_)) (zto (δ':=[.sh F,.sh (.int k),.sh (.tup [.int (ps.length:Int),.int ((bs ps.length).length:Int)]),.un,.un,.un,.un]) ?_ (zto (δ':=[.sh F,.sh (.int k),.sh (.tup [.int (ps.length:Int),.int ((bs ps.length).length:Int)]),.sh (.int ((bs ps.length).length:Int)),.un,.un,.un]) (zok rfl) (zto (δ':=[.sh F,.sh (.int k),.sh (.tup [.int (ps.length:Int),.int ((bs ps.length).length:Int)]),.sh (.int ((bs ps.length).length:Int)),.ow (.lst []),.un,.un]) (zok rfl) (zto (zok e1) (zto (δ':=[.sh F,.sh (.int k),.sh (.tup [.int (ps.length:Int),.int ((bs ps.length).length:Int)]),.sh (.int ((bg ps 0:Nat):Int)),.sh (.lst (ps.map lp)),s5,.ow (.lst [])]) (zok rfl) (zto (zok (Q4 (items:=ps.map lp) rfl e2)) (zrt (zok rfl)))))))))
 ·rw[t7 (ds:=[F,.int 0]) rfl]
  exact hn
 ·rw[zf (by rw[cn0,decide_eq_false (by omega)])]
  rfl
end
end Ia
namespace Ia
open Ja
open DL W
open Bw (bg sts s60 yg0 mz0 bs pb K8 z80 ix bun yw0 vn0 yf0 xi0 Gw' Gq Gs Vb small O8 web)
theorem qn0{T pre post:List Int}{a:Nat}(hT:T=pre++(l++post))(ha:pre.length=a)(h:∀i,a<=i->i<a+l.length->T6 ks ds (.inl (i:Int))=some ((T.map D.int).getD i .non)):Tel (.fn ks ds) a l:=λi hi=>by
 show T6 ks ds (.inl ((a+i:Nat):Int))=_;rw[h (a+i) (by omega) (by omega)];subst hT ha;have:(pre++(l++post))[pre.length+i]?=some l[i]:=by
  rw[List.getElem?_append_right (by omega),Nat.add_sub_cancel_left,List.getElem?_append_left hi,List.getElem?_eq_getElem hi]
 rw[List.getD_eq_getElem?_getD,List.getElem?_map,this];rfl
theorem gb0{k:Nat}(hk:k<ps.length):∃post,bun ps=(ix ps++(ps.take k).flatMap pb)++(pb ps[k]++post):=by
 refine⟨(ps.drop (k+1)).flatMap pb,?_⟩;unfold Bw.bun;have e:ps=ps.take k++ps[k]::ps.drop (k+1):=by
  rw[← List.drop_eq_getElem_cons hk,List.take_append_drop]
 have e2:ps.flatMap pb=(ps.take k).flatMap pb++(pb ps[k]++(ps.drop (k+1)).flatMap pb):=by
  conv=>lhs;rw[e]
  rw[List.flatMap_append,List.flatMap_cons]
 rw[e2,List.append_assoc]
section
variable(h:Gw' ps)(h0:0<ps.length)
include h h0
theorem Zx0:∃F,U5 [.lst ((bun ps).map .int),.lst [.tup [.int 0,.int ((ix ps).length:Int)]]]=some F/\Tel F 0 (ix ps):=by
 have hl:=yf0 h;have J:(ix ps).length<=(bun ps).length:=by unfold Bw.bun;rw[List.length_append];omega
 obtain⟨ks,ds,e,c⟩:=Zg0 ((bun ps).map .int) [(0,(ix ps).length)] (by rw[List.length_map];omega) (by show 1<=3;decide) (λp hp=>by
  rw[List.mem_singleton.mp hp,List.length_map];exact⟨C0 _,J⟩)
 exact⟨_,e,qn0 (T:=bun ps) (pre:=[]) (post:=ps.flatMap pb) rfl rfl λi _ hi=>c (0,(ix ps).length) A8 i (C0 _) (by simpa using hi)⟩
end
theorem ad0(m:Nat){X:D}(hX:X=.tup ds∨X=.lst ds)(hl:ds.length<=1000)(h:∀d∈ds,Bw.d9 m [d,d]=some (.bl true)):Bw.d9 (m+1) [X,X]=some (.bl true):=by
 have z:(10000000:Nat)<=sizeLine:=by decide
 refine j9 rfl (v5 (δ':=[.sh X,.sh X]) (by rcases hX with rfl|rfl<;>rfl) (v5 (δ':=[.sh X,.sh X]) (by rcases hX with rfl|rfl<;>rfl) (v5 (δ':=[.sh X,.sh X]) (by rcases hX with rfl|rfl<;>rfl) (v5 (δ':=[.sh X,.sh X]) (by rcases hX with rfl|rfl<;>rfl) (p6 (d8 ?_))))));have ln:∀(g:GE) (δ:Ds),g δ=some X->oA (z7 g v4) Z5 δ=some (.int (ds.length:Int)):=λg δ hg=>by rw[t7 (ds:=[X]) (cons_of hg rfl)];rcases hX with rfl|rfl<;>rfl
 have ix:∀k:Nat,(hk:k<ds.length)->ixD X (.int (k:Int))=some ds[k]:=λk hk=>by
  have e:atI ds (k:Int)=some ds[k]:=by
   rw[zk0 (by omega) (by omega) .non];simp[List.getD_eq_getElem?_getD,hk]
  rcases hX with rfl|rfl<;>exact e
 unfold wl0;rw[Bw.O8 (b:=true) (by
  rw[t6 (x:=.int (ds.length:Int)) (y:=.int (ds.length:Int)) (ln _ _ rfl) (ln _ _ rfl)];show some (D.bl (decide ((ds.length:Int)=(ds.length:Int))))=_;rw[decide_eq_true rfl]),Option.bind_some,if_pos rfl]
 rw[t7 (ds:=[.lst ((List.range ds.length).map λ_=>.bl true)]) (cons_of (Y6 (items:=V8 0 (ds.length:Int)) (wh0 (cons_of (ln _ _ rfl) rfl) (by omega) (by omega)) (by rw[yc0];omega) (by
  have q:=yb0 (gt:=noT) (ge:=oA (z7 (o2 (gv 1) (gv 0) ixD) (z7 (o2 (gv 2) (gv 0) ixD) v4)) (Bw.d9 m)) (δ:=[.un,.sh X,.sh X]) (n:=(ds.length:Int)) (λ_=>.bl true) (λk hk=>⟨[.sh (.int (k:Int)),.sh X,.sh X],rfl,rfl,by
   have J:k<ds.length:=by omega
   rw[t7 (ds:=[ds[k],ds[k]]) (cons_of (by rw[t6 (x:=X) (y:=.int (k:Int)) rfl rfl];exact ix k J) (cons_of (by rw[t6 (x:=X) (y:=.int (k:Int)) rfl rfl];exact ix k J) rfl))];exact h _ (D6 J)⟩)
  rw[Int.toNat_natCast] at q;exact q)) rfl)]
 simp only[lr0];rw[ol0 (λ_=>true)];simp
inductive Ok:Nat->D->Prop
 | non:Ok 0 .non
 | int (z:Int):Ok 0 (.int z)
 | str (s:Str):Ok 0 (.str s)
 | up {n:Nat} {d:D}:Ok n d->Ok (n+1) d
 | tup {n:Nat} {ds:List D} (hl:ds.length<=1000) (h:∀d∈ds,Ok n d):Ok (n+1) (.tup ds)
theorem Z40:∀{n:Nat} {d:D},Ok n d->∀m,n<=m->Bw.d9 (m+1) [d,d]=some (.bl true):=by
 intro n d h
 induction h with
 | non=>intro m _;rfl
 | int z=>intro m _;exact Bw.Xk0 m z
 | str s =>
  intro m _;show Bw.d9 (m+1) [.str s,.str s]=_;refine j9 rfl (v5 (δ':=[.sh (.str s),.sh (.str s)]) rfl (p6 ?_));rw[V4 rfl];refine p6 (d8 ?_);show some (D.bl (decide (s=s)))=_;rw[decide_eq_true rfl]
 | up _ ih=>intro m hm;exact ih m (by omega)
 | @tup n ds hl hd ih =>
  intro m hm;obtain⟨m,rfl⟩:∃m',m=m'+1:=⟨m - 1,by omega⟩;exact ad0 (m+1) (.inl rfl) hl λd hd=>ih d hd m (by omega)
theorem Xt0{v:D}(h:Vb v):Ok 1 v:=by
 cases h with
 | non=>exact .up .non
 | lk j h =>
  refine .tup (by show 2<=1000;decide) λd hd=>?_
  rcases B0.mp hd with rfl|hd
  ·exact .str _
  ·rw[List.mem_singleton.mp hd];exact .int _
 | int z h=>exact .up (.int z)
theorem qa0{a b:D}(ha:Ok n a)(hb:Ok n b):Ok (n+1) (.tup [a,b]):=.tup (by show 2<=1000;decide) λd hd=>by
 rcases B0.mp hd with rfl|hd
 ·exact ha
 ·rw[List.mem_singleton.mp hd];exact hb
theorem gv0{ps:List (Str×D)}(hl:ps.length<=20)(hv:∀v∈ps.map (·.2),Vb v):Ok 3 (.tup (ps.map pr)):=.tup (by rw[List.length_map];omega) λd hd=>by
 obtain⟨p,hp,rfl⟩:=B1.mp hd;exact qa0 (.up (.str _)) (Xt0 (hv _ (B1.mpr ⟨p,hp,rfl⟩)))
theorem Ui0{p:Pt}(h:Gq p):Ok 4 p.d:=by
 have hc:=h.few;have s4:∀s:Str,Ok 3 (.str s):=λs=>.up (.up (.up (.str s)))
 cases p with
 | text w=>exact qa0 (s4 _) (s4 _)
 | row vs=>exact qa0 (s4 _) (.up (.tup (by have:vs.length<=12:=hc;omega) λv hv=>Xt0 (h.vals v hv)))
 | table ps=>exact qa0 (s4 _) (gv0 (by have:(ps.map (·.2)).length<=12:=hc;rw[List.length_map] at this;omega) h.vals)
 | rcd c ps =>
  refine .tup (by show 3<=1000;decide) λd hd=>?_
  rcases B0.mp hd with rfl|hd
  ·exact s4 _
  ·rcases B0.mp hd with rfl|hd
   ·exact s4 _
   ·rw[List.mem_singleton.mp hd]
    exact gv0 (by have:(ps.map (·.2)).length<=12:=hc;rw[List.length_map] at this;omega) h.vals
end Ia
namespace Ia
open Ja
open DL W
open Bw (bg sts s60 yg0 mz0 bs pb K8 ix bun yw0 yf0 Gw' Gq Gs Vb small O8 web)
theorem O1(c k:Int)(h0:0<=k)(h1:k<=1000000):∃x,0<=x/\x<2147483647/\o4 [.int c,.int k]=some (.int x):=Bw.O1 c k h0 h1
theorem yt0(ns:List Int)(hb:∀z∈ns,z.natAbs.log2<=1048576)(k:Int)(h0:0<=k)(h1:k<=1000):∃z,d7 [.lst (ns.map .int),.int k]=some (.int z)/\z.natAbs.log2<=1048576:=Bw.yt0 ns hb k h0 h1
theorem ec0(h:Gw' ps):O4 [web ps]=some (.tup [.lst ((bun ps).map .int),.int ((ix ps).length:Int),.lst (sts ps (ps.length+1))]):=Bw.Vf0 h
theorem cf0:ul0 (.int 10) (.int 59)=some (.int (10 ^ 59)):=by kernel_rfl
theorem ut0(ps:List Pt)(n k:Nat)(hk:k<n):ixD (.lst (sts ps n)) (.int (k:Int))=some (.int ((bg ps k:Nat):Int)):=by
 show atI (sts ps n) (k:Int)=_;unfold Bw.sts;rw[zk0 (by omega) (by rw[List.length_map,List.length_range];omega) .non];simp[List.getD_eq_getElem?_getD,hk]
theorem s40(ps:List Pt)(δ:Ds)(h:δ[2]?=some (.sh (web ps))):oA (z7 (gv 2) v4) Z5 δ=some (.int (ps.length:Int)):=by
 rw[t7 (ds:=[web ps]) (cons_of (by unfold gv;rw[h]) rfl)];show some (D.int (((ps.map Pt.d).length:Nat):Int))=_;rw[List.length_map]
end Ia
namespace Ja
open DL W K22
def y70:GZ:=(U6 (okZ (o9 (gN 2) (oA (z7 (gv 0) (z7 (gc (.int 0)) v4)) W2)))
 (U6 (ifZ (w50 (ob (o2 (gv 1) (gc (.int 0)) ltD)) (ob (o2 (gv 1) (o2 (gv 2) (gc (.int 0)) ixD) geD)))
 (U6 (mj0 "NoPlace")
 ui0)
 ui0)
 (U6 (okZ (o9 (gN 3) (o2 (gv 2) (gc (.int 1)) ixD)))
 (U6 (okZ (N5 4 (Z6 v4)))
 (U6 (okZ (X5 (ob (o2 (z20 (oA (z7 (gv 4) v4) Z5)) (o2 (gv 2) (gc (.int 0)) ixD) ltD))
 (v6 (o9 (gN 5) (oA (z7 (gv 0) (z7 (gv 3) v4)) W2))
 (v6 (Z8 (G4 4 (o2 (gv 5) (gc (.int 0)) ixD)))
 (v6 (o9 (gN 3) (o2 (gv 5) (gc (.int 1)) ixD))
 u6))) 100000))
 (U6 (okZ (uc0 4 (N5 6 (Z6 v4))))
 (U6 (okZ (M4 (O9 (gv 4)) (gN 5)
 (v6 (Z8 (G4 6 (gv 3)))
 (v6 (sz0 3 (gv 5))
 u6))))
 (U6 (okZ (j7 (u40 (gv 6))))
 ui0))))))))
def y30:List Str:=["look", "k", "count", "place", "sizes", "size", "starts"]
def X8:List D->Option DX:=mkX 2 y30 y70
def pn0:GS:=(v6 (N5 3 (Z6 v4))
 (v6 (N5 4 (oA (z7 (gv 2) v4) vy0))
 (v6 (N5 5 (Z6 (z7 (gv 1) v4)))
 (v6 (X5 (ob (o2 (z20 (oA (z7 (gv 5) v4) Z5)) (gc (.int 0)) gtD))
 (v6 (T4 (vh0 5) (gN 6))
 (v6 (ifD (vi0 (ob (o2 (gv 6) (gv 4) (xz0 true))))
 (v6 (T4 (Q3 (gc (.bl true))) (putAt 4 (gv 6)))
 (v6 (Z8 (G4 3 (gv 6)))
 (v6 (Z8 (yq0 5 (oA (z7 (oA (z7 (o2 (gv 0) (gv 6) J6) v4) M6) v4) ph0)))
 u6)))
 u6)
 u6)) 100000)
 (v6 (i00 3)
 u6)))))
def pz0:List Str:=["web", "k", "left", "order", "seen", "waiting", "part"]
def vd0:List D->Option D:=mkN 3 pz0 pn0
def cz0:GS:=(v6 (z30 (oA (z7 (gv 0) (z7 (gv 1) (z7 (gc (.dct (.inl []) [])) v4))) vd0))
 u6)
def cx0:List Str:=["web", "k"]
def uh0:List D->Option D:=mkN 2 cx0 cz0
def jg0:GS:=(v6 (o9 (gN 2) (lq0 (oA (z7 (gv 0) (z7 (gv 1) v4)) uh0)))
 (v6 (N5 3 (gc (.dct (.inl []) [])))
 (v6 (M4 (q20 (z7 (gv 2) v4)) (yu0 4 5)
 (v6 (T4 (Q3 (gv 4)) (putAt 3 (gv 5)))
 u6))
 (v6 (j7 (u40 (oA (z7 (b8 1 [0,3] (O9 (gv 2)) (gN 0) noT (oA (z7 (o2 (gv 1) (gv 0) J6) (z7 (gv 2) v4)) wd0)) v4) S9)))
 u6))))
def qw0:List Str:=["web", "k", "order", "numbers", "number", "part"]
def xg0:List D->Option D:=mkF 2 qw0 jg0
def lf0:GZ:=(U6 (ie0 (z7 (gv 0) (z7 (gv 1) v4)) X8 2)
 (U6 (okZ (N5 3 (gc (.dct (.inl []) []))))
 (U6 (okZ (N5 4 (Z6 (z7 (gv 1) v4))))
 (U6 (okZ (X5 (ob (o2 (z20 (oA (z7 (gv 4) v4) Z5)) (gc (.int 0)) gtD))
 (v6 (T4 (vh0 4) (gN 5))
 (v6 (ifD (vi0 (ob (o2 (gv 5) (gv 3) (xz0 true))))
 (v6 (T4 (Q3 (oA (z7 (gv 0) (z7 (o2 (gv 2) (gv 5) ixD) v4)) K6)) (putAt 3 (gv 5)))
 (v6 (Z8 (yq0 4 (oA (z7 (ux0 (o2 (gv 3) (gv 5) J6)) v4) M6)))
 u6))
 u6)
 u6)) 100000))
 (U6 (okZ (j7 (u40 (oA (z7 (gv 3) (z7 (gv 1) v4)) xg0))))
 ui0)))))
def ma0:List Str:=["look", "k", "starts", "parts", "waiting", "number"]
def K1:List D->Option DX:=mkX 2 ma0 lf0
def y80(T9:List D->Option D):GS:=(v6 (ifD (ob (o2 (gv 1) (gc .non) qx0))
 (v6 (j7 (o2 (gv 0) (gc .non) qx0))
 u6)
 u6)
 (v6 (ifD (ob (S7 isStr (gv 1)))
 (v6 (j7 (wl0 (S7 isStr (gv 0)) (o2 (gv 0) (gv 1) eqD)))
 u6)
 u6)
 (v6 (ifD (ob (S7 isInt (gv 1)))
 (v6 (j7 (wl0 (S7 isInt (gv 0)) (wl0 (jz0 (S7 isBool (gv 0))) (o2 (gv 0) (gv 1) eqD))))
 u6)
 u6)
 (v6 (ifD (w50 (ob (o2 (S7 isTup (gv 0)) (S7 isTup (gv 1)) neD)) (ob (o2 (S7 q90 (gv 0)) (S7 q90 (gv 1)) neD)))
 (v6 (j7 (gc (.bl false)))
 u6)
 u6)
 (v6 (j7 (wl0 (o2 (oA (z7 (gv 0) v4) Z5) (oA (z7 (gv 1) v4) Z5) eqD) (oA (z7 (b8 1 [0,1] (J1 (z7 (oA (z7 (gv 1) v4) Z5) v4)) (gN 0) noT (oA (z7 (o2 (gv 1) (gv 0) ixD) (z7 (o2 (gv 2) (gv 0) ixD) v4)) T9)) v4) lr0)))
 u6)))))
def ze0:List Str:=["_law_found", "_law_due"]
def d9:Nat->List D->Option D:=Bw.d9
def T9:List D->Option D:=d9 8
def m9:Nat->List D->Option (List D):=Km.m9
def Y5:List D->Option (List D):=m9 62
def O2(Y5:List D->Option (List D)):GS:=(v6 (ifD (vi0 (ob (o2 (gv 1) (gv 2) (w00 true))))
 (v6 (Z8 (l20 2 (gv 1)))
 (v6 (M4 (O9 (oA (z7 (o2 (gv 0) (gv 1) ixD) v4) U3)) (gN 3)
 (v6 (y40 2 (z7 (gv 0) (z7 (gv 3) v4)) Y5)
 u6))
 u6))
 u6)
 u6)
def M5:List Str:=["_law_web", "_law_at", "_law_found", "_law_other"]
section
def yr0:GS:=(v6 (N5 2 (Z6 v4))
 (v6 (y40 2 (z7 (gv 0) (z7 (gv 1) v4)) Y5)
 (v6 (uc0 2 (N5 3 (gc (.dct (.inl []) []))))
 (v6 (M4 (O9 (gv 2)) (gN 4)
 (v6 (T4 (Q3 (z20 (oA (z7 (gv 3) v4) s00))) (putAt 3 (gv 4)))
 u6))
 (v6 (uc0 3 (N5 5 (Z6 v4)))
 (v6 (M4 (O9 (gv 2)) (gN 4)
 (v6 (o9 (gN 6) (o2 (gv 0) (gv 4) ixD))
 (v6 (ifD (ob (o2 (o2 (gv 6) (gc (.int 0)) ixD) (gc (.str "row")) eqD))
 (v6 (o9 (gN 6) (Y4 (z7 (gc (.str "row")) (z7 (oA (z7 (b8 1 [3] (tupI (o2 (gv 6) (gc (.int 1)) ixD)) (gN 0) noT (oA (z7 (gv 0) (z7 (gv 1) v4)) V6)) v4) S9) v4))))
 u6)
 (v6 (ifD (ob (o2 (o2 (gv 6) (gc (.int 0)) ixD) (gc (.str "text")) neD))
 (v6 (o9 (gN 7) (b8 2 [3] (tupI (o2 (gv 6) (unG J5 (gc (.int 1))) ixD)) (yu0 0 1) noT (Y4 (z7 (gv 0) (z7 (oA (z7 (gv 1) (z7 (gv 2) v4)) V6) v4)))))
 (v6 (o9 (gN 6) (o2 (y90 (gv 6) J3 (someO (unG J5 (gc (.int 1))))) (Y4 (z7 (oA (z7 (gv 7) v4) S9) v4)) o5))
 u6))
 u6)
 u6))
 (v6 (Z8 (G4 5 (gv 6)))
 u6))))
 (v6 (j7 (u40 (oA (z7 (gv 5) v4) S9)))
 u6)))))))
def J9:List Str:=["_law_web", "_law_at", "_law_found", "_law_numbers", "_law_k", "_law_parts", "_law_part", "_law_pairs"]
def M8:List D->Option D:=mkF 2 J9 yr0
def vj0:GS:=(v6 (o9 (gN 2) (gc .non))
 (v6 (jl0 ["NoPlace"] 3 (U6 (qh0 (z7 (gv 0) (z7 (gv 1) v4)) K1)
 ui0)
 (v6 (cpX 2 3)
 u6))
 (v6 (j7 (exI 2 ["NoPlace"] λc=>decide (c = "NoPlace")))
 u6)))
def vz0:List Str:=["_law_look_here", "_law_k", "_law_kept", "e"]
def G6:List D->Option D:=mkF 2 vz0 vj0
def cp0:GS:=(v6 (o9 (gN 1) (gc (.int 12)))
 (v6 (ifD (ob (o2 (o2 (oA (z7 (gv 0) (z7 (gc (.int 0)) v4)) d7) (gc (.int 4)) Z0) (gc (.int 1)) eqD))
 (v6 (o9 (gN 1) (gc (.int 60)))
 u6)
 u6)
 (v6 (o9 (gN 2) (oA (z7 (gv 0) (z7 (gc (.int 1)) (z7 (gv 1) v4))) yj0))
 (v6 (T4 (Q3 (oA (z7 (gv 2) v4) O4)) (dv0 3 4 5))
 (v6 (M4 (O9 (o2 (Z6 (z7 (gc (.int 0)) v4)) (b8 1 [0,2] (J1 (z7 (gc (.int 2)) v4)) (gN 0) noT (o2 (oA (z7 (oA (z7 (gv 1) (z7 (gc (.int 62)) v4)) d7) (z7 (o2 (gc (.int 90)) (gv 0) o5) v4)) o4) (oA (z7 (gv 2) v4) Z5) Z0)) o5)) (gN 6)
 (v6 (N5 7 (Z6 v4))
 (v6 (y40 7 (z7 (gv 2) (z7 (gv 6) v4)) Y5)
 (v6 (uc0 7 (o9 (gN 8) (oA (z7 (gv 3) (z7 (o2 (Z6 (z7 (Y4 (z7 (gc (.int 0)) (z7 (gv 4) v4))) v4)) (b8 1 [5] (O9 (gv 7)) (gN 0) noT (Y4 (z7 (o2 (gv 1) (gv 0) ixD) (z7 (o2 (gv 1) (o2 (gv 0) (gc (.int 1)) o5) ixD) v4)))) o5) v4)) U5)))
 (v6 (ifD (v90 (ob (oA (z7 (oA (z7 (gv 8) (z7 (gv 6) v4)) (zw0 K1)) (z7 (oA (z7 (gv 2) (z7 (gv 6) v4)) M8) v4)) T9)))
 (v6 (j7 (gc (.bl false)))
 u6)
 u6)
 u6)))))
 (v6 (o9 (gN 9) (o2 (oA (z7 (gv 0) (z7 (gc (.int 61)) v4)) d7) (o2 (gc (.int 10)) (gc (.int 59)) ul0) Z0))
 (v6 (M4 (O9 (Z6 (z7 (unG J5 (gc (.int 1))) (z7 (oA (z7 (gv 2) v4) Z5) (z7 (o2 (oA (z7 (gv 2) v4) Z5) (gv 9) o5) (z7 (o2 (unG J5 (gc (.int 1))) (gv 9) xj0) v4)))))) (gN 10)
 (v6 (ifD (v90 (ob (oA (z7 (oA (z7 (gv 3) (z7 (Z6 (z7 (Y4 (z7 (gc (.int 0)) (z7 (gv 4) v4))) v4)) v4)) U5) (z7 (gv 10) v4)) G6)))
 (v6 (j7 (gc (.bl false)))
 u6)
 u6)
 u6))
 (v6 (j7 (gc (.bl true)))
 u6))))))))
def nl0:List Str:=["_law_script", "_law_most", "_law_web", "_law_whole", "_law_index", "_law_begins", "_law_at", "_law_order", "_law_look_here", "_law_far", "_law_odd"]
def tx0:List D->Option D:=mkF 1 nl0 cp0
end
end Ja
namespace Ja
open DL W K22
open Km (Wb ix pd kb kb_mem mn0 rz0 mx0 ny0 laid ro0 ra0)
def pq(ps:List Pt)(k:Nat):Pt:=ps.getD k (.row [])
theorem qj0{k:Nat}(hk:k<ps.length):pq ps k=ps[k]:=by unfold pq;simp[hk]
theorem n90(hw:Wb ps){k:Nat}(hk:k<ps.length):Pw ps.length (pq ps k):=by
 rw[qj0 hk];have hm:=D6 hk;exact⟨(hw.it _ hm).few,λv hv=>Km.ji0 ((hw.it _ hm).vals v hv) (hw.lk _ hm v hv)⟩
def A(ps:List Pt)(i:Nat):List Nat:=tgs (pq ps i).vals
theorem i40(hw:Wb ps)(hi:i<ps.length):(A ps i).length<=12/\∀j∈A ps i,j<ps.length:=by
 have h:=n90 hw hi;exact⟨C3 (ks0 _) h.few,h50 h.lv⟩
def dd(ps:List Pt)(o:List Nat):D:=.dct (.inl (kd o)) (o.map λk=>(pq ps k).d)
theorem qg0(ps:List Pt):∀(o:List Nat) (x:Nat),x∈o->J6 (dd ps o) (.int (x:Int))=some (pq ps x).d
 | [],_,h=>by cases h
 | y::o,x,h=>by
  show T6 (Sum.inl (y:Int)::kd o) ((pq ps y).d::o.map λk=>(pq ps k).d) (.inl (x:Int))=_;unfold T6
  by_cases e:y=x
  ·rw[if_pos (by rw[e]),e]
  ·rw[if_neg (λz=>e (by injection z with z;omega))]
   exact qg0 ps o x ((B0.mp h).resolve_left (A4 e))
structure Mt(ps:List Pt)(a:Nat)(r:List Nat):Prop where
 ex:∃c,Dfs (A ps) [] c [] [a] r/\c<=5000
 nd:r.Nodup
 lt:∀y∈r,y<ps.length
 cl:∀i∈r,∀j∈A ps i,j∈r
 me:a∈r
theorem p50{adj:Nat->List Nat}{c:Nat}{o r:List Nat}(h:Dfs adj [] c o T r):∀x,x∈o∨x∈T->x∈r:=by
 induction h with
 | nil o=>exact λx hx=>hx.elim id λz=>by cases z
 | @skip c o T r y hy _ ih =>
  intro x hx;rcases hx with z|z
  ·exact ih x (.inl z)
  ·rcases B0.mp z with rfl|z
   ·exact ih x (.inl (hy.resolve_right (by simp)))
   ·exact ih x (.inr z)
 | @visit c o T r y _ _ _ _ ih =>
  intro x hx;rcases hx with z|z
  ·exact ih x (.inl (D7 _ z))
  ·rcases B0.mp z with rfl|z
   ·exact ih x (.inl (C6 _ (C8.mpr rfl)))
   ·exact ih x (.inr (C6 _ z))
theorem Xb0{adj:Nat->List Nat}{C:Nat->Prop}(hC:∀i,C i->∀j∈adj i,C j){c:Nat}{o r:List Nat}(h:Dfs adj [] c o T r):(∀x∈o,C x)->(∀x∈T,C x)->∀x∈r,C x:=by
 induction h with
 | nil o=>exact λh _=>h
 | @skip c o T r y hy _ ih=>exact λh1 h2=>ih h1 λx hx=>h2 x (A5 _ hx)
 | @visit c o T r y _ _ _ _ ih =>
  intro h1 h2;have hy:=h2 y A8;refine ih (λx hx=>?_) λx hx=>?_
  ·rcases B4.mp hx with z|z
   ·exact h1 x z
   ·rw[List.mem_singleton.mp z];exact hy
  ·rcases B4.mp hx with z|z
   ·exact hC y hy x z
   ·exact h2 x (A5 _ z)
theorem Va0(hw:Wb ps){a:Nat}(ha:a<ps.length):∃r,Mt ps a r:=by
 obtain⟨c,r,h1,h2,h3,h4,_⟩:=gr0 (A ps) [] ps.length hw.len.2 (λi hi=>i40 hw hi) 1000 [] [a] (by have:=hw.len.2;simp only[List.length_cons,List.length_nil];omega) (by decide) c9 (λy hy=>by cases hy) (λy hy=>by rw[List.mem_singleton.mp hy];exact ha);obtain⟨_,f2⟩:=o50 h1 λi hi=>by cases hi
 exact⟨r,⟨c,h1,by omega⟩,h3,λy hy=>(h4 y hy).1,λi hi j hj=>(f2 i hi j hj).resolve_right (by simp),p50 h1 a (.inr (C8.mpr rfl))⟩
theorem Mt.len(hw:Wb ps){a:Nat}{r:List Nat}(m:Mt ps a r):r.length<=60:=by
 have:=sub_len m.nd (m:=List.range ps.length) λy hy=>B8.mpr (m.lt y hy)
 rw[List.length_range] at this;exact C3 this hw.len.2
section
variable(hw:Wb ps){a:Nat}{r o:List Nat}(m:Mt ps a r)(ho:∀x∈r,x∈o)
include hw m ho
theorem fj0:vd0 [dd ps o,.int (a:Int),.dct (.inl []) []]=some (.lst (nd r)):=by
 obtain⟨c,hd,hc⟩:=m.ex;obtain⟨s',e⟩:=e30 (W:=dd ps o) (k:=.sh (.int (a:Int))) (l:=.sh (.dct (.inl []) [])) (U:=[]) (op:=J6) (P:=λy=>y∈r) (S:=[]) (λy=>Iff.rfl) (by simp) (λy hy=>by
  refine⟨_,qg0 ps o y (ho y hy),wk0 (n90 hw (m.lt y hy)),(i40 hw (m.lt y hy)).1,m.cl y hy⟩) hd (λy hy=>by rw[List.mem_singleton.mp hy];exact m.me) (by simp) 100000 .un (by omega)
 exact Q9 rfl (v5 (δ':=[.sh (dd ps o),.sh (.int (a:Int)),.sh (.dct (.inl []) []),.ow (.lst []),.un,.un,.un]) rfl (v5 (δ':=[.sh (dd ps o),.sh (.int (a:Int)),.sh (.dct (.inl []) []),.ow (.lst []),.ow (.dct (.inl []) []),.un,.un]) rfl (v5 (δ':=ms (dd ps o) (.sh (.int (a:Int))) (.sh (.dct (.inl []) [])) [] [] [a] .un) rfl (v5 e (R5 rfl)))))
theorem Vc0:uh0 [dd ps o,.int (a:Int)]=some (.lst (nd r)) :=
 Q9 rfl (R5 (O5 (by rw[t7 (ds:=[dd ps o,.int (a:Int),.dct (.inl []) []]) rfl];exact fj0 hw m ho)))
end
theorem mq0(r:List Nat):(yl0 (nd r)).length=r.length:=by unfold yl0;rw[List.length_map,List.length_range,K4]
theorem d60{r:List Nat}{d:D}(h:(yl0 (nd r))[j]?=some d):∃k,r[j]?=some k/\d=.tup [.int (j:Int),.int (k:Int)]:=by
 have J:j<r.length:=by
  have:=(C4.mp h).1
  rwa [mq0] at this
 refine⟨r[j],D9 J,?_⟩;unfold yl0 at h;rw[List.getElem?_map,List.getElem?_range (by rw[K4];exact J)] at h;have e:(nd r).getD j .non=.int (r[j]:Int):=by unfold nd;simp[J]
 rw[← e];exact(B6 h).symm
theorem be0{gA:GA}(δ:Ds)(r:List Nat)(h:gA δ=some [.lst (nd r)]):q20 gA δ=some (yl0 (nd r)):=by
 unfold q20;rw[h];rfl
def NB:GS:=(v6 (T4 (Q3 (gv 4)) (DL.putAt 3 (gv 5))) u6)
theorem Vx0{B:List Nat}{k:Nat}(hB:B.length<=60)(hk:k∉B)(a b c:Sl):T4 (Q3 (gv 4)) (DL.putAt 3 (gv 5)) [a,b,c,.ow (pd (kb B)),.sh (.int (B.length:Int)),.sh (.int (k:Int))]=some (.nx [a,b,c,.ow (pd (kb (B++[k]))),.sh (.int (B.length:Int)),.sh (.int (k:Int))]):=by
 have zs:(1000000:Nat)<=sizeLine:=by decide
 rw[← rz0 B];show Option.map Res.nx (if (kb B).length<sizeLine then some ([a,b,c,.ow (.dct (.inl (Q0 (kb B) (.inl (k:Int)))) (M3 (kb B) (nd (List.range (kb B).length)) (.inl (k:Int)) (.int ((kb B).length:Int)))),.sh (.int ((kb B).length:Int)),.sh (.int (k:Int))]:Ds) else none)=_;rw[if_pos (by rw[rz0];omega),mx0 (λz=>hk ((kb_mem B k).mp z))];unfold kb;rw[List.map_append];rfl
theorem Zm0{r:List Nat}(h:j∈r):J6 (pd (kb r)) (.int (j:Int))=some (.int (ix r j:Int)):=by
 show T6 (kb r) (nd (List.range (kb r).length)) (.inl (j:Int))=_;rw[ny0 ((kb_mem r j).mpr h),mn0]
theorem bt0(hw:Wb ps){a:Nat}{r o:List Nat}(m:Mt ps a r)(ho:∀x∈r,x∈o):xg0 [dd ps o,.int (a:Int)]=some (Bw.web (laid ps r)):=by
 have zs:(2000:Nat)<=sizeLine:=by decide
 have O:=m.len hw;obtain⟨δ',l1,s4,s5,rfl⟩:=S6 (f:=yu0 4 5) (G:=NB) (λi δ=>∃s4 s5:Sl,δ=[.sh (dd ps o),.sh (.int (a:Int)),.sh (.lst (nd r)),.ow (pd (kb (r.take i))),s4,s5]) (yl0 (nd r)) 0 [.sh (dd ps o),.sh (.int (a:Int)),.sh (.lst (nd r)),.ow (pd (kb (r.take 0))),.un,.un] (by
  rintro j d δ hj ⟨s4,s5,rfl⟩;rw[Nat.zero_add];obtain⟨k,hk,rfl⟩:=d60 hj;have J:=(C4.mp hk).1;have e1:r.take (j+1)=r.take j++[k]:=by rw[List.take_succ,hk];rfl
  have hl:(r.take j).length=j:=by rw[List.length_take];omega
  have hp:=Vx0 (B:=r.take j) (k:=k) (by omega) (ra0 m.nd hk) (.sh (dd ps o)) (.sh (.int (a:Int))) (.sh (.lst (nd r)));rw[hl] at hp;exact⟨[.sh (dd ps o),.sh (.int (a:Int)),.sh (.lst (nd r)),.ow (pd (kb (r.take j))),.sh (.int (j:Int)),.sh (.int (k:Int))],_,rfl,v5 hp rfl,.sh (.int (j:Int)),.sh (.int (k:Int)),by rw[e1]⟩) ⟨.un,.un,rfl⟩
 rw[Nat.zero_add,mq0,List.take_length] at l1;refine j9 rfl (v5 (o8 (d:=.lst (nd r)) (aq0 ?_ (l90 r))) (v5 (δ':=[.sh (dd ps o),.sh (.int (a:Int)),.sh (.lst (nd r)),.ow (pd (kb (r.take 0))),.un,.un]) rfl (v5 (Q4 (items:=yl0 (nd r)) ?_ l1) (p6 (d8 ?_)))))
 ·show oA (z7 (gv 0) (z7 (gv 1) v4)) uh0 [.sh (dd ps o),.sh (.int (a:Int)),.un,.un,.un,.un]=_
  rw[t7 (ds:=[dd ps o,.int (a:Int)]) rfl];exact Vc0 hw m ho
 ·exact be0 _ r rfl
 ·show oA _ S9 [.sh (dd ps o),.sh (.int (a:Int)),.sh (.lst (nd r)),.sh (pd (kb r)),zu0 s4,zu0 s5]=_
  rw[t7 (ds:=[.lst ((laid ps r).map Pt.d)]) (cons_of (Y6 (items:=nd r) rfl (by rw[K4];omega) (by
   unfold nd laid;rw[List.map_map];refine Ia.uy0 _ _ r λi hi=>⟨[.sh (.int (i:Int)),.sh (dd ps o),.sh (pd (kb r))],rfl,rfl,?_⟩
   rw[t7 (ds:=[(pq ps i).d,pd (kb r)]) (cons_of (by rw[t6 (x:=dd ps o) (y:=.int (i:Int)) rfl rfl];exact qg0 ps o i (ho i hi)) rfl)];exact k90 (n90 hw (m.lt i hi)) (ix r) _ λj hj=>Zm0 (m.cl i hi j hj))) rfl)]
  rfl
end Ja
namespace Ja
open DL W K22
open Km (Wb laid)
open Bw (bg sts ix pb K8 Gw' Gq Gs Vb)
open Ia (Tel zto zok zrt zex)
theorem Yq0{p:Pt}(h:Gq p):tree p.d=true:=by
 have tv:∀{v:D},Vb v->tree v=true:=λ{v} hv=>by cases hv<;>rfl
 have tl:∀l:List D,(∀v∈l,Vb v)->trees l=true:=by
  intro l
  induction l with
  | nil=>intro _;rfl
  | cons v l ih=>intro hl;rw[trees,tv (hl v A8),ih λu hu=>hl u (A5 _ hu)];rfl
 have tp:∀l:List (Str×D),(∀v∈l.map (·.2),Vb v)->trees (l.map pr)=true:=by
  intro l
  induction l with
  | nil=>intro _;rfl
  | cons v l ih =>
   intro hl;have e:tree (pr v)=true:=by
    show (tree (.str v.1)&&(tree v.2&&true))=true;rw[tv (hl v.2 A8)];rfl
   rw[List.map_cons,trees,e,ih λu hu=>hl u (A5 _ hu)];rfl
 cases p with
 | text w=>rfl
 | row vs=>show (true&&(trees vs&&true))=true;rw[tl vs h.vals];rfl
 | table ps=>show (true&&(trees (ps.map pr)&&true))=true;rw[tp ps h.vals];rfl
 | rcd c ps=>show (true&&(true&&(trees (ps.map pr)&&true)))=true;rw[tp ps h.vals];rfl
theorem ck0(hw:Wb ps):Gw' ps:=⟨hw.len.2,hw.it⟩
def WT:GB:=(ob (o2 (z20 (oA (z7 (gv 4) v4) Z5)) (gc (.int 0)) gtD))
def WB:GS:=(v6 (T4 (vh0 4) (gN 5))
 (v6 (ifD (vi0 (ob (o2 (gv 5) (gv 3) (xz0 true))))
 (v6 (T4 (Q3 (oA (z7 (gv 0) (z7 (o2 (gv 2) (gv 5) ixD) v4)) K6)) (putAt 3 (gv 5)))
 (v6 (Z8 (yq0 4 (oA (z7 (ux0 (o2 (gv 3) (gv 5) J6)) v4) M6)))
 u6))
 u6)
 u6))
def ws(ps:List Pt)(F:D)(k:Sl)(o T:List Nat)(s:Sl):Ds:=[.sh F,k,.sh (.lst (sts ps ps.length)),.ow (dd ps o),.ow (.lst (nd T.reverse)),s]
section
variable{k:Sl}
theorem ix0(s:Sl)(o T:List Nat):WT (ws ps F k o T s)=some (decide (0<T.length)):=by
 have e:z20 (oA (z7 (gv 4) v4) Z5) (ws ps F k o T s)=some (.int (T.length:Int)):=by
  show some (D.int ((nd T.reverse).length:Int))=_;rw[K4,List.length_reverse]
 unfold WT ob;rw[t6 (x:=.int (T.length:Int)) (y:=.int 0) e rfl];show some (decide ((0:Int)<(T.length:Int)))=_;congr 1;rw[decide_eq_decide];omega
theorem Yh0(s:Sl)(o T:List Nat)(x:Nat):T4 (vh0 4) (gN 5) (ws ps F k o (x::T) s)=some (.nx (ws ps F k o T (.sh (.int (x:Int))))):=by
 have e1:owL 4 (ws ps F k o (x::T) s)=some (nd (x::T).reverse):=rfl;have e2:nd (x::T).reverse=nd T.reverse++[.int (x:Int)]:=by rw[List.reverse_cons,wo0];rfl
 unfold T4 vh0;rw[e1,Option.bind_some,e2,List.getLast?_concat,List.dropLast_concat];rfl
theorem ca0(o T:List Nat)(x:Nat):vi0 (ob (o2 (gv 5) (gv 3) (xz0 true))) (ws ps F k o T (.sh (.int (x:Int))))=some (decide (x∉o)):=by
 show some (xor true (R6 (kd o) (.inl (x:Int))))=_;rw[rl0,Bool.true_xor];congr 1
 by_cases h:x∈o
 ·rw[decide_eq_true h,decide_eq_false (λz=>z h)];rfl
 ·rw[decide_eq_false h,decide_eq_true h];rfl
theorem it0(hw:Wb ps){C:Nat->Prop}(hlt:∀x,C x->x<ps.length)(hC:∀x,C x->∀j∈A ps x,C j)(hp:∀x,C x->K6 [F,.int ((bg ps x:Nat):Int)]=some (pq ps x).d):∀{c:Nat} {o T r:List Nat},Dfs (λx=>(A ps x).reverse) [] c o T r->(∀x∈T,C x)->o.length+T.length<=10001->∀(m:Nat) (s:Sl),c<m->∃s',X5 WT WB m (ws ps F k o T s)=some (.nx (ws ps F k r [] s')):=by
 intro c o T r h
 induction h with
 | nil o =>
  intro _ _ m s hm;cases m with
  | zero=>omega
  | succ m=>exact⟨s,Ia.p70 (by rw[ix0];rfl)⟩
 | @skip c o T r x hx hd ih =>
  intro hT hl m s hm;cases m with
  | zero=>omega
  | succ m =>
   rw[List.length_cons] at hl;obtain⟨s',e⟩:=ih (λy hy=>hT y (A5 _ hy)) (by omega) m (.sh (.int (x:Int))) (by omega);have Y:x∈o:=hx.resolve_right (by simp);have eb:WB (ws ps F k o (x::T) s)=some (.nx (ws ps F k o T (.sh (.int (x:Int))))) :=
    v5 (Yh0 s o T x) (v5 (δ':=ws ps F k o T (.sh (.int (x:Int)))) (by rw[Z4 (by rw[ca0,decide_eq_false (λz=>z Y)])];rfl) rfl)
   exact⟨s',(Ia.s50 (by rw[ix0,decide_eq_true (by simp)]) eb).trans e⟩
 | @visit c o T r x hx hxS hz hd ih =>
  intro hT hl m s hm;cases m with
  | zero=>omega
  | succ m =>
   have O:=hT x A8;have J:=hlt x O;have zs:(20000:Nat)<=sizeLine:=by decide
   rw[List.length_append,List.length_reverse] at hz;obtain⟨s',e⟩:=ih (λy hy=>by
    rcases B4.mp hy with q|q
    ·exact hC x O y (q5.mp q)
    ·exact hT y (A5 _ q)) (by simp only[List.length_append,List.length_singleton,List.length_reverse];omega) m (.sh (.int (x:Int))) (by omega)
   have p1:T4 (Q3 (oA (z7 (gv 0) (z7 (o2 (gv 2) (gv 5) ixD) v4)) K6)) (putAt 3 (gv 5)) (ws ps F k o T (.sh (.int (x:Int))))=some (.nx (ws ps F k (o++[x]) T (.sh (.int (x:Int))))):=by
    have hk:R6 (kd o) (.inl (x:Int))=false:=by rw[rl0,decide_eq_false hx]
    have e1:Q0 (kd o) (.inl (x:Int))=kd (o++[x]):=by
     unfold Q0;rw[hk,if_neg (by simp),ho0];rfl
    have e2:M3 (kd o) (o.map λk=>(pq ps k).d) (.inl (x:Int)) (pq ps x).d=(o++[x]).map λk=>(pq ps k).d:=by
     unfold M3;rw[hk,if_neg (by simp),List.map_append];rfl
    have ev:oA (z7 (gv 0) (z7 (o2 (gv 2) (gv 5) ixD) v4)) K6 (ws ps F k o T (.sh (.int (x:Int))))=some (pq ps x).d:=by
     rw[t7 (ds:=[F,.int ((bg ps x:Nat):Int)]) (cons_of rfl (cons_of (by rw[t6 (x:=.lst (sts ps ps.length)) (y:=.int (x:Int)) rfl rfl];exact Ia.ut0 ps _ x J) rfl))];exact hp x O
    unfold T4 Q3;rw[ev];show ((if (kd o).length<sizeLine then some ([.sh F,k,.sh (.lst (sts ps ps.length)),Sl.ow (.dct (.inl (Q0 (kd o) (.inl (x:Int)))) (M3 (kd o) (o.map λk=>(pq ps k).d) (.inl (x:Int)) (pq ps x).d)),.ow (.lst (nd T.reverse)),.sh (.int (x:Int))]:Ds) else none).map Res.nx)=_;rw[if_pos (by unfold kd;rw[List.length_map];omega),e1,e2];rfl
   have p2:Z8 (yq0 4 (oA (z7 (ux0 (o2 (gv 3) (gv 5) J6)) v4) M6)) (ws ps F k (o++[x]) T (.sh (.int (x:Int))))=some (.nx (ws ps F k (o++[x]) ((A ps x).reverse++T) (.sh (.int (x:Int))))):=by
    have ev:oA (z7 (ux0 (o2 (gv 3) (gv 5) J6)) v4) M6 (ws ps F k (o++[x]) T (.sh (.int (x:Int))))=some (.lst (nd (A ps x))):=by
     rw[t7 (ds:=[(pq ps x).d]) (cons_of (bk0 (by
      show o2 (gv 3) (gv 5) J6 [.sh F,zu0 k,.sh (.lst (sts ps ps.length)),.sh (dd ps (o++[x])),.sh (.lst (nd T.reverse)),.sh (.int (x:Int))]=_;rw[t6 (x:=dd ps (o++[x])) (y:=.int (x:Int)) rfl rfl];exact qg0 ps _ x (C6 _ (C8.mpr rfl))) (by
      rw[qj0 J];exact Yq0 (hw.it _ (D6 J)))) rfl)]
     exact wk0 (n90 hw J)
    unfold Z8 yq0;rw[ev];show Option.map _ (if (nd T.reverse).length+(nd (A ps x)).length<=sizeLine then some (D.non,([.sh F,k,.sh (.lst (sts ps ps.length)),.ow (dd ps (o++[x])),Sl.ow (.lst (nd T.reverse++nd (A ps x))),.sh (.int (x:Int))]:Ds)) else none)=_;rw[if_pos (by rw[K4,K4,List.length_reverse];omega),← wo0];unfold ws;rw[List.reverse_append,List.reverse_reverse];rfl
   have eb:WB (ws ps F k o (x::T) s)=some (.nx (ws ps F k (o++[x]) ((A ps x).reverse++T) (.sh (.int (x:Int))))) :=
    v5 (Yh0 s o T x) (v5 (δ':=ws ps F k (o++[x]) ((A ps x).reverse++T) (.sh (.int (x:Int)))) (by
     rw[V4 (by rw[ca0,decide_eq_true hx])];exact v5 p1 (v5 p2 rfl)) rfl)
   exact⟨s',(Ia.s50 (by rw[ix0,decide_eq_true (by simp)]) eb).trans e⟩
end
theorem h80(hw:Wb ps)(hs:∀p∈ps,Gs p){a:Nat}{r:List Nat}(m:Mt ps a r)(h0:Tel F 0 (ix ps))(h1:∀x∈r,Tel F (bg ps x) (pb (pq ps x))):K1 [F,.int (a:Int)]=some (.ok (Bw.web (laid ps r))):=by
 have ha:=m.lt a m.me;have hg:=ck0 hw;have hp:∀x,x∈r->K6 [F,.int ((bg ps x:Nat):Int)]=some (pq ps x).d:=λx hx=>by
  have hq:Gq (pq ps x):=by rw[qj0 (m.lt x hx)];exact hw.it _ (D6 _)
  have J:Gs (pq ps x):=by rw[qj0 (m.lt x hx)];exact hs _ (D6 _)
  exact Ia.jj0 hq J (h1 x hx) (by have:=Ia.Wp0 hg x;have:=K8 hq.gp;omega)
 obtain⟨c,q,d1,d2,d3,d4,_⟩:=gr0 (λx=>(A ps x).reverse) [] ps.length hw.len.2 (λi hi=>⟨by rw[List.length_reverse];exact(i40 hw hi).1,λj hj=>(i40 hw hi).2 j (q5.mp hj)⟩) 1000 [] [a] (by have:=hw.len.2;simp only[List.length_cons,List.length_nil];omega) (by decide) c9 (λy hy=>by cases hy) (λy hy=>by rw[List.mem_singleton.mp hy];exact ha);obtain⟨_,f2⟩:=o50 d1 λi hi=>by cases hi
 obtain⟨s',e⟩:=it0 (F:=F) (k:=.sh (.int (a:Int))) hw (C:=λx=>x∈r) m.lt m.cl hp d1 (λy hy=>by rw[List.mem_singleton.mp hy];exact m.me) (by simp) 100000 .un (by omega);have O:∀x∈r,x∈q:=by
  obtain⟨c',dm,_⟩:=m.ex;refine Xb0 (C:=λx=>x∈q) (λi hi j hj=>(f2 i hi j (q5.mpr hj)).resolve_right (by simp)) dm (λx hx=>by cases hx) λx hx=>?_
  rw[List.mem_singleton.mp hx];exact p50 d1 a (.inr (C8.mpr rfl))
 refine gp0 rfl (zto (δ':=[.sh F,.sh (.int (a:Int)),.sh (.lst (sts ps ps.length)),.un,.un,.un]) ?_ (zto (δ':=[.sh F,.sh (.int (a:Int)),.sh (.lst (sts ps ps.length)),.ow (.dct (.inl []) []),.un,.un]) (zok rfl) (zto (δ':=ws ps F (.sh (.int (a:Int))) [] [a] .un) (zok rfl) (zto (zok e) (zrt (zok (d8 ?_)))))))
 ·show Option.map _ (X8 [F,.int (a:Int)])=_
  rw[show X8 [F,.int (a:Int)]=some (.ok (.lst (sts ps ps.length))) from Ia.fy0 hg h0 (a:Int) (by omega) (by omega)];rfl
 ·show oA (z7 (gv 3) (z7 (gv 1) v4)) xg0 [.sh F,.sh (.int (a:Int)),.sh (.lst (sts ps ps.length)),.sh (dd ps q),.sh (.lst (nd [].reverse)),zu0 s']=_
  rw[t7 (ds:=[dd ps q,.int (a:Int)]) rfl];exact bt0 hw m O
theorem gi0(hg:Gw' ps)(h0:Tel F 0 (ix ps))(k:Int)(hk:k<0∨(ps.length:Int)<=k):K1 [F,.int k]=some (.ex "NoPlace" none):=by
 refine ge0 (δ:=[.sh F,.sh (.int k),.un,.un,.un,.un]) rfl (zex ?_);show Option.map _ (X8 [F,.int k])=_;rw[show X8 [F,.int k]=some (.ex "NoPlace" none) from Ia.gz0 hg h0 k hk];rfl
end Ja
namespace Ja
open DL W K22
open Km (Wb laid)
open Bw (bg sts yg0 ix bun yw0 yf0 pb K8 Gw' Gq Gs Vb O8 web)
open Ia (Tel spn LO LB h00 Cov ng0 qn0 gb0 ig0 zex ec0 ut0 s40)
theorem li0(f:Nat×Nat->Nat):∀(l:List (Nat×Nat)) (j:Nat),((l.take j).map f).sum<=(l.map f).sum
 | [],j=>by simp
 | a::l,0=>by simp
 | a::l,j+1=>by
  have:=li0 f l j;simp only[List.take_succ_cons,List.map_cons,List.sum_cons];omega
theorem dk0(T:List D)(sp:List (Nat×Nat))(hT:T.length<=2000000)(hs:(sp.map λp=>p.2 - p.1).sum<=8000000)(h:∀p∈sp,p.1<=p.2/\p.2<=T.length):∃ks ds,U5 [.lst T,.lst (sp.map spn)]=some (.fn ks ds)/\∀p∈sp,∀i,p.1<=i->i<p.2->T6 ks ds (.inl (i:Int))=some (T.getD i .non):=by
 have z:(10000000:Nat)<=sizeLine:=by decide
 obtain⟨δ',l1,ks,ds,s3,s4,s5,rfl,a1,a2,a3⟩:=S6 (f:=yu0 3 4) (G:=LO) (λj δ=>∃ks ds s3 s4 s5,δ=[.sh (.lst T),.sh (.lst (sp.map spn)),.ow (.dct (.inl ks) ds),s3,s4,s5]/\ks.length=ds.length/\ks.length<=((sp.take j).map λp=>p.2 - p.1).sum/\Cov T ks ds (λi=>∃p∈sp.take j,p.1<=i/\i<p.2)) (sp.map spn) 0 [.sh (.lst T),.sh (.lst (sp.map spn)),.ow (.dct (.inl []) []),.un,.un,.un] (by
  rintro j d δ hj ⟨ks,ds,s3,s4,s5,rfl,a1,a2,a3⟩;rw[Nat.zero_add] at a2 a3 ⊢;rw[List.getElem?_map] at hj;obtain⟨p,hp,rfl⟩:=E6.mp hj;have O:=(C4.mp hp).1;obtain⟨q1,q2⟩:=h p (D5 hp);have e1:sp.take (j+1)=sp.take j++[p]:=by rw[List.take_succ,hp];rfl
  have e2:((sp.take (j+1)).map λp=>p.2 - p.1).sum=((sp.take j).map λp=>p.2 - p.1).sum+(p.2 - p.1):=by rw[e1,List.map_append,List.sum_append];simp
  have e3:=li0 (λp=>p.2 - p.1) sp (j+1);obtain⟨k2,d2,J,b1,b2,b3,b4⟩:=h00 T (.sh (.lst (sp.map spn))) (.sh (.int (p.1:Int))) (.sh (.int (p.2:Int))) s5 a1 a3 q1 q2 (by omega);refine⟨[.sh (.lst T),.sh (.lst (sp.map spn)),.ow (.dct (.inl ks) ds),.sh (.int (p.1:Int)),.sh (.int (p.2:Int)),s5],_,rfl,v5 (Q4 (items:=V8 (p.1:Int) (p.2:Int)) ?_ b1) rfl,k2,d2,_,_,J,rfl,b2,by omega,λi hi=>b4 i ?_⟩
  ·exact ng0 (cons_of rfl (cons_of rfl rfl)) (by omega) (by omega)
  ·obtain⟨r,hr,z1,z2⟩:=hi
   rw[e1] at hr;rcases B4.mp hr with y|y
   ·exact .inl ⟨r,y,z1,z2⟩
   ·have:r=p:=by simpa using y
    subst this;exact .inr ⟨z1,z2⟩) ⟨[],[],.un,.un,.un,rfl,rfl,by simp,λi hi=>by obtain⟨p,hp,_⟩:=hi;simp at hp⟩
 rw[Nat.zero_add,List.length_map,List.take_length] at a3;refine⟨ks,ds,?_,λp hp i h1 h2=>a3 i ⟨p,hp,h1,h2⟩⟩;have g:za0 (j5 zb0 [.lst T,.lst (sp.map spn)])=some (.nx [.sh (.lst T),.sh (.lst (sp.map spn)),.ow (.dct (.inl ks) ds),s3,s4,s5]) :=
  v5 (δ':=[.sh (.lst T),.sh (.lst (sp.map spn)),.ow (.dct (.inl []) []),.un,.un,.un]) rfl (v5 (Q4 (items:=sp.map spn) rfl l1) rfl)
 show mkL 2 2 zb0 za0 _=_;unfold mkL;rw[if_pos (show[D.lst T,D.lst (List.map spn sp)].length=2 from rfl),g];rfl
theorem Y30{adj adj':Nat->List Nat}{c:Nat}{o r:List Nat}(h:Dfs adj [] c o T r):(∀i∈r,adj' i=adj i)->Dfs adj' [] c o T r:=by
 induction h with
 | nil o=>exact λ_=>.nil o
 | skip hx _ ih=>exact λe=>.skip hx (ih e)
 | @visit c o T r x hx hS hz hd ih =>
  intro e;have J:=p50 hd x (.inl (C6 _ (C8.mpr rfl)));have k:=ih e;rw[← e x J] at hz k;exact .visit hx hS hz k
theorem ja0(hw:Wb ps){a:Nat}{r:List Nat}(m:Mt ps a r):Y5 [web ps,.int (a:Int),.lst []]=some (nd r):=by
 obtain⟨c,h1,h2⟩:=m.ex;have ha:=m.lt a m.me;have d:=Y30 (adj':=Km.ya0 (web ps)) h1 λi hi=>hw.adj (m.lt i hi)
 have hv:=Y60 (Km.fx0 hw.good) d ha 62 (by have:=hw.len.2;omega);show Km.m9 62 [web ps,.int (a:Int),.lst (nd [])]=_;rw[Km.in0 hw.good [] 62 a ha c9 (λx hx=>by cases hx),hv];rfl
theorem fi0(hw:Wb ps){a:Nat}{r:List Nat}(m:Mt ps a r):M8 [web ps,.int (a:Int)]=some (web (laid ps r)):=Km.db0 hw m.nd m.lt m.cl (ja0 hw m)
theorem Xh0(hw:Wb ps):T9 [web ps,web ps]=some (.bl true) :=
 Ia.Z40 (n:=5) (.tup (by rw[List.length_map];have:=hw.len.2;omega) λd hd=>by
  obtain⟨p,hp,rfl⟩:=B1.mp hd;exact Ia.Ui0 (hw.it p hp)) 7 (by decide)
theorem refused{k:Int}(h:K1 [F,.int k]=some (.ex "NoPlace" none)):G6 [F,.int k]=some (.bl true):=by
 refine j9 rfl (v5 (δ':=[.sh F,.sh (.int k),.sh .non,.un]) rfl (v5 (δ':=[.sh F,.sh (.int k),.ex "NoPlace" none,.un]) ?_ (p6 (d8 ?_))))
 ·unfold jl0
  rw[zex (c := "NoPlace") (m:=none) (δ':=[.sh F,.sh (.int k),.sh .non,.un]) (by
   unfold qh0;show Option.map _ (K1 [F,.int k])=_;rw[h];rfl)]
  rfl
 ·rfl
def spk(ps:List Pt)(k:Nat):Nat×Nat:=(bg ps k,bg ps (k+1))
theorem j10(hw:Wb ps):∀r:List Nat,(∀k∈r,k<ps.length)->((r.map (spk ps)).map λp=>p.2 - p.1).sum<=r.length*20000
 | [],_=>by simp
 | k::r,h=>by
  have ih:=j10 hw r λj hj=>h j (A5 _ hj)
  have hk:=h k A8;have e:=ig0 (D9 hk);have hl:=K8 (hw.it _ (D6 hk)).gp;simp only[List.map_cons,List.sum_cons,List.length_cons];have:(spk ps k).2 - (spk ps k).1<=20000:=by show bg ps (k+1) - bg ps k<=_;omega
  omega
theorem W20(hw:Wb ps){r:List Nat}(hr:∀k∈r,k<ps.length)(h60:r.length<=60):∃F,U5 [.lst ((bun ps).map .int),.lst (((0,(ix ps).length)::r.map (spk ps)).map spn)]=some F/\Tel F 0 (ix ps)/\∀k∈r,Tel F (bg ps k) (pb (pq ps k)):=by
 have hg:=ck0 hw;have hl:=yf0 hg;have hx:=yw0 hg;have J:(ix ps).length<=(bun ps).length:=by unfold Bw.bun;rw[List.length_append];omega
 have one:∀k∈r,∃post,bun ps=(ix ps++(ps.take k).flatMap pb)++(pb (pq ps k)++post)/\bg ps (k+1)=bg ps k+(pb (pq ps k)).length/\bg ps (k+1)<=(bun ps).length:=λk hk=>by
  obtain⟨post,ep⟩:=gb0 (hr k hk);have es:=ig0 (D9 (hr k hk));rw[← qj0 (hr k hk)] at ep es;refine⟨post,ep,es,?_⟩;have el:(bun ps).length=bg ps k+((pb (pq ps k)).length+post.length):=by
   conv=>lhs;rw[ep]
   unfold Bw.bg;simp only[List.length_append]
  omega
 obtain⟨ks,ds,e,c⟩:=dk0 ((bun ps).map .int) ((0,(ix ps).length)::r.map (spk ps)) (by rw[List.length_map];omega) (by
  have:=j10 hw r hr;simp only[List.map_cons,List.sum_cons];have:r.length*20000<=60*20000:=S0 _ h60;omega) (λp hp=>by
  rw[List.length_map];rcases B0.mp hp with rfl|hp
  ·exact⟨C0 _,J⟩
  ·obtain⟨k,hk,rfl⟩:=B1.mp hp
   obtain⟨_,_,e2,e3⟩:=one k hk;exact⟨by show bg ps k<=bg ps (k+1);omega,e3⟩)
 refine⟨_,e,qn0 (T:=bun ps) (pre:=[]) (post:=ps.flatMap pb) rfl rfl λi _ hi=>c (0,(ix ps).length) A8 i (C0 _) (by simpa using hi),λk hk=>?_⟩;obtain⟨post,e1,e2,e3⟩:=one k hk;exact qn0 (T:=bun ps) e1 (by unfold Bw.bg;rw[List.length_append]) λi h1 h2=>c (spk ps k) (A5 _ (B1.mpr ⟨k,hk,rfl⟩)) i h1 (by show i<bg ps (k+1);omega)
end Ja
namespace Ja
open DL W K22
open Km (Wb laid)
open Bw (bg sts yg0 ix bun yw0 yf0 pb K8 Gw' Gq Gs Vb O8 web)
open Ia (Tel spn ec0 ut0 s40 O1 yt0 cf0)
theorem w40(q:Nat):∀ds l l',m9 (q+1) (ds++[.lst l])=some l'->(ds++[D.lst l]).length=3/\∀p,(false=true/\O2 (m9 q) (M7 M5 ds p l)=some (.rf (lent p l')))∨(false=false/\∃δ',O2 (m9 q) (M7 M5 ds p l)=some (.nx δ')/\δ'[ds.length]?=some (.ow (lent p l'))):=Km.w40 q
theorem xl0(ds:List D):m9 0 ds=none:=Km.xl0 ds
def LB1:GS:=(v6 (N5 7 (Z6 v4))
 (v6 (y40 7 (z7 (gv 2) (z7 (gv 6) v4)) Y5)
 (v6 (uc0 7 (o9 (gN 8) (oA (z7 (gv 3) (z7 (o2 (Z6 (z7 (Y4 (z7 (gc (.int 0)) (z7 (gv 4) v4))) v4)) (b8 1 [5] (O9 (gv 7)) (gN 0) noT (Y4 (z7 (o2 (gv 1) (gv 0) ixD) (z7 (o2 (gv 1) (o2 (gv 0) (gc (.int 1)) o5) ixD) v4)))) o5) v4)) U5)))
 (v6 (ifD (v90 (ob (oA (z7 (oA (z7 (gv 8) (z7 (gv 6) v4)) (zw0 K1)) (z7 (oA (z7 (gv 2) (z7 (gv 6) v4)) M8) v4)) T9)))
 (v6 (j7 (gc (.bl false)))
 u6)
 u6)
 u6))))
def LB2:GS:=(v6 (ifD (v90 (ob (oA (z7 (oA (z7 (gv 3) (z7 (Z6 (z7 (Y4 (z7 (gc (.int 0)) (z7 (gv 4) v4))) v4)) v4)) U5) (z7 (gv 10) v4)) G6)))
 (v6 (j7 (gc (.bl false)))
 u6)
 u6)
 u6)
theorem es0(ns:List Int)(hl:ns.length<=63)(hb:∀z∈ns,z.natAbs.log2<=1048576):tx0 [.lst (ns.map .int)]=some (.bl true):=by
 have z:(10000000:Nat)<=sizeLine:=by decide
 obtain⟨c0,e0,_⟩:=yt0 ns hb 0 (by decide) (by decide);obtain⟨a4,b2,_⟩:=yt0 ns hb 61 (by decide) (by decide);obtain⟨a5,a6,_⟩:=yt0 ns hb 62 (by decide) (by decide);obtain⟨most,hm,a8⟩:∃most:Int,(0<most/\most<=60)/\∀δ:Ds,ifD (ob (o2 (o2 (oA (z7 (gv 0) (z7 (gc (.int 0)) v4)) d7) (gc (.int 4)) Z0) (gc (.int 1)) eqD)) (v6 (o9 (gN 1) (gc (.int 60))) u6) u6 (.sh (.lst (ns.map .int))::.sh (.int 12)::δ)=some (.nx (.sh (.lst (ns.map .int))::.sh (.int most)::δ)):=by
  have t:∀δ:Ds,ob (o2 (o2 (oA (z7 (gv 0) (z7 (gc (.int 0)) v4)) d7) (gc (.int 4)) Z0) (gc (.int 1)) eqD) (.sh (.lst (ns.map .int))::.sh (.int 12)::δ)=some (decide (c0%4=1)):=fun δ=>O8 (by
   rw[t6 (x:=.int (c0%4)) (y:=.int 1) (by
    rw[t6 (x:=.int c0) (y:=.int 4) (by rw[t7 (ds:=[.lst (ns.map .int),.int 0]) rfl];exact e0) rfl];rfl) rfl]
   rfl)
  by_cases h:c0%4=1
  ·exact⟨60,by decide,fun δ=>by rw[V4 (by rw[t,decide_eq_true h])];rfl⟩
  ·exact⟨12,by decide,fun δ=>by rw[Z4 (by rw[t,decide_eq_false h])];rfl⟩
 obtain⟨ps,hp,hg,Y,b3,b5⟩:=Bw.ez0 ns hb 1 (by decide) most hm;have hw:Wb ps:=⟨⟨Y,hg.len⟩,hg.it,b3⟩;have a7:=ec0 hg;have c1:=hg.len;obtain⟨F2,f2,g2⟩:=Ia.Zx0 hg Y;obtain⟨f,hf⟩:∃f:Nat->Nat,∀j:Nat,j<2->f j<ps.length/\o2 (oA (z7 (oA (z7 (gv 1) (z7 (gc (.int 62)) v4)) d7) (z7 (o2 (gc (.int 90)) (gv 0) o5) v4)) o4) (oA (z7 (gv 2) v4) Z5) Z0 [.sh (.int (j:Int)),.sh (.lst (ns.map .int)),.sh (web ps)]=some (.int (f j:Int)):=by
  have:∀j:Nat,∃v:Nat,j<2->v<ps.length/\o2 (oA (z7 (oA (z7 (gv 1) (z7 (gc (.int 62)) v4)) d7) (z7 (o2 (gc (.int 90)) (gv 0) o5) v4)) o4) (oA (z7 (gv 2) v4) Z5) Z0 [.sh (.int (j:Int)),.sh (.lst (ns.map .int)),.sh (web ps)]=some (.int (v:Int)):=λj=>by
   by_cases hj:j<2
   ·obtain⟨x,x0,x1,x2⟩:=O1 a5 (90+(j:Int)) (by omega) (by omega)
    have j0:0<=x%(ps.length:Int):=L1 _ (by omega);have j1:x%(ps.length:Int)<(ps.length:Int):=M1 _ (by omega);refine⟨(x%(ps.length:Int)).toNat,λ_=>⟨by omega,?_⟩⟩;rw[t6 (x:=.int x) (y:=.int (ps.length:Int)) (by
     rw[t7 (ds:=[.int a5,.int (90+(j:Int))]) (cons_of (by rw[t7 (ds:=[.lst (ns.map .int),.int 62]) rfl];exact a6) rfl)];exact x2) (s40 ps _ rfl),Gw.uk0 _ _ (by omega),Int.toNat_of_nonneg j0]
   ·exact⟨0,λh=>absurd h hj⟩
  obtain⟨f,hf⟩:=P8 this;exact⟨f,hf⟩
 obtain⟨as,has⟩:∃as:List Nat,as=0::(List.range 2).map f:=⟨_,rfl⟩;have b4:∀a∈as,a<ps.length:=λa ha=>by
  rw[has] at ha;rcases B0.mp ha with rfl|ha
  ·exact Y
  ·obtain⟨j,hj,rfl⟩:=B1.mp ha
   exact(hf j (B8.mp hj)).1
 obtain⟨δ1,l1,s6,s7,s8,rfl⟩:=S6 (f:=gN 6) (G:=LB1) (λj δ=>∃s6 s7 s8:Sl,δ=[.sh (.lst (ns.map .int)),.sh (.int most),.sh (web ps),.sh (.lst ((bun ps).map .int)),.sh (.int ((ix ps).length:Int)),.sh (.lst (sts ps (ps.length+1))),s6,s7,s8,.un,.un]) (nd as) 0 [.sh (.lst (ns.map .int)),.sh (.int most),.sh (web ps),.sh (.lst ((bun ps).map .int)),.sh (.int ((ix ps).length:Int)),.sh (.lst (sts ps (ps.length+1))),.un,.un,.un,.un,.un] (by
  rintro j d δ hj ⟨s6,s7,s8,rfl⟩;obtain⟨a,ha,rfl⟩:=Km.ro0 hj;have ha:=b4 a (D5 ha);obtain⟨r,m⟩:=Va0 hw ha;have a3:=m.len hw;obtain⟨F,f3,g3,g4⟩:=W20 hw m.lt a3;have b0:=h80 hw b5 m g3 g4;have b6:0<r.length:=List.length_pos_of_mem m.me;have b1:=Km.b80 hw ⟨b6,a3⟩ m.lt m.cl;refine⟨[.sh (.lst (ns.map .int)),.sh (.int most),.sh (web ps),.sh (.lst ((bun ps).map .int)),.sh (.int ((ix ps).length:Int)),.sh (.lst (sts ps (ps.length+1))),.sh (.int (a:Int)),s7,s8,.un,.un],_,rfl,v5 (δ':=[.sh (.lst (ns.map .int)),.sh (.int most),.sh (web ps),.sh (.lst ((bun ps).map .int)),.sh (.int ((ix ps).length:Int)),.sh (.lst (sts ps (ps.length+1))),.sh (.int (a:Int)),.ow (.lst []),s8,.un,.un]) rfl (v5 (δ':=[.sh (.lst (ns.map .int)),.sh (.int most),.sh (web ps),.sh (.lst ((bun ps).map .int)),.sh (.int ((ix ps).length:Int)),.sh (.lst (sts ps (ps.length+1))),.sh (.int (a:Int)),.ow (.lst (nd r)),s8,.un,.un]) ?_ (v5 (δ':=[.sh (.lst (ns.map .int)),.sh (.int most),.sh (web ps),.sh (.lst ((bun ps).map .int)),.sh (.int ((ix ps).length:Int)),.sh (.lst (sts ps (ps.length+1))),.sh (.int (a:Int)),.sh (.lst (nd r)),.sh F,.un,.un]) ?_ (v5 (δ':=[.sh (.lst (ns.map .int)),.sh (.int most),.sh (web ps),.sh (.lst ((bun ps).map .int)),.sh (.int ((ix ps).length:Int)),.sh (.lst (sts ps (ps.length+1))),.sh (.int (a:Int)),.sh (.lst (nd r)),.sh F,.un,.un]) ?_ rfl))),_,_,_,rfl⟩
  ·unfold y40
   show Option.map _ (Y5 [web ps,.int (a:Int),.lst []])=_;rw[ja0 hw m];rfl
  ·show o9 _ _ [.sh (.lst (ns.map .int)),.sh (.int most),.sh (web ps),.sh (.lst ((bun ps).map .int)),.sh (.int ((ix ps).length:Int)),.sh (.lst (sts ps (ps.length+1))),.sh (.int (a:Int)),.sh (.lst (nd r)),s8,.un,.un]=_
   refine o8 (i:=8) (d:=F) ?_;have t1:Z6 (z7 (Y4 (z7 (gc (.int 0)) (z7 (gv 4) v4))) v4) [.sh (.lst (ns.map .int)),.sh (.int most),.sh (web ps),.sh (.lst ((bun ps).map .int)),.sh (.int ((ix ps).length:Int)),.sh (.lst (sts ps (ps.length+1))),.sh (.int (a:Int)),.sh (.lst (nd r)),s8,.un,.un]=some (.lst [spn (0,(ix ps).length)]):=yi0 (cons_of (X7 (cons_of rfl (cons_of rfl rfl)) (by show 2<=sizeLine;omega)) rfl) (by show 1<=sizeLine;omega);have t2:b8 1 [5] (O9 (gv 7)) (gN 0) noT (Y4 (z7 (o2 (gv 1) (gv 0) ixD) (z7 (o2 (gv 1) (o2 (gv 0) (gc (.int 1)) o5) ixD) v4))) [.sh (.lst (ns.map .int)),.sh (.int most),.sh (web ps),.sh (.lst ((bun ps).map .int)),.sh (.int ((ix ps).length:Int)),.sh (.lst (sts ps (ps.length+1))),.sh (.int (a:Int)),.sh (.lst (nd r)),s8,.un,.un]=some (.lst ((r.map (spk ps)).map spn)):=by
    refine Y6 (items:=nd r) rfl (by rw[K4];omega) ?_;rw[List.map_map];refine Ia.uy0 _ _ r λk hk=>⟨[.sh (.int (k:Int)),.sh (.lst (sts ps (ps.length+1)))],rfl,rfl,X7 (cons_of (d:=.int ((bg ps k:Nat):Int)) ?_ (cons_of (d:=.int ((bg ps (k+1):Nat):Int)) ?_ rfl)) (by show 2<=sizeLine;omega)⟩
    ·rw[t6 (x:=.lst (sts ps (ps.length+1))) (y:=.int (k:Int)) rfl rfl]
     exact ut0 ps _ k (by have:=m.lt k hk;omega)
    ·rw[t6 (x:=.lst (sts ps (ps.length+1))) (y:=.int ((k+1:Nat):Int)) rfl rfl]
     exact ut0 ps _ (k+1) (by have:=m.lt k hk;omega)
   refine(t7 (cons_of rfl (cons_of (d:=.lst (((0,(ix ps).length)::r.map (spk ps)).map spn)) ?_ rfl))).trans f3;rw[t6 t1 t2];simp only[o5];rw[if_pos (by rw[List.length_map,List.length_map];show 1+_<=_;omega)];rfl
  ·change ifD _ _ _ [.sh (.lst (ns.map .int)),.sh (.int most),.sh (web ps),.sh (.lst ((bun ps).map .int)),.sh (.int ((ix ps).length:Int)),.sh (.lst (sts ps (ps.length+1))),.sh (.int (a:Int)),.sh (.lst (nd r)),.sh F,.un,.un]=_
   rw[Z4 (by
    unfold v90;rw[O8 (b:=true) (by
     rw[t7 (ds:=[web (laid ps r),web (laid ps r)]) (cons_of (by rw[t7 (ds:=[F,.int (a:Int)]) rfl];exact e20 b0) (cons_of (by rw[t7 (ds:=[web ps,.int (a:Int)]) rfl];exact fi0 hw m) rfl))];exact Xh0 b1)]
    rfl)]
   rfl) ⟨.un,.un,.un,rfl⟩
 obtain⟨J,a1⟩:∃J:Int,J=a4%(10 ^ 59):=⟨_,rfl⟩;have b7:0<=J:=by rw[a1];exact L1 _ (by decide)
 obtain⟨O,Z⟩:∃O:List Int,O=[-1,(ps.length:Int),(ps.length:Int)+J,-1 - J]:=⟨_,rfl⟩;obtain⟨δ2,l2,a2,rfl⟩:=S6 (f:=gN 10) (G:=LB2) (λj δ=>∃a2:Sl,δ=[.sh (.lst (ns.map .int)),.sh (.int most),.sh (web ps),.sh (.lst ((bun ps).map .int)),.sh (.int ((ix ps).length:Int)),.sh (.lst (sts ps (ps.length+1))),s6,s7,s8,.sh (.int J),a2]) (O.map .int) 0 [.sh (.lst (ns.map .int)),.sh (.int most),.sh (web ps),.sh (.lst ((bun ps).map .int)),.sh (.int ((ix ps).length:Int)),.sh (.lst (sts ps (ps.length+1))),s6,s7,s8,.sh (.int J),.un] (by
  rintro j d δ hj ⟨a2,rfl⟩;rw[List.getElem?_map] at hj;obtain⟨k,hk,rfl⟩:=E6.mp hj;have hk:k<0∨(ps.length:Int)<=k:=by
   have:=D5 hk;rw[Z] at this;simp only[List.mem_cons,List.not_mem_nil,or_false] at this;omega
  have hr:=refused (gi0 hg g2 k hk);refine⟨[.sh (.lst (ns.map .int)),.sh (.int most),.sh (web ps),.sh (.lst ((bun ps).map .int)),.sh (.int ((ix ps).length:Int)),.sh (.lst (sts ps (ps.length+1))),s6,s7,s8,.sh (.int J),.sh (.int k)],_,rfl,v5 (δ':=[.sh (.lst (ns.map .int)),.sh (.int most),.sh (web ps),.sh (.lst ((bun ps).map .int)),.sh (.int ((ix ps).length:Int)),.sh (.lst (sts ps (ps.length+1))),s6,s7,s8,.sh (.int J),.sh (.int k)]) ?_ rfl,_,rfl⟩;rw[Z4 (by
   unfold v90;rw[O8 (b:=true) (by
    rw[t7 (ds:=[F2,.int k]) (cons_of (by
     refine(t7 (cons_of rfl (cons_of (yi0 (cons_of (X7 (cons_of rfl (cons_of rfl rfl)) (by show 2<=sizeLine;omega)) rfl) (by show 1<=sizeLine;omega)) rfl))).trans ?_;exact f2) rfl)]
    exact hr)]
   rfl)]
  rfl) ⟨.un,rfl⟩
 refine j9 rfl (v5 (o8 (d:=.int 12) rfl) (v5 (a8 _) (v5 (o8 (d:=web ps) ?_) (v5 (δ':=[.sh (.lst (ns.map .int)),.sh (.int most),.sh (web ps),.sh (.lst ((bun ps).map .int)),.sh (.int ((ix ps).length:Int)),.sh (.lst (sts ps (ps.length+1))),.un,.un,.un,.un,.un]) ?_ (v5 (Q4 (items:=nd as) ?_ l1) (v5 (o8 (d:=.int J) ?_) (v5 (Q4 (items:=O.map .int) ?_ l2) (p6 (d8 rfl)))))))))
 ·rw[t7 (ds:=[.lst (ns.map .int),.int 1,.int most]) rfl]
  exact hp
 ·unfold T4 Q3
  rw[t7 (ds:=[web ps]) rfl,show O4 [web ps]=_ from a7];rfl
 ·have t2:b8 1 [0,2] (J1 (z7 (gc (.int 2)) v4)) (gN 0) noT (o2 (oA (z7 (oA (z7 (gv 1) (z7 (gc (.int 62)) v4)) d7) (z7 (o2 (gc (.int 90)) (gv 0) o5) v4)) o4) (oA (z7 (gv 2) v4) Z5) Z0) [.sh (.lst (ns.map .int)),.sh (.int most),.sh (web ps),.sh (.lst ((bun ps).map .int)),.sh (.int ((ix ps).length:Int)),.sh (.lst (sts ps (ps.length+1))),.un,.un,.un,.un,.un]=some (.lst ((List.range 2).map λj=>D.int (f j:Int))):=by
   refine Y6 (items:=V8 0 2) rfl (by rw[yc0];show (2:Nat)<=_;omega) ?_;exact Ia.uy0 _ _ (List.range 2) λj hj=>⟨[.sh (.int (j:Int)),.sh (.lst (ns.map .int)),.sh (web ps)],by show some _=some _;simp,rfl,(hf j (B8.mp hj)).2⟩
  show Option.bind (o2 _ _ _ [.sh (.lst (ns.map .int)),.sh (.int most),.sh (web ps),.sh (.lst ((bun ps).map .int)),.sh (.int ((ix ps).length:Int)),.sh (.lst (sts ps (ps.length+1))),.un,.un,.un,.un,.un]) _=_;rw[t6 (x:=.lst [.int 0]) (y:=.lst ((List.range 2).map λj=>D.int (f j:Int))) (yi0 rfl (by show 1<=sizeLine;omega)) t2];simp only[o5];rw[if_pos (by rw[List.length_map,List.length_range];show 1+2<=sizeLine;omega),has];unfold nd;rw[List.map_cons,List.map_map];rfl
 ·rw[t6 (x:=.int a4) (y:=.int (10 ^ 59)) (by rw[t7 (ds:=[.lst (ns.map .int),.int 61]) rfl];exact b2) (by rw[t6 (x:=.int 10) (y:=.int 59) rfl rfl];exact cf0),Gw.uk0 _ _ (by decide),a1]
 ·have e:Z6 (z7 (unG J5 (gc (.int 1))) (z7 (oA (z7 (gv 2) v4) Z5) (z7 (o2 (oA (z7 (gv 2) v4) Z5) (gv 9) o5) (z7 (o2 (unG J5 (gc (.int 1))) (gv 9) xj0) v4)))) [.sh (.lst (ns.map .int)),.sh (.int most),.sh (web ps),.sh (.lst ((bun ps).map .int)),.sh (.int ((ix ps).length:Int)),.sh (.lst (sts ps (ps.length+1))),s6,s7,s8,.sh (.int J),.un]=some (.lst (O.map .int)):=by
   have w:=s40 ps [.sh (.lst (ns.map .int)),.sh (.int most),.sh (web ps),.sh (.lst ((bun ps).map .int)),.sh (.int ((ix ps).length:Int)),.sh (.lst (sts ps (ps.length+1))),s6,s7,s8,.sh (.int J),.un] rfl;rw[Z];exact yi0 (cons_of (d:=.int (-1)) rfl (cons_of w (cons_of (by rw[t6 (x:=.int (ps.length:Int)) (y:=.int J) w rfl];rfl) (cons_of rfl rfl)))) (by show 4<=sizeLine;omega)
  show Option.bind (Z6 _ [.sh (.lst (ns.map .int)),.sh (.int most),.sh (web ps),.sh (.lst ((bun ps).map .int)),.sh (.int ((ix ps).length:Int)),.sh (.lst (sts ps (ps.length+1))),s6,s7,s8,.sh (.int J),.un]) _=_;rw[e];rfl
end Ja
namespace Ja
open L2 DL W
def top(i:Nat):Stmt:=PySem.Challenge.pw_graphpack_k37_wanted_webs.main.body.getD i (.Pass ⟨0,0,0,0⟩)
theorem b_all:bootBuiltins "all"=some (.builtin "all"):=by decide +kernel
theorem b_bool:bootBuiltins "bool"=some (.type "bool"):=by decide +kernel
theorem b_dict:bootBuiltins "dict"=some (.type "dict"):=by decide +kernel
theorem b_int:bootBuiltins "int"=some (.type "int"):=by decide +kernel
theorem b_list:bootBuiltins "list"=some (.type "list"):=by decide +kernel
theorem b_ord:bootBuiltins "ord"=some (.builtin "ord"):=by decide +kernel
theorem b_str:bootBuiltins "str"=some (.type "str"):=by decide +kernel
theorem b_tuple:bootBuiltins "tuple"=some (.type "tuple"):=by decide +kernel
theorem b_zip:bootBuiltins "zip"=some (.type "zip"):=by decide +kernel
structure Txt(mg:Str->Option Value):Prop where
 b_all:mg "all"=none
 b_bool:mg "bool"=none
 b_dict:mg "dict"=none
 b_enumerate:mg "enumerate"=none
 b_int:mg "int"=none
 b_isinstance:mg "isinstance"=none
 b_len:mg "len"=none
 b_list:mg "list"=none
 b_ord:mg "ord"=none
 b_range:mg "range"=none
 b_reversed:mg "reversed"=none
 b_str:mg "str"=none
 b_tuple:mg "tuple"=none
 b_zip:mg "zip"=none
 c_BASE:∃t,mg "BASE"=some (.int 128 t)
 c_NAME_SIGNS:∃t,mg "NAME_SIGNS"=some (.str "0123456789abcdefghijklmnopqrstuvwxyz" t)
 c_WORD_SIGNS:∃t,mg "WORD_SIGNS"=some (.str " 0123456789abcdefghijklmnopqrstuvwxyz" t)
theorem fsc{P:List Str}(a:sc.kind=.function)(b:sc.isCoroutine=false)(c:sc.isGenerator=false)(d:N.take P.length=P)(e:N.Nodup/\(∀x∈P,sc.names.lookup x=some .local∨sc.names.lookup x=some .cell)/\∀y∈sc.names,y.2≠.free):FnScope N P sc:=⟨a,b,c,e.1,d,e.2.1,e.2.2⟩
theorem cok(a:scope.kind=.function)(b:N'.length=n+caps.length)(c:(∀y∈scope.names,y.2≠.cell)/\(∀y∈scope.names,y.2=.local->scope.names.lookup y.1=some .local)/\(∀y∈scope.names,y.2=.free->sc.names.lookup y.1=some .cell∨sc.names.lookup y.1=some .free)/\N'.Nodup/\∀k∈List.range caps.length,N'[n+k]?=(caps[k]?).bind (N[·]?)/\(N'[n+k]?).all (λy=>scope.names.lookup y==some .free)=true):CompOk sc scope N N' n caps:=⟨a,c.1,c.2.1,c.2.2.1,c.2.2.2.1,b,c.2.2.2.2⟩
section
variable{P:Program}{w:World}
theorem lz0:FnScope q30 ["number"] (u5 (top 5)):=fsc rfl rfl rfl rfl (by decide +kernel)
theorem k00(F:Fun K "unfolded" "unfolded" (top 5) fa fd)(T:Txt mg)  : FnOk P w K mg base CX0 1 fa fd ["number"] (spD K wg0) :=
 okD (k:=0) (G:=q80) F lz0 (λcdv A outer s H E hr=>(w6 (g8 (m8 X3 Z7 (X6 (z9 0) v9) v9)
   (w6 (o6 (yh0 (zf0 (xh0 (z9 0) v9)) v9))
   v8)
   v8)
   (w6 (o6 (xh0 (z9 0) v9))
   v8))) (λds d h=>W0 h)
theorem ow0:FnScope v30 ["part"] (u5 (top 10)):=fsc rfl rfl rfl rfl (by decide +kernel)
theorem oo0(F:Fun K "pair_names" "pair_names" (top 10) fa fd)(T:Txt mg)  : FnOk P w K mg base CX0 1 fa fd ["part"] (spN K yk0) :=
 okN (k:=0) (G:=t10) F ow0 (λcdv A outer s H E hr=>(w6 (g8 (PWD.pt (m80 (m8 X3 Z7 (p7 (z9 0) v9) j4) (qs0 (m8 X3 Z7 (p7 (z9 0) v9) j4))))
   (w6 (U8 (Q7 v7))
   v8)
   v8)
   (w6 (U8 (xk0 (sc:=u5 (top 10)) (N:=v30) (N':=["pair"]) (n:=1) (caps:=[]) (by exact cok rfl rfl (by decide +kernel)) (by decide) (zp0 (p7 (z9 0) (zf0 v9))) (λcl s H ex=>u9 0 (by decide +kernel:(["pair"]:List Str).Nodup)) (λcl s H ex=>V5) (λcl s H ex=>(p7 (z9 0) v9))))
   v8))) (λds d h=>zy0 h)
theorem gu0:FnScope r00 ["part"] (u5 (top 11)):=fsc rfl rfl rfl rfl (by decide +kernel)
theorem fk0(F:Fun K "values" "values" (top 11) fa fd)(T:Txt mg)  : FnOk P w K mg base CX0 1 fa fd ["part"] (spN K m_values) :=
 okN (k:=0) (G:=md0) F gu0 (λcdv A outer s H E hr=>(w6 (g8 (m8 X3 Z7 (p7 (z9 0) v9) j4)
   (w6 (U8 (Q7 v7))
   v8)
   v8)
   (w6 (g8 (m8 X3 Z7 (p7 (z9 0) v9) j4)
   (w6 (U8 (ms0 T.b_list b_list (p7 (z9 0) v9)))
   v8)
   v8)
   (w6 (U8 (xk0 (sc:=u5 (top 11)) (N:=r00) (N':=["pair"]) (n:=1) (caps:=[]) (by exact cok rfl rfl (by decide +kernel)) (by decide) (zp0 (p7 (z9 0) (zf0 v9))) (λcl s H ex=>u9 0 (by decide +kernel:(["pair"]:List Str).Nodup)) (λcl s H ex=>V5) (λcl s H ex=>(p7 (z9 0) v9))))
   v8)))) (λds d h=>zy0 h)
theorem vv0:FnScope um0 ["part", "some"] (u5 (top 12)):=fsc rfl rfl rfl rfl (by decide +kernel)
theorem qt0(F:Fun K "with_values" "with_values" (top 12) fa fd)(T:Txt mg)(C_pair_names:FnN P w K mg base "pair_names" 1 ["part"] yk0):FnOk P w K mg base CX0 2 fa fd ["part", "some"] (spD K z70) :=
 okD (k:=1) (G:=uo0) F vv0 (λcdv A outer s H E hr=>(w6 (g8 (m8 X3 Z7 (p7 (z9 0) v9) j4)
   (w6 (o6 (z9 0))
   v8)
   v8)
   (w6 (g8 (m8 X3 Z7 (p7 (z9 0) v9) j4)
   (w6 (o6 (X4 (z8 j4 (z8 (K5 U7 yv0 T.b_tuple b_tuple (z8 (z9 1) v7)) v7))))
   v8)
   v8)
   (w6 (m7 (o30 u00 o00 T.b_tuple T.b_zip b_tuple b_zip (z8 (P0 C_pair_names hr (by decide) (z8 (z9 0) v7)) (z8 (z9 1) v7))) (u9 2 vv0.nd))
   (w6 (g8 (m8 X3 Z7 (p7 (z9 0) v9) j4)
   (w6 (o6 (X4 (z8 j4 (z8 (z9 2) v7))))
   v8)
   v8)
   (w6 (o6 (X4 (z8 j4 (z8 (p7 (z9 0) v9) (z8 (z9 2) v7)))))
   v8)))))) (λds d h=>W0 h)
theorem d70:FnScope p20 ["part"] (u5 (top 13)):=fsc rfl rfl rfl rfl (by decide +kernel)
theorem eu0(F:Fun K "links" "links" (top 13) fa fd)(T:Txt mg)(C_values:FnN P w K mg base "values" 1 ["part"] m_values):FnOk P w K mg base CX0 2 fa fd ["part"] (spN K M6) :=
 okN (k:=1) (G:=km0) F d70 (λcdv A outer s H E hr=>(w6 (U8 (xk0 (sc:=u5 (top 13)) (N:=p20) (N':=["value"]) (n:=1) (caps:=[]) (by exact cok rfl rfl (by decide +kernel)) (by decide) (U9 (P0 C_values hr (by decide) (z8 (z9 0) v7))) (λcl s H ex=>u9 0 (by decide +kernel:(["value"]:List Str).Nodup)) (λcl s H ex=>(ki0 (zq0 (K9 zl0 b_tuple T.b_isinstance T.b_tuple (z9 0))))) (λcl s H ex=>(p7 (z9 0) v9))))
   v8)) (λds d h=>zy0 h)
theorem Yr0:FnScope cx0 ["web", "k"] (u5 (top 14)):=fsc rfl rfl rfl rfl (by decide +kernel)
theorem hf0(F:FunV K "met" "met" (top 14) fa fd dV)(T:Txt mg)(C_met_but:FnN P w K mg base "met_but" 3 ["web", "k", "left"] vd0):FnOk P w K mg base CX0 4 fa fd ["web", "k"] (spN K uh0) :=
 Ue0 (k:=3) (G:=cz0) F Yr0 (λcdv A outer s H E hr=>(w6 (U8 (vq0 C_met_but hr (by decide) (z8 (z9 0) (z8 (z9 1) (z8 d90 v7)))))
   v8)) (λds d h=>zy0 h)
theorem yo0:FnScope pz0 ["web", "k", "left"] (u5 (top 15)):=fsc rfl rfl rfl rfl (by decide +kernel)
theorem ju0(F:Fun K "met_but" "met_but" (top 15) fa fd)(T:Txt mg)(C_links:FnN P w K mg base "links" 2 ["part"] M6):FnOk P w K mg base CX0 3 fa fd ["web", "k", "left"] (spN K vd0) :=
 okN (k:=2) (G:=pn0) F yo0 (λcdv A outer s H E hr=>(w6 (T3 3 (Q7 v7) yo0.nd)
   (w6 (T3 4 (io0 T.b_dict b_dict (z9 2)) yo0.nd)
   (w6 (T3 5 (Q7 (z8 (z9 1) v7)) yo0.nd)
   (w6 (xu0 100000 C7 (m8 jk0 l60 (tf0 (S5 T.b_len (z8 (z9 5) v7))) v9)
   (w6 (zo0 (e50 5) (lo0 (u9 6 yo0.nd)))
   (w6 (g8 (qv0 (mg0 (y60 hr) (z9 6) (z9 4)))
   (w6 (zo0 (wi0 qk0) (u20 4 (y60 hr) (z9 6)))
   (w6 (O3 (u10 3 (z9 6)))
   (w6 (O3 (mm0 5 (PDF.pd (ds0 T.b_list T.b_reversed (P0 C_links hr (by decide) (z8 (vu0 (y60 hr) (z9 0) (z9 6)) v7))))))
   v8)))
   v8)
   v8)))
   (w6 (me0 3)
   v8)))))) (λds d h=>zy0 h)
theorem sj0:FnScope u70 ["part", "numbers"] (u5 (top 16)):=fsc rfl rfl rfl rfl (by decide +kernel)
theorem k70(F:Fun K "relinked" "relinked" (top 16) fa fd)(T:Txt mg)(C_values:FnN P w K mg base "values" 1 ["part"] m_values)(C_with_values:FnD P w K mg base "with_values" 2 ["part", "some"] z70):FnOk P w K mg base CX0 3 fa fd ["part", "numbers"] (spD K wd0) :=
 okD (k:=2) (G:=rv0) F sj0 (λcdv A outer s H E hr=>(w6 (u90 2 sj0.nd (sc:=u5 (top 16)) (N:=u70) (N':=["value", "numbers"]) (n:=1) (caps:=[1]) (by exact cok rfl rfl (by decide +kernel)) (by decide) (U9 (P0 C_values hr (by decide) (z8 (z9 0) v7))) (λcl s H ex=>u9 0 (by decide +kernel:(["value", "numbers"]:List Str).Nodup)) (λcl s H ex=>V5) (λcl s H ex=>(Wl0 (zq0 (K9 zl0 b_tuple T.b_isinstance T.b_tuple (z9 0))) (X4 (z8 j4 (z8 (vu0 (y60 hr) (z9 1) (p7 (z9 0) v9)) v7))) (z9 0))))
   (w6 (o6 (c7 C_with_values hr (by decide) (z8 (z9 0) (z8 (z9 2) v7))))
   v8))) (λds d h=>W0 h)
theorem ua0:FnScope qw0 ["web", "k"] (u5 (top 17)):=fsc rfl rfl rfl rfl (by decide +kernel)
theorem m60(F:FunV K "drawn" "drawn" (top 17) fa fd dV)(T:Txt mg)(C_met:FnN P w K mg base "met" 4 ["web", "k"] uh0)(C_relinked:FnD P w K mg base "relinked" 3 ["part", "numbers"] wd0):FnOk P w K mg base CX0 5 fa fd ["web", "k"] (spD K xg0) :=
 U10 (k:=4) (G:=jg0) F ua0 (λcdv A outer s H E hr=>(w6 (m7 (do0 (vq0 C_met hr (by decide) (z8 (z9 0) (z8 (z9 1) v7)))).pd (u9 2 ua0.nd))
   (w6 (T3 3 v80 ua0.nd)
   (w6 (Q6 C7 rfl (eg0 T.b_enumerate (z8 (z9 2) v7)) (ud0 4 5 ua0.nd (by decide))
   (w6 (zo0 (wi0 (z9 4)) (u20 3 (y60 hr) (z9 5)))
   v8))
   (w6 (yy0 (K5 U7 yv0 T.b_tuple b_tuple (z8 (G3 (sc:=u5 (top 17)) (N:=qw0) (N':=["part", "web", "numbers"]) (n:=1) (caps:=[0,3]) (by exact cok rfl rfl (by decide +kernel)) (by decide) (U9 (z9 2)) (λcl s H ex=>u9 0 (by decide +kernel:(["part", "web", "numbers"]:List Str).Nodup)) (λcl s H ex=>V5) (λcl s H ex=>(c7 C_relinked hr (by decide) (z8 (vu0 (y60 hr) (z9 1) (z9 0)) (z8 (z9 2) v7))))) v7)))
   v8))))) (λds d h=>W0 h)
theorem rk0:FnScope pj0 ["byte", "signs"] (u5 (top 19)):=fsc rfl rfl rfl rfl (by decide +kernel)
theorem h40(F:Fun K "sign_of" "sign_of" (top 19) fa fd)(T:Txt mg)  : FnOk P w K mg base CX0 1 fa fd ["byte", "signs"] (spD K yd0) :=
 okD (k:=0) (G:=o60) F rk0 (λcdv A outer s H E hr=>(w6 (Q6 C7 rfl (j80 (z9 1)) (u9 2 rk0.nd)
   (w6 (g8 (m8 X3 Z7 (wu0 mf0 f50 T.b_ord b_ord (z8 (z9 2) v7)) (z9 0))
   (w6 (o6 (z9 2))
   v8)
   v8)
   v8))
   (w6 (o6 wq0)
   v8))) (λds d h=>W0 h)
theorem qm0:FnScope u30 ["kind", "size"] (u5 (top 20)):=fsc rfl rfl rfl rfl (by decide +kernel)
theorem qr0(F:Fun K "wanted_items" "wanted_items" (top 20) fa fd)(T:Txt mg)  : FnOk P w K mg base CX0 1 fa fd ["kind", "size"] (spD K G5) :=
 okD (k:=0) (G:=vs0) F qm0 (λcdv A outer s H E hr=>(w6 (g8 (m8 X3 Z7 (z9 0) j4)
   (w6 (o6 (s30 (z50 (z8 j4 v7)) (z9 1)))
   v8)
   v8)
   (w6 (g8 (m8 X3 Z7 (z9 0) j4)
   (w6 (o6 (s30 (z50 (z8 j4 v7)) (z9 1)))
   v8)
   v8)
   (w6 (g8 (m8 X3 Z7 (z9 0) j4)
   (w6 (o6 (s30 (z50 (z8 j4 (z8 j4 v7))) (z9 1)))
   v8)
   v8)
   (w6 (o6 (n6 (z50 (z8 j4 v7)) (s30 (z50 (z8 j4 (z8 j4 v7))) (z9 1))))
   v8))))) (λds d h=>W0 h)
theorem l70:FnScope so0 ["kind", "held"] (u5 (top 21)):=fsc rfl rfl rfl rfl (by decide +kernel)
theorem l00(F:Fun K "made_part" "made_part" (top 21) fa fd)(T:Txt mg)(C_made_pairs:FnD P w K mg base "made_pairs" 1 ["held"] zg0):FnOk P w K mg base CX0 2 fa fd ["kind", "held"] (spD K xq0) :=
 okD (k:=1) (G:=si0) F l70 (λcdv A outer s H E hr=>(w6 (g8 (m8 X3 Z7 (z9 0) j4)
   (w6 (o6 (X4 (z8 j4 (z8 (tz0 j4 (z8 (z9 1) v7)) v7))))
   v8)
   v8)
   (w6 (g8 (m8 X3 Z7 (z9 0) j4)
   (w6 (o6 (X4 (z8 j4 (z8 (K5 U7 yv0 T.b_tuple b_tuple (z8 (z9 1) v7)) v7))))
   v8)
   v8)
   (w6 (g8 (m8 X3 Z7 (z9 0) j4)
   (w6 (o6 (X4 (z8 j4 (z8 (c7 C_made_pairs hr (by decide) (z8 (z9 1) v7)) v7))))
   v8)
   v8)
   (w6 (o6 (X4 (z8 j4 (z8 (p7 (z9 1) v9) (z8 (c7 C_made_pairs hr (by decide) (z8 (v60 (z9 1) (zj0 v9) xm0) v7)) v7)))))
   v8))))) (λds d h=>W0 h)
theorem ot0:FnScope t70 ["held"] (u5 (top 22)):=fsc rfl rfl rfl rfl (by decide +kernel)
theorem on0(F:Fun K "made_pairs" "made_pairs" (top 22) fa fd)(T:Txt mg)  : FnOk P w K mg base CX0 1 fa fd ["held"] (spD K zg0) :=
 okD (k:=0) (G:=te0) F ot0 (λcdv A outer s H E hr=>(w6 (o6 (o30 u00 o00 T.b_tuple T.b_zip b_tuple b_zip (z8 (jd0 (z9 0) (zj0 v9) xm0 (zj0 v9)) (z8 (jd0 (z9 0) (zj0 v9) xm0 (zj0 v9)) v7))))
   v8)) (λds d h=>W0 h)
theorem se0:FnScope wz0 ["number"] (u5 (top 24)):=fsc rfl rfl rfl rfl (by decide +kernel)
theorem sd0(F:Fun K "numbered_value" "numbered_value" (top 24) fa fd)(T:Txt mg)(C_unfolded:FnD P w K mg base "unfolded" 1 ["number"] wg0):FnOk P w K mg base CX0 2 fa fd ["number"] (spD K z40) :=
 okD (k:=1) (G:=wp0) F se0 (λcdv A outer s H E hr=>(w6 (g8 (m8 X3 Z7 (z9 0) v9)
   (w6 (o6 wq0)
   v8)
   v8)
   (w6 (g8 (m8 X3 Z7 (X6 (z9 0) v9) v9)
   (w6 (o6 (X4 (z8 j4 (z8 (yh0 (xh0 (z9 0) v9) v9) v7))))
   v8)
   v8)
   (w6 (o6 (c7 C_unfolded hr (by decide) (z8 (xh0 (z9 0) v9) v7)))
   v8)))) (λds d h=>W0 h)
theorem xv0:FnScope ma0 ["look", "k"] (u5 (top 25)):=fsc rfl rfl rfl rfl (by decide +kernel)
theorem he0(F:Fun K "wanted" "wanted" (top 25) fa fd)(T:Txt mg)(C_drawn:FnD P w K mg base "drawn" 5 ["web", "k"] xg0)(C_links:FnN P w K mg base "links" 2 ["part"] M6)(C_part_at:FnD P w K mg base "part_at" 4 ["look", "start"] K6)(X_part_starts:FnX P w K mg base "part_starts" 2 ["look", "k"] X8):FnOk P w K mg base (CXE P w) 6 fa fd ["look", "k"] (spX K K1) :=
 okX (k:=5) (G:=lf0) F xv0 (λcdv A outer s H E hr=>(V0 (ei0 2 X_part_starts hr (by decide) (z8 (z9 0) (z8 (z9 1) v7)) xv0.nd)
   (V0 (zn0 (T3 3 v80 xv0.nd))
   (V0 (zn0 (T3 4 (Q7 (z8 (z9 1) v7)) xv0.nd))
   (V0 (zn0 (xu0 100000 r8 (m8 jk0 l60 (tf0 (S5 T.b_len (z8 (z9 4) v7))) v9)
   (w6 (zo0 (e50 4) (lo0 (u9 5 xv0.nd)))
   (w6 (g8 (qv0 (mg0 (y60 hr) (z9 5) (z9 3)))
   (w6 (zo0 (wi0 (c7 C_part_at hr (by decide) (z8 (z9 0) (z8 (p7 (z9 2) (z9 5)) v7)))) (u20 3 (y60 hr) (z9 5)))
   (w6 (O3 (mm0 4 (P0 C_links hr (by decide) (z8 (Zi0 (vu0 (y60 hr) (z9 3) (z9 5))) v7))))
   v8))
   v8)
   v8))))
   (V0 (zn0 (yy0 (c7 C_drawn hr (by decide) (z8 (z9 3) (z8 (z9 1) v7)))))
   v10))))))
theorem J8:FnScope sl0 ["look", "place"] (u5 (top 26)):=fsc rfl rfl rfl rfl (by decide +kernel)
theorem lm0(F:Fun K "number_at" "number_at" (top 26) fa fd)(T:Txt mg)  : FnOk P w K mg base CX0 1 fa fd ["look", "place"] (spD K W2) :=
 okD (k:=0) (G:=sm0) F J8 (λcdv A outer s H E hr=>(w6 (m7 v9 (u9 2 J8.nd))
   (w6 (m7 (u50 hr (z9 0) (z9 1)) (u9 3 J8.nd))
   (w6 (xu0 100000 C7 (m8 c90 g50 (z9 3) (sa0 T.c_BASE))
   (w6 (m7 (yh0 (n6 (R8 (z9 2) (sa0 T.c_BASE)) (z9 3)) (sa0 T.c_BASE)) (u9 2 J8.nd))
   (w6 (j70 1 J8.nd v9)
   (w6 (m7 (u50 hr (z9 0) (z9 1)) (u9 3 J8.nd))
   v8))))
   (w6 (o6 (X4 (z8 (n6 (R8 (z9 2) (sa0 T.c_BASE)) (z9 3)) (z8 (n6 (z9 1) v9) v7))))
   v8))))) (λds d h=>W0 h)
theorem V2:FnScope y30 ["look", "k"] (u5 (top 27)):=fsc rfl rfl rfl rfl (by decide +kernel)
theorem qy0(F:Fun K "part_starts" "part_starts" (top 27) fa fd)(T:Txt mg){rr:Addr}(XT:XC.Tab K mg "WebError" rr ["NoPlace"] ["NoPlace"])(C_number_at:FnD P w K mg base "number_at" 1 ["look", "place"] W2):FnOk P w K mg base (CXE P w) 2 fa fd ["look", "k"] (spX K X8) :=
 okX (k:=1) (G:=y70) F V2 (λcdv A outer s H E hr=>(V0 (zn0 (m7 (c7 C_number_at hr (by decide) (z8 (z9 0) (z8 v9 v7))) (u9 2 V2.nd)))
   (V0 (Yo0 (PWD.pt (m80 (m8 qf0 t40 (z9 1) v9) (qs0 (m8 c90 g50 (z9 1) (p7 (z9 2) v9)))))
   (V0 (gc0 XT (by decide) (by decide))
   v10)
   v10)
   (V0 (zn0 (m7 (p7 (z9 2) v9) (u9 3 V2.nd)))
   (V0 (zn0 (T3 4 (Q7 v7) V2.nd))
   (V0 (zn0 (xu0 100000 r8 (m8 qf0 t40 (tf0 (S5 T.b_len (z8 (z9 4) v7))) (p7 (z9 2) v9))
   (w6 (m7 (c7 C_number_at hr (by decide) (z8 (z9 0) (z8 (z9 3) v7))) (u9 5 V2.nd))
   (w6 (O3 (u10 4 (p7 (z9 5) v9)))
   (w6 (m7 (p7 (z9 5) v9) (u9 3 V2.nd))
   v8)))))
   (V0 (zn0 (uf0 4 (T3 6 (Q7 v7) V2.nd)))
   (V0 (zn0 (Q6 r8 rfl (U9 (z9 4)) (u9 5 V2.nd)
   (w6 (O3 (u10 6 (z9 3)))
   (w6 (j70 3 V2.nd (z9 5))
   v8))))
   (V0 (zn0 (yy0 (z9 6)))
   v10)))))))))
theorem J2:FnScope o10 ["look", "start"] (u5 (top 28)):=fsc rfl rfl rfl rfl (by decide +kernel)
theorem i90(F:Fun K "part_at" "part_at" (top 28) fa fd)(T:Txt mg)(K_KINDS:ek0 K mg "KINDS" ["text", "row", "table", "record"])(C_item_at:FnD P w K mg base "item_at" 3 ["look", "place", "want"] G7)(C_made_part:FnD P w K mg base "made_part" 2 ["kind", "held"] xq0)(C_number_at:FnD P w K mg base "number_at" 1 ["look", "place"] W2)(C_wanted_items:FnD P w K mg base "wanted_items" 1 ["kind", "size"] G5):FnOk P w K mg base CX0 4 fa fd ["look", "start"] (spD K K6) :=
 okD (k:=3) (G:=pw0) F J2 (λcdv A outer s H E hr=>(w6 (m7 (c7 C_number_at hr (by decide) (z8 (z9 0) (z8 (z9 1) v7))) (u9 2 J2.nd))
   (w6 (m7 (Zp0 K_KINDS (X6 (p7 (z9 2) v9) v9)) (u9 3 J2.nd))
   (w6 (m7 (p7 (z9 2) v9) (u9 4 J2.nd))
   (w6 (T3 5 (Q7 v7) J2.nd)
   (w6 (Q6 C7 rfl (U9 (c7 C_wanted_items hr (by decide) (z8 (z9 3) (z8 (xh0 (p7 (z9 2) v9) v9) v7)))) (u9 6 J2.nd)
   (w6 (m7 (c7 C_item_at hr (by decide) (z8 (z9 0) (z8 (z9 4) (z8 (z9 6) v7)))) (u9 7 J2.nd))
   (w6 (O3 (u10 5 (p7 (z9 7) v9)))
   (w6 (m7 (p7 (z9 7) v9) (u9 4 J2.nd))
   v8))))
   (w6 (yy0 (c7 C_made_part hr (by decide) (z8 (z9 3) (z8 (z9 5) v7))))
   v8))))))) (λds d h=>W0 h)
theorem rm0:FnScope o90 ["look", "place", "want"] (u5 (top 29)):=fsc rfl rfl rfl rfl (by decide +kernel)
theorem i20(F:Fun K "item_at" "item_at" (top 29) fa fd)(T:Txt mg)(C_name_at:FnD P w K mg base "name_at" 2 ["look", "start", "length"] vc0)(C_number_at:FnD P w K mg base "number_at" 1 ["look", "place"] W2)(C_numbered_value:FnD P w K mg base "numbered_value" 2 ["number"] z40)(C_sign_of:FnD P w K mg base "sign_of" 1 ["byte", "signs"] yd0):FnOk P w K mg base CX0 3 fa fd ["look", "place", "want"] (spD K G7) :=
 okD (k:=2) (G:=oc0) F rm0 (λcdv A outer s H E hr=>(w6 (g8 (m8 X3 Z7 (z9 2) j4)
   (w6 (o6 (X4 (z8 (c7 C_sign_of hr (by decide) (z8 (u50 hr (z9 0) (z9 1)) (z8 (j40 T.c_WORD_SIGNS) v7))) (z8 (n6 (z9 1) v9) v7))))
   v8)
   v8)
   (w6 (m7 (c7 C_number_at hr (by decide) (z8 (z9 0) (z8 (z9 1) v7))) (u9 3 rm0.nd))
   (w6 (g8 (m8 X3 Z7 (z9 2) j4)
   (w6 (o6 (X4 (z8 (c7 C_numbered_value hr (by decide) (z8 (p7 (z9 3) v9) v7)) (z8 (p7 (z9 3) v9) v7))))
   v8)
   v8)
   (w6 (o6 (X4 (z8 (c7 C_name_at hr (by decide) (z8 (z9 0) (z8 (p7 (z9 3) v9) (z8 (p7 (z9 3) v9) v7)))) (z8 (n6 (p7 (z9 3) v9) (p7 (z9 3) v9)) v7))))
   v8))))) (λds d h=>W0 h)
theorem iu0:FnScope t00 ["look", "start", "length"] (u5 (top 30)):=fsc rfl rfl rfl rfl (by decide +kernel)
theorem i10(F:Fun K "name_at" "name_at" (top 30) fa fd)(T:Txt mg)(C_sign_of:FnD P w K mg base "sign_of" 1 ["byte", "signs"] yd0):FnOk P w K mg base CX0 2 fa fd ["look", "start", "length"] (spD K vc0) :=
 okD (k:=1) (G:=oh0) F iu0 (λcdv A outer s H E hr=>(w6 (o6 (tz0 j4 (z8 (G3 (sc:=u5 (top 30)) (N:=t00) (N':=["place", "look"]) (n:=1) (caps:=[0]) (by exact cok rfl rfl (by decide +kernel)) (by decide) (ql0 T.b_range (z8 (z9 1) (z8 (n6 (z9 1) (z9 2)) v7))) (λcl s H ex=>u9 0 (by decide +kernel:(["place", "look"]:List Str).Nodup)) (λcl s H ex=>V5) (λcl s H ex=>(c7 C_sign_of hr (by decide) (z8 (u50 hr (z9 1) (z9 0)) (z8 (j40 T.c_NAME_SIGNS) v7))))) v7)))
   v8)) (λds d h=>W0 h)
theorem qc0:FnScope vw0 ["_law_script", "_law_k"] (u5 (top 32)):=fsc rfl rfl rfl rfl (by decide +kernel)
theorem rw0(F:Fun K "_law_cell_at" "_law_cell_at" (top 32) fa fd)(T:Txt mg)  : FnOk P w K mg base CX0 1 fa fd ["_law_script", "_law_k"] (spD K d7) :=
 okD (k:=0) (G:=vm0) F qc0 (λcdv A outer s H E hr=>(w6 (g8 (m8 qf0 t40 (z9 1) (S5 T.b_len (z8 (z9 0) v7)))
   (w6 (o6 (p7 (z9 0) (z9 1)))
   v8)
   v8)
   (w6 (o6 (R8 (n6 (R8 (z9 1) v9) v9) (n6 (z9 1) v9)))
   v8))) (λds d h=>W0 h)
theorem k40:FnScope q50 ["_law_cell", "_law_k"] (u5 (top 33)):=fsc rfl rfl rfl rfl (by decide +kernel)
theorem kb0(F:Fun K "_law_mix" "_law_mix" (top 33) fa fd)(T:Txt mg)  : FnOk P w K mg base CX0 1 fa fd ["_law_cell", "_law_k"] (spD K o4) :=
 okD (k:=0) (G:=qo0) F k40 (λcdv A outer s H E hr=>(w6 (o6 (xh0 (X6 (n6 (R8 (n6 (X6 (z9 0) v9) v9) (n6 (n6 v9 (R8 v9 (z9 1))) (R8 (R8 v9 (z9 1)) (z9 1)))) (z9 1)) v9) v9))
   v8)) (λds d h=>W0 h)
theorem yn0:FnScope xo0 ["_law_cell", "_law_many"] (u5 (top 34)):=fsc rfl rfl rfl rfl (by decide +kernel)
theorem mc0(F:Fun K "_law_pool" "_law_pool" (top 34) fa fd)(T:Txt mg)(C__law_mix:FnD P w K mg base "_law_mix" 1 ["_law_cell", "_law_k"] o4):FnOk P w K mg base CX0 2 fa fd ["_law_cell", "_law_many"] (spN K xn0) :=
 okN (k:=1) (G:=sh0) F yn0 (λcdv A outer s H E hr=>(w6 (m7 j4 (u9 2 yn0.nd))
   (w6 (m7 (tz0 j4 (z8 (G3 (sc:=u5 (top 34)) (N:=xo0) (N':=["_law_j", "_law_cell", "_law_signs_here"]) (n:=1) (caps:=[0,2]) (by exact cok rfl rfl (by decide +kernel)) (by decide) (K7 T.b_range (z8 (X6 (c7 C__law_mix hr (by decide) (z8 (z9 0) (z8 v9 v7))) v9) v7)) (λcl s H ex=>u9 0 (by decide +kernel:(["_law_j", "_law_cell", "_law_signs_here"]:List Str).Nodup)) (λcl s H ex=>V5) (λcl s H ex=>(p7 (z9 2) (X6 (c7 C__law_mix hr (by decide) (z8 (z9 1) (z8 (z9 0) v7))) v9)))) v7)) (u9 3 yn0.nd))
   (w6 (m7 (X6 (c7 C__law_mix hr (by decide) (z8 (z9 0) (z8 v9 v7))) (n6 (S5 T.b_len (z8 (z9 3) v7)) v9)) (u9 4 yn0.nd))
   (w6 (U8 (xk0 (sc:=u5 (top 34)) (N:=xo0) (N':=["_law_k", "_law_cell", "_law_signs_here", "_law_base", "_law_at"]) (n:=1) (caps:=[0,2,3,4]) (by exact cok rfl rfl (by decide +kernel)) (by decide) (K7 T.b_range (z8 (z9 1) v7)) (λcl s H ex=>u9 0 (by decide +kernel:(["_law_k", "_law_cell", "_law_signs_here", "_law_base", "_law_at"]:List Str).Nodup)) (λcl s H ex=>V5) (λcl s H ex=>(n6 (n6 (v60 (z9 3) xm0 (zj0 (z9 4))) (p7 (z9 2) (X6 (n6 (R8 v9 (z9 0)) (z9 1)) v9))) (v60 (z9 3) (zj0 (z9 4)) xm0)))))
   v8))))) (λds d h=>zy0 h)
theorem w90:FnScope v40 ["_law_cell", "_law_k", "_law_many"] (u5 (top 35)):=fsc rfl rfl rfl rfl (by decide +kernel)
theorem sf0(F:Fun K "_law_one_value" "_law_one_value" (top 35) fa fd)(T:Txt mg)(C__law_mix:FnD P w K mg base "_law_mix" 1 ["_law_cell", "_law_k"] o4):FnOk P w K mg base CX0 2 fa fd ["_law_cell", "_law_k", "_law_many"] (spD K W8) :=
 okD (k:=1) (G:=wm0) F w90 (λcdv A outer s H E hr=>(w6 (m7 (X6 (c7 C__law_mix hr (by decide) (z8 (z9 0) (z8 (z9 1) v7))) v9) (u9 3 w90.nd))
   (w6 (g8 (m8 X3 Z7 (z9 3) v9)
   (w6 (o6 wq0)
   v8)
   v8)
   (w6 (g8 (m8 qf0 t40 (z9 3) v9)
   (w6 (o6 (X4 (z8 j4 (z8 (X6 (c7 C__law_mix hr (by decide) (z8 (z9 0) (z8 (n6 v9 (z9 1)) v7))) (z9 2)) v7))))
   v8)
   v8)
   (w6 (g8 (m8 X3 Z7 (z9 3) v9)
   (w6 (o6 (yh0 (X6 (c7 C__law_mix hr (by decide) (z8 (z9 0) (z8 (n6 v9 (z9 1)) v7))) v9) v9))
   v8)
   v8)
   (w6 (o6 (yh0 (n6 (X6 (b90 (R8 (n6 (z9 0) v9) (n6 (z9 1) v9)) (rf0 v9 v9)) (yh0 (R8 v9 (rf0 v9 v9)) v9)) v9) (rf0 v9 v9)))
   v8)))))) (λds d h=>W0 h)
theorem W9:FnScope N6 ["_law_cell", "_law_names", "_law_many"] (u5 (top 36)):=fsc rfl rfl rfl rfl (by decide +kernel)
theorem tt0(F:Fun K "_law_drawn_part" "_law_drawn_part" (top 36) fa fd)(T:Txt mg)(C__law_mix:FnD P w K mg base "_law_mix" 1 ["_law_cell", "_law_k"] o4)(C__law_one_value:FnD P w K mg base "_law_one_value" 2 ["_law_cell", "_law_k", "_law_many"] W8):FnOk P w K mg base CX0 3 fa fd ["_law_cell", "_law_names", "_law_many"] (spD K V9) :=
 okD (k:=2) (G:=wa0) F W9 (λcdv A outer s H E hr=>(w6 (m7 (X6 (c7 C__law_mix hr (by decide) (z8 (z9 0) (z8 v9 v7))) v9) (u9 3 W9.nd))
   (w6 (m7 (p7 (z50 (z8 v9 (z8 v9 (z8 v9 (z8 v9 (z8 v9 (z8 v9 (z8 v9 (z8 v9 v7))))))))) (X6 (c7 C__law_mix hr (by decide) (z8 (z9 0) (z8 v9 v7))) v9)) (u9 4 W9.nd))
   (w6 (g8 (m8 X3 Z7 (z9 3) v9)
   (w6 (m7 j4 (u9 5 W9.nd))
   (w6 (o6 (X4 (z8 j4 (z8 (tz0 j4 (z8 (G3 (sc:=u5 (top 36)) (N:=N6) (N':=["_law_j", "_law_cell", "_law_signs_here"]) (n:=1) (caps:=[0,5]) (by exact cok rfl rfl (by decide +kernel)) (by decide) (K7 T.b_range (z8 (X6 (c7 C__law_mix hr (by decide) (z8 (z9 0) (z8 v9 v7))) v9) v7)) (λcl s H ex=>u9 0 (by decide +kernel:(["_law_j", "_law_cell", "_law_signs_here"]:List Str).Nodup)) (λcl s H ex=>V5) (λcl s H ex=>(p7 (z9 2) (X6 (c7 C__law_mix hr (by decide) (z8 (z9 1) (z8 (n6 v9 (z9 0)) v7))) v9)))) v7)) v7))))
   v8))
   v8)
   (w6 (m7 (G3 (sc:=u5 (top 36)) (N:=N6) (N':=["_law_k", "_law_cell", "_law_many"]) (n:=1) (caps:=[0,2]) (by exact cok rfl rfl (by decide +kernel)) (by decide) (K7 T.b_range (z8 (z9 4) v7)) (λcl s H ex=>u9 0 (by decide +kernel:(["_law_k", "_law_cell", "_law_many"]:List Str).Nodup)) (λcl s H ex=>V5) (λcl s H ex=>(c7 C__law_one_value hr (by decide) (z8 (z9 1) (z8 (n6 v9 (z9 0)) (z8 (z9 2) v7)))))) (u9 6 W9.nd))
   (w6 (g8 (m8 X3 Z7 (z9 3) v9)
   (w6 (o6 (X4 (z8 j4 (z8 (K5 U7 yv0 T.b_tuple b_tuple (z8 (z9 6) v7)) v7))))
   v8)
   v8)
   (w6 (m7 (X6 (c7 C__law_mix hr (by decide) (z8 (z9 0) (z8 v9 v7))) v9) (u9 7 W9.nd))
   (w6 (m7 (K5 U7 yv0 T.b_tuple b_tuple (z8 (G3 (sc:=u5 (top 36)) (N:=N6) (N':=["_law_k", "_law_names", "_law_some", "_law_turn"]) (n:=1) (caps:=[1,6,7]) (by exact cok rfl rfl (by decide +kernel)) (by decide) (K7 T.b_range (z8 (z9 4) v7)) (λcl s H ex=>u9 0 (by decide +kernel:(["_law_k", "_law_names", "_law_some", "_law_turn"]:List Str).Nodup)) (λcl s H ex=>V5) (λcl s H ex=>(X4 (z8 (p7 (z9 1) (X6 (n6 (z9 3) (z9 0)) v9)) (z8 (p7 (z9 2) (z9 0)) v7))))) v7)) (u9 8 W9.nd))
   (w6 (g8 (m8 X3 Z7 (z9 3) v9)
   (w6 (o6 (X4 (z8 j4 (z8 (z9 8) v7))))
   v8)
   v8)
   (w6 (o6 (X4 (z8 j4 (z8 (p7 (z9 1) (X6 (c7 C__law_mix hr (by decide) (z8 (z9 0) (z8 v9 v7))) v9)) (z8 (z9 8) v7)))))
   v8)))))))))) (λds d h=>W0 h)
theorem w60:FnScope ww0 ["_law_script", "_law_start", "_law_most"] (u5 (top 37)):=fsc rfl rfl rfl rfl (by decide +kernel)
theorem oy0(F:Fun K "_law_built" "_law_built" (top 37) fa fd)(T:Txt mg)(C__law_cell_at:FnD P w K mg base "_law_cell_at" 1 ["_law_script", "_law_k"] d7)(C__law_drawn_part:FnD P w K mg base "_law_drawn_part" 3 ["_law_cell", "_law_names", "_law_many"] V9)(C__law_mix:FnD P w K mg base "_law_mix" 1 ["_law_cell", "_law_k"] o4)(C__law_pool:FnN P w K mg base "_law_pool" 2 ["_law_cell", "_law_many"] xn0):FnOk P w K mg base CX0 4 fa fd ["_law_script", "_law_start", "_law_most"] (spD K yj0) :=
 okD (k:=3) (G:=uu0) F w60 (λcdv A outer s H E hr=>(w6 (m7 (n6 v9 (X6 (c7 C__law_mix hr (by decide) (z8 (c7 C__law_cell_at hr (by decide) (z8 (z9 0) (z8 (z9 1) v7))) (z8 v9 v7))) (z9 2))) (u9 3 w60.nd))
   (w6 (m7 (P0 C__law_pool hr (by decide) (z8 (c7 C__law_cell_at hr (by decide) (z8 (z9 0) (z8 (n6 (z9 1) v9) v7))) (z8 v9 v7))) (u9 4 w60.nd))
   (w6 (o6 (K5 U7 yv0 T.b_tuple b_tuple (z8 (G3 (sc:=u5 (top 37)) (N:=ww0) (N':=["_law_k", "_law_script", "_law_start", "_law_many", "_law_names"]) (n:=1) (caps:=[0,1,3,4]) (by exact cok rfl rfl (by decide +kernel)) (by decide) (K7 T.b_range (z8 (z9 3) v7)) (λcl s H ex=>u9 0 (by decide +kernel:(["_law_k", "_law_script", "_law_start", "_law_many", "_law_names"]:List Str).Nodup)) (λcl s H ex=>V5) (λcl s H ex=>(c7 C__law_drawn_part hr (by decide) (z8 (c7 C__law_cell_at hr (by decide) (z8 (z9 1) (z8 (n6 (n6 (z9 2) v9) (z9 0)) v7))) (z8 (z9 4) (z8 (z9 3) v7)))))) v7)))
   v8)))) (λds d h=>W0 h)
theorem yz0:FnScope un0 ["_law_number"] (u5 (top 38)):=fsc rfl rfl rfl rfl (by decide +kernel)
theorem pb0(F:Fun K "_law_digits" "_law_digits" (top 38) fa fd)(T:Txt mg)  : FnOk P w K mg base CX0 1 fa fd ["_law_number"] (spN K Z3) :=
 okN (k:=0) (G:=up0) F yz0 (λcdv A outer s H E hr=>(w6 (T3 1 (Q7 (z8 (X6 (z9 0) v9) v7)) yz0.nd)
   (w6 (xu0 100000 C7 (m8 jk0 l60 (z9 0) v9)
   (w6 (m7 (xh0 (z9 0) v9) (u9 0 yz0.nd))
   (w6 (O3 (ac0 1 (n6 v9 (X6 (z9 0) v9))))
   v8)))
   (w6 (me0 1)
   v8)))) (λds d h=>zy0 h)
theorem n70:FnScope wr0 ["_law_word"] (u5 (top 39)):=fsc rfl rfl rfl rfl (by decide +kernel)
theorem or0(F:Fun K "_law_signs" "_law_signs" (top 39) fa fd)(T:Txt mg)  : FnOk P w K mg base CX0 1 fa fd ["_law_word"] (spN K M9) :=
 okN (k:=0) (G:=t90) F n70 (λcdv A outer s H E hr=>(w6 (U8 (xk0 (sc:=u5 (top 39)) (N:=wr0) (N':=["_law_sign"]) (n:=1) (caps:=[]) (by exact cok rfl rfl (by decide +kernel)) (by decide) (j80 (z9 0)) (λcl s H ex=>u9 0 (by decide +kernel:(["_law_sign"]:List Str).Nodup)) (λcl s H ex=>V5) (λcl s H ex=>(wu0 mf0 f50 T.b_ord b_ord (z8 (z9 0) v7)))))
   v8)) (λds d h=>zy0 h)
theorem ur0:FnScope xt0 ["_law_value"] (u5 (top 40)):=fsc rfl rfl rfl rfl (by decide +kernel)
theorem us0(F:Fun K "_law_value_bytes" "_law_value_bytes" (top 40) fa fd)(T:Txt mg)(C__law_digits:FnN P w K mg base "_law_digits" 1 ["_law_number"] Z3):FnOk P w K mg base CX0 2 fa fd ["_law_value"] (spN K W7) :=
 okN (k:=1) (G:=xx0) F ur0 (λcdv A outer s H E hr=>(w6 (g8 (m8 nt0 p40 (z9 0) wq0)
   (w6 (U8 (Q7 (z8 v9 v7)))
   v8)
   v8)
   (w6 (g8 (zq0 (K9 zl0 b_tuple T.b_isinstance T.b_tuple (z9 0)))
   (w6 (U8 (vq0 C__law_digits hr (by decide) (z8 (n6 (R8 v9 (p7 (z9 0) v9)) v9) v7)))
   v8)
   v8)
   (w6 (g8 (m8 qf0 t40 (z9 0) v9)
   (w6 (U8 (vq0 C__law_digits hr (by decide) (z8 (n6 (R8 v9 (yh0 (yh0 v9 (R8 v9 (z9 0))) v9)) v9) v7)))
   v8)
   v8)
   (w6 (U8 (vq0 C__law_digits hr (by decide) (z8 (n6 (R8 v9 (z9 0)) v9) v7)))
   v8))))) (λds d h=>zy0 h)
theorem Y7:FnScope wc0 ["_law_part"] (u5 (top 41)):=fsc rfl rfl rfl rfl (by decide +kernel)
theorem tp0(F:Fun K "_law_part_bytes" "_law_part_bytes" (top 41) fa fd)(T:Txt mg)(C__law_digits:FnN P w K mg base "_law_digits" 1 ["_law_number"] Z3)(C__law_signs:FnN P w K mg base "_law_signs" 1 ["_law_word"] M9)(C__law_value_bytes:FnN P w K mg base "_law_value_bytes" 2 ["_law_value"] W7):FnOk P w K mg base CX0 3 fa fd ["_law_part"] (spD K J7) :=
 okD (k:=2) (G:=wb0) F Y7 (λcdv A outer s H E hr=>(w6 (m7 (Yx0 (z50 (z8 j4 (z8 j4 (z8 j4 (z8 j4 v7))))) (z8 (p7 (z9 0) v9) v7)) (u9 1 Y7.nd))
   (w6 (m7 (P0 C__law_digits hr (by decide) (z8 (n6 (R8 v9 (S5 T.b_len (z8 (p7 (z9 0) (zf0 v9)) v7))) (z9 1)) v7)) (u9 2 Y7.nd))
   (w6 (g8 (m8 X3 Z7 (z9 1) v9)
   (w6 (o6 (n6 (z9 2) (P0 C__law_signs hr (by decide) (z8 (p7 (z9 0) v9) v7))))
   v8)
   v8)
   (w6 (g8 (m8 X3 Z7 (z9 1) v9)
   (w6 (Q6 C7 rfl (zp0 (p7 (z9 0) v9)) (u9 3 Y7.nd)
   (w6 (m7 (n6 (z9 2) (P0 C__law_value_bytes hr (by decide) (z8 (z9 3) v7))) (u9 2 Y7.nd))
   v8))
   (w6 (o6 (z9 2))
   v8))
   v8)
   (w6 (g8 (m8 X3 Z7 (z9 1) v9)
   (w6 (m7 (n6 (n6 (z9 2) (P0 C__law_digits hr (by decide) (z8 (S5 T.b_len (z8 (p7 (z9 0) v9) v7)) v7))) (P0 C__law_signs hr (by decide) (z8 (p7 (z9 0) v9) v7))) (u9 2 Y7.nd))
   v8)
   v8)
   (w6 (Q6 C7 rfl (zp0 (p7 (z9 0) (zf0 v9))) (ud0 4 3 Y7.nd (by decide))
   (w6 (m7 (n6 (n6 (z9 2) (P0 C__law_digits hr (by decide) (z8 (S5 T.b_len (z8 (z9 4) v7)) v7))) (P0 C__law_signs hr (by decide) (z8 (z9 4) v7))) (u9 2 Y7.nd))
   (w6 (m7 (n6 (z9 2) (P0 C__law_value_bytes hr (by decide) (z8 (z9 3) v7))) (u9 2 Y7.nd))
   v8)))
   (w6 (o6 (z9 2))
   v8)))))))) (λds d h=>W0 h)
theorem W6:FnScope ys0 ["_law_web"] (u5 (top 42)):=fsc rfl rfl rfl rfl (by decide +kernel)
theorem sv0(F:Fun K "_law_laid_out" "_law_laid_out" (top 42) fa fd)(T:Txt mg)(C__law_digits:FnN P w K mg base "_law_digits" 1 ["_law_number"] Z3)(C__law_part_bytes:FnD P w K mg base "_law_part_bytes" 3 ["_law_part"] J7):FnOk P w K mg base CX0 4 fa fd ["_law_web"] (spD K O4) :=
 okD (k:=3) (G:=v70) F W6 (λcdv A outer s H E hr=>(w6 (u90 1 W6.nd (sc:=u5 (top 42)) (N:=ys0) (N':=["_law_part"]) (n:=1) (caps:=[]) (by exact cok rfl rfl (by decide +kernel)) (by decide) (zp0 (z9 0)) (λcl s H ex=>u9 0 (by decide +kernel:(["_law_part"]:List Str).Nodup)) (λcl s H ex=>V5) (λcl s H ex=>(c7 C__law_part_bytes hr (by decide) (z8 (z9 0) v7))))
   (w6 (m7 (P0 C__law_digits hr (by decide) (z8 (S5 T.b_len (z8 (z9 0) v7)) v7)) (u9 2 W6.nd))
   (w6 (Q6 C7 rfl (U9 (z9 1)) (u9 3 W6.nd)
   (w6 (m7 (n6 (z9 2) (P0 C__law_digits hr (by decide) (z8 (S5 T.b_len (z8 (z9 3) v7)) v7))) (u9 2 W6.nd))
   v8))
   (w6 (T3 4 (Q7 v7) W6.nd)
   (w6 (T3 5 (ms0 T.b_list b_list (z9 2)) W6.nd)
   (w6 (Q6 C7 rfl (U9 (z9 1)) (u9 3 W6.nd)
   (w6 (O3 (u10 4 (tf0 (S5 T.b_len (z8 (z9 5) v7)))))
   (w6 (O3 (mm0 5 (z9 3)))
   v8)))
   (w6 (yy0 (X4 (z8 (z9 5) (z8 (S5 T.b_len (z8 (z9 2) v7)) (z8 (n6 (z9 4) (z50 (z8 (S5 T.b_len (z8 (z9 5) v7)) v7))) v7)))))
   v8)))))))) (λds d h=>W0 h)
theorem oq0:FnScope ze0 ["_law_found", "_law_due"] (u5 (top 43)):=fsc rfl rfl rfl rfl (by decide +kernel)
theorem R9(F:Fun K "_law_alike" "_law_alike" (top 43) fa fd)(T:Txt mg)(mp:List D->Option D)(kk:Nat)(C__law_alike:FnD P w K mg base "_law_alike" kk ["_law_found", "_law_due"] mp)  : FnOk P w K mg base CX0 (kk+1) fa fd ["_law_found", "_law_due"] (spD K (mkF 2 ze0 (y80 mp))) :=
 okD (k:=kk) (G:=y80 mp) F oq0 (λcdv A outer s H E hr=>(w6 (g8 (m8 nt0 p40 (z9 1) wq0)
   (w6 (o6 (rq0 nt0 p40 (z9 0) wq0))
   v8)
   v8)
   (w6 (g8 (zq0 (K9 kr0 b_str T.b_isinstance T.b_str (z9 1)))
   (w6 (o6 (rh0 (K9 kr0 b_str T.b_isinstance T.b_str (z9 0)) (mi0 (rq0 X3 Z7 (z9 0) (z9 1)))))
   v8)
   v8)
   (w6 (g8 (zq0 (K9 j90 b_int T.b_isinstance T.b_int (z9 1)))
   (w6 (o6 (rh0 (K9 j90 b_int T.b_isinstance T.b_int (z9 0)) (rh0 (Zv0 (K9 e90 b_bool T.b_isinstance T.b_bool (z9 0))) (mi0 (rq0 X3 Z7 (z9 0) (z9 1))))))
   v8)
   v8)
   (w6 (g8 (PWD.pt (m80 (m8 nm0 rn0 (K9 zl0 b_tuple T.b_isinstance T.b_tuple (z9 0)) (K9 zl0 b_tuple T.b_isinstance T.b_tuple (z9 1))) (qs0 (m8 nm0 rn0 (K9 ld0 b_list T.b_isinstance T.b_list (z9 0)) (K9 ld0 b_list T.b_isinstance T.b_list (z9 1))))))
   (w6 (o6 qk0)
   v8)
   v8)
   (w6 (o6 (rh0 (rq0 X3 Z7 (S5 T.b_len (z8 (z9 0) v7)) (S5 T.b_len (z8 (z9 1) v7))) (mi0 (wu0 (dm0 rfl) Xr0 T.b_all b_all (z8 (G3 (sc:=u5 (top 43)) (N:=ze0) (N':=["_law_k", "_law_found", "_law_due"]) (n:=1) (caps:=[0,1]) (by exact cok rfl rfl (by decide +kernel)) (by decide) (K7 T.b_range (z8 (S5 T.b_len (z8 (z9 1) v7)) v7)) (λcl s H ex=>u9 0 (by decide +kernel:(["_law_k", "_law_found", "_law_due"]:List Str).Nodup)) (λcl s H ex=>V5) (λcl s H ex=>(c7 C__law_alike hr (A1 _) (z8 (p7 (z9 1) (z9 0)) (z8 (p7 (z9 2) (z9 0)) v7))))) v7)))))
   v8)))))) (λds d h=>W0 h)
theorem w70:FnScope yp0 ["_law_part"] (u5 (top 44)):=fsc rfl rfl rfl rfl (by decide +kernel)
theorem op0(F:Fun K "_law_links" "_law_links" (top 44) fa fd)(T:Txt mg)  : FnOk P w K mg base CX0 1 fa fd ["_law_part"] (spN K U3) :=
 okN (k:=0) (G:=tb0) F w70 (λcdv A outer s H E hr=>(w6 (g8 (m8 X3 Z7 (p7 (z9 0) v9) j4)
   (w6 (U8 (Q7 v7))
   v8)
   v8)
   (w6 (m7 (p7 (z9 0) (zf0 v9)) (u9 1 w70.nd))
   (w6 (g8 (m8 nm0 rn0 (p7 (z9 0) v9) j4)
   (w6 (u90 1 w70.nd (sc:=u5 (top 44)) (N:=yp0) (N':=["_law_pair"]) (n:=1) (caps:=[]) (by exact cok rfl rfl (by decide +kernel)) (by decide) (zp0 (p7 (z9 0) (zf0 v9))) (λcl s H ex=>u9 0 (by decide +kernel:(["_law_pair"]:List Str).Nodup)) (λcl s H ex=>V5) (λcl s H ex=>(p7 (z9 0) v9)))
   v8)
   v8)
   (w6 (U8 (xk0 (sc:=u5 (top 44)) (N:=yp0) (N':=["_law_value"]) (n:=1) (caps:=[]) (by exact cok rfl rfl (by decide +kernel)) (by decide) (Z80 (z9 1)) (λcl s H ex=>u9 0 (by decide +kernel:(["_law_value"]:List Str).Nodup)) (λcl s H ex=>(ki0 (zq0 (K9 zl0 b_tuple T.b_isinstance T.b_tuple (z9 0))))) (λcl s H ex=>(p7 (z9 0) v9))))
   v8))))) (λds d h=>zy0 h)
theorem td0:FnScope M5 ["_law_web", "_law_at", "_law_found"] (u5 (top 45)):=fsc rfl rfl rfl rfl (by decide +kernel)
theorem lt0(F:Fun K "_law_come" "_law_come" (top 45) fa fd)(T:Txt mg)(mp mq:List D->Option (List D))(kk:Nat)(hkk:1<=kk)(C__law_come:FnM P w K mg base "_law_come" kk ["_law_web", "_law_at", "_law_found"] false mp)(C__law_links:FnN P w K mg base "_law_links" 1 ["_law_part"] U3)
  (hf:∀ds l l',mq (ds++[.lst l])=some l'->(ds++[D.lst l]).length=3/\∀p,(false=true/\O2 mp (M7 M5 ds p l)=some (.rf (lent p l')))∨(false=false/\∃δ',O2 mp (M7 M5 ds p l)=some (.nx δ')/\δ'[ds.length]?=some (.ow (lent p l')))):FnOk P w K mg base CX0 (kk+1) fa fd ["_law_web", "_law_at", "_law_found"] (spM K false mq) :=
 okM (k:=kk) (G:=O2 mp) F td0 (λcdv A outer s H E hr=>(w6 (g8 (qv0 (m8 nz0 (fm0 true) (z9 1) (z9 2)))
   (w6 (O3 (a90 2 (z9 1)))
   (w6 (Q6 C7 rfl (U9 (P0 C__law_links hr (C3 (by decide:1<=1) hkk) (z8 (p7 (z9 0) (z9 1)) v7))) (u9 3 td0.nd)
   (w6 (uw0 2 C__law_come hr (A1 _) (xd0 (z9 0) (xd0 (z9 3) (qz0 2))))
   v8))
   v8))
   v8)
   v8)) hf
theorem k50:FnScope rp0 ["_law_value", "_law_numbers"] (u5 (top 46)):=fsc rfl rfl rfl rfl (by decide +kernel)
theorem kc0(F:Fun K "_law_led" "_law_led" (top 46) fa fd)(T:Txt mg)  : FnOk P w K mg base CX0 1 fa fd ["_law_value", "_law_numbers"] (spD K V6) :=
 okD (k:=0) (G:=q40) F k50 (λcdv A outer s H E hr=>(w6 (g8 (zq0 (K9 zl0 b_tuple T.b_isinstance T.b_tuple (z9 0)))
   (w6 (o6 (X4 (z8 j4 (z8 (vu0 (y60 hr) (z9 1) (p7 (z9 0) v9)) v7))))
   v8)
   v8)
   (w6 (o6 (z9 0))
   v8))) (λds d h=>W0 h)
theorem V1:FnScope J9 ["_law_web", "_law_at"] (u5 (top 47)):=fsc rfl rfl rfl rfl (by decide +kernel)
theorem ov0(F:Fun K "_law_drawn" "_law_drawn" (top 47) fa fd)(T:Txt mg)(C__law_come:FnM P w K mg base "_law_come" 63 ["_law_web", "_law_at", "_law_found"] false Y5)(C__law_led:FnD P w K mg base "_law_led" 1 ["_law_value", "_law_numbers"] V6):FnOk P w K mg base CX0 64 fa fd ["_law_web", "_law_at"] (spD K M8) :=
 okD (k:=63) (G:=yr0) F V1 (λcdv A outer s H E hr=>(w6 (T3 2 (Q7 v7) V1.nd)
   (w6 (uw0 2 C__law_come hr (by decide) (xd0 (z9 0) (xd0 (z9 1) (qz0 2))))
   (w6 (uf0 2 (T3 3 v80 V1.nd))
   (w6 (Q6 C7 rfl (U9 (z9 2)) (u9 4 V1.nd)
   (w6 (zo0 (wi0 (tf0 (wu0 fd0 ao0 T.b_len PySem.boot_len (z8 (z9 3) v7)))) (u20 3 (y60 hr) (z9 4)))
   v8))
   (w6 (uf0 3 (T3 5 (Q7 v7) V1.nd))
   (w6 (Q6 C7 rfl (U9 (z9 2)) (u9 4 V1.nd)
   (w6 (m7 (p7 (z9 0) (z9 4)) (u9 6 V1.nd))
   (w6 (g8 (m8 X3 Z7 (p7 (z9 6) v9) j4)
   (w6 (m7 (X4 (z8 j4 (z8 (K5 U7 yv0 T.b_tuple b_tuple (z8 (G3 (sc:=u5 (top 47)) (N:=J9) (N':=["_law_value", "_law_numbers"]) (n:=1) (caps:=[3]) (by exact cok rfl rfl (by decide +kernel)) (by decide) (zp0 (p7 (z9 6) v9)) (λcl s H ex=>u9 0 (by decide +kernel:(["_law_value", "_law_numbers"]:List Str).Nodup)) (λcl s H ex=>V5) (λcl s H ex=>(c7 C__law_led hr (by decide) (z8 (z9 0) (z8 (z9 1) v7))))) v7)) v7))) (u9 6 V1.nd))
   v8)
   (w6 (g8 (m8 nm0 rn0 (p7 (z9 6) v9) j4)
   (w6 (u90 7 V1.nd (sc:=u5 (top 47)) (N:=J9) (N':=["_law_name", "_law_value", "_law_numbers"]) (n:=2) (caps:=[3]) (by exact cok rfl rfl (by decide +kernel)) (by decide) (zp0 (p7 (z9 6) (zf0 v9))) (λcl s H ex=>ud0 0 1 (by decide +kernel:(["_law_name", "_law_value", "_law_numbers"]:List Str).Nodup) (by decide)) (λcl s H ex=>V5) (λcl s H ex=>(X4 (z8 (z9 0) (z8 (c7 C__law_led hr (by decide) (z8 (z9 1) (z8 (z9 2) v7))) v7)))))
   (w6 (m7 (n6 (v60 (z9 6) xm0 (zj0 (zf0 v9))) (X4 (z8 (K5 U7 yv0 T.b_tuple b_tuple (z8 (z9 7) v7)) v7))) (u9 6 V1.nd))
   v8))
   v8)
   v8))
   (w6 (O3 (u10 5 (z9 6)))
   v8))))
   (w6 (yy0 (K5 U7 yv0 T.b_tuple b_tuple (z8 (z9 5) v7)))
   v8)))))))) (λds d h=>W0 h)
theorem ym0:FnScope zb0 ["_law_whole", "_law_spans"] (u5 (top 48)):=fsc rfl rfl rfl rfl (by decide +kernel)
theorem lv0{Pt:Addr}(F:FunL K "_law_look" "_law_look" (top 48) fa fd c0)(C:W.CodeHd base c0 Pt)(hB:base.BuiltinsAt mg Pt)(T:Txt mg)  : FnOk P w K mg base CX0 1 fa fd ["_law_whole", "_law_spans"] (spT Pt (("_law_look" : Str) ++ ".<locals>." ++ "<lambda>") (spD K U5)) :=
 okL (k:=0) (i:=2) (G:=za0) (init:=(Z2 (top 48)).dropLast) F ym0 C hB rfl rfl rfl (λenv c hc=>dr0 rfl env c hc) (λenv=>rfl) (λqn c pm J cd=>⟨_,_,_,rfl,rfl,rfl,rfl,rfl,rfl,Xx0,rfl,rfl,rfl,by decide +kernel,by decide +kernel,by decide +kernel,λu=>rfl⟩) (λcdv A outer s H E hr=>(w6 (T3 2 v80 ym0.nd)
   (w6 (Q6 C7 rfl (U9 (z9 1)) (ud0 3 4 ym0.nd (by decide))
   (w6 (Q6 C7 rfl (ql0 T.b_range (z8 (z9 3) (z8 (z9 4) v7))) (u9 5 ym0.nd)
   (w6 (zo0 (wi0 (p7 (z9 0) (z9 5))) (u20 2 (y60 hr) (z9 5)))
   v8))
   v8))
   v8))) (λds d h=>X90 h)
theorem zc0:FnScope vz0 ["_law_look_here", "_law_k"] (u5 (top 49)):=fsc rfl rfl rfl rfl (by decide +kernel)
theorem qq0(F:Fun K "_law_refused" "_law_refused" (top 49) fa fd)(T:Txt mg){rr:Addr}(XT:XC.Tab K mg "WebError" rr ["NoPlace"] ["NoPlace"])(X_wanted:FnX P w K mg base "wanted" 6 ["look", "k"] K1):FnOk P w K mg base CX0 7 fa fd ["_law_look_here", "_law_k"] (spD K G6) :=
 okD (k:=6) (G:=vj0) F zc0 (λcdv A outer s H E hr=>(w6 (m7 wq0 (u9 2 zc0.nd))
   (w6 (am0 3 XT (λpn xe=>(V0 (fn0 X_wanted hr (by decide) (z8 (z9 0) (z8 (z9 1) v7)))
   v10))
   (λea=>(w6 (ap0 2 3 zc0.nd)
   v8)) zc0.nd)
   (w6 (o6 (bg0 2 XT (by decide) (by decide) T.b_isinstance))
   v8)))) (λds d h=>W0 h)
theorem zx0:FnScope nl0 ["_law_script"] (u5 (top 50)):=fsc rfl rfl rfl rfl (by decide +kernel)
theorem Zk0{Pt:Addr}(F:Fun K "law" "law" (top 50) fa fd)(T:Txt mg)(C__law_alike:FnD P w K mg base "_law_alike" 8 ["_law_found", "_law_due"] T9)(C__law_built:FnD P w K mg base "_law_built" 4 ["_law_script", "_law_start", "_law_most"] yj0)(C__law_cell_at:FnD P w K mg base "_law_cell_at" 1 ["_law_script", "_law_k"] d7)(C__law_come:FnM P w K mg base "_law_come" 63 ["_law_web", "_law_at", "_law_found"] false Y5)(C__law_drawn:FnD P w K mg base "_law_drawn" 64 ["_law_web", "_law_at"] M8)(C__law_laid_out:FnD P w K mg base "_law_laid_out" 4 ["_law_web"] O4)(C__law_look:ex0 P w K mg base Pt (("_law_look" : Str) ++ ".<locals>." ++ "<lambda>") "_law_look" 1 ["_law_whole", "_law_spans"] U5)(C__law_mix:FnD P w K mg base "_law_mix" 1 ["_law_cell", "_law_k"] o4)(C__law_refused:FnD P w K mg base "_law_refused" 7 ["_law_look_here", "_law_k"] G6)(C_wanted:FnD P w K mg base "wanted" 6 ["look", "k"] (zw0 K1)):FnOk P w K mg base CX0 65 fa fd ["_law_script"] (spT Pt (("_law_look" : Str) ++ ".<locals>." ++ "<lambda>") (spD K tx0)) :=
 Vy0 (k:=64) (G:=cp0) F zx0 (λcdv A outer s H E hT hr=>(w6 (m7 v9 (u9 1 zx0.nd))
   (w6 (g8 (m8 X3 Z7 (X6 (c7 C__law_cell_at hr (by decide) (z8 (z9 0) (z8 v9 v7))) v9) v9)
   (w6 (m7 v9 (u9 1 zx0.nd))
   v8)
   v8)
   (w6 (m7 (c7 C__law_built hr (by decide) (z8 (z9 0) (z8 v9 (z8 (z9 1) v7)))) (u9 2 zx0.nd))
   (w6 (zo0 (wi0 (c7 C__law_laid_out hr (by decide) (z8 (z9 2) v7))) (lo0 (c50 3 4 5 zx0.nd (by decide))))
   (w6 (Q6 C7 rfl (U9 (n6 (z50 (z8 v9 v7)) (G3 (sc:=u5 (top 50)) (N:=nl0) (N':=["_law_k", "_law_script", "_law_web"]) (n:=1) (caps:=[0,2]) (by exact cok rfl rfl (by decide +kernel)) (by decide) (K7 T.b_range (z8 v9 v7)) (λcl s H ex=>u9 0 (by decide +kernel:(["_law_k", "_law_script", "_law_web"]:List Str).Nodup)) (λcl s H ex=>V5) (λcl s H ex=>(X6 (c7 C__law_mix hr (by decide) (z8 (c7 C__law_cell_at hr (by decide) (z8 (z9 1) (z8 v9 v7))) (z8 (n6 v9 (z9 0)) v7))) (S5 T.b_len (z8 (z9 2) v7))))))) (u9 6 zx0.nd)
   (w6 (T3 7 (Q7 v7) zx0.nd)
   (w6 (uw0 7 C__law_come hr (by decide) (xd0 (z9 2) (xd0 (z9 6) (qz0 7))))
   (w6 (uf0 7 (m7 (fh0 C__law_look hT hr (by decide) (z8 (z9 3) (z8 (n6 (z50 (z8 (X4 (z8 v9 (z8 (z9 4) v7))) v7)) (G3 (sc:=u5 (top 50)) (N:=nl0) (N':=["_law_k", "_law_begins"]) (n:=1) (caps:=[5]) (by exact cok rfl rfl (by decide +kernel)) (by decide) (U9 (z9 7)) (λcl s H ex=>u9 0 (by decide +kernel:(["_law_k", "_law_begins"]:List Str).Nodup)) (λcl s H ex=>V5) (λcl s H ex=>(X4 (z8 (p7 (z9 1) (z9 0)) (z8 (p7 (z9 1) (n6 (z9 0) v9)) v7)))))) v7))) (u9 8 zx0.nd)))
   (w6 (g8 (j50 (zq0 (c7 C__law_alike hr (by decide) (z8 (c7 C_wanted hr (by decide) (z8 (z9 8) (z8 (z9 6) v7))) (z8 (c7 C__law_drawn hr (by decide) (z8 (z9 2) (z8 (z9 6) v7))) v7)))))
   (w6 (o6 qk0)
   v8)
   v8)
   v8)))))
   (w6 (m7 (X6 (c7 C__law_cell_at hr (by decide) (z8 (z9 0) (z8 v9 v7))) (rf0 v9 v9)) (u9 9 zx0.nd))
   (w6 (Q6 C7 rfl (U9 (z50 (z8 (zf0 v9) (z8 (S5 T.b_len (z8 (z9 2) v7)) (z8 (n6 (S5 T.b_len (z8 (z9 2) v7)) (z9 9)) (z8 (yh0 (zf0 v9) (z9 9)) v7)))))) (u9 10 zx0.nd)
   (w6 (g8 (j50 (zq0 (c7 C__law_refused hr (by decide) (z8 (fh0 C__law_look hT hr (by decide) (z8 (z9 3) (z8 (z50 (z8 (X4 (z8 v9 (z8 (z9 4) v7))) v7)) v7))) (z8 (z9 10) v7)))))
   (w6 (o6 qk0)
   v8)
   v8)
   v8))
   (w6 (o6 qk0)
   v8))))))))) (λds d h=>W0 h)
end
theorem us1:∀{us:List α},us.length=1->∃a,us=[a]
 | [a],_=>⟨a,rfl⟩
theorem us2:∀{us:List α},us.length=2->∃a b,us=[a,b]
 | [a,b],_=>⟨a,b,rfl⟩
theorem us3:∀{us:List α},us.length=3->∃a b c,us=[a,b,c]
 | [a,b,c],_=>⟨a,b,c,rfl⟩
def Hd(K:W.Frag)(x:Str)(st:Stmt):Prop:=∃f fd,Fun K x x st f fd/\W.nsIn K mainGlobals x=some (some (.ref f))
theorem Y8{f:Addr}{kV:Value}(a:W.nsIn K mainGlobals x=some (some (.ref f)))(l:K.lookup f=some ⟨oc,od,.func (W.fnOf x x (W5 st) (Z2 st) (u5 st) .none kV doc pm an cdv ct),osl⟩)(c:W.codeIn K cdv x=true)(k:W.keepIn K (.ref f)=true):Hd K x st:=⟨f,_,mv0 l c k,a⟩
section
variable(P9:Program)(w9:World)(b9:Heap){h:Heap}{f:Addr}{ps:List Str}{m:List D->Option D}(X9:K.In h)(G9:h.Ns mainGlobals mg)(F9:Fun K x x st f fd)(a9:W.nsIn K mainGlobals x=some (some (.ref f)))
include X9 G9 F9 a9
theorem cD1(o:FnOk P9 w9 K mg b9 CX0 n f fd ps (spD K m))(hl:ps.length=1)(b:∀(kV doc pm:Value) (an:Option Addr) (cdv ct u:Value),bindArgs (W.fnOf x x (W5 st) (Z2 st) (u5 st) .none kV doc pm an cdv ct) ⟨[u],[]⟩=pure (ps.zip [u])):FnD P9 w9 K mg b9 x n ps m:=⟨f,fd,o,B3 X9 G9 a9,F9.kp,F9.binds λ_ _ _ _ _ _ us h=>by obtain⟨u,rfl⟩:=us1 (h.trans hl);exact b _ _ _ _ _ _ _⟩
theorem cD2(o:FnOk P9 w9 K mg b9 CX0 n f fd ps (spD K m))(hl:ps.length=2)(b:∀(kV doc pm:Value) (an:Option Addr) (cdv ct u v:Value),bindArgs (W.fnOf x x (W5 st) (Z2 st) (u5 st) .none kV doc pm an cdv ct) ⟨[u,v],[]⟩=pure (ps.zip [u,v])):FnD P9 w9 K mg b9 x n ps m:=⟨f,fd,o,B3 X9 G9 a9,F9.kp,F9.binds λ_ _ _ _ _ _ us h=>by obtain⟨u,v,rfl⟩:=us2 (h.trans hl);exact b _ _ _ _ _ _ _ _⟩
theorem cD3(o:FnOk P9 w9 K mg b9 CX0 n f fd ps (spD K m))(hl:ps.length=3)(b:∀(kV doc pm:Value) (an:Option Addr) (cdv ct u v w:Value),bindArgs (W.fnOf x x (W5 st) (Z2 st) (u5 st) .none kV doc pm an cdv ct) ⟨[u,v,w],[]⟩=pure (ps.zip [u,v,w])):FnD P9 w9 K mg b9 x n ps m:=⟨f,fd,o,B3 X9 G9 a9,F9.kp,F9.binds λ_ _ _ _ _ _ us h=>by obtain⟨u,v,w,rfl⟩:=us3 (h.trans hl);exact b _ _ _ _ _ _ _ _ _⟩
theorem cN1(o:FnOk P9 w9 K mg b9 CX0 n f fd ps (spN K m))(hl:ps.length=1)(b:∀(kV doc pm:Value) (an:Option Addr) (cdv ct u:Value),bindArgs (W.fnOf x x (W5 st) (Z2 st) (u5 st) .none kV doc pm an cdv ct) ⟨[u],[]⟩=pure (ps.zip [u])):FnN P9 w9 K mg b9 x n ps m:=⟨f,fd,o,B3 X9 G9 a9,F9.kp,F9.binds λ_ _ _ _ _ _ us h=>by obtain⟨u,rfl⟩:=us1 (h.trans hl);exact b _ _ _ _ _ _ _⟩
theorem cN2(o:FnOk P9 w9 K mg b9 CX0 n f fd ps (spN K m))(hl:ps.length=2)(b:∀(kV doc pm:Value) (an:Option Addr) (cdv ct u v:Value),bindArgs (W.fnOf x x (W5 st) (Z2 st) (u5 st) .none kV doc pm an cdv ct) ⟨[u,v],[]⟩=pure (ps.zip [u,v])):FnN P9 w9 K mg b9 x n ps m:=⟨f,fd,o,B3 X9 G9 a9,F9.kp,F9.binds λ_ _ _ _ _ _ us h=>by obtain⟨u,v,rfl⟩:=us2 (h.trans hl);exact b _ _ _ _ _ _ _ _⟩
theorem cN3(o:FnOk P9 w9 K mg b9 CX0 n f fd ps (spN K m))(hl:ps.length=3)(b:∀(kV doc pm:Value) (an:Option Addr) (cdv ct u v w:Value),bindArgs (W.fnOf x x (W5 st) (Z2 st) (u5 st) .none kV doc pm an cdv ct) ⟨[u,v,w],[]⟩=pure (ps.zip [u,v,w])):FnN P9 w9 K mg b9 x n ps m:=⟨f,fd,o,B3 X9 G9 a9,F9.kp,F9.binds λ_ _ _ _ _ _ us h=>by obtain⟨u,v,w,rfl⟩:=us3 (h.trans hl);exact b _ _ _ _ _ _ _ _ _⟩
end
theorem all_mk{l:W.OpenLaw}{w:World}{h:Heap}(X:K.In h)(G:h.Ns mainGlobals mg)(hfa:mg "law"=some (.ref fa))
  {f5 f8 f36 f38:Addr}
  {od5 an5 od8 an8 od36 an36 od38 an38:Option Addr} {sl5 sl8 sl36 sl38:Array (Option Value)} {oc5 kV5 dc5 pm5 cd5 ct5 oc8 kV8 dc8 pm8 cd8 ct8 oc36 kV36 dc36 pm36 ct36 oc38 kV38 dc38 pm38 cd38 ct38:Value}
  {cL Pt:Addr}
  {t_BASE t_NAME_SIGNS t_WORD_SIGNS:Tok}
  (h0:Hd K "unfolded" (top 5))
  (h1:Hd K "pair_names" (top 10))
  (h2:Hd K "values" (top 11))
  (h3:Hd K "with_values" (top 12))
  (h4:Hd K "links" (top 13))
  {T5:Addr} {tc5:Value} {td5:Option Addr} {tn5:Nat} {ts5:Array (Option Value)} {tt5_0:Tok}
  (a5:W.nsIn K mainGlobals "met"=some (some (.ref f5))) (l5:K.lookup f5=some ⟨oc5,od5,.func (W.fnOf "met" "met" (W5 (top 14)) (Z2 (top 14)) (u5 (top 14)) (.ref T5) kV5 dc5 pm5 an5 cd5 ct5),sl5⟩) (c5:W.codeIn K cd5 "met"=true) (k5:W.keepIn K (.ref f5)=true)
  (t5:K.lookup T5=some ⟨tc5,td5,.seq #[.int 0 tt5_0] tn5,ts5⟩)
  (h6:Hd K "met_but" (top 15))
  (h7:Hd K "relinked" (top 16))
  {T8:Addr} {tc8:Value} {td8:Option Addr} {tn8:Nat} {ts8:Array (Option Value)} {tt8_0:Tok}
  (a8:W.nsIn K mainGlobals "drawn"=some (some (.ref f8))) (l8:K.lookup f8=some ⟨oc8,od8,.func (W.fnOf "drawn" "drawn" (W5 (top 17)) (Z2 (top 17)) (u5 (top 17)) (.ref T8) kV8 dc8 pm8 an8 cd8 ct8),sl8⟩) (c8:W.codeIn K cd8 "drawn"=true) (k8:W.keepIn K (.ref f8)=true)
  (t8:K.lookup T8=some ⟨tc8,td8,.seq #[.int 0 tt8_0] tn8,ts8⟩)
  (h9:Hd K "sign_of" (top 19))
  (h10:Hd K "wanted_items" (top 20))
  (h11:Hd K "made_part" (top 21))
  (h12:Hd K "made_pairs" (top 22))
  (h13:Hd K "numbered_value" (top 24))
  (h14:Hd K "wanted" (top 25))
  (h15:Hd K "number_at" (top 26))
  (h16:Hd K "part_starts" (top 27))
  (h17:Hd K "part_at" (top 28))
  (h18:Hd K "item_at" (top 29))
  (h19:Hd K "name_at" (top 30))
  (h20:Hd K "_law_cell_at" (top 32))
  (h21:Hd K "_law_mix" (top 33))
  (h22:Hd K "_law_pool" (top 34))
  (h23:Hd K "_law_one_value" (top 35))
  (h24:Hd K "_law_drawn_part" (top 36))
  (h25:Hd K "_law_built" (top 37))
  (h26:Hd K "_law_digits" (top 38))
  (h27:Hd K "_law_signs" (top 39))
  (h28:Hd K "_law_value_bytes" (top 40))
  (h29:Hd K "_law_part_bytes" (top 41))
  (h30:Hd K "_law_laid_out" (top 42))
  (h31:Hd K "_law_alike" (top 43))
  (h32:Hd K "_law_links" (top 44))
  (h33:Hd K "_law_come" (top 45))
  (h34:Hd K "_law_led" (top 46))
  (h35:Hd K "_law_drawn" (top 47))
  (a36:W.nsIn K mainGlobals "_law_look"=some (some (.ref f36))) (l36:K.lookup f36=some ⟨oc36,od36,.func (W.fnOf "_law_look" "_law_look" (W5 (top 48)) (Z2 (top 48)) (u5 (top 48)) .none kV36 dc36 pm36 an36 (.ref cL) ct36),sl36⟩) (c36:W.codeIn K (.ref cL) "_law_look"=true) (k36:W.keepIn K (.ref f36)=true)
  (h37:Hd K "_law_refused" (top 49))
  (a38:W.nsIn K mainGlobals "law"=some (some (.ref f38))) (l38:K.lookup f38=some ⟨oc38,od38,.func (W.fnOf "law" "law" (W5 (top 50)) (Z2 (top 50)) (u5 (top 50)) .none kV38 dc38 pm38 an38 cd38 ct38),sl38⟩) (c38:W.codeIn K cd38 "law"=true) (k38:W.keepIn K (.ref f38)=true)
  (z_all:W.nsIn K mainGlobals "all"=some none)
  (z_bool:W.nsIn K mainGlobals "bool"=some none)
  (z_dict:W.nsIn K mainGlobals "dict"=some none)
  (z_enumerate:W.nsIn K mainGlobals "enumerate"=some none)
  (z_int:W.nsIn K mainGlobals "int"=some none)
  (z_isinstance:W.nsIn K mainGlobals "isinstance"=some none)
  (z_len:W.nsIn K mainGlobals "len"=some none)
  (z_list:W.nsIn K mainGlobals "list"=some none)
  (z_ord:W.nsIn K mainGlobals "ord"=some none)
  (z_range:W.nsIn K mainGlobals "range"=some none)
  (z_reversed:W.nsIn K mainGlobals "reversed"=some none)
  (z_str:W.nsIn K mainGlobals "str"=some none)
  (z_tuple:W.nsIn K mainGlobals "tuple"=some none)
  (z_zip:W.nsIn K mainGlobals "zip"=some none)
  (y_BASE:W.nsIn K mainGlobals "BASE"=some (some (.int 128 t_BASE)))
  (y_NAME_SIGNS:W.nsIn K mainGlobals "NAME_SIGNS"=some (some (.str "0123456789abcdefghijklmnopqrstuvwxyz" t_NAME_SIGNS)))
  (y_WORD_SIGNS:W.nsIn K mainGlobals "WORD_SIGNS"=some (some (.str " 0123456789abcdefghijklmnopqrstuvwxyz" t_WORD_SIGNS)))
  {kA_KINDS:Addr} {kn_KINDS:Nat} {ks_KINDS:Array (Option Value)} {kt_KINDS_0 kt_KINDS_1 kt_KINDS_2 kt_KINDS_3:Tok}
  (kN_KINDS:W.nsIn K mainGlobals "KINDS"=some (some (.ref kA_KINDS))) (kL_KINDS:K.lookup kA_KINDS=some ⟨.type "tuple",none,.seq #[.str "text" kt_KINDS_0,.str "row" kt_KINDS_1,.str "table" kt_KINDS_2,.str "record" kt_KINDS_3] kn_KINDS,ks_KINDS⟩)
  (xt:XC.ej0 K "WebError" ["NoPlace"] ["NoPlace"]=true)
  : ∃fd:FuncData,(∀(s:Shared) (v:Value),BindsTo s fd ⟨[v],[]⟩ [("_law_script",v)])/\∀base:Heap,K.In base->base.Ns mainGlobals mg->W.CodeHd base cL Pt->base.BuiltinsAt mg Pt->FnOk l.prog w K mg base CX0 65 fa fd ["_law_script"] (spT Pt (("_law_look" : Str) ++ ".<locals>." ++ "<lambda>") (spD K tx0)):=by
 have e:=hfa.symm.trans (B3 X G a38);cases e;have T:Txt mg:=⟨D3 X G z_all,D3 X G z_bool,D3 X G z_dict,D3 X G z_enumerate,D3 X G z_int,D3 X G z_isinstance,D3 X G z_len,D3 X G z_list,D3 X G z_ord,D3 X G z_range,D3 X G z_reversed,D3 X G z_str,D3 X G z_tuple,D3 X G z_zip,⟨_,B3 X G y_BASE⟩,⟨_,B3 X G y_NAME_SIGNS⟩,⟨_,B3 X G y_WORD_SIGNS⟩⟩;have q1:ek0 K mg "KINDS" ["text", "row", "table", "record"]:=⟨_,_,_,_,B3 X G kN_KINDS,kL_KINDS,rfl,rfl,rfl,(by show 4<=sizeLine;decide),.cons ⟨_,rfl⟩ (.cons ⟨_,rfl⟩ (.cons ⟨_,rfl⟩ (.cons ⟨_,rfl⟩ (.nil))))⟩;obtain⟨rr,XT⟩:=XC.tab_of X G xt;obtain⟨f0,g0,F0,a0⟩:=h0;obtain⟨f1,g1,F1,a1⟩:=h1;obtain⟨f2,g2,F2,a2⟩:=h2;obtain⟨f3,g3,F3,a3⟩:=h3;obtain⟨f4,g4,F4,a4⟩:=h4;have F5:=kn0 (st:=top 14) l5 c5 k5;obtain⟨f6,g6,F6,a6⟩:=h6;obtain⟨f7,g7,F7,a7⟩:=h7;have F8:=kn0 (st:=top 17) l8 c8 k8;obtain⟨f9,g9,F9,a9⟩:=h9;obtain⟨H5,g10,s6,x8⟩:=h10;obtain⟨f11,I5,r1,y3⟩:=h11;obtain⟨f12,z6,s0,y0⟩:=h12;obtain⟨f13,z1,s2,v2⟩:=h13;obtain⟨u7,I1,q3,x9⟩:=h14;obtain⟨I8,I9,q9,x6⟩:=h15;obtain⟨y4,g16,q4,w5⟩:=h16;obtain⟨I2,H4,r2,u1⟩:=h17;obtain⟨f18,g18,s8,v3⟩:=h18;obtain⟨D1,g19,r4,t3⟩:=h19;obtain⟨H7,y9,s3,y6⟩:=h20;obtain⟨I6,g21,q6,v0⟩:=h21;obtain⟨z4,H8,r7,x3⟩:=h22;obtain⟨z2,I4,s7,w7⟩:=h23;obtain⟨H9,g24,q7,w4⟩:=h24;obtain⟨H0,z3,q8,w3⟩:=h25;obtain⟨z5,g26,r3,w2⟩:=h26;obtain⟨f27,z0,r9,x7⟩:=h27;obtain⟨I3,H3,t0,y1⟩:=h28;obtain⟨f29,L2,s9,x5⟩:=h29;obtain⟨B2,g30,r0,y5⟩:=h30;obtain⟨c2,t9,J,c3⟩:=h31;obtain⟨H6,g32,r6,y7⟩:=h32;obtain⟨s5,w1,n8,t1⟩:=h33;obtain⟨f34,X1,s4,v1⟩:=h34;obtain⟨I7,g35,r5,w0⟩:=h35;have y2:=mv0 (st:=top 48) l36 c36 k36;obtain⟨f37,g37,s1,y8⟩:=h37;have x0:=mv0 (st:=top 50) l38 c38 k38;refine⟨W.fnOf "law" "law" (W5 (top 50)) (Z2 (top 50)) (u5 (top 50)) .none kV38 dc38 pm38 an38 cd38 ct38,λs v=>.of_eq rfl,λbase _ _ u3 u4=>?_⟩;have n0:=cD1 l.prog w base X G F0 a0 (k00 F0 T) rfl (by intros;rfl);have k3:=cN1 l.prog w base X G F1 a1 (oo0 F1 T) rfl (by intros;rfl);have k0:=cN1 l.prog w base X G F2 a2 (fk0 F2 T) rfl (by intros;rfl);have e8:=cD2 l.prog w base X G F9 a9 (h40 F9 T) rfl (by intros;rfl);have e2:=cD2 l.prog w base X G s6 x8 (qr0 s6 T) rfl (by intros;rfl);have k6:=cD1 l.prog w base X G s0 y0 (on0 s0 T) rfl (by intros;rfl);have Z:=cD2 l.prog w base X G q9 x6 (lm0 q9 T) rfl (by intros;rfl);have b0:=cD2 l.prog w base X G s3 y6 (rw0 s3 T) rfl (by intros;rfl);have O:=cD2 l.prog w base X G q6 v0 (kb0 q6 T) rfl (by intros;rfl);have Y:=cN1 l.prog w base X G r3 w2 (pb0 r3 T) rfl (by intros;rfl);have j1:=cN1 l.prog w base X G r9 x7 (or0 r9 T) rfl (by intros;rfl);have i4:=cN1 l.prog w base X G r6 y7 (op0 r6 T) rfl (by intros;rfl);have n4:=cD2 l.prog w base X G s4 v1 (kc0 s4 T) rfl (by intros;rfl);have m1:ex0 l.prog w K mg base Pt (("_law_look" : Str) ++ ".<locals>." ++ "<lambda>") "_law_look" 1 ["_law_whole", "_law_spans"] U5:=⟨f36,_,lv0 ⟨⟨_,_,_,_,_,_,_,_,rfl,l36,c36⟩⟩ u3 u4 T ,B3 X G a36,k36,y2.binds (ps:=["_law_whole", "_law_spans"]) λ_ _ _ _ _ _ us hl=>by obtain⟨_,_,rfl⟩:=us2 hl;rfl⟩;have e9:=cD2 l.prog w base X G F3 a3 (qt0 F3 T k3) rfl (by intros;rfl);have m6:=cN1 l.prog w base X G F4 a4 (eu0 F4 T k0) rfl (by intros;rfl);have m0:=cD2 l.prog w base X G r1 y3 (l00 r1 T k6) rfl (by intros;rfl);have b5:=cD1 l.prog w base X G s2 v2 (sd0 s2 T n0) rfl (by intros;rfl);have h5:FnX l.prog w K mg base "part_starts" 2 ["look", "k"] X8:=⟨⟨y4,_,qy0 q4 T XT Z,B3 X G w5,q4.kp,q4.binds (ps:=["look", "k"]) λ_ _ _ _ _ _ us hl=>by obtain⟨_,_,rfl⟩:=us2 hl;rfl⟩⟩;have n7:=cD3 l.prog w base X G r4 t3 (i10 r4 T e8) rfl (by intros;rfl);have m2:=cN2 l.prog w base X G r7 x3 (mc0 r7 T O) rfl (by intros;rfl);have b6:=cD3 l.prog w base X G s7 w7 (sf0 s7 T O) rfl (by intros;rfl);have b1:=cN1 l.prog w base X G t0 y1 (us0 t0 T Y) rfl (by intros;rfl);have e7:=cN3 l.prog w base X G F6 a6 (ju0 F6 T m6) rfl (by intros;rfl);have b7:=cD2 l.prog w base X G F7 a7 (k70 F7 T k0 e9) rfl (by intros;rfl);have o3:=cD3 l.prog w base X G s8 v3 (i20 s8 T n7 Z b5 e8) rfl (by intros;rfl);have b2:=cD3 l.prog w base X G q7 w4 (tt0 q7 T O b6) rfl (by intros;rfl);have b3:=cD1 l.prog w base X G s9 x5 (tp0 s9 T Y j1 b1) rfl (by intros;rfl);have q0:FnN l.prog w K mg base "met" 4 ["web", "k"] uh0:=⟨f5,_,hf0 F5 T e7,B3 X G a5,k5,λs us X hl=>match us,hl with|[_,_],_=>d5 X rfl t5 rfl rfl rfl⟩;have t4:Uk0 l.prog w K mg base "met" 4 ["web", "k"] uh0 [(.int 0)]:=⟨f5,_,[.int 0 tt5_0],[.int 0],hf0 F5 T e7,B3 X G a5,k5,λs us X hl=>by obtain⟨u0,rfl⟩:=us1 (show us.length=1 by rw[List.length_append] at hl;simpa using hl);exact d5 X rfl t5 rfl rfl rfl,by repeat (first|exact .nil|refine .cons (by first|exact⟨_,rfl⟩|rfl) ?_),λH B=>by simp[p8,m5,j8,U4]⟩;have o1:=cD2 l.prog w base X G r2 u1 (i90 r2 T q1 o3 m0 Z e2) rfl (by intros;rfl);have k4:=cD3 l.prog w base X G q8 w3 (oy0 q8 T b0 b2 O m2) rfl (by intros;rfl);have c1:=cD1 l.prog w base X G r0 y5 (sv0 r0 T Y b3) rfl (by intros;rfl);have q2:FnD l.prog w K mg base "drawn" 5 ["web", "k"] xg0:=⟨f8,_,m60 F8 T q0 b7,B3 X G a8,k8,λs us X hl=>match us,hl with|[_,_],_=>d5 X rfl t8 rfl rfl rfl⟩;have t2:Vu0 l.prog w K mg base "drawn" 5 ["web", "k"] xg0 [(.int 0)]:=⟨f8,_,[.int 0 tt8_0],[.int 0],m60 F8 T q0 b7,B3 X G a8,k8,λs us X hl=>by obtain⟨u0,rfl⟩:=us1 (show us.length=1 by rw[List.length_append] at hl;simpa using hl);exact d5 X rfl t8 rfl rfl rfl,by repeat (first|exact .nil|refine .cons (by first|exact⟨_,rfl⟩|rfl) ?_),λH B=>by simp[p8,m5,j8,U4]⟩;have h8:FnX l.prog w K mg base "wanted" 6 ["look", "k"] K1:=⟨⟨u7,_,he0 q3 T q2 m6 o1 h5,B3 X G x9,q3.kp,q3.binds (ps:=["look", "k"]) λ_ _ _ _ _ _ us hl=>by obtain⟨_,_,rfl⟩:=us2 hl;rfl⟩⟩;have p4:=h8.plain;have d1:=cD2 l.prog w base X G s1 y8 (qq0 s1 T XT h8) rfl (by intros;rfl);have d3:FnD l.prog w K mg base "_law_alike" 0 ["_law_found", "_law_due"] (d9 0):=⟨c2,t9,is0,B3 X G c3,J.kp,J.binds (ps:=["_law_found", "_law_due"]) λ_ _ _ _ _ _ us hl=>by obtain⟨_,_,rfl⟩:=us2 hl;rfl⟩;have e5:FnD l.prog w K mg base "_law_alike" 1 ["_law_found", "_law_due"] (d9 1):=⟨c2,_,R9 J T _ 0 d3 ,B3 X G c3,J.kp,J.binds (ps:=["_law_found", "_law_due"]) λ_ _ _ _ _ _ us hl=>by obtain⟨_,_,rfl⟩:=us2 hl;rfl⟩;have d4:FnD l.prog w K mg base "_law_alike" 2 ["_law_found", "_law_due"] (d9 2):=⟨c2,_,R9 J T _ 1 e5 ,B3 X G c3,J.kp,J.binds (ps:=["_law_found", "_law_due"]) λ_ _ _ _ _ _ us hl=>by obtain⟨_,_,rfl⟩:=us2 hl;rfl⟩;have e4:FnD l.prog w K mg base "_law_alike" 3 ["_law_found", "_law_due"] (d9 3):=⟨c2,_,R9 J T _ 2 d4 ,B3 X G c3,J.kp,J.binds (ps:=["_law_found", "_law_due"]) λ_ _ _ _ _ _ us hl=>by obtain⟨_,_,rfl⟩:=us2 hl;rfl⟩;have d2:FnD l.prog w K mg base "_law_alike" 4 ["_law_found", "_law_due"] (d9 4):=⟨c2,_,R9 J T _ 3 e4 ,B3 X G c3,J.kp,J.binds (ps:=["_law_found", "_law_due"]) λ_ _ _ _ _ _ us hl=>by obtain⟨_,_,rfl⟩:=us2 hl;rfl⟩;have e6:FnD l.prog w K mg base "_law_alike" 5 ["_law_found", "_law_due"] (d9 5):=⟨c2,_,R9 J T _ 4 d2 ,B3 X G c3,J.kp,J.binds (ps:=["_law_found", "_law_due"]) λ_ _ _ _ _ _ us hl=>by obtain⟨_,_,rfl⟩:=us2 hl;rfl⟩;have c4:FnD l.prog w K mg base "_law_alike" 6 ["_law_found", "_law_due"] (d9 6):=⟨c2,_,R9 J T _ 5 e6 ,B3 X G c3,J.kp,J.binds (ps:=["_law_found", "_law_due"]) λ_ _ _ _ _ _ us hl=>by obtain⟨_,_,rfl⟩:=us2 hl;rfl⟩;have e3:FnD l.prog w K mg base "_law_alike" 7 ["_law_found", "_law_due"] (d9 7):=⟨c2,_,R9 J T _ 6 c4 ,B3 X G c3,J.kp,J.binds (ps:=["_law_found", "_law_due"]) λ_ _ _ _ _ _ us hl=>by obtain⟨_,_,rfl⟩:=us2 hl;rfl⟩;have e1:FnD l.prog w K mg base "_law_alike" 8 ["_law_found", "_law_due"] (d9 8):=⟨c2,_,R9 J T _ 7 e3 ,B3 X G c3,J.kp,J.binds (ps:=["_law_found", "_law_due"]) λ_ _ _ _ _ _ us hl=>by obtain⟨_,_,rfl⟩:=us2 hl;rfl⟩;have j0:FnD l.prog w K mg base "_law_alike" 8 ["_law_found", "_law_due"] T9:=e1;have l3:∀q,FnM l.prog w K mg base "_law_come" (1+q) ["_law_web", "_law_at", "_law_found"] false (m9 q):=by
  intro q
  induction q with
  | zero=>exact⟨s5,w1,kd0 xl0,B3 X G t1,n8.kp,n8.binds (ps:=["_law_web", "_law_at", "_law_found"]) λ_ _ _ _ _ _ us hl=>by obtain⟨_,_,_,rfl⟩:=us3 hl;rfl⟩
  | succ q ih=>exact⟨s5,_,lt0 n8 T _ _ (1+q) (M0 _ _) ih i4 (w40 q),B3 X G t1,n8.kp,n8.binds (ps:=["_law_web", "_law_at", "_law_found"]) λ_ _ _ _ _ _ us hl=>by obtain⟨_,_,_,rfl⟩:=us3 hl;rfl⟩
 have b4:FnM l.prog w K mg base "_law_come" 63 ["_law_web", "_law_at", "_law_found"] false Y5:=l3 62;have l4:=cD2 l.prog w base X G r5 w0 (ov0 r5 T b4 n4) rfl (by intros;rfl);exact Zk0 x0 T j0 k4 b0 b4 l4 c1 m1 O d1 p4
theorem nr0:∀ns:List Int,Rps K H B (ns.map D.int) (ns.map V.int)
 | []=>by rw[List.map_nil,List.map_nil,m5]
 | n::ns=>by
  rw[List.map_cons,List.map_cons,p8];exact⟨_,_,rfl,by rw[j8],nr0 ns⟩
theorem f90{ns:List Int}(hS:SqL K H a (ns.map V.int))(hm:tx0 [.lst (ns.map .int)]=some (.bl true)):spD K tx0 [.ref a] H (λv _=>v=.bl true) λ_ _ _=>False:=by
 refine⟨λ_=>False,[.lst (ns.map .int)],.bl true,λ_ z=>z.elim,?_,hm,λv H' _ r=>by rw[W3] at r;exact r⟩;rw[p8];refine⟨_,[],rfl,?_,by rw[m5]⟩;rw[W4];refine⟨a,ns.map V.int,rfl,?_,nr0 ns⟩;rcases hS with h|h
 ·exact .inl ⟨λz=>z,h⟩
 ·exact .inr (.inr h)
end Ja
open PySem.W PyProof.Rows
theorem PySem.W.Fast.tw6305669138834341237:True:=trivial
theorem PySem.W.Fast.tw1991915982376112347:True:=trivial
theorem PySem.W.Fast.tw16923903400387133468:True:=trivial
theorem PySem.W.Fast.tw11527653513092482448:True:=trivial
theorem PySem.W.Fast.tw14265266124363699343:True:=trivial
theorem PySem.W.Fast.tw3930509534341008640:True:=trivial
theorem PySem.W.Fast.tw15142617219286574473:True:=trivial
theorem PySem.W.Fast.tw14843538922381855674:True:=trivial
theorem PySem.W.Fast.tw9274651374261608001:True:=trivial
theorem PySem.W.Fast.tw14553661639394288705:True:=trivial
theorem PySem.W.Fast.tw98134614920741889:True:=trivial
theorem PySem.W.Fast.tw12445849038195370719:True:=trivial
theorem PySem.W.Fast.tw9359115385802909317:True:=trivial
theorem PySem.W.Fast.tw8425644592677023032:True:=trivial
theorem PySem.W.Fast.tw17760944798217958313:True:=trivial
theorem PySem.W.Fast.tw12782545632960376386:True:=trivial
theorem PySem.W.Fast.tw6404779038116889189:True:=trivial
theorem PySem.W.Fast.tw2511213591904218650:True:=trivial
theorem PySem.W.Fast.tw169184527777005280:True:=trivial
theorem PySem.W.Fast.tw1722835546795767:True:=trivial
theorem PySem.W.Fast.tw1947939014030695220:True:=trivial
theorem PySem.W.Fast.tw2723622790739445966:True:=trivial
theorem PySem.W.Fast.tw779964566296836160:True:=trivial
theorem PySem.W.Fast.tw15655025584294144489:True:=trivial
theorem PySem.W.Fast.tw15799200979329908377:True:=trivial
theorem PySem.W.Fast.tw169914962278017361:True:=trivial
theorem PySem.W.Fast.tw3031034150637106853:True:=trivial
theorem PySem.W.Fast.tw14275461292860334708:True:=trivial
theorem PySem.W.Fast.tw1866079057024445583:True:=trivial
theorem PySem.W.Fast.tw14003418655590311409:True:=trivial
set_option maxRecDepth 100000 in
theorem PySem.Challenge.cw_graphpack_k37_wanted_webs_holds : PySem.Challenge.rw_graphpack_k37_wanted_webs.Holds := by
 w_on;o_law;k_head;(case hw=>w_witness2)
 k_fill
 refine L2.dl0 (l:=PySem.Challenge.rw_graphpack_k37_wanted_webs) (n:=63) (k:=65) (x := "_law_script") (c0:=?cL) (q:=(("_law_look" : Str) ++ ".<locals>." ++ "<lambda>")) (CX:=L2.CX0) (sp:=λK=>DL.spD K Ja.tx0) rfl (by decide) rfl ⟨rfl,by decide,by decide⟩ ?KP ?HC ?F ?S ?C
 case F =>
  intro w mg fa h KX G hmg;refine' Ja.all_mk KX G hmg ?h0 ?h1 ?h2 ?h3 ?h4 ?a5 ?l5 ?c5 ?k5 ?t5 ?h6 ?h7 ?a8 ?l8 ?c8 ?k8 ?t8 ?h9 ?h10 ?h11 ?h12 ?h13 ?h14 ?h15 ?h16 ?h17 ?h18 ?h19 ?h20 ?h21 ?h22 ?h23 ?h24 ?h25 ?h26 ?h27 ?h28 ?h29 ?h30 ?h31 ?h32 ?h33 ?h34 ?h35 ?a36 ?l36 ?c36 ?k36 ?h37 ?a38 ?l38 ?c38 ?k38 ?z_all ?z_bool ?z_dict ?z_enumerate ?z_int ?z_isinstance ?z_len ?z_list ?z_ord ?z_range ?z_reversed ?z_str ?z_tuple ?z_zip ?y_BASE ?y_NAME_SIGNS ?y_WORD_SIGNS ?kN_KINDS ?kL_KINDS ?xt
  (case h0=>exact Ja.Y8 (by k_is) (by k_is) (by k_is) (by k_is))
  (case h1=>exact Ja.Y8 (by k_is) (by k_is) (by k_is) (by k_is))
  (case h2=>exact Ja.Y8 (by k_is) (by k_is) (by k_is) (by k_is))
  (case h3=>exact Ja.Y8 (by k_is) (by k_is) (by k_is) (by k_is))
  (case h4=>exact Ja.Y8 (by k_is) (by k_is) (by k_is) (by k_is))
  (case a5=>k_is)
  (case l5=>k_is)
  (case c5=>k_is)
  (case k5=>k_is)
  (case t5=>k_is)
  (case h6=>exact Ja.Y8 (by k_is) (by k_is) (by k_is) (by k_is))
  (case h7=>exact Ja.Y8 (by k_is) (by k_is) (by k_is) (by k_is))
  (case a8=>k_is)
  (case l8=>k_is)
  (case c8=>k_is)
  (case k8=>k_is)
  (case t8=>k_is)
  (case h9=>exact Ja.Y8 (by k_is) (by k_is) (by k_is) (by k_is))
  (case h10=>exact Ja.Y8 (by k_is) (by k_is) (by k_is) (by k_is))
  (case h11=>exact Ja.Y8 (by k_is) (by k_is) (by k_is) (by k_is))
  (case h12=>exact Ja.Y8 (by k_is) (by k_is) (by k_is) (by k_is))
  (case h13=>exact Ja.Y8 (by k_is) (by k_is) (by k_is) (by k_is))
  (case h14=>exact Ja.Y8 (by k_is) (by k_is) (by k_is) (by k_is))
  (case h15=>exact Ja.Y8 (by k_is) (by k_is) (by k_is) (by k_is))
  (case h16=>exact Ja.Y8 (by k_is) (by k_is) (by k_is) (by k_is))
  (case h17=>exact Ja.Y8 (by k_is) (by k_is) (by k_is) (by k_is))
  (case h18=>exact Ja.Y8 (by k_is) (by k_is) (by k_is) (by k_is))
  (case h19=>exact Ja.Y8 (by k_is) (by k_is) (by k_is) (by k_is))
  (case h20=>exact Ja.Y8 (by k_is) (by k_is) (by k_is) (by k_is))
  (case h21=>exact Ja.Y8 (by k_is) (by k_is) (by k_is) (by k_is))
  (case h22=>exact Ja.Y8 (by k_is) (by k_is) (by k_is) (by k_is))
  (case h23=>exact Ja.Y8 (by k_is) (by k_is) (by k_is) (by k_is))
  (case h24=>exact Ja.Y8 (by k_is) (by k_is) (by k_is) (by k_is))
  (case h25=>exact Ja.Y8 (by k_is) (by k_is) (by k_is) (by k_is))
  (case h26=>exact Ja.Y8 (by k_is) (by k_is) (by k_is) (by k_is))
  (case h27=>exact Ja.Y8 (by k_is) (by k_is) (by k_is) (by k_is))
  (case h28=>exact Ja.Y8 (by k_is) (by k_is) (by k_is) (by k_is))
  (case h29=>exact Ja.Y8 (by k_is) (by k_is) (by k_is) (by k_is))
  (case h30=>exact Ja.Y8 (by k_is) (by k_is) (by k_is) (by k_is))
  (case h31=>exact Ja.Y8 (by k_is) (by k_is) (by k_is) (by k_is))
  (case h32=>exact Ja.Y8 (by k_is) (by k_is) (by k_is) (by k_is))
  (case h33=>exact Ja.Y8 (by k_is) (by k_is) (by k_is) (by k_is))
  (case h34=>exact Ja.Y8 (by k_is) (by k_is) (by k_is) (by k_is))
  (case h35=>exact Ja.Y8 (by k_is) (by k_is) (by k_is) (by k_is))
  (case a36=>k_is)
  (case l36=>k_is)
  (case c36=>k_is)
  (case k36=>k_is)
  (case h37=>exact Ja.Y8 (by k_is) (by k_is) (by k_is) (by k_is))
  (case a38=>k_is)
  (case l38=>k_is)
  (case c38=>k_is)
  (case k38=>k_is)
  (case z_all=>k_is)
  (case z_bool=>k_is)
  (case z_dict=>k_is)
  (case z_enumerate=>k_is)
  (case z_int=>k_is)
  (case z_isinstance=>k_is)
  (case z_len=>k_is)
  (case z_list=>k_is)
  (case z_ord=>k_is)
  (case z_range=>k_is)
  (case z_reversed=>k_is)
  (case z_str=>k_is)
  (case z_tuple=>k_is)
  (case z_zip=>k_is)
  (case y_BASE=>k_is)
  (case y_NAME_SIGNS=>k_is)
  (case y_WORD_SIGNS=>k_is)
  (case kN_KINDS=>k_is)
  (case kL_KINDS=>k_is)
  (case xt=>kernel_rfl)
 case KP=>exact λP=>rfl
 case HC=>exact λP=>by kernel_rfl
 case S=>exact λK H a ns hl hb hS=>Ja.f90 hS (Ja.es0 ns hl hb)
 case C=>exact λ_ _ _ _ z=>z
#print axioms PySem.Challenge.cw_graphpack_k37_wanted_webs_holds
