import PyProof.Rows.All
import Wide.All
import OpenK.AllK
import Wide.FinOn
import Lean
import PyProof.EqAt
import PyProof.EqKinds
import PyProof.TupleCall
import PyProof.NeKinds
import PyProof.Rows.SetFrom
import KE.KRevIter
import PyProof.ZipIter
import PyProof.TupleOfGen
import PyProof.Rows.ZipGen
import PyProof.EnumMake
import PyProof.EnumFor
import PyProof.ListRange
import PyProof.LayNew
import KE.KDictOf
import KE.KIntText
import KE.IntTextLaws
import PyProof.StrCalls2
import PyProof.Rows.StrNews2
import PyProof.StrLawsTight
import PyProof.ExcArgsOwn
import PyProof.ExcAttrAll.ValueError
import PyProof.IsInstanceT
import PyProof.RulesAs
import PyProof.Rows.Tup
import OpenK.KOwn
import PyProof.ExcInit
import OpenK.KCls
import OpenK.KMake
import PyProof.InstStoreFacts
import PyProof.ListMulRight
import PyProof.AttrMissHeap
import PyProof.RaisesMany
import PyProof.RulesTry
import PyProof.NsDelKeeps
import PyProof.Rows.FStr
import OpenK.KWalk
import PyProof.AutoListH
import PyProof.CallFns
import PyProof.Rows.SortStr
import KE.KDictSum
import PyProof.Draws
import PyProof.Rows.CallKwBuiltin
import PyProof.SumWalkG
import KE.KDictLaws
import PyProof.DictTruth
import PyProof.Rows.SortShellK
import PyProof.Rows.SortWalk
import PySem.Challenge.RW_graphpack_k44_what_stays
set_option maxHeartbeats 0
noncomputable section
open PySem
def A0:=@PySem.wpAny_bind
def A1:=@PySem.wpAny_pure
def A2:=@Nat.le_refl
def A3:=@PySem.Heap.lt_size
def A4:=@List.mem_cons_of_mem
def A5:=@List.mem_cons_self
def A6:=@List.mem_map
def A7:=@PySem.Heap.get?_push_of_some
def A8:=@Nat.ne_of_lt
def A9:=@List.mem_cons
def B0:=@Bool.false_ne_true
def B1:=@Nat.lt_of_lt_of_le
def B2:=@Nat.le_add_right
def B3:=@PySem.Heap.get?_push_size
def B4:=@PySem.wpAny_field
def B5:=@PyProof.Rows.wpS_bind
def B6:=@Option.some.inj
def B7:=@Nat.le_trans
def B8:=@List.mem_append
def B9:=@Nat.ne_of_gt
def C0:=@Ne.symm
def C1:=@List.getElem?_eq_getElem
def C2:=@PySem.W.mg_of
def C3:=@List.mem_range
def C4:=@PyProof.Rows.wpS_pure
def C5:=@Nat.zero_le
def C6:=@PySem.wpAny_seqItems
def C7:=@PySem.wpAny_holding
def C8:=@PySem.PassesOwn.never
def C9:=@congrArg
def D0:=@List.getElem?_eq_some_iff
def D1:=@PySem.wpAny_mono
def D2:=@List.mem_of_getElem?
def D3:=@PySem.W.mg_none_of
def D4:=@Nat.lt_irrefl
def D5:=@PySem.wpAny_setField_rec
def D6:=@PySem.F.slot_zip_next
def D7:=@List.of_mem_zip
def D8:=@PySem.wpAny_call_entry
def D9:=@PySem.wpAny_rule
def E1:=@PyProof.Rows.callWith_type1
def E2:=@List.mem_append_right
def E3:=@PySem.wpAny_callSpecial?_slot
def E4:=@PySem.wpAny_newObj_type
def E5:=@List.getElem_mem
def E6:=@Nat.lt_trans
def E7:=@List.pairwise_iff_getElem
def E8:=@PySem.mem_of_lookup
def E9:=@PySem.wpAny_typeOf
def G0:=@List.mem_append_left
def I0:=@List.mem_iff_getElem
def K0:=@PySem.W.kia_one
def K2:=@PySem.wpAny_letGo
def L0:=@PySem.wpAny_onRaise
def L1:=@decide_eq_true
def L3:=@Int.emod_nonneg
def L4:=@Int.emod_lt_of_pos
def L5:=@Nat.le_of_lt
def L6:=@PySem.wpAny_truthy_bool
def L7:=@PySem.wpAny_passesOwn
def L8:=@PySem.wpAny_Call_Name_kw
def L9:=@List.nodup_cons
def M0:=@Prod.ext
def M1:=@PySem.typeIs_int
def M2:=@PySem.call_meets
def N0:=@List.map_congr_left
def N1:=@PySem.plainId_quiet
def N2:=@PySem.wpAny_nextOf_list_item
def N9:=@PySem.wpAny_attempt
def O0:=@PySem.codeAny_builtin
def P1:=@decide_eq_false
def P2:=@PyProof.Rows.slot_tuple_getitem
def P3:=@PySem.typeIs_str
def P4:=@PySem.Heap.get?_update_other
def P5:=@Option.map_eq_some_iff
def P6:=@List.nodup_nil
def P7:=@PySem.F.entry_zip_next
def P8:=@PySem.F.args_zip_next_1
def Q1:=@PySem.wpAny_pyIter_zip
def Q2:=@PySem.wpAny_updateSeq_pair
def S0:=@PyProof.Rows.wpS_forRange
def S1:=@PyProof.Rows.wpS_get
def S2:=@List.nodup_append
def S3:=@List.append_nil
def S4:=@List.mem_of_mem_take
def T0:=@beq_eq_false_iff_ne
def U1:=@PySem.SeqAt.EqAt.same
def U2:=@Nat.lt_of_le_of_lt
def W1:=@PySem.wpAny_specialOf
def X0:=@PySem.wpAny_updateSeq
def X1:=@PySem.F.plainAttrs_list
def X2:=@List.length_eq_zero_iff
def Y1:=@PySem.Heap.get?_update_self
def Y2:=@Array.getElem?_eq_getElem
def Y3:=@PySem.wpAny_nextOf_list_end
def c6:=@of_decide_eq_true
def c9:=@List.mem_singleton
def d4:=@List.idxOf_lt_length_of_mem
def d5:=@List.length_map
def d6:=@PySem.SeqAt.EqAt.int_str
def h8:=@PySem.SeqAt.EqAt.str_int
def i0:=@PySem.wpAny_standAt
def i4:=@PySem.wpAny_pyIter_list
def i5:=@List.mem_filterMap
def i6:=@PySem.Calls.spliced_nil
def i7:=@PySem.Calls.spliced_cons
def i8:=@PySem.concat_meets
def j3:=@Nat.le_of_eq
def k3:=@PySem.tupleKind_room_in1
def k4:=@PySem.wpAny_isInstance
def k6:=@Nat.le_succ
def k7:=@PySem.wpAny_newTuple
def k9:=@PySem.F.plain_extend_loop
def l0:=@PyProof.Rows.zipApart_new
def l6:=@List.mem_map_of_mem
def l7:=@List.getElem?_zip_eq_some
def l9:=@PySem.F.slot_tuple_iterator_next
def m3:=@Array.perm_iff_toList_perm
def o0:=@PyProof.Rows.listItems_at
def o3:=@List.map_snd_zip
def p9:=@List.length_range
def r8:=@Classical.axiomOfChoice
def r9:=@List.map_id
def t4:=@List.mem_or_eq_of_mem_set
def t9:=@PySem.W.binds_K
def u7:=@PySem.wpAny_eqBool_int
def u8:=@PySem.Paired.length
def w4:=@List.mem_filter
def x4:=@PySem.wpAny_execs_nil
def x5:=@PySem.codeAny_mono
def x6:=@PySem.noFill_tuple_add
def x8:=@PySem.seq_tuple_add
def x9:=@PySem.F.slot_tuple_add
def y3:=@PySem.F.entry_tuple_add
def y4:=@PySem.F.args_tuple_add_2
def y9:=@PySem.SeqAt.EqAt.none_bool
def z0:=@PySem.SeqAt.EqAt.none_int
def A00:=@PySem.SeqAt.EqAt.none_str
def A10:=@PySem.SeqAt.EqAt.bool_none
def A20:=@PySem.SeqAt.EqAt.bool_bool
def A30:=@PySem.SeqAt.EqAt.bool_int
def A40:=@PySem.SeqAt.EqAt.bool_str
def A50:=@PySem.SeqAt.EqAt.int_none
def A60:=@PySem.SeqAt.EqAt.int_bool
def A70:=@PySem.SeqAt.EqAt.int_int
def A80:=@PySem.SeqAt.EqAt.str_none
def A90:=@PySem.SeqAt.EqAt.str_bool
def Aa0:=@PySem.SeqAt.EqAt.str_str
def Ab0:=@Nat.add_le_add_left
def Ad0:=@PySem.boot_len
def Ae0:=@Nat.lt_succ_self
def Af0:=@PySem.callType_codes
def Ag0:=@Nat.lt_succ_of_lt
def Ah0:=@PySem.isSubtype_stop
def Ai0:=@List.mem_iff_getElem?
def Ak0:=@PySem.wpAny_setField
def Al0:=@getElem?_pos
def Am0:=@Array.getElem?_eq_some_iff
def Aq0:=@Nat.log2_lt
def Ar0:=@List.getElem?_eq_none_iff
def As0:=@List.length_set
def At0:=@List.getElem_inj
def Aw0:=@PySem.Calls.Name_function_global
def B30:=@PySem.wpAny_pyNext_list_item
def Ba0:=@Nat.min_le_right
def Bk0:=@PySem.Calls.callWith_builtin
def Bl0:=@PySem.wpAny_comprehension_free
def Bm0:=@List.getD_eq_getElem?_getD
def Bq0:=@Bool.eq_false_iff
def Bu0:=@PySem.F.slot_list_append
def Bv0:=@PySem.F.type_list_append
def Bw0:=@PySem.F.slot_tuple_mul
def Bx0:=@PySem.F.slot_tuple_rmul
def Ca0:=@PySem.SeqAt.RcAt.lists_lengths
def Ce0:=@Array.getElem?_eq_none
def Cg0:=@Nat.lt_trichotomy
def Ck0:=@PySem.wpAny_letOwnedTupleGo_zip
def Cm0:=@PySem.F.slot_int_mul
def Cp0:=@PySem.F.entry_tuple_iterator_next
def Cq0:=@PySem.F.args_tuple_iterator_next_1
def Ct0:=@List.rel_of_pairwise_cons
def Cu0:=@List.pairwise_cons
def Cx0:=@List.nodup_range
def Cy0:=@Nat.eq_zero_or_pos
def Cz0:=@List.filter_congr
def D00:=@List.filter_eq_self
def D10:=@List.Nodup.sublist
def D20:=@List.Sublist.map
def D30:=@List.filter_sublist
set_option Elab.async false
set_option linter.all false
set_option maxRecDepth 100000
variable{prog:Program}{A:Around}{E Q:Value->Shared->Prop}{a it dx sl fa I z i1 i2 l1 l2:Addr}{o e b c iter value elt:Expr}{od an:Option Addr}{x name qual x2 nx root:Str}{r caps idx S T:List Nat}{R:Result->Shared->Prop}{xs items ys:Array Value}{us vs:List Value}{u v y dV doc pm cdv ct oc vl vu:Value}{h' base:Heap}{α β κ:Type}{pins:List (Addr×Obj)}{t' i j n m k1 x1:Nat}{ch fp:List Addr}{N ps nm N' rs:List Str}{s':Shared}{pos pos' p tpos apos p2 cpos py spos px pos2 np p0:Pos}{rest body:List Stmt}{K:W.Frag}{st:Stmt}{es ifs elts:List Expr}{lo hi:Option Int}{sc scope:Scope}{mg:Str->Option Value}{osl:Array (Option Value)}{oa:Obj}{q:Int×Int}{me:Bool}{L:List (Nat×Nat)}
namespace L2
open Spec PyProof.Rows
abbrev Key:=Sum Int Str
def ro0:Key->Value->Bool
 | .inl k,v=>Value.isInt k v
 | .inr x,v=>Value.isStrOf x v
def Tb0(w:World):Key->Int
 | .inl k=>hashInt k
 | .inr x=>hashStr w x
theorem K7:∀{k:Key} {v:Value},ro0 k v=true->(∃i t,k=Sum.inl i/\v=Value.int i t)∨(∃x t,k=Sum.inr x/\v=Value.str x t)
 | .inl i,v,h=>by
  obtain⟨t,e⟩:=Value.isInt_shape (k:=i) (v:=v) h;exact .inl ⟨i,t,rfl,e⟩
 | .inr x,v,h=>by
  obtain⟨t,e⟩:=Value.isStrOf_shape (x:=x) (v:=v) h;exact .inr ⟨x,t,rfl,e⟩
theorem d40(i:Int)(t:Tok):ro0 (.inl i) (.int i t)=true:=by simp[ro0,Value.isInt]
theorem fz0(x:Str)(t:Tok):ro0 (.inr x) (.str x t)=true:=by simp[ro0,Value.isStrOf]
theorem Yk0(a b:Int):decide ((Sum.inl a:Key)=Sum.inl b)=(a==b):=by
 by_cases e:a=b
 ·subst e;simp
 ·have h:¬(Sum.inl a:Key)=Sum.inl b:=λq=>e (Sum.inl.inj q)
  rw[decide_eq_false h];exact(T0.mpr e).symm
theorem Xx0(a b:Str):decide ((Sum.inr a:Key)=Sum.inr b)=decide (a=b):=by
 by_cases e:a=b
 ·subst e;simp
 ·have h:¬(Sum.inr a:Key)=Sum.inr b:=λq=>e (Sum.inr.inj q)
  rw[decide_eq_false h,decide_eq_false e]
theorem Xn0(a:Int)(b:Str):decide ((Sum.inl a:Key)=Sum.inr b)=false:=P1 (λq=>nomatch q)
theorem Xo0(a:Str)(b:Int):decide ((Sum.inr a:Key)=Sum.inl b)=false:=P1 (λq=>nomatch q)
def K3(prog:Program)(w:World):PySem.KeyKind prog w Key where
 is:=ro0
 hash:=Tb0 w
 inj:=λv a b ha hb=>by
  rcases K7 ha with⟨i,t,rfl,rfl⟩|⟨x,t,rfl,rfl⟩
  ·rcases K7 hb with⟨j,u,rfl,e⟩|⟨y,u,rfl,e⟩
   ·injection e with e1 _;rw[e1]
   ·exact nomatch e
  ·rcases K7 hb with⟨j,u,rfl,e⟩|⟨y,u,rfl,e⟩
   ·exact nomatch e
   ·injection e with e1 _;rw[e1]
 byValue:=λk v h=>by
  rcases K7 h with⟨i,t,rfl,rfl⟩|⟨x,t,rfl,rfl⟩<;>rfl
 pyHash:=λhv h=>by
  rcases K7 hv with⟨i,t,rfl,rfl⟩|⟨x,t,rfl,rfl⟩
  ·exact wpAny_pyHash_int h
  ·exact wpAny_pyHash_str h
 eqBool:=λhu hv h=>by
  rcases K7 hu with⟨i,t,rfl,rfl⟩|⟨x,t,rfl,rfl⟩
  ·rcases K7 hv with⟨j,u,rfl,rfl⟩|⟨y,u,rfl,rfl⟩
   ·rw[Yk0] at h;exact u7 h
   ·rw[Xn0] at h;exact d6 i t y u _ _ _ _ h
  ·rcases K7 hv with⟨j,u,rfl,rfl⟩|⟨y,u,rfl,rfl⟩
   ·rw[Xo0] at h;exact h8 x t j u _ _ _ _ h
   ·rw[Xx0] at h;exact wpAny_eqBool_str h
 «strs»:=λk x t v h=>by
  rcases K7 h with⟨i,u,rfl,e⟩|⟨y,u,rfl,e⟩
  ·exact nomatch e
  ·injection e with e1 _
   subst e1;cases v<;>rfl
theorem j40(prog:Program)(w:World)(i:Int)(t:Tok):(K3 prog w).is (.inl i) (.int i t)=true:=d40 i t
theorem j10(prog:Program)(w:World)(x:Str)(t:Tok):(K3 prog w).is (.inr x) (.str x t)=true:=fz0 x t
inductive V where
 | non|bl (b:Bool)|int (i:Int)|str (x:Str)|byt (b:Array UInt8)|flt (b:UInt64)|ref (a:Addr)|ty (n:String)
 deriving DecidableEq
variable{σ:List (Option L2.V)}{kvs:List (List L2.Key×L2.V)}
def RelV:V->Value->Prop
 | .non,u=>u=Value.none
 | .bl b,u=>u=Value.bool b
 | .int i,u=>∃t,u=Value.int i t
 | .str x,u=>∃t,u=Value.str x t
 | .byt b,u=>∃t,u=Value.bytes b t
 | .flt b,u=>∃t,u=Value.float b t
 | .ref a,u=>u=Value.ref a
 | .ty n,u=>u=Value.type n
abbrev Vals:List V->List Value->Prop:=Paired RelV
theorem Vals.length{xs:List V}(r:Vals xs us):xs.length=us.length:=u8 r
theorem Vals.get:∀{xs:List V} {us:List Value} {i:Nat} {x:V},Vals xs us->xs[i]?=some x->∃u,us[i]?=some u/\RelV x u
 | _,_,_,_,.nil,e=>by simp at e
 | _,_,0,_,.cons r _,e=>by simp at e;subst e;exact⟨_,rfl,r⟩
 | _,_,i+1,x,.cons _ t,e=>by
  obtain⟨u,h1,h2⟩:=Vals.get (i:=i) (x:=x) t (by simpa using e);exact⟨u,by simpa using h1,h2⟩
theorem Vals.set{x:V}(r:RelV x u):∀{xs:List V} {us:List Value} (i:Nat),Vals xs us->Vals (xs.set i x) (us.set i u)
 | _,_,_,.nil=>.nil
 | _,_,0,.cons _ t=>.cons r t
 | _,_,i+1,.cons q t=>.cons q (Vals.set r i t)
theorem Vals.append:∀{xs ys:List V} {us ws:List Value},Vals xs us->Vals ys ws->Vals (xs++ys) (us++ws)
 | _,_,_,_,.nil,s=>s
 | _,_,_,_,.cons r t,s=>.cons r (Vals.append t s)
theorem Vals.take:∀{xs:List V} {us:List Value} (n:Nat),Vals xs us->Vals (xs.take n) (us.take n)
 | _,_,0,_=>.nil
 | _,_,_+1,.nil=>.nil
 | _,_,n+1,.cons r t=>.cons r (Vals.take n t)
theorem Vals.drop:∀{xs:List V} {us:List Value} (n:Nat),Vals xs us->Vals (xs.drop n) (us.drop n)
 | _,_,0,r=>r
 | _,_,_+1,.nil=>.nil
 | _,_,n+1,.cons _ t=>Vals.drop n t
def RelO:Option V->Option Value->Prop
 | some v,some u=>RelV v u
 | none,none=>True
 | _,_=>False
def KV{κ:Type}:List (κ×V)->List (κ×Value)->Prop:=Paired λ(p:κ×V) (q:κ×Value)=>p.1=q.1/\RelV p.2 q.2
def kV:Key->V
 | .inl i=>.int i
 | .inr x=>.str x
inductive HO where
 | lst (xs:List V)
 | tup (xs:List V)
 | dK (kvs:List (Key×V))|dT (kvs:List (List Key×V))
 | set (S:Int->Bool) (n:Nat)
 | ins (C dx:Addr) (fs:List (Str×V))
 | own (x:Addr)
 | xd (fs:List (Str×V))
 | met (f x:Addr)
 | rng (lo hi:Int)
 | frz (o:Obj) (u:HO)
 | tbl (ps:Array Value)
 | ext (φ:Heap->Prop)
abbrev Hp:=Addr->Option HO
def upd(H:Hp)(a:Addr)(o:HO):Hp:=λb=>if b=a then some o else H b
variable{H H' H2 H₀:L2.Hp}
theorem b8{o:HO}:upd H a o a=some o:=by unfold upd;rw[if_pos rfl]
theorem Z6{b:Addr}{o:HO}(h:b≠a):upd H a o b=H b:=by unfold upd;rw[if_neg h]
theorem p70{b:Addr}{o u:HO}(h:H a=some o)(h':H b=some u)(d:o≠u):a≠b:=by
 intro e;subst e;rw[h] at h';exact d (B6 h')
theorem O8{b:Addr}{o:HO}(h:H a=some o)(h':H b=none):a≠b:=by
 intro e;subst e;rw[h] at h';cases h'
def IsTupN(h:Heap)(a:Addr)(items:Array Value):Prop:=∃o,h.get? a=some o/\o.cls=.type "tuple"/\∃n,o.data=.seq items n/\o.dict=none
theorem IsTupN.tup{h:Heap}(x:IsTupN h a items):IsTup h a items:=let ⟨o,e,c,n,d,_⟩:=x;⟨o,e,c,n,d⟩
theorem IsTupN.new(h:Heap)(items:Array Value):IsTupN (h.push { cls:=.type "tuple",data:=.seq items }) h.objs.size items:=⟨_,B3 _ rfl,rfl,_,rfl,rfl⟩
section
variable(P:Program)(w:World)
def ObjOk(H:Hp)(h:Heap)(a:Addr):HO->Prop
 | .lst xs=>xs.length<=sizeLine/\∃(its:List Value) (n:Nat),Vals xs its/\h.get? a=some { cls:=.type "list",data:=.seq its.toArray n }
 | .tup xs=>xs.length<=sizeLine/\∃its:List Value,Vals xs its/\IsTupN h a its.toArray
 | .dK kvs=>kvs.length<=sizeLine/\(a==sysModules)=false/\∃vs,KV kvs vs/\h.DictOf (K3 P w) a vs
 | .dT kvs=>kvs.length<=sizeLine/\(a==sysModules)=false/\∃xs:List (List Key×Addr×Value),
   Paired (λ(p:List Key×V) (q:List Key×Addr×Value)=>p.1=q.1/\H q.2.1=some (.tup (p.1.map kV))/\RelV p.2 q.2.2) kvs xs /\
   ∃o es ep,h.get? a=some o/\o.ExactDict/\o.data=.dict es ep/\es.toList=xs.map (entryOfKey (tupleKind (K3 P w)))/\(xs.map (·.1)).Nodup
 | .set S n=>h.SetOf (intKind P w) a S n
 | .ins C dx fs=>H dx=some (.own a)/\fs.length<=1000/\dx≠a/\h.get? a=some (W.instObj C dx) /\
   ∃mA,h.Ns1 dx mA/\(∀f,RelO (fs.lookup f) (mA f))/\PySem.Within mA (fs.map (·.1))
 | .own _=>∃o,h.get? a=some o
 | .xd fs=>∃mA,h.Ns1 a mA/\∀f,RelO (fs.lookup f) (mA f)
 | .rng lo hi=>∃t u v,h.get? a=some { cls:=.type "range",data:=.fields #[.int lo t,.int hi u,.int 1 v] }
 | .frz o u=>h.get? a=some o/\ObjOk H h a u
 | .tbl ps=>h.get? a=some { cls:=.none,data:=.fields ps }
 | .met f x=>h.get? a=some (W.methodObj (.ref f) (.ref x))
 | .ext φ=>φ h/\(∃o,h.get? a=some o)/\∀h1 h2:Heap,φ h1->(∀o,h1.get? a=some o->h2.get? a=some o)->φ h2
def HOk(H:Hp)(h:Heap):Prop:=∀a o,H a=some o->ObjOk P w H h a o
end
section
variable{P:Program}{w:World}{h:Heap}{o:HO}
theorem ObjOk.lt(x:ObjOk P w H h a o):a<h.objs.size:=by
 cases o with
 | lst xs=>obtain⟨_,_,_,_,e⟩:=x;exact A3 e
 | tup xs=>obtain⟨_,_,_,p⟩:=x;exact p.tup.lt
 | dK kvs=>obtain⟨_,_,_,_,o,_,_,e,_⟩:=x;exact A3 e
 | dT kvs=>obtain⟨_,_,_,_,o,_,_,e,_⟩:=x;exact A3 e
 | set S n=>obtain⟨o,_,_,_,e,_⟩:=x;exact A3 e
 | ins C dx fs=>obtain⟨_,_,_,e,_⟩:=x;exact A3 e
 | own y=>obtain⟨_,e⟩:=x;exact A3 e
 | xd fs=>obtain⟨_,⟨_,_,_,e,_⟩,_⟩:=x;exact A3 e
 | rng lo hi=>obtain⟨_,_,_,e⟩:=x;exact A3 e
 | frz ob u=>obtain⟨e,_⟩:=x;exact A3 e
 | tbl ps=>exact A3 (show h.get? a=some _ from x)
 | met f y=>exact A3 (show h.get? a=some _ from x)
 | ext φ=>obtain⟨_,⟨_,e⟩,_⟩:=x;exact A3 e
theorem Paired.mapP{F G:α->β->Prop}:∀{l₁:List α} {l₂:List β},Paired F l₁ l₂->(∀a b,F a b->G a b)->Paired G l₁ l₂
 | _,_,.nil,_=>.nil
 | _,_,.cons r t,f=>.cons (f _ _ r) (Paired.mapP t f)
theorem ObjOk.stay(x:ObjOk P w H h a o)(k:∀b u,(b=a∨H b=some (.own a))->h.get? b=some u->h'.get? b=some u)
  (ho:∀b,H b=some (.own a)->H' b=some (.own a)) (ht:∀b xs,H b=some (.tup xs)->H' b=some (.tup xs)):ObjOk P w H' h' a o:=by
 induction o with
 | lst xs=>obtain⟨z,its,n,r,e⟩:=x;exact⟨z,its,n,r,k _ _ (.inl rfl) e⟩
 | tup xs=>obtain⟨z,its,r,ob,e,c⟩:=x;exact⟨z,its,r,ob,k _ _ (.inl rfl) e,c⟩
 | dK kvs=>obtain⟨z,y,vs,r,ob,es,ep,e,c⟩:=x;exact⟨z,y,vs,r,ob,es,ep,k _ _ (.inl rfl) e,c⟩
 | dT kvs =>
  obtain⟨z,y,xs,r,ob,es,ep,e,c⟩:=x;exact⟨z,y,xs,Paired.mapP r λp q z=>⟨z.1,ht _ _ z.2.1,z.2.2⟩,ob,es,ep,k _ _ (.inl rfl) e,c⟩
 | set S n=>obtain⟨ob,es,ep,t,e,c⟩:=x;exact⟨ob,es,ep,t,k _ _ (.inl rfl) e,c⟩
 | ins C dx fs =>
  obtain⟨d,z,ne,e,mA,⟨od,es,ep,e2,c⟩,r⟩:=x;exact⟨ho _ d,z,ne,k _ _ (.inl rfl) e,mA,⟨od,es,ep,k _ _ (.inr d) e2,c⟩,r⟩
 | own y=>obtain⟨ob,e⟩:=x;exact⟨ob,k _ _ (.inl rfl) e⟩
 | xd fs=>obtain⟨mA,⟨od,es,ep,e,c⟩,r⟩:=x;exact⟨mA,⟨od,es,ep,k _ _ (.inl rfl) e,c⟩,r⟩
 | rng lo hi=>obtain⟨t,u,v,e⟩:=x;exact⟨t,u,v,k _ _ (.inl rfl) e⟩
 | frz ob u ih=>obtain⟨e,q⟩:=x;exact⟨k _ _ (.inl rfl) e,ih q⟩
 | tbl ps =>
  have e:h.get? a=some { cls:=.none,data:=.fields ps }:=x;show h'.get? a=some { cls:=.none,data:=.fields ps };exact k a _ (.inl rfl) e
 | met f y =>
  have e:h.get? a=some (W.methodObj (.ref f) (.ref y)):=x;show h'.get? a=some (W.methodObj (.ref f) (.ref y));exact k a _ (.inl rfl) e
 | ext φ=>obtain⟨p,⟨o,e⟩,st⟩:=x;exact⟨st _ _ p λo q=>k _ _ (.inl rfl) q,⟨o,k _ _ (.inl rfl) e⟩,st⟩
theorem HOk.lt(x:HOk P w H h)(e:H a=some o):a<h.objs.size:=(x a o e).lt
theorem HOk.fresh(x:HOk P w H h)(e:h.objs.size<=a):H a=none:=by
 cases q:H a with
 | none=>rfl
 | some u=>exact absurd (B1 (x.lt q) e) (D4 _)
theorem HOk.kept(x:HOk P w H h)(k:∀b u,h.get? b=some u->h'.get? b=some u):HOk P w H h':=λa o e =>
 (x a o e).stay (λb u _ q=>k b u q) (λ_ q=>q) λ_ _ q=>q
theorem HOk.laid(x:HOk P w H h)(k:∀b u,h.get? b=some u->h'.get? b=some u)(hp:h.objs.size<=a)(new:ObjOk P w (upd H a o) h' a o):HOk P w (upd H a o) h':=λb u e=>by
 have hn:=x.fresh hp
 by_cases hb:b=a
 ·subst hb;rw[b8] at e;cases e;exact new
 ·rw[Z6 hb] at e
  exact(x b u e).stay (λc v _ q=>k c v q) (λc q=>by rw[Z6 (O8 q hn)];exact q) λc xs q=>by rw[Z6 (O8 q hn)];exact q
end
def Rd(H:Hp)(a:Addr)(u:HO):Prop:=H a=some u∨∃o,H a=some (.frz o u)
theorem Rd.ok{P:Program}{w:World}{h:Heap}{u:HO}(r:Rd H a u)(x:HOk P w H h):ObjOk P w H h a u:=by
 rcases r with r|⟨o,r⟩
 ·exact x a u r
 ·obtain⟨_,q⟩:=x a _ r
  exact q
def Mut:Option HO->Prop
 | some (.lst _)=>True
 | some (.dK _)=>True
 | some (.dT _)=>True
 | some (.set _ _)=>True
 | some (.ins _ _ _)=>True
 | some (.ext _)=>True
 | _=>False
section
variable{P:Program}{w:World}{h:Heap}{x e:Addr}{o':HO}
theorem HOk.write(ok:HOk P w H h)(mu:Mut (H x))(he:e=x∨H e=some (.own x))(k:∀b u,b≠e->h.get? b=some u->h'.get? b=some u)(heo:∃u,h'.get? e=some u)
  (new:ObjOk P w (upd H x o') h' x o'):HOk P w (upd H x o') h':=λb u q=>by
 have nown:∀c y,H c=some (.own y)->c≠x:=λc y r z=>by subst z;rw[r] at mu;exact mu
 have ntup:∀c xs,H c=some (.tup xs)->c≠x:=λc xs r z=>by subst z;rw[r] at mu;exact mu
 by_cases hb:b=x
 ·subst hb;rw[b8] at q;cases q;exact new
 ·rw[Z6 hb] at q
  by_cases hbe:b=e
  ·have q':H b=some (.own x):=by
    rcases he with z|z
    ·exact absurd (hbe.trans z) hb
    ·rw[hbe];exact z
   rw[q] at q';cases q';obtain⟨v,hv⟩:=heo;exact⟨v,by rw[hbe];exact hv⟩
  ·refine(ok b u q).stay (λc v hc r=>k c v ?_ r) (λc r=>by rw[Z6 (nown c b r)];exact r) λc xs r=>by rw[Z6 (ntup c xs r)];exact r
   rcases hc with rfl|hc
   ·exact hbe
   ·rintro rfl
    rcases he with z|z
    ·exact nown c b hc z
    ·rw[hc] at z;cases z;exact hb rfl
end
structure Un(fs ex:List Addr)(H H':Hp)(h h':Heap):Prop where
 keep:∀b o,h.get? b=some o->H b=none->b∉fs->b∉ex->h'.get? b=some o
 slot:∀b o,h.get? b=some o->H b=none->b∈fs->b∉ex->∃sl,h'.get? b=some { o with slots:=sl }
 free:∀b o,h.get? b=some o->H b=none->b∉ex->H' b=none
 there:∀b o,h.get? b=some o->b∉ex->∃o',h'.get? b=some o'
 tups:∀b xs,H b=some (.tup xs)->H' b=some (.tup xs)
 frzs:∀b o u,H b=some (.frz o u)->H' b=some (.frz o u)
 tbls:∀b ps,H b=some (.tbl ps)->∃more,H' b=some (.tbl (ps++more))
section
variable{fs fs' ex ex':List Addr}{H1:Hp}{h h1 h2:Heap}{x e:Addr}{o:HO}
theorem Un.any(u:Un fs ex H H1 h h1){b:Addr}{ob:Obj}(q:h.get? b=some ob)(n:H b=none)(hx:b∉ex):∃sl,h1.get? b=some { ob with slots:=sl }:=by
 by_cases hb:b∈fs
 ·exact u.slot b ob q n hb hx
 ·exact⟨ob.slots,u.keep b ob q n hb hx⟩
theorem Un.kept(k:∀b u,h.get? b=some u->h'.get? b=some u):Un fs ex H H h h' :=
 ⟨λb ob q _ _ _=>k b ob q,λb ob q _ _ _=>⟨ob.slots,k b ob q⟩,λ_ _ _ n _=>n,λb ob q _=>⟨ob,k b ob q⟩,λ_ _ q=>q,λ_ _ _ q=>q,λ_ ps q=>⟨#[],by rw[q];simp⟩⟩
theorem Un.refl:Un fs ex H H h h:=Un.kept λ_ _ q=>q
theorem Un.laid(k:∀b u,h.get? b=some u->h'.get? b=some u)(hp:h.objs.size<=a)(hn:H a=none):Un fs ex H (upd H a o) h h' where
 keep:=λb u q _ _ _=>k b u q
 slot:=λb u q _ _ _=>⟨u.slots,k b u q⟩
 free:=λb u q n _=>by rw[Z6 (A8 (B1 (A3 q) hp))];exact n
 there:=λb u q _=>⟨u,k b u q⟩
 tups:=λb xs q=>by rw[Z6 (O8 q hn)];exact q
 frzs:=λb u xs q=>by rw[Z6 (O8 q hn)];exact q
 tbls:=λb ps q=>⟨#[],by rw[Z6 (O8 q hn),q];simp⟩
theorem Un.write(mu:Mut (H x))(he:e=x∨H e=some (.own x))(k:∀b u,b≠e->h.get? b=some u->h'.get? b=some u)(heo:∃u,h'.get? e=some u):Un fs ex H (upd H x o) h h':=by
 have hx:∀b,H b=none->b≠x:=λb n z=>by subst z;rw[n] at mu;exact mu
 have hb:∀b,H b=none->b≠e:=λb n z=>by
  subst z;rcases he with r|r
  ·exact hx b n r
  ·rw[n] at r;cases r
 have hm:∀b u,H b=some u->¬Mut (some u)->b≠x:=λb u q nm z=>by subst z;rw[q] at mu;exact nm mu
 refine⟨λb u q n _ _=>k b u (hb b n) q,λb u q n _ _=>⟨u.slots,k b u (hb b n) q⟩,λb u q n _=>by rw[Z6 (hx b n)];exact n,λb u q _=>?_,
  λb xs q=>by rw[Z6 (hm b _ q λz=>z)];exact q,λb u xs q=>by rw[Z6 (hm b _ q λz=>z)];exact q,λb ps q=>⟨#[],by rw[Z6 (hm b _ q λz=>z),q];simp⟩⟩
 by_cases hbe:b=e
 ·subst hbe;exact heo
 ·exact⟨u,k b u hbe q⟩
end
def trk(h:Heap)(H:Hp):List Addr:=(List.range h.objs.size).filter λa=>(H a).isSome
def th0(h:Heap)(H:Hp):Heap:=W.hideAll h (trk h H)
theorem d00(h:Heap)(H:Hp):(th0 h H).objs.size=h.objs.size:=W.hideAll_size _ _
theorem ch0{h:Heap}{b:Addr}{o:Obj}(e:h.get? b=some o)(n:H b=none):(th0 h H).get? b=some o :=
 W.hideAll_get _ e λhm=>by
  have q:(H b).isSome=true:=(w4.mp hm).2;rw[n] at q;simp at q
theorem Zu0{h:Heap}{b:Addr}{o:Obj}(e:(th0 h H).get? b=some o):h.get? b=some o/\H b=none:=by
 have e':h.get? b=some o:=W.of_hideAll (trk h H) e;refine⟨e',?_⟩;cases q:H b with
 | none=>rfl
 | some x =>
  have hm:b∈trk h H:=w4.mpr ⟨C3.mpr (A3 e'),by simp[q]⟩;have z:(th0 h H).get? b=none:=W.hideAll_none (trk h H) hm;rw[z] at e;cases e
structure Mod(K:W.Frag)(mg:Str->Option Value)(base:Heap):Prop where
 kin:K.In base
 glob:base.Ns mainGlobals mg
 blt:∃mb,base.Ns builtinsNs mb/\∀x:Str,x ≠"__name__"->mb x=bootBuiltins x
 nolimit:base.NoLimit
structure Cx where
 prog:Program
 w:World
 K:W.Frag
 mg:Str->Option Value
 base:Heap
 A:Around
 N:List Str
 s₀:Shared
 H₀:Hp
 env:Env
 outer:List Env
 stack:List Env
 ex:List Addr
 fn:Str->Bool
 calm:Bool
 pn:List (Addr×Obj)
 xe:Value->Shared->Prop
def frs(l:List Env):List Addr:=l.filterMap (·.frame)
abbrev Cx.fs(X:Cx):List Addr:=frs X.outer
def Vis(sc:Scope)(x:Str):Prop:=sc.names.lookup x=some .local∨sc.names.lookup x=some .cell∨sc.names.lookup x=some .free
def Loc(sc:Scope)(x:Str):Prop:=sc.names.lookup x=some .local∨sc.names.lookup x=some .cell
def Look(env:Env)(h:Heap)(m:Str->Option Value)(x:Str)(u:Value):Prop :=
 (env.kindOf x=some .local/\m x=some u)∨((env.kindOf x=some .cell∨env.kindOf x=some .free)/\∃c,env.cells.lookup x=some c/\h.IsCell c (some u))
structure Cx.Ok(X:Cx):Prop where
 mod:Mod X.K X.mg X.base
 kind:X.env.scope.kind=.function
 glob:X.env.globals=mainGlobals
 blt:X.env.builtins=builtinsNs
 above:X.s₀.heap.objs.size<=X.env.locals
 inj:∀x y c,X.env.cells.lookup x=some c->X.env.cells.lookup y=some c->x=y
 has:∀x,(X.env.kindOf x=some .cell∨X.env.kindOf x=some .free)->∃c,X.env.cells.lookup x=some c
 cab:∀x c,X.fn x=true->X.env.cells.lookup x=some c->X.s₀.heap.objs.size<=c
 hd:X.calm=true->X.A.handled=none
 frames:X.A.frames=some X.stack
 stk:X.stack=X.outer∨(X.stack=X.env::X.outer/\X.env.frame=some X.env.locals)
 exf:∀b∈X.ex,b≠X.env.locals/\∀x c,X.env.cells.lookup x=some c->c≠b
 bs:∀b o,X.base.get? b=some o->X.s₀.heap.get? b=some o/\X.H₀ b=none
 bsz:X.base.objs.size<=X.s₀.heap.objs.size
 noex:∀b o,X.base.get? b=some o->b∉X.ex
 exfs:∀b∈X.ex,b∉X.fs
 funs:X.s₀.heap.FunFrames X.base X.outer
 frf:∀b∈X.fs,X.H₀ b=none
structure Inv(X:Cx)(pins:List (Addr×Obj))(σ:List (Option V))(H:Hp)(s:Shared):Prop where
 ok:X.Ok
 os:s.os=X.s₀.os
 bare:AllBare s.gens
 base:Un X.fs X.ex X.H₀ H X.s₀.heap s.heap
 loc:∃m,s.heap.Ns X.env.locals m/\∀(i:Nat) (x:Str) (v:V),X.N[i]?=some x->σ[i]?=some (some v)->Vis X.env.scope x->∃u,RelV v u/\Look X.env s.heap m x u
 cell:∀x c,X.env.cells.lookup x=some c->∃v,s.heap.IsCell c v
 free:H X.env.locals=none
 freeC:∀x c,X.env.cells.lookup x=some c->H c=none
 pin:∀p∈X.pn++pins,s.heap.get? p.1=some p.2/\H p.1=none/\p.1≠X.env.locals/\p.1∉X.fs/\∀v,p.2.data≠.cell v
 hok:HOk X.prog X.w H s.heap
 len:σ.length=X.N.length
section
variable{X:Cx}{s:Shared}
theorem Cx.Ok.nofr(ok:X.Ok){b:Addr}{o:Obj}(e:X.base.get? b=some o):b∉X.fs:=λhb=>by
 have:=(ok.funs.mem hb).1;rw[e] at this;cases this
theorem Inv.bs(I:Inv X pins σ H s):∀b o,X.base.get? b=some o->s.heap.get? b=some o/\H b=none:=λb o e =>
 ⟨I.base.keep b o (I.ok.bs b o e).1 (I.ok.bs b o e).2 (I.ok.nofr e) (I.ok.noex b o e),I.base.free b o (I.ok.bs b o e).1 (I.ok.bs b o e).2 (I.ok.noex b o e)⟩
theorem Inv.bk(I:Inv X pins σ H s):∀b o,X.base.get? b=some o->s.heap.get? b=some o:=λb o e=>(I.bs b o e).1
theorem Inv.mod(I:Inv X pins σ H s):Mod X.K X.mg X.base:=I.ok.mod
theorem Inv.kIn(I:Inv X pins σ H s):X.K.In s.heap:=I.ok.mod.kin.keeps I.bk
theorem Inv.lt(I:Inv X pins σ H s):X.env.locals<s.heap.objs.size:=let ⟨_,hn,_⟩:=I.loc;hn.lt
theorem Inv.sz(I:Inv X pins σ H s):X.s₀.heap.objs.size<=s.heap.objs.size:=B7 I.ok.above (L5 I.lt)
theorem Inv.nofs(I:Inv X pins σ H s)(h:s.heap.objs.size<=a):a∉X.fs:=λhb=>by
 obtain⟨_,o,ho,_⟩:=I.ok.funs.mem hb;exact absurd (B1 (A3 ho) (B7 I.sz h)) (D4 _)
theorem Inv.cne(I:Inv X pins σ H s):∀x c,X.env.cells.lookup x=some c->c≠X.env.locals:=λx c e z=>by
 obtain⟨v,o,ho,hd⟩:=I.cell x c e;obtain⟨m,⟨o',es,ep,ho',hd',_⟩,_⟩:=I.loc;rw[z,ho'] at ho;cases ho;rw[hd'] at hd;cases hd
theorem Inv.funs(I:Inv X pins σ H s):s.heap.FunFrames X.base X.outer:=by
 have all:∀(l:List Env),(∀b∈frs l,b∈X.fs)->X.s₀.heap.FunFrames X.base l->s.heap.FunFrames X.base l:=by
  intro l
  induction l with
  | nil=>intro _ _;trivial
  | cons env r ih =>
   intro hs hl;obtain⟨hk,⟨L,o,hf,hn,ho,hd⟩,hr⟩:=hl;have hL:L∈X.fs:=hs L (by unfold frs;rw[List.filterMap_cons,hf];exact A5);obtain⟨sl,e⟩:=I.base.slot L o ho (I.ok.frf L hL) hL λz=>I.ok.exfs L z hL
   exact⟨hk,⟨L,_,hf,hn,e,hd⟩,ih (λb hb=>hs b (by unfold frs;rw[List.filterMap_cons,hf];exact A4 _ hb)) hr⟩
 exact all X.outer (λ_ hb=>hb) I.ok.funs
theorem Inv.stack(I:Inv X pins σ H s):s.heap.FunFrames X.base X.stack:=by
 rcases I.ok.stk with e|⟨e,hf⟩
 ·rw[e];exact I.funs
 ·rw[e]
  obtain⟨m,hn,_⟩:=I.loc;refine .cons (by rw[I.ok.kind];decide) hf hn ?_ I.funs;exact Heap.get?_none_of_le (B7 I.ok.bsz I.ok.above)
theorem Inv.stkSub(I:Inv X pins σ H s):∀b∈frs X.stack,b∈X.env.locals::X.fs:=λb hb=>by
 rcases I.ok.stk with e|⟨e,hf⟩
 ·rw[e] at hb;exact A4 _ hb
 ·rw[e] at hb
  unfold frs at hb;rw[List.filterMap_cons,hf] at hb;exact hb
theorem Inv.stkFree(I:Inv X pins σ H s):∀b∈frs X.stack,H b=none:=λb hb=>by
 rcases A9.mp (I.stkSub b hb) with e|hb
 ·rw[e];exact I.free
 ·obtain⟨_,o,ho,_⟩:=I.ok.funs.mem hb
  exact I.base.free b o ho (I.ok.frf b hb) λz=>I.ok.exfs b z hb
theorem Inv.step{g':Array GenState}{t':Nat}{d':Drawn}{ch:List Addr}(I:Inv X pins σ H s)
  (hch:∀b∈ch,(b∈X.ex∨X.s₀.heap.objs.size<=b)/\b≠X.env.locals/\(∀x c,X.env.cells.lookup x=some c->c≠b)/\∀p∈X.pn++pins,p.1≠b)
  (keep:∀b o,b≠X.env.locals->b∉X.fs->b∉ch->s.heap.get? b=some o->H b=none->h'.get? b=some o)
  (slot:∀b o,b≠X.env.locals->b∈X.fs->b∉ch->s.heap.get? b=some o->H b=none->∃sl,h'.get? b=some { o with slots:=sl }) (free:∀b o,b∉ch->s.heap.get? b=some o->H b=none->H' b=none)
  (there:∀b o,b∉ch->s.heap.get? b=some o->∃o',h'.get? b=some o')
  (tups:∀b xs,H b=some (.tup xs)->H' b=some (.tup xs)) (frzs:∀b o u,H b=some (.frz o u)->H' b=some (.frz o u)) (tbls:∀b ps,H b=some (.tbl ps)->∃more,H' b=some (.tbl (ps++more)))
  (ns:∀m,s.heap.Ns X.env.locals m->h'.Ns X.env.locals m) (hok:HOk X.prog X.w H' h') (hg:AllBare g') :
  Inv X pins σ H' { s with heap:=h',gens:=g',drawn:=d',toks:=t' }:=by
 have neL:∀b o,X.s₀.heap.get? b=some o->b≠X.env.locals:=λb o e=>A8 (B1 (A3 e) I.ok.above)
 have neC:∀b o,X.s₀.heap.get? b=some o->b∉X.ex->b∉ch:=λb o e hx hb=>by
  rcases (hch b hb).1 with z|z
  ·exact hx z
  ·exact absurd (B1 (A3 e) z) (D4 _)
 have cellK:∀x c,X.env.cells.lookup x=some c->∀v,s.heap.IsCell c v->h'.IsCell c v:=λx c e v ⟨o,ho,hd⟩=>by
  have nch:c∉ch:=λz=>(hch c z).2.2.1 x c e rfl
  by_cases hc:c∈X.fs
  ·obtain⟨sl,q⟩:=slot c o (I.cne x c e) hc nch ho (I.freeC x c e)
   exact⟨_,q,hd⟩
  ·exact⟨o,keep c o (I.cne x c e) hc nch ho (I.freeC x c e),hd⟩
 refine⟨I.ok,I.os,hg,⟨λb o e n hb hx=>?_,λb o e n hb hx=>?_,λb o e n hx=>?_,λb o e hx=>?_,λb xs e=>tups b xs (I.base.tups b xs e),λb o xs e=>frzs b o xs (I.base.frzs b o xs e),λb ps e=>?_⟩,?_,λx c e=>?_,?_,λx c e=>?_,λp hp=>?_,hok,I.len⟩
 ·exact keep b o (neL b o e) hb (neC b o e hx) (I.base.keep b o e n hb hx) (I.base.free b o e n hx)
 ·obtain⟨sl,e1⟩:=I.base.slot b o e n hb hx
  obtain⟨sl',e2⟩:=slot b _ (neL b o e) hb (neC b o e hx) e1 (I.base.free b o e n hx);exact⟨sl',e2⟩
 ·obtain⟨o',e1⟩:=I.base.there b o e hx
  exact free b o' (neC b o e hx) e1 (I.base.free b o e n hx)
 ·obtain⟨o',e1⟩:=I.base.there b o e hx
  exact there b o' (neC b o e hx) e1
 ·obtain⟨m1,e1⟩:=I.base.tbls b ps e
  obtain⟨m2,e2⟩:=tbls b _ e1;exact⟨m1++m2,by rw[e2,Array.append_assoc]⟩
 ·obtain⟨m,hn,hl⟩:=I.loc
  refine⟨m,ns m hn,λi x v e1 e2 e3=>?_⟩;obtain⟨u,r,l⟩:=hl i x v e1 e2 e3;refine⟨u,r,?_⟩;rcases l with l|⟨k,c,e,z⟩
  ·exact .inl l
  ·exact .inr ⟨k,c,e,cellK x c e _ z⟩
 ·obtain⟨v,z⟩:=I.cell x c e
  exact⟨v,cellK x c e v z⟩
 ·obtain⟨m,⟨o,_,_,ho,_⟩,_⟩:=I.loc
  exact free _ o (λz=>(hch _ z).2.1 rfl) ho I.free
 ·obtain⟨v,o,ho,hd⟩:=I.cell x c e
  exact free c o (λz=>(hch c z).2.2.1 x c e rfl) ho (I.freeC x c e)
 ·obtain⟨e,n,ne,nf,d⟩:=I.pin p hp
  have nch:p.1∉ch:=λz=>(hch p.1 z).2.2.2 p hp rfl
  exact⟨keep p.1 p.2 ne nf nch e n,free p.1 p.2 nch e n,ne,nf,d⟩
theorem Inv.un(I:Inv X pins σ H s)(u:Un X.fs [] H H' s.heap h')(hok:HOk X.prog X.w H' h'):Inv X pins σ H' { s with heap:=h',toks:=t' }:=by
 obtain⟨m,⟨o,es,ep,ho,r⟩,_⟩:=id I.loc;obtain⟨sl,hL⟩:=u.any ho I.free (by simp);exact I.step (g':=s.gens) (d':=s.drawn) (ch:=[]) (λ_ z=>nomatch z) (λb o _ hb _ e n=>u.keep b o e n hb (by simp)) (λb o _ hb _ e n=>u.slot b o e n hb (by simp)) (λb o _ e n=>u.free b o e n (by simp)) (λb o _ e=>u.there b o e (by simp)) u.tups u.frzs u.tbls (λm' hm=>by
  obtain⟨o',es',ep',ho',r'⟩:=hm;rw[ho] at ho';cases ho';exact⟨_,es',ep',hL,r'⟩) hok I.bare
theorem Inv.call{g':Array GenState}{t':Nat}{d':Drawn}(I:Inv X pins σ H s)(u:Un (frs X.stack) ch H H' s.heap h')(hok:HOk X.prog X.w H' h')(hg:AllBare g')
  (hch:∀b∈ch,(b∈X.ex∨X.s₀.heap.objs.size<=b)/\b≠X.env.locals/\(∀x c,X.env.cells.lookup x=some c->c≠b)/\∀p∈X.pn++pins,p.1≠b) :
  Inv X pins σ H' { s with heap:=h',gens:=g',drawn:=d',toks:=t' }:=by
 obtain⟨m,⟨o,es,ep,ho,r⟩,_⟩:=id I.loc;obtain⟨sl,hL⟩:=u.any ho I.free λz=>(hch _ z).2.1 rfl
 exact I.step (ch:=ch) hch (λb o hL hb hc e n=>u.keep b o e n (λz=>(A9.mp (I.stkSub b z)).elim hL hb) hc) (λb o _ _ hc e n=>u.any e n hc) (λb o hc e n=>u.free b o e n hc) (λb o hc e=>u.there b o e hc) u.tups u.frzs u.tbls (λm' hm=>by
  obtain⟨o',es',ep',ho',r'⟩:=hm;rw[ho] at ho';cases ho';exact⟨_,es',ep',hL,r'⟩) hok hg
theorem Inv.turned{t':Nat}(I:Inv X pins σ H s)(k:∀b o,b≠it->s.heap.get? b=some o->h'.get? b=some o)(hn:H it=none)(hL:it≠X.env.locals)
  (h1:it∈X.ex∨X.s₀.heap.objs.size<=it) (h2:∀x c,X.env.cells.lookup x=some c->c≠it) (h3:∀p∈X.pn++pins,p.1≠it):Inv X pins σ H { s with heap:=h',toks:=t' }:=by
 have nit:∀b u,H b=some u->b≠it:=λb u e z=>by rw[z,hn] at e;cases e
 refine I.step (g':=s.gens) (d':=s.drawn) (ch:=[it]) (λb hb=>?_) (λb o _ _ hc e _=>k b o (λz=>hc (by simp[z])) e) (λb o _ _ hc e _=>⟨o.slots,k b o (λz=>hc (by simp[z])) e⟩) (λ_ _ _ _ n=>n)
  (λb o hc e=>⟨o,k b o (λz=>hc (by simp[z])) e⟩) (λ_ _ e=>e) (λ_ _ _ e=>e) (λb ps e=>⟨#[],by rw[e];simp⟩) (λm hm=>?_) (λb u e=>?_) I.bare
 ·have e:b=it:=by simpa using hb
  subst e;exact⟨h1,hL,h2,h3⟩
 ·obtain⟨o,es,ep,ho,r⟩:=hm
  exact⟨o,es,ep,k _ o (C0 hL) ho,r⟩
 ·refine(I.hok b u e).stay (λc v hc q=>k c v ?_ q) (λ_ q=>q) λ_ _ q=>q
  rcases hc with z|z
  ·rw[z];exact nit b u e
  ·exact nit c _ z
theorem Inv.tok(I:Inv X pins σ H s)(t:Nat):Inv X pins σ H { s with toks:=t }:=I.un (h':=s.heap) (t':=t) Un.refl I.hok
theorem Inv.kept(I:Inv X pins σ H s)(k:∀b u,s.heap.get? b=some u->h'.get? b=some u):Inv X pins σ H { s with heap:=h',toks:=t' }:=I.un (Un.kept k) (I.hok.kept k)
theorem Inv.laid{o:HO}{t':Nat}(I:Inv X pins σ H s)(k:∀b u,s.heap.get? b=some u->h'.get? b=some u)(hp:s.heap.objs.size<=a)(new:ObjOk X.prog X.w (upd H a o) h' a o) :
  Inv X pins σ (upd H a o) { s with heap:=h',toks:=t' }:=I.un (Un.laid k hp (I.hok.fresh hp)) (I.hok.laid k hp new)
theorem Inv.write{x e:Addr}{o:HO}{t':Nat}(I:Inv X pins σ H s)(mu:Mut (H x))(he:e=x∨H e=some (.own x))(k:∀b u,b≠e->s.heap.get? b=some u->h'.get? b=some u)(heo:∃u,h'.get? e=some u)
  (new:ObjOk X.prog X.w (upd H x o) h' x o):Inv X pins σ (upd H x o) { s with heap:=h',toks:=t' }:=I.un (Un.write mu he k heo) (I.hok.write mu he k heo new)
theorem Inv.weak{σ':List (Option V)}(I:Inv X pins σ H s)(hl:σ'.length=σ.length)(w:∀(i:Nat) v,σ'[i]?=some (some v)->σ[i]?=some (some v)):Inv X pins σ' H s :=
 ⟨I.ok,I.os,I.bare,I.base,let ⟨m,hn,hl'⟩:=I.loc;⟨m,hn,λi x v e1 e2 e3=>hl' i x v e1 (w i v e2) e3⟩,I.cell,I.free,I.freeC,I.pin,I.hok,hl.trans I.len⟩
theorem Inv.pins_of{pins':List (Addr×Obj)}(I:Inv X pins σ H s)(h:∀p∈pins',s.heap.get? p.1=some p.2/\H p.1=none/\p.1≠X.env.locals/\p.1∉X.fs/\∀v,p.2.data≠.cell v):Inv X pins' σ H s :=
 ⟨I.ok,I.os,I.bare,I.base,I.loc,I.cell,I.free,I.freeC,λp hp=>(B8.mp hp).elim (λz=>I.pin p (G0 _ z)) (h p),I.hok,I.len⟩
theorem mq0(hN:N.Nodup)(a:N[i]?=some x)(b:N[j]?=some x):i=j:=by
 obtain⟨h1,e1⟩:=D0.mp a;obtain⟨h2,e2⟩:=D0.mp b;exact(At0 hN).mp (e1.trans e2.symm)
theorem nc0{M:Model}{A:Around}{E:Value->Shared->Prop}{v:V}{Q:Unit->Shared->Prop}(I:Inv X pins σ H s)(hN:X.N.Nodup)(hi:X.N[i]?=some x)(hx:Loc X.env.scope x)(r:RelV v u)
  (h:∀s',Inv X pins (σ.set i (some v)) H s'->(∃a,Heap.SameBut a s.heap s'.heap/\(a=X.env.locals∨X.env.cells.lookup x=some a))->Q () s') (hf:X.fn x=true∨X.env.scope.names.lookup x=some .local:=by first|exact .inl rfl|exact .inr rfl|assumption):wpAny M A (storeName X.env x u) Q E s:=by
 obtain⟨m,hn,hl⟩:=id I.loc;have hcls:(X.env.scope.kind==.class||(X.env.scope.kind==.module&&X.env.locals != X.env.globals))=false:=by rw[I.ok.kind];rfl
 have hiσ:i<σ.length:=by rw[I.len];exact(D0.mp hi).1
 have cne:=I.cne;have tracked:∀{a:Addr} {h':Heap},(∃o,s.heap.get? a=some o/\H a=none)->Heap.SameBut a s.heap h'->HOk X.prog X.w H h':=λ{a h'} ha hs b ob e=>by
  obtain⟨_,_,hfree⟩:=ha;refine(I.hok b ob e).stay (λc w' hc q=>(hs.2 c ?_).trans q) (λ_ q=>q) λ_ _ q=>q
  rintro rfl;rcases hc with rfl|hc
  ·rw[hfree] at e;cases e
  ·rw[hfree] at hc;cases hc
 rcases hx with hk|hk
 ·refine wpAny_storeName_local hk hn (λh' hn' hs=>?_) hcls
  obtain⟨oL,_,_,hoL,_⟩:=id hn;refine h _ ⟨I.ok,I.os,I.bare,⟨λb o e n hb hx=>?_,λb o e n hb hx=>?_,I.base.free,λb o e hx=>?_,I.base.tups,I.base.frzs,I.base.tbls⟩,⟨_,hn',λj y v' e1 e2 e3=>?_⟩,λy c e=>?_,I.free,I.freeC,λp hp=>?_,tracked ⟨oL,hoL,I.free⟩ hs,by simpa using I.len⟩ ⟨_,hs,.inl rfl⟩
  ·exact(hs.2 b (A8 (B1 (A3 e) I.ok.above))).trans (I.base.keep b o e n hb hx)
  ·obtain⟨sl,e1⟩:=I.base.slot b o e n hb hx
   exact⟨sl,(hs.2 b (A8 (B1 (A3 e) I.ok.above))).trans e1⟩
  ·obtain⟨o',e1⟩:=I.base.there b o e hx
   exact⟨o',(hs.2 b (A8 (B1 (A3 e) I.ok.above))).trans e1⟩
  ·by_cases hj:j=i
   ·subst hj
    rw[hi] at e1;cases e1;rw[List.getElem?_set_self hiσ] at e2;cases e2;exact⟨u,r,.inl ⟨hk,by simp⟩⟩
   ·rw[List.getElem?_set_ne (C0 hj)] at e2
    obtain⟨u',r',q⟩:=hl j y v' e1 e2 e3;refine⟨u',r',?_⟩;rcases q with⟨k,e⟩|⟨k,c,e,z⟩
    ·refine .inl ⟨k,?_⟩
     have:y≠x:=λe=>hj (mq0 hN e1 (e▸hi))
     simp[this,e]
    ·exact .inr ⟨k,c,e,z.sameBut hs (cne y c e)⟩
  ·obtain⟨w',z⟩:=I.cell y c e
   exact⟨w',z.sameBut hs (cne y c e)⟩
  ·obtain⟨e,n,ne,nf,d⟩:=I.pin p hp
   exact⟨(hs.2 p.1 ne).trans e,n,ne,nf,d⟩
 ·have hfn:X.fn x=true:=by
   rcases hf with z|z
   ·exact z
   ·rw[z] at hk;cases hk
  obtain⟨c,hc⟩:=I.ok.has x (.inl hk);obtain⟨w',z⟩:=I.cell x c hc;refine wpAny_storeName_cell I.ok.kind hk hc z (λh' hc' hs=>?_);obtain⟨oc,hoc,hocd⟩:=id z;refine h { s with heap:=h' } ⟨I.ok,I.os,I.bare,⟨λb o e n hb hx=>?_,λb o e n hb hx=>?_,I.base.free,λb o e hx=>?_,I.base.tups,I.base.frzs,I.base.tbls⟩,⟨m,hn.sameBut hs (C0 (cne x c hc)),λj y v' e1 e2 e3=>?_⟩,λy c' e=>?_,I.free,I.freeC,λp hp=>?_,tracked ⟨oc,hoc,I.freeC x c hc⟩ hs,by simpa using I.len⟩ ⟨c,hs,.inr hc⟩
  ·exact(hs.2 b (A8 (B1 (A3 e) (I.ok.cab x c hfn hc)))).trans (I.base.keep b o e n hb hx)
  ·obtain⟨sl,e1⟩:=I.base.slot b o e n hb hx
   exact⟨sl,(hs.2 b (A8 (B1 (A3 e) (I.ok.cab x c hfn hc)))).trans e1⟩
  ·obtain⟨o',e1⟩:=I.base.there b o e hx
   exact⟨o',(hs.2 b (A8 (B1 (A3 e) (I.ok.cab x c hfn hc)))).trans e1⟩
  ·by_cases hj:j=i
   ·subst hj
    rw[hi] at e1;cases e1;rw[List.getElem?_set_self hiσ] at e2;cases e2;exact⟨u,r,.inr ⟨.inl hk,c,hc,hc'⟩⟩
   ·rw[List.getElem?_set_ne (C0 hj)] at e2
    obtain⟨u',r',q⟩:=hl j y v' e1 e2 e3;refine⟨u',r',?_⟩;rcases q with q|⟨k,c',e,z'⟩
    ·exact .inl q
    ·refine .inr ⟨k,c',e,z'.sameBut hs ?_⟩
     rintro rfl;exact hj (mq0 hN e1 (I.ok.inj _ _ _ e hc▸hi))
  ·by_cases hcc:c'=c
   ·subst hcc;exact⟨_,hc'⟩
   ·obtain⟨w2,z2⟩:=I.cell y c' e
    exact⟨w2,z2.sameBut hs hcc⟩
  ·obtain⟨e,n,ne,nf,d⟩:=I.pin p hp
   refine⟨(hs.2 p.1 ?_).trans e,n,ne,nf,d⟩;intro q;rw[q,hoc] at e;have q':oc=p.2:=B6 e;exact d w' (by rw[← q'];exact hocd)
theorem ke0{M:Model}{A:Around}{E:Value->Shared->Prop}{v:V}{Q:Unit->Shared->Prop}(I:Inv X pins σ H s)(hN:X.N.Nodup)(hi:X.N[i]?=some x)(hx:Loc X.env.scope x)(r:RelV v u)
  (h:∀s',Inv X pins (σ.set i (some v)) H s'->Q () s') (hf:X.fn x=true∨X.env.scope.names.lookup x=some .local:=by first|exact .inl rfl|exact .inr rfl|assumption):wpAny M A (storeName X.env x u) Q E s :=
 nc0 I hN hi hx r (λs' I' _=>h s' I') hf
theorem Inv.call'(I:Inv X pins σ H s)(ho:s'.os=s.os)(u:Un (frs X.stack) ch H H' s.heap s'.heap)(hok:HOk X.prog X.w H' s'.heap)(hg:AllBare s'.gens)
  (hch:∀b∈ch,(b∈X.ex∨X.s₀.heap.objs.size<=b)/\b≠X.env.locals/\(∀x c,X.env.cells.lookup x=some c->c≠b)/\∀p∈X.pn++pins,p.1≠b):Inv X pins σ H' s':=by
 obtain⟨h',g',d',t',o'⟩:=s';have e:o'=s.os:=ho;subst e;exact I.call (g':=g') (t':=t') (d':=d') u hok hg hch
end
abbrev XK:=Value->Option Addr->Hp->Prop
abbrev St:=List (Option V)
abbrev VK:=V->Hp->Prop
abbrev TE:=St->Hp->VK->Prop
abbrev TT:=St->Hp->(Bool->Hp->Prop)->Prop
variable{ta tb te tv ty:L2.TE}
abbrev TA:=St->Hp->(List V->Hp->Prop)->Prop
structure Ends where
 nx:St->Hp->Prop
 rt:VK
 bk:St->Hp->Prop:=λ_ _=>False
 ct:St->Hp->Prop:=λ_ _=>False
abbrev TS:=Ends->St->Hp->Prop
def EP(X:Cx)(pins:List (Addr×Obj))(σ:St)(Q:VK)(u:Value)(s':Shared):Prop:=∃v H',Inv X pins σ H' s'/\RelV v u/\Q v H'
def TP(X:Cx)(pins:List (Addr×Obj))(σ:St)(Q:Bool->Hp->Prop)(b:Bool)(s':Shared):Prop:=∃H',Inv X pins σ H' s'/\Q b H'
def AP(X:Cx)(pins:List (Addr×Obj))(σ:St)(Q:List V->Hp->Prop)(us:List Value)(s':Shared):Prop:=∃vs H',Inv X pins σ H' s'/\Vals vs us/\Q vs H'
def SP(X:Cx)(pins:List (Addr×Obj))(D:Ends)(f:Flow)(s':Shared):Prop :=
 match f with
 | .next=>∃σ' H',Inv X pins σ' H' s'/\D.nx σ' H'
 | .brk=>∃σ' H',Inv X pins σ' H' s'/\D.bk σ' H'
 | .cont=>∃σ' H',Inv X pins σ' H' s'/\D.ct σ' H'
 | .ret u=>∃v σ' H',Inv X pins σ' H' s'/\RelV v u/\D.rt v H'
def PE(X:Cx)(e:Expr)(t:TE):Prop :=
 ∀(pins:List (Addr×Obj)) (s:Shared) (σ:St) (H:Hp) (Q:VK),Inv X pins σ H s->t σ H Q->wpAny (model X.prog X.w) X.A (eval e X.env) (EP X pins σ Q) X.xe s
def PT(X:Cx)(e:Expr)(t:TT):Prop :=
 ∀(pins:List (Addr×Obj)) (s:Shared) (σ:St) (H:Hp) (Q:Bool->Hp->Prop),Inv X pins σ H s->t σ H Q->wpAny (model X.prog X.w) X.A (isTrue e X.env (eval e X.env)) (TP X pins σ Q) X.xe s
def PW(X:Cx)(e:Expr)(t:TT):Prop :=
 ∀(whole:Sem Value) (pins:List (Addr×Obj)) (s:Shared) (σ:St) (H:Hp) (Q:Bool->Hp->Prop),Inv X pins σ H s->t σ H Q->wpAny (model X.prog X.w) X.A (isTrue e X.env whole) (TP X pins σ Q) X.xe s
theorem PW.pt{X:Cx}{t:TT}(h:PW X e t):PT X e t:=h _
def PA(X:Cx)(es:List Expr)(t:TA):Prop :=
 ∀(pos:Pos) (pins:List (Addr×Obj)) (s:Shared) (σ:St) (H:Hp) (Q:List V->Hp->Prop),Inv X pins σ H s->t σ H Q->wpAny (model X.prog X.w) X.A (spliced (backTo pos (starEach es X.env))) (AP X pins σ Q) X.xe s
def PS(X:Cx)(st:Stmt)(t:TS):Prop :=
 ∀(pins:List (Addr×Obj)) (s:Shared) (σ:St) (H:Hp) (D:Ends),Inv X pins σ H s->t D σ H->wpAny (model X.prog X.w) X.A (exec st X.env) (SP X pins D) X.xe s
def PSs(X:Cx)(st:List Stmt)(t:TS):Prop :=
 ∀(pins:List (Addr×Obj)) (s:Shared) (σ:St) (H:Hp) (D:Ends),Inv X pins σ H s->t D σ H->wpAny (model X.prog X.w) X.A (execs st X.env) (SP X pins D) X.xe s
theorem thn{t:Sem α}{Q Q':α->Shared->Prop}{M:Model}{s:Shared}(h:wpAny M A t Q E s)(hQ:∀a s,Q a s->Q' a s):wpAny M A t Q' E s:=D1 h hQ λ_ _ x=>x
section
variable{X:Cx}
def Ta0(i:Nat):TE:=fun σ H Q=>∃v,σ[i]?=some (some v)/\Q v H
def tC(v:V):TE:=λ_ H Q=>Q v H
theorem yv0(hN:X.N[i]?=some x)(hv:Vis X.env.scope x)(hd:(x==("__debug__" : Str))=false:=by decide)(hcd:(x==("__classdict__" : Str))=false:=by decide):PE X (.Name x pos) (Ta0 i):=by
 intro pins s σ H Q I h;obtain⟨v,e,h⟩:=h;obtain⟨m,hn,hl⟩:=I.loc;obtain⟨u,r,l⟩:=hl i x v hN e hv;have fin:EP X pins σ Q u s:=⟨v,H,I,r,h⟩;rcases l with⟨hk,hm⟩|⟨hk,c,hc,hcell⟩
 ·exact wpAny_Name (wpAny_loadName_local I.ok.kind hk hn hm fin) hd
 ·rcases hk with hk|hk
  ·exact wpAny_Name (wpAny_loadName_cell I.ok.kind hk hc hcell fin) hd
  ·exact wpAny_Name (wpAny_loadName_free I.ok.kind hk hc hcell fin hcd) hd
theorem V70{i j pos}:PE X (.Constant (.int i) j pos) (tC (.int i)):=λ_ _ _ H _ I h=>wpAny_Constant_int ⟨.int i,H,I.tok _,⟨_,rfl⟩,h⟩
theorem U70{b j pos}:PE X (.Constant (.bool b) j pos) (tC (.bl b)):=λ_ _ _ H _ I h=>Constant_bool ⟨.bl b,H,I,rfl,h⟩
theorem Ws0{j pos}:PE X (.Constant .none j pos) (tC .non):=λ_ _ _ H _ I h=>Constant_none ⟨.non,H,I,rfl,h⟩
theorem W70{x j pos}:PE X (.Constant (.str x) j pos) (tC (.str x)):=λ_ _ _ H _ I h=>Calls.Constant_str ⟨.str x,H,I.tok _,⟨_,rfl⟩,h⟩
def Gl(X:Cx)(x:Str):Prop:=X.env.kindOf x=some .globalImplicit
theorem Y60{E:Value->Shared->Prop}{s:Shared}{σ:St}{pos:Pos}(I:Inv X pins σ H s)(hg:Gl X x)(hm:X.mg x=some u)(h:Q u s)
  (hd:(x==("__debug__" : Str))=false:=by decide):wpAny (model X.prog X.w) X.A (eval (.Name x pos) X.env) Q E s :=
 Aw0 I.ok.kind hg (Calls.loadGlobal_global (by rw[I.ok.glob];exact I.mod.glob.keeps I.bk) hm h) hd
theorem zq0{E:Value->Shared->Prop}{s:Shared}{σ:St}{pos:Pos}(I:Inv X pins σ H s)(hg:Gl X x)(hm:X.mg x=none)(hv:bootBuiltins x=some u)(h:Q u s)
  (hn:x ≠"__name__" := by decide) (hd:(x==("__debug__" : Str))=false:=by decide):wpAny (model X.prog X.w) X.A (eval (.Name x pos) X.env) Q E s:=by
 obtain⟨mb,h1,h2⟩:=I.mod.blt;exact Aw0 I.ok.kind hg (Calls.loadGlobal_builtin (by rw[I.ok.glob];exact I.mod.glob.keeps I.bk) hm (by rw[I.ok.blt];exact h1.keeps I.bk) ((h2 x hn).trans hv) h) hd
theorem Y40{v:V}(hg:Gl X x)(hm:X.mg x=none)(hv:bootBuiltins x=some u)(r:RelV v u)(hn:x ≠"__name__" := by decide)(hd:(x==("__debug__" : Str))=false:=by decide):PE X (.Name x pos) (tC v) :=
 λ_ _ _ H _ I h=>zq0 I hg hm hv ⟨v,H,I,r,h⟩ hn hd
variable{a:Expr}
def PC(X:Cx)(op:CmpOp)(a b:Expr)(t:TE):Prop :=
 ∀(pins:List (Addr×Obj)) (s:Shared) (σ:St) (H:Hp) (Q:VK),Inv X pins σ H s->t σ H Q ->
  wpAny (model X.prog X.w) X.A (eval a X.env) (λv s₁=>wpAny (model X.prog X.w) X.A (eval b X.env) (λu s₂=>wpAny (model X.prog X.w) X.A (compareOp op v u) (EP X pins σ Q) X.xe s₂) X.xe s₁) X.xe s
def tB(t:TE):TT:=fun σ H Q=>t σ H λx H1=>∃c,x=.bl c/\Q c H1
theorem Wt0{op:CmpOp}{t:TE}(h:PC X op a b t)(h1:behindInMarks op b=false:=by first|exact nobehind _ (by decide) (by decide)|rfl):PT X (.Compare a [op] [b] pos) (tB t):=by
 intro pins s σ H Q I hw;refine wpAny_isTrue_Compare1 (thn (h pins s σ H _ I hw) λv s1 h1=>thn h1 λu s2 h2=>thn h2 λc s3 ⟨x,H1,I1,r1,q1⟩=>?_) h1;obtain⟨d,rfl,q⟩:=q1;cases r1;exact L6 ⟨H1,I1,q⟩
theorem Xp0{t:TE}(h:PE X e t)(he:∀whole,isTrue e X.env whole=(do let v ← whole;standAt e.pos;holding [v] (truthy v)):=by intro _;rfl):PT X e (tB t):=by
 intro pins s σ H Q I hw;refine isTrue_plain (thn (h pins s σ H _ I hw) λv s1 ⟨x,H1,I1,r1,q1⟩=>?_) (he _);obtain⟨d,rfl,q⟩:=q1;cases r1;exact L6 ⟨H1,I1,q⟩
variable{tA tB':TT}{rest:List Expr}
def Td0(t u:TT):TT:=fun σ H Q=>t σ H λc H1=>if c=true then u σ H1 Q else Q false H1
def tOr(t u:TT):TT:=fun σ H Q=>t σ H λc H1=>if c=true then Q true H1 else u σ H1 Q
def Tk0(t:TT):TT:=fun σ H Q=>t σ H λc H1=>Q (!c) H1
theorem Zy0(ha:PT X a tA):PW X (.BoolOp .And [a] pos) tA:=by
 intro wh pins s σ H Q I h;refine isTrue_and (thn (ha pins s σ H Q I h) λc s1 e=>?_);cases c with
 | true=>exact isTrue_and_nil e
 | false=>exact e
theorem Yw0(ha:PT X a tA):PW X (.BoolOp .Or [a] pos) tA:=by
 intro wh pins s σ H Q I h;refine isTrue_or (thn (ha pins s σ H Q I h) λc s1 e=>?_);cases c with
 | false=>exact isTrue_or_nil e
 | true=>exact e
theorem W20(ha:PT X a tA)(hb:PW X (.BoolOp .And (b::rest) pos) tB'):PW X (.BoolOp .And (a::b::rest) pos) (Td0 tA tB'):=by
 intro wh pins s σ H Q I h;refine isTrue_and (thn (ha pins s σ H _ I h) λc s1 ⟨H1,I1,q1⟩=>?_);cases c with
 | true=>exact hb wh pins s1 σ H1 Q I1 q1
 | false=>exact⟨H1,I1,q1⟩
theorem Ut0(ha:PT X a tA)(hb:PW X (.BoolOp .Or (b::rest) pos) tB'):PW X (.BoolOp .Or (a::b::rest) pos) (tOr tA tB'):=by
 intro wh pins s σ H Q I h;refine isTrue_or (thn (ha pins s σ H _ I h) λc s1 ⟨H1,I1,q1⟩=>?_);cases c with
 | true=>exact⟨H1,I1,q1⟩
 | false=>exact hb wh pins s1 σ H1 Q I1 q1
theorem Vc0(ha:PT X a tA):PT X (.UnaryOp .Not a pos) (Tk0 tA):=by
 intro pins s σ H Q I h;exact isTrue_not (ha pins s σ H (λc H1=>Q (!c) H1) I h)
def U80(ta tb:TE):TE:=fun σ H Q=>ta σ H λx H1=>∃c,x=.bl c/\if c=true then tb σ H1 Q else Q (.bl false) H1
def Ui0(ta:TE):TE:=fun σ H Q=>ta σ H λx H1=>∃c,x=.bl c/\Q (.bl (!c)) H1
theorem Xj0{op}{t:TE}(h:PE X a t):PE X (.BoolOp op [a] pos) t:=λpins s σ H Q I hw=>BoolOp_one (h pins s σ H Q I hw)
theorem Va0(ha:PE X a ta)(hb:PE X (.BoolOp .And (b::rest) pos) tb):PE X (.BoolOp .And (a::b::rest) pos) (U80 ta tb):=by
 intro pins s σ H Q I h;refine BoolOp_and (thn (ha pins s σ H _ I h) λv s1 ⟨x,H1,I1,r1,q1⟩=>?_);obtain⟨c,rfl,q1⟩:=q1;cases r1;refine L6 ?_;cases c with
 | true=>exact hb pins s1 σ H1 Q I1 q1
 | false=>exact⟨.bl false,H1,I1,rfl,q1⟩
theorem Xq0(ha:PE X a ta):PE X (.UnaryOp .Not a pos) (Ui0 ta):=by
 intro pins s σ H Q I h;refine UnaryOp_ (thn (ha pins s σ H _ I h) λv s1 ⟨x,H1,I1,r1,q1⟩=>?_);obtain⟨c,rfl,q1⟩:=q1;cases r1;exact not_of (L6 ⟨.bl (!c),H1,I1,rfl,q1⟩)
def tIf(t:TT)(ta tb:TE):TE:=fun σ H Q=>t σ H λc H1=>if c=true then ta σ H1 Q else tb σ H1 Q
theorem cs0(hc:PT X c tA)(ha:PE X a ta)(hb:PE X b tb):PE X (.IfExp c a b pos) (tIf tA ta tb):=by
 intro pins s σ H Q I h;refine wpAny_IfExp (thn (hc pins s σ H _ I h) λd s1 ⟨H1,I1,q1⟩=>?_);cases d with
 | true=>exact ha pins s1 σ H1 Q I1 q1
 | false=>exact hb pins s1 σ H1 Q I1 q1
end
def SqL(K:W.Frag)(H:Hp)(a:Addr)(xs:List V):Prop :=
 Rd H a (.lst xs) ∨
  ∃(o:Obj) (its:Array Value) (n:Nat),K.lookup a=some o/\o.cls=.type "list"/\o.dict=none/\o.data=.seq its n/\its.size<=sizeLine/\Vals xs its.toList
def SqT(K:W.Frag)(H:Hp)(a:Addr)(xs:List V):Prop :=
 Rd H a (.tup xs) ∨
  ∃(o:Obj) (its:Array Value) (n:Nat),K.lookup a=some o/\o.cls=.type "tuple"/\o.data=.seq its n/\its.size<=sizeLine/\Vals xs its.toList
def Tl0:Value->Option V
 | .none=>some .non
 | .bool b=>some (.bl b)
 | .int i _=>some (.int i)
 | .str x _=>some (.str x)
 | .bytes b _=>some (.byt b)
 | .float b _=>some (.flt b)
 | .ref a=>some (.ref a)
 | .type n=>some (.ty n)
 | _=>none
theorem RelV.abs{x:V}(r:RelV x u):Tl0 u=some x:=by
 cases x with
 | non=>cases r;rfl
 | bl _=>cases r;rfl
 | int _=>obtain⟨t,rfl⟩:=r;rfl
 | str _=>obtain⟨t,rfl⟩:=r;rfl
 | byt _=>obtain⟨t,rfl⟩:=r;rfl
 | flt _=>obtain⟨t,rfl⟩:=r;rfl
 | ref _=>cases r;rfl
 | ty _=>cases r;rfl
theorem RelV.inj{x y:V}(r:RelV x u)(q:RelV y u):x=y:=B6 (r.abs.symm.trans q.abs)
theorem Vals.inj:∀{xs ys:List V} {us:List Value},Vals xs us->Vals ys us->xs=ys
 | _,_,_,.nil,.nil=>rfl
 | _,_,_,.cons r t,.cons r' t'=>by rw[r.inj r',Vals.inj t t']
section
variable{X:Cx}{σ:St}{s:Shared}{xs ys:List V}
theorem SqT.of(h:H a=some (.tup xs)):SqT K H a xs:=.inl (.inl h)
theorem Inv.list(I:Inv X pins σ H s)(h:SqL X.K H a xs):∃its:List Value,Vals xs its/\PlainL s.heap a its.toArray/\xs.length<=sizeLine:=by
 rcases h with h|⟨o,its,n,hk,hc,hd,hs,hz,r⟩
 ·obtain⟨z,its,n,r,e⟩:=h.ok I.hok
  exact⟨its,r,⟨_,n,e,rfl,rfl,rfl⟩,z⟩
 ·refine⟨its.toList,r,⟨o,n,I.kIn a o hk,hc,hd,by simpa using hs⟩,?_⟩
  have e:=r.length;simp only[Array.length_toList] at e;omega
theorem Inv.tuple(I:Inv X pins σ H s)(h:SqT X.K H a xs):∃its:List Value,Vals xs its/\IsTup s.heap a its.toArray/\xs.length<=sizeLine:=by
 rcases h with h|⟨o,its,n,hk,hc,hs,hz,r⟩
 ·obtain⟨z,its,r,p⟩:=h.ok I.hok
  exact⟨its,r,p.tup,z⟩
 ·refine⟨its.toList,r,⟨o,I.kIn a o hk,hc,n,by simpa using hs⟩,?_⟩
  have e:=r.length;simp only[Array.length_toList] at e;omega
theorem Inv.list_inj(I:Inv X pins σ H s)(h:SqL X.K H a xs)(h':SqL X.K H a ys):xs=ys:=by
 obtain⟨its,r,⟨o,n,e,_,_,d⟩,_⟩:=I.list h;obtain⟨its',r',⟨o',n',e',_,_,d'⟩,_⟩:=I.list h';rw[e] at e';cases e';rw[d] at d';injection d' with d1 _
 have:its=its':=by simpa using C9 Array.toList d1
 subst this;exact r.inj r'
theorem Inv.tuple_inj(I:Inv X pins σ H s)(h:SqT X.K H a xs)(h':SqT X.K H a ys):xs=ys:=by
 obtain⟨its,r,⟨o,e,_,n,d⟩,_⟩:=I.tuple h;obtain⟨its',r',⟨o',e',_,n',d'⟩,_⟩:=I.tuple h';rw[e] at e';cases e';rw[d] at d';injection d' with d1 _
 have:its=its':=by simpa using C9 Array.toList d1
 subst this;exact r.inj r'
end
abbrev Cx.wish(X:Cx)(E:Value->Shared->Prop):Cx:={ X with xe:=E }
abbrev Cx.nox(X:Cx):Cx:=X.wish λ_ _=>False
theorem Cx.Ok.wish{X:Cx}(ok:X.Ok)(E:Value->Shared->Prop):(X.wish E).Ok :=
 ⟨ok.mod,ok.kind,ok.glob,ok.blt,ok.above,ok.inj,ok.has,ok.cab,ok.hd,ok.frames,ok.stk,ok.exf,ok.bs,ok.bsz,ok.noex,ok.exfs,ok.funs,ok.frf⟩
theorem Cx.Ok.unwish{X:Cx}(ok:(X.wish E).Ok):X.Ok :=
 ⟨ok.mod,ok.kind,ok.glob,ok.blt,ok.above,ok.inj,ok.has,ok.cab,ok.hd,ok.frames,ok.stk,ok.exf,ok.bs,ok.bsz,ok.noex,ok.exfs,ok.funs,ok.frf⟩
section
variable{X:Cx}{σ:St}{s:Shared}
theorem Inv.wish(I:Inv X pins σ H s)(E:Value->Shared->Prop):Inv (X.wish E) pins σ H s:=⟨I.ok.wish E,I.os,I.bare,I.base,I.loc,I.cell,I.free,I.freeC,I.pin,I.hok,I.len⟩
theorem Inv.unwish(I:Inv (X.wish E) pins σ H s):Inv X pins σ H s:=⟨I.ok.unwish,I.os,I.bare,I.base,I.loc,I.cell,I.free,I.freeC,I.pin,I.hok,I.len⟩
theorem SP.unwish{D:Ends}{f:Flow}(h:SP (X.wish E) pins D f s'):SP X pins D f s':=by
 cases f with
 | next=>obtain⟨σ',H',I,q⟩:=h;exact⟨σ',H',I.unwish,q⟩
 | brk=>obtain⟨σ',H',I,q⟩:=h;exact⟨σ',H',I.unwish,q⟩
 | cont=>obtain⟨σ',H',I,q⟩:=h;exact⟨σ',H',I.unwish,q⟩
 | ret u=>obtain⟨v,σ',H',I,r,q⟩:=h;exact⟨v,σ',H',I.unwish,r,q⟩
theorem PSs.nox{st:List Stmt}{t:TS}(h:PSs X.nox st t):PSs X st t:=λpins s σ H D I hw =>
 D1 (h pins s σ H D (I.wish _) hw) (λ_ _ q=>q.unwish) λ_ _ z=>False.elim z
end
section
variable{X:Cx}{t u:TS}
def Uj0:TS:=λD σ H=>D.nx σ H
def Tj0(t u:TS):TS:=λD σ H=>t { D with nx:=u D } σ H
theorem Za0:PSs X [] Uj0:=λ_ _ σ H _ I h=>x4 ⟨σ,H,I,h⟩
theorem vo0(h1:PS X st t)(h2:PSs X rest u):PSs X (st::rest) (Tj0 t u):=by
 intro pins s σ H D I h;refine wpAny_execs_cons (thn (h1 pins s σ H { D with nx:=u D } I h) λf s1 q=>?_);cases f with
 | next =>
  obtain⟨σ',H',I',q⟩:=q;exact h2 pins s1 σ' H' D I' q
 | ret v=>exact q
 | brk=>exact q
 | cont=>exact q
theorem Inv.quiet{σ:St}{s:Shared}(I:Inv X pins σ H s):interactive X.env=false:=by simp[interactive,I.ok.kind]
def Vx0(te:TE):TS:=λD σ H=>te σ H λ_ H1=>D.nx σ H1
theorem iu0(he:PE X e te)(hs:swapsWith e none pos.line X.env=pure false:=by rfl):PS X (.Expr e pos) (Vx0 te):=by
 intro pins s σ H D I h;exact wpAny_Expr_any (thn (he pins s σ H _ I h) λv s1 ⟨x,H1,I1,r1,q1⟩=>⟨σ,H1,I1,q1⟩) I.quiet hs
def Tq0(te:TE):TS:=λD σ H=>te σ H D.rt
theorem mt0(he:PE X e te):PS X (.Return (some e) pos) (Tq0 te):=by
 intro pins s σ H D I h;exact wpAny_Return_some (thn (he pins s σ H _ I h) λv s1 ⟨x,H1,I1,r1,q1⟩=>⟨x,σ,H1,I1,r1,q1⟩)
def Tp0(c:TT)(t u:TS):TS:=λD σ H=>c σ H λb H1=>if b=true then t D σ H1 else u D σ H1
theorem Vl0{a b:List Stmt}{tc:TT}(hc:PT X c tc)(ha:PSs X a t)(hb:PSs X b u):PS X (.If c a b pos) (Tp0 tc t u):=by
 intro pins s σ H D I h;refine wpAny_If (thn (hc pins s σ H _ I h) λd s1 ⟨H1,I1,q1⟩=>?_);cases d with
 | true=>exact ha pins s1 σ H1 D I1 q1
 | false=>exact hb pins s1 σ H1 D I1 q1
def V90:TS:=λ_ _ _=>False
theorem u90{sts:List Stmt}:PSs X sts V90:=λ_ _ _ _ _ _ h=>h.elim
end
abbrev TG:=V->St->Hp->(St->Hp->Prop)->Prop
abbrev TGs:=List V->St->Hp->(St->Hp->Prop)->Prop
def PG(X:Cx)(target:Expr)(t:TG):Prop :=
 ∀(pins:List (Addr×Obj)) (s:Shared) (σ:St) (H:Hp) (v:V) (u:Value) (Q:St->Hp->Prop),Inv X pins σ H s->RelV v u->t v σ H Q ->
  wpAny (model X.prog X.w) X.A (assign target X.env u) (λ_ s'=>∃σ' H',Inv X pins σ' H' s'/\Q σ' H') X.xe s
def PGs(X:Cx)(ts:List Expr)(t:TGs):Prop :=
 ∀(pins:List (Addr×Obj)) (s:Shared) (σ:St) (H:Hp) (vs:List V) (us:List Value) (Q:St->Hp->Prop),Inv X pins σ H s->Vals vs us->t vs σ H Q ->
  wpAny (model X.prog X.w) X.A (assignInOrder ((assignEach ts X.env).map (·.2)) us) (λ_ s'=>∃σ' H',Inv X pins σ' H' s'/\Q σ' H') X.xe s
abbrev cu0:=V->V->V->Hp->(Hp->Prop)->Prop
def cy0(X:Cx)(t:cu0):Prop :=
 ∀(pins:List (Addr×Obj)) (s:Shared) (σ:St) (H:Hp) (o i v:V) (ov iv u:Value) (Q:Hp->Prop),Inv X pins σ H s->RelV o ov->RelV i iv->RelV v u->t o i v H Q ->
  wpAny (model X.prog X.w) X.A (setItem ov iv u) (λ_ s'=>∃H',Inv X pins σ H' s'/\Q H') X.xe s
abbrev TIp:=V->V->Hp->VK->Prop
def PIp(X:Cx)(op:Operator)(t:TIp):Prop :=
 ∀(pins:List (Addr×Obj)) (s:Shared) (σ:St) (H:Hp) (x y:V) (v u:Value) (Q:VK),Inv X pins σ H s->RelV x v->RelV y u->t x y H Q ->
  wpAny (model X.prog X.w) X.A (inplaceOp op v u) (EP X pins σ Q) X.xe s
section
variable{X:Cx}
def Uz0(i:Nat):TG:=λv σ H Q=>Q (σ.set i (some v)) H
theorem rt0(hN:X.N.Nodup)(hi:X.N[i]?=some x)(hx:Loc X.env.scope x)(hf:X.fn x=true∨X.env.scope.names.lookup x=some .local:=by first|exact .inl rfl|exact .inr rfl|assumption):PG X (.Name x pos) (Uz0 i):=by
 intro pins s σ H v u Q I r h;exact wpAny_assign_Name (ke0 I hN hi hx r (λs' I'=>⟨_,H,I',h⟩) hf)
def Ts0:TGs:=λvs σ H Q=>vs=[]/\Q σ H
def Uh0(t:TG)(u:TGs):TGs:=λvs σ H Q=>∃v r,vs=v::r/\t v σ H fun σ' H'=>u r σ' H' Q
theorem Zk0:PGs X [] Ts0:=by
 intro pins s σ H vs us Q I r h;obtain⟨e,h⟩:=h;subst e;cases r;exact assignInOrder_nil ⟨σ,H,I,h⟩
theorem ls0{t:TG}{u:TGs}(h1:PG X e t)(h2:PGs X es u)
  (hs:(assignEach (e::es) X.env).map (·.2)=assign e X.env::(assignEach es X.env).map (·.2):=by rfl):PGs X (e::es) (Uh0 t u):=by
 intro pins s σ H vs us Q I r h;obtain⟨v,vr,e1,h⟩:=h;subst e1;cases r with
 | cons r rr =>
  rw[hs];refine assignInOrder_cons (thn (h1 pins s σ H _ _ _ I r h) λ_ s1 ⟨σ1,H1,I1,q1⟩=>?_);exact h2 pins s1 σ1 H1 _ _ Q I1 rr q1
def T50(K:W.Frag)(n:Nat)(t:TGs):TG:=λv σ H Q=>∃a xs,v=.ref a/\SqT K H a xs/\xs.length=n/\t xs σ H Q
theorem W40{k:Nat}{t:TGs}{n:Nat}(hc:X.calm=true)(h:PGs X es t)
  (hn:(assignEach es X.env).length=n:=by rfl) (hst:(assignEach es X.env).findIdx? (·.1)=none:=by rfl):PG X (.Tuple es k pos) (T50 X.K n t):=by
 intro pins s σ H v u Q I r hw;obtain⟨a,xs,e1,hq,hl,hw⟩:=hw;subst e1;cases r;obtain⟨its,rv,ht,hz⟩:=I.tuple hq;refine assign_Tuple_tuple (I.ok.hd hc) ht (by simp[hn,← hl,rv.length]) hst λh' hx=>?_
 have I1:Inv X pins σ H { s with heap:=h' }:=I.kept (t':=s.toks) λb o e=>hx b o (A8 (A3 e)) e
 exact h pins _ σ H xs _ Q I1 (by simpa using rv) hw
def Ti0(to ti:TE)(t:cu0):TG:=λv σ H Q=>to σ H λo H1=>ti σ H1 λi H2=>t o i v H2 λH3=>Q σ H3
theorem fx0{i:Expr}{to ti:TE}{t:cu0}(ho:PE X o to)(hi:PE X i ti)(hs:cy0 X t)
  (ha:∀v,assign (.Subscript o i pos) X.env v=(do
   let ov ← holding [v] (eval o X.env)
   let iv ← holding [v,ov] (eval i X.env)
   standAt pos
   holding [v,ov,iv] (setItem ov iv v)
   release [v,ov,iv] []):=by intro _;rfl):PG X (.Subscript o i pos) (Ti0 to ti t):=by
 intro pins s σ H v u Q I r h;rw[ha];refine A0 (C7 (thn (ho pins s σ H _ I h) λov s1 ⟨x,H1,I1,r1,q1⟩=>?_));refine A0 (C7 (thn (hi pins s1 σ H1 _ I1 q1) λiv s2 ⟨y,H2,I2,r2,q2⟩=>?_));refine A0 (i0 (A0 (C7 (thn (hs pins s2 σ H2 x y v ov iv u _ I2 r1 r2 r q2) λ_ s3 ⟨H3,I3,q3⟩=>?_))));exact wpAny_release ⟨σ,H3,I3,q3⟩
def To0(te:TE)(g:TG):TS:=λD σ H=>te σ H λx H1=>g x σ H1 D.nx
theorem k60{tg:Expr}{g:TG}(he:PE X e te)(hg:PG X tg g)(hs:swapsWithSole [tg] e pos.line X.env=pure false:=by rfl)(hw:swappedStores [tg] e X.env=pure none:=by rfl)
  (h1:(assignEach [tg] X.env).map (·.2)=[assign tg X.env]:=by rfl):PS X (.Assign [tg] e pos) (To0 te g):=by
 intro pins s σ H D I h;refine wpAny_Assign_stores (thn (he pins s σ H _ I h) λv s1 ⟨x,H1,I1,r1,q1⟩=>?_) hs hw;rw[h1];exact thn (hg pins s1 σ H1 x v _ I1 r1 q1) λ_ s2 q=>q
def Tg0(i:Nat)(te:TE)(ti:TIp):TS:=λD σ H=>∃x,σ[i]?=some (some x)/\te σ H λy H1=>ti x y H1 λz H2=>D.nx (σ.set i (some z)) H2
theorem Xg0{op:Operator}{ti:TIp}{pos':Pos}(hN:X.N.Nodup)(hi:X.N[i]?=some x)(hx:Loc X.env.scope x)(he:PE X e te)(ho:PIp X op ti)(hf:X.fn x=true∨X.env.scope.names.lookup x=some .local:=by first|exact .inl rfl|exact .inr rfl|assumption) :
  PS X (.AugAssign (.Name x pos') op e pos) (Tg0 i te ti):=by
 intro pins s σ H D I h;obtain⟨v,e1,h⟩:=h;obtain⟨m,hn,hl⟩:=I.loc;have vis:Vis X.env.scope x:=by rcases hx with k|k;exact .inl k;exact .inr (.inl k)
 obtain⟨u,r,l⟩:=hl i x v hi e1 vis;refine wpAny_AugAssign_Name ?_;have go:wpAny (model X.prog X.w) X.A (eval e X.env) (λw s₂=>wpAny (model X.prog X.w) X.A (inplaceOp op u w) (λr s₃=>wpAny (model X.prog X.w) X.A (storeName X.env x r) (λ_=>SP X pins D .next) X.xe s₃) X.xe s₂) X.xe s:=by
  refine thn (he pins s σ H _ I h) λw s1 ⟨y,H1,I1,r1,q1⟩=>?_
  refine thn (ho pins s1 σ H1 v y u w _ I1 r r1 q1) λz s2 ⟨zv,H2,I2,r2,q2⟩=>?_
  exact ke0 I2 hN hi hx r2 (λs3 I3=>⟨_,H2,I3,q2⟩) hf
 rcases l with⟨hk,hm⟩|⟨hk,c,hc,hcell⟩
 ·exact wpAny_loadName_local I.ok.kind hk hn hm go
 ·rcases hk with hk|hk
  ·exact wpAny_loadName_cell I.ok.kind hk hc hcell go
  ·rcases hx with k|k
   ·have:X.env.scope.names.lookup x=some .free:=hk
    rw[k] at this;cases this
   ·have:X.env.scope.names.lookup x=some .free:=hk
    rw[k] at this;cases this
def ipI(f:Int->Int->Int):TIp:=λx y H Q=>∃i j,x=.int i/\y=.int j/\Q (.int (f i j)) H
theorem W80:PIp X .Add (ipI λi j=>i+j):=by
 intro pins s σ H x y v u Q I r1 r2 h;obtain⟨i,j,e1,e2,q⟩:=h;subst e1;subst e2;obtain⟨t,rfl⟩:=r1;obtain⟨t',rfl⟩:=r2;exact iadd_int ⟨.int _,H,I.tok _,⟨_,rfl⟩,q⟩
end
section
variable{X:Cx}
def Xw0(c:TT)(tb:TS):TS:=λD σ H=>∃W:Nat->St->Hp->Prop,(∃m,W m σ H)/\∀m σ H,W m σ H ->
 c σ H λb H1=>if b=true then ∃N:St->Hp->Prop,(∀σ' H',N σ' H'->∃m',m'<m/\W m' σ' H')/\tb { D with nx:=N,ct:=N,bk:=D.nx } σ H1 else D.nx σ H1
theorem dr0{tc:TT}{tb:TS}(hp:PassesOwn (model X.prog X.w) X.A X.env X.xe)(hc:PT X c tc)(hb:PSs X body tb):PS X (.While c body [] pos) (Xw0 tc tb):=by
 intro pins s σ H D I h;obtain⟨W,⟨m0,w0⟩,turn⟩:=h;refine wpAny_While (codeAny_whileLoop (λn s'=>∃σ' H',Inv X pins σ' H' s'/\W n σ' H') ?_ m0 ⟨σ,H,I,w0⟩);rintro n s1 ⟨σ1,H1,I1,w1⟩;refine L7 hp (thn (hc pins s1 σ1 H1 _ I1 (turn n σ1 H1 w1)) λb s2 ⟨H2,I2,q2⟩=>?_);cases b with
 | true =>
  obtain⟨N,hN,q2⟩:=q2;rw[if_pos rfl];refine L7 hp (thn (hb pins s2 σ1 H2 _ I2 q2) λf s3 q3=>?_);cases f with
  | next =>
   obtain⟨σ3,H3,I3,n3⟩:=q3;obtain⟨m',hm,w3⟩:=hN σ3 H3 n3;exact⟨m',hm,σ3,H3,I3,w3⟩
  | cont =>
   obtain⟨σ3,H3,I3,n3⟩:=q3;obtain⟨m',hm,w3⟩:=hN σ3 H3 n3;exact⟨m',hm,σ3,H3,I3,w3⟩
  | brk=>exact q3
  | ret v=>exact q3
 | false =>
  rw[if_neg B0];exact x4 ⟨σ1,H2,I2,q2⟩
end
structure It where
 go:Nat->Hp->Prop
 yld:Nat->Hp->V->Hp->Prop
 stop:Nat->Hp->Prop
def vm0(X:Cx)(pins:List (Addr×Obj))(H:Hp)(b:Addr):Prop :=
 H b=none/\b≠X.env.locals/\b∉X.fs/\(b∈X.ex∨X.s₀.heap.objs.size<=b)/\(∀x c,X.env.cells.lookup x=some c->c≠b)/\∀p∈X.pn++pins,p.1≠b
theorem Inv.fpOk{X:Cx}{σ:St}{s:Shared}{b:Addr}(I:Inv X pins σ H s)(hb:s.heap.objs.size<=b)(hn:H' b=none):vm0 X pins H' b:=by
 refine⟨hn,B9 (B1 I.lt hb),I.nofs hb,.inr (B7 I.sz hb),λx c e z=>?_,λp hp z=>?_⟩
 ·obtain⟨v,q⟩:=I.cell x c e
  exact absurd (B1 q.lt (by rw[z];exact hb)) (D4 _)
 ·exact absurd (B1 (A3 (I.pin p hp).1) (by rw[z];exact hb)) (D4 _)
structure Turn(P:Program)(w:World)(K:W.Frag)(tg:Expr)(J:It)(fp:List Addr)(it:Addr)(tn:Nat->Heap->Prop):Prop where
 mem:it∈fp
 obj:∀i h,tn i h->∀b∈fp,∃o,h.get? b=some o/\∀v,o.data≠.cell v
 keep:∀i h h',tn i h->(∀b∈fp,∀o,h.get? b=some o->h'.get? b=some o)->tn i h'
 item:∀(X:Cx),X.prog=P->X.w=w->X.K=K->X.calm=true->∀(i:Nat) (pins:List (Addr×Obj)) (s:Shared) (σ:St) (H:Hp) (E:Value->Shared->Prop),Inv X pins σ H s->(∀b∈fp,vm0 X pins H b)->tn i s.heap->J.go i H ->
  wpAny (model P w) X.A (pyNext (.ref it)) (λr s1=>∃u,r=some u /\
   wpAny (model P w) X.A (letOwnedTupleGo tg (.ref it) u) (λ_ s2=>∃x H',Inv X pins σ H' s2/\RelV x u/\J.yld i H x H'/\tn (i+1) s2.heap/\∀b∈fp,H' b=none) E s1) E s
 done:∀(X:Cx),X.prog=P->X.w=w->X.K=K->X.calm=true->∀(i:Nat) (pins:List (Addr×Obj)) (s:Shared) (σ:St) (H:Hp) (E:Value->Shared->Prop),Inv X pins σ H s->(∀b∈fp,vm0 X pins H b)->tn i s.heap->J.stop i H ->
  wpAny (model P w) X.A (pyNext (.ref it)) (λr s1=>r=none/\Inv X pins σ H s1) E s
 self:∀(A:Around) (i:Nat) (s:Shared) (Q:Value->Shared->Prop) (E:Value->Shared->Prop),tn i s.heap->Q (.ref it) s->wpAny (model P w) A (pyIter (.ref it)) Q E s
abbrev TI:=St->Hp->(It->Hp->Prop)->Prop
def PIE(X:Cx)(pins:List (Addr×Obj))(σ:St)(tg:Expr)(R:It->Hp->Prop)(itv:Value)(s2:Shared):Prop :=
 ∃(it:Addr) (fp:List Addr) (tn:Nat->Heap->Prop) (J:It) (H':Hp),itv=.ref it/\Inv X pins σ H' s2/\Turn X.prog X.w X.K tg J fp it tn/\tn 0 s2.heap/\(∀b∈fp,vm0 X pins H' b)/\R J H'
def PI(X:Cx)(tg iter:Expr)(wi:TI):Prop :=
 ∀(pins:List (Addr×Obj)) (s:Shared) (σ:St) (H:Hp) (R:It->Hp->Prop),Inv X pins σ H s->wi σ H R ->
  wpAny (model X.prog X.w) X.A (eval iter X.env) (λv s1=>wpAny (model X.prog X.w) X.A (pyIter v) (PIE X pins σ tg R) X.xe s1) X.xe s
theorem gb0{M:Model}{A:Around}{E:Value->Shared->Prop}{s:Shared}{tg:Expr}{u:Value}{o:Obj}{n:String}{vs:Array Value}{Q:Unit->Shared->Prop}(ho:s.heap.get? it=some o)(hc:o.cls=.type n)(hd:o.data=.fields vs)
  (hn:["enumerate", "zip", "dict_itemiterator", "dict_reverseitemiterator", "odict_iterator", "itertools.zip_longest", "itertools.pairwise"].contains n=false) (hQ:Q () s):wpAny M A (letOwnedTupleGo tg (.ref it) u) Q E s:=by
 unfold letOwnedTupleGo;cases tg<;>first
  | exact A1 hQ
  | (cases u<;>first
    | exact A1 hQ
    | (refine A0 (wpAny_load ho ?_)
       rw[hc,hd];show wpAny M A (if (["enumerate", "zip", "dict_itemiterator", "dict_reverseitemiterator", "odict_iterator", "itertools.zip_longest", "itertools.pairwise"].contains n&&vs[0]?==some (rawInt _))=true then _ else _) Q E s;rw[if_neg (by intro h;rw[hn,Bool.false_and] at h;cases h)];exact A1 hQ))
def Itl(K:W.Frag)(a:Addr):It :=
 ⟨λi H=>∃xs x,SqL K H a xs/\xs[i]?=some x,λi H x H'=>H'=H/\∀xs,SqL K H a xs->xs[i]?=some x,λi H=>∃xs,SqL K H a xs/\xs.length<=i⟩
def Itt(K:W.Frag)(a:Addr):It :=
 ⟨λi H=>∃xs x,SqT K H a xs/\xs[i]?=some x,λi H x H'=>H'=H/\∀xs,SqT K H a xs->xs[i]?=some x,λi H=>∃xs,SqT K H a xs/\xs.length<=i⟩
def Itr(lo:Int)(n:Nat):It:=⟨λi _=>i<n,λi H x H'=>H'=H/\x=.int (lo+i),λi _=>n<=i⟩
theorem d20{P:Program}{w:World}{tg:Expr}(a it:Addr):Turn P w K tg (Itl K a) [it] it (λi h=>h.IsListIter it a i) where
 mem:=by simp
 obj:=λi h st b hb=>by
  have e:b=it:=by simpa using hb
  subst e;obtain⟨o,e,c,d⟩:=st;exact⟨o,e,λv z=>by rw[d] at z;cases z⟩
 keep:=λi h h' st k=>st.at λo e=>k it (by simp) o e
 item:=by
  intro X hP hw hK hc i pins s σ H E I hf st hg;subst hP hw hK;obtain⟨xs,x,hq,hx⟩:=hg;obtain⟨its,rv,p,hz⟩:=I.list hq;obtain⟨u,hu,ru⟩:=rv.get hx;obtain⟨f0,f1,f2,f3,f4,f5⟩:=hf it (by simp);refine B30 st p.isList (x:=u) (by simpa using hu) λh' st' sb=>?_
  have I1:Inv X pins σ H { s with heap:=h' }:=I.turned (t':=s.toks) (λb o hb e=>(sb.2 b hb).trans e) f0 f1 f3 f4 f5;obtain⟨o,e,c,d⟩:=id st';exact⟨u,rfl,gb0 (s:={ s with heap:=h' }) e c d (by decide) ⟨x,H,I1,ru,⟨rfl,λys hy=>by rw[I.list_inj hy hq];exact hx⟩,st',λb hb=>(hf b hb).1⟩⟩
 done:=by
  intro X hP hw hK hc i pins s σ H E I hf st hg;subst hP hw hK;obtain⟨xs,hq,hx⟩:=hg;obtain⟨its,rv,p,hz⟩:=I.list hq;obtain⟨f0,f1,f2,f3,f4,f5⟩:=hf it (by simp);have hl:=rv.length;exact wpAny_pyNext_list_end (I.ok.hd hc) st p.isList (by simp;omega) λh' eb=>⟨rfl,I.turned (t':=s.toks) (λb o hb e=>eb b o hb e) f0 f1 f3 f4 f5⟩
 self:=λ_ _ _ _ _ st h=>wpAny_pyIter_listiter st h
theorem gc0{P:Program}{w:World}{tg:Expr}(a it:Addr):Turn P w K tg (Itt K a) [it] it (λi h=>h.IsTupleIter it a i) where
 mem:=by simp
 obj:=λi h st b hb=>by
  have e:b=it:=by simpa using hb
  subst e;obtain⟨o,e,c,d⟩:=st;exact⟨o,e,λv z=>by rw[d] at z;cases z⟩
 keep:=λi h h' st k=>st.at λo e=>k it (by simp) o e
 item:=by
  intro X hP hw hK hc i pins s σ H E I hf st hg;subst hP hw hK;obtain⟨xs,x,hq,hx⟩:=hg;obtain⟨its,rv,p,hz⟩:=I.tuple hq;obtain⟨u,hu,ru⟩:=rv.get hx;obtain⟨f0,f1,f2,f3,f4,f5⟩:=hf it (by simp);refine wpAny_pyNext_tuple_item st (show s.heap.IsTuple a its.toArray from p) (x:=u) (by simpa using hu) λh' st' sb=>?_
  have I1:Inv X pins σ H { s with heap:=h' }:=I.turned (t':=s.toks) (λb o hb e=>(sb.2 b hb).trans e) f0 f1 f3 f4 f5;obtain⟨o,e,c,d⟩:=id st';exact⟨u,rfl,gb0 (s:={ s with heap:=h' }) e c d (by decide) ⟨x,H,I1,ru,⟨rfl,λys hy=>by rw[I.tuple_inj hy hq];exact hx⟩,st',λb hb=>(hf b hb).1⟩⟩
 done:=by
  intro X hP hw hK hc i pins s σ H E I hf st hg;subst hP hw hK;obtain⟨xs,hq,hx⟩:=hg;obtain⟨its,rv,p,hz⟩:=I.tuple hq;obtain⟨f0,f1,f2,f3,f4,f5⟩:=hf it (by simp);have hl:=rv.length;exact wpAny_pyNext_tuple_end (I.ok.hd hc) st (show s.heap.IsTuple a its.toArray from p) (by simp;omega) λh' eb=>⟨rfl,I.turned (t':=s.toks) (λb o hb e=>eb b o hb e) f0 f1 f3 f4 f5⟩
 self:=λ_ _ _ _ _ st h=>wpAny_pyIter_tupleiter st h
theorem g80{P:Program}{w:World}{tg:Expr}(it:Addr)(lo:Int)(n:Nat):Turn P w K tg (Itr lo n) [it] it (λi h=>IsRangeIter h it (lo+(i:Nat)*1) ((n:Int) - (i:Nat)) 1) where
 mem:=by simp
 obj:=λi h st b hb=>by
  have e:b=it:=by simpa using hb
  subst e;exact⟨_,st,λv z=>by
   have z':Data.fields _=Data.cell v:=z;cases z'⟩
 keep:=λi h h' st k=>k it (by simp) _ st
 item:=by
  intro X hP hw hK hc i pins s σ H E I hf st hg;subst hP hw hK;obtain⟨f0,f1,f2,f3,f4,f5⟩:=hf it (by simp);have W:=Walks.range (prog:=X.prog) (w:=X.w) (I.ok.hd hc) it lo 1 n;refine W.item i s _ _ hg st λv h' tk hv st' kk=>?_
  obtain⟨t,rfl⟩:=hv;have I1:Inv X pins σ H { s with heap:=h',toks:=tk }:=I.turned (λb o hb e=>kk b o (by simpa using hb) e) f0 f1 f3 f4 f5;refine⟨_,rfl,gb0 (s:={ s with heap:=h',toks:=tk }) (n := "range_iterator") st' rfl rfl (by decide) ⟨.int (lo+i),H,I1,⟨t,?_⟩,⟨rfl,rfl⟩,st',λb hb=>(hf b hb).1⟩⟩;rw[Int.mul_one]
 done:=by
  intro X hP hw hK hc i pins s σ H E I hf st hg;subst hP hw hK;obtain⟨f0,f1,f2,f3,f4,f5⟩:=hf it (by simp);exact wpAny_pyNext_range_end (I.ok.hd hc) st (by have:n<=i:=hg;omega) λh' eb=>⟨rfl,I.turned (t':=s.toks) (λb o hb e=>eb b o hb e) f0 f1 f3 f4 f5⟩
 self:=λ_ _ _ _ _ st h=>wpAny_pyIter_rangeiter st h
section
variable{X:Cx}{tg:Expr}
def Uu0(K:W.Frag)(tl:TE):TI:=fun σ H R=>tl σ H λx H1=>∃a,x=.ref a/\(∃xs,SqL K H1 a xs)/\R (Itl K a) H1
def Th0(K:W.Frag)(tl:TE):TI:=fun σ H R=>tl σ H λx H1=>∃a,x=.ref a/\(∃xs,SqT K H1 a xs)/\R (Itt K a) H1
theorem ae0{l:Expr}{tl:TE}(hl:PE X l tl):PI X tg l (Uu0 X.K tl):=by
 intro pins s σ H R I h;refine thn (hl pins s σ H _ I h) λv s1 ⟨x,H1,I1,r1,q1⟩=>?_
 obtain⟨a,e,⟨xs,hq⟩,q⟩:=q1;subst e;cases r1;obtain⟨its,rv,p,hz⟩:=I1.list hq;refine i4 p.isList ?_;refine⟨s1.heap.objs.size,[s1.heap.objs.size],_,_,H1,rfl,I1.kept (t':=s1.toks) λb o e=>A7 _ e,d20 a _,⟨_,B3 _ rfl,rfl,rfl⟩,λb hb=>?_,q⟩;have e:b=s1.heap.objs.size:=by simpa using hb
 subst e;exact I1.fpOk (A2 _) (I1.hok.fresh (A2 _))
theorem V40{l:Expr}{tl:TE}(hl:PE X l tl):PI X tg l (Th0 X.K tl):=by
 intro pins s σ H R I h;refine thn (hl pins s σ H _ I h) λv s1 ⟨x,H1,I1,r1,q1⟩=>?_
 obtain⟨a,e,⟨xs,hq⟩,q⟩:=q1;subst e;cases r1;obtain⟨its,rv,p,hz⟩:=I1.tuple hq;refine wpAny_pyIter_tuple (show s1.heap.IsTuple a its.toArray from p) ?_;refine⟨s1.heap.objs.size,[s1.heap.objs.size],_,_,H1,rfl,I1.kept (t':=s1.toks) λb o e=>A7 _ e,gc0 a _,⟨_,B3 _ rfl,rfl,rfl⟩,λb hb=>?_,q⟩;have e:b=s1.heap.objs.size:=by simpa using hb
 subst e;exact I1.fpOk (A2 _) (I1.hok.fresh (A2 _))
theorem k30{σ:St}{s:Shared}{R:It->Hp->Prop}{E:Value->Shared->Prop}{lo hi:Int}{t u v:Tok}{tk:Nat}(I:Inv X pins σ H s)(h1:-(2 ^ 62)<=lo)(h2:lo<2 ^ 62)(h3:-(2 ^ 62)<=hi)(h4:hi<2 ^ 62)
  (q:R (Itr lo (hi - lo).toNat) H):wpAny (model X.prog X.w) X.A (pyIter (.ref s.heap.objs.size)) (PIE X pins σ tg R) E { s with heap:=s.heap.push { cls:=.type "range",data:=.fields #[.int lo t,.int hi u,.int 1 v] },toks:=tk }:=by
 refine wpAny_pyIter_range (IsRange.new ..) (small_one h1 h2 h3 h4) ?_;have I1:Inv X pins σ H { s with heap:=s.heap.push { cls:=.type "range",data:=.fields #[.int lo t,.int hi u,.int 1 v] },toks:=tk }:=I.kept λb o e=>A7 _ e
 refine⟨(s.heap.push { cls:=.type "range",data:=.fields #[.int lo t,.int hi u,.int 1 v] }).objs.size,[(s.heap.push { cls:=.type "range",data:=.fields #[.int lo t,.int hi u,.int 1 v] }).objs.size],_,_,H,rfl,
  I1.kept (t':=tk) λb o e=>A7 _ e,g80 _ lo (hi - lo).toNat,?_,λb hb=>?_,q⟩
 ·have e1:lo+((0:Nat):Int)*1=lo:=by simp
  have e2:(((hi - lo).toNat:Nat):Int) - ((0:Nat):Int)=Builtin.Range.rangeSize lo hi 1:=by rw[rangeSize_one];split<;>omega
  show IsRangeIter _ _ (lo+((0:Nat):Int)*1) ((((hi - lo).toNat:Nat):Int) - ((0:Nat):Int)) 1;rw[e1,e2];exact B3 _ rfl
 ·have e:b=(s.heap.push { cls:=.type "range",data:=.fields #[.int lo t,.int hi u,.int 1 v] }).objs.size:=by simpa using hb
  subst e;exact I1.fpOk (A2 _) (I1.hok.fresh (A2 _))
def U10(ta:TA):TI:=fun σ H R=>ta σ H λvs H1=>∃j:Int,vs=[.int j]/\-(2 ^ 62)<=j/\j<2 ^ 62/\R (Itr 0 j.toNat) H1
def Vp0(ta:TA):TI:=fun σ H R=>ta σ H λvs H1=>∃i j:Int,vs=[.int i,.int j]/\(-(2 ^ 62)<=i/\i<2 ^ 62/\-(2 ^ 62)<=j/\j<2 ^ 62)/\R (Itr i (j - i).toNat) H1
theorem ek0{a:Expr}{ta:TA}(hg:Gl X "range")(hm:X.mg "range"=none)(ha:PA X [a] ta)(hs:starEach [a] X.env=[(false,eval a X.env)]:=by rfl):PI X tg (.Call (.Name "range" p) [a] [] pos) (U10 ta):=by
 intro pins s σ H R I h;refine Call_ (zq0 I hg hm boot_range (E1 (thn (ha pos pins s σ H _ I h) λus s1 ⟨vs,H1,I1,r1,q1⟩=>?_) hs rfl));obtain⟨j,e,q1,q2,q⟩:=q1;subst e;cases r1 with
 | cons r rr =>
  cases rr;obtain⟨t,rfl⟩:=r;exact call_range_1 (k30 I1 (by omega) (by omega) q1 q2 (by simpa using q))
theorem ed0{a:Expr}{ta:TA}{p pos:Pos}(hg:Gl X "range")(hm:X.mg "range"=none)(ha:PA X [a,b] ta)(hs:starEach [a,b] X.env=[(false,eval a X.env),(false,eval b X.env)]:=by rfl)(hs2:starEach [b] X.env=[(false,eval b X.env)]:=by rfl) :
  PI X tg (.Call (.Name "range" p) [a,b] [] pos) (Vp0 ta):=by
 intro pins s σ H R I h;refine Call_ (zq0 I hg hm boot_range (E1 (thn (ha pos pins s σ H _ I h) λus s1 ⟨vs,H1,I1,r1,q1⟩=>?_) (by rw[hs,hs2]) (by rw[hs2];rfl)));obtain⟨i,j,e,⟨q1,q2,q3,q4⟩,q⟩:=q1;subst e;cases r1 with
 | cons r rr =>
  cases rr with
  | cons r' rr =>
   cases rr;obtain⟨t,rfl⟩:=r;obtain⟨t',rfl⟩:=r';exact call_range_2 (k30 I1 q1 q2 q3 q4 q)
def Tx0(wi:TI)(g:TG)(tb:TS):TS:=λD σ H=>wi σ H λJ H1=>∃W:Nat->Nat->St->Hp->Prop,(∃m,W 0 m σ H1)/\∀i m σ H,W i m σ H ->
 (J.stop i H/\D.nx σ H)∨(J.go i H/\∃N:St->Hp->Prop,(∀σ' H',N σ' H'->∃m',m'<m/\W (i+1) m' σ' H')/\∀x H',J.yld i H x H'->g x σ H' fun σ2 H2=>tb { D with nx:=N,ct:=N,bk:=D.nx } σ2 H2)
def sf0(fp:List Addr)(h:Heap):List (Addr×Obj):=fp.filterMap λb=>(h.get? b).map λo=>(b,o)
theorem v80{h:Heap}{b:Addr}{o:Obj}(hb:b∈fp)(e:h.get? b=some o):(b,o)∈sf0 fp h:=i5.mpr ⟨b,hb,by rw[e];rfl⟩
theorem ei0{h:Heap}{p:Addr×Obj}(hp:p∈sf0 fp h):p.1∈fp/\h.get? p.1=some p.2:=by
 obtain⟨b,hb,e⟩:=i5.mp hp;cases q:h.get? b with
 | none=>rw[q] at e;cases e
 | some o =>
  rw[q] at e;have e':(b,o)=p:=B6 e;subst e';exact⟨hb,q⟩
theorem Inv.pinned{σ:St}{s:Shared}(I:Inv X pins σ H s)(hf:∀b∈fp,vm0 X pins H b)(ho:∀b∈fp,∃o,s.heap.get? b=some o/\∀v,o.data≠.cell v):Inv X (pins++sf0 fp s.heap) σ H s :=
 I.pins_of λp hp=>(B8.mp hp).elim (λz=>I.pin p (E2 _ z)) λz=>by
  obtain⟨hb,e⟩:=ei0 z;obtain⟨f0,f1,f2,_⟩:=hf p.1 hb;obtain⟨o,e',d⟩:=ho p.1 hb;rw[e] at e';cases e';exact⟨e,f0,f1,f2,d⟩
theorem Inv.unpinned{pl:List (Addr×Obj)}{σ:St}{s:Shared}(I:Inv X (pins++pl) σ H s):Inv X pins σ H s:=I.pins_of λp hp=>I.pin p (E2 _ (G0 _ hp))
theorem Yo0{wi:TI}{g:TG}{tb:TS}{pos:Pos}(hp:PassesOwn (model X.prog X.w) X.A X.env X.xe)(hc:X.calm=true)(hi:PI X tg iter wi)(hg:PG X tg g)(hb:PSs X body tb)
  (hs:∀x,foldedSetIterable iter X.env x=pure x:=by intro _;rfl):PS X (.For tg iter body [] pos) (Tx0 wi g tb):=by
 intro pins s σ H D I h;refine wpAny_For (thn (hi pins s σ H _ I h) λv s1 h1=>thn h1 λitv s2 h2=>?_) hs;obtain⟨it,fp,tn,J,H2,e,I2,T,st2,f2,W,⟨m0,w0⟩,turn⟩:=h2;subst e;have stat:∀{H':Hp},(∀b∈fp,H' b=none)->∀b∈fp,vm0 X pins H' b:=λhn b hb=>⟨hn b hb,(f2 b hb).2⟩
 refine codeAny_forLoop_any (λn s'=>∃i σ' H',Inv X pins σ' H' s'/\tn i s'.heap/\(∀b∈fp,H' b=none)/\W i n σ' H') ?_ m0 ⟨0,σ,H2,I2,st2,λb hb=>(f2 b hb).1,w0⟩;rintro n s3 ⟨i,σ3,H3,I3,st3,fr3,w3⟩;rcases turn i n σ3 H3 w3 with⟨stop,qn⟩|⟨go,N,hN,step⟩
 ·refine L7 hp (thn (T.done X rfl rfl rfl hc i pins s3 σ3 H3 X.xe I3 (stat fr3) st3 stop) λr s4 ⟨hr,I4⟩=>?_)
  subst hr;exact x4 ⟨σ3,H3,I4,qn⟩
 ·refine L7 hp (thn (T.item X rfl rfl rfl hc i pins s3 σ3 H3 X.xe I3 (stat fr3) st3 go) λr s4 ⟨u,hr,h4⟩=>?_)
  subst hr;refine L7 hp (thn h4 λ_ s5 ⟨x,H5,I5,r5,y5,st5,fr5⟩=>?_);have I5':=I5.pinned (stat fr5) (T.obj _ _ st5);refine L7 hp (thn (hg _ s5 σ3 H5 x u _ I5' r5 (step x H5 y5)) λ_ s6 ⟨σ6,H6,I6,q6⟩=>?_);refine L7 hp (thn (hb _ s6 σ6 H6 _ I6 q6) λf s7 q7=>?_);have again:∀{σ7:St} {H7:Hp},Inv X (pins++sf0 fp s5.heap) σ7 H7 s7->N σ7 H7->∃m,m<n/\∃i σ' H',Inv X pins σ' H' s7/\tn i s7.heap/\(∀b∈fp,H' b=none)/\W i m σ' H':=λ{σ7 H7} I7 n7=>by
   obtain⟨m',hm,w7⟩:=hN σ7 H7 n7;refine⟨m',hm,i+1,σ7,H7,I7.unpinned,T.keep _ _ _ st5 λb hb o e=>(I7.pin (b,o) (E2 _ (E2 _ (v80 hb e)))).1,λb hb=>?_,w7⟩;obtain⟨o,e,d⟩:=T.obj _ _ st5 b hb;exact(I7.pin (b,o) (E2 _ (E2 _ (v80 hb e)))).2.1
  cases f with
  | next=>obtain⟨σ7,H7,I7,n7⟩:=q7;exact again I7 n7
  | cont=>obtain⟨σ7,H7,I7,n7⟩:=q7;exact again I7 n7
  | brk=>obtain⟨σ7,H7,I7,q7⟩:=q7;exact⟨σ7,H7,I7.unpinned,q7⟩
  | ret v=>obtain⟨x7,σ7,H7,I7,r7,q7⟩:=q7;exact⟨x7,σ7,H7,I7.unpinned,r7,q7⟩
end
abbrev R2:=V->V->Hp->VK->Prop
def OpR(X:Cx)(f:Value->Value->Sem Value)(r:R2):Prop :=
 ∀(pins:List (Addr×Obj)) (s:Shared) (σ:St) (H:Hp) (x y:V) (v u:Value) (Q:VK),Inv X pins σ H s->RelV x v->RelV y u->r x y H Q ->
  wpAny (model X.prog X.w) X.A (f v u) (EP X pins σ Q) X.xe s
def UnR(X:Cx)(f:Value->Sem Value)(r:V->Hp->VK->Prop):Prop :=
 ∀(pins:List (Addr×Obj)) (s:Shared) (σ:St) (H:Hp) (x:V) (v:Value) (Q:VK),Inv X pins σ H s->RelV x v->r x H Q ->
  wpAny (model X.prog X.w) X.A (f v) (EP X pins σ Q) X.xe s
def CallR(X:Cx)(f:Value)(r:List V->Hp->VK->Prop):Prop :=
 ∀(pins:List (Addr×Obj)) (s:Shared) (σ:St) (H:Hp) (xs:List V) (us:List Value) (Q:VK),Inv X pins σ H s->Vals xs us->r xs H Q ->
  wpAny (model X.prog X.w) X.A (call f us) (EP X pins σ Q) X.xe s
def tOp(r:R2)(ta tb:TE):TE:=fun σ H Q=>ta σ H λx H1=>tb σ H1 λy H2=>r x y H2 Q
def tUn(r:V->Hp->VK->Prop)(ta:TE):TE:=fun σ H Q=>ta σ H λx H1=>r x H1 Q
def rI(C:Int->Int->Prop)(g:Int->Int->V):R2:=λx y H Q=>∃i j,x=.int i/\y=.int j/\C i j/\Q (g i j) H
def rI0(g:Int->Int->V):R2:=λx y H Q=>∃i j,x=.int i/\y=.int j/\Q (g i j) H
def rU(g:Int->V):V->Hp->VK->Prop:=λx H Q=>∃i,x=.int i/\Q (g i) H
section
variable{X:Cx}{a:Expr}{tc:TE}
theorem b80(ha:PE X a ta)(hb:PE X b tb){s:Shared}{σ:St}{R:V->V->Hp->Prop}(I:Inv X pins σ H s)
  (h:ta σ H λx H1=>tb σ H1 λy H2=>R x y H2) {Q:Value->Shared->Prop} {f:Value->Value->Sem Value}
  (hf:∀v u s2 x y H2,Inv X pins σ H2 s2->RelV x v->RelV y u->R x y H2->wpAny (model X.prog X.w) X.A (f v u) Q X.xe s2) :
  wpAny (model X.prog X.w) X.A (eval a X.env) (λv s₁=>wpAny (model X.prog X.w) X.A (eval b X.env) (λu s₂=>wpAny (model X.prog X.w) X.A (f v u) Q X.xe s₂) X.xe s₁) X.xe s:=by
 refine thn (ha pins s σ H _ I h) λv s1 ⟨x,H1,I1,r1,q1⟩=>?_
 refine thn (hb pins s1 σ H1 _ I1 q1) λu s2 ⟨y,H2,I2,r2,q2⟩=>?_
 exact hf v u s2 x y H2 I2 r1 r2 q2
theorem U90{op:Operator}{r:R2}(ho:OpR X (binaryOp op) r)(ha:PE X a ta)(hb:PE X b tb):PE X (.BinOp a op b pos) (tOp r ta tb):=by
 intro pins s σ H Q I h;exact wpAny_BinOp (b80 ha hb I h λv u s2 x y H2 I2 rx ry q=>ho pins s2 σ H2 x y v u Q I2 rx ry q)
theorem Vg0{op:UnaryOp}{r:V->Hp->VK->Prop}(ho:UnR X (unaryOp op) r)(ha:PE X a ta):PE X (.UnaryOp op a pos) (tUn r ta):=by
 intro pins s σ H Q I h;exact UnaryOp_ (thn (ha pins s σ H _ I h) λv s1 ⟨x,H1,I1,r1,q1⟩=>ho pins s1 σ H1 x v Q I1 r1 q1)
theorem opI{f:Value->Value->Sem Value}{C:Int->Int->Prop}{g:Int->Int->Int}
  (rule:∀(i j:Int) (t u:Tok) (s:Shared) (Q:Value->Shared->Prop) (E:Value->Shared->Prop),C i j->Q (.int (g i j) s.toks) { s with toks:=s.toks+1 }->wpAny (model X.prog X.w) X.A (f (.int i t) (.int j u)) Q E s) :
  OpR X f (rI C λi j=>.int (g i j)):=by
 intro pins s σ H x y v u Q I rx ry h;obtain⟨i,j,rfl,rfl,hc,q⟩:=h;obtain⟨t,rfl⟩:=rx;obtain⟨t',rfl⟩:=ry;exact rule i j t t' s _ _ hc ⟨.int (g i j),H,I.tok _,⟨_,rfl⟩,q⟩
theorem Ys0{f:Value->Value->Sem Value}{g:Int->Int->Int}
  (rule:∀(i j:Int) (t u:Tok) (s:Shared) (Q:Value->Shared->Prop) (E:Value->Shared->Prop),Q (.int (g i j) s.toks) { s with toks:=s.toks+1 }->wpAny (model X.prog X.w) X.A (f (.int i t) (.int j u)) Q E s) :
  OpR X f (rI0 λi j=>.int (g i j)):=by
 intro pins s σ H x y v u Q I rx ry h;obtain⟨i,j,rfl,rfl,q⟩:=h;obtain⟨t,rfl⟩:=rx;obtain⟨t',rfl⟩:=ry;exact rule i j t t' s _ _ ⟨.int (g i j),H,I.tok _,⟨_,rfl⟩,q⟩
theorem Xa0{f:Value->Value->Sem Value}{g:Int->Int->Bool}
  (rule:∀(i j:Int) (t u:Tok) (s:Shared) (Q:Value->Shared->Prop) (E:Value->Shared->Prop),Q (.bool (g i j)) s->wpAny (model X.prog X.w) X.A (f (.int i t) (.int j u)) Q E s) :
  OpR X f (rI0 λi j=>.bl (g i j)):=by
 intro pins s σ H x y v u Q I rx ry h;obtain⟨i,j,rfl,rfl,q⟩:=h;obtain⟨t,rfl⟩:=rx;obtain⟨t',rfl⟩:=ry;exact rule i j t t' s _ _ ⟨.bl (g i j),H,I,rfl,q⟩
def c00(i j:Int):Prop:=0<j/\j<1073741824
def ce0(i j:Int):Prop:=0<=j/\j<=1000000/\i.natAbs<2 ^ 64
def CMul(i j:Int):Prop:=(-(2 ^ 64)<i/\i<2 ^ 64)∨(-(2 ^ 64)<j/\j<2 ^ 64)
theorem CMul.ok{i j:Int}(h:CMul i j):IntMulOk i j:=by
 rcases h with⟨h1,h2⟩|⟨h1,h2⟩
 ·exact .of_left (intBits_le_64 h1 h2)
 ·exact .of_right (intBits_le_64 h1 h2)
theorem Xl0:OpR X (binaryOp .Add) (rI0 λi j=>.int (i+j)):=Ys0 λ_ _ _ _ _ _ _ q=>add_int q
theorem W90:OpR X (binaryOp .Sub) (rI0 λi j=>.int (i - j)):=Ys0 λ_ _ _ _ _ _ _ q=>sub_int q
theorem V20:OpR X (binaryOp .Mult) (rI CMul λi j=>.int (i*j)):=opI λ_ _ _ _ _ _ _ hc q=>mul_int q hc.ok
theorem Z40:OpR X (binaryOp .FloorDiv) (rI c00 λi j=>.int (i/j)):=opI λi j _ _ _ _ _ hc q=>by
 have h1:(0:Int)<j:=hc.1;have h2:j<1073741824:=hc.2;exact floordiv_int (by omega) (by rw[Int.fdiv_eq_ediv_of_nonneg i (by omega)];exact q) (.inl (PyProof.noPylong_small (by omega)))
theorem Wd0:OpR X (binaryOp .Mod) (rI (λ_ j=>0<j) λi j=>.int (i%j)):=opI λi j _ _ _ _ _ hc q=>by
 have h1:(0:Int)<j:=hc;exact mod_int' (by omega) (by rw[Int.fmod_eq_emod_of_nonneg i (by omega)];exact q)
theorem Xv0:OpR X (binaryOp .Pow) (rI ce0 λi j=>.int (i ^ j.toNat)):=opI λ_ _ _ _ _ _ _ hc q=>pow_int_small hc.1 hc.2.1 hc.2.2 q
theorem unI{f:Value->Sem Value}{g:Int->Int}
  (rule:∀(i:Int) (t:Tok) (s:Shared) (Q:Value->Shared->Prop) (E:Value->Shared->Prop),Q (.int (g i) s.toks) { s with toks:=s.toks+1 }->wpAny (model X.prog X.w) X.A (f (.int i t)) Q E s) :
  UnR X f (rU λi=>.int (g i)):=by
 intro pins s σ H x v Q I rx h;obtain⟨i,rfl,q⟩:=h;obtain⟨t,rfl⟩:=rx;exact rule i t s _ _ ⟨.int (g i),H,I.tok _,⟨_,rfl⟩,q⟩
theorem Wf0:UnR X (unaryOp .USub) (rU λi=>.int (-i)):=unI λ_ _ _ _ _ q=>neg_int q
end
def dt0:V->V->Bool
 | .non,.non=>true|.non,.int _=>true|.int _,.non=>true|.non,.bl _=>true|.bl _,.non=>true|.non,.str _=>true|.str _,.non=>true
 | .int _,.int _=>true|.bl _,.bl _=>true|.str _,.str _=>true|.byt _,.byt _=>true
 | .int _,.str _=>true|.str _,.int _=>true|.bl _,.str _=>true|.str _,.bl _=>true
 | _,_=>false
def rEq:R2:=λx y H Q=>dt0 x y=true/\Q (.bl (decide (x=y))) H
def rNe:R2:=λx y H Q=>dt0 x y=true/\Q (.bl (!decide (x=y))) H
theorem jg0{i j:Int}:decide (V.int i=V.int j)=(i==j):=by
 rw[Bool.eq_iff_iff];simp
theorem df0{i j:Bool}:decide (V.bl i=V.bl j)=(i==j):=by
 rw[Bool.eq_iff_iff];simp
theorem i90{i j:Str}:decide (V.str i=V.str j)=(i==j):=by
 rw[Bool.eq_iff_iff];simp
theorem it0{i j:Array UInt8}:decide (V.byt i=V.byt j)=(i.toList==j.toList):=by
 rw[Bool.eq_iff_iff];cases i;cases j;simp
section
variable{X:Cx}{a:Expr}{tc:TE}
theorem W2{σ:St}{s:Shared}{Q:VK}{k k':Bool}(I:Inv X pins σ H s)(q:Q (.bl k) H)(e:k=k'):EP X pins σ Q (.bool k') s:=by
 subst e;exact⟨.bl k,H,I,rfl,q⟩
theorem V7:OpR X (compareOp .Eq) rEq:=by
 intro pins s σ H x y v u Q I rx ry h;obtain⟨hs,q⟩:=h;cases x with
 | non =>
  cases rx;cases y with
  | non=>cases ry;exact PySem.EqNone.eq_none_none (W2 I q (by simp))
  | bl j=>cases ry;exact PySem.EqNone.eq_none_bool (W2 I q (by simp))
  | int j=>obtain⟨t',rfl⟩:=ry;exact PySem.EqNone.eq_none_int (W2 I q (by simp))
  | str j=>obtain⟨t',rfl⟩:=ry;exact PySem.EqNone.eq_none_str (W2 I q (by simp))
  | _=>exact absurd (show false=true from hs) B0
 | bl i =>
  cases rx;cases y with
  | non=>cases ry;exact PySem.EqNone.eq_bool_none (W2 I q (by simp))
  | bl j=>cases ry;exact eq_bool (W2 I q df0)
  | str j=>obtain⟨t',rfl⟩:=ry;exact PySem.EqMixed.eq_bool_str (W2 I q (by simp))
  | _=>exact absurd (show false=true from hs) B0
 | int i =>
  obtain⟨t,rfl⟩:=rx;cases y with
  | non=>cases ry;exact PySem.EqNone.eq_int_none (W2 I q (by simp))
  | int j=>obtain⟨t',rfl⟩:=ry;exact eq_int (W2 I q jg0)
  | str j=>obtain⟨t',rfl⟩:=ry;exact PySem.EqMixed.eq_int_str (W2 I q (by simp))
  | _=>exact absurd (show false=true from hs) B0
 | str i =>
  obtain⟨t,rfl⟩:=rx;cases y with
  | non=>cases ry;exact PySem.EqNone.eq_str_none (W2 I q (by simp))
  | bl j=>cases ry;exact PySem.EqMixed.eq_str_bool (W2 I q (by simp))
  | int j=>obtain⟨t',rfl⟩:=ry;exact PySem.EqMixed.eq_str_int (W2 I q (by simp))
  | str j=>obtain⟨t',rfl⟩:=ry;exact eq_str (W2 I q i90)
  | _=>exact absurd (show false=true from hs) B0
 | byt i =>
  obtain⟨t,rfl⟩:=rx;cases y with
  | byt j=>obtain⟨t',rfl⟩:=ry;exact W.eq_bytes (W2 I q it0)
  | _=>exact absurd (show false=true from hs) B0
 | _=>cases y<;>exact absurd (show false=true from hs) B0
theorem m70:OpR X (compareOp .NotEq) rNe:=by
 intro pins s σ H x y v u Q I rx ry h;obtain⟨hs,q⟩:=h;cases x with
 | non =>
  cases rx;cases y with
  | non=>cases ry;exact PySem.EqNone.ne_none_none (W2 I q (by simp))
  | bl j=>cases ry;exact PySem.EqNone.ne_none_bool (W2 I q (by simp))
  | int j=>obtain⟨t',rfl⟩:=ry;exact PySem.EqNone.ne_none_int (W2 I q (by simp))
  | str j=>obtain⟨t',rfl⟩:=ry;exact PySem.EqNone.ne_none_str (W2 I q (by simp))
  | _=>exact absurd (show false=true from hs) B0
 | bl i =>
  cases rx;cases y with
  | non=>cases ry;exact PySem.EqNone.ne_bool_none (W2 I q (by simp))
  | bl j=>cases ry;exact ne_bool (W2 I q (C9 not df0))
  | str j=>obtain⟨t',rfl⟩:=ry;exact PySem.EqMixed.ne_bool_str (W2 I q (by simp))
  | _=>exact absurd (show false=true from hs) B0
 | int i =>
  obtain⟨t,rfl⟩:=rx;cases y with
  | non=>cases ry;exact PySem.EqNone.ne_int_none (W2 I q (by simp))
  | int j=>obtain⟨t',rfl⟩:=ry;exact ne_int (W2 I q (C9 not jg0))
  | str j=>obtain⟨t',rfl⟩:=ry;exact PySem.EqMixed.ne_int_str (W2 I q (by simp))
  | _=>exact absurd (show false=true from hs) B0
 | str i =>
  obtain⟨t,rfl⟩:=rx;cases y with
  | non=>cases ry;exact PySem.EqNone.ne_str_none (W2 I q (by simp))
  | bl j=>cases ry;exact PySem.EqMixed.ne_str_bool (W2 I q (by simp))
  | int j=>obtain⟨t',rfl⟩:=ry;exact PySem.EqMixed.ne_str_int (W2 I q (by simp))
  | str j=>obtain⟨t',rfl⟩:=ry;exact ne_str (W2 I q (C9 not i90))
  | _=>exact absurd (show false=true from hs) B0
 | byt i =>
  obtain⟨t,rfl⟩:=rx;cases y with
  | byt j=>obtain⟨t',rfl⟩:=ry;exact W.ne_bytes (W2 I q (C9 not it0))
  | _=>exact absurd (show false=true from hs) B0
 | _=>cases y<;>exact absurd (show false=true from hs) B0
theorem rd0:OpR X (compareOp .Lt) (rI0 λi j=>.bl (decide (i<j))):=Xa0 λ_ _ _ _ _ _ _ q=>lt_int q
theorem Vq0:OpR X (compareOp .Gt) (rI0 λi j=>.bl (decide (j<i))):=Xa0 λ_ _ _ _ _ _ _ q=>gt_int q
theorem fg0:OpR X (compareOp .Is) (λx y H Q=>y=.non/\Q (.bl (decide (x=.non))) H):=by
 intro pins s σ H x y v u Q I rx ry h;obtain⟨rfl,q⟩:=h;cases ry;refine is_none_gen (W2 I q ?_);cases x<;>first
  | (cases rx;rfl)
  | (obtain⟨t,rfl⟩:=rx;rfl)
theorem OpR.or{f:Value->Value->Sem Value}{r r':R2}(h:OpR X f r)(h':OpR X f r'):OpR X f (λx y H Q=>r x y H Q∨r' x y H Q):=by
 intro pins s σ H x y v u Q I rx ry q;rcases q with q|q
 ·exact h pins s σ H x y v u Q I rx ry q
 ·exact h' pins s σ H x y v u Q I rx ry q
theorem d50(b:Expr){op:CmpOp}(h:op≠.In:=by decide)(h2:op≠.NotIn:=by decide):behindInMarks op b=false:=by
 have e1:(op==CmpOp.In)=false:=by cases op<;>first|rfl|exact absurd rfl h
 have e2:(op==CmpOp.NotIn)=false:=by cases op<;>first|rfl|exact absurd rfl h2
 cases b<;>simp[behindInMarks,e1,e2]
theorem Ye0{op:CmpOp}{r:R2}(ho:OpR X (compareOp op) r)(ha:PE X a ta)(hb:PE X b tb)(hm:behindInMarks op b=false):PE X (.Compare a [op] [b] pos) (tOp r ta tb):=by
 intro pins s σ H Q I h;exact wpAny_Compare1 (b80 ha hb I h λv u s2 x y H2 I2 rx ry q=>ho pins s2 σ H2 x y v u Q I2 rx ry q) hm
def Ub0(t:TE):TT:=fun σ H Q=>t σ H λx H'=>∃k,x=.bl k/\Q k H'
theorem Z80{op:CmpOp}{r:R2}(ho:OpR X (compareOp op) r)(ha:PE X a ta)(hb:PE X b tb)(hm:behindInMarks op b=false):PT X (.Compare a [op] [b] pos) (Ub0 (tOp r ta tb)):=by
 intro pins s σ H Q I h;refine wpAny_isTrue_Compare1 (thn (ha pins s σ H _ I h) λv s1 ⟨x,H1,I1,r1,q1⟩=>thn (hb pins s1 σ H1 _ I1 q1) λu s2 ⟨y,H2,I2,r2,q2⟩ =>
  thn (ho pins s2 σ H2 x y v u _ I2 r1 r2 q2) λc s3 ⟨z,H3,I3,r3,k,e,q3⟩=>?_) hm
 subst e;cases r3;exact L6 ⟨H3,I3,q3⟩
theorem vr0:(sizeLine:Nat)<2 ^ 63:=by rw[sizeLine_eq];decide
theorem h70:OpR X (binaryOp .Add) (λx y H Q=>∃i j,x=.str i/\y=.str j/\i.length+j.length<=sizeLine/\Q (.str (i++j)) H):=by
 intro pins s σ H x y v u Q I rx ry h;obtain⟨i,j,rfl,rfl,hz,q⟩:=h;obtain⟨t,rfl⟩:=rx;obtain⟨t',rfl⟩:=ry;exact add_str (λt' tk=>⟨.str (i++j),H,I.tok _,⟨_,rfl⟩,q⟩) hz
theorem vals1{x:V}(r:Vals [x] us):∃u,us=[u]/\RelV x u:=by
 cases r with
 | cons r1 r2=>cases r2;exact⟨_,rfl,r1⟩
theorem e00:CallR X (.type "int") (λxs H Q=>(∃i,xs=[.int i]/\Q (.int i) H)∨∃k,xs=[.bl k]/\Q (.int (if k then 1 else 0)) H):=by
 intro pins s σ H xs us Q I r h;rcases h with⟨i,rfl,q⟩|⟨k,rfl,q⟩
 ·obtain⟨u,rfl,t,rfl⟩:=vals1 r
  exact call_int_int ⟨.int i,H,I,⟨_,rfl⟩,q⟩
 ·obtain⟨u,rfl,r1⟩:=vals1 r
  cases r1;exact call_int_bool ⟨.int (if k then 1 else 0),H,I.tok _,⟨_,rfl⟩,q⟩
end
theorem RelO.some_of{v:V}{o:Option Value}(r:RelO (some v) o):∃u,o=some u/\RelV v u:=by
 cases o with
 | none=>exact(show False from r).elim
 | some u=>exact⟨u,rfl,r⟩
structure Room(k:Nat)(A:Around):Prop where
 hd:A.handled=none
 dp:A.depth+3*k+5<recursionLimit
 un:A.units+16*k+200<cLine
theorem Room.mono{k:Nat}(r:Room k A)(h:j<=k):Room j A:=⟨r.hd,by have:=r.dp;omega,by have:=r.un;omega⟩
theorem Room.deeper{k:Nat}(r:Room (k+1) A)(env:Env):Room k (A.deeper env) :=
 ⟨r.hd,by have:=r.dp;show A.depth+1+3*k+5<_;omega,by have:=r.un;show A.units+3+16*k+200<_;omega⟩
theorem Room.depth{k:Nat}(r:Room k A):A.depth<recursionLimit:=by have:=r.dp;omega
theorem Room.units{k:Nat}(r:Room k A):A.units+64<cLine:=by have:=r.un;omega
def T60:TA:=λ_ H Q=>Q [] H
def Um0(ta:TE)(tr:TA):TA:=fun σ H Q=>ta σ H λx H1=>tr σ H1 λxs H2=>Q (x::xs) H2
section
variable{X:Cx}{t:TA}
theorem y70:PA X [] T60:=λ_ _ _ _ H Q I h=>i6 ⟨[],H,I,.nil,h⟩
theorem J4(ha:PE X e te)(hr:PA X es t)(hs:starEach (e::es) X.env=(false,eval e X.env)::starEach es X.env:=by rfl):PA X (e::es) (Um0 te t):=by
 intro pos pins s σ H Q I h;rw[hs];show wpAny _ _ (spliced ((false,eval e X.env)::backTo pos (starEach es X.env))) _ _ s;refine i7 (thn (ha pins s σ H _ I h) λu s1 ⟨x,H1,I1,r1,q1⟩=>?_);exact thn (hr pos pins s1 σ H1 _ I1 q1) λus s2 ⟨xs,H2,I2,r2,q2⟩=>⟨x::xs,H2,I2,.cons r1 r2,q2⟩
def Tc0(t:TA):TE:=fun σ H Q=>t σ H λxs H1=>xs.length<=sizeLine/\∀p,H1 p=none->Q (.ref p) (upd H1 p (.tup xs))
def T20(t:TA):TE:=fun σ H Q=>t σ H λxs H1=>xs.length<=sizeLine/\∀p,H1 p=none->Q (.ref p) (upd H1 p (.lst xs))
theorem W10{x1}(h:PA X es t):PE X (.Tuple es x1 pos) (Tc0 t):=by
 intro pins s σ H Q I hq;refine wpAny_Tuple_spliced (thn (h pos pins s σ H _ I hq) λus s1 ⟨xs,H1,I1,r,z,q⟩=>⟨by rw[← r.length];exact z,?_⟩);have hf:H1 s1.heap.objs.size=none:=I1.hok.fresh (A2 _);refine⟨.ref s1.heap.objs.size,upd H1 s1.heap.objs.size (.tup xs),I1.laid (t':=s1.toks) (λb u e=>A7 _ e) (A2 _) ?_,rfl,q _ hf⟩;exact⟨z,us,r,⟨_,B3 _ rfl,rfl,_,rfl,rfl⟩⟩
theorem di0(h:PA X es t):PE X (.List es pos) (T20 t):=by
 intro pins s σ H Q I hq;refine wpAny_List_spliced (thn (h pos pins s σ H _ I hq) λus s1 ⟨xs,H1,I1,r,z,q⟩=>⟨by rw[← r.length];exact z,?_⟩);have hf:H1 s1.heap.objs.size=none:=I1.hok.fresh (A2 _);refine⟨.ref s1.heap.objs.size,upd H1 s1.heap.objs.size (.lst xs),I1.laid (t':=s1.toks) (λb u e=>A7 _ e) (A2 _) ?_,rfl,q _ hf⟩;exact⟨z,us,0,r,B3 _ rfl⟩
end
abbrev Sp:=List V->Hp->VK->XK->Prop
abbrev CXT:=List Env->Hp->Shared->XK->Value->Shared->Prop
variable{sp:L2.Sp}
structure Env0(P:Program)(w:World)(K:W.Frag)(mg:Str->Option Value)(base:Heap)(A:Around)(outer:List Env)(s:Shared)(H:Hp):Prop where
 frames:A.frames=some outer
 mod:Mod K mg base
 bs:∀b o,base.get? b=some o->s.heap.get? b=some o/\H b=none
 bsz:base.objs.size<=s.heap.objs.size
 funs:s.heap.FunFrames base outer
 frf:∀b∈frs outer,H b=none
 hok:HOk P w H s.heap
 bare:AllBare s.gens
variable{CX:L2.CXT}
def CE(outer:List Env)(P:Program)(w:World)(H:Hp)(s:Shared)(Q:VK)(u:Value)(s':Shared):Prop :=
 ∃v H',s'.os=s.os/\AllBare s'.gens/\Un (frs outer) [] H H' s.heap s'.heap/\HOk P w H' s'.heap/\RelV v u/\Q v H'
def CR(CX:CXT)(outer:List Env)(P:Program)(w:World)(H:Hp)(s:Shared)(Q:VK)(E:XK)(r:Result)(s':Shared):Prop :=
 match r with
 | .ok (.ret u)=>CE outer P w H s Q u s'
 | .ok _=>False
 | .error e=>CX outer H s E e s'
structure FnOk(P:Program)(w:World)(K:W.Frag)(mg:Str->Option Value)(base:Heap)(CX:CXT)(k:Nat)(f:Addr)(fd:FuncData)(ps:List Str)(sp:Sp):Prop where
 len:∀vs H Q E,sp vs H Q E->vs.length=ps.length
 run:∀(A:Around) (outer:List Env) (s:Shared) (H:Hp) (args:Args) (us:List Value) (vs:List V) (Q:VK) (E:XK),Room k A->Env0 P w K mg base A outer s H->BindsTo s fd args (ps.zip us)->Vals vs us->sp vs H Q E ->
  codeAny (model P w) A (.call (.ref f) args) (CR CX outer P w H s Q E) s
section
variable{X:Cx}{σ:St}{s:Shared}
theorem Inv.env0(I:Inv X pins σ H s):Env0 X.prog X.w X.K X.mg X.base X.A X.stack s H :=
 ⟨I.ok.frames,I.ok.mod,I.bs,B7 I.ok.bsz I.sz,I.stack,I.stkFree,I.hok,I.bare⟩
theorem Inv.after{Q:VK}(I:Inv X pins σ H s)(h:CE X.stack X.prog X.w H s Q u s'):EP X pins σ Q u s':=by
 obtain⟨v,H',os,bare,un,hok,r,q⟩:=h;obtain⟨hh,g,d,t,os'⟩:=s';obtain rfl:os'=s.os:=os;exact⟨v,H',I.call (h':=hh) (g':=g) (d':=d) (t':=t) (ch:=[]) un hok bare (λb z=>absurd z (by simp)),r,q⟩
end
def Vo0(sp:Sp)(dvs:List V)(E:XK)(t:TA):TE:=fun σ H Q=>t σ H λvs H1=>sp (vs++dvs) H1 Q E
def Binds(K:W.Frag)(fd:FuncData)(ps:List Str)(ds:List Value):Prop :=
 ∀(s:Shared) (us:List Value),K.In s.heap->(us++ds).length=ps.length->BindsTo s fd ⟨us,[]⟩ (ps.zip (us++ds))
theorem Binds.all{fd:FuncData}(h:∀us:List Value,us.length=ps.length->bindArgs fd ⟨us,[]⟩=pure (ps.zip us)):Binds K fd ps []:=λs us _ hl=>by
 rw[List.append_nil] at hl ⊢;exact .of_eq (h us hl)
def l00(CX:CXT)(X:Cx)(E:XK):Prop:=∀(pins:List (Addr×Obj)) (σ:St) (H:Hp) (s:Shared) (e:Value) (s':Shared),Inv X pins σ H s->CX X.stack H s E e s'->X.xe e s'
section
variable{X:Cx}{k:Nat}{f C:Addr}{fd:FuncData}{dvs:List V}{ds:List Value}{E:XK}{m:Str}{t:TA}
theorem Xr0{pins:List (Addr×Obj)}{σ:St}{H:Hp}{s:Shared}{Q:VK}{us:List Value}{vs:List V}(F:FnOk X.prog X.w X.K X.mg X.base CX k f fd ps sp)(hr:Room k X.A)(hb:Binds X.K fd ps ds)(hd:Vals dvs ds)(hx:l00 CX X E)
  (I:Inv X pins σ H s) (r:Vals vs us) (h:sp (vs++dvs) H Q E):wpAny (model X.prog X.w) X.A (call (.ref f) us) (EP X pins σ Q) X.xe s:=by
 have r2:Vals (vs++dvs) (us++ds):=r.append hd;have hl:(us++ds).length=ps.length:=by rw[← r2.length];exact F.len _ _ _ _ h
 refine wpAny_call (x5 (F.run X.A X.stack s H ⟨us,[]⟩ (us++ds) (vs++dvs) Q E hr I.env0 (hb s us I.kIn hl) r2 h) λr s' hq=>?_);cases r with
 | error e=>exact hx pins σ H s e s' I hq
 | ok fl =>
  cases fl with
  | ret u=>exact I.after hq
  | next=>exact False.elim hq
  | brk=>exact False.elim hq
  | cont=>exact False.elim hq
theorem rr0(F:FnOk X.prog X.w X.K X.mg X.base CX k f fd ps sp)(hr:Room k X.A)(hg:Gl X x)(hm:X.mg x=some (.ref f))(hk:W.keepIn X.K (.ref f)=true)(hb:Binds X.K fd ps ds)(hd:Vals dvs ds)(hx:l00 CX X E)
  (ha:PA X (e::es) t) (hdb:(x==("__debug__" : Str))=false:=by decide) (he:starEach (e::es) X.env=(false,eval e X.env)::starEach es X.env:=by rfl) (hpl:(backTo pos (starEach es X.env)).any (·.1)=false:=by rfl) :
  PE X (.Call (.Name x p) (e::es) [] pos) (Vo0 sp dvs E t):=by
 intro pins s σ H Q I h;refine L8 (Y60 I hg hm ?_ hdb);refine W.callWith_K (h₀:=X.base) I.ok.mod.kin hk (thn (ha pos pins s σ H _ I h) λus s1 ⟨vs,H1,I1,r,q⟩=>⟨I1.kIn,?_⟩) he hpl;exact Xr0 F hr hb hd hx I1 r q
end
structure FnScope(N P:List Str)(sc:Scope):Prop where
 kind:sc.kind=.function
 co:sc.isCoroutine=false
 gen:sc.isGenerator=false
 nd:N.Nodup
 pre:N.take P.length=P
 par:∀x∈P,sc.names.lookup x=some .local∨sc.names.lookup x=some .cell
 nofree:∀y∈sc.names,y.2≠.free
theorem nf0{kindOf:Str->Option NameKind}:∀{binds:List (Str×Value)} {m:Str->Option Value},(∀v,(x,v)∉binds)->bindL kindOf binds m x=m x
 | [],_,_=>rfl
 | (n,v)::r,m,h=>by
  unfold bindL;rw[nf0 λw hw=>h w (A4 _ hw)];split
  ·have:x≠n:=by rintro rfl;exact h v A5
   simp[this]
  ·rfl
theorem ow0{kindOf:Str->Option NameKind}:∀{binds:List (Str×Value)} {m:Str->Option Value},(∀v,(x,v)∉binds)->bindC kindOf binds m x=m x
 | [],_,_=>rfl
 | (n,v)::r,m,h=>by
  unfold bindC;rw[ow0 λw hw=>h w (A4 _ hw)];split
  ·rfl
  ·have:x≠n:=by rintro rfl;exact h v A5
   simp[this]
theorem nj0{kindOf:Str->Option NameKind}:∀{P:List Str} {vs:List Value} {i:Nat} {m:Str->Option Value},P.Nodup->P[i]?=some x->vs[i]?=some v->kindOf x=some .local ->
  bindL kindOf (P.zip vs) m x=some v
 | [],_,_,_,_,h,_,_=>by simp at h
 | _::_,[],_,_,_,_,h,_=>by simp at h
 | p::P,w::vs,0,m,nd,h1,h2,hk=>by
  simp at h1 h2;subst h1;subst h2;show bindL kindOf ((p,w)::P.zip vs) m p=_;unfold bindL;rw[nf0 λv hv=>(L9.mp nd).1 (D7 hv).1,if_pos hk];simp
 | p::P,w::vs,i+1,m,nd,h1,h2,hk=>by
  show bindL kindOf ((p,w)::P.zip vs) m x=_;unfold bindL;exact nj0 (i:=i) (L9.mp nd).2 (by simpa using h1) (by simpa using h2) hk
theorem nm0{kindOf:Str->Option NameKind}:∀{P:List Str} {vs:List Value} {i:Nat} {m:Str->Option Value},P.Nodup->P[i]?=some x->vs[i]?=some v->kindOf x≠some .local ->
  bindC kindOf (P.zip vs) m x=some v
 | [],_,_,_,_,h,_,_=>by simp at h
 | _::_,[],_,_,_,_,h,_=>by simp at h
 | p::P,w::vs,0,m,nd,h1,h2,hk=>by
  simp at h1 h2;subst h1;subst h2;show bindC kindOf ((p,w)::P.zip vs) m p=_;unfold bindC;rw[ow0 λv hv=>(L9.mp nd).1 (D7 hv).1,if_neg hk];simp
 | p::P,w::vs,i+1,m,nd,h1,h2,hk=>by
  show bindC kindOf ((p,w)::P.zip vs) m x=_;unfold bindC;exact nm0 (i:=i) (L9.mp nd).2 (by simpa using h1) (by simpa using h2) hk
def start(N:List Str)(vs:List V):St:=vs.map some++List.replicate (N.length - vs.length) none
def ws0(CX:CXT)(P:Program)(w:World)(K:W.Frag)(mg:Str->Option Value)(base:Heap)(N:List Str)(qual:Str)(scope:Scope)(f:Addr)(cd:Value)(A:Around)(outer:List Env)(s:Shared)(H:Hp)(E:XK):Cx where
 prog:=P
 w:=w
 K:=K
 mg:=mg
 base:=base
 A:=A.deeper (envOfC qual scope s.heap.objs.size f cd)
 N:=N
 s₀:=s
 H₀:=H
 env:=envOfC qual scope s.heap.objs.size f cd
 outer:=outer
 stack:=envOfC qual scope s.heap.objs.size f cd::outer
 ex:=[]
 calm:=true
 fn:=λ_=>true
 pn:=[]
 xe:=λe s'=>wpAny (model P w) (A.deeper (envOfC qual scope s.heap.objs.size f cd)) (leaving (envOfC qual scope s.heap.objs.size f cd) e) (λ_ s''=>CX outer H s E e s'') (λe' s''=>CX outer H s E e' s'') s'
theorem lc0(h:sc.names.lookup x=some .cell):∃c,(cellsFrom n sc.names []).lookup x=some c:=by
 have q:=W.cellsFrom_some sc.names n [] (.inl h);exact Option.isSome_iff_exists.mp q
theorem eh0{CX:CXT}{P:Program}{w:World}{K:W.Frag}{mg:Str->Option Value}{base:Heap}{N ps:List Str}{qual:Str}{scope:Scope}{f:Addr}{cd:Value}{A:Around}{outer:List Env}{s s1:Shared}{H:Hp}{E:XK}{us:List Value}{vs:List V}
  (S:FnScope N ps scope) (hd:A.handled=none) (e0:Env0 P w K mg base A outer s H) (hl:vs.length=ps.length) (r:Vals vs us)
  (x:InCallC s s.heap.objs.size (bindL (envOfC qual scope s.heap.objs.size f cd).kindOf (ps.zip us) λ_=>none) (cellsFrom (s.heap.objs.size+1) scope.names []) (bindC (envOfC qual scope s.heap.objs.size f cd).kindOf (ps.zip us) λ_=>none) s1) :
  Inv (ws0 CX P w K mg base N qual scope f cd A outer s H E) [] (start N vs) H s1:=by
 have hpl:ps.length<=N.length:=by have:=C9 List.length S.pre;rw[List.length_take] at this;omega
 obtain⟨h1,tk,rfl,hk⟩:=x.done;have noA:∀b:Addr,b∉(ws0 CX P w K mg base N qual scope f cd A outer s H E).ex:=λb z=>absurd (show b∈([]:List Addr) from z) (by simp)
 refine⟨⟨e0.mod,S.kind,rfl,rfl,A2 _,λy z c h1 h2=>?_,λy hy=>?_,λy c _ h=>?_,λ_=>hd,Around.frames_deeper e0.frames,.inr ⟨rfl,rfl⟩,λb z=>absurd z (noA b),e0.bs,e0.bsz,λb _ _=>noA b,λb z=>absurd z (noA b),e0.funs,e0.frf⟩,
  rfl,e0.bare,Un.kept hk,⟨_,x.toInCall.ns,λi y v h1 h2 h3=>?_⟩,λy c h=>⟨_,x.cell y c h⟩,e0.hok.fresh (A2 _),λy c h=>?_,λp hp=>absurd (show p∈([]:List (Addr×Obj)) from hp) (by simp),e0.hok.kept hk,?_⟩
 ·exact name_of_addr x.apart (E8 h1) (E8 h2)
 ·have hy:scope.names.lookup y=some .cell∨scope.names.lookup y=some .free:=hy
  rcases hy with hy|hy
  ·exact lc0 hy
  ·exact absurd rfl (S.nofree _ (E8 hy))
 ·exact L5 (x.above y c (E8 h))
 ·have hi:i<vs.length:=by
   unfold start at h2
   by_cases hi:i<vs.length
   ·exact hi
   ·rw[List.getElem?_append_right (by simpa using hi)] at h2
    rw[List.getElem?_replicate] at h2;split at h2<;>cases h2
  have ha:vs[i]?=some v:=by
   unfold start at h2;rw[List.getElem?_append_left (by simpa using hi),List.getElem?_map] at h2;cases e:vs[i]? with
   | none=>rw[e] at h2;cases h2
   | some a=>rw[e] at h2;cases h2;rfl
  obtain⟨u,hu,rv⟩:=r.get ha;have hp:ps[i]?=some y:=by
   rw[← S.pre,List.getElem?_take_of_lt (by omega)];exact h1
  have ndP:ps.Nodup:=by rw[← S.pre];exact S.nd.sublist (List.take_sublist _ _)
  refine⟨u,rv,?_⟩;rcases S.par y (D2 hp) with k|k
  ·exact .inl ⟨k,nj0 ndP hp hu k⟩
  ·obtain⟨c,e⟩:=lc0 (n:=s.heap.objs.size+1) k
   refine .inr ⟨.inl k,c,e,?_⟩;have q:=x.cell y c e;rw[nm0 ndP hp hu (by show scope.names.lookup y≠_;rw[k];decide)] at q;exact q
 ·exact e0.hok.fresh (L5 (x.above y c (E8 h)))
 ·unfold start
  show _=N.length;rw[List.length_append,List.length_map,List.length_replicate];omega
theorem bv0{CX:CXT}{P:Program}{w:World}{K:W.Frag}{mg:Str->Option Value}{base:Heap}{k:Nat}{f:Addr}{name qual:Str}{params:Arguments}{body:List Stmt}{scope:Scope}{dV kV doc pm cdv ct oc:Value}{an od:Option Addr}
  {osl:Array (Option Value)} {N ps:List Str} {sp:Sp} (lk:K.lookup f=some ⟨oc,od,.func (W.fnOf name qual params body scope dV kV doc pm an cdv ct),osl⟩) (hcd:W.codeIn K cdv qual=true) (S:FnScope N ps scope)
  (len:∀vs H Q E,sp vs H Q E->vs.length=ps.length)
  (hbody:∀(A:Around) (outer:List Env) (s:Shared) (H:Hp) (vs:List V) (Q:VK) (E:XK),Room k (A.deeper (envOfC qual scope s.heap.objs.size f cdv))->sp vs H Q E ->
   ∃t,PSs (ws0 CX P w K mg base N qual scope f cdv A outer s H E) body t/\t { nx:=λ_ H'=>Q .non H',rt:=Q } (start N vs) H) :
  FnOk P w K mg base CX (k+1) f (W.fnOf name qual params body scope dV kV doc pm an cdv ct) ps sp:=by
 refine⟨len,λA outer s H args us vs Q E hr e0 hb r hsp=>?_⟩;have hl:=len _ _ _ _ hsp;have KX:K.In s.heap:=e0.mod.kin.keeps λb o e=>(e0.bs b o e).1
 have lim:s.heap.NoLimit:=e0.mod.nolimit.keeps λb o e=>(e0.bs b o e).1
 have hkind:∀y∈ps.zip us,scope.names.lookup y.1=some .local∨(scope.names.lookup y.1=some .cell/\((cellsFrom (s.heap.objs.size+1) scope.names []).lookup y.1).isSome=true):=λ⟨n,v⟩ hy=>by
  rcases S.par n (D7 hy).1 with q|q
  ·exact .inl q
  ·exact .inr ⟨q,W.cellsFrom_some _ _ _ (.inl q)⟩
 refine codeAny_call_function hr.depth (KX _ _ lk) rfl S.co S.gen rfl (W.codeRec_of KX hcd) (hb _ _ _ _ ?_);refine wpAny_newFunctionEnv_cells S.kind hkind λenv he s1 x=>?_
 subst he;refine⟨lim.keeps x.toInCall.keep,codeAny_func ?_⟩;obtain⟨t,ht,hq⟩:=hbody A outer s H vs Q E (hr.deeper _) hsp;have I:Inv (ws0 CX P w K mg base N qual scope f cdv A outer s H E) [] (start N vs) H s1:=eh0 S hr.hd e0 hl r x;refine D1 (ht [] s1 (start N vs) H _ I hq) (λfl s' hs=>?_) λe s' hs=>hs
 have fin:∀{σ':St} {H':Hp} {v:V} {u:Value},Inv (ws0 CX P w K mg base N qual scope f cdv A outer s H E) [] σ' H' s'->RelV v u->Q v H'->CE outer P w H s Q u s' :=
  λ{σ' H' v u} J rv q=>⟨v,H',J.os,J.bare,J.base,J.hok,rv,q⟩
 cases fl with
 | ret u =>
  obtain⟨v,σ',H',J,rv,q⟩:=hs;exact fin J rv q
 | next =>
  obtain⟨σ',H',J,q⟩:=hs;exact fin (v:=V.non) (u:=Value.none) J rfl q
 | brk =>
  obtain⟨_,_,_,q⟩:=hs;exact False.elim q
 | cont =>
  obtain⟨_,_,_,q⟩:=hs;exact False.elim q
section
variable{X:Cx}{t:TA}{id T:String}{r:List V->Hp->VK->Prop}
def tCB(r:List V->Hp->VK->Prop)(t:TA):TE:=fun σ H Q=>t σ H λvs H1=>r vs H1 Q
theorem q80(hc:CallR X (.builtin id) r)(hg:Gl X x)(hm:X.mg x=none)(hv:bootBuiltins x=some (.builtin id))(ha:PA X (e::es) t)(hn:x ≠"__name__" := by decide)(hdb:(x==("__debug__" : Str))=false:=by decide)
  (he:starEach (e::es) X.env=(false,eval e X.env)::starEach es X.env:=by rfl) (hpl:(backTo pos (starEach es X.env)).any (·.1)=false:=by rfl):PE X (.Call (.Name x p) (e::es) [] pos) (tCB r t):=by
 intro pins s σ H Q I h;refine L8 (zq0 I hg hm hv ?_ hn hdb);exact PyProof.Rows.callWith_builtin1 (thn (ha pos pins s σ H _ I h) λus s1 ⟨vs,H1,I1,r1,q1⟩=>hc pins s1 σ H1 vs us Q I1 r1 q1) he hpl
theorem u80(hc:CallR X (.type T) r)(hg:Gl X x)(hm:X.mg x=none)(hv:bootBuiltins x=some (.type T))(ha:PA X (e::es) t)(hn:x ≠"__name__" := by decide)(hdb:(x==("__debug__" : Str))=false:=by decide)
  (he:starEach (e::es) X.env=(false,eval e X.env)::starEach es X.env:=by rfl) (hpl:(backTo pos (starEach es X.env)).any (·.1)=false:=by rfl):PE X (.Call (.Name x p) (e::es) [] pos) (tCB r t):=by
 intro pins s σ H Q I h;refine L8 (zq0 I hg hm hv ?_ hn hdb);exact E1 (thn (ha pos pins s σ H _ I h) λus s1 ⟨vs,H1,I1,r1,q1⟩=>hc pins s1 σ H1 vs us Q I1 r1 q1) he hpl
end
end L2
variable{H H' H2 H₀:L2.Hp}{σ:List (Option L2.V)}{ta tb te tv ty:L2.TE}{CX:L2.CXT}{sp:L2.Sp}{kvs:List (List L2.Key×L2.V)}
namespace HT
open PyProof.Rows
section
variable{w:World}{s:Shared}
theorem Zc0{t b:Addr}{ws:List Value}{Q:Value->Shared->Prop}(ht:IsTup s.heap t vs.toArray)(hb:IsTup s.heap b ws.toArray)(hv:vs≠[])
  (h1:ws=[]->Q (.ref t) s) (h2:ws≠[]->Q (.ref s.heap.objs.size) { s with heap:=s.heap.push { cls:=.type "tuple",data:=.seq (vs++ws).toArray } })
  (hsz:vs.length+ws.length<=sizeLine):wpAny (model prog w) A (binaryOp .Add (.ref t) (.ref b)) Q E s:=by
 obtain⟨⟨cls,dd,data,sl⟩,ho,hc,n,hd⟩:=id ht;obtain⟨⟨cls2,dd2,data2,sl2⟩,ho2,hc2,n2,hd2⟩:=id hb;simp only at hc hd hc2 hd2;subst hc hd hc2 hd2;have e:vs.toArray++ws.toArray=(vs++ws).toArray:=by simp
 by_cases hw:ws=[]
 ·exact i8 ⟨_,ho,rfl⟩ ⟨_,ho2,rfl⟩ x6 x8 x9 y3 (y4 _ _)
   (tuple_addW1 t b vs.toArray ws.toArray n n2 dd dd2 sl sl2 (by simpa using hv) (by simp[hw])) ⟨ho,ho2,h1 hw⟩
 ·refine i8 ⟨_,ho,rfl⟩ ⟨_,ho2,rfl⟩ x6 x8 x9 y3 (y4 _ _)
   (tuple_addW2 t b vs.toArray ws.toArray n n2 dd dd2 sl sl2 (by simpa using hv) (by simpa using hw) (by rw[List.size_toArray,List.size_toArray];exact hsz)) ⟨ho,ho2,?_⟩
  rw[e];exact h2 hw
def sIx(n d:Nat):Option Int->Nat
 | none=>d
 | some v=>if v<0 then (v+(n:Int)).toNat else min v.toNat n
theorem V30(n d:Nat)(hd:d<=n)(o:Option Int):sIx n d o<=n:=by
 cases o with
 | none=>exact hd
 | some v =>
  show (if v<0 then (v+(n:Int)).toNat else min v.toNat n)<=n
  by_cases hv:v<0
  ·rw[if_pos hv];omega
  ·rw[if_neg hv];exact Ba0 _ _
theorem im0(v:Int)(n d:Nat):(if v<0 then max (v+(n:Int)) 0 else min v (n:Int))=((sIx n d (some v):Nat):Int):=by
 show (if v<0 then max (v+(n:Int)) 0 else min v (n:Int))=(((if v<0 then (v+(n:Int)).toNat else min v.toNat n):Nat):Int)
 by_cases hv:v<0
 ·simp only[if_pos hv];omega
 ·simp only[if_neg hv];omega
theorem gd0(lo hi:Option Int)(n:Nat):Builtin.Slice.sliceAdjust lo hi 1 (n:Int)=(((sIx n 0 lo:Nat):Int),((sIx n n hi:Nat):Int)):=by
 have h1:¬((1:Int)<0):=by omega
 unfold Builtin.Slice.sliceAdjust;simp only[h1,if_false];refine M0 ?_ ?_
 ·cases lo with
  | none=>rfl
  | some v=>exact im0 v n 0
 ·cases hi with
  | none=>rfl
  | some v=>exact im0 v n n
theorem h00(i j:Nat):Builtin.Slice.slicePlaces (i:Int) (j:Int) 1=j - i:=by
 unfold Builtin.Slice.slicePlaces;have h1:(1:Int) > 0:=by omega
 simp only[h1,if_true,Int.ediv_one];split<;>omega
theorem pi0{o:Option Int}{Q:Option Int->Shared->Prop}(p:IsPart v o)(h:Q o s):wpAny (model prog w) A (Builtin.Slice.slicePartIndex v) Q E s:=by
 cases p with
 | none=>exact slicePart_none h
 | int i t=>exact slicePart_int h
theorem u10{n:Nat}{Q:Int×Int×Nat->Shared->Prop}(hs:s.heap.IsSliceOf sl vl vu .none)(pl:IsPart vl lo)(pu:IsPart vu hi)
  (h:Q (((sIx n 0 lo:Nat):Int),1,sIx n n hi - sIx n 0 lo) s):wpAny (model prog w) A (Builtin.Slice.sliceApplied (.ref sl) (pure (n:Int))) Q E s:=by
 obtain⟨os,hos,hcs,hds⟩:=id hs;unfold Builtin.Slice.sliceApplied Builtin.Slice.sliceFields;refine A0 (A0 (B4 hos hds (x:=vl) rfl (A0 (B4 hos hds (x:=vu) rfl (A0 (B4 hos hds (x:=.none) rfl (A1 ?_)))))));refine A0 (slicePart_none ?_);show wpAny _ _ (if ((1:Int)==0)=true then _ else _) _ _ s;rw[if_neg (by decide)];refine A0 (pi0 pl (A0 (pi0 pu (A0 (A1 ?_)))));show wpAny _ _ (match Builtin.Slice.sliceAdjust lo hi 1 (n:Int) with|(lo,hi)=>pure (lo,(1:Int),Builtin.Slice.slicePlaces lo hi 1)) _ _ s;rw[gd0 lo hi n];show wpAny _ _ (pure (((sIx n 0 lo:Nat):Int),(1:Int),Builtin.Slice.slicePlaces ((sIx n 0 lo:Nat):Int) ((sIx n n hi:Nat):Int) 1)) _ _ s;rw[h00];exact A1 h
theorem cf0(xs:Array Value)(i k:Nat):((List.range k).filterMap λ(m:Nat)=>xs[((i:Int)+(m:Int)*1).toNat]?).toArray=((xs.toList.drop i).take k).toArray:=by
 have e:(λ(m:Nat)=>xs[((i:Int)+(m:Int)*1).toNat]?)=λm=>xs[i+m]?:=by
  funext m
  have:((i:Int)+(m:Int)*1).toNat=i+m:=by omega
  rw[this]
 rw[e];have:=pick_run xs i k;rw[List.filterMap_map] at this;have e2:((λx=>xs[x]?) ∘ λx=>i+x)=λm=>xs[i+m]?:=rfl
 rw[e2] at this;rw[this]
theorem q00{t:Addr}{Q:Value->Shared->Prop}(ht:IsTup s.heap t items)(hs:s.heap.IsSliceOf sl vl vu .none)(pl:IsPart vl lo)(pu:IsPart vu hi)
  (hw:¬(sIx items.size 0 lo=0/\sIx items.size items.size hi=items.size))
  (h:Q (.ref s.heap.objs.size) { s with heap:=s.heap.push { cls:=.type "tuple",data:=.seq ((items.toList.drop (sIx items.size 0 lo)).take (sIx items.size items.size hi - sIx items.size 0 lo)).toArray } })
  (hsz:items.size<=sizeLine):wpAny (model prog w) A (getItem (.ref t) (.ref sl)) Q E s:=by
 have htake:sizeOk (.seq ((items.toList.drop (sIx items.size 0 lo)).take (sIx items.size items.size hi - sIx items.size 0 lo)).toArray):=by
  show ((items.toList.drop (sIx items.size 0 lo)).take (sIx items.size items.size hi - sIx items.size 0 lo)).toArray.size<=sizeLine;rw[List.size_toArray,List.length_take,List.length_drop,Array.length_toList];omega
 have hj:sIx items.size items.size hi<=items.size:=V30 _ _ (A2 _) hi;obtain⟨os,hos,hcs,hds⟩:=id hs;have hTs:s.TypeIs (.ref sl) "slice" := ⟨os,hos,hcs⟩;unfold getItem
 try with_reducible refine C7 ?_
 first|refine A0 (A1 ?_)|skip
 refine A0 (wpAny_sequenceKey ht.typeIs (by decide) ?_);refine A0 (E3 (name:=Str.ofString "__getitem__") ht.typeIs P2
  (D8 P2 ht.typeIs entry_tuple_getitem ?_ (args_tuple_getitem _ _)))
 show wpAny _ _ (Builtin.Tuple.tupleItemsOf (.ref t)>>=_) _ _ s;refine A0 (tupleItemsOf_ ht ?_);refine A0 (E9 hTs ?_);rw[if_pos (by decide)];refine A0 (u10 hs pl pu ?_);have hno:¬((((sIx items.size 0 lo:Nat):Int)==0&&(1:Int)==1&&(sIx items.size items.size hi - sIx items.size 0 lo)==items.size)=true):=by
  intro q;rw[Bool.and_eq_true,Bool.and_eq_true] at q;have q1:((sIx items.size 0 lo:Nat):Int)=0:=eq_of_beq q.1.1;have q2:sIx items.size items.size hi - sIx items.size 0 lo=items.size:=eq_of_beq q.2;exact hw ⟨by omega,by omega⟩
 show wpAny _ _ (if (((sIx items.size 0 lo:Nat):Int)==0&&(1:Int)==1&&(sIx items.size items.size hi - sIx items.size 0 lo)==items.size)=true then _ else _) _ _ s;rw[if_neg hno,cf0]
 first
  | exact A0 (m:=Builtin.Tuple.tupleExact _) (E4 (A1 ⟨_,rfl,A1 h⟩) htake)
  | exact A0 (m:=Builtin.Tuple.tupleExact _) (E4 (A0 (A1 (A1 ⟨_,rfl,A1 h⟩))) htake)
  | exact A0 (A0 (m:=Builtin.Tuple.tupleExact _) (E4 (A1 (A1 ⟨_,rfl,A1 h⟩)) htake))
  | exact A0 (A0 (m:=Builtin.Tuple.tupleExact _) (E4 (A1 ⟨_,rfl,A1 h⟩) htake))
end
end HT
namespace L2
open Spec PyProof.Rows
abbrev TO:=St->Hp->(Option Int->Hp->Prop)->Prop
def PO(X:Cx)(e:Option Expr)(t:TO):Prop :=
 ∀(pins:List (Addr×Obj)) (s:Shared) (σ:St) (H:Hp) (Q:Option Int->Hp->Prop),Inv X pins σ H s->t σ H Q ->
  wpAny (model X.prog X.w) X.A (evalPart e X.env) (λu s'=>∃o H',Inv X pins σ H' s'/\IsPart u o/\Q o H') X.xe s
def am0:TO:=λ_ H Q=>Q none H
def U00(t:TE):TO:=fun σ H Q=>t σ H λx H1=>∃i,x=.int i/\Q (some i) H1
section
variable{X:Cx}{lo hi:Option Expr}{tl th:TO}
theorem Zs0:PO X none am0:=by
 intro pins s σ H Q I h;rw[evalPart_none];exact A1 ⟨none,H,I,.none,h⟩
theorem aa0(h:PE X e te):PO X (some e) (U00 te):=by
 intro pins s σ H Q I hw;rw[evalPart_some];refine thn (h pins s σ H _ I hw) λu s1 ⟨x,H1,I1,r1,q1⟩=>?_
 obtain⟨i,rfl,q⟩:=q1;obtain⟨t,rfl⟩:=r1;exact⟨some i,H1,I1,.int i t,q⟩
def SlR(X:Cx)(r:V->Option Int->Option Int->Hp->VK->Prop):Prop :=
 ∀(pins:List (Addr×Obj)) (s:Shared) (σ:St) (H:Hp) (x:V) (v vl vu:Value) (lo hi:Option Int) (sl:Addr) (Q:VK),Inv X pins σ H s->RelV x v->s.heap.IsSliceOf sl vl vu .none->IsPart vl lo->IsPart vu hi->r x lo hi H Q ->
  ∃T id,typeLookup (.type T) "__getitem__"=pure (some (.builtin id))/\s.TypeIs v T/\wpAny (model X.prog X.w) X.A (getItem v (.ref sl)) (EP X pins σ Q) X.xe s
theorem SlR.or{r r':V->Option Int->Option Int->Hp->VK->Prop}(h:SlR X r)(h':SlR X r'):SlR X (λx lo hi H Q=>r x lo hi H Q∨r' x lo hi H Q):=by
 intro pins s σ H x v vl vu lo hi sl Q I rx hs pl pu q;rcases q with q|q
 ·exact h pins s σ H x v vl vu lo hi sl Q I rx hs pl pu q
 ·exact h' pins s σ H x v vl vu lo hi sl Q I rx hs pl pu q
def tSl(r:V->Option Int->Option Int->Hp->VK->Prop)(te:TE)(tl th:TO):TE:=fun σ H Q=>te σ H λx H1=>tl σ H1 λl H2=>th σ H2 λu H3=>r x l u H3 Q
theorem cr0{r:V->Option Int->Option Int->Hp->VK->Prop}(hr:SlR X r)(he:PE X e te)(hl:PO X lo tl)(hu:PO X hi th):PE X (.Subscript e (.Slice lo hi none p2) pos) (tSl r te tl th):=by
 intro pins s σ H Q I h;refine Subscript_ (thn (he pins s σ H _ I h) λv s1 ⟨x,H1,I1,r1,q1⟩=>?_);refine wpAny_Slice (thn (hl pins s1 σ H1 _ I1 q1) λvl s2 ⟨l,H2,I2,pl,q2⟩=>thn (hu pins s2 σ H2 _ I2 q2) λvu s3 ⟨u,H3,I3,pu,q3⟩=>?_);rw[evalPart_none];refine A1 ?_;have I4:Inv X pins σ H3 { s3 with heap:=s3.heap.push { cls:=.type "slice",data:=.fields #[vl,vu,.none] } }:=I3.kept (t':=s3.toks) λb ob q=>A7 _ q
 obtain⟨T,id,hT,ht,hg⟩:=hr pins { s3 with heap:=s3.heap.push { cls:=.type "slice",data:=.fields #[vl,vu,.none] } } σ H3 x v vl vu l u s3.heap.objs.size Q I4 r1 (Heap.IsSliceOf.new ..) pl pu q3;show wpAny (model X.prog X.w) X.A (subscriptTail e (.Slice lo hi none p2) v (.ref s3.heap.objs.size)) (EP X pins σ Q) X.xe { s3 with heap:=s3.heap.push { cls:=.type "slice",data:=.fields #[vl,vu,.none] } };exact tail_any (ops:=[.ref s3.heap.objs.size,v]) ht hT hg (by with_unfolding_all rfl)
def s30(xs:List V)(lo hi:Option Int):List V:=(xs.drop (HT.sIx xs.length 0 lo)).take (HT.sIx xs.length xs.length hi - HT.sIx xs.length 0 lo)
theorem q40(xs:List V)(lo hi:Option Int):(s30 xs lo hi).length<=xs.length:=by
 unfold s30;rw[List.length_take,List.length_drop];omega
def T40(K:W.Frag):V->Option Int->Option Int->Hp->VK->Prop:=λx lo hi H Q=>∃a xs,x=.ref a/\SqT K H a xs /\
 ¬(HT.sIx xs.length 0 lo=0/\HT.sIx xs.length xs.length hi=xs.length)/\∀p,H p=none->Q (.ref p) (upd H p (.tup (s30 xs lo hi)))
theorem V60:SlR X (T40 X.K):=by
 intro pins s σ H x v vl vu lo hi sl Q I rx hs pl pu h;obtain⟨a,xs,rfl,hx,hw,q⟩:=h;cases rx;obtain⟨its,r,ht,hz⟩:=I.tuple hx;have hlen:its.toArray.size=xs.length:=by rw[List.size_toArray];exact r.length.symm
 refine⟨"tuple",_,P2.lookup,ht.typeIs,?_⟩;refine HT.q00 ht hs pl pu (by rw[hlen];exact hw) ?_ (by rw[hlen];exact hz);rw[hlen];refine⟨.ref s.heap.objs.size,_,I.laid (t':=s.toks) (o:=.tup (s30 xs lo hi)) (λb ob q=>A7 _ q) (A2 _) ?_,rfl,q _ (I.hok.fresh (A2 _))⟩;exact⟨B7 (q40 xs lo hi) hz,_,(r.drop (HT.sIx xs.length 0 lo)).take (HT.sIx xs.length xs.length hi - HT.sIx xs.length 0 lo),IsTupN.new _ _⟩
def bq0(K:W.Frag):R2:=λx y H Q=>∃a b xs ys,x=.ref a/\y=.ref b/\SqT K H a xs/\SqT K H b ys/\xs≠[]/\xs.length+ys.length<=sizeLine /\
 (ys=[]->Q (.ref a) H)/\(ys≠[]->∀p,H p=none->Q (.ref p) (upd H p (.tup (xs++ys))))
theorem Vals.nil_iff{xs:List V}(r:Vals xs us):us=[]↔xs=[]:=by
 cases r with
 | nil=>simp
 | cons _ _=>simp
theorem ah0:OpR X (binaryOp .Add) (bq0 X.K):=by
 intro pins s σ H x y v u Q I rx ry h;obtain⟨a,b,xs,ys,rfl,rfl,ha,hb,hx,hz,q1,q2⟩:=h;cases rx;cases ry;obtain⟨its,r1,p1,_⟩:=I.tuple ha;obtain⟨its2,r2,p2,_⟩:=I.tuple hb;refine HT.Zc0 p1 p2 (λz=>hx (r1.nil_iff.mp z)) (λz=>⟨.ref a,H,I,rfl,q1 (r2.nil_iff.mp z)⟩) (λz=>?_) (by rw[← r1.length,← r2.length];exact hz);refine⟨.ref s.heap.objs.size,_,I.laid (t':=s.toks) (o:=.tup (xs++ys)) (λb ob q=>A7 _ q) (A2 _) ?_,rfl,q2 (λw=>z (r2.nil_iff.mpr w)) _ (I.hok.fresh (A2 _))⟩;exact⟨by rw[List.length_append];exact hz,_,r1.append r2,IsTupN.new _ _⟩
end
def ixN(n:Nat)(i:Int):Option Nat:=if 0<=i then (if i<n then some i.toNat else none) else if -(n:Int)<=i then some (i+n).toNat else none
def atI{α:Type}(xs:List α)(i:Int):Option α:=(ixN xs.length i).bind λj=>xs[j]?
theorem ju0{i:Int}(h:ixN n i=some j):seqIndex? i n=some j/\j<n/\-(n:Int)<=i/\i<n:=by
 unfold ixN at h
 by_cases h0:0<=i
 ·rw[if_pos h0] at h
  by_cases h1:i<n
  ·rw[if_pos h1] at h
   have e:i.toNat=j:=B6 h;exact⟨by rw[seqIndex_of h0 h1,e],by omega,by omega,h1⟩
  ·rw[if_neg h1] at h;cases h
 ·rw[if_neg h0] at h
  by_cases h1:-(n:Int)<=i
  ·rw[if_pos h1] at h
   have e:(i+n).toNat=j:=B6 h;exact⟨by rw[seqIndex_neg (by omega) h1,e],by omega,h1,by omega⟩
  ·rw[if_neg h1] at h;cases h
theorem pt0{xs:List α}{i:Int}{v:α}(h:atI xs i=some v):∃j,seqIndex? i xs.length=some j/\xs[j]?=some v/\j<xs.length/\-(xs.length:Int)<=i/\i<xs.length:=by
 unfold atI at h;cases e:ixN xs.length i with
 | none=>rw[e] at h;cases h
 | some j =>
  rw[e] at h;obtain⟨h1,h2,h3,h4⟩:=ju0 e;exact⟨j,h1,h,h2,h3,h4⟩
def on0(b:Expr):Prop:=∀o i,subscripted b false o i=operate [o,i] (getItem o i)
def IxR(X:Cx)(r:R2):Prop :=
 ∀(value slice:Expr) (pins:List (Addr×Obj)) (s:Shared) (σ:St) (H:Hp) (x y:V) (v u:Value) (Q:VK),Inv X pins σ H s->RelV x v->RelV y u->r x y H Q ->
  subscripted slice false v u=operate [v,u] (getItem v u)->wpAny (model X.prog X.w) X.A (subscriptTail value slice v u) (EP X pins σ Q) X.xe s
def MtR(X:Cx)(id:String)(r:V->List V->Hp->VK->Prop):Prop :=
 ∀(pins:List (Addr×Obj)) (s:Shared) (σ:St) (H:Hp) (x:V) (xs:List V) (v:Value) (us:List Value) (Q:VK),Inv X pins σ H s->RelV x v->Vals xs us->r x xs H Q ->
  wpAny (model X.prog X.w) X.A (call (.builtin id) (v::us)) (EP X pins σ Q) X.xe s
section
variable{X:Cx}{a:Expr}
theorem IxR.or{r r':R2}(h:IxR X r)(h':IxR X r'):IxR X (λx y H Q=>r x y H Q∨r' x y H Q):=by
 intro value slice pins s σ H x y v u Q I rx ry q hs;rcases q with q|q
 ·exact h value slice pins s σ H x y v u Q I rx ry q hs
 ·exact h' value slice pins s σ H x y v u Q I rx ry q hs
theorem Vs0{r:R2}(hr:IxR X r)(ha:PE X a ta)(hb:PE X b tb)(hs:on0 b):PE X (.Subscript a b pos) (tOp r ta tb):=by
 intro pins s σ H Q I h;exact Subscript_ (b80 ha hb I h λv u s2 x y H2 I2 rx ry q=>hr a b pins s2 σ H2 x y v u Q I2 rx ry q (hs _ _))
def Yx0(K:W.Frag):R2:=λx y H Q=>∃p xs i v,x=.ref p/\y=.int i/\SqL K H p xs/\atI xs i=some v/\Q v H
def Yj0(K:W.Frag):R2:=λx y H Q=>∃p xs i v,x=.ref p/\y=.int i/\SqT K H p xs/\atI xs i=some v/\Q v H
def Wn0:R2:=λx y H Q=>∃z i c,x=.str z/\y=.int i/\z.length<=sizeLine/\atI z.cps.toList i=some c/\Q (.str ⟨#[c]⟩) H
theorem Zx0:IxR X (Yx0 X.K):=by
 intro value slice pins s σ H x y v u Q I rx ry h hs;obtain⟨p,xs,i,z,rfl,rfl,hq,he,q⟩:=h;cases rx;obtain⟨t,rfl⟩:=ry;obtain⟨its,r,pl,hz⟩:=I.list hq;obtain⟨j,h1,h2,h3,h4,h5⟩:=pt0 he;obtain⟨w,ew,rw'⟩:=r.get h2;have hl:=r.length;have hn:=vr0;have fin:EP X pins σ Q w s:=⟨z,H,I,rw',q⟩
 by_cases h0:0<=i
 ·have hj:i.toNat=j:=by
   rw[seqIndex_of h0 h5] at h1;exact B6 h1
  exact item_listR pl.isList h0 (by omega) (by rw[hj];simpa using ew) fin hs
 ·have hj:(i+(its.toArray.size:Int)).toNat=j:=by
   rw[seqIndex_neg (by omega) h4] at h1;rw[List.size_toArray,← hl];exact B6 h1
  exact subscriptTail_builtinR (x:=w) pl.isList.typeIs slot_list_getitem.lookup
   (wpAny_getItem_list_neg (Q:=λr s'=>r=w/\EP X pins σ Q r s') pl.isList (by omega) (by rw[List.size_toArray]<;>omega) (by omega) (by rw[hj];simpa using ew) ⟨rfl,fin⟩) hs
theorem Xc0:IxR X (Yj0 X.K):=by
 intro value slice pins s σ H x y v u Q I rx ry h hs;obtain⟨p,xs,i,z,rfl,rfl,hq,he,q⟩:=h;cases rx;obtain⟨t,rfl⟩:=ry;obtain⟨its,r,pl,hz⟩:=I.tuple hq;obtain⟨j,h1,h2,h3,h4,h5⟩:=pt0 he;obtain⟨w,ew,rw'⟩:=r.get h2;have hl:=r.length;have hn:=vr0;have fin:EP X pins σ Q w s:=⟨z,H,I,rw',q⟩;exact subscriptTail_builtinR (x:=w) pl.typeIs slot_tuple_getitem.lookup
  (getItem_tuple (j:=j) (Q:=λr s'=>r=w/\EP X pins σ Q r s') pl (by omega) (by omega) (by rw[List.size_toArray,← hl];exact h1) (by simpa using ew) ⟨rfl,fin⟩) hs
theorem Xf0:IxR X Wn0:=by
 intro value slice pins s σ H x y v u Q I rx ry h hs;obtain⟨z,i,c,rfl,rfl,hz,he,q⟩:=h;obtain⟨t,rfl⟩:=rx;obtain⟨t',rfl⟩:=ry;obtain⟨j,h1,h2,h3,h4,h5⟩:=pt0 he;have hl:z.cps.toList.length=z.length:=by simp[Str.length]
 rw[hl] at h1 h4 h5;have hn:=vr0;exact tail_any (P3 s z t) slot_str_getitem.lookup (getItem_str (c:=c) (by
  have e1:decide (i < -(2 ^ 63:Int))=false:=P1 (by omega);have e2:decide (i ≥ 2 ^ 63)=false:=P1 (by omega);rw[e1,e2,Bool.or_false]) (by rw[h1];simpa using h2) ⟨.str ⟨#[c]⟩,H,I.tok _,⟨_,rfl⟩,q⟩) hs
def rIx(K:W.Frag):R2:=λx y H Q=>Yx0 K x y H Q∨Yj0 K x y H Q∨Wn0 x y H Q
theorem Xs0:IxR X (rIx X.K):=Zx0.or (Xc0.or Xf0)
theorem h90(its:List Value)(n j:Nat)(u:Value):Obj.mapSeq (·.setIfInBounds j u) { cls:=.type "list",data:=.seq its.toArray n }={ cls:=.type "list",data:=.seq (its.set j u).toArray n }:=by
 simp[Obj.mapSeq]
theorem Inv.lst{σ:St}{s:Shared}{p:Addr}{xs:List V}(I:Inv X pins σ H s)(h:H p=some (.lst xs)) :
  ∃(its:List Value) (n:Nat),Vals xs its/\s.heap.get? p=some { cls:=.type "list",data:=.seq its.toArray n }/\xs.length<=sizeLine:=by
 obtain⟨z,its,n,r,e⟩:=I.hok p _ h;exact⟨its,n,r,e,z⟩
theorem Inv.lstUpd{σ:St}{s:Shared}{p:Addr}{xs ys:List V}{its its':List Value}{n n':Nat}{f:Obj->Obj}(I:Inv X pins σ H s)(h:H p=some (.lst xs))
  (ho:s.heap.get? p=some { cls:=.type "list",data:=.seq its.toArray n }) (hf:f { cls:=.type "list",data:=.seq its.toArray n }={ cls:=.type "list",data:=.seq its'.toArray n' }) (r:Vals ys its') (hz:ys.length<=sizeLine) (t:Nat) :
  Inv X pins σ (upd H p (.lst ys)) { s with heap:=s.heap.update p f,toks:=t }:=by
 have e:(s.heap.update p f).get? p=some { cls:=.type "list",data:=.seq its'.toArray n' }:=by
  rw[Heap.get?_update_self f ho (by rw[hf]<;>rfl),hf]
 refine I.write (x:=p) (e:=p) (by rw[h];trivial) (.inl rfl) (λb u hb q=>(P4 _ _ (C0 hb)).trans q) ⟨_,e⟩ ?_;exact⟨hz,its',n',r,e⟩
def Vv0:V->V->V->Hp->(Hp->Prop)->Prop:=λo i v H Q=>∃p xs k j,o=.ref p/\i=.int k/\H p=some (.lst xs)/\ixN xs.length k=some j/\Q (upd H p (.lst (xs.set j v)))
theorem set_list:cy0 X Vv0:=by
 intro pins s σ H o i v ov iv u Q I ro ri rv h;obtain⟨p,xs,k,j,rfl,rfl,hp,hj,q⟩:=h;cases ro;obtain⟨t,rfl⟩:=ri;obtain⟨its,n,r,ho,hz⟩:=I.lst hp;obtain⟨h1,h2,h3,h4⟩:=ju0 hj;have hl:=r.length;have hn:=vr0;have I':Inv X pins σ (upd H p (.lst (xs.set j v))) { s with heap:=s.heap.update p (Obj.mapSeq (·.setIfInBounds j u)) } :=
  I.lstUpd hp ho (h90 its n j u) (r.set rv j) (by rw[List.length_set];exact hz) s.toks
 by_cases h0:0<=k
 ·have hk:k.toNat=j:=by
   rw[seqIndex_of h0 h4] at h1;exact B6 h1
  exact W.ki_setAt ho h0 (by omega) (by rw[List.size_toArray,← hl];exact h4) (by rw[hk];exact⟨_,I',q⟩)
 ·have hk:(k+(its.toArray.size:Int)).toNat=j:=by
   rw[seqIndex_neg (by omega) h3] at h1;rw[List.size_toArray,← hl];exact B6 h1
  exact W.ki_setBack ho (by omega) (by rw[List.size_toArray,← hl];exact h3) (by omega) (by rw[hk];exact⟨_,I',q⟩)
theorem l50(lo hi:Option Int)(n:Nat):(sliceBounds lo hi none n).1=((HT.sIx n 0 lo:Nat):Int)/\(sliceBounds lo hi none n).2.1=((HT.sIx n n hi:Nat):Int)/\(sliceBounds lo hi none n).2.2=1:=by
 refine⟨?_,?_,rfl⟩
 ·cases lo with
  | none=>simp[sliceBounds,HT.sIx]
  | some i =>
   simp only[sliceBounds,HT.sIx,Option.getD_none,show (1:Int) > 0 by decide,if_true]
   by_cases h:i<0
   ·simp only[h,if_true]<;>omega
   ·simp only[h,if_false]<;>omega
 ·cases hi with
  | none=>simp[sliceBounds,HT.sIx]
  | some i =>
   simp only[sliceBounds,HT.sIx,Option.getD_none,show (1:Int) > 0 by decide,if_true]
   by_cases h:i<0
   ·simp only[h,if_true]<;>omega
   ·simp only[h,if_false]<;>omega
theorem nr0(its:List Value)(lo hi:Option Int):slicePick its.toArray lo hi none=((its.drop (HT.sIx its.length 0 lo)).take (HT.sIx its.length its.length hi - HT.sIx its.length 0 lo)).toArray:=by
 obtain⟨h1,h2,h3⟩:=l50 lo hi its.toArray.size;unfold slicePick;rw[h1,h2,h3];simp only[sliceRange_one,pick_run,List.size_toArray]<;>rfl
def T30(K:W.Frag):V->Option Int->Option Int->Hp->VK->Prop:=λx lo hi H Q=>∃a xs,x=.ref a/\SqL K H a xs/\∀p,H p=none->Q (.ref p) (upd H p (.lst (s30 xs lo hi)))
theorem Y90:SlR X (T30 X.K):=by
 intro pins s σ H x v vl vu lo hi sl Q I rx hs pl pu h;obtain⟨a,xs,rfl,hx,q⟩:=h;cases rx;obtain⟨its,r,ht,hz⟩:=I.list hx;have hlen:=r.length;refine⟨"list",_,slot_list_getitem.lookup,ht.isList.typeIs,?_⟩;refine wpAny_getItem_list_slice ht.isList hs pl pu .none (by simp) ?_ (by rw[List.size_toArray]<;>omega);rw[nr0,← hlen];refine⟨.ref s.heap.objs.size,_,I.laid (t':=s.toks) (o:=.lst (s30 xs lo hi)) (λb ob q=>A7 _ q) (A2 _) ?_,rfl,q _ (I.hok.fresh (A2 _))⟩;exact⟨B7 (q40 xs lo hi) hz,_,0,(r.drop (HT.sIx xs.length 0 lo)).take (HT.sIx xs.length xs.length hi - HT.sIx xs.length 0 lo),B3 _ rfl⟩
def wa0:V->Bool
 | .non=>true
 | .bl _=>true
 | .int _=>true
 | .str _=>true
 | _=>false
def eqV:V->V->Bool
 | .non,.non=>true
 | .bl a,.bl b=>a==b
 | .bl a,.int b=>(if a then 1 else 0)==b
 | .int a,.bl b=>a==(if b then 1 else 0)
 | .int a,.int b=>a==b
 | .str a,.str b=>a==b
 | _,_=>false
theorem W30{s:Shared}{y x:V}(ry:RelV y u)(rx:RelV x v)(fy:wa0 y=true)(fx:wa0 x=true):SeqAt.EqAt A s u v (eqV y x):=by
 cases y with
 | non =>
  cases ry;cases x with
  | non=>cases rx;exact U1 _
  | bl b=>cases rx;exact y9 b
  | int b=>obtain⟨t,rfl⟩:=rx;exact z0 b t
  | str b=>obtain⟨t,rfl⟩:=rx;exact A00 b t
  | _=>exact absurd (show false=true from fx) B0
 | bl a =>
  cases ry;cases x with
  | non=>cases rx;exact A10 a
  | bl b=>cases rx;exact A20 a b
  | int b=>obtain⟨t,rfl⟩:=rx;exact A30 a b t
  | str b=>obtain⟨t,rfl⟩:=rx;exact A40 a b t
  | _=>exact absurd (show false=true from fx) B0
 | int a =>
  obtain⟨t',rfl⟩:=ry;cases x with
  | non=>cases rx;exact A50 a t'
  | bl b=>cases rx;exact A60 a t' b
  | int b=>obtain⟨t,rfl⟩:=rx;exact A70 a t' b t
  | str b=>obtain⟨t,rfl⟩:=rx;exact d6 a t' b t
  | _=>exact absurd (show false=true from fx) B0
 | str a =>
  obtain⟨t',rfl⟩:=ry;cases x with
  | non=>cases rx;exact A80 a t'
  | bl b=>cases rx;exact A90 a t' b
  | int b=>obtain⟨t,rfl⟩:=rx;exact h8 a t' b t
  | str b=>obtain⟨t,rfl⟩:=rx;exact Aa0 a t' b t
  | _=>exact absurd (show false=true from fx) B0
 | _=>exact absurd (show false=true from fy) B0
def eqU(x:V)(u:Value):Bool:=match u with
 | .none=>eqV .non x
 | .bool b=>eqV (.bl b) x
 | .int i _=>eqV (.int i) x
 | .str z _=>eqV (.str z) x
 | _=>false
theorem er0{x y:V}(r:RelV y u)(f:wa0 y=true):eqU x u=eqV y x:=by
 cases y with
 | non=>cases r;rfl
 | bl b=>cases r;rfl
 | int i=>obtain⟨t,rfl⟩:=r;rfl
 | str z=>obtain⟨t,rfl⟩:=r;rfl
 | _=>exact absurd (show false=true from f) B0
theorem oa0{x:V}:∀{xs:List V} {us:List Value},Vals xs us->xs.all wa0=true->us.any (eqU x)=xs.any λy=>eqV y x
 | _,_,.nil,_=>rfl
 | y::xs,u::us,.cons r t,f=>by
  rw[List.all_cons,Bool.and_eq_true] at f;rw[List.any_cons,List.any_cons,er0 r f.1,oa0 t f.2]
theorem qd0{s:Shared}{x:V}(rx:RelV x v)(fx:wa0 x=true):∀{xs:List V} {us:List Value},Vals xs us->xs.all wa0=true->∀u∈us,SeqAt.EqAt A s u v (eqU x u)
 | _,_,.nil,_=>λu hu=>by cases hu
 | y::xs,u::us,.cons r t,f=>λu' hu=>by
  rw[List.all_cons,Bool.and_eq_true] at f;rcases A9.mp hu with rfl|hu
  ·rw[er0 r f.1];exact W30 r rx f.1 fx
  ·exact qd0 rx fx t f.2 u' hu
def inV(x:V)(xs:List V):Bool:=xs.any λy=>eqV y x
def rIn(K:W.Frag)(neg:Bool):R2:=λx y H Q=>∃p xs,y=.ref p/\(SqL K H p xs∨SqT K H p xs)/\wa0 x=true/\xs.all wa0=true/\Q (.bl (if neg then !inV x xs else inV x xs)) H
theorem vn0:OpR X (compareOp .NotIn) (rIn X.K true):=by
 intro pins s σ H x y v u Q I rx ry h;obtain⟨p,xs,rfl,hq,fx,fs,q⟩:=h;cases ry;rcases hq with hq|hq
 ·obtain⟨its,r,pl,hz⟩:=I.list hq
  refine SeqAt.notIn_listAt (eqU x) pl.isList (λw hw=>qd0 rx fx r fs w (by simpa using hw)) ⟨.bl _,H,I,rfl,?_⟩;rw[show its.toArray.any (eqU x)=its.any (eqU x) by simp,oa0 r fs];exact q
 ·obtain⟨its,r,pl,hz⟩:=I.tuple hq
  refine SeqAt.notIn_tupleAt (eqU x) pl (λw hw=>qd0 rx fx r fs w (by simpa using hw)) ⟨.bl _,H,I,rfl,?_⟩;rw[show its.toArray.any (eqU x)=its.any (eqU x) by simp,oa0 r fs];exact q
theorem ko0:CallR X (.builtin "len") (λxs H Q=>∃p ys,xs=[.ref p]/\(SqL X.K H p ys∨SqT X.K H p ys)/\Q (.int ys.length) H):=by
 intro pins s σ H xs us Q I r h;obtain⟨p,ys,rfl,hq,q⟩:=h;obtain⟨u,rfl,rx⟩:=vals1 r;cases rx;have hn:=vr0;rcases hq with hq|hq
 ·obtain⟨its,r',pl,hz⟩:=I.list hq
  have hlen:=r'.length;exact Calls.call_len_list pl.isList (by simp only[List.size_toArray]<;>omega) ⟨.int ys.length,H,I.tok _,⟨s.toks+1,by rw[List.size_toArray,hlen]⟩,q⟩
 ·obtain⟨its,r',pl,hz⟩:=I.tuple hq
  have hlen:=r'.length;exact len_tuple pl (by simp only[List.size_toArray]<;>omega) ⟨.int ys.length,H,I.tok _,⟨s.toks+1,by rw[List.size_toArray,hlen]⟩,q⟩
theorem l20:CallR X (.builtin "len") (λxs H Q=>∃z,xs=[.str z]/\z.length<=sizeLine/\Q (.int z.length) H):=by
 intro pins s σ H xs us Q I r h;obtain⟨z,rfl,hz,q⟩:=h;obtain⟨u,rfl,t,rfl⟩:=vals1 r;have hn:=vr0;exact len_str (by omega) ⟨.int z.length,H,I.tok _,⟨_,rfl⟩,q⟩
theorem CallR.or{f:Value}{r r':List V->Hp->VK->Prop}(h:CallR X f r)(h':CallR X f r'):CallR X f (λxs H Q=>r xs H Q∨r' xs H Q):=by
 intro pins s σ H xs us Q I rs q;rcases q with q|q
 ·exact h pins s σ H xs us Q I rs q
 ·exact h' pins s σ H xs us Q I rs q
theorem l90:CallR X (.type "list") (λxs H Q=>∃p ys,xs=[.ref p]/\(SqL X.K H p ys∨SqT X.K H p ys)/\∀l,H l=none->Q (.ref l) (upd H l (.lst ys))):=by
 intro pins s σ H xs us Q I r h;obtain⟨p,ys,rfl,hq,q⟩:=h;obtain⟨u,rfl,rx⟩:=vals1 r;cases rx;have fin:∀(its:List Value),Vals ys its->ys.length<=sizeLine->∀(h':Heap) (c':Nat),(∀b o',s.heap.get? b=some o'->h'.get? b=some o') ->
   h'.get? s.heap.objs.size=some { cls:=.type "list",dict:=none,data:=.seq its.toArray c',slots:=#[] }->EP X pins σ Q (.ref s.heap.objs.size) { s with heap:=h' }:=λits r' hz h' c' kp e =>
  ⟨.ref s.heap.objs.size,_,I.laid (t':=s.toks) kp (A2 _) (show ObjOk X.prog X.w _ h' _ (.lst ys) from ⟨hz,its,c',r',e⟩),rfl,q _ (I.hok.fresh (A2 _))⟩
 rcases hq with hq|hq
 ·obtain⟨its,r',pl,hz⟩:=I.list hq
  have hlen:=r'.length;obtain⟨o,ho,hc,n,hd⟩:=pl.isList;exact call_list_seq p (.inl rfl) ho hc hd (λh' c' kp e=>fin its r' hz h' c' kp e) (by simp only[List.size_toArray]<;>omega)
 ·obtain⟨its,r',pl,hz⟩:=I.tuple hq
  have hlen:=r'.length;obtain⟨o,ho,hc,n,hd⟩:=pl;exact call_list_seq p (.inr rfl) ho hc hd (λh' c' kp e=>fin its r' hz h' c' kp e) (by simp only[List.size_toArray]<;>omega)
theorem Y7:CallR X (.type "tuple") (λxs H Q=>∃p ys,xs=[.ref p]/\((SqL X.K H p ys/\∀l,H l=none->Q (.ref l) (upd H l (.tup ys)))∨(SqT X.K H p ys/\Q (.ref p) H))):=by
 intro pins s σ H xs us Q I r h;obtain⟨p,ys,rfl,h⟩:=h;obtain⟨u,rfl,rx⟩:=vals1 r;cases rx;rcases h with⟨hq,q⟩|⟨hq,q⟩
 ·obtain⟨its,r',pl,hz⟩:=I.list hq
  have hlen:=r'.length;refine call_tuple_list pl.isList (λh' kp=>?_) (by simp only[List.size_toArray]<;>omega);have I1:Inv X pins σ H { s with heap:=h' }:=I.kept (t':=s.toks) kp;have I2:Inv X pins σ (upd H h'.objs.size (.tup ys)) { s with heap:=h'.push { cls:=.type "tuple",data:=.seq its.toArray } } :=
   I1.laid (t':=s.toks) (λb o e=>A7 _ e) (A2 _) (show ObjOk X.prog X.w _ _ _ (.tup ys) from ⟨hz,its,r',IsTupN.new _ _⟩)
  exact⟨.ref h'.objs.size,_,I2,rfl,q _ (I1.hok.fresh (A2 _))⟩
 ·obtain⟨its,r',pl,hz⟩:=I.tuple hq
  exact call_tuple_same pl ⟨.ref p,H,I,rfl,q⟩
def tyV(K:W.Frag)(T:String)(x:V)(H:Hp):Prop:=match x with
 | .str _=>T = "str"
 | .int _=>T = "int"
 | .ref p=>(T = "list"/\∃xs,SqL K H p xs)∨(T = "tuple"/\∃o,K.lookup p=some o/\o.cls=.type "tuple"/\o.dict=none) ∨
   (T = "dict"/\((∃kvs,H p=some (.dK kvs))∨∃kvs,H p=some (.dT kvs)))∨(T = "set"/\∃S n,H p=some (.set S n))
 | _=>False
theorem f60{σ:St}{s:Shared}{T:String}{x:V}(I:Inv X pins σ H s)(r:RelV x v)(ty:tyV X.K T x H) :
  s.TypeIs v T/\∀a,v=.ref a->∃ob,s.heap.get? a=some ob/\ob.dict=none:=by
 cases x with
 | str z =>
  obtain⟨t,rfl⟩:=r;cases (show T = "str" from ty);exact⟨P3 s z t,λ_ e=>nomatch e⟩
 | int i =>
  obtain⟨t,rfl⟩:=r;cases (show T = "int" from ty);exact⟨M1 s i t,λ_ e=>nomatch e⟩
 | ref p =>
  cases r;rcases ty with⟨rfl,xs,hq⟩|⟨rfl,o,hk,hc,hd⟩|⟨rfl,hk⟩|⟨rfl,S,n,hk⟩
  ·obtain⟨its,_,pl,_⟩:=I.list hq
   refine⟨pl.isList.typeIs,λa e=>?_⟩;cases e;obtain⟨o,n,e,c,hd,_⟩:=pl;exact⟨o,e,hd⟩
  ·refine⟨⟨o,I.kIn p o hk,hc⟩,λa e=>?_⟩
   cases e;exact⟨o,I.kIn _ o hk,hd⟩
  ·have z:∃o,s.heap.get? p=some o/\o.ExactDict:=by
    rcases hk with⟨kvs,hk⟩|⟨kvs,hk⟩
    ·obtain⟨_,_,_,_,o,_,_,e,ex,_⟩:=I.hok p _ hk
     exact⟨o,e,ex⟩
    ·obtain⟨_,_,_,_,o,_,_,e,ex,_⟩:=I.hok p _ hk
     exact⟨o,e,ex⟩
   obtain⟨o,e,ex⟩:=z;refine⟨⟨o,e,ex.1⟩,λa e2=>?_⟩;cases e2;exact⟨o,e,ex.2.1⟩
  ·obtain⟨o,_,_,_,e,ex,_⟩:=I.hok p _ hk
   refine⟨⟨o,e,ex.1⟩,λa e2=>?_⟩;cases e2;exact⟨o,e,ex.2.1⟩
 | _=>exact False.elim ty
def Tm0(K:W.Frag)(T:String)(r:V->List V->Hp->VK->Prop)(to:TE):TE:=fun σ H Q=>to σ H λx H1=>tyV K T x H1/\r x [] H1 Q
def tBM(K:W.Frag)(T:String)(r:V->List V->Hp->VK->Prop)(to:TE)(t:TA):TE:=fun σ H Q=>to σ H λx H1=>tyV K T x H1/\t σ H1 λxs H2=>r x xs H2 Q
variable{to:TE}{t:TA}{T id:String}{r:V->List V->Hp->VK->Prop}
theorem We0(pa:PlainAttrs T)(slot:Slot T name id)(hty:typeOf (.builtin id)=pure (.type "method_descriptor"))(hm:MtR X id r)(ho:PE X o to)
  (hbase:attributeBase o name X.env (eval o X.env)=eval o X.env:=by rfl) (hline:(apos.endLine==cpos.line)=true:=by rfl):PE X (.Call (.Attribute o name apos) [] [] cpos) (Tm0 X.K T r to):=by
 intro pins s σ H Q I h;refine wpAny_Call_method0_late hbase hline (thn (ho pins s σ H _ I h) λv s1 ⟨x,H1,I1,r1,ty,q1⟩=>?_);obtain⟨h1,h2⟩:=f60 I1 r1 ty;exact⟨T,id,pa,slot,hty,h1,h2,Bk0 rfl (PySem.evalArgs_none (hm pins s1 σ H1 x [] v [] Q I1 r1 .nil q1))⟩
theorem pm0(pa:PlainAttrs T)(slot:Slot T name id)(hty:typeOf (.builtin id)=pure (.type "method_descriptor"))(hm:MtR X id r)(ho:PE X o to)(ha:PA X (e::es) t)
  (hbase:attributeBase o name X.env (eval o X.env)=eval o X.env:=by rfl)
  (hfew:((backTo cpos (starEach (e::es) X.env)).all (λx=>!x.1)&&(backToKw cpos (keywordEach [] X.env)).all (λx=>x.1.isSome)
  &&decide ((e::es).length+([]:List Keyword).length+(if ([]:List Keyword).isEmpty then 0 else 1)<30))=true:=by rfl)
  (hline:(apos.endLine==cpos.line)=true:=by rfl) (hs:starEach (e::es) X.env=(false,eval e X.env)::starEach es X.env:=by rfl) (hplain:(backTo cpos (starEach es X.env)).any (·.1)=false:=by rfl) :
  PE X (.Call (.Attribute o name apos) (e::es) [] cpos) (tBM X.K T r to t):=by
 intro pins s σ H Q I h;refine wpAny_Call_method_late hbase hfew hline rfl (thn (ho pins s σ H _ I h) λv s1 ⟨x,H1,I1,r1,ty,q1⟩=>?_);obtain⟨h1,h2⟩:=f60 I1 r1 ty;refine⟨T,id,pa,slot,hty,h1,h2,?_⟩;have hA:=ha cpos pins s1 σ H1 _ I1 q1;rw[hs] at hA ⊢;refine Bk0 (by show (false||(backTo cpos (starEach es X.env)).any (·.1))=false;rw[hplain]<;>rfl) (Calls.evalArgs_plain ?_);exact thn hA λus s2 ⟨vs,H2,I2,r2,q2⟩=>hm pins s2 σ H2 x vs v us Q I2 r1 r2 q2
end
def MtM(X:Cx)(id:String)(r:V->List V->Hp->VK->Prop):Prop :=
 ∀(pins:List (Addr×Obj)) (s:Shared) (σ:St) (H:Hp) (x:V) (xs:List V) (v:Value) (us:List Value) (Q:VK),Inv X pins σ H s->RelV x v->Vals xs us->r x xs H Q ->
  wpAny (model X.prog X.w) X.A (call (.builtin id) (v::us)) (EP X pins σ Q) X.xe s
theorem Vals.one:∀{x:V} {us:List Value},Vals [x] us->∃u,us=[u]/\RelV x u
 | _,_,.cons r .nil=>⟨_,rfl,r⟩
theorem Vals.two:∀{x y:V} {us:List Value},Vals [x,y] us->∃u v,us=[u,v]/\RelV x u/\RelV y v
 | _,_,_,.cons r (.cons q .nil)=>⟨_,_,rfl,r,q⟩
theorem Vals.zero:∀{us:List Value},Vals [] us->us=[]
 | _,.nil=>rfl
theorem Vals.dropLast{xs:List V}(h:Vals xs us):Vals xs.dropLast us.dropLast:=by
 induction h with
 | nil=>exact .nil
 | cons r t ih =>
  cases t with
  | nil=>exact .nil
  | cons q t'=>exact .cons r ih
theorem Vals.reverse{xs:List V}(h:Vals xs us):Vals xs.reverse us.reverse:=by
 induction h with
 | nil=>exact .nil
 | cons r t ih=>rw[List.reverse_cons,List.reverse_cons];exact Vals.append ih (.cons r .nil)
theorem Vals.rep{xs:List V}(h:Vals xs us):∀k:Nat,Vals (List.replicate k xs).flatten (List.replicate k us).flatten
 | 0=>.nil
 | k+1=>by
  rw[List.replicate_succ,List.replicate_succ,List.flatten_cons,List.flatten_cons];exact Vals.append h (Vals.rep h k)
theorem h50(l:List α):l.eraseIdx (l.length - 1)=l.dropLast:=by
 induction l with
 | nil=>rfl
 | cons a r ih =>
  cases r with
  | nil=>rfl
  | cons b r =>
   have e:(a::b::r).length - 1=((b::r).length - 1)+1:=by
    have h1:(a::b::r).length=r.length+2:=rfl;have h2:(b::r).length=r.length+1:=rfl;omega
   rw[e,List.eraseIdx_cons_succ,ih]
   all_goals rfl
theorem foldl_rep(its:List Value):∀(k:Nat) (acc:List Value),
  List.foldl (λx1 x2=>x1++x2) acc.toArray (List.replicate k its.toArray)=(acc++(List.replicate k its).flatten).toArray
 | 0,acc=>by simp
 | k+1,acc=>by
  have e:acc.toArray++its.toArray=(acc++its).toArray:=by simp
  have e2:(acc++its)++(List.replicate k its).flatten=acc++(List.replicate (k+1) its).flatten:=by
   rw[List.replicate_succ,List.flatten_cons,List.append_assoc]
  rw[← e2,← foldl_rep its k (acc++its),← e,List.replicate_succ,List.foldl_cons]
section
variable{X:Cx}{σ:St}{s:Shared}{l b:Addr}{xs ys zs:List V}
theorem Inv.lset{its its':List Value}{n:Nat}{f:Array Value->Array Value}{t':Nat}(I:Inv X pins σ H s)(hH:H l=some (.lst xs))
  (e:s.heap.get? l=some { cls:=.type "list",data:=.seq its.toArray n }) (hf:f its.toArray=its'.toArray) (hv:Vals ys its') (hz:ys.length<=sizeLine) :
  Inv X pins σ (upd H l (.lst ys)) { s with heap:=s.heap.update l (Obj.mapSeq f),toks:=t' }:=by
 have q:=PySem.IsL.update e f;rw[hf] at q;refine I.write (x:=l) (e:=l) (by rw[hH];exact trivial) (.inl rfl) (λb' u hb hu=>(P4 s.heap (Obj.mapSeq f) (C0 hb)).trans hu) ⟨_,q⟩ ?_;exact⟨hz,its',_,hv,q⟩
theorem Inv.lnew{its:List Value}{t':Nat}(I:Inv X pins σ H s)(hv:Vals ys its)(hz:ys.length<=sizeLine) :
  Inv X pins σ (upd H s.heap.objs.size (.lst ys)) { s with heap:=s.heap.push { cls:=.type "list",data:=.seq its.toArray },toks:=t' } :=
 I.laid (λ_ _ q=>A7 _ q) (A2 _) ⟨hz,its,0,hv,B3 _ rfl⟩
theorem Inv.fresh(I:Inv X pins σ H s):H s.heap.objs.size=none:=I.hok.fresh (A2 _)
theorem Inv.lstM(I:Inv X pins σ H s)(hH:H l=some (.lst xs)):xs.length<=sizeLine/\∃(its:List Value) (n:Nat),Vals xs its/\xs.length=its.length/\s.heap.get? l=some { cls:=.type "list",data:=.seq its.toArray n }:=by
 obtain⟨z,its,n,r,e⟩:=I.hok l _ hH;exact⟨z,its,n,r,r.length,e⟩
theorem c40(h:n<=sizeLine):Builtin.List.listTooLong n=false:=by
 unfold Builtin.List.listTooLong;exact P1 (by omega)
end
section
variable{X:Cx}
def ar0:V->List V->Hp->VK->Prop:=λx vs H Q=>∃l xs y,x=.ref l/\vs=[y]/\H l=some (.lst xs)/\xs.length<sizeLine/\Q .non (upd H l (.lst (xs++[y])))
theorem sa0:MtM X "list.append" ar0:=by
 intro pins s σ H x vs v us Q I rx rv h;obtain⟨l,xs,y,rfl,rfl,hH,hz,q⟩:=h;cases rx;obtain⟨u,rfl,ru⟩:=rv.one;obtain⟨z,its,n,r,hl,e⟩:=I.lstM hH;refine M2 F.slot_list_append ⟨_,e,rfl⟩ F.entry_list_append (F.args_list_append_2 _ _) (PySem.list_append l its.toArray n u (by rw[List.size_toArray];omega)) ⟨e,?_⟩;refine⟨.non,_,I.lset (its':=its++[u]) hH e (by simp) (r.append (.cons ru .nil)) ?_,rfl,q⟩;rw[List.length_append,List.length_singleton];omega
def Ty0:V->List V->Hp->VK->Prop:=λx vs H Q=>∃l xs y,x=.ref l/\vs=[]/\H l=some (.lst xs)/\xs[xs.length - 1]?=some y/\Q y (upd H l (.lst xs.dropLast))
theorem W50:MtM X "list.pop" Ty0:=by
 intro pins s σ H x vs v us Q I rx rv h;obtain⟨l,xs,y,rfl,rfl,hH,hy,q⟩:=h;cases rx;have hus:=rv.zero;subst hus;obtain⟨z,its,n,r,hl,e⟩:=I.lstM hH;obtain⟨u,hu,ru⟩:=r.get hy;have hy':its.toArray[its.toArray.size - 1]?=some u:=by
  show its.toArray[its.length - 1]?=some u;rw[← Array.getElem?_toList,← hl];exact hu
 refine M2 F.slot_list_pop ⟨_,e,rfl⟩ F.entry_list_pop (F.args_list_pop_1 _) (MeetsSeq.list_pop_last l its.toArray n u hy' (by rw[List.size_toArray];omega)) ⟨e,?_⟩;refine⟨y,_,I.lset (its':=its.dropLast) hH e ?_ r.dropLast ?_,ru,q⟩
 ·show its.toArray.eraseIdxIfInBounds (its.toArray.size - 1)=its.dropLast.toArray
  rw[List.size_toArray,List.eraseIdxIfInBounds_toArray,h50]
 ·rw[List.length_dropLast]
  omega
theorem len_rep(xs:List α)(k:Nat):(List.replicate k xs).flatten.length=k*xs.length:=by
 induction k with
 | zero=>simp
 | succ k ih=>rw[List.replicate_succ,List.flatten_cons,List.length_append,ih,Nat.succ_mul,Nat.add_comm]
end
end L2
namespace Att
open PySem.W PySem.Calls PyProof.Rows
theorem pb0{P:Params}{h:Heap}:∀(ns:List Int) (vs:List Value),WellAll P h vs (ns.map WData.int)->IntsAre vs ns:=by
 intro ns
 induction ns with
 | nil =>
  intro vs w;rw[List.map_nil] at w;cases w;exact .nil
 | cons n ns ih =>
  intro vs w;rw[List.map_cons] at w;cases w with
  | cons a b =>
   cases a;exact .cons _ _ (ih _ b)
theorem ey0{l:OpenLaw}(hn:l.most=some n){P:Params}{h:Heap}{args:List WData}{vals:List Value}
  (hpre:l.row.toRowW.claim.pre args=true) (hwl:WellAll P h vals args) :
  ∃a vs ns,vals=[Value.ref a]/\args=[WData.list (ns.map WData.int)]/\h.get? a=some { cls:=.type "list",data:=.seq vs.toArray }/\IntsAre vs ns/\ns.length<=n:=by
 have hsh:WShape.hasAll [] args [.list .int]=true:=(pre_splitW hpre).1;have hc:l.pre.holds [] { args:=args }=true:=(pre_splitW hpre).2;obtain⟨d,r,rfl,h1,h2⟩:=hasAllW_cons hsh;obtain rfl:=hasAllW_nil h2;obtain⟨xs,rfl,h3⟩:=hasW_list h1;obtain⟨ns,rfl⟩:=items_int h3;have hlen:ns.length<=n:=by
  unfold OpenLaw.pre at hc;have h4:(WTm.not (.lt (.lit (.int (n:Int))) (.len (.arg 0)))).holds [] { args:=[.list (ns.map .int)] }=true:=by
   have h4:=(holds_andW hc).1;rw[hn] at h4;exact h4
  have h5:=condW_of h4 (w_not (w_lt w_lit (w_len_list (w_arg rfl))));rw[List.length_map] at h5;refine Nat.le_of_not_lt λq=>?_
  have q':(n:Int)<((ns.length:Nat):Int):=by omega
  first
   | (rw[decide_eq_true q'] at h5;exact absurd h5 (by decide))
   | (simp at h5;omega)
 cases hwl with
 | cons w1 w2 =>
  cases w2;cases w1 with
  | list ho hall=>exact⟨_,_,ns,rfl,rfl,ho,pb0 ns _ hall,hlen⟩
theorem d30(l:OpenLaw)(args:List WData):l.row.toRowW.claim.post args (.bool true) args=true :=
 postW_of (r:=l.row.toRowW) (X:=(true==true))
  (show WShape.has [] (.bool true) .bool=true by first|rfl|decide|simp[WShape.has,WShape.arms,WShape.armsAll])
  (show (WTm.eq .res (.lit (.bool true))).value [] { args:=args,res:=some (.bool true),after:=args }=some (.bool (true==true)) from w_eq_bool (w_res rfl) w_lit) rfl
end Att
namespace L2
open Spec PyProof.Rows
theorem nh0:∀{vs:List Value} {ns:List Int},IntsAre vs ns->Vals (ns.map V.int) vs
 | _,_,.nil=>.nil
 | _,_,.cons n t h=>.cons ⟨t,rfl⟩ (nh0 h)
def Only(H:Hp):Prop:=∀b,H b=none∨∃o xs,H b=some (.frz o (.lst xs))
theorem dy0{P:Program}{w:World}{K:W.Frag}{mg mb:Str->Option Value}{CX:CXT}{k:Nat}{fa a:Addr}{fd:FuncData}{x:Str}{sp:Sp}{s₁:Shared}{vs:List Value}{ns:List Int}
  (KX:K.In s₁.heap) (hns:s₁.heap.Ns mainGlobals mg) (hb:s₁.heap.Ns builtinsNs mb) (hbb:∀x:Str,x ≠"__name__"->mb x=bootBuiltins x) (hlim:s₁.heap.NoLimit) (hg:s₁.gens=#[])
  (ha:s₁.heap.get? a=some { cls:=.type "list",data:=.seq vs.toArray }) (hi:IntsAre vs ns) (hl:ns.length<=sizeLine) (hr:Room k callerA)
  (F:∀base:Heap,K.In base->base.Ns mainGlobals mg->FnOk P w K mg base CX k fa fd [x] sp) (hbind:∀(s:Shared) (u:Value),BindsTo s fd ⟨[u],[]⟩ [(x,u)])
  (hsp:∀H:Hp,Only H->SqL K H a (ns.map V.int)->sp [.ref a] H (λv _=>v=.bl true) λ_ _ _=>False)
  (hCX:∀H e s',CX [] H s₁ (λ_ _ _=>False) e s'->False) :
  codeAny (model P w) callerA (.call (.ref fa) ⟨[.ref a],[]⟩) (λr s'=>r=.ok (.ret (.bool true))/\OldK s₁.heap s'.heap/\s'.os=s₁.os/\AllBare s'.gens) s₁:=by
 have rv:=nh0 hi;have lenV:=hi.length;have core:∀H:Hp,Only H->SqL K H a (ns.map V.int)->HOk P w H s₁.heap->(∀b,H b≠none->b=a)->(H a≠none->K.lookup a=none) ->
   codeAny (model P w) callerA (.call (.ref fa) ⟨[.ref a],[]⟩) (λr s'=>r=.ok (.ret (.bool true))/\OldK s₁.heap s'.heap/\s'.os=s₁.os/\AllBare s'.gens) s₁:=by
  intro H hO hS hok hA hK;have base_of:∀{b:Addr} {o:Obj},s₁.heap.get? b=some o->H b=none->(th0 s₁.heap H).get? b=some o:=λe n=>ch0 e n
  have noA:∀{b:Addr} {o:Obj} {es:Array DictEntry} {ep:Nat},s₁.heap.get? b=some o->o.data=.dict es ep->H b=none:=λ{b o es ep} e d=>by
   cases q:H b with
   | none=>rfl
   | some u =>
    have e':b=a:=hA b (by rw[q];simp);subst e';rw[ha] at e;cases e;have d':Data.seq vs.toArray _=Data.dict es ep:=d;cases d'
  have nsK:∀{b:Addr} {m:Str->Option Value},s₁.heap.Ns b m->(th0 s₁.heap H).Ns b m:=λ{b m} ⟨o,es,ep,e,d,r⟩=>⟨o,es,ep,base_of e (noA e d),d,r⟩
  have hKb:K.In (th0 s₁.heap H):=λb o e=>base_of (KX b o e) (by
   cases q:H b with
   | none=>rfl
   | some u =>
    have e':b=a:=hA b (by rw[q];simp);subst e';rw[hK (by rw[q];simp)] at e;cases e)
  have hM:Mod K mg (th0 s₁.heap H):=⟨hKb,nsK hns,⟨mb,nsK hb,hbb⟩,let ⟨mc,h1,h2⟩:=hlim;⟨mc,nsK h1,h2⟩⟩;have e0:Env0 P w K mg (th0 s₁.heap H) callerA [] s₁ H:=⟨rfl,hM,λb o e=>Zu0 e,j3 (d00 _ _),trivial,λb hb=>absurd (show b∈([]:List Addr) from hb) (by simp),hok,.of_eq hg⟩;refine x5 ((F _ hKb (nsK hns)).run callerA [] s₁ H ⟨[.ref a],[]⟩ [.ref a] [.ref a] _ _ hr e0 (hbind s₁ (.ref a)) (.cons rfl .nil) (hsp H hO hS)) λr s' h=>?_
  cases r with
  | error e=>exact(hCX H e s' h).elim
  | ok fl =>
   cases fl with
   | next=>exact False.elim h
   | brk=>exact False.elim h
   | cont=>exact False.elim h
   | ret u =>
    obtain⟨v,H',os,bare,un,hok',r',q⟩:=h;have q':v=.bl true:=q;subst q';obtain rfl:u=Value.bool true:=r';refine⟨rfl,OldK.of_keep λb o e=>?_,os,bare⟩;cases q:H b with
    | none=>exact un.keep b o e q (by intro z;exact absurd (show b∈([]:List Addr) from z) (by simp)) (by simp)
    | some u =>
     rcases hO b with z|⟨ob,xs,z⟩
     ·rw[q] at z;cases z
     ·have z2:=un.frzs b ob _ z
      obtain⟨e1,_⟩:=hok b _ z;obtain⟨e2,_⟩:=hok' b _ z2;rw[e] at e1;cases e1;exact e2
 cases hk:K.lookup a with
 | some o =>
  have e:=KX a o hk;rw[ha] at e;cases e;refine core (λ_=>none) (λ_=>.inl rfl) (.inr ⟨_,vs.toArray,_,hk,rfl,rfl,rfl,by rw[List.size_toArray,lenV];exact hl,by simpa using rv⟩) (λb u z=>by have z':(none:Option HO)=some u:=z;cases z') (λb z=>absurd rfl z) λz=>absurd rfl z
 | none =>
  refine core (λb=>if b=a then some (.frz { cls:=.type "list",data:=.seq vs.toArray } (.lst (ns.map V.int))) else none) (λb=>?_) (.inl (.inr ⟨{ cls:=.type "list",data:=.seq vs.toArray },if_pos rfl⟩)) (λb u z=>?_) (λb z=>?_) λ_=>hk
  ·by_cases hb:b=a
   ·exact .inr ⟨_,_,if_pos hb⟩
   ·exact .inl (if_neg hb)
  ·by_cases hb:b=a
   ·have z':=(if_pos hb).symm.trans z
    cases z';subst hb;exact⟨ha,by rw[List.length_map];exact hl,vs,_,rv,ha⟩
   ·have z':=(if_neg hb).symm.trans z
    cases z'
  ·by_cases hb:b=a
   ·exact hb
   ·exact absurd (if_neg hb) z
def S9(s:Stmt):Arguments:=match s with
 | .FunctionDef _ a _ _ _ _ _ _ _ _=>a
 | _=>{ posonlyargs:=[],args:=[],vararg:=none,kwonlyargs:=[],kw_defaults:=[],kwarg:=none,defaults:=[] }
def W6(s:Stmt):List Stmt:=match s with
 | .FunctionDef _ _ b _ _ _ _ _ _ _=>b
 | _=>[]
def t6(s:Stmt):Scope:=match s with
 | .FunctionDef _ _ _ _ _ _ sc _ _ _=>sc
 | _=>{ kind:=.function,names:=[],isGenerator:=false,isCoroutine:=false }
abbrev CX0:CXT:=λ_ _ _ _ _ _=>False
abbrev E0:XK:=λ_ _ _=>False
theorem mc0{X:Cx}:l00 CX0 X E0:=λ_ _ _ _ _ _ _ h=>h.elim
structure Fun(K:W.Frag)(x qual:Str)(st:Stmt)(f:Addr)(fd:FuncData):Prop where
 ex:∃(oc:Value) (od:Option Addr) (kV doc pm:Value) (an:Option Addr) (cdv ct:Value) (osl:Array (Option Value)),
  fd=W.fnOf x qual (S9 st) (W6 st) (t6 st) .none kV doc pm an cdv ct/\K.lookup f=some ⟨oc,od,.func fd,osl⟩/\W.codeIn K cdv qual=true
 kp:W.keepIn K (.ref f)=true
section
variable{P:Program}{w:World}
theorem Fun.ok{f:Addr}{fd:FuncData}{k:Nat}(F:Fun K x qual st f fd)(S:FnScope N ps (t6 st))(len:∀vs H Q E,sp vs H Q E->vs.length=ps.length)
  (hbody:∀(cdv:Value) (A:Around) (outer:List Env) (s:Shared) (H:Hp) (vs:List V) (Q:VK) (E:XK),Room k (A.deeper (envOfC qual (t6 st) s.heap.objs.size f cdv))->sp vs H Q E ->
   ∃t,PSs (ws0 CX0 P w K mg base N qual (t6 st) f cdv A outer s H E).nox (W6 st) t/\t { nx:=λ_ H'=>Q .non H',rt:=Q } (start N vs) H):FnOk P w K mg base CX0 (k+1) f fd ps sp:=by
 obtain⟨oc,od,kV,doc,pm,an,cdv,ct,osl,rfl,lk,hcd⟩:=F.ex;refine bv0 lk hcd S len λA outer s H vs Q E hr hsp=>?_
 obtain⟨t,h,q⟩:=hbody cdv A outer s H vs Q E hr hsp;exact⟨t,h.nox,q⟩
theorem Fun.binds{f:Addr}{fd:FuncData}{ps:List Str}(F:Fun K x qual st f fd)
  (h:∀(kV doc pm:Value) (an:Option Addr) (cdv ct:Value) (us:List Value),us.length=ps.length->bindArgs (W.fnOf x qual (S9 st) (W6 st) (t6 st) .none kV doc pm an cdv ct) ⟨us,[]⟩=pure (ps.zip us)):Binds K fd ps []:=by
 obtain⟨oc,od,kV,doc,pm,an,cdv,ct,osl,rfl,lk,hcd⟩:=F.ex;exact .all (h kV doc pm an cdv ct)
theorem ev0{f:Addr}{kV:Value}(l:K.lookup f=some ⟨oc,od,.func (W.fnOf x qual (S9 st) (W6 st) (t6 st) .none kV doc pm an cdv ct),osl⟩)
  (c:W.codeIn K cdv qual=true) (k:W.keepIn K (.ref f)=true):Fun K x qual st f (W.fnOf x qual (S9 st) (W6 st) (t6 st) .none kV doc pm an cdv ct):=⟨⟨oc,od,kV,doc,pm,an,cdv,ct,osl,rfl,l,c⟩,k⟩
end
theorem yh0{k:Nat}(hr:Room k A):A.units+1<cLine:=U2 (Ab0 (by decide:1<=64) _) hr.units
def Same(H H':Hp):Prop:=∀b o,H b=some o->H' b=some o
theorem Same.refl(H:Hp):Same H H:=λ_ _ h=>h
theorem Same.trans{H1:Hp}(a:Same H H1)(b:Same H1 H2):Same H H2:=λc o h=>b c o (a c o h)
theorem Same.free(e:Same H H'){l:Addr}(h:H' l=Option.none):H l=Option.none:=by
 cases q:H l with
 | none=>rfl
 | some o =>
  rw[e l o q] at h;cases h
def X8(X:Cx)(scope:Scope)(cl:List (Str×Addr))(N':List Str)(s:Shared)(H:Hp)(ex:List Addr):Cx :=
 { X with N:=N',s₀:=s,H₀:=H,env:=compEnvC scope cl s.heap.objs.size X.env,outer:=X.stack,ex:=ex,fn:=λ_=>false,pn:=[],xe:=λ_ _=>False }
structure CompOk(sc scope:Scope)(N N':List Str)(n:Nat)(caps:List Nat):Prop where
 kind:scope.kind=.function
 nocell:∀y∈scope.names,y.2≠.cell
 loc:∀y∈scope.names,y.2=.local->scope.names.lookup y.1=some .local
 free:∀y∈scope.names,y.2=.free->sc.names.lookup y.1=some .cell∨sc.names.lookup y.1=some .free
 nd:N'.Nodup
 len:N'.length=n+caps.length
 cap:∀k∈List.range caps.length,N'[n+k]?=(caps[k]?).bind (N[·]?)/\(N'[n+k]?).all (λy=>scope.names.lookup y==some .free)=true
def J5(n:Nat)(caps:List Nat)(σ:St):St:=List.replicate n none++caps.map λj=>(σ[j]?).join
theorem fm0(n:Nat)(caps:List Nat)(σ:St):(J5 n caps σ).length=n+caps.length:=by simp[J5]
theorem u60{env:Env}:∀(names:List (Str×NameKind)),(∀x∈names,x.2=.free->∃c,env.cells.lookup x.1=some c)->∀acc:List (Str×Addr),
  ∃cl:List (Str×Addr),(forIn names acc (λ(x:Str×NameKind) (cs:List (Str×Addr))=>if (x.2==.free)=true then do let a ← cellOf env x.1;pure (ForInStep.yield ((x.1,a)::cs)) else pure (ForInStep.yield cs)):Sem (List (Str×Addr)))=pure cl /\
   (∀y c,cl.lookup y=some c->env.cells.lookup y=some c∨acc.lookup y=some c)/\(∀x∈names,x.2=.free->∃c,cl.lookup x.1=some c)/\(∀y c,acc.lookup y=some c->∃c',cl.lookup y=some c')
 | [],_,acc=>⟨acc,rfl,λ_ _ h=>.inr h,(λ_ h=>nomatch h),λ_ c h=>⟨c,h⟩⟩
 | (n,k)::r,h,acc=>by
  cases hk:(k==NameKind.free) with
  | true =>
   have hk':k=.free:=by simpa using hk
   obtain⟨c,hc⟩:=h (n,k) A5 hk';obtain⟨cl,e,h1,h2,h3⟩:=u60 r (λx hx=>h x (A4 _ hx)) ((n,c)::acc);refine⟨cl,?_,λy d hy=>?_,λx hx hf=>?_,λy d hy=>?_⟩
   ·rw[List.forIn_cons]
    simp only[hk,if_true,cellOf,hc,pure_bind];exact e
   ·rcases h1 y d hy with z|z
    ·exact .inl z
    ·rw[List.lookup_cons] at z
     cases q:(y==n) with
     | true =>
      rw[q] at z;cases z;have:y=n:=by simpa using q
      subst this;exact .inl hc
     | false =>
      rw[q] at z;exact .inr z
   ·rcases A9.mp hx with rfl|hx
    ·exact h3 n c (by simp[List.lookup_cons])
    ·exact h2 x hx hf
   ·by_cases q:y=n
    ·subst q
     exact h3 y c (by simp[List.lookup_cons])
    ·refine h3 y d ?_
     have:(y==n)=false:=by simpa using q
     rw[List.lookup_cons,this];exact hy
  | false =>
   obtain⟨cl,e,h1,h2,h3⟩:=u60 r (λx hx=>h x (A4 _ hx)) acc;refine⟨cl,?_,h1,λx hx hf=>?_,h3⟩
   ·rw[List.forIn_cons]
    simp only[hk,Bool.false_eq_true,if_false,pure_bind];exact e
   ·rcases A9.mp hx with rfl|hx
    ·have:k=.free:=hf
     rw[this] at hk;exact absurd hk (by decide)
    ·exact h2 x hx hf
theorem uc0{env:Env}(h:∀x∈scope.names,x.2=.free->∃c,env.cells.lookup x.1=some c) :
  ∃cl:List (Str×Addr),closureFor scope env=pure cl/\(∀y c,cl.lookup y=some c->env.cells.lookup y=some c)/\∀x∈scope.names,x.2=.free->∃c,cl.lookup x.1=some c:=by
 obtain⟨cl,e,h1,h2,_⟩:=u60 scope.names h [];refine⟨cl,?_,λy c hy=>(h1 y c hy).elim id (λz=>nomatch z),h2⟩;simp only[closureFor];rw[← bind_pure (forIn _ _ _)] at e
 first
  | exact e
  | (refine Eq.trans ?_ e;rfl)
theorem xz0{env:Env}:∀(names:List (Str×NameKind)) (x:Str),
  (names.map λ(n,k)=>if (k==NameKind.free&&env.scope.kind==.function&&env.kindOf n==some .cell) then (n,NameKind.cell) else (n,k)).lookup x =
   (names.lookup x).map λk=>if (k==NameKind.free&&env.scope.kind==.function&&env.kindOf x==some .cell)=true then NameKind.cell else k
 | [],_=>rfl
 | (n,k)::r,x=>by
  have ih:=@xz0 env r x;have l1:List.lookup x (((n,k)::r).map λ(n,k)=>if (k==NameKind.free&&env.scope.kind==.function&&env.kindOf n==some .cell) then (n,NameKind.cell) else (n,k)) =
    List.lookup x ((if (k==NameKind.free&&env.scope.kind==.function&&env.kindOf n==some .cell)=true then (n,NameKind.cell) else (n,k))::r.map λ(n,k)=>if (k==NameKind.free&&env.scope.kind==.function&&env.kindOf n==some .cell) then (n,NameKind.cell) else (n,k)):=rfl
  rw[l1,List.lookup_cons (as:=r)]
  by_cases hc:(k==NameKind.free&&env.scope.kind==.function&&env.kindOf n==some .cell)=true
  ·rw[if_pos hc,List.lookup_cons]
   cases hx:x==n with
   | true =>
    have e:x=n:=by simpa using hx
    subst e;show some NameKind.cell=some (if (k==NameKind.free&&env.scope.kind==.function&&env.kindOf x==some .cell)=true then NameKind.cell else k);rw[if_pos hc]
   | false=>exact ih
  ·rw[if_neg hc,List.lookup_cons]
   cases hx:x==n with
   | true =>
    have e:x=n:=by simpa using hx
    subst e;show some k=some (if (k==NameKind.free&&env.scope.kind==.function&&env.kindOf x==some .cell)=true then NameKind.cell else k);rw[if_neg hc]
   | false=>exact ih
section
variable{w:World}{s:Shared}
theorem k00{elt target iter:Expr}{ifs:List Expr}{scope:Scope}{pos:Pos}{it acc:Value}{env:Env}(I:Nat->Shared->Prop)
  (turn:∀n s,I n s->wpAny (model prog w) A (pyNext it) (λr s₁=>match r with
   | none=>R (.ok .next) s₁
   | some v=>wpAny (model prog w) A (letOwnedTupleGo target it v) (λ_ s₁'=>wpAny (model prog w) A (assign target env v) (λ_ s₂ =>
     wpAny (model prog w) A (forIn ifs true λc r=>if r=true then do let ok ← isTrue c env (eval c env);pure (ForInStep.yield ok) else pure (ForInStep.yield r)) (λok s₃ =>
      if ok=true then wpAny (model prog w) A (eval elt env) (λx s₄ =>
       wpAny (model prog w) A (call (.builtin "list.append") [acc,x]) (λ_ s₅=>∃m,m<n/\I m s₅) (λ_ _=>False) s₄) (λ_ _=>False) s₃
      else ∃m,m<n/\I m s₃) (λ_ _=>False) s₂) (λ_ _=>False) s₁') (λ_ _=>False) s₁) (λ_ _=>False) s)
  (n:Nat) (h:I n s) :
  codeAny (model prog w) A (.compLoop (.ListComp elt [⟨target,iter,ifs,0⟩] scope pos) 0 it acc env) R s:=by
 refine codeAny_loop rfl I (λn s hI=>?_) n h;show wpAny _ A ((compTurn (.ListComp elt [⟨target,iter,ifs,0⟩] scope pos) 0 it acc env).onRaise (λx=>do noteFrame x env;theTreesLotGoes x)) _ _ s;refine wpAny_noted ?_;rw[compTurn_list];refine A0 (i0 (A0 (D1 (turn n s hI) (λr s₁ h₁=>?_) λ_ _ h'=>h'.elim)));cases r with
 | none=>exact A1 h₁
 | some v =>
  refine A0 (D1 h₁ (λ_ s₁' h₁'=>?_) λ_ _ h'=>h'.elim);refine A0 (D1 h₁' (λ_ s₂ h₂=>A0 (D1 h₂ (λok s₃ h₃=>?_) λ_ _ h'=>h'.elim)) λ_ _ h'=>h'.elim);cases ok with
  | false=>exact A1 ⟨rfl,h₃⟩
  | true =>
   exact A0 (A0 (D1 h₃ (λx s₄ h₄=>A0 (D1 h₄ (λ_ s₅ h₅=>A1 (A1 ⟨rfl,h₅⟩)) λ_ _ h'=>h'.elim)) λ_ _ h'=>h'.elim))
end
def PF(X:Cx)(ifs:List Expr)(t:TT):Prop :=
 ∀(pins:List (Addr×Obj)) (s:Shared) (σ:St) (H:Hp) (Q:Bool->Hp->Prop),Inv X pins σ H s->t σ H Q ->
  wpAny (model X.prog X.w) X.A (forIn ifs true λc r=>if r=true then do let ok ← isTrue c X.env (eval c X.env);pure (ForInStep.yield ok) else pure (ForInStep.yield r)) (TP X pins σ Q) X.xe s
theorem Xz0{X:Cx}:PF X [] λ_ H Q=>Q true H:=λ_ _ _ H _ I h=>wpAny_tests_nil ⟨H,I,h⟩
theorem W60{X:Cx}{t:TT}(h:PT X c t):PF X [c] t:=λpins s σ H Q I q=>wpAny_tests_one (h pins s σ H Q I q)
def Wk(σ σ':St):Prop:=σ'.length=σ.length/\∀(j:Nat) (v:V),σ[j]?=some (some v)->σ'[j]?=some (some v)
def gu0(n:Nat)(caps:List Nat)(wi:TI)(g:TG)(tt:TT)(te:TE):TE:=fun σ H Q=>wi σ H λJ H1=>∀D,H1 D=none ->
 ∃W:Nat->Nat->List V->Hp->Prop,(∃m,W 0 m [] (upd H1 D (.lst [])))/\∀i m ys H2,W i m ys H2 ->
  (J.stop i H2/\Q (.ref D) H2)∨(J.go i H2/\∀x H3,J.yld i H2 x H3->g x (J5 n caps σ) H3 fun σ4 H4=>Wk (J5 n caps σ) σ4/\tt σ4 H4 λb H5 =>
   if b=true then te σ4 H5 λy H6=>H6 D=some (.lst ys)/\ys.length<sizeLine/\∃m',m'<m/\W (i+1) m' (ys++[y]) (upd H6 D (.lst (ys++[y]))) else ∃m',m'<m/\W (i+1) m' ys H5)
section
variable{X:Cx}{tg:Expr}{wi:TI}{g:TG}{tt:TT}
def Uy0(X:Cx)(pins:List (Addr×Obj))(H:Hp)(C:Addr):Prop :=
 H C=none/\C≠X.env.locals/\X.s₀.heap.objs.size<=C/\(∀x c,X.env.cells.lookup x=some c->c≠C)/\∀p∈X.pn++pins,p.1≠C
theorem ou0{pins:List (Addr×Obj)}{σ:St}{H2:Hp}{s2:Shared}{it:Addr}{fp:List Addr}{tn:Nat->Heap->Prop}{J:It}{cl:List (Str×Addr)}{Q:VK}{RR:Value->Addr->Result->Shared->Prop}{E:Value->Shared->Prop}
  (hc:X.calm=true) (hsc:X.env.scope=sc) (ok:CompOk sc scope X.N N' n caps)
  (hcl1:∀y c,cl.lookup y=some c->X.env.cells.lookup y=some c) (hcl2:∀x∈scope.names,x.2=.free->∃c,cl.lookup x.1=some c)
  (hg:∀s H ex,PG (X8 X scope cl N' s H ex) tg g) (ht:∀s H ex,PF (X8 X scope cl N' s H ex) ifs tt) (he:∀s H ex,PE (X8 X scope cl N' s H ex) elt te)
  (I2:Inv X pins σ H2 s2) (T:Turn X.prog X.w X.K tg J fp it tn) (st2:tn 0 s2.heap) (f2:∀b∈fp,vm0 X pins H2 b)
  (q:∀D,H2 D=none->∃W:Nat->Nat->List V->Hp->Prop,(∃m,W 0 m [] (upd H2 D (.lst [])))/\∀i m ys H2,W i m ys H2 ->
   (J.stop i H2/\Q (.ref D) H2)∨(J.go i H2/\∀x H3,J.yld i H2 x H3->g x (J5 n caps σ) H3 fun σ4 H4=>Wk (J5 n caps σ) σ4/\tt σ4 H4 λb H5 =>
    if b=true then te σ4 H5 λy H6=>H6 D=some (.lst ys)/\ys.length<sizeLine/\∃m',m'<m/\W (i+1) m' (ys++[y]) (upd H6 D (.lst (ys++[y]))) else ∃m',m'<m/\W (i+1) m' ys H5))
  (hend:∀(D C:Addr) (H':Hp) (s':Shared) (m:Str->Option Value),Inv X pins σ H' s'->Uy0 X pins H' C->s'.heap.Ns C m->Q (.ref D) H'->RR (.ref D) C (.ok .next) s') :
  wpAny (model X.prog X.w) X.A (newList []) (λacc s₃=>wpAny (model X.prog X.w) X.A (newFunctionEnv scope X.env.globals cl [] X.env.qual none .none (some X.env)) (λcenv s₄ =>
   codeAny (model X.prog X.w) X.A (.compStart (.ListComp elt [⟨tg,iter,ifs,0⟩] scope pos) 0 (.ref it) acc { cenv with scope:=relabel scope X.env }) (RR acc cenv.locals) s₄) E s₃) E s2:=by
 refine E4 (wpAny_newFunctionEnv ok.nocell (by intro y hy;simp at hy) (λh₁ hns₁ hsb₁=>?_) ok.kind);dsimp only at hns₁ hsb₁ ⊢;obtain⟨D,hD⟩:∃D,D=s2.heap.objs.size:=⟨_,rfl⟩;have I3:Inv X pins σ (upd H2 s2.heap.objs.size (.lst [])) { s2 with heap:=s2.heap.push { cls:=.type "list",data:=.seq ([]:List Value).toArray } }:=I2.lnew (its:=[]) (t':=s2.toks) .nil (C5 _);have hfD:H2 s2.heap.objs.size=none:=I2.fresh;obtain⟨W,⟨m0,w0⟩,turn⟩:=q s2.heap.objs.size hfD;generalize hs3:({ s2 with heap:=s2.heap.push { cls:=.type "list",data:=.seq ([]:List Value).toArray } }:Shared)=s3 at *;have hs3h:s2.heap.push { cls:=.type "list",data:=.seq ([]:List Value).toArray }=s3.heap:=by rw[← hs3]
 have hs3t:s2.toks=s3.toks:=by rw[← hs3]
 rw[hs3h] at hns₁ hsb₁ ⊢;generalize hH3:upd H2 s2.heap.objs.size (HO.lst [])=H3 at *;rw[← hD] at turn hH3 hfD ⊢;have old:∀b o,s3.heap.get? b=some o->h₁.get? b=some o:=λb o e=>hsb₁.extBut b o (A8 (A3 e)) (A7 _ e)
 have old2:∀b o,s2.heap.get? b=some o->s3.heap.get? b=some o:=λb o e=>by rw[← hs3h];exact A7 _ e
 have fpl:∀b∈fp,b<s3.heap.objs.size:=λb hb=>by
  obtain⟨o,e,_⟩:=T.obj _ _ st2 b hb;exact A3 (old2 b o e)
 have fpD:∀b∈fp,b≠D:=λb hb z=>by
  obtain⟨o,e,_⟩:=T.obj _ _ st2 b hb;rw[z,hD] at e;exact absurd (A3 e) (D4 _)
 obtain⟨X',hX'⟩:∃X',X'=X8 X scope cl N' s3 H3 fp:=⟨_,rfl⟩;have okX:X'.Ok:=by
  subst hX';refine⟨I3.ok.mod,ok.kind,I3.ok.glob,I3.ok.blt,A2 _,λx y c h1 h2=>I3.ok.inj x y c (hcl1 x c h1) (hcl1 y c h2),λx hx=>?_,λx c h _=>absurd h (by simp[X8]),I3.ok.hd,I3.ok.frames,.inl rfl,
   λb hb=>⟨A8 (fpl b hb),λx c e=>(f2 b hb).2.2.2.2.1 x c (hcl1 x c e)⟩,λb o e=>I3.bs b o e,B7 I3.ok.bsz I3.sz,λb o e hb=>?_,λb hb hf=>?_,I3.stack,I3.stkFree⟩
  ·have hx':((relabel scope X.env).names.lookup x=some .cell)∨((relabel scope X.env).names.lookup x=some .free):=hx
   have q2:=xz0 (env:=X.env) scope.names x;have q3:(relabel scope X.env).names.lookup x=(scope.names.lookup x).map λk=>if (k==NameKind.free&&X.env.scope.kind==.function&&X.env.kindOf x==some .cell)=true then NameKind.cell else k:=q2
   cases e:scope.names.lookup x with
   | none =>
    rw[q3,e] at hx';rcases hx' with z|z<;>cases z
   | some k =>
    have hk:k=.free:=by
     rw[q3,e] at hx';have nc:=ok.nocell (x,k) (E8 e);cases k<;>first
      | rfl
      | exact absurd rfl nc
      | (rcases hx' with z|z<;>simp at z)
    subst hk;exact hcl2 (x,.free) (E8 e) rfl
  ·rcases (f2 b hb).2.2.2.1 with z|z
   ·exact I3.ok.noex b o e z
   ·exact absurd (B1 (A3 (I3.ok.bs b o e).1) z) (D4 _)
  ·rcases A9.mp (I3.stkSub b hf) with z|z
   ·exact(f2 b hb).2.1 z
   ·exact(f2 b hb).2.2.1 z
 have I4:Inv X' [] (J5 n caps σ) H3 { s3 with heap:=h₁,toks:=s2.toks+([]:List (Str×Value)).length }:=by
  refine⟨okX,?_,?_,?_,?_,λx c e=>?_,?_,λx c e=>?_,λp hp=>?_,(by subst hX';exact I3.hok.kept old),?_⟩
  ·subst hX';rfl
  ·exact I3.bare
  ·subst hX';exact Un.kept old
  ·subst hX'
   refine⟨_,hns₁,λi x v e1 e2 e3=>?_⟩;have hi:n<=i:=by
    by_cases hi:i<n
    ·unfold J5 at e2
     rw[List.getElem?_append_left (by simpa using hi),List.getElem?_replicate,if_pos hi] at e2;cases e2
    ·omega
   obtain⟨k,rfl⟩:∃k,i=n+k:=⟨i - n,by omega⟩;have hk:k<caps.length:=by
    have:=(D0.mp e1).1;have e5:(X8 X scope cl N' s3 H3 fp).N.length=n+caps.length:=ok.len;omega
   obtain⟨c1,c2⟩:=ok.cap k (C3.mpr hk);have e1':N'[n+k]?=some x:=e1;unfold J5 at e2;rw[List.getElem?_append_right (by simp),List.length_replicate,Nat.add_sub_cancel_left,List.getElem?_map] at e2;obtain⟨j,hj⟩:∃j,caps[k]?=some j:=⟨caps[k],by simp[hk]⟩;rw[hj] at e2 c1;have hj2:X.N[j]?=some x:=by rw[← e1',c1];rfl
   have e2':(σ[j]?).join=some v:=B6 e2;have e2'':σ[j]?=some (some v):=by
    cases q:σ[j]? with
    | none=>rw[q] at e2';cases e2'
    | some o=>rw[q] at e2';rw[show o=some v from e2']
   rw[e1'] at c2;have hfree:scope.names.lookup x=some .free:=by simpa using c2
   have hvis:=ok.free (x,.free) (E8 hfree) rfl;obtain⟨m,hn,hl⟩:=I3.loc;obtain⟨u,ru,l⟩:=hl j x v hj2 e2'' (by
    rcases hvis with z|z
    ·exact .inr (.inl (by rw[hsc];exact z))
    ·exact .inr (.inr (by rw[hsc];exact z)))
   refine⟨u,ru,.inr ⟨?_,?_⟩⟩
   ·have q3:(relabel scope X.env).names.lookup x=(scope.names.lookup x).map λk=>if (k==NameKind.free&&X.env.scope.kind==.function&&X.env.kindOf x==some .cell)=true then NameKind.cell else k:=xz0 scope.names x
    rw[hfree] at q3;show (relabel scope X.env).names.lookup x=_∨(relabel scope X.env).names.lookup x=_;rw[q3]
    by_cases hcc:(NameKind.free==NameKind.free&&X.env.scope.kind==.function&&X.env.kindOf x==some .cell)=true
    ·left;simp only[Option.map_some,if_pos hcc]
    ·right;simp only[Option.map_some,if_neg hcc]
   ·obtain⟨c',hc'⟩:=hcl2 (x,.free) (E8 hfree) rfl
    rcases l with⟨hkk,_⟩|⟨_,c,hc2,hcell⟩
    ·have hkk':X.env.scope.names.lookup x=some .local:=hkk
     rw[hsc] at hkk';rcases hvis with z|z<;>(rw[hkk'] at z;cases z)
    ·have:=hcl1 x c' hc'
     rw[hc2] at this;cases this;obtain⟨o,ho,hd⟩:=hcell;exact⟨_,hc',o,old _ o ho,hd⟩
  ·have e':cl.lookup x=some c:=by subst hX';exact e
   obtain⟨v,o,ho,hd⟩:=I3.cell x c (hcl1 x c e');exact⟨v,o,old _ o ho,hd⟩
  ·subst hX';exact I3.hok.fresh (A2 _)
  ·have e':cl.lookup x=some c:=by subst hX';exact e
   exact I3.freeC x c (hcl1 x c e')
  ·subst hX';exact absurd hp (by simp[X8])
  ·subst hX'
   show _=N'.length;rw[fm0,ok.len]
 have hX'c:X'.calm=true:=by subst hX';exact hc
 have hfpX:∀{H':Hp},(∀b∈fp,H' b=none)->∀b∈fp,vm0 X' [] H' b:=λ{H'} hn b hb=>by
  subst hX';refine⟨hn b hb,A8 (fpl b hb),λhf=>?_,.inl hb,λx c e=>(f2 b hb).2.2.2.2.1 x c (hcl1 x c e),λp hp=>absurd hp (by simp[X8])⟩;rcases A9.mp (I3.stkSub b hf) with z|z
  ·exact(f2 b hb).2.1 z
  ·exact(f2 b hb).2.2.1 z
 have fr3:∀b∈fp,H3 b=none:=λb hb=>by rw[← hH3,Z6 (fpD b hb)];exact(f2 b hb).1
 have st4:tn 0 h₁:=T.keep _ _ _ st2 λb hb o e=>old b o (old2 b o e)
 have loop:∀s4:Shared,s4={ s3 with heap:=h₁,toks:=s2.toks+([]:List (Str×Value)).length } ->
   codeAny (model X.prog X.w) X.A (.compLoop (.ListComp elt [⟨tg,iter,ifs,0⟩] scope pos) 0 (.ref it) (.ref D) X'.env) (RR (.ref D) s3.heap.objs.size) s4:=by
  rintro s4 rfl;refine k00 (λk s'=>∃i ys H',Inv X' [] (J5 n caps σ) H' s'/\tn i s'.heap/\(∀b∈fp,H' b=none)/\W i k ys H') ?_ m0 ⟨0,[],H3,I4,st4,fr3,w0⟩;rintro k s5 ⟨i,ys,H5,I5,st5,fr5,w5⟩;have eP:X'.prog=X.prog:=by subst hX';rfl
  have ew:X'.w=X.w:=by subst hX';rfl
  have eK:X'.K=X.K:=by subst hX';rfl
  have eA:X'.A=X.A:=by subst hX';rfl
  rcases turn i k ys H5 w5 with⟨stop,qe⟩|⟨go,step⟩
  ·have T':=T.done X' eP ew eK hX'c i [] s5 (J5 n caps σ) H5 (λ_ _=>False) I5 (hfpX fr5) st5 stop
   rw[eA] at T';refine thn T' λr s6 ⟨hr,I6⟩=>?_
   subst hr;have un6:Un (frs X.stack) fp H3 H5 s3.heap s6.heap:=by have:=I6.base;subst hX';exact this
   have hos:s6.os=s3.os:=by have:=I6.os;subst hX';exact this
   have hok6:HOk X.prog X.w H5 s6.heap:=by have:=I6.hok;subst hX';exact this
   have IX:Inv X pins σ H5 s6:=I3.call' hos un6 hok6 I6.bare λb hb=>⟨(f2 b hb).2.2.2.1,(f2 b hb).2.1,(f2 b hb).2.2.2.2.1,(f2 b hb).2.2.2.2.2⟩
   obtain⟨m6,hn6,_⟩:=I6.loc;have hn6':s6.heap.Ns s3.heap.objs.size m6:=by subst hX';exact hn6
   refine hend D s3.heap.objs.size H5 s6 m6 IX ⟨by have:=I6.free;subst hX';exact this,B9 I3.lt,I3.sz,λx c e z=>?_,λp hp z=>?_⟩ hn6' qe
   ·obtain⟨v,qc⟩:=I3.cell x c e
    exact absurd (B1 qc.lt (j3 z.symm)) (D4 _)
   ·exact absurd (B1 (A3 (I3.pin p hp).1) (j3 z.symm)) (D4 _)
  ·have T':=T.item X' eP ew eK hX'c i [] s5 (J5 n caps σ) H5 (λ_ _=>False) I5 (hfpX fr5) st5 go
   rw[eA] at T';refine thn T' λr s6 ⟨u,hr,h6⟩=>?_
   subst hr;refine thn h6 λ_ s7 ⟨x,H7,I7,r7,y7,st7,fr7⟩=>?_
   have I7':=I7.pinned (hfpX fr7) (T.obj _ _ st7);have hg':=hg s3 H3 fp;have ht':=ht s3 H3 fp;have he':=he s3 H3 fp;rw[← hX'] at hg' ht' he';have g1:=hg' _ s7 (J5 n caps σ) H7 x u _ I7' r7 (step x H7 y7);rw[eP,ew,eA] at g1;have exe:X'.xe=λ_ _=>False:=by subst hX';rfl
   rw[exe] at g1;refine thn g1 λ_ s8 ⟨σ8,H8,I8,wk8,q8⟩=>?_
   have t1:=ht' _ s8 σ8 H8 _ I8 q8;rw[eP,ew,eA,exe] at t1;refine thn t1 λb s9 ⟨H9,I9,q9⟩=>?_
   have back:∀{σa:St} {Ha:Hp} {sa:Shared} {ysa:List V} {ma:Nat},Inv X' ([]++sf0 fp s7.heap) σa Ha sa->σa.length=(J5 n caps σ).length->(∀(j:Nat) v,(J5 n caps σ)[j]?=some (some v)->σa[j]?=some (some v))->W (i+1) ma ysa Ha ->
     ∃i ys H',Inv X' [] (J5 n caps σ) H' sa/\tn i sa.heap/\(∀b∈fp,H' b=none)/\W i ma ys H':=λ{σa Ha sa ysa ma} Ia hl hw wa=>by
    refine⟨i+1,ysa,Ha,(Ia.weak hl.symm hw).unpinned,T.keep _ _ _ st7 λb hb o e=>(Ia.pin (b,o) (E2 _ (E2 _ (v80 hb e)))).1,λb hb=>?_,wa⟩;obtain⟨o,e,d⟩:=T.obj _ _ st7 b hb;exact(Ia.pin (b,o) (E2 _ (E2 _ (v80 hb e)))).2.1
   cases b with
   | false =>
    rw[if_neg B0];rw[if_neg B0] at q9;obtain⟨m',hm,w9⟩:=q9;exact⟨m',hm,back I9 wk8.1 wk8.2 w9⟩
   | true =>
    rw[if_pos rfl];rw[if_pos rfl] at q9;have e1:=he' _ s9 σ8 H9 _ I9 q9;rw[eP,ew,eA,exe] at e1;refine thn e1 λv s10 ⟨y,H10,I10,r10,hD10,hlen,m',hm,w10⟩=>?_
    have a1:=sa0 (X:=X') _ s10 σ8 H10 (.ref D) [y] (.ref D) [v] (λ_ H'=>W (i+1) m' (ys++[y]) H') I10 rfl (.cons r10 .nil) ⟨D,ys,y,rfl,rfl,hD10,hlen,w10⟩;rw[eP,ew,eA,exe] at a1;refine thn a1 λ_ s11 ⟨_,H11,I11,_,w11⟩=>?_
    exact⟨m',hm,back I11 wk8.1 wk8.2 w11⟩
 subst hX';exact codeAny_compStart_list (loop _ (by rw[← hs3])) (T.self X.A 0 _ _ _ st4 (loop _ (by rw[← hs3])))
theorem an0(hc:X.calm=true)(hsc:X.env.scope=sc)(ok:CompOk sc scope X.N N' n caps)(hi:PI X tg iter wi)
  (hg:∀cl s H ex,PG (X8 X scope cl N' s H ex) tg g) (ht:∀cl s H ex,PF (X8 X scope cl N' s H ex) ifs tt) (he:∀cl s H ex,PE (X8 X scope cl N' s H ex) elt te)
  (hs:∀x,foldedSetIterable iter X.env x=pure x:=by intro _;rfl) :
  PE X (.ListComp elt [⟨tg,iter,ifs,0⟩] scope pos) (gu0 n caps wi g tt te):=by
 intro pins s σ H Q I h;obtain⟨cl,hclos,hcl1,hcl2⟩:=uc0 (env:=X.env) (scope:=scope) λx hx hf=>I.ok.has x.1 (by
  rcases ok.free x hx hf with z|z
  ·exact .inl (by show X.env.scope.names.lookup x.1=_;rw[hsc];exact z)
  ·exact .inr (by show X.env.scope.names.lookup x.1=_;rw[hsc];exact z))
 rw[eval_ListComp];refine Bl0 (use:=none) rfl hs hclos ok.kind ok.loc (thn (hi pins s σ H _ I h) λv s1 h1=>thn h1 λitv s2 h2=>?_);obtain⟨it,fp,tn,J,H2,rfl,I2,T,st2,f2,q2⟩:=h2;refine ou0 (Q:=Q) (RR:=λacc C=>compPost (model X.prog X.w) X.A X.xe none (EP X pins σ Q) acc C) hc hsc ok hcl1 hcl2 (hg cl) (ht cl) (he cl) I2 T st2 f2 q2 ?_;intro D C H' s' m IX as hn qe;refine⟨m,hn,λh' sb=>⟨.ref D,H',IX.turned (t':=s'.toks) (λb o hb e=>(sb.2 b hb).trans e) as.1 as.2.1 (.inr as.2.2.1) as.2.2.2.1 as.2.2.2.2,rfl,qe⟩⟩
theorem ho0{y:Str}{py spos:Pos}(hN:X.N.Nodup)(hiN:X.N[i]?=some y)(hy:Loc X.env.scope y)(hc:X.calm=true)(hsc:X.env.scope=sc)(ok:CompOk sc scope X.N N' n caps)(hi:PI X tg iter wi)
  (hg:∀cl s H ex,PG (X8 X scope cl N' s H ex) tg g) (ht:∀cl s H ex,PF (X8 X scope cl N' s H ex) ifs tt) (he:∀cl s H ex,PE (X8 X scope cl N' s H ex) elt te)
  (hsw:swapsWith (.ListComp elt [⟨tg,iter,ifs,0⟩] scope pos) (some (.Name y py)) spos.line X.env=pure true:=by rfl)
  (hs:∀x,foldedSetIterable iter X.env x=pure x:=by intro _;rfl)
  (hf:X.fn y=true∨X.env.scope.names.lookup y=some .local:=by first|exact .inl rfl|exact .inr rfl|assumption) :
  PS X (.Assign [.Name y py] (.ListComp elt [⟨tg,iter,ifs,0⟩] scope pos) spos) (λD σ H=>gu0 n caps wi g tt te σ H λv H'=>D.nx (σ.set i (some v)) H'):=by
 intro pins s σ H D I h;obtain⟨cl,hclos,hcl1,hcl2⟩:=uc0 (env:=X.env) (scope:=scope) λx hx hf=>I.ok.has x.1 (by
  rcases ok.free x hx hf with z|z
  ·exact .inl (by show X.env.scope.names.lookup x.1=_;rw[hsc];exact z)
  ·exact .inr (by show X.env.scope.names.lookup x.1=_;rw[hsc];exact z))
 rw[exec_Assign_Name_used _ _ _ _ hsw];refine A0 (i0 (A0 ?_));show wpAny _ X.A (do let _ ← comprehension (.ListComp elt [⟨tg,iter,ifs,0⟩] scope pos) scope X.env _ (newList []) false (eval iter X.env) (some (assign (.Name y py) X.env))) _ _ s;refine A0 (D1 (Bl0 (use:=some (assign (.Name y py) X.env)) (Q:=λ_ s'=>SP X pins D .next s') rfl hs hclos ok.kind ok.loc
  (thn (hi pins s σ H _ I h) λv s1 h1=>thn h1 λitv s2 h2=>?_)) (λ_ s' hq=>A1 (A1 hq)) λ_ _ e=>e)
 obtain⟨it,fp,tn,J,H2,rfl,I2,T,st2,f2,q2⟩:=h2;refine ou0 (Q:=λv H'=>D.nx (σ.set i (some v)) H') (RR:=λacc C=>compPost (model X.prog X.w) X.A X.xe (some (assign (.Name y py) X.env)) (λ_ s'=>SP X pins D .next s') acc C) hc hsc ok hcl1 hcl2 (hg cl) (ht cl) (he cl) I2 T st2 f2 q2 ?_;intro Da C H' s' m IX as hn qe;show wpAny _ X.A (assign (.Name y py) X.env (.ref Da)) _ _ _;refine wpAny_assign_Name (nc0 IX hN hiN hy (v:=.ref Da) rfl (λs'' I'' ⟨a,sb,ha⟩=>?_) hf);have hCa:C≠a:=by
  rcases ha with z|z
  ·rw[z];exact as.2.1
  ·exact C0 (as.2.2.2.1 y a z)
 refine⟨m,hn.sameBut sb hCa,λh' sb'=>⟨_,H',I''.turned (t':=s''.toks) (λb o hb e=>(sb'.2 b hb).trans e) as.1 as.2.1 (.inr as.2.2.1) as.2.2.2.1 as.2.2.2.2,qe⟩⟩
end
end L2
namespace DL
open Spec PyProof.Rows
inductive D where
 | non|bl (b:Bool)|int (i:Int)|str (x:Str)|tup (ds:List D)|lst (ds:List D)|dct (ks:Sum (List (Sum Int Str)) (List (List (Sum Int Str)))) (ds:List D)
 deriving Inhabited
variable{l ds:List DL.D}{d0:DL.D}
@[simp] def unl:D->D
 | .tup [_,d]=>d
 | d=>d
@[simp] def isL:D->Bool
 | .tup _=>true
 | _=>false
inductive Sl where
 | un|sh (d:D)|ow (d:D)
 | ex (c:Str) (n:Option Int)
abbrev Ds:=List Sl
inductive Res where
 | nx (δ:Ds)|rt (d:D)|bk (δ:Ds)|ct (δ:Ds)|rf (d:D)
variable{g ge ga gb:DL.Ds->Option DL.D}{gt:DL.Ds->Option Bool}{δ δ':DL.Ds}{G:DL.Ds->Option DL.Res}{gi gA:DL.Ds->Option (List DL.D)}
abbrev GE:=Ds->Option D
abbrev GB:=Ds->Option Bool
variable{g0:DL.GE}
abbrev GA:=Ds->Option (List D)
abbrev GS:=Ds->Option Res
@[simp] def asB:D->Option Bool
 | .bl b=>some b
 | _=>none
@[simp] def asI:D->Option Int
 | .int i=>some i
 | _=>none
@[simp] def gv(i:Nat):GE:=fun δ=>match δ[i]? with
 | some (.sh d)=>some d
 | _=>none
@[simp] def gc(d:D):GE:=λ_=>some d
@[simp] def o2(ga gb:GE)(f:D->D->Option D):GE:=fun δ=>(ga δ).bind λx=>(gb δ).bind λy=>f x y
@[simp] def ob(g:GE):GB:=fun δ=>(g δ).bind asB
@[simp] def v30(g:GB):GB:=fun δ=>(g δ).map (!·)
@[simp] def J3(gt gu:GB):GB:=fun δ=>(gt δ).bind λt=>if t=true then gu δ else some false
@[simp] def o70(gt gu:GB):GB:=fun δ=>(gt δ).bind λt=>if t=true then some true else gu δ
@[simp] def xu0(ga gb:GE):GE:=fun δ=>(ob ga δ).bind λt=>if t=true then gb δ else some (.bl false)
@[simp] def gg0(ga:GE):GE:=fun δ=>(ob ga δ).map λt=>.bl (!t)
@[simp] def ifG(gt:GB)(ga gb:GE):GE:=fun δ=>(gt δ).bind λt=>if t=true then ga δ else gb δ
@[simp] def v6:GA:=λ_=>some []
@[simp] def z9(g:GE)(gA:GA):GA:=fun δ=>(g δ).bind λd=>(gA δ).map λds=>d::ds
@[simp] def m7(gA:GA):GE:=fun δ=>(gA δ).bind λds=>if ds.length<=sizeLine then some (.tup ds) else none
@[simp] def W7(gA:GA):GE:=fun δ=>(gA δ).bind λds=>if ds.length<=sizeLine then some (.lst ds) else none
@[simp] def oA(gA:GA)(f:List D->Option D):GE:=fun δ=>(gA δ).bind f
@[simp] def X6(f:D->Bool)(g:GE):GE:=fun δ=>(g δ).map λd=>.bl (f d)
@[simp] def J1(d:D):Option D:=match d with
 | .int i=>some (.int (-i))
 | _=>none
@[simp] def unG(f:D->Option D)(g:GE):GE:=fun δ=>(g δ).bind f
@[simp] def v7(G1 G2:GS):GS:=fun δ=>match G1 δ with
 | some (.nx δ')=>G2 δ'
 | r=>r
@[simp] def u5:GS:=fun δ=>some (.nx δ)
@[simp] def o7(g:GE):GS:=fun δ=>(g δ).map .rt
@[simp] def gN(i:Nat):D->Ds->Option Ds:=λd δ=>some (δ.set i (.sh d))
@[simp] def m5(f:D->Ds->Option Ds)(g:GE):GS:=fun δ=>(g δ).bind λd=>(f d δ).map .nx
@[simp] def ifD(gt:GB)(Ga Gb:GS):GS:=fun δ=>(gt δ).bind λt=>if t=true then Ga δ else Gb δ
def U5(f:D->Ds->Option Ds)(G:GS):List D->Ds->Option Res
 | [],δ=>some (.nx δ)
 | d::ds,δ=>match (f d δ).bind G with
  | some (.nx δ')=>U5 f G ds δ'
  | some (.ct δ')=>U5 f G ds δ'
  | some (.bk δ')=>some (.nx δ')
  | r=>r
@[simp] def J0(gi:GA)(f:D->Ds->Option Ds)(G:GS):GS:=fun δ=>(gi δ).bind λitems=>U5 f G items δ
@[simp] def v40:D->Option (List D)
 | .lst ds=>some ds
 | _=>none
@[simp] def bg0:D->Option (List D)
 | .tup ds=>some ds
 | _=>none
@[simp] def V4(g:GE):GA:=fun δ=>(g δ).bind v40
@[simp] def tupI(g:GE):GA:=fun δ=>(g δ).bind bg0
def R7(lo hi:Int):List D:=(List.range (hi - lo).toNat).map λk=>.int (lo+(k:Nat))
@[simp] def gw0(ds:List D):Option (List D):=match ds with
 | [.int j]=>if -(2 ^ 62)<=j/\j<2 ^ 62 then some (R7 0 j) else none
 | _=>none
@[simp] def gx0(ds:List D):Option (List D):=match ds with
 | [.int i,.int j]=>if (-(2 ^ 62)<=i/\i<2 ^ 62)/\-(2 ^ 62)<=j/\j<2 ^ 62 then some (R7 i j) else none
 | _=>none
@[simp] def O2(gA:GA):GA:=fun δ=>(gA δ).bind gw0
@[simp] def rc0(gA:GA):GA:=fun δ=>(gA δ).bind gx0
@[simp] def noT:GB:=λ_=>some true
@[simp] def m90:Option Sl->Sl
 | some (.sh d)=>.sh d
 | _=>.un
@[simp] def yx0(n:Nat)(caps:List Nat)(δ:Ds):Ds:=List.replicate n .un++caps.map λj=>m90 δ[j]?
def Q4(f:D->Ds->Option Ds)(gt:GB)(ge:GE)(δ:Ds):List D->Option (List D)
 | []=>some []
 | d::ds=>match f d δ with
  | none=>none
  | some δ'=>match gt δ' with
   | none=>none
   | some false=>Q4 f gt ge δ ds
   | some true=>match ge δ' with
    | none=>none
    | some y=>(Q4 f gt ge δ ds).map λr=>y::r
@[simp] def o9(n:Nat)(caps:List Nat)(gi:GA)(f:D->Ds->Option Ds)(gt:GB)(ge:GE):GE :=
 fun δ=>(gi δ).bind λitems=>if items.length<=sizeLine then (Q4 f gt ge (yx0 n caps δ) items).map .lst else none
@[simp] def W4(N:List Str)(ds:List D):Ds:=ds.map .sh++List.replicate (N.length - ds.length) .un
@[simp] def isInt:D->Bool
 | .int _=>true|.bl _=>true|_=>false
@[simp] def isStr:D->Bool
 | .str _=>true|_=>false
@[simp] def isBool:D->Bool
 | .bl _=>true|_=>false
@[simp] def isTup:D->Bool
 | .tup _=>true|_=>false
@[simp] def pd0:D->Bool
 | .lst _=>true|_=>false
@[simp] def ii(f:Int->Int->Option D):D->D->Option D
 | .int i,.int j=>f i j
 | _,_=>none
@[simp] def tt0:D->D->Option D:=ii λi j=>some (.int (i - j))
@[simp] def zh0:D->D->Option D:=ii λi j=>if 0<j/\j<1073741824 then some (.int (i/j)) else none
@[simp] def j5:D->D->Option D:=ii λi j=>if 0<j then some (.int (i%j)) else none
@[simp] def ud0:D->D->Option D:=ii λi j=>if 0<=j/\j<=1000000/\i.natAbs<2 ^ 64 then some (.int (i ^ j.toNat)) else none
@[simp] def ltD:D->D->Option D:=ii λi j=>some (.bl (decide (i<j)))
@[simp] def gtD:D->D->Option D:=ii λi j=>some (.bl (decide (j<i)))
@[simp] def eqS:D->D->Option Bool
 | .non,.non=>some true
 | .non,.int _=>some false|.int _,.non=>some false|.non,.bl _=>some false|.bl _,.non=>some false|.non,.str _=>some false|.str _,.non=>some false
 | .int i,.int j=>some (decide (i=j))
 | .bl i,.bl j=>some (decide (i=j))
 | .str i,.str j=>some (decide (i=j))
 | .int _,.str _=>some false|.str _,.int _=>some false|.bl _,.str _=>some false|.str _,.bl _=>some false
 | _,_=>none
@[simp] def eqD(x y:D):Option D:=(eqS x y).map .bl
@[simp] def neD(x y:D):Option D:=(eqS x y).map λb=>.bl (!b)
@[simp] def Vj0:D->Bool
 | .non=>true|_=>false
@[simp] def ks0(x y:D):Option D:=match y with
 | .non=>some (.bl (Vj0 x))
 | _=>none
def ixN(n:Nat)(i:Int):Option Nat:=if 0<=i then (if i<n then some i.toNat else none) else if -(n:Int)<=i then some (i+n).toNat else none
def atI{α:Type}(xs:List α)(i:Int):Option α:=(ixN xs.length i).bind λj=>xs[j]?
@[simp] def ixD:D->D->Option D
 | .lst xs,.int i=>atI xs i
 | .tup xs,.int i=>atI xs i
 | .str z,.int i=>if z.length<=sizeLine then (atI z.cps.toList i).map λc=>.str ⟨#[c]⟩ else none
 | _,_=>none
def sIx(n d:Nat):Option Int->Nat
 | none=>d
 | some v=>if v<0 then (v+(n:Int)).toNat else min v.toNat n
def cutD(xs:List D)(lo hi:Option Int):List D:=(xs.drop (sIx xs.length 0 lo)).take (sIx xs.length xs.length hi - sIx xs.length 0 lo)
abbrev GO:=Ds->Option (Option Int)
@[simp] def O6:GO:=λ_=>some none
@[simp] def someO(g:GE):GO:=fun δ=>(g δ).bind λd=>(asI d).map some
@[simp] def Y8:List D->Option D
 | [.str z]=>if z.length<=sizeLine then some (.int z.length) else none
 | [.lst xs]=>some (.int xs.length)
 | [.tup xs]=>some (.int xs.length)
 | _=>none
def bools:List D->Option (List Bool)
 | []=>some []
 | .bl b::ds=>(bools ds).map λr=>b::r
 | _=>none
@[simp] def k20:List D->Option D
 | [.lst ds]=>(bools ds).map λbs=>.bl (bs.all id)
 | _=>none
def tl0:List D->Option (List Str)
 | []=>some []
 | .str b::ds=>(tl0 ds).map λr=>b::r
 | _=>none
@[simp] def pl0(d:D)(ds:List D):Option D:=match d,ds with
 | .str sep,[.lst xs]=>(tl0 xs).bind λys=>if (ys.map (·.length)).sum+ys.length*sep.length<=16777216 then some (.str (Txt.join sep ys)) else none
 | _,_=>none
@[simp] def wc0(g:GE)(gA:GA):GE:=fun δ=>(g δ).bind λd=>(gA δ).bind λds=>pl0 d ds
@[simp] def Z8:List D->Option D
 | [.lst ds]=>some (.tup ds)
 | [.tup ds]=>some (.tup ds)
 | _=>none
theorem vw0{f:D->Ds->Option Ds}{gt:GB}{ge:GE}(p:D->Bool)(h:D->D):∀{items:List D},(∀d∈items,∃δ',f d δ=some δ'/\gt δ'=some (p d)/\(p d=true->ge δ'=some (h d))) ->
  Q4 f gt ge δ items=some ((items.filter p).map h)
 | [],_=>rfl
 | d::ds,H=>by
  obtain⟨δ',e1,e2,e3⟩:=H d A5;have ih:=vw0 p h λd hd=>H d (A4 _ hd)
  unfold Q4;rw[e1];dsimp only;rw[e2];cases hp:p d with
  | false =>
   dsimp only;rw[List.filter_cons_of_neg (by simp[hp])];exact ih
  | true =>
   dsimp only;rw[e3 hp,ih,List.filter_cons_of_pos hp];rfl
theorem O1{f:D->Ds->Option Ds}{gt:GB}{ge:GE}(h:D->D){items:List D}(H:∀d∈items,∃δ',f d δ=some δ'/\gt δ'=some true/\ge δ'=some (h d)):Q4 f gt ge δ items=some (items.map h):=by
 have:=vw0 (f:=f) (gt:=gt) (ge:=ge) (δ:=δ) (λ_=>true) h (items:=items) λd hd=>by
  obtain⟨δ',a,b,c⟩:=H d hd;exact⟨δ',a,b,λ_=>c⟩
 rw[List.filter_eq_self.mpr (by simp)] at this;exact this
theorem oq0(h:α->Bool):∀l:List α,bools (l.map λa=>.bl (h a))=some (l.map h)
 | []=>rfl
 | a::l=>by
  show (bools (l.map λa=>.bl (h a))).map (λr=>h a::r)=_;rw[oq0 h l];rfl
theorem strs_map(h:α->Str):∀l:List α,tl0 (l.map λa=>.str (h a))=some (l.map h)
 | []=>rfl
 | a::l=>by
  show (tl0 (l.map λa=>.str (h a))).map (λr=>h a::r)=_;rw[strs_map h l];rfl
theorem ya0{f:D->Ds->Option Ds}{G:GS}(P:Nat->Ds->Prop):∀(items:List D) (i:Nat) (δ:Ds),(∀j d δ,items[j]?=some d->P (i+j) δ->∃δ1 δ2,f d δ=some δ1/\G δ1=some (.nx δ2)/\P (i+j+1) δ2)->P i δ ->
  ∃δ',U5 f G items δ=some (.nx δ')/\P (i+items.length) δ'
 | [],i,δ,_,h=>⟨δ,rfl,h⟩
 | d::ds,i,δ,H,h=>by
  obtain⟨δ1,δ2,e1,e2,h2⟩:=H 0 d δ rfl h;obtain⟨δ',e3,h3⟩:=ya0 P ds (i+1) δ2 (λj d δ hj hp=>by
   have q:i+(j+1)=i+1+j:=by omega
   obtain⟨a,b,c,d',e⟩:=H (j+1) d δ (by simpa using hj) (by rw[q];exact hp);exact⟨a,b,c,d',by rw[q] at e;exact e⟩) h2
  have q:i+(d::ds).length=i+1+ds.length:=by rw[List.length_cons];omega
  refine⟨δ',?_,by rw[q];exact h3⟩;unfold U5;rw[e1];simp only[Option.bind_some,e2];exact e3
theorem Xh0{G1 G2:GS}(h:G1 δ=some (.nx δ')):v7 G1 G2 δ=G2 δ':=by unfold v7;rw[h]
theorem n6{G1 G2:GS}{d:D}(h:G1 δ=some (.rt d)):v7 G1 G2 δ=some (.rt d):=by unfold v7;rw[h]
theorem Y4{g:GE}{d:D}(h:g δ=some d):o7 g δ=some (.rt d):=by unfold o7;rw[h];rfl
theorem j7{g:GE}{d:D}(h:g δ=some d):m5 (gN i) g δ=some (.nx (δ.set i (.sh d))):=by unfold m5;rw[h];rfl
theorem V0{g:GB}{Ga Gb:GS}(h:g δ=some true):ifD g Ga Gb δ=Ga δ:=by unfold ifD;rw[h];rfl
theorem Z0{g:GB}{Ga Gb:GS}(h:g δ=some false):ifD g Ga Gb δ=Gb δ:=by unfold ifD;rw[h];rfl
theorem Z5{gi:GA}{f:D->Ds->Option Ds}{gt:GB}{ge:GE}{items out:List D}(h1:gi δ=some items)(h2:items.length<=sizeLine)(h3:Q4 f gt ge (yx0 n caps δ) items=some out):o9 n caps gi f gt ge δ=some (.lst out):=by
 unfold o9;rw[h1];show (if items.length<=sizeLine then (Q4 f gt ge (yx0 n caps δ) items).map D.lst else none)=_;rw[if_pos h2,h3];rfl
theorem zg0{gi:GA}{f:D->Ds->Option Ds}{G:GS}{items:List D}{r:Option Res}(h1:gi δ=some items)(h2:U5 f G items δ=r):J0 gi f G δ=r:=by
 unfold J0;rw[h1];exact h2
theorem cons_of{g:GE}{gA:GA}{d:D}(h1:g δ=some d)(h2:gA δ=some ds):z9 g gA δ=some (d::ds):=by unfold z9;rw[h1,h2];rfl
theorem o5{gA:GA}{f:List D->Option D}(h:gA δ=some ds):oA gA f δ=f ds:=by unfold oA;rw[h];rfl
theorem o4{ga gb:GE}{x y:D}{f:D->D->Option D}(h1:ga δ=some x)(h2:gb δ=some y):o2 ga gb f δ=f x y:=by unfold o2;rw[h1,h2];rfl
theorem jh0{g:GE}{gA:GA}{x:D}(h1:g δ=some x)(h2:gA δ=some ds):wc0 g gA δ=pl0 x ds:=by unfold wc0;rw[h1,h2];rfl
theorem yb0{xs:List α}{i:Int}(h0:0<=i)(h1:i<xs.length)(d:α):atI xs i=some (xs.getD i.toNat d):=by
 unfold atI ixN;rw[if_pos h0,if_pos h1];show xs[i.toNat]?=_;have:i.toNat<xs.length:=by omega
 simp[List.getD_eq_getElem?_getD,this]
end DL
variable{g ge ga gb:DL.Ds->Option DL.D}{l ds:List DL.D}{gt:DL.Ds->Option Bool}{δ δ':DL.Ds}{G:DL.Ds->Option DL.Res}{gi gA:DL.Ds->Option (List DL.D)}{d0:DL.D}{g0:DL.GE}
namespace DL
open Spec PyProof.Rows L2
abbrev BS:=Addr->Prop
abbrev St:=L2.St
variable{B B' B₀:DL.BS}
abbrev noH:Hp:=λ_=>none
def SqT'(K:W.Frag)(H:Hp)(B:BS)(a:Addr)(xs:List V):Prop:=¬B a/\H a=some (.tup xs)
def SqL'(K:W.Frag)(H:Hp)(B:BS)(a:Addr)(xs:List V):Prop:=(¬B a/\Rd H a (.lst xs))∨SqL K noH a xs
section
variable{xs:List V}
theorem T00{u:HO}(h:Rd noH a u):False:=by
 rcases h with h|⟨o,h⟩<;>cases h
theorem SqT'.to(h:SqT' K H B a xs):SqT K H a xs:=.inl (.inl h.2)
theorem SqL'.to(h:SqL' K H B a xs):SqL K H a xs:=by
 rcases h with h|h|h
 ·exact .inl h.2
 ·exact(T00 h).elim
 ·exact .inr h
def Gr(H H':Hp)(B B':BS):Prop:=∀b o,¬B b->H b=some o->¬B' b/\H' b=some o
theorem SqT'.mono(g:Gr H H' B B')(h:SqT' K H B a xs):SqT' K H' B' a xs:=g _ _ h.1 h.2
theorem SqL'.mono(g:Gr H H' B B')(h:SqL' K H B a xs):SqL' K H' B' a xs:=by
 rcases h with⟨n,h|⟨o,h⟩⟩|h
 ·exact .inl ⟨(g _ _ n h).1,.inl (g _ _ n h).2⟩
 ·exact .inl ⟨(g _ _ n h).1,.inr ⟨o,(g _ _ n h).2⟩⟩
 ·exact .inr h
theorem Gr.same(s:Same H H'):Gr H H' B B:=λb o n h=>⟨n,s b o h⟩
theorem Gr.less(h:∀a,B' a->B a):Gr H H B B':=λb o n e=>⟨λz=>n (h b z),e⟩
end
abbrev KS:=Sum (List Key) (List (List Key))
def dOb:KS->List V->HO
 | .inl ks,xs=>.dK (ks.zip xs)
 | .inr ks,xs=>.dT (ks.zip xs)
def dLn:KS->Nat
 | .inl ks=>ks.length
 | .inr ks=>ks.length
mutual
def Rp(K:W.Frag)(H:Hp)(B:BS):D->V->Prop
 | .non,v=>v=.non
 | .bl b,v=>v=.bl b
 | .int i,v=>v=.int i
 | .str x,v=>v=.str x
 | .tup ds,v=>∃a xs,v=.ref a/\SqT' K H B a xs/\Rps K H B ds xs
 | .lst ds,v=>∃a xs,v=.ref a/\SqL' K H B a xs/\Rps K H B ds xs
 | .dct ks ds,v=>∃a xs,v=.ref a/\¬B a/\H a=some (dOb ks xs)/\dLn ks=xs.length/\Rps K H B ds xs
def Rps(K:W.Frag)(H:Hp)(B:BS):List D->List V->Prop
 | [],xs=>xs=[]
 | d::ds,xs=>∃x r,xs=x::r/\Rp K H B d x/\Rps K H B ds r
end
mutual
theorem Rp.mono(g:Gr H H' B B'):∀{d:D} {v:V},Rp K H B d v->Rp K H' B' d v
 | .non,_,h=>by unfold Rp at h ⊢;exact h
 | .bl _,_,h=>by unfold Rp at h ⊢;exact h
 | .int _,_,h=>by unfold Rp at h ⊢;exact h
 | .str _,_,h=>by unfold Rp at h ⊢;exact h
 | .tup ds,_,h=>by
  unfold Rp at h ⊢;obtain⟨a,xs,e,q,r⟩:=h;exact⟨a,xs,e,q.mono g,Rps.mono g r⟩
 | .lst ds,_,h=>by
  unfold Rp at h ⊢;obtain⟨a,xs,e,q,r⟩:=h;exact⟨a,xs,e,q.mono g,Rps.mono g r⟩
 | .dct ks ds,_,h=>by
  unfold Rp at h ⊢;obtain⟨a,xs,e,n,q,l,r⟩:=h;exact⟨a,xs,e,(g _ _ n q).1,(g _ _ n q).2,l,Rps.mono g r⟩
theorem Rps.mono(g:Gr H H' B B'):∀{ds:List D} {xs:List V},Rps K H B ds xs->Rps K H' B' ds xs
 | [],_,h=>by unfold Rps at h ⊢;exact h
 | d::ds,_,h=>by
  unfold Rps at h ⊢;obtain⟨x,r,e,h1,h2⟩:=h;exact⟨x,r,e,Rp.mono g h1,Rps.mono g h2⟩
end
section
variable{v:V}
theorem V6:Rp K H B .non v=(v=.non):=by unfold Rp;rfl
theorem X5{b:Bool}:Rp K H B (.bl b) v=(v=.bl b):=by unfold Rp;rfl
theorem m9{i:Int}:Rp K H B (.int i) v=(v=.int i):=by unfold Rp;rfl
theorem W0:Rp K H B (.str x) v=(v=.str x):=by unfold Rp;rfl
theorem W3:Rp K H B (.tup ds) v=∃a xs,v=.ref a/\SqT' K H B a xs/\Rps K H B ds xs:=by conv=>lhs;unfold Rp
theorem Y6:Rp K H B (.lst ds) v=∃a xs,v=.ref a/\SqL' K H B a xs/\Rps K H B ds xs:=by conv=>lhs;unfold Rp
theorem t60{ks:KS}:Rp K H B (.dct ks ds) v=∃a xs,v=.ref a/\¬B a/\H a=some (dOb ks xs)/\dLn ks=xs.length/\Rps K H B ds xs:=by conv=>lhs;unfold Rp
theorem sx0{ks:List Key}:Rp K H B (.dct (.inl ks) ds) v=∃a xs,v=.ref a/\¬B a/\H a=some (.dK (ks.zip xs))/\ks.length=xs.length/\Rps K H B ds xs:=t60
theorem il0{ks:List (List Key)}:Rp K H B (.dct (.inr ks) ds) v=∃a xs,v=.ref a/\¬B a/\H a=some (.dT (ks.zip xs))/\ks.length=xs.length/\Rps K H B ds xs:=t60
theorem o8{xs:List V}:Rps K H B [] xs=(xs=[]):=by unfold Rps;rfl
theorem o6{d:D}{xs:List V}:Rps K H B (d::ds) xs=∃x r,xs=x::r/\Rp K H B d x/\Rps K H B ds r:=by conv=>lhs;unfold Rps
theorem Rps.length:∀{ds:List D} {xs:List V},Rps K H B ds xs->xs.length=ds.length
 | [],_,h=>by rw[o8] at h;subst h;rfl
 | d::ds,_,h=>by
  rw[o6] at h;obtain⟨x,r,rfl,_,h2⟩:=h;simp[Rps.length h2]
theorem Rps.get:∀{ds:List D} {xs:List V} {i:Nat} {d:D},Rps K H B ds xs->ds[i]?=some d->∃x,xs[i]?=some x/\Rp K H B d x
 | [],_,_,_,_,e=>by simp at e
 | d::ds,_,0,d',h,e=>by
  rw[o6] at h;obtain⟨x,r,rfl,h1,_⟩:=h;simp at e;subst e;exact⟨x,rfl,h1⟩
 | d::ds,_,i+1,d',h,e=>by
  rw[o6] at h;obtain⟨x,r,rfl,_,h2⟩:=h;obtain⟨y,e1,e2⟩:=Rps.get (i:=i) h2 (by simpa using e);exact⟨y,by simpa using e1,e2⟩
theorem Rps.snoc:∀{ds:List D} {xs:List V} {d:D} {x:V},Rps K H B ds xs->Rp K H B d x->Rps K H B (ds++[d]) (xs++[x])
 | [],_,_,_,h,r=>by
  rw[o8] at h;subst h;rw[List.nil_append,List.nil_append,o6];exact⟨_,[],rfl,r,by rw[o8]⟩
 | d::ds,_,_,_,h,r=>by
  rw[o6] at h;obtain⟨y,t,rfl,h1,h2⟩:=h;rw[List.cons_append,List.cons_append,o6];exact⟨y,_,rfl,h1,Rps.snoc h2 r⟩
theorem Rps.append:∀{ds es:List D} {xs ys:List V},Rps K H B ds xs->Rps K H B es ys->Rps K H B (ds++es) (xs++ys)
 | [],_,_,_,h,r=>by rw[o8] at h;subst h;exact r
 | d::ds,_,_,_,h,r=>by
  rw[o6] at h;obtain⟨y,t,rfl,h1,h2⟩:=h;rw[List.cons_append,List.cons_append,o6];exact⟨y,_,rfl,h1,Rps.append h2 r⟩
theorem Rps.drop:∀{ds:List D} {xs:List V} (n:Nat),Rps K H B ds xs->Rps K H B (ds.drop n) (xs.drop n)
 | _,_,0,h=>h
 | [],_,n+1,h=>by rw[o8] at h;subst h;simpa [o8]
 | d::ds,_,n+1,h=>by
  rw[o6] at h;obtain⟨y,t,rfl,h1,h2⟩:=h
  simpa using Rps.drop n h2
theorem Rps.take:∀{ds:List D} {xs:List V} (n:Nat),Rps K H B ds xs->Rps K H B (ds.take n) (xs.take n)
 | _,_,0,h=>by simp[o8]
 | [],_,n+1,h=>by rw[o8] at h;subst h;simp[o8]
 | d::ds,_,n+1,h=>by
  rw[o6] at h;obtain⟨y,t,rfl,h1,h2⟩:=h;rw[List.take_succ_cons,List.take_succ_cons,o6];exact⟨y,_,rfl,h1,Rps.take n h2⟩
theorem Rps.same{xs:List V}(s:Same H H')(h:Rps K H B ds xs):Rps K H' B ds xs:=Rps.mono (Gr.same s) h
theorem Rp.same{d:D}{v:V}(s:Same H H')(h:Rp K H B d v):Rp K H' B d v:=Rp.mono (Gr.same s) h
end
def RpO(K:W.Frag)(H:Hp)(B:BS)(d:D)(a:Addr):Prop:=match d with
 | .lst ds=>∃xs,H a=some (.lst xs)/\Rps K H B ds xs
 | .dct ks ds=>∃xs,H a=some (dOb ks xs)/\dLn ks=xs.length/\Rps K H B ds xs
 | _=>False
theorem RpO.same{d:D}(s:Same H H')(h:RpO K H B d a):RpO K H' B d a:=by
 cases d<;>try exact h.elim
 ·obtain⟨xs,e,r⟩:=h;exact⟨xs,s _ _ e,r.same s⟩
 ·obtain⟨xs,e,l,r⟩:=h;exact⟨xs,s _ _ e,l,r.same s⟩
theorem RpO.rp{d:D}(l:∀a,B' a->B a)(n:¬B' a)(h:RpO K H B d a):Rp K H B' d (.ref a):=by
 cases d<;>try exact h.elim
 ·obtain⟨xs,e,r⟩:=h
  rw[Y6];exact⟨a,xs,rfl,.inl ⟨n,.inl e⟩,r.mono (Gr.less l)⟩
 ·obtain⟨xs,e,q,r⟩:=h
  rw[t60];exact⟨a,xs,rfl,n,e,q,r.mono (Gr.less l)⟩
theorem RpO.live{d:D}(h:RpO K H B d a):H a≠none:=by
 cases d<;>try exact h.elim
 ·obtain⟨xs,e,r⟩:=h;rw[e];exact λz=>nomatch z
 ·obtain⟨xs,e,q,r⟩:=h;rw[e];exact λz=>nomatch z
def RpL(K:W.Frag)(H:Hp)(B:BS)(d:D)(a:Addr):Prop:=match d with
 | .tup es=>∃ds,es=[.int (a:Int),.lst ds]/\∃xs,H a=some (.lst xs)/\Rps K H B ds xs
 | d=>RpO K H B d a
theorem RpO.toL{d:D}(h:RpO K H B d a):RpL K H B d a:=by
 cases d with
 | tup es=>exact(show False from h).elim
 | _=>exact h
theorem RpL.toO{d:D}(n:isL d=false)(h:RpL K H B d a):RpO K H B d a:=by
 cases d with
 | tup es=>cases n
 | _=>exact h
theorem RpL.same{d:D}(s:Same H H')(h:RpL K H B d a):RpL K H' B d a:=by
 cases d with
 | tup es=>obtain⟨ds,q,xs,e,r⟩:=h;exact⟨ds,q,xs,s _ _ e,r.same s⟩
 | _=>exact(RpO.same s (RpL.toO rfl h)).toL
theorem RpL.rp{d:D}(l:∀a,B' a->B a)(n:¬B' a)(h:RpL K H B d a):Rp K H B' (unl d) (.ref a):=by
 cases d with
 | tup es=>obtain⟨ds,rfl,xs,e,r⟩:=h;exact RpO.rp (d:=.lst ds) l n ⟨xs,e,r⟩
 | _=>exact RpO.rp l n (RpL.toO rfl h)
theorem RpL.live{d:D}(h:RpL K H B d a):H a≠none:=by
 cases d with
 | tup es=>obtain⟨ds,q,xs,e,r⟩:=h;rw[e];exact λz=>nomatch z
 | _=>exact RpO.live (RpL.toO rfl h)
def Tw0(a C:Addr)(od:Option Addr):Heap->Prop:=λh=>∃oe,h.get? a=some oe/\oe.cls=.ref C/\(∀dx,od=some dx->oe.dict=some dx)/\∃vs,oe.data=.fields vs
def Tu0(H:Hp)(B:BS)(od:Option Addr):Option Int->Prop
 | none=>True
 | some n=>∃dx,od=some dx/\¬B dx/\H dx=some (.xd [("at",.int n)])
def XcR(K:W.Frag)(H:Hp)(B:BS)(c:Str)(n:Option Int)(a:Addr):Prop:=∃C od,¬B a/\H a=some (.ext (Tw0 a C od))/\W.nsIn K mainGlobals c=some (some (.ref C))/\Tu0 H B od n
theorem XcR.mono{c:Str}{n:Option Int}(g:Gr H H' B B')(h:XcR K H B c n a):XcR K H' B' c n a:=by
 obtain⟨C,od,h1,h2,h3,h4⟩:=h;refine⟨C,od,(g _ _ h1 h2).1,(g _ _ h1 h2).2,h3,?_⟩;cases n with
 | none=>trivial
 | some n=>obtain⟨dx,e,q1,q2⟩:=h4;exact⟨dx,e,(g _ _ q1 q2).1,(g _ _ q1 q2).2⟩
def SlR(K:W.Frag)(H:Hp)(B:BS)(o:Option V):Sl->Prop
 | .un=>True
 | .sh d=>∃v,o=some v/\Rp K H B d v
 | .ow d=>∃a,o=some (.ref a)/\B a/\RpL K H B d a
 | .ex c n=>∃a,o=some (.ref a)/\XcR K H B c n a
theorem Pd.get{F:α->β->Prop}:∀{l:List α} {m:List β} {i:Nat} {b:β},Paired F l m->m[i]?=some b->∃a,l[i]?=some a/\F a b
 | _,_,_,_,.nil,e=>by simp at e
 | _,_,0,_,.cons r _,e=>by simp at e;subst e;exact⟨_,rfl,r⟩
 | _,_,i+1,b,.cons _ t,e=>by
  obtain⟨u,h1,h2⟩:=Pd.get (i:=i) (b:=b) t (by simpa using e);exact⟨u,by simpa using h1,h2⟩
theorem Pd.imp{F G:α->β->Prop}(h:∀a b,F a b->G a b):∀{l:List α} {m:List β},Paired F l m->Paired G l m
 | _,_,.nil=>.nil
 | _,_,.cons r t=>.cons (h _ _ r) (Pd.imp h t)
theorem Pd.set{F:α->β->Prop}{a:α}{b:β}(r:F a b):∀{l:List α} {m:List β} (i:Nat),Paired F l m->Paired F (l.set i a) (m.set i b)
 | _,_,_,.nil=>.nil
 | _,_,0,.cons _ t=>.cons r t
 | _,_,i+1,.cons q t=>.cons q (Pd.set r i t)
theorem Pd.app{F:α->β->Prop}:∀{l l':List α} {m m':List β},Paired F l m->Paired F l' m'->Paired F (l++l') (m++m')
 | _,_,_,_,.nil,s=>s
 | _,_,_,_,.cons r t,s=>.cons r (Pd.app t s)
structure Env(K:W.Frag)(H:Hp)(B:BS)(σ:St)(δ:Ds):Prop where
 all:Paired (SlR K H B) σ δ
 bad:∀a,B a->H a≠none
 own:∀(i j:Nat) (a:Addr) (ds es:D),δ[i]?=some (.ow ds)->δ[j]?=some (.ow es)->σ[i]?=some (some (.ref a))->σ[j]?=some (some (.ref a))->i=j
section
variable{σ σ':St}
theorem SlR.same{o:Option V}{s:Sl}(q:Same H H')(h:SlR K H B o s):SlR K H' B o s:=by
 cases s with
 | un=>trivial
 | sh d=>obtain⟨v,e,r⟩:=h;exact⟨v,e,r.same q⟩
 | ow d=>obtain⟨a,e,b,r⟩:=h;exact⟨a,e,b,r.same q⟩
 | ex c n=>obtain⟨a,e,r⟩:=h;exact⟨a,e,r.mono (Gr.same q)⟩
theorem Env.same(q:Same H H')(e:Env K H B σ δ):Env K H' B σ δ :=
 ⟨Pd.imp (λ_ _ h=>h.same q) e.all,(λa b z=>by
  cases h:H a with
  | none=>exact e.bad a b h
  | some o=>rw[q a o h] at z;cases z),e.own⟩
theorem Env.free(e:Env K H B σ δ){p:Addr}(h:H p=none):¬B p:=λz=>e.bad p z h
theorem Env.get(e:Env K H B σ δ){d:D}(h:δ[i]?=some (.sh d)):∃v,σ[i]?=some (some v)/\Rp K H B d v:=by
 obtain⟨o,h1,v,rfl,r⟩:=Pd.get e.all h;exact⟨v,h1,r⟩
theorem Env.set(e:Env K H B σ δ)(i:Nat){d:D}{v:V}(r:Rp K H B d v):Env K H B (σ.set i (some v)) (δ.set i (.sh d)):=by
 refine⟨Pd.set ⟨v,rfl,r⟩ i e.all,e.bad,λj k a ds es h1 h2 h3 h4=>?_⟩;have hj:j≠i:=by
  rintro rfl
  by_cases hl:j<δ.length
  ·rw[List.getElem?_set_self hl] at h1;cases h1
  ·rw[List.getElem?_eq_none (by simpa using hl)] at h1;cases h1
 have hk:k≠i:=by
  rintro rfl
  by_cases hl:k<δ.length
  ·rw[List.getElem?_set_self hl] at h2;cases h2
  ·rw[List.getElem?_eq_none (by simpa using hl)] at h2;cases h2
 rw[List.getElem?_set_ne (C0 hj)] at h1 h3;rw[List.getElem?_set_ne (C0 hk)] at h2 h4;exact e.own j k a ds es h1 h2 h3 h4
end
theorem Z9{p:Addr}{o:HO}(h:H p=none):Same H (upd H p o):=λb u e=>by rw[Z6 (O8 e h)];exact e
def tD(K:W.Frag)(B:BS)(δ:Ds)(g:Ds->Option D):TE:=fun σ H Q=>∃d,Env K H B σ δ/\g δ=some d/\∀v H',Same H H'->Rp K H' B d v->Q v H'
structure PD(X:Cx)(e:Expr)(g:Ds->Option D):Prop where
 mk::go:∀B δ,PE X e (tD X.K B δ g)
instance{X:Cx}{e:Expr}{g:Ds->Option D}:CoeFun (PD X e g) (λ_=>∀B δ,PE X e (tD X.K B δ g)):=⟨PD.go⟩
def tDT(K:W.Frag)(B:BS)(δ:Ds)(g:Ds->Option Bool):TT:=fun σ H Q=>∃b,Env K H B σ δ/\g δ=some b/\∀H',Same H H'->Q b H'
structure PTD(X:Cx)(e:Expr)(g:Ds->Option Bool):Prop where
 mk::go:∀B δ,PT X e (tDT X.K B δ g)
instance{X:Cx}{e:Expr}{g:Ds->Option Bool}:CoeFun (PTD X e g) (λ_=>∀B δ,PT X e (tDT X.K B δ g)):=⟨PTD.go⟩
structure PWD(X:Cx)(e:Expr)(g:Ds->Option Bool):Prop where
 mk::go:∀B δ,PW X e (tDT X.K B δ g)
instance{X:Cx}{e:Expr}{g:Ds->Option Bool}:CoeFun (PWD X e g) (λ_=>∀B δ,PW X e (tDT X.K B δ g)):=⟨PWD.go⟩
def tDA(K:W.Frag)(B:BS)(δ:Ds)(g:Ds->Option (List D)):TA:=fun σ H Q=>∃ds,Env K H B σ δ/\g δ=some ds/\∀vs H',Same H H'->Rps K H' B ds vs->Q vs H'
structure PDA(X:Cx)(es:List Expr)(g:Ds->Option (List D)):Prop where
 mk::go:∀B δ,PA X es (tDA X.K B δ g)
instance{X:Cx}{es:List Expr}{g:Ds->Option (List D)}:CoeFun (PDA X es g) (λ_=>∀B δ,PA X es (tDA X.K B δ g)):=⟨PDA.go⟩
theorem ft0{d:D}{b:Bool}(h:asB d=some b):d=.bl b:=by
 cases d<;>simp[asB] at h
 subst h;rfl
def Op2(K:W.Frag)(r:R2)(f:D->D->Option D):Prop:=∀(H:Hp) (B:BS) (x y:V) (dx dy d:D) (Q:VK),(∀a,B a->H a≠none)->Rp K H B dx x->Rp K H B dy y->f dx dy=some d->(∀v H',Same H H'->Rp K H' B d v->Q v H')->r x y H Q
def FnR(K:W.Frag)(r:List V->Hp->VK->Prop)(f:List D->Option D):Prop:=∀(H:Hp) (B:BS) (xs:List V) (ds:List D) (d:D) (Q:VK),(∀a,B a->H a≠none)->Rps K H B ds xs->f ds=some d->(∀v H',Same H H'->Rp K H' B d v->Q v H')->r xs H Q
section
variable{X:Cx}{a:Expr}{gu:Ds->Option Bool}{rest:List Expr}
theorem _root_.L2.PE.imp{t t':TE}(h:PE X e t)(q:∀σ H Q,t' σ H Q->t σ H Q):PE X e t':=λpins s σ H Q I z=>h pins s σ H Q I (q σ H Q z)
theorem _root_.L2.PT.imp{t t':TT}(h:PT X e t)(q:∀σ H Q,t' σ H Q->t σ H Q):PT X e t':=λpins s σ H Q I z=>h pins s σ H Q I (q σ H Q z)
theorem _root_.L2.PW.imp{t t':TT}(h:PW X e t)(q:∀σ H Q,t' σ H Q->t σ H Q):PW X e t':=λw pins s σ H Q I z=>h w pins s σ H Q I (q σ H Q z)
theorem _root_.L2.PA.imp{t t':TA}(h:PA X es t)(q:∀σ H Q,t' σ H Q->t σ H Q):PA X es t':=λp pins s σ H Q I z=>h p pins s σ H Q I (q σ H Q z)
theorem U50{d:D}(h:gv i δ=some d):δ[i]?=some (.sh d):=by
 unfold gv at h;split at h
 ·cases h;assumption
 ·cases h
theorem v4(i:Nat)(hN:X.N[i]?=some x:=by rfl)(hv:Vis X.env.scope x:=by first|exact Or.inl rfl|exact Or.inr (Or.inl rfl)|exact Or.inr (Or.inr rfl))(hd:(x==("__debug__" : Str))=false:=by decide)
  (hcd:(x==("__classdict__" : Str))=false:=by decide):PD X (.Name x pos) (gv i):=.mk λB δ=>(yv0 (i:=i) hN hv hd hcd).imp fun σ H Q ⟨d,en,h,k⟩=>by
 obtain⟨v,e,r⟩:=en.get (U50 h);exact⟨v,e,k v H (Same.refl H) r⟩
theorem u6{i:Int}:PD X (.Constant (.int i) j pos) (gc (.int i)):=.mk λB δ=>V70.imp fun σ H Q ⟨d,en,h,k⟩=>by cases h;exact k _ H (Same.refl H) (by rw[m9])
theorem z90{i:Bool}:PD X (.Constant (.bool i) j pos) (gc (.bl i)):=.mk λB δ=>U70.imp fun σ H Q ⟨d,en,h,k⟩=>by cases h;exact k _ H (Same.refl H) (by rw[X5])
theorem sw0:PD X (.Constant .none j pos) (gc .non):=.mk λB δ=>Ws0.imp fun σ H Q ⟨d,en,h,k⟩=>by cases h;exact k _ H (Same.refl H) (by rw[V6])
theorem d8:PD X (.Constant (.str x) j pos) (gc (.str x)):=.mk λB δ=>W70.imp fun σ H Q ⟨d,en,h,k⟩=>by cases h;exact k _ H (Same.refl H) (by rw[W0])
theorem p20{r:R2}{f:D->D->Option D}(hf:Op2 K r f){σ:St}{Q:VK}(h:tD K B δ (o2 ga gb f) σ H Q):tOp r (tD K B δ ga) (tD K B δ gb) σ H Q:=by
 obtain⟨d,en,h,k⟩:=h;unfold o2 at h;cases e1:ga δ with
 | none=>rw[e1] at h;cases h
 | some x =>
  cases e2:gb δ with
  | none=>rw[e1,e2] at h;cases h
  | some y =>
   rw[e1,e2] at h;refine⟨x,en,e1,λv1 H1 s1 r1=>⟨y,en.same s1,e2,λv2 H2 s2 r2=>?_⟩⟩;exact hf H2 B v1 v2 x y d Q ((en.same s1).same s2).bad (r1.same s2) r2 h λv H' s r=>k v H' ((s1.trans s2).trans s) r
theorem ta0{op:Operator}{r:R2}{f:D->D->Option D}(ho:OpR X (binaryOp op) r)(hf:Op2 X.K r f)(ha:PD X a ga)(hb:PD X b gb):PD X (.BinOp a op b pos) (o2 ga gb f):=.mk λB δ=>(U90 ho (ha B δ) (hb B δ)).imp fun σ H Q h=>p20 hf h
theorem s20{op:CmpOp}{r:R2}{f:D->D->Option D}(ho:OpR X (compareOp op) r)(hf:Op2 X.K r f)(ha:PD X a ga)(hb:PD X b gb)(hm:behindInMarks op b=false:=by first|exact d50 _|with_unfolding_all rfl):PD X (.Compare a [op] [b] pos) (o2 ga gb f) :=
 .mk λB δ=>(Ye0 ho (ha B δ) (hb B δ) hm).imp fun σ H Q h=>p20 hf h
theorem Ud0{r:R2}{f:D->D->Option D}(ho:IxR X r)(hf:Op2 X.K r f)(ha:PD X a ga)(hb:PD X b gb)(hs:on0 b:=by exact λ_ _=>rfl):PD X (.Subscript a b pos) (o2 ga gb f) :=
 .mk λB δ=>(Vs0 ho (ha B δ) (hb B δ) hs).imp fun σ H Q h=>p20 hf h
theorem j4{op:CmpOp}{r:R2}{f:D->D->Option D}(ho:OpR X (compareOp op) r)(hf:Op2 X.K r f)(ha:PD X a ga)(hb:PD X b gb)(hm:behindInMarks op b=false:=by first|exact d50 _|with_unfolding_all rfl):PTD X (.Compare a [op] [b] pos) (ob (o2 ga gb f)) :=
 .mk λB δ=>(Z80 ho (ha B δ) (hb B δ) hm).imp fun σ H Q ⟨t,en,h,k⟩=>by
  unfold ob at h;cases e:o2 ga gb f δ with
  | none=>rw[e] at h;cases h
  | some d =>
   rw[e] at h;cases ft0 h;exact p20 hf ⟨_,en,e,λv H' s r=>⟨t,by rw[X5] at r;exact r,k H' s⟩⟩
theorem M3(h:PD X e g)(he:∀whole,isTrue e X.env whole=(do let v ← whole;standAt e.pos;holding [v] (truthy v)):=by intro _;rfl):PTD X e (ob g) :=
 .mk λB δ=>(Xp0 (h B δ) he).imp fun σ H Q ⟨t,en,h,k⟩=>by
  unfold ob at h;cases e:g δ with
  | none=>rw[e] at h;cases h
  | some d =>
   rw[e] at h;cases ft0 h;exact⟨_,en,e,λv H' s r=>⟨t,by rw[X5] at r;exact r,k H' s⟩⟩
theorem ob0(h:PTD X a gt):PTD X (.UnaryOp .Not a pos) (v30 gt) :=
 .mk λB δ=>(Vc0 (h B δ)).imp fun σ H Q ⟨t,en,h,k⟩=>by
  unfold v30 at h;cases e:gt δ with
  | none=>rw[e] at h;cases h
  | some b =>
   rw[e] at h;cases h;exact⟨b,en,e,λH' s=>k H' s⟩
theorem u30(h:PTD X a gt):PWD X (.BoolOp .And [a] pos) gt:=.mk λB δ=>Zy0 (h B δ)
theorem ia0(h:PTD X a gt):PWD X (.BoolOp .Or [a] pos) gt:=.mk λB δ=>Yw0 (h B δ)
theorem vh0(ha:PTD X a gt)(hb:PWD X (.BoolOp .And (b::rest) pos) gu):PWD X (.BoolOp .And (a::b::rest) pos) (J3 gt gu) :=
 .mk λB δ=>(W20 (ha B δ) (hb B δ)).imp fun σ H Q ⟨t,en,h,k⟩=>by
  unfold J3 at h;cases e:gt δ with
  | none=>rw[e] at h;cases h
  | some b =>
   rw[e] at h;refine⟨b,en,e,λH' s=>?_⟩;cases b with
   | true=>exact⟨t,en.same s,h,λH'' s'=>k H'' (s.trans s')⟩
   | false =>
    simp at h;subst h;rw[if_neg B0];exact k H' s
theorem ez0(ha:PTD X a gt)(hb:PWD X (.BoolOp .Or (b::rest) pos) gu):PWD X (.BoolOp .Or (a::b::rest) pos) (o70 gt gu) :=
 .mk λB δ=>(Ut0 (ha B δ) (hb B δ)).imp fun σ H Q ⟨t,en,h,k⟩=>by
  unfold o70 at h;cases e:gt δ with
  | none=>rw[e] at h;cases h
  | some b =>
   rw[e] at h;refine⟨b,en,e,λH' s=>?_⟩;cases b with
   | false=>exact⟨t,en.same s,h,λH'' s'=>k H'' (s.trans s')⟩
   | true =>
    simp at h;subst h;rw[if_pos rfl];exact k H' s
theorem PWD.pt(h:PWD X e gt):PTD X e gt:=.mk λB δ=>(h B δ).pt
theorem qr0{op}(h:PD X a g):PD X (.BoolOp op [a] pos) g:=.mk λB δ=>Xj0 (h B δ)
theorem sv0(ha:PD X a ga)(hb:PD X (.BoolOp .And (b::rest) pos) gb):PD X (.BoolOp .And (a::b::rest) pos) (xu0 ga gb) :=
 .mk λB δ=>(Va0 (ha B δ) (hb B δ)).imp fun σ H Q ⟨d,en,h,k⟩=>by
  unfold xu0 ob at h;cases e:ga δ with
  | none=>rw[e] at h;cases h
  | some x =>
   rw[e] at h;refine⟨x,en,e,λv H' s r=>?_⟩;cases x with
   | bl c =>
    rw[X5] at r;refine⟨c,r,?_⟩;cases c with
    | true=>exact⟨d,en.same s,h,λv H'' s'=>k v H'' (s.trans s')⟩
    | false =>
     simp[asB] at h;rw[if_neg B0];exact k _ H' s (by rw[← h,X5])
   | _=>simp[asB] at h
theorem W00(ha:PD X a ga):PD X (.UnaryOp .Not a pos) (gg0 ga) :=
 .mk λB δ=>(Xq0 (ha B δ)).imp fun σ H Q ⟨d,en,h,k⟩=>by
  unfold gg0 ob at h;cases e:ga δ with
  | none=>rw[e] at h;cases h
  | some x =>
   rw[e] at h;refine⟨x,en,e,λv H' s r=>?_⟩;cases x with
   | bl c =>
    rw[X5] at r;simp[asB] at h;exact⟨c,r,k _ H' s (by rw[← h,X5])⟩
   | _=>simp[asB] at h
theorem Ug0(hc:PTD X c gt)(ha:PD X a ga)(hb:PD X b gb):PD X (.IfExp c a b pos) (ifG gt ga gb) :=
 .mk λB δ=>(cs0 (hc B δ) (ha B δ) (hb B δ)).imp fun σ H Q ⟨d,en,h,k⟩=>by
  unfold ifG at h;cases e:gt δ with
  | none=>rw[e] at h;cases h
  | some t =>
   rw[e] at h;refine⟨t,en,e,λH' s=>?_⟩;cases t with
   | true=>exact⟨d,en.same s,h,λv H'' s'=>k v H'' (s.trans s')⟩
   | false=>exact⟨d,en.same s,h,λv H'' s'=>k v H'' (s.trans s')⟩
theorem v8:PDA X [] v6:=.mk λB δ=>y70.imp fun σ H Q ⟨ds,en,h,k⟩=>by cases h;exact k [] H (Same.refl H) (by rw[o8])
theorem w6(ha:PD X e g)(hr:PDA X es gA)(hs:starEach (e::es) X.env=(false,eval e X.env)::starEach es X.env:=by rfl):PDA X (e::es) (z9 g gA) :=
 .mk λB δ=>(J4 (ha B δ) (hr B δ) hs).imp fun σ H Q ⟨ds,en,h,k⟩=>by
  unfold z9 at h;cases e1:g δ with
  | none=>rw[e1] at h;cases h
  | some d =>
   cases e2:gA δ with
   | none=>rw[e1,e2] at h;cases h
   | some es' =>
    rw[e1,e2] at h;cases h;refine⟨d,en,e1,λv H1 s1 r1=>⟨es',en.same s1,e2,λvs H2 s2 r2=>k _ H2 (s1.trans s2) ?_⟩⟩;rw[o6];exact⟨v,vs,rfl,r1.same s2,r2⟩
theorem Z3{x1}(h:PDA X es gA):PD X (.Tuple es x1 pos) (m7 gA) :=
 .mk λB δ=>(W10 (h B δ)).imp fun σ H Q ⟨d,en,h,k⟩=>by
  unfold m7 at h;cases e1:gA δ with
  | none=>rw[e1] at h;cases h
  | some ds =>
   rw[e1] at h
   by_cases hl:ds.length<=sizeLine
   ·simp only[Option.bind_some,if_pos hl] at h
    cases h;refine⟨ds,en,e1,λvs H1 s1 r1=>⟨by rw[r1.length];exact hl,λp hp=>k _ _ (s1.trans (Z9 hp)) ?_⟩⟩;rw[W3];exact⟨p,vs,rfl,⟨(en.same s1).free hp,b8⟩,r1.same (Z9 hp)⟩
   ·simp only[Option.bind_some,if_neg hl] at h
    cases h
theorem t40(h:PDA X es gA):PD X (.List es pos) (W7 gA) :=
 .mk λB δ=>(di0 (h B δ)).imp fun σ H Q ⟨d,en,h,k⟩=>by
  unfold W7 at h;cases e1:gA δ with
  | none=>rw[e1] at h;cases h
  | some ds =>
   rw[e1] at h
   by_cases hl:ds.length<=sizeLine
   ·simp only[Option.bind_some,if_pos hl] at h
    cases h;refine⟨ds,en,e1,λvs H1 s1 r1=>⟨by rw[r1.length];exact hl,λp hp=>k _ _ (s1.trans (Z9 hp)) ?_⟩⟩;rw[Y6];exact⟨p,vs,rfl,.inl ⟨(en.same s1).free hp,.inl b8⟩,r1.same (Z9 hp)⟩
   ·simp only[Option.bind_some,if_neg hl] at h
    cases h
theorem ml0{r:List V->Hp->VK->Prop}{f:List D->Option D}(hf:FnR K r f){σ:St}{Q:VK}(h:tD K B δ (oA gA f) σ H Q):tCB r (tDA K B δ gA) σ H Q:=by
 obtain⟨d,en,h,k⟩:=h;unfold oA at h;cases e1:gA δ with
 | none=>rw[e1] at h;cases h
 | some ds =>
  rw[e1] at h;exact⟨ds,en,e1,λvs H1 s1 r1=>hf H1 B vs ds d Q (en.same s1).bad r1 h λv H' s r=>k v H' (s1.trans s) r⟩
theorem tj0{id:String}{p:Pos}{r:List V->Hp->VK->Prop}{f:List D->Option D}(hc:CallR X (.builtin id) r)(hf:FnR X.K r f)(hm:X.mg x=none)(hv:bootBuiltins x=some (.builtin id))(ha:PDA X (e::es) gA)(hg:Gl X x:=by rfl)
  (hn:x ≠"__name__" := by decide) (hdb:(x==("__debug__" : Str))=false:=by decide) (he:starEach (e::es) X.env=(false,eval e X.env)::starEach es X.env:=by rfl) (hpl:(backTo pos (starEach es X.env)).any (·.1)=false:=by rfl) :
  PD X (.Call (.Name x p) (e::es) [] pos) (oA gA f):=.mk λB δ=>(q80 hc hg hm hv (ha B δ) hn hdb he hpl).imp fun σ H Q h=>ml0 hf h
theorem U4{T:String}{p:Pos}{r:List V->Hp->VK->Prop}{f:List D->Option D}(hc:CallR X (.type T) r)(hf:FnR X.K r f)(hm:X.mg x=none)(hv:bootBuiltins x=some (.type T))(ha:PDA X (e::es) gA)(hg:Gl X x:=by rfl)
  (hn:x ≠"__name__" := by decide) (hdb:(x==("__debug__" : Str))=false:=by decide) (he:starEach (e::es) X.env=(false,eval e X.env)::starEach es X.env:=by rfl) (hpl:(backTo pos (starEach es X.env)).any (·.1)=false:=by rfl) :
  PD X (.Call (.Name x p) (e::es) [] pos) (oA gA f):=.mk λB δ=>(u80 hc hg hm hv (ha B δ) hn hdb he hpl).imp fun σ H Q h=>ml0 hf h
def spD(K:W.Frag)(f:List D->Option D):Sp:=λvs H Q _=>∃(B:BS) (ds:List D) (d:D),(∀a,B a->H a≠none)/\Rps K H B ds vs/\f ds=some d/\∀v H',Same H H'->Rp K H' B d v->Q v H'
theorem Zq0{k:Nat}{fd:FuncData}{p:Pos}{f:List D->Option D}(F:FnOk X.prog X.w X.K X.mg X.base CX0 k fa fd ps (spD X.K f))(hr:Room k X.A)(hm:X.mg x=some (.ref fa))(hk:W.keepIn X.K (.ref fa)=true)(hb:Binds X.K fd ps [])
  (ha:PDA X (e::es) gA) (hg:Gl X x:=by rfl) (hdb:(x==("__debug__" : Str))=false:=by decide) (he:starEach (e::es) X.env=(false,eval e X.env)::starEach es X.env:=by rfl) (hpl:(backTo pos (starEach es X.env)).any (·.1)=false:=by rfl) :
  PD X (.Call (.Name x p) (e::es) [] pos) (oA gA f):=.mk λB δ=>(rr0 (E:=E0) F hr hg hm hk hb .nil mc0 (ha B δ) hdb he hpl).imp fun σ H Q h=>by
 obtain⟨d,en,h,k⟩:=h;unfold oA at h;cases e1:gA δ with
 | none=>rw[e1] at h;cases h
 | some ds =>
  rw[e1] at h;refine⟨ds,en,e1,λvs H1 s1 r1=>?_⟩;show spD X.K f (vs++[]) H1 Q E0;rw[List.append_nil];exact⟨B,ds,d,(en.same s1).bad,r1,h,λv H' s r=>k v H' (s1.trans s) r⟩
end
end DL
variable{B B' B₀:DL.BS}
namespace DL
open Spec PyProof.Rows L2
structure EnvS(K:W.Frag)(H₀:Hp)(B₀:BS)(H:Hp)(σ:St)(δ:Ds):Prop where
 same:Same H₀ H
 ex:∃B:BS,(∀a,B₀ a->B a)/\(∀a,B a->B₀ a∨H₀ a=none)/\Env K H B σ δ
 fr:∀(i:Nat) (ds:D) (a:Addr),δ[i]?=some (.ow ds)->σ[i]?=some (some (.ref a))->H₀ a=none
 b0:∀a,B₀ a->H₀ a≠none
def Wp0(K:W.Frag)(H₀:Hp)(B₀:BS)(D:Ends):Res->Prop
 | .nx δ=>∀σ H,EnvS K H₀ B₀ H σ δ->D.nx σ H
 | .rt d=>∀v H,Same H₀ H->Rp K H B₀ d v->D.rt v H
 | .bk δ=>∀σ H,EnvS K H₀ B₀ H σ δ->D.bk σ H
 | .ct δ=>∀σ H,EnvS K H₀ B₀ H σ δ->D.ct σ H
 | .rf d=>∀p H,H₀ p=none->Same H₀ H->RpL K H (λa=>B₀ a∨a=p) d p->D.rt (.ref p) H
def tDS(K:W.Frag)(H₀:Hp)(B₀:BS)(δ:Ds)(G:Ds->Option Res):TS:=λD σ H=>∃r,EnvS K H₀ B₀ H σ δ/\G δ=some r/\Wp0 K H₀ B₀ D r
structure PSD(X:Cx)(st:Stmt)(G:Ds->Option Res):Prop where
 mk::go:∀H₀ B₀ δ,PS X st (tDS X.K H₀ B₀ δ G)
instance{X:Cx}{st:Stmt}{G:Ds->Option Res}:CoeFun (PSD X st G) (λ_=>∀H₀ B₀ δ,PS X st (tDS X.K H₀ B₀ δ G)):=⟨PSD.go⟩
structure PSsD(X:Cx)(st:List Stmt)(G:Ds->Option Res):Prop where
 mk::go:∀H₀ B₀ δ,PSs X st (tDS X.K H₀ B₀ δ G)
instance{X:Cx}{st:List Stmt}{G:Ds->Option Res}:CoeFun (PSsD X st G) (λ_=>∀H₀ B₀ δ,PSs X st (tDS X.K H₀ B₀ δ G)):=⟨PSsD.go⟩
section
variable{σ:St}
theorem EnvS.grow(e:EnvS K H₀ B₀ H σ δ)(s:Same H H'):EnvS K H₀ B₀ H' σ δ:=⟨e.same.trans s,let ⟨B,b1,b2,en⟩:=e.ex;⟨B,b1,b2,en.same s⟩,e.fr,e.b0⟩
end
structure Wr(idx:List Nat)(σ σ':St)(δ δ':Ds):Prop where
 len:σ'.length=σ.length
 oth:∀j,j∉idx->σ'[j]?=σ[j]?/\δ'[j]?=δ[j]?
 own:∀j∈idx,∀ds,δ'[j]?≠some (.ow ds)
def tDG(K:W.Frag)(idx:List Nat)(f:D->Ds->Option Ds)(B:BS)(d:D)(δ:Ds):TG:=λv σ H Q=>∃δ',Rp K H B d v/\Env K H B σ δ/\f d δ=some δ'/\∀σ',Wr idx σ σ' δ δ'->Env K H B σ' δ'->Q σ' H
structure PGD(X:Cx)(tg:Expr)(idx:List Nat)(f:D->Ds->Option Ds):Prop where
 mk::go:∀B d δ,PG X tg (tDG X.K idx f B d δ)
instance{X:Cx}{tg:Expr}{idx:List Nat}{f:D->Ds->Option Ds}:CoeFun (PGD X tg idx f) (λ_=>∀B d δ,PG X tg (tDG X.K idx f B d δ)):=⟨PGD.go⟩
theorem _root_.L2.PG.imp{X:Cx}{tg:Expr}{t t':TG}(h:PG X tg t)(q:∀v σ H Q,t' v σ H Q->t v σ H Q):PG X tg t':=λpins s σ H v u Q I r z=>h pins s σ H v u Q I r (q v σ H Q z)
theorem lg0{σ:St}{v:V}{d:D}:Wr [i] σ (σ.set i (some v)) δ (δ.set i (.sh d)):=by
 refine⟨by simp,λj hj=>?_,λj hj ds h=>?_⟩
 ·have:j≠i:=by simpa using hj
  rw[List.getElem?_set_ne (C0 this),List.getElem?_set_ne (C0 this)];exact⟨rfl,rfl⟩
 ·have:j=i:=by simpa using hj
  subst this
  by_cases hl:j<δ.length
  ·rw[List.getElem?_set_self hl] at h;cases h
  ·rw[List.getElem?_eq_none (by simpa using hl)] at h;cases h
theorem p7(i:Nat){X:Cx}{pos:Pos}(hN:X.N.Nodup)(hi:X.N[i]?=some x:=by rfl)(hx:Loc X.env.scope x:=by first|exact Or.inl rfl|exact Or.inr rfl)
  (hf:X.fn x=true∨X.env.scope.names.lookup x=some .local:=by first|exact .inl rfl|exact .inr rfl|assumption):PGD X (.Name x pos) [i] (gN i):=.mk λB d δ=>(rt0 (i:=i) hN hi hx hf).imp λv σ H Q ⟨δ',r,en,e,k⟩=>by
 cases e;exact k _ lg0 (en.set i r)
section
variable{X:Cx}{tg:Expr}{G1 G2 Ga Gb:Ds->Option Res}{as bs:List Stmt}
theorem u9:PSsD X [] u5:=.mk λH₀ B₀ δ pins s σ H D I ⟨r,en,e,k⟩=>by
 cases e;exact Za0 pins s σ H D I (k σ H en)
theorem v5(h1:PSD X st G1)(h2:PSsD X rest G2):PSsD X (st::rest) (v7 G1 G2):=.mk λH₀ B₀ δ pins s σ H D I ⟨r,en,e,k⟩=>by
 unfold v7 at e;cases e1:G1 δ with
 | none=>rw[e1] at e;cases e
 | some r1 =>
  rw[e1] at e;cases r1 with
  | nx δ'=>exact vo0 (h1 H₀ B₀ δ) (h2 H₀ B₀ δ') pins s σ H D I ⟨_,en,e1,fun σ' H' en'=>⟨r,en',e,k⟩⟩
  | rt d=>cases e;exact vo0 (h1 H₀ B₀ δ) u90 pins s σ H D I ⟨_,en,e1,k⟩
  | bk δ'=>cases e;exact vo0 (h1 H₀ B₀ δ) u90 pins s σ H D I ⟨_,en,e1,k⟩
  | ct δ'=>cases e;exact vo0 (h1 H₀ B₀ δ) u90 pins s σ H D I ⟨_,en,e1,k⟩
  | rf d=>cases e;exact vo0 (h1 H₀ B₀ δ) u90 pins s σ H D I ⟨_,en,e1,k⟩
theorem m8(h:PD X e g):PSD X (.Return (some e) pos) (o7 g):=.mk λH₀ B₀ δ pins s σ H D I ⟨r,en,e1,k⟩=>by
 unfold o7 at e1;obtain⟨B,b1,b2,env⟩:=en.ex;cases e2:g δ with
 | none=>rw[e2] at e1;cases e1
 | some d =>
  rw[e2] at e1;cases e1;exact mt0 (h B δ) pins s σ H D I ⟨d,env,e2,λv H' s' r=>k v H' (en.same.trans s') (r.mono (Gr.less b1))⟩
theorem EnvS.wr{σ σ':St}(e:EnvS K H₀ B₀ H σ δ)(b1:∀a,B₀ a->B a)(b2:∀a,B a->B₀ a∨H₀ a=none)(s:Same H H')(w:Wr idx σ σ' δ δ')(en:Env K H' B σ' δ'):EnvS K H₀ B₀ H' σ' δ':=by
 refine⟨e.same.trans s,⟨B,b1,b2,en⟩,λi ds a h1 h2=>?_,e.b0⟩
 by_cases hi:i∈idx
 ·exact absurd h1 (w.own i hi ds)
 ·rw[(w.oth i hi).2] at h1
  rw[(w.oth i hi).1] at h2;exact e.fr i ds a h1 h2
theorem b7{f:D->Ds->Option Ds}(h:PD X e g)(hg:PGD X tg idx f)(hs:swapsWithSole [tg] e pos.line X.env=pure false:=by rfl)(hw:swappedStores [tg] e X.env=pure none:=by rfl)
  (h1:(assignEach [tg] X.env).map (·.2)=[assign tg X.env]:=by rfl):PSD X (.Assign [tg] e pos) (m5 f g):=.mk λH₀ B₀ δ pins s σ H D I ⟨r,en,e1,k⟩=>by
 unfold m5 at e1;obtain⟨B,b1,b2,env⟩:=en.ex;cases e2:g δ with
 | none=>rw[e2] at e1;cases e1
 | some d =>
  rw[e2] at e1;simp only[Option.bind_some] at e1;cases e3:f d δ with
  | none=>rw[e3] at e1;cases e1
  | some δ' =>
   rw[e3] at e1;cases e1;exact k60 (h B δ) (hg B d δ) hs hw h1 pins s σ H D I ⟨d,env,e2,λv H' s' r=>⟨δ',r,env.same s',e3,fun σ' w en'=>k σ' H' (en.wr b1 b2 s' w en')⟩⟩
theorem d7(hc:PTD X c gt)(ha:PSsD X as Ga)(hb:PSsD X bs Gb):PSD X (.If c as bs pos) (ifD gt Ga Gb):=.mk λH₀ B₀ δ pins s σ H D I ⟨r,en,e1,k⟩=>by
 unfold ifD at e1;obtain⟨B,b1,b2,env⟩:=en.ex;cases e2:gt δ with
 | none=>rw[e2] at e1;cases e1
 | some t =>
  rw[e2] at e1;refine Vl0 (hc B δ) (ha H₀ B₀ δ) (hb H₀ B₀ δ) pins s σ H D I ⟨t,env,e2,λH' s'=>?_⟩;cases t with
  | true=>exact⟨r,en.grow s',e1,k⟩
  | false=>exact⟨r,en.grow s',e1,k⟩
structure ItD(K:W.Frag)(B:BS)(J:It)(items:List D)(H₁:Hp):Prop where
 go:∀i H,Gr H₁ H B B->i<items.length->J.go i H
 yld:∀i H x H',Gr H₁ H B B->J.yld i H x H'->i<items.length->Same H H'/\∃d,items[i]?=some d/\∀B':BS,Gr H₁ H' B B'->(∀a,B' a->H a≠none)->Rp K H' B' d x
 stop:∀i H,Gr H₁ H B B->items.length<=i->J.stop i H
def tDI(K:W.Frag)(B:BS)(δ:Ds)(g:Ds->Option (List D)):TI:=fun σ H R=>∃items,Env K H B σ δ/\g δ=some items/\∀J H',Same H H'->ItD K B J items H'->R J H'
structure PID(X:Cx)(tg e:Expr)(g:Ds->Option (List D)):Prop where
 mk::go:∀B δ,PI X tg e (tDI X.K B δ g)
instance{X:Cx}{tg e:Expr}{g:Ds->Option (List D)}:CoeFun (PID X tg e g) (λ_=>∀B δ,PI X tg e (tDI X.K B δ g)):=⟨PID.go⟩
theorem _root_.L2.PI.imp{t t':TI}(h:PI X tg e t)(q:∀σ H R,t' σ H R->t σ H R):PI X tg e t':=λpins s σ H R I z=>h pins s σ H R I (q σ H R z)
theorem U9(h:PD X e g):PID X tg e (V4 g):=.mk λB δ=>L2.PI.imp (ae0 (h B δ)) fun σ H R ⟨items,en,e1,k⟩=>by
 unfold V4 at e1;cases e2:g δ with
 | none=>rw[e2] at e1;cases e1
 | some d =>
  rw[e2] at e1;cases d<;>simp[v40] at e1
  subst e1;refine⟨_,en,e2,λv H' s' r=>?_⟩;rw[Y6] at r;obtain⟨a,xs,rfl,q,rs⟩:=r;refine⟨a,rfl,⟨xs,q.to⟩,k _ H' s' ⟨λi H2 g2 hi=>?_,λi H2 x H3 g2 y hi=>?_,λi H2 g2 hi=>?_⟩⟩
  ·have:i<xs.length:=by rw[rs.length];exact hi
   exact⟨xs,xs[i],(q.mono g2).to,by simp[this]⟩
  ·obtain⟨e3,y⟩:=y
   obtain⟨x',e4,r'⟩:=rs.get (i:=i) (d:=_) (C1 hi);have:=y xs (q.mono g2).to;rw[e4] at this;cases this;subst e3;exact⟨Same.refl _,_,C1 hi,λB' gB _=>r'.mono gB⟩
  ·exact⟨xs,(q.mono g2).to,by rw[rs.length];exact hi⟩
theorem xd0(h:PD X e g):PID X tg e (tupI g):=.mk λB δ=>L2.PI.imp (V40 (h B δ)) fun σ H R ⟨items,en,e1,k⟩=>by
 unfold tupI at e1;cases e2:g δ with
 | none=>rw[e2] at e1;cases e1
 | some d =>
  rw[e2] at e1;cases d<;>simp[bg0] at e1
  subst e1;refine⟨_,en,e2,λv H' s' r=>?_⟩;rw[W3] at r;obtain⟨a,xs,rfl,q,rs⟩:=r;refine⟨a,rfl,⟨xs,q.to⟩,k _ H' s' ⟨λi H2 g2 hi=>?_,λi H2 x H3 g2 y hi=>?_,λi H2 g2 hi=>?_⟩⟩
  ·have:i<xs.length:=by rw[rs.length];exact hi
   exact⟨xs,xs[i],(q.mono g2).to,by simp[this]⟩
  ·obtain⟨e3,y⟩:=y
   obtain⟨x',e4,r'⟩:=rs.get (i:=i) (d:=_) (C1 hi);have:=y xs (q.mono g2).to;rw[e4] at this;cases this;subst e3;exact⟨Same.refl _,_,C1 hi,λB' gB _=>r'.mono gB⟩
  ·exact⟨xs,(q.mono g2).to,by rw[rs.length];exact hi⟩
theorem qg0(lo hi:Int):(R7 lo hi).length=(hi - lo).toNat:=by simp[R7]
theorem jx0(lo hi:Int):ItD K B (Itr lo (hi - lo).toNat) (R7 lo hi) H:=by
 refine⟨λi H2 g2 hi=>?_,λi H2 x H3 g2 y hi=>?_,λi H2 g2 hi=>?_⟩
 ·rw[qg0] at hi;exact hi
 ·obtain⟨e3,rfl⟩:=y
  rw[qg0] at hi;subst e3;exact⟨Same.refl _,.int (lo+i),by simp[R7,hi],λB' gB _=>by rw[m9]⟩
 ·rw[qg0] at hi;exact hi
theorem G8{a:Expr}(hm:X.mg "range"=none)(ha:PDA X [a] gA)(hg:Gl X "range" := by rfl)(hs:starEach [a] X.env=[(false,eval a X.env)]:=by rfl):PID X tg (.Call (.Name "range" p) [a] [] pos) (O2 gA) :=
 .mk λB δ=>L2.PI.imp (ek0 hg hm (ha B δ) hs) fun σ H R ⟨items,en,e1,k⟩=>by
 unfold O2 at e1;cases e2:gA δ with
 | none=>rw[e2] at e1;cases e1
 | some ds =>
  rw[e2] at e1;simp only[Option.bind_some] at e1;unfold gw0 at e1;split at e1
  ·split at e1
   ·rename_i j hj
    cases e1;refine⟨_,en,e2,λvs H' s' r=>?_⟩;rw[o6] at r;obtain⟨x,t,rfl,r1,r2⟩:=r;rw[o8] at r2;subst r2;rw[m9] at r1;subst r1;refine⟨j,rfl,hj.1,hj.2,k _ H' s' ?_⟩;have:=jx0 (K:=X.K) (B:=B) (H:=H') 0 j;rw[Int.sub_zero] at this;exact this
   ·cases e1
  ·cases e1
theorem ix0{a:Expr}{p:Pos}(hm:X.mg "range"=none)(ha:PDA X [a,b] gA)(hg:Gl X "range" := by rfl)(hs:starEach [a,b] X.env=[(false,eval a X.env),(false,eval b X.env)]:=by rfl)(hs2:starEach [b] X.env=[(false,eval b X.env)]:=by rfl) :
  PID X tg (.Call (.Name "range" p) [a,b] [] pos) (rc0 gA):=.mk λB δ=>L2.PI.imp (ed0 hg hm (ha B δ) hs hs2) fun σ H R ⟨items,en,e1,k⟩=>by
 unfold rc0 at e1;cases e2:gA δ with
 | none=>rw[e2] at e1;cases e1
 | some ds =>
  rw[e2] at e1;simp only[Option.bind_some] at e1;unfold gx0 at e1;split at e1
  ·split at e1
   ·rename_i i j hj
    cases e1;refine⟨_,en,e2,λvs H' s' r=>?_⟩;rw[o6] at r;obtain⟨x,t,rfl,r1,r2⟩:=r;rw[o6] at r2;obtain⟨y,t',rfl,r2,r3⟩:=r2;rw[o8] at r3;subst r3;rw[m9] at r1 r2;subst r1 r2;exact⟨i,j,rfl,⟨hj.1.1,hj.1.2,hj.2.1,hj.2.2⟩,k _ H' s' (jx0 i j)⟩
   ·cases e1
  ·cases e1
theorem EnvS.lower{H₁:Hp}{σ:St}(e:EnvS K H₁ B₀ H σ δ)(s:Same H₀ H₁)(b0:∀a,B₀ a->H₀ a≠none):EnvS K H₀ B₀ H σ δ:=by
 obtain⟨B,b1,b2,en⟩:=e.ex;exact⟨s.trans e.same,⟨B,b1,λa z=>(b2 a z).imp id λq=>s.free q,en⟩,λi ds a h1 h2=>s.free (e.fr i ds a h1 h2),b0⟩
open Classical in
theorem za0{f:D->Ds->Option Ds}(hp:PassesOwn (model X.prog X.w) X.A X.env X.xe)(hc:X.calm=true)(hi:PID X tg iter gi)(hg:PGD X tg idx f)(hb:PSsD X body G)
  (hs:∀x,foldedSetIterable iter X.env x=pure x:=by intro _;rfl):PSD X (.For tg iter body [] pos) (J0 gi f G):=.mk λH₀ B₀ δ pins s σ H D I ⟨r,en,e1,k⟩=>by
 unfold J0 at e1;obtain⟨B,b1,b2,env⟩:=en.ex;cases e2:gi δ with
 | none=>rw[e2] at e1;cases e1
 | some items =>
  rw[e2] at e1;simp only[Option.bind_some] at e1;have hg':PG X tg (λv σ H Q=>∃B d δ,tDG X.K idx f B d δ v σ H Q):=λpins s σ H v u Q I r ⟨B,d,δ,h⟩=>hg B d δ pins s σ H v u Q I r h
  have hb':PSs X body (λD σ H=>∃H₀ B₀ δ,tDS X.K H₀ B₀ δ G D σ H):=λpins s σ H D I ⟨H₀,B₀,δ,h⟩=>hb H₀ B₀ δ pins s σ H D I h
  refine Yo0 hp hc (hi B δ) hg' hb' hs pins s σ H D I ⟨items,env,e2,λJ H1 s1 it=>?_⟩;obtain⟨Hh,hHh⟩:∃Hh:Hp,Hh=λb=>if B b/\¬B₀ b then none else H1 b:=⟨_,rfl⟩
  have hoff:∀b,¬B b->Hh b=H1 b:=λb n=>by rw[hHh];exact if_neg λz=>n z.1
  have hown:∀b,B b->¬B₀ b->Hh b=none:=λb n n'=>by rw[hHh];exact if_pos ⟨n,n'⟩
  have hin:∀b,B₀ b->Hh b=H1 b:=λb n=>by rw[hHh];exact if_neg λz=>z.2 n
  have hle:Same Hh H1:=λb o h=>by
   by_cases z:B b/\¬B₀ b
   ·rw[hown b z.1 z.2] at h;cases h
   ·rw[hHh] at h
    have h':(if B b/\¬B₀ b then none else H1 b)=some o:=h;rw[if_neg z] at h';exact h'
  have hS:Same H₀ Hh:=λb o h=>by
   have h1:=s1 b o (en.same b o h)
   by_cases z:B b
   ·rcases b2 b z with q|q
    ·rw[hin b q];exact h1
    ·rw[h] at q;cases q
   ·rw[hoff b z];exact h1
  have env1:=env.same s1;have start:EnvS X.K Hh B₀ H1 σ δ:=by
   refine⟨hle,⟨B,b1,λa z=>?_,env1⟩,λi ds a h1 h2=>?_,λa z=>?_⟩
   ·by_cases q:B₀ a
    ·exact .inl q
    ·exact .inr (hown a z q)
   ·have hn:=en.fr i ds a h1 h2
    have nb:¬B₀ a:=λz=>en.b0 a z hn
    obtain⟨o,e3,a',e4,hB,_⟩:=Pd.get env1.all h1;rw[h2] at e3;cases e3;cases e4;exact hown a hB nb
   ·rw[hin a z]
    exact env1.bad a (b1 a z)
  refine⟨λi m σ H=>m=items.length - i/\i<=items.length/\∃δi,EnvS X.K Hh B₀ H σ δi/\U5 f G (items.drop i) δi=some r,⟨_,rfl,C5 _,δ,start,e1⟩,?_⟩;rintro i m σi Hi ⟨rfl,hil,δi,eni,ei⟩;have gr:Gr H1 Hi B B:=λb o n h=>⟨n,eni.same b o (by rw[hoff b n];exact h)⟩
  by_cases hlt:i<items.length
  ·refine .inr ⟨it.go i Hi gr hlt,fun σ' H'=>∃δn,EnvS X.K Hh B₀ H' σ' δn/\U5 f G (items.drop (i+1)) δn=some r,fun σ' H' ⟨δn,en',e'⟩=>⟨items.length - (i+1),by omega,rfl,hlt,δn,en',e'⟩,λx H' y=>?_⟩
   obtain⟨sm,d,hd,rd⟩:=it.yld i Hi x H' gr y hlt;obtain⟨B',c1,c2,env0⟩:=eni.ex;have rd':Rp X.K H' B' d x:=rd B' (λb o n h=>by
    have h':Hh b=some o:=by rw[hoff b n];exact h
    refine⟨λz=>?_,sm b o (eni.same b o h')⟩;rcases c2 b z with q|q
    ·exact n (b1 b q)
    ·rw[h'] at q;cases q) env0.bad
   have env':=env0.same sm
   replace eni:=eni.grow sm
   have hdrop:items.drop i=d::items.drop (i+1):=by
    rw[List.drop_eq_getElem_cons hlt];congr 1;rw[List.getElem?_eq_getElem hlt] at hd;exact B6 hd
   rw[hdrop] at ei;unfold U5 at ei;cases e3:f d δi with
   | none=>rw[e3] at ei;cases ei
   | some δ2 =>
    rw[e3] at ei;simp only[Option.bind_some] at ei;refine⟨B',d,δi,δ2,rd',env',e3,fun σ' w en'=>?_⟩;have enb:EnvS X.K Hh B₀ H' σ' δ2:=eni.wr c1 c2 (Same.refl _) w en';cases e4:G δ2 with
    | none=>rw[e4] at ei;cases ei
    | some rb =>
     rw[e4] at ei;refine⟨Hh,B₀,δ2,rb,enb,e4,?_⟩;cases rb with
     | nx δn=>exact fun σ' H' en'=>⟨δn,en',ei⟩
     | ct δn=>exact fun σ' H' en'=>⟨δn,en',ei⟩
     | bk δn =>
      cases ei;exact fun σ' H' en'=>k σ' H' (en'.lower hS en.b0)
     | rt d' =>
      cases ei;exact λv H' s' r'=>k v H' (hS.trans s') r'
     | rf d' =>
      cases ei;exact λp H' hp s' r'=>k p H' (hS.free hp) (hS.trans s') r'
  ·have e:i=items.length:=by omega
   subst e;refine .inl ⟨it.stop _ Hi gr (A2 _),?_⟩;rw[List.drop_length] at ei;cases ei;exact k σi Hi (eni.lower hS en.b0)
structure PFD(X:Cx)(ifs:List Expr)(g:Ds->Option Bool):Prop where
 mk::go:∀B δ,PF X ifs (tDT X.K B δ g)
instance{X:Cx}{ifs:List Expr}{g:Ds->Option Bool}:CoeFun (PFD X ifs g) (λ_=>∀B δ,PF X ifs (tDT X.K B δ g)):=⟨PFD.go⟩
theorem V5:PFD X [] noT:=.mk λB δ pins s σ H Q I ⟨b,en,e,k⟩=>by
 cases e;exact Xz0 pins s σ H Q I (k H (Same.refl H))
theorem ur0(h:PTD X c gt):PFD X [c] gt:=.mk λB δ=>W60 (h B δ)
theorem do0{σ:St}(h:j<n):(J5 n caps σ)[j]?=some none:=by
 unfold J5;rw[List.getElem?_append_left (by simpa using h),List.getElem?_replicate,if_pos h]
theorem u40:∀n:Nat,Paired (SlR K H B) (List.replicate n (none:Option V)) (List.replicate n Sl.un)
 | 0=>.nil
 | n+1=>.cons trivial (u40 n)
theorem li0{σ:St}(en:Env K H B σ δ):∀caps:List Nat,Paired (SlR K H B) (caps.map λj=>(σ[j]?).join) (caps.map λj=>m90 δ[j]?)
 | []=>.nil
 | j::caps=>by
  refine .cons ?_ (li0 en caps);show SlR K H B (σ[j]?).join (m90 δ[j]?);cases h:δ[j]? with
  | none=>trivial
  | some sl =>
   cases sl with
   | un=>trivial
   | ow ds=>trivial
   | ex c n=>trivial
   | sh d =>
    obtain⟨v,e,r⟩:=en.get h;rw[e];exact⟨v,rfl,r⟩
theorem c20{o:Option Sl}{ds:D}(h:m90 o=.ow ds):False:=by
 cases o with
 | none=>cases h
 | some s=>cases s<;>cases h
theorem qe0{ds:D}(h:(yx0 n caps δ)[i]?=some (.ow ds)):False:=by
 unfold yx0 at h
 by_cases hi:i<n
 ·rw[List.getElem?_append_left (by simpa using hi),List.getElem?_replicate,if_pos hi] at h
  cases h
 ·rw[List.getElem?_append_right (by simpa using hi),List.getElem?_map] at h
  cases q:caps[i - (List.replicate n Sl.un).length]? with
  | none=>rw[q] at h;cases h
  | some j =>
   rw[q] at h;exact c20 (B6 h)
theorem Env.comp{σ:St}(en:Env K H B σ δ)(n:Nat)(caps:List Nat):Env K H B (J5 n caps σ) (yx0 n caps δ) :=
 ⟨Pd.app (u40 n) (li0 en caps),en.bad,λi j a ds es h1 _ _ _=>(qe0 h1).elim⟩
theorem SlR.gr{o:Option V}{s:Sl}(g:Gr H H' B B')(no:∀ds,s≠.ow ds)(h:SlR K H B o s):SlR K H' B' o s:=by
 cases s with
 | un=>trivial
 | sh d=>obtain⟨v,e,r⟩:=h;exact⟨v,e,r.mono g⟩
 | ow ds=>exact absurd rfl (no ds)
 | ex c n=>obtain⟨a,e,r⟩:=h;exact⟨a,e,r.mono g⟩
theorem Pd.impG(g:Gr H H' B B'):∀{σ:St} {δ:Ds},(∀(i:Nat) (ds:D),δ[i]?≠some (.ow ds))->Paired (SlR K H B) σ δ->Paired (SlR K H' B') σ δ
 | _,_,_,.nil=>.nil
 | _,_,no,.cons r t=>.cons (r.gr g λds z=>no 0 ds (by rw[← z];rfl)) (Pd.impG g (λi ds z=>no (i+1) ds (by simpa using z)) t)
def tDF(K:W.Frag)(B:BS)(δ:Ds)(g:Ds->Option D):TE:=fun σ H Q=>∃d,Env K H B σ δ/\g δ=some d/\∀p H',H p=none->Same H H'->RpO K H' (λa=>B a∨a=p) d p->Q (.ref p) H'
structure PDF(X:Cx)(e:Expr)(g:Ds->Option D):Prop where
 mk::go:∀B δ,PE X e (tDF X.K B δ g)
instance{X:Cx}{e:Expr}{g:Ds->Option D}:CoeFun (PDF X e g) (λ_=>∀B δ,PE X e (tDF X.K B δ g)):=⟨PDF.go⟩
theorem tD.toF{σ:St}{Q:VK}(h:tD K B δ g σ H Q):tDF K B δ g σ H Q:=by
 obtain⟨d,en,e,k⟩:=h;exact⟨d,en,e,λp H' hp s r=>k _ H' s (r.rp (λa z=>.inl z) (en.free hp))⟩
theorem PDF.pd{X:Cx}(h:PDF X e g):PD X e g:=.mk λB δ=>(h B δ).imp fun σ H Q z=>z.toF
theorem nl0{K:W.Frag}{B:BS}{δ:Ds}{σ:St}{H:Hp}{Q:VK}{caps:List Nat}{gi:Ds->Option (List D)}{f:D->Ds->Option Ds}{gt:Ds->Option Bool}{ge:Ds->Option D}(hidx:∀j∈idx,j<n)
  (h:tDF K B δ (o9 n caps gi f gt ge) σ H Q) :
  gu0 n caps (tDI K B δ gi) (λv σ H Q=>∃B d δ,tDG K idx f B d δ v σ H Q) (fun σ H Q=>∃B δ,tDT K B δ gt σ H Q) (fun σ H Q=>∃B δ,tD K B δ ge σ H Q) σ H Q:=by
 obtain⟨d,en,h,k⟩:=h;unfold o9 at h;cases e1:gi δ with
 | none=>rw[e1] at h;cases h
 | some items =>
  rw[e1] at h;simp only[Option.bind_some] at h
  by_cases hsz:items.length<=sizeLine
  ·rw[if_pos hsz] at h
   cases e2:Q4 f gt ge (yx0 n caps δ) items with
   | none=>rw[e2] at h;cases h
   | some out =>
    rw[e2] at h;cases h;refine⟨items,en,e1,λJ H1 s1 it=>λL hL=>?_⟩;have en1:=en.same s1;have nBL:¬B L:=en1.free hL;obtain⟨Bp,hBp⟩:∃Bp:BS,Bp=λa=>B a∨a=L:=⟨_,rfl⟩
    have bpL:Bp L:=by rw[hBp];exact .inr rfl
    have bpB:∀a,B a->Bp a:=λa z=>by rw[hBp];exact .inl z
    have bpI:∀a,Bp a->B a∨a=L:=λa z=>by rw[hBp] at z;exact z
    have gr:∀{H2:Hp},Same H1 H2->Gr H1 H2 B Bp:=λ{H2} s2 b o nb hb=>⟨(λz=>by
     rcases bpI b z with q|q
     ·exact nb q
     ·subst q;rw[hL] at hb;cases hb),s2 b o hb⟩
    refine⟨λi m ys H2=>m=items.length - i/\i<=items.length/\H2 L=some (.lst ys)/\Same H1 H2/\ys.length<=i/\∃pre rest,out=pre++rest/\Rps K H2 Bp pre ys/\Q4 f gt ge (yx0 n caps δ) (items.drop i)=some rest,
     ⟨_,rfl,C5 _,b8,Z9 hL,A2 _,[],out,rfl,by rw[o8],e2⟩,?_⟩
    rintro i m ys H2 ⟨rfl,hil,hD,s2,hyl,pre,rest,ho,rp,ec⟩;have en2:Env K H2 Bp (J5 n caps σ) (yx0 n caps δ):=by
     refine⟨Pd.impG (gr s2) (λi ds z=>qe0 z) (en1.comp n caps).all,λa z=>?_,λi j a ds es h1 _ _ _=>(qe0 h1).elim⟩;rcases bpI a z with q|q
     ·exact(en1.same s2).bad a q
     ·subst q;rw[hD];exact λz=>nomatch z
    by_cases hlt:i<items.length
    ·refine .inr ⟨it.go i H2 (Gr.same s2) hlt,λx H3 y=>?_⟩
     obtain⟨sm,dx,hdx,rx⟩:=it.yld i H2 x H3 (Gr.same s2) y hlt;have rx':Rp K H3 Bp dx x:=rx Bp (gr (s2.trans sm)) en2.bad
     replace en2:=en2.same sm
     replace s2:=s2.trans sm
     replace hD:=sm _ _ hD
     replace rp:=rp.same sm
     have hdrop:items.drop i=dx::items.drop (i+1):=by
      rw[List.drop_eq_getElem_cons hlt];congr 1;rw[List.getElem?_eq_getElem hlt] at hdx;exact B6 hdx
     rw[hdrop] at ec;unfold Q4 at ec;cases e3:f dx (yx0 n caps δ) with
     | none=>rw[e3] at ec;cases ec
     | some δ' =>
      rw[e3] at ec;dsimp only at ec;refine⟨Bp,dx,yx0 n caps δ,δ',rx',en2,e3,fun σ4 w en4=>⟨⟨w.len,λj v z=>?_⟩,?_⟩⟩
      ·by_cases hj:j∈idx
       ·rw[do0 (hidx j hj)] at z;cases z
       ·rw[(w.oth j hj).1];exact z
      ·cases e4:gt δ' with
       | none=>rw[e4] at ec;cases ec
       | some t =>
        rw[e4] at ec;refine⟨Bp,δ',t,en4,e4,λH5 s5=>?_⟩;cases t with
        | false =>
         rw[if_neg B0];exact⟨items.length - (i+1),by omega,rfl,hlt,s5 _ _ hD,s2.trans s5,by omega,pre,rest,ho,rp.same s5,ec⟩
        | true =>
         rw[if_pos rfl];dsimp only at ec;cases e5:ge δ' with
         | none=>rw[e5] at ec;cases ec
         | some yd =>
          rw[e5] at ec;dsimp only at ec;cases e6:Q4 f gt ge (yx0 n caps δ) (items.drop (i+1)) with
          | none=>rw[e6] at ec;cases ec
          | some rest' =>
           rw[e6] at ec;cases ec;refine⟨Bp,δ',yd,en4.same s5,e5,λv H6 s6 r6=>?_⟩;have hD6:H6 L=some (.lst ys):=s6 _ _ (s5 _ _ hD);have g6:Gr H6 (upd H6 L (.lst (ys++[v]))) Bp Bp:=λb o nb hb=>⟨nb,by
            rw[Z6 (λz=>nb (by rw[z];exact bpL))];exact hb⟩
           refine⟨hD6,by omega,items.length - (i+1),by omega,rfl,hlt,b8,λb o hb=>?_,by simp;omega,pre++[yd],rest',by rw[ho];simp,?_,e6⟩
           ·have nbL:b≠L:=λz=>by rw[z,hL] at hb;cases hb
            rw[Z6 nbL];exact s6 _ _ (s5 _ _ (s2 _ _ hb))
           ·exact(Rps.snoc ((rp.same s5).same s6) r6).mono g6
    ·have e:i=items.length:=by omega
     subst e;refine .inl ⟨it.stop _ H2 (Gr.same s2) (A2 _),?_⟩;rw[List.drop_length] at ec;have ec':([]:List D)=rest:=B6 ec;subst ec';rw[List.append_nil] at ho;subst ho;refine k L H2 (s1.free hL) (s1.trans s2) ⟨ys,hD,?_⟩;rw[hBp] at rp;exact rp
  ·rw[if_neg hsz] at h;cases h
theorem kn0{sc scope:Scope}{elt iter:Expr}{ifs:List Expr}{N':List Str}{n:Nat}{caps:List Nat}{gi:Ds->Option (List D)}{idx:List Nat}{f:D->Ds->Option Ds}{ge:Ds->Option D}
  (hc:X.calm=true) (hsc:X.env.scope=sc) (ok:CompOk sc scope X.N N' n caps) (hidx:∀j∈idx,j<n) (hi:PID X tg iter gi)
  (hg:∀cl s H ex,PGD (X8 X scope cl N' s H ex) tg idx f) (ht:∀cl s H ex,PFD (X8 X scope cl N' s H ex) ifs gt) (he:∀cl s H ex,PD (X8 X scope cl N' s H ex) elt ge)
  (hs:∀x,foldedSetIterable iter X.env x=pure x:=by intro _;rfl) :
  PDF X (.ListComp elt [⟨tg,iter,ifs,0⟩] scope pos) (o9 n caps gi f gt ge):=.mk λB δ =>
 (an0 hc hsc ok (hi B δ) (g:=λv σ H Q=>∃B d δ,tDG X.K idx f B d δ v σ H Q) (tt:=fun σ H Q=>∃B δ,tDT X.K B δ gt σ H Q) (te:=fun σ H Q=>∃B δ,tD X.K B δ ge σ H Q)
  (λcl s H ex pins s' σ H v u Q I r ⟨B,d,δ,h⟩=>hg cl s _ ex B d δ pins s' σ H v u Q I r h)
  (λcl s H ex pins s' σ H Q I ⟨B,δ,h⟩=>ht cl s _ ex B δ pins s' σ H Q I h)
  (λcl s H ex pins s' σ H Q I ⟨B,δ,h⟩=>he cl s _ ex B δ pins s' σ H Q I h) hs).imp fun σ H Q h=>nl0 hidx h
theorem az0{sc scope:Scope}{elt iter:Expr}{ifs:List Expr}{N':List Str}{n:Nat}{caps:List Nat}{gi:Ds->Option (List D)}{idx:List Nat}{f:D->Ds->Option Ds}{ge:Ds->Option D}
  (hc:X.calm=true) (hsc:X.env.scope=sc) (ok:CompOk sc scope X.N N' n caps) (hidx:∀j∈idx,j<n) (hi:PID X tg iter gi)
  (hg:∀cl s H ex,PGD (X8 X scope cl N' s H ex) tg idx f) (ht:∀cl s H ex,PFD (X8 X scope cl N' s H ex) ifs gt) (he:∀cl s H ex,PD (X8 X scope cl N' s H ex) elt ge)
  (hs:∀x,foldedSetIterable iter X.env x=pure x:=by intro _;rfl) :
  PD X (.ListComp elt [⟨tg,iter,ifs,0⟩] scope pos) (o9 n caps gi f gt ge):=(kn0 hc hsc ok hidx hi hg ht he hs).pd
theorem j50(i:Nat){y:Str}{py spos:Pos}{sc scope:Scope}{elt iter:Expr}{ifs:List Expr}{N':List Str}{n:Nat}{caps:List Nat}{gi:Ds->Option (List D)}{idx:List Nat}{f:D->Ds->Option Ds}{ge:Ds->Option D}
  (hN:X.N.Nodup) (hc:X.calm=true) (hsc:X.env.scope=sc) (ok:CompOk sc scope X.N N' n caps) (hidx:∀j∈idx,j<n) (hi:PID X tg iter gi)
  (hg:∀cl s H ex,PGD (X8 X scope cl N' s H ex) tg idx f) (ht:∀cl s H ex,PFD (X8 X scope cl N' s H ex) ifs gt) (he:∀cl s H ex,PD (X8 X scope cl N' s H ex) elt ge)
  (hiN:X.N[i]?=some y:=by rfl) (hy:Loc X.env.scope y:=by first|exact Or.inl rfl|exact Or.inr rfl)
  (hsw:swapsWith (.ListComp elt [⟨tg,iter,ifs,0⟩] scope pos) (some (.Name y py)) spos.line X.env=pure true:=by rfl)
  (hs:∀x,foldedSetIterable iter X.env x=pure x:=by intro _;rfl)
  (hf:X.fn y=true∨X.env.scope.names.lookup y=some .local:=by first|exact .inl rfl|exact .inr rfl|assumption) :
  PSD X (.Assign [.Name y py] (.ListComp elt [⟨tg,iter,ifs,0⟩] scope pos) spos) (m5 (gN i) (o9 n caps gi f gt ge)):=.mk λH₀ B₀ δ pins s σ H D I ⟨r,en,e1,k⟩=>by
 unfold m5 at e1;obtain⟨B,b1,b2,env⟩:=en.ex;cases e2:o9 n caps gi f gt ge δ with
 | none=>rw[e2] at e1;cases e1
 | some d =>
  rw[e2] at e1;cases e1;refine ho0 (i:=i) hN hiN hy hc hsc ok (hi B δ) (g:=λv σ H Q=>∃B d δ,tDG X.K idx f B d δ v σ H Q) (tt:=fun σ H Q=>∃B δ,tDT X.K B δ gt σ H Q) (te:=fun σ H Q=>∃B δ,tD X.K B δ ge σ H Q)
   (λcl s H ex pins s' σ H v u Q I r ⟨B,d,δ,h⟩=>hg cl s _ ex B d δ pins s' σ H v u Q I r h)
   (λcl s H ex pins s' σ H Q I ⟨B,δ,h⟩=>ht cl s _ ex B δ pins s' σ H Q I h)
   (λcl s H ex pins s' σ H Q I ⟨B,δ,h⟩=>he cl s _ ex B δ pins s' σ H Q I h) hsw hs hf pins s σ H D I (nl0 hidx (tD.toF ⟨d,env,e2,λv H' s' r'=>k _ H' (en.wr b1 b2 s' lg0 ((env.same s').set i r'))⟩))
end
theorem xh0{N:List Str}:∀{ds:List D} {vs:List V},Rps K H B ds vs->Paired (SlR K H B) (vs.map some) (ds.map Sl.sh)
 | [],_,h=>by rw[o8] at h;subst h;exact .nil
 | d::ds,_,h=>by
  rw[o6] at h;obtain⟨x,r,rfl,h1,h2⟩:=h;exact .cons ⟨x,rfl,h1⟩ (xh0 (N:=N) h2)
theorem zs0{es:D}(h:(W4 N ds)[i]?=some (.ow es)):False:=by
 unfold W4 at h
 by_cases hi:i<ds.length
 ·rw[List.getElem?_append_left (by simpa using hi),List.getElem?_map] at h
  cases q:ds[i]? with
  | none=>rw[q] at h;cases h
  | some d=>rw[q] at h;cases h
 ·rw[List.getElem?_append_right (by simpa using hi),List.getElem?_replicate] at h
  split at h<;>cases h
section
variable{P:Program}{w:World}
theorem okD{fd:FuncData}{k:Nat}{f:List D->Option D}{G:Ds->Option Res}(F:Fun K x qual st fa fd)(S:FnScope N ps (t6 st))
  (body:∀(cdv:Value) (A:Around) (outer:List PySem.Env) (s:Shared) (H:Hp) (E:XK),Room k (A.deeper (envOfC qual (t6 st) s.heap.objs.size fa cdv))->PSsD (ws0 CX0 P w K mg base N qual (t6 st) fa cdv A outer s H E).nox (W6 st) G)
  (hf:∀ds d,f ds=some d->ds.length=ps.length/\(G (W4 N ds)=some (.rt d)∨(d=.non/\∃δ,G (W4 N ds)=some (.nx δ))∨G (W4 N ds)=some (.rf d)/\isL d=false)) :
  FnOk P w K mg base CX0 (k+1) fa fd ps (spD K f):=by
 refine F.ok S (λvs H Q E ⟨B,ds,d,_,r,h,_⟩=>?_) (λcdv A outer s H vs Q E hr ⟨B,ds,d,hb,r,h,q⟩=>?_)
 ·rw[r.length];exact(hf ds d h).1
 ·refine⟨_,body cdv A outer s H E hr H B (W4 N ds),?_⟩
  have en:EnvS K H B H (L2.start N vs) (W4 N ds):=by
   refine⟨Same.refl H,⟨B,λ_ z=>z,λ_ z=>.inl z,⟨?_,hb,λi j a ds' es h1 _ _ _=>(zs0 h1).elim⟩⟩,λi ds' a h1 _=>(zs0 h1).elim,hb⟩;unfold L2.start W4;rw[r.length];exact Pd.app (xh0 (N:=N) r) (u40 _)
  rcases (hf ds d h).2 with e|⟨rfl,δ,e⟩|⟨e,hn⟩
  ·exact⟨_,en,e,λv H' s' r'=>q v H' s' r'⟩
  ·exact⟨_,en,e,fun σ' H' en'=>q .non H' en'.same (by rw[V6])⟩
  ·exact⟨_,en,e,λp H' hp s' r'=>q _ H' s' ((r'.toO hn).rp (λa z=>.inl z) (λz=>hb p z hp))⟩
def spN(K:W.Frag)(f:List D->Option D):Sp:=λvs H Q _=>∃(B:BS) (ds:List D) (d:D),(∀a,B a->H a≠none)/\Rps K H B ds vs/\f ds=some d/\∀p H',H p=none->Same H H'->RpO K H' (λa=>B a∨a=p) d p->Q (.ref p) H'
theorem okN{fd:FuncData}{k:Nat}{f:List D->Option D}{G:Ds->Option Res}(F:Fun K x qual st fa fd)(S:FnScope N ps (t6 st))
  (body:∀(cdv:Value) (A:Around) (outer:List PySem.Env) (s:Shared) (H:Hp) (E:XK),Room k (A.deeper (envOfC qual (t6 st) s.heap.objs.size fa cdv))->PSsD (ws0 CX0 P w K mg base N qual (t6 st) fa cdv A outer s H E).nox (W6 st) G)
  (hf:∀ds d,f ds=some d->ds.length=ps.length/\G (W4 N ds)=some (.rf d)/\isL d=false) :
  FnOk P w K mg base CX0 (k+1) fa fd ps (spN K f):=by
 refine F.ok S (λvs H Q E ⟨B,ds,d,_,r,h,_⟩=>?_) (λcdv A outer s H vs Q E hr ⟨B,ds,d,hb,r,h,q⟩=>?_)
 ·rw[r.length];exact(hf ds d h).1
 ·refine⟨_,body cdv A outer s H E hr H B (W4 N ds),?_⟩
  have en:EnvS K H B H (L2.start N vs) (W4 N ds):=by
   refine⟨Same.refl H,⟨B,λ_ z=>z,λ_ z=>.inl z,⟨?_,hb,λi j a ds' es h1 _ _ _=>(zs0 h1).elim⟩⟩,λi ds' a h1 _=>(zs0 h1).elim,hb⟩;unfold L2.start W4;rw[r.length];exact Pd.app (xh0 (N:=N) r) (u40 _)
  exact⟨_,en,(hf ds d h).2.1,λp H' hp s' r'=>q p H' hp s' (r'.toO (hf ds d h).2.2)⟩
end
end DL
namespace L2
open Spec PyProof.Rows
section
variable{X:Cx}
theorem ly0:∀{bs:List Bool} {us:List Value} {i:Nat} {v:Value},Vals (bs.map V.bl) us->us[i]?=some v->v=.bool (bs.getD i true)
 | [],_,_,_,r,e=>by
  rw[List.map_nil] at r;cases r;simp at e
 | b::bs,_,0,v,r,e=>by
  rw[List.map_cons] at r;cases r with
  | cons r1 r2=>simp at e;subst e;exact r1
 | b::bs,_,i+1,v,r,e=>by
  rw[List.map_cons] at r;cases r with
  | cons r1 r2=>simpa using ly0 (i:=i) r2 (by simpa using e)
theorem all_range(bs:List Bool):(List.range bs.length).all (λi=>bs.getD i true)=bs.all id:=by
 rw[Bool.eq_iff_iff,List.all_eq_true,List.all_eq_true];constructor
 ·intro h b hb
  obtain⟨i,hi,rfl⟩:=I0.mp hb;have:=h i (C3.mpr hi)
  simpa [Bm0,hi] using this
 ·intro h i hi
  have hi':=C3.mp hi;have:=h bs[i] (E5 hi')
  simpa [Bm0,hi'] using this
theorem cn0(hc:X.calm=true):CallR X (.builtin "all") (λxs H Q=>∃(p:Addr) (bs:List Bool),xs=[.ref p]/\SqL X.K H p (bs.map V.bl)/\Q (.bl (bs.all id)) H):=by
 intro pins s σ H xs us Q I rs h;obtain⟨p,bs,rfl,hq,q⟩:=h;obtain⟨u,rfl,ru⟩:=rs.one;cases ru;obtain⟨its,rv,pl,hz⟩:=I.list hq;refine call_all_walk (i4 pl.isList ?_);have hp:p≠s.heap.objs.size:=by
  obtain⟨o,n,e,_⟩:=pl;exact A8 (A3 e)
 refine⟨_,_,_,_,_,_,λi=>bs.getD i true,rfl,Walks.list (A:=X.A.in1) (I.ok.hd hc) s.heap.objs.size p hp its.toArray,⟨⟨_,B3 _ rfl,rfl,rfl⟩,pl.isList.push _⟩,?_,?_⟩
 ·intro i v s' Q' E' hP hQ
  have e:=ly0 rv (i:=i) (v:=v) (by simpa using hP);subst e;exact L6 hQ
 ·intro h' tk hk
  have e1:its.toArray.size=bs.length:=by
   have:=rv.length;simp at this;simp[this]
  rw[e1,all_range];refine⟨.bl (bs.all id),H,I.kept (t':=tk) λb o e=>?_,rfl,q⟩;refine hk b o ?_ (A7 _ e);intro z;have z':b=s.heap.objs.size:=by simpa using z
  subst z';exact absurd (A3 e) (D4 _)
theorem lq0:∀{ys:List Str} {us:List Value},Vals (ys.map V.str) us->StrsAre us ys
 | [],_,r=>by rw[List.map_nil] at r;cases r;exact .nil
 | y::ys,_,r=>by
  rw[List.map_cons] at r;cases r with
  | cons r1 r2 =>
   obtain⟨t,e⟩:=r1;subst e;exact .cons y t (lq0 r2)
theorem Z60:MtR X "str.join" (λx xs H Q=>∃(sep:Str) (p:Addr) (ys:List Str),x=.str sep/\xs=[.ref p]/\SqL X.K H p (ys.map V.str)/\(ys.map (·.length)).sum+ys.length*sep.length<=16777216/\Q (.str (Txt.join sep ys)) H):=by
 intro pins s σ H x xs v us Q I rx rs h;obtain⟨sep,p,ys,rfl,rfl,hq,hz,q⟩:=h;obtain⟨t,rfl⟩:=rx;obtain⟨u,rfl,ru⟩:=rs.one;cases ru;obtain⟨its,rv,pl,_⟩:=I.list hq;exact join_list pl.isList (by simpa using lq0 rv) hz λt' k=>⟨.str _,H,I.tok k,⟨t',rfl⟩,q⟩
theorem part_of{o:Option Int}(p:IsPart u o):∃l:Option (Int×Tok),u=partValue l/\l.map (·.1)=o:=by
 cases p with
 | none=>exact⟨none,rfl,rfl⟩
 | int i t=>exact⟨some (i,t),rfl,rfl⟩
theorem Yz0:SlR X (λx lo hi H Q=>∃z,x=.str z/\z.length<=sizeLine/\Q (.str (Txt.slice z lo hi)) H):=by
 intro pins s σ H x v vl vu lo hi sl Q I rx hs pl pu h;obtain⟨z,rfl,hz,q⟩:=h;obtain⟨t,rfl⟩:=rx;obtain⟨l,rfl,rfl⟩:=part_of pl;obtain⟨u,rfl,rfl⟩:=part_of pu;refine⟨"str",_,F.slot_str_getitem.lookup,P3 _ _ _,wpAny_getItem_str_slice (l:=l) (u:=u) (st:=none) ?_ rfl (post_val_or_str ⟨B7 (Txt.slice_le z _ _) hz,λt' k=>⟨.str _,H,I.tok k,⟨t',rfl⟩,q⟩⟩)⟩;obtain⟨o,h1,h2,h3⟩:=hs;exact⟨o,h1,h2,h3⟩
end
end L2
namespace DL
open Spec PyProof.Rows L2
def tyD:D->String
 | .non => "NoneType"|.bl _ => "bool"|.int _ => "int"|.str _ => "str"|.tup _ => "tuple"|.lst _ => "list"|.dct _ _ => "dict"
def okT(T:String)(f:D->Bool):Prop:=∀(K:W.Frag) (d:D),W.kitOne K (.type (tyD d)) (.type T)=some (f d)
theorem ij0:okT "int" isInt:=λK d=>by cases d<;>kernel_rfl
theorem if0:okT "str" isStr:=λK d=>by cases d<;>kernel_rfl
theorem cx0:okT "bool" isBool:=λK d=>by cases d<;>kernel_rfl
theorem M6:okT "tuple" isTup:=λK d=>by cases d<;>kernel_rfl
theorem k50:okT "list" pd0:=λK d=>by cases d<;>kernel_rfl
section
variable{X:Cx}
theorem co0{T:String}{f:D->Bool}(hT:okT T f):CallR X (.builtin "isinstance") (λxs H Q=>∃B d x,xs=[x,.ty T]/\Rp X.K H B d x/\Q (.bl (f d)) H):=by
 intro pins s σ H xs us Q I rs h;obtain⟨B,d,x,rfl,r,q⟩:=h;obtain⟨u,c,rfl,ru,rc⟩:=rs.two;obtain rfl:c=Value.type T:=rc;have fin:∀tk,EP X pins σ Q (.bool (f d)) { s with toks:=tk }:=λtk=>⟨.bl _,H,I.tok tk,rfl,q⟩
 have e:=hT X.K d;cases d with
 | non=>rw[V6] at r;subst r;cases (show u=Value.none from ru);exact K0 W.kitx_none I.kIn True.intro e (λz=>nomatch z) fin
 | bl y=>rw[X5] at r;subst r;cases (show u=Value.bool y from ru);exact K0 W.kitx_bool I.kIn True.intro e (λz=>nomatch z) fin
 | int i=>rw[m9] at r;subst r;obtain⟨t,rfl⟩:=(show ∃t,u=Value.int i t from ru);exact K0 W.kitx_int I.kIn True.intro e (λz=>nomatch z) fin
 | str y=>rw[W0] at r;subst r;obtain⟨t,rfl⟩:=(show ∃t,u=Value.str y t from ru);exact K0 W.kitx_str I.kIn True.intro e (λz=>nomatch z) fin
 | tup ds =>
  rw[W3] at r;obtain⟨a,xs,rfl,hq,_⟩:=r;cases (show u=Value.ref a from ru);obtain⟨its,_,p,_⟩:=I.tuple hq.to;obtain⟨o,h1,h2,_⟩:=p;exact K0 W.kitx_tuple I.kIn ⟨o,h1,h2⟩ e (λz=>nomatch z) fin
 | lst ds =>
  rw[Y6] at r;obtain⟨a,xs,rfl,hq,_⟩:=r;cases (show u=Value.ref a from ru);obtain⟨its,_,p,_⟩:=I.list hq.to;obtain⟨o,n,h1,h2,_⟩:=p;exact K0 W.kitx_list I.kIn ⟨o,h1,h2⟩ e (λz=>nomatch z) fin
 | dct ks ds =>
  rw[t60] at r;obtain⟨a,xs,rfl,_,hq,_⟩:=r;cases (show u=Value.ref a from ru);cases ks with
  | inl ks =>
   obtain⟨_,_,vs,_,p⟩:=(show ObjOk X.prog X.w H s.heap a (.dK (ks.zip xs)) from I.hok a _ hq);obtain⟨o,es,ep,h1,h2,_⟩:=p;exact K0 W.kitx_dict I.kIn ⟨o,h1,h2.1⟩ e (λz=>nomatch z) fin
  | inr ks =>
   obtain⟨_,_,vs,_,o,es,ep,h1,h2,_⟩:=(show ObjOk X.prog X.w H s.heap a (.dT (ks.zip xs)) from I.hok a _ hq);exact K0 W.kitx_dict I.kIn ⟨o,h1,h2.1⟩ e (λz=>nomatch z) fin
theorem O4{T:String}{f:D->Bool}{Tn:Str}{p p2 pos:Pos}(hT:okT T f)(hb:bootBuiltins Tn=some (.type T))(hm:X.mg "isinstance"=none)(hmT:X.mg Tn=none)(h:PD X e g)(hg:Gl X "isinstance" := by rfl)(hgT:Gl X Tn:=by rfl)
  (hn:Tn ≠"__name__" := by decide) (hd:(Tn==("__debug__" : Str))=false:=by decide)
  (he:starEach [e,.Name Tn p2] X.env=(false,eval e X.env)::starEach [.Name Tn p2] X.env:=by rfl) (he2:starEach [.Name Tn p2] X.env=(false,eval (.Name Tn p2) X.env)::starEach [] X.env:=by rfl)
  (hpl:(backTo pos (starEach [.Name Tn p2] X.env)).any (·.1)=false:=by rfl) :
  PD X (.Call (.Name "isinstance" p) [e,.Name Tn p2] [] pos) (X6 f g) :=
 .mk λB δ=>(q80 (co0 hT) hg hm PyProof.Rows.boot_isinstance (J4 (h B δ) (J4 (Y40 (v:=.ty T) hgT hmT hb rfl hn hd) y70 he2) he) (by decide) (by decide) he hpl).imp fun σ H Q ⟨d,en,h,k⟩=>by
  unfold X6 at h;cases e1:g δ with
  | none=>rw[e1] at h;cases h
  | some x =>
   rw[e1] at h;cases h;exact⟨x,en,e1,λv H1 s1 r1=>⟨B,x,v,rfl,r1,k _ H1 s1 (by rw[X5])⟩⟩
theorem pj0{C:Int->Int->Prop}[∀i j,Decidable (C i j)]{g:Int->Int->V}{g':Int->Int->D}(hg:∀i j H B,Rp K H B (g' i j) (g i j)):Op2 K (rI C g) (ii λi j=>if C i j then some (g' i j) else none):=by
 intro H B x y dx dy d Q hb rx ry h k;cases dx<;>cases dy<;>simp only[ii] at h<;>try cases h
 rename_i i j;split at h
 ·cases h
  rw[m9] at rx ry;subst rx ry;exact⟨i,j,rfl,rfl,by assumption,k _ H (Same.refl H) (hg i j H B)⟩
 ·cases h
theorem lm0{g:Int->Int->V}{g':Int->Int->D}(hg:∀i j H B,Rp K H B (g' i j) (g i j)):Op2 K (rI0 g) (ii λi j=>some (g' i j)):=by
 intro H B x y dx dy d Q hb rx ry h k;cases dx<;>cases dy<;>simp only[ii] at h<;>try cases h
 rename_i i j;rw[m9] at rx ry;subst rx ry;exact⟨i,j,rfl,rfl,k _ H (Same.refl H) (hg i j H B)⟩
instance decDiv(i j:Int):Decidable (c00 i j):=inferInstanceAs (Decidable (0<j/\j<1073741824))
instance decPow(i j:Int):Decidable (ce0 i j):=inferInstanceAs (Decidable (0<=j/\j<=1000000/\i.natAbs<2 ^ 64))
variable{a:Expr}
theorem qo0(ha:PD X a ga)(hb:PD X b gb):PD X (.BinOp a .Sub b pos) (o2 ga gb tt0):=ta0 W90 (lm0 (g':=λi j=>.int (i - j)) λ_ _ _ _=>by rw[m9]) ha hb
theorem vd0(ha:PD X a ga)(hb:PD X b gb):PD X (.BinOp a .FloorDiv b pos) (o2 ga gb zh0):=ta0 Z40 (pj0 (C:=c00) (g':=λi j=>.int (i/j)) λ_ _ _ _=>by rw[m9]) ha hb
theorem X4(ha:PD X a ga)(hb:PD X b gb):PD X (.BinOp a .Mod b pos) (o2 ga gb j5):=ta0 Wd0 (pj0 (C:=λ_ j=>0<j) (g':=λi j=>.int (i%j)) λ_ _ _ _=>by rw[m9]) ha hb
theorem mv0(ha:PD X a ga)(hb:PD X b gb):PD X (.BinOp a .Pow b pos) (o2 ga gb ud0):=ta0 Xv0 (pj0 (C:=ce0) (g':=λi j=>.int (i ^ j.toNat)) λ_ _ _ _=>by rw[m9]) ha hb
end
end DL
namespace L2
open Spec PyProof.Rows
section
variable{X:Cx}
def be0(K:W.Frag):R2:=λx y H Q=>∃l b xs zs,x=.ref l/\y=.ref b/\SqL K H l xs/\SqL K H b zs/\xs.length+zs.length<=sizeLine/\∀p,H p=none->Q (.ref p) (upd H p (.lst (xs++zs)))
theorem Z00:OpR X (binaryOp .Add) (be0 X.K):=by
 intro pins s σ H x y v u Q I rx ry h;obtain⟨l,b,xs,zs,rfl,rfl,hH,hB,hz,q⟩:=h;cases rx;cases ry;obtain⟨its,r,p1,z1⟩:=I.list hH;obtain⟨its2,r2,p2,z2⟩:=I.list hB;obtain⟨⟨cls,dd,data,sl⟩,ho,hc,n,hd⟩:=p1.isList;obtain⟨⟨cls2,dd2,data2,sl2⟩,ho2,hc2,n2,hd2⟩:=p2.isList;simp only at hc hd hc2 hd2;subst hc hd hc2 hd2;have e:its.toArray++its2.toArray=(its++its2).toArray:=by simp
 have hsz:its.toArray.size+its2.toArray.size<=sizeLine:=by
  rw[List.size_toArray,List.size_toArray,← r.length,← r2.length];exact hz
 refine i8 ⟨_,ho,rfl⟩ ⟨_,ho2,rfl⟩ noFill_list_add seq_list_add PySem.F.slot_list_add PySem.F.entry_list_add (PySem.F.args_list_add_2 _ _) (list_addW l b its.toArray its2.toArray n n2 dd dd2 sl sl2 hsz) ⟨ho,ho2,?_⟩;rw[e];exact⟨.ref _,_,I.lnew (t':=s.toks) (r.append r2) (by rw[List.length_append];exact hz),rfl,q _ I.fresh⟩
end
end L2
namespace DL
open Spec PyProof.Rows L2
section
variable{X:Cx}{a:Expr}
theorem n80(hb:∀a,B a->H a≠none){p:Addr}(h:H p=none):¬B p:=λz=>hb p z h
theorem i00{p:Addr}{xs:List V}(hb:∀a,B a->H a≠none)(h:H p=none)(r:Rps K H B ds xs):Rp K (upd H p (.lst xs)) B (.lst ds) (.ref p):=by
 rw[Y6];exact⟨p,xs,rfl,.inl ⟨n80 hb h,.inl b8⟩,r.same (Z9 h)⟩
theorem rg0{p:Addr}{xs:List V}(hb:∀a,B a->H a≠none)(h:H p=none)(r:Rps K H B ds xs):Rp K (upd H p (.tup xs)) B (.tup ds) (.ref p):=by
 rw[W3];exact⟨p,xs,rfl,⟨n80 hb h,b8⟩,r.same (Z9 h)⟩
theorem t50:Op2 K (rI0 λi j=>.bl (decide (i<j))) ltD:=lm0 (g':=λi j=>.bl (decide (i<j))) λ_ _ _ _=>by rw[X5]
theorem Xi0:Op2 K (rI0 λi j=>.bl (decide (j<i))) gtD:=lm0 (g':=λi j=>.bl (decide (j<i))) λ_ _ _ _=>by rw[X5]
theorem f70{x y:V}{dx dy:D}{b:Bool}(rx:Rp K H B dx x)(ry:Rp K H B dy y)(h:eqS dx dy=some b):dt0 x y=true/\decide (x=y)=b:=by
 cases dx<;>cases dy<;>simp only[eqS] at h<;>try cases h
 all_goals
  simp only[V6,X5,m9,W0] at rx ry;subst rx ry;refine⟨rfl,?_⟩;simp
theorem X7:Op2 K rEq eqD:=by
 intro H B x y dx dy d Q hb rx ry h k;unfold eqD at h;cases e:eqS dx dy with
 | none=>rw[e] at h;cases h
 | some b =>
  rw[e] at h;cases h;obtain⟨h1,h2⟩:=f70 rx ry e;exact⟨h1,by rw[h2];exact k _ H (Same.refl H) (by rw[X5])⟩
theorem qs0:Op2 K rNe neD:=by
 intro H B x y dx dy d Q hb rx ry h k;unfold neD at h;cases e:eqS dx dy with
 | none=>rw[e] at h;cases h
 | some b =>
  rw[e] at h;cases h;obtain⟨h1,h2⟩:=f70 rx ry e;exact⟨h1,by rw[h2];exact k _ H (Same.refl H) (by rw[X5])⟩
theorem je0:Op2 K (λx y H Q=>y=.non/\Q (.bl (decide (x=.non))) H) ks0:=by
 intro H B x y dx dy d Q hb rx ry h k;have hy:dy=.non:=by cases dy<;>first|rfl|cases h
 subst hy;cases h;rw[V6] at ry;refine⟨ry,k _ H (Same.refl H) ?_⟩;rw[X5];cases dx<;>simp only[V6,X5,m9,W0,W3,Y6,t60] at rx
 all_goals first
  | (subst rx;rfl)
  | (obtain⟨a,xs,rfl,_⟩:=rx;rfl)
theorem V10(xs:List α)(i:Int):L2.atI xs i=DL.atI xs i:=rfl
theorem um0(n d:Nat)(o:Option Int):HT.sIx n d o=sIx n d o:=by cases o<;>rfl
theorem ji0{xs:List V}{i:Int}{d:D}(r:Rps K H B ds xs)(h:DL.atI ds i=some d):∃v,L2.atI xs i=some v/\Rp K H B d v:=by
 rw[V10];unfold DL.atI at h ⊢;rw[r.length];cases e:DL.ixN ds.length i with
 | none=>rw[e] at h;cases h
 | some j =>
  rw[e] at h;exact r.get h
theorem Wb0:Op2 K (rIx K) ixD:=by
 intro H B x y dx dy d Q hb rx ry h k;cases dx<;>cases dy<;>simp only[ixD] at h<;>try cases h
 ·split at h
  ·rename_i hz
   rw[W0] at rx;rw[m9] at ry;subst rx ry;obtain⟨c,hc,rfl⟩:=P5.mp h;exact .inr (.inr ⟨_,_,c,rfl,rfl,hz,hc,k _ H (Same.refl H) (by rw[W0])⟩)
  ·cases h
 ·rw[W3] at rx
  rw[m9] at ry;subst ry;obtain⟨a,xs,rfl,q,r⟩:=rx;obtain⟨v,hv,rv⟩:=ji0 r h;exact .inr (.inl ⟨a,xs,_,v,rfl,rfl,q.to,hv,k _ H (Same.refl H) rv⟩)
 ·rw[Y6] at rx
  rw[m9] at ry;subst ry;obtain⟨a,xs,rfl,q,r⟩:=rx;obtain⟨v,hv,rv⟩:=ji0 r h;exact .inl ⟨a,xs,_,v,rfl,rfl,q.to,hv,k _ H (Same.refl H) rv⟩
theorem p6(ha:PD X a ga)(hb:PD X b gb)(hs:on0 b:=by exact λ_ _=>rfl):PD X (.Subscript a b pos) (o2 ga gb ixD):=Ud0 Xs0 Wb0 ha hb hs
structure PDO(X:Cx)(e:Option Expr)(g:Ds->Option (Option Int)):Prop where
 mk::go:∀B δ,PO X e (fun σ H Q=>∃o,Env X.K H B σ δ/\g δ=some o/\∀H',Same H H'->Q o H')
instance{X:Cx}{e:Option Expr}{g:Ds->Option (Option Int)}:CoeFun (PDO X e g) (λ_=>∀B δ,PO X e (fun σ H Q=>∃o,Env X.K H B σ δ/\g δ=some o/\∀H',Same H H'->Q o H')):=⟨PDO.go⟩
theorem zw0:PDO X none O6:=.mk λB δ pins s σ H Q I ⟨o,en,h,k⟩=>by
 cases h;exact Zs0 pins s σ H Q I (k H (Same.refl H))
theorem zu0(h:PD X e g):PDO X (some e) (someO g):=.mk λB δ pins s σ H Q I ⟨o,en,hq,k⟩=>by
 unfold someO at hq;cases e1:g δ with
 | none=>rw[e1] at hq;cases hq
 | some d =>
  rw[e1] at hq;cases d<;>simp[asI] at hq
  subst hq;exact aa0 (h B δ) pins s σ H Q I ⟨_,en,e1,λv H' s' r=>⟨_,by rw[m9] at r;exact r,k H' s'⟩⟩
theorem ie0{xs:List V}(r:Rps K H B ds xs)(lo hi:Option Int):Rps K H B (cutD ds lo hi) (s30 xs lo hi):=by
 unfold cutD s30;rw[r.length,um0,um0];exact(r.drop _).take _
theorem y40{d:D}{xs:List V}(h:Rps K H B [d] xs):∃v,xs=[v]/\Rp K H B d v:=by
 rw[o6] at h;obtain⟨x,r,rfl,h1,h2⟩:=h;rw[o8] at h2;subst h2;exact⟨x,rfl,h1⟩
theorem Wg0:FnR K (λxs H Q=>(∃z,xs=[.str z]/\z.length<=sizeLine/\Q (.int z.length) H)∨∃p ys,xs=[.ref p]/\(SqL K H p ys∨SqT K H p ys)/\Q (.int ys.length) H) Y8:=by
 intro H B xs ds d Q hb r h k;unfold Y8 at h;split at h
 ·split at h
  ·cases h
   obtain⟨v,rfl,r1⟩:=y40 r;rw[W0] at r1;subst r1;exact .inl ⟨_,rfl,by assumption,k _ H (Same.refl H) (by rw[m9])⟩
  ·cases h
 ·cases h
  obtain⟨v,rfl,r1⟩:=y40 r;rw[Y6] at r1;obtain⟨a,ys,rfl,q,rr⟩:=r1;exact .inr ⟨a,ys,rfl,.inl q.to,k _ H (Same.refl H) (by rw[m9,rr.length])⟩
 ·cases h
  obtain⟨v,rfl,r1⟩:=y40 r;rw[W3] at r1;obtain⟨a,ys,rfl,q,rr⟩:=r1;exact .inr ⟨a,ys,rfl,.inr q.to,k _ H (Same.refl H) (by rw[m9,rr.length])⟩
 ·cases h
theorem Q5(hm:X.mg "len"=none)(ha:PDA X [e] gA)(hg:Gl X "len" := by rfl)(he:starEach [e] X.env=(false,eval e X.env)::starEach [] X.env:=by rfl)(hpl:(backTo pos (starEach [] X.env)).any (·.1)=false:=by rfl) :
  PD X (.Call (.Name "len" p) [e] [] pos) (oA gA Y8):=tj0 (l20.or ko0) Wg0 hm Ad0 ha hg (by decide) (by decide) he hpl
theorem nd0:∀{ds:List D} {xs:List V} {bs:List Bool},Rps K H B ds xs->bools ds=some bs->xs=bs.map V.bl
 | [],_,_,r,h=>by
  cases h;rw[o8] at r;exact r
 | d::ds,_,bs,r,h=>by
  rw[o6] at r;obtain⟨x,t,rfl,r1,r2⟩:=r;cases d<;>simp only[bools] at h<;>try cases h
  obtain⟨t',e,rfl⟩:=P5.mp h;rw[X5] at r1;rw[r1,nd0 r2 e];rfl
theorem V50:FnR K (λxs H Q=>∃(p:Addr) (bs:List Bool),xs=[.ref p]/\SqL K H p (bs.map V.bl)/\Q (.bl (bs.all id)) H) k20:=by
 intro H B xs ds d Q hb r h k;unfold k20 at h;split at h
 ·obtain⟨bs,e,rfl⟩:=P5.mp h
  obtain⟨v,rfl,r1⟩:=y40 r;rw[Y6] at r1;obtain⟨a,ys,rfl,q,rr⟩:=r1;have:=nd0 rr e;subst this;exact⟨a,bs,rfl,q.to,k _ H (Same.refl H) (by rw[X5])⟩
 ·cases h
theorem kq0:∀{ds:List D} {xs:List V} {bs:List Str},Rps K H B ds xs->tl0 ds=some bs->xs=bs.map V.str
 | [],_,_,r,h=>by
  cases h;rw[o8] at r;exact r
 | d::ds,_,bs,r,h=>by
  rw[o6] at r;obtain⟨x,t,rfl,r1,r2⟩:=r;cases d<;>simp only[tl0] at h<;>try cases h
  obtain⟨t',e,rfl⟩:=P5.mp h;rw[W0] at r1;rw[r1,kq0 r2 e];rfl
theorem jw0{apos cpos:Pos}(ho:PD X o g)(ha:PDA X [e] gA)(hbase:attributeBase o "join" X.env (eval o X.env)=eval o X.env:=by rfl)
  (hfew:((backTo cpos (starEach [e] X.env)).all (λx=>!x.1)&&(backToKw cpos (keywordEach [] X.env)).all (λx=>x.1.isSome)
  &&decide ([e].length+([]:List Keyword).length+(if ([]:List Keyword).isEmpty then 0 else 1)<30))=true:=by rfl)
  (hline:(apos.endLine==cpos.line)=true:=by rfl) (hs:starEach [e] X.env=(false,eval e X.env)::starEach [] X.env:=by rfl) (hplain:(backTo cpos (starEach [] X.env)).any (·.1)=false:=by rfl) :
  PD X (.Call (.Attribute o "join" apos) [e] [] cpos) (wc0 g gA):=.mk λB δ =>
 (pm0 F.plainAttrs_str F.slot_str_join F.type_str_join Z60 (ho B δ) (ha B δ) hbase hfew hline hs hplain).imp fun σ H Q ⟨d,en,h,k⟩=>by
  unfold wc0 at h;cases e1:g δ with
  | none=>rw[e1] at h;cases h
  | some x =>
   cases e2:gA δ with
   | none=>rw[e1,e2] at h;cases h
   | some ds =>
    rw[e1,e2] at h;simp only[Option.bind_some] at h;unfold pl0 at h;split at h
    ·cases e3:tl0 _ with
     | none=>rw[e3] at h;cases h
     | some ys =>
      rw[e3] at h;simp only[Option.bind_some] at h;split at h
      ·cases h
       refine⟨_,en,e1,λv H1 s1 r1=>?_⟩;rw[W0] at r1;subst r1;refine⟨rfl,_,en.same s1,e2,λvs H2 s2 r2=>?_⟩;obtain⟨w,rfl,r3⟩:=y40 r2;rw[Y6] at r3;obtain⟨a,zs,rfl,q,rr⟩:=r3;have:=kq0 rr e3;subst this;exact⟨_,a,ys,rfl,rfl,q.to,by assumption,k _ H2 (s1.trans s2) (by rw[W0])⟩
      ·cases h
    ·cases h
theorem z40:FnR K (λxs H Q=>∃p ys,xs=[.ref p]/\((SqL K H p ys/\∀l,H l=none->Q (.ref l) (upd H l (.tup ys)))∨(SqT K H p ys/\Q (.ref p) H))) Z8:=by
 intro H B xs ds d Q hb r h k;unfold Z8 at h;split at h
 ·cases h
  obtain⟨v,rfl,r1⟩:=y40 r;rw[Y6] at r1;obtain⟨a,ys,rfl,q,rr⟩:=r1;exact⟨a,ys,rfl,.inl ⟨q.to,λl hl=>k _ _ (Z9 hl) (rg0 hb hl rr)⟩⟩
 ·cases h
  obtain⟨v,rfl,r1⟩:=y40 r;have r1':=r1;rw[W3] at r1;obtain⟨a,ys,rfl,q,rr⟩:=r1;exact⟨a,ys,rfl,.inr ⟨q.to,k _ H (Same.refl H) r1'⟩⟩
 ·cases h
end
section
variable{X:Cx}{a:Expr}
theorem y90(h:PD X a ga):PD X (.UnaryOp .USub a pos) (unG J1 ga):=.mk λB δ=>(Vg0 Wf0 (h B δ)).imp fun σ H Q ⟨d,en,h,k⟩=>by
 unfold unG at h;cases e1:ga δ with
 | none=>rw[e1] at h;cases h
 | some x =>
  rw[e1] at h;cases x<;>simp[J1] at h
  subst h;exact⟨_,en,e1,λv H' s r=>⟨_,by rw[m9] at r;exact r,k _ H' s (by rw[m9])⟩⟩
theorem c50:PD X (.Dict [] [] pos) (gc (.dct (.inl []) [])):=.mk λB δ pins s σ H Q I ⟨d,en,h,k⟩=>by
 cases h;have hb:sysModules<s.heap.objs.size:=E6 (by decide) ((I.mod.glob.keeps I.bk).lt:mainGlobals<s.heap.objs.size);have hf:H s.heap.objs.size=none:=I.hok.fresh (A2 _);refine wpAny_Dict_empty ⟨.ref s.heap.objs.size,_,I.laid (a:=s.heap.objs.size) (o:=.dK []) (t':=s.toks) (λ_ _ q=>A7 _ q) (A2 _)
  ⟨C5 _,T0.mpr (C0 (A8 hb)),[],.nil,Heap.DictOf.new s.heap⟩,rfl,k _ _ (Z9 hf) ?_⟩
 rw[sx0];exact⟨_,[],rfl,en.free hf,b8,rfl,by rw[o8]⟩
def FnD(P:Program)(w:World)(K:W.Frag)(mg:Str->Option Value)(base:Heap)(x:Str)(k:Nat)(ps:List Str)(f:List D->Option D):Prop :=
 ∃(fa:Addr) (fd:FuncData),FnOk P w K mg base CX0 k fa fd ps (spD K f)/\mg x=some (.ref fa)/\W.keepIn K (.ref fa)=true/\Binds K fd ps []
theorem c7{k:Nat}{f:List D->Option D}(C:FnD X.prog X.w X.K X.mg X.base x k ps f)(hr:Room m X.A)(hk:k<=m)(ha:PDA X (e::es) gA)(hg:Gl X x:=by rfl)(hdb:(x==("__debug__" : Str))=false:=by decide)
  (he:starEach (e::es) X.env=(false,eval e X.env)::starEach es X.env:=by rfl) (hpl:(backTo pos (starEach es X.env)).any (·.1)=false:=by rfl):PD X (.Call (.Name x p) (e::es) [] pos) (oA gA f):=by
 obtain⟨fa,fd,F,hm,kp,hb⟩:=C;exact Zq0 F (hr.mono hk) hm kp hb ha hg hdb he hpl
theorem N8{sc scope:Scope}{elt iter tg:Expr}{ifs:List Expr}{N N':List Str}{n:Nat}{caps:List Nat}{gi:Ds->Option (List D)}{idx:List Nat}{f:D->Ds->Option Ds}{gt:Ds->Option Bool}{ge:Ds->Option D}
  (ok:CompOk sc scope N N' n caps) (hidx:∀j∈idx,j<n) (hi:PID X tg iter gi)
  (hg:∀cl s H ex,PGD (X8 X scope cl N' s H ex) tg idx f) (ht:∀cl s H ex,PFD (X8 X scope cl N' s H ex) ifs gt) (he:∀cl s H ex,PD (X8 X scope cl N' s H ex) elt ge)
  (hc:X.calm=true:=by rfl) (hsc:X.env.scope=sc:=by rfl) (hN:X.N=N:=by rfl) (hs:∀x,foldedSetIterable iter X.env x=pure x:=by intro _;rfl) :
  PD X (.ListComp elt [⟨tg,iter,ifs,0⟩] scope pos) (o9 n caps gi f gt ge):=az0 hc hsc (hN▸ok) hidx hi hg ht he hs
theorem u00(i:Nat){y:Str}{py spos:Pos}{sc scope:Scope}{elt iter tg:Expr}{ifs:List Expr}{N N':List Str}{n:Nat}{caps:List Nat}{gi:Ds->Option (List D)}{idx:List Nat}{f:D->Ds->Option Ds}{gt:Ds->Option Bool}{ge:Ds->Option D}
  (hnd:N.Nodup) (ok:CompOk sc scope N N' n caps) (hidx:∀j∈idx,j<n) (hi:PID X tg iter gi)
  (hg:∀cl s H ex,PGD (X8 X scope cl N' s H ex) tg idx f) (ht:∀cl s H ex,PFD (X8 X scope cl N' s H ex) ifs gt) (he:∀cl s H ex,PD (X8 X scope cl N' s H ex) elt ge)
  (hc:X.calm=true:=by rfl) (hsc:X.env.scope=sc:=by rfl) (hN:X.N=N:=by rfl)
  (hiN:X.N[i]?=some y:=by rfl) (hy:Loc X.env.scope y:=by first|exact Or.inl rfl|exact Or.inr rfl)
  (hsw:swapsWith (.ListComp elt [⟨tg,iter,ifs,0⟩] scope pos) (some (.Name y py)) spos.line X.env=pure true:=by rfl)
  (hs:∀x,foldedSetIterable iter X.env x=pure x:=by intro _;rfl)
  (hf:X.fn y=true∨X.env.scope.names.lookup y=some .local:=by first|exact .inl rfl|exact .inr rfl|assumption) :
  PSD X (.Assign [.Name y py] (.ListComp elt [⟨tg,iter,ifs,0⟩] scope pos) spos) (m5 (gN i) (o9 n caps gi f gt ge)):=j50 i (hN▸hnd) hc hsc (hN▸ok) hidx hi hg ht he hiN hy hsw hs hf
end
end DL
namespace DL
open Spec PyProof.Rows
@[simp] def Q9:Sl->Sl
 | .ow d=>.sh (unl d)
 | s=>s
@[simp] def frz(δ:Ds):Ds:=δ.map Q9
@[simp] def flat:D->Bool
 | .non=>true|.bl _=>true|.int _=>true|.str _=>true|_=>false
@[simp] def R0(g:GE):GE:=fun δ=>(g (frz δ)).bind λd=>if flat d=true then some d else none
@[simp] def z50(g:GB):GB:=fun δ=>g (frz δ)
@[simp] def s00(g:GE):GE:=fun δ=>g (frz δ)
@[simp] def frzAt(i:Nat)(δ:Ds):Ds:=match δ[i]? with
 | some s=>δ.set i (Q9 s)
 | none=>δ
@[simp] def wt0(i:Nat)(G:GS):GS:=fun δ=>G (frzAt i δ)
@[simp] def R5(i:Nat)(g:GE):GS:=fun δ=>(g δ).map λd=>.nx (δ.set i (.ow d))
abbrev GX:=Ds->Option (D×Ds)
@[simp] def Y9(g:GE):GX:=fun δ=>(g δ).map λd=>(d,δ)
variable{gx:DL.GX}
@[simp] def W8(gx:GX)(ft:D->Ds->Option Ds):GS:=fun δ=>(gx δ).bind λr=>(ft r.1 r.2).map .nx
@[simp] def V1(gx:GX):GS:=fun δ=>(gx δ).map λr=>.nx r.2
@[simp] def owL(i:Nat)(δ:Ds):Option (List D):=match δ[i]? with
 | some (.ow (.lst ds))=>some ds
 | _=>none
@[simp] def zm0(i:Nat)(g:GE):GX:=fun δ=>(owL i δ).bind λds=>(g δ).bind λd=>if ds.length<sizeLine then some (.non,δ.set i (.ow (.lst (ds++[d])))) else none
@[simp] def ql0(i:Nat)(g:GE):GX:=fun δ=>(owL i δ).bind λds=>(g δ).bind λd=>match d with
 | .lst es=>if ds.length+es.length<=sizeLine then some (.non,δ.set i (.ow (.lst (ds++es)))) else none
 | _=>none
@[simp] def q90(i:Nat):GX:=fun δ=>(owL i δ).bind λds=>(ds.getLast?).map λd=>(d,δ.set i (.ow (.lst ds.dropLast)))
@[simp] def setAt(i:Nat)(g:GE):D->Ds->Option Ds:=λv δ=>(owL i δ).bind λds=>(g δ).bind λd=>match d with
 | .int k=>(ixN ds.length k).map λj=>δ.set i (.ow (.lst (ds.set j v)))
 | _=>none
abbrev V8:=Sum Int Str
@[simp] def yo0:D->Option V8
 | .int i=>some (.inl i)
 | .str x=>some (.inr x)
 | _=>none
variable{ks:List DL.V8}
def sp0:List D->Option (List V8)
 | []=>some []
 | d::ds=>(yo0 d).bind λk=>(sp0 ds).map (k::·)
@[simp] def xp0:D->Option (List V8)
 | .tup ds=>sp0 ds
 | _=>none
def yz0{κ:Type}[DecidableEq κ]:List κ->List D->κ->Option D
 | k::ks,d::ds,q=>if k=q then some d else yz0 ks ds q
 | _,_,_=>none
def O3{κ:Type}[DecidableEq κ](ks:List κ)(k:κ):Bool:=ks.any λq=>decide (q=k)
def N5{κ:Type}[DecidableEq κ](ks:List κ)(k:κ):List κ:=if O3 ks k=true then ks else ks++[k]
def K5{κ:Type}[DecidableEq κ](ks:List κ)(ds:List D)(q:κ)(v:D):List D:=if O3 ks q=true then (ks.zip ds).map (λp=>if p.1=q then v else p.2) else ds++[v]
@[simp] def py0(i:Nat)(δ:Ds):Option (List V8×List D):=match δ[i]? with
 | some (.ow (.dct (.inl ks) ds))=>some (ks,ds)
 | _=>none
@[simp] def putAt(i:Nat)(g:GE):D->Ds->Option Ds:=λv δ=>(py0 i δ).bind λr=>(g δ).bind λd=>(yo0 d).bind λk =>
 if r.1.length<sizeLine then some (δ.set i (.ow (.dct (.inl (N5 r.1 k)) (K5 r.1 r.2 k v)))) else none
@[simp] def wd0:D->D->Option D
 | .dct ks ds,d=>match ks with
  | .inl ks=>(yo0 d).bind λk=>yz0 ks ds k
  | .inr ks=>(xp0 d).bind λk=>yz0 ks ds k
 | _,_=>none
@[simp] def T4(neg:Bool):D->D->Option D
 | d,.dct ks ds=>match ks with
  | .inl ks=>(yo0 d).map λk=>.bl (xor neg (O3 ks k))
  | .inr ks=>(xp0 d).map λk=>.bl (xor neg (O3 ks k))
 | _,_=>none
def W9(gt:GB)(G:GS):Nat->Ds->Option Res
 | 0,_=>none
 | n+1,δ=>match gt δ with
  | some false=>some (.nx δ)
  | some true=>match G δ with
   | some (.nx δ')=>W9 gt G n δ'
   | some (.ct δ')=>W9 gt G n δ'
   | some (.bk δ')=>some (.nx δ')
   | r=>r
  | none=>none
@[simp] def G6(i j:Nat):D->Ds->Option Ds
 | .tup [a,b],δ=>some ((δ.set i (.sh a)).set j (.sh b))
 | _,_=>none
mutual
def deq:D->D->Bool
 | .non,.non=>true
 | .bl a,.bl b=>a==b
 | .bl a,.int b=>(if a then 1 else 0)==b
 | .int a,.bl b=>a==(if b then 1 else 0)
 | .int a,.int b=>a==b
 | .str a,.str b=>a==b
 | .tup xs,.tup ys=>G4 xs ys
 | .lst xs,.lst ys=>G4 xs ys
 | _,_=>false
def G4:List D->List D->Bool
 | [],[]=>true
 | x::xs,y::ys=>deq x y&&G4 xs ys
 | _,_=>false
end
mutual
def lean:D->Nat->Bool
 | .dct _ _,_=>false
 | .tup xs,n+1=>leans xs n
 | .lst xs,n+1=>leans xs n
 | .tup _,0=>false
 | .lst _,0=>false
 | _,_=>true
def leans:List D->Nat->Bool
 | [],_=>true
 | x::xs,n=>lean x n&&leans xs n
end
@[simp] def ue0(x y:D):Option D:=if lean x 50=true/\lean y 50=true then some (.bl (deq x y)) else none
@[simp] def M7(x y:D):Option D:=if lean x 50=true/\lean y 50=true then some (.bl (!deq x y)) else none
@[simp] def eqF:D->D->Bool
 | .non,.non=>true
 | .bl a,.bl b=>a==b
 | .bl a,.int b=>(if a then 1 else 0)==b
 | .int a,.bl b=>a==(if b then 1 else 0)
 | .int a,.int b=>a==b
 | .str a,.str b=>a==b
 | _,_=>false
@[simp] def J9(neg:Bool):D->D->Option D
 | x,.lst ys=>if flat x=true/\ys.all flat=true then some (.bl (xor neg (ys.any λy=>eqF y x))) else none
 | x,.tup ys=>if flat x=true/\ys.all flat=true then some (.bl (xor neg (ys.any λy=>eqF y x))) else none
 | _,_=>none
@[simp] def intOfD:List D->Option D
 | [.int i]=>some (.int i)
 | [.bl k]=>some (.int (if k then 1 else 0))
 | _=>none
@[simp] def wn0:List D->Option D
 | [.lst ds]=>some (.lst ds)
 | [.tup ds]=>some (.lst ds)
 | _=>none
def mkF(n:Nat)(N:List Str)(G:GS)(ds:List D):Option D:=if ds.length=n then (match G (W4 N ds) with
 | some (.rt d)=>some d
 | some (.rf d)=>if isL d=true then none else some d
 | some (.nx _)=>some .non
 | _=>none) else none
theorem T6{G:GS}{d:D}(h:mkF n N G ds=some d):ds.length=n/\(G (W4 N ds)=some (.rt d)∨(d=.non/\∃δ,G (W4 N ds)=some (.nx δ))∨G (W4 N ds)=some (.rf d)/\isL d=false):=by
 unfold mkF at h;split at h
 ·rename_i hl
  refine⟨hl,?_⟩;split at h
  ·rename_i e;cases h;exact .inl e
  ·rename_i e
   split at h
   ·cases h
   ·rename_i hn
    cases h;exact .inr (.inr ⟨e,Bq0.mpr hn⟩)
  ·rename_i e;cases h;exact .inr (.inl ⟨rfl,_,e⟩)
  ·cases h
 ·cases h
def mkN(n:Nat)(N:List Str)(G:GS)(ds:List D):Option D:=if ds.length=n then (match G (W4 N ds) with
 | some (.rf d)=>if isL d=true then none else some d
 | _=>none) else none
theorem y00{G:GS}{d:D}(h:mkN n N G ds=some d):ds.length=n/\G (W4 N ds)=some (.rf d)/\isL d=false:=by
 unfold mkN at h;split at h
 ·rename_i hl
  refine⟨hl,?_⟩;split at h
  ·rename_i e
   split at h
   ·cases h
   ·rename_i hn
    cases h;exact⟨e,Bq0.mpr hn⟩
  ·cases h
 ·cases h
theorem O5{G:GS}{d:D}(hl:ds.length=n)(h:G (W4 N ds)=some (.rf d))(hn:isL d=false:=by rfl):mkN n N G ds=some d:=by
 unfold mkN;rw[if_pos hl,h];simp only[];rw[hn];rfl
@[simp] def U8(g:GE):GS:=fun δ=>(g δ).map .rf
@[simp] def lb0(i:Nat):GS:=fun δ=>match δ[i]? with
 | some (.ow d)=>some (.rf d)
 | _=>none
theorem N6{G1 G2:GS}{d:D}(h:G1 δ=some (.rf d)):v7 G1 G2 δ=some (.rf d):=by unfold v7;rw[h]
theorem M8{g:GE}{d:D}(h:g δ=some d):U8 g δ=some (.rf d):=by unfold U8;rw[h];rfl
theorem Z1{G:GS}{d:D}(hl:ds.length=n)(h:G (W4 N ds)=some (.rt d)):mkF n N G ds=some d:=by
 unfold mkF;rw[if_pos hl,h]
theorem v9{G1 G2:GS}{r:Option Res}(h:G1 δ=some (.nx δ'))(k:G2 δ'=r):v7 G1 G2 δ=r:=(Xh0 h).trans k
@[simp] def j6:D->D->Option D
 | .int i,.int j=>some (.int (i+j))
 | .str x,.str y=>if x.length+y.length<=sizeLine then some (.str (x++y)) else none
 | .lst xs,.lst ys=>if xs.length+ys.length<=sizeLine then some (.lst (xs++ys)) else none
 | .tup xs,.tup ys=>if xs.length+ys.length<=sizeLine then some (.tup (xs++ys)) else none
 | _,_=>none
def Tv0(x:Str)(n:Int):Str:=⟨(List.replicate n.toNat x.cps).foldl (·++·) #[]⟩
@[simp] def M9:D->D->Option D
 | .int i,.int j=>if (-(2 ^ 64)<i/\i<2 ^ 64)∨(-(2 ^ 64)<j/\j<2 ^ 64) then some (.int (i*j)) else none
 | .str x,.int n=>if -(2 ^ 62)<=n/\n<2 ^ 62/\x.length*n.toNat<=sizeLine then some (.str (Tv0 x n)) else none
 | .tup xs,.int k=>if xs≠[]/\2<=k/\k<2 ^ 62/\xs.length*k.toNat<=sizeLine then some (.tup (List.replicate k.toNat xs).flatten) else none
 | _,_=>none
@[simp] def slA(d:D)(lo hi:Option Int):Option D:=match d with
 | .str z=>if z.length<=sizeLine then some (.str (Txt.slice z lo hi)) else none
 | .lst xs=>some (.lst (cutD xs lo hi))
 | .tup xs=>some (.tup (cutD xs lo hi))
 | _=>none
@[simp] def J7(g:GE)(gl gh:GO):GE:=fun δ=>(g δ).bind λd=>(gl δ).bind λl=>(gh δ).bind λh=>slA d l h
end DL
variable{ks:List DL.V8}{gx:DL.GX}
namespace L2
open Spec PyProof.Rows
section
variable[DecidableEq κ]
def xo0(kvs:List (κ×V))(k:κ):Option V:=(kvs.find? λkv=>decide (kv.1=k)).map (·.2)
def putK(kvs:List (κ×V))(k:κ)(v:V):List (κ×V) :=
 if (kvs.any λkv=>decide (kv.1=k))=true then kvs.map (λkv=>if kv.1=k then (kv.1,v) else kv) else kvs++[(k,v)]
theorem vl0{p:κ×V}{r:List (κ×V)}{k:κ}(e:p.1=k):xo0 (p::r) k=some p.2:=by simp[xo0,List.find?_cons,e]
theorem vt0{p:κ×V}{r:List (κ×V)}{k:κ}(e:¬p.1=k):xo0 (p::r) k=xo0 r k:=by simp[xo0,List.find?_cons,e]
theorem lt0(k:κ):∀kvs:List (κ×V),(kvs.any λkv=>decide (kv.1=k))=(xo0 kvs k).isSome
 | []=>rfl
 | p::r=>by
  rw[List.any_cons]
  by_cases e:p.1=k
  ·simp only[vl0 e,decide_eq_true e,Bool.true_or,Option.isSome_some]
  ·rw[vt0 e,decide_eq_false e,Bool.false_or];exact lt0 k r
theorem yu0(kvs:List (κ×V))(k:κ)(v:V):(putK kvs k v).length<=kvs.length+1:=by
 unfold putK;split
 ·rw[List.length_map];omega
 ·rw[List.length_append,List.length_cons,List.length_nil];omega
theorem RelO.isSome_eq{o:Option V}{u:Option Value}(r:RelO o u):o.isSome=u.isSome:=by
 cases o with
 | none=>cases u with
  | none=>rfl
  | some _=>exact(show False from r).elim
 | some _=>cases u with
  | none=>exact(show False from r).elim
  | some _=>rfl
theorem KV.val{kvs:List (κ×V)}{vs:List (κ×Value)}(r:KV kvs vs)(k:κ):RelO (xo0 kvs k) (valueAt vs k):=by
 unfold KV at r
 induction r with
 | nil=>exact True.intro
 | @cons p q ps qs h t ih =>
  obtain⟨h1,h2⟩:=h
  by_cases e:p.1=k
  ·have e':q.1=k:=h1.symm.trans e
   have b:valueAt (q::qs) k=some q.2:=by simp[valueAt,List.find?_cons,e']
   rw[vl0 e,b];exact h2
  ·have e':¬q.1=k:=λz=>e (h1.trans z)
   have b:valueAt (q::qs) k=valueAt qs k:=by simp[valueAt,List.find?_cons,e']
   rw[vt0 e,b];exact ih
theorem KV.any{kvs:List (κ×V)}{vs:List (κ×Value)}(r:KV kvs vs)(k:κ):(kvs.any λkv=>decide (kv.1=k))=vs.any λkv=>decide (kv.1=k):=by
 unfold KV at r
 induction r with
 | nil=>rfl
 | cons h t ih=>rw[List.any_cons,List.any_cons,ih,h.1]
theorem KV.repl{kvs:List (κ×V)}{vs:List (κ×Value)}(r:KV kvs vs)(k:κ){y:V}(ry:RelV y u) :
  KV (kvs.map λkv=>if kv.1=k then (kv.1,y) else kv) (vs.map λkv=>if kv.1=k then (kv.1,u) else kv):=by
 unfold KV at r ⊢
 induction r with
 | nil=>exact .nil
 | @cons p q ps qs h t ih =>
  rw[List.map_cons,List.map_cons];refine .cons ?_ ih;obtain⟨h1,h2⟩:=h
  by_cases e:p.1=k
  ·rw[if_pos e,if_pos (h1.symm.trans e)];exact⟨h1,ry⟩
  ·rw[if_neg e,if_neg (λz=>e (h1.trans z))];exact⟨h1,h2⟩
theorem KV.put{kvs:List (κ×V)}{vs:List (κ×Value)}(r:KV kvs vs)(k:κ){y:V}(ry:RelV y u):KV (putK kvs k y) (stored vs k u):=by
 unfold putK stored;rw[r.any k]
 by_cases e:(vs.any λkv=>decide (kv.1=k))=true
 ·rw[if_pos e,if_pos e];exact r.repl k ry
 ·rw[if_neg e,if_neg e];exact Paired.snoc r ⟨rfl,ry⟩
theorem KV.length{kvs:List (κ×V)}{vs:List (κ×Value)}(r:KV kvs vs):kvs.length=vs.length:=u8 r
end
theorem qx0{P:Program}{w:World}{k:Key}(r:RelV (kV k) u):(K3 P w).is k u=true:=by
 cases k with
 | inl i=>obtain⟨t,e⟩:=(show ∃t,u=Value.int i t from r);subst e;exact j40 P w i t
 | inr x=>obtain⟨t,e⟩:=(show ∃t,u=Value.str x t from r);subst e;exact j10 P w x t
theorem ng0{P:Program}{w:World}:∀{ks:List Key} {us:List Value},Vals (ks.map kV) us->ItemsAre (K3 P w) ks us
 | [],_,r=>by rw[List.map_nil] at r;cases r;exact .nil
 | k::ks,_,r=>by
  rw[List.map_cons] at r;cases r with
  | cons h t=>exact .cons (qx0 h) (ng0 t)
abbrev KT(H:Hp):List (List Key×V)->List (List Key×Addr×Value)->Prop:=Paired λp q=>p.1=q.1/\H q.2.1=some (.tup (p.1.map kV))/\RelV p.2 q.2.2
theorem KT.val{xs:List (List Key×Addr×Value)}(r:KT H kvs xs)(k:List Key):RelO (xo0 kvs k) ((atKey xs k).map (·.2)):=by
 induction r with
 | nil=>exact True.intro
 | @cons p q ps qs h t ih =>
  obtain⟨h1,_,h2⟩:=h
  by_cases e:p.1=k
  ·have e':q.1=k:=h1.symm.trans e
   have b:atKey (q::qs) k=some q.2:=by simp[atKey,List.find?_cons,e']
   rw[vl0 e,b];exact h2
  ·have e':¬q.1=k:=λz=>e (h1.trans z)
   have b:atKey (q::qs) k=atKey qs k:=by simp[atKey,List.find?_cons,e']
   rw[vt0 e,b];exact ih
theorem KT.repl{xs:List (List Key×Addr×Value)}(r:KT H kvs xs)(k:List Key){y:V}(ry:RelV y u) :
  KT H (kvs.map λkv=>if kv.1=k then (kv.1,y) else kv) (xs.map (putAt k u)):=by
 induction r with
 | nil=>exact .nil
 | @cons p q ps qs h t ih =>
  rw[List.map_cons,List.map_cons];refine .cons ?_ ih;obtain⟨h1,h2,h3⟩:=h;unfold putAt
  by_cases e:p.1=k
  ·rw[if_pos e,if_pos (h1.symm.trans e)];exact⟨h1,h2,ry⟩
  ·rw[if_neg e,if_neg (λz=>e (h1.trans z))];exact⟨h1,h2,h3⟩
theorem KT.put{xs:List (List Key×Addr×Value)}(r:KT H kvs xs)(k:List Key){b:Addr}{y:V}(hb:H b=some (.tup (k.map kV)))(ry:RelV y u) :
  KT H (putK kvs k y) (storedH xs k b u):=by
 have e:(kvs.any λkv=>decide (kv.1=k))=(atKey xs k).isSome:=by
  rw[lt0,(r.val k).isSome_eq,Option.isSome_map]
 unfold putK storedH;rw[e]
 by_cases q:(atKey xs k).isSome=true
 ·rw[if_pos q,if_pos q];exact r.repl k ry
 ·rw[if_neg q,if_neg q];exact Paired.snoc r ⟨rfl,hb,ry⟩
theorem KT.keeps{xs:List (List Key×Addr×Value)}(r:KT H kvs xs)(ht:∀b ys,H b=some (.tup ys)->H' b=some (.tup ys)):KT H' kvs xs :=
 Paired.mapP r λ_ _ z=>⟨z.1,ht _ _ z.2.1,z.2.2⟩
section
variable{P:Program}{w:World}{h:Heap}
theorem bo0{u:HO}(ok:HOk P w H h)(e:Rd H a u):ObjOk P w H h a u:=e.ok ok
theorem m30{kvs:List (Key×V)}(ok:HOk P w H h)(e:Rd H a (.dK kvs)):kvs.length<=sizeLine/\(a==sysModules)=false/\∃vs,KV kvs vs/\h.DictOf (K3 P w) a vs :=
 show ObjOk P w H h a (.dK kvs) from bo0 ok e
theorem iw0{kvs:List (Key×V)}(ok:HOk P w H h)(e:H a=some (.dK kvs)):kvs.length<=sizeLine/\(a==sysModules)=false/\∃vs,KV kvs vs/\h.DictOf (K3 P w) a vs:=m30 ok (.inl e)
theorem sd0{ks:List Key}(ok:HOk P w H h)(e:H a=some (.tup (ks.map kV))):(tupleKind (K3 P w)).is h ks a:=by
 obtain⟨_,its,r,o,h1,h2,n,h3,_⟩:=(show ObjOk P w H h a (.tup (ks.map kV)) from ok a _ e);exact⟨o,its.toArray,n,h1,h2,h3,by simpa using ng0 r⟩
theorem ma0(ok:HOk P w H h)(e:Rd H a (.dT kvs)):kvs.length<=sizeLine/\(a==sysModules)=false /\
  ∃xs,KT H kvs xs/\h.DictOfH (tupleKind (K3 P w)) a xs:=by
 obtain⟨z,y,xs,r,o,es,ep,h1,h2,h3,h4,h5⟩:=(show ObjOk P w H h a (.dT kvs) from bo0 ok e);refine⟨z,y,xs,r,o,es,ep,h1,h2,h3,h4,λx hx=>?_,h5⟩;have all:∀{l:List (List Key×V)} {m:List (List Key×Addr×Value)},KT H l m->∀x∈m,(tupleKind (K3 P w)).is h x.1 x.2.1:=by
  intro l m q
  induction q with
  | nil=>intro x hx;exact nomatch hx
  | @cons p q ps qs hq t ih =>
   intro x hx;rcases A9.mp hx with e|hx
   ·subst e
    exact sd0 ok (by rw[← hq.1];exact hq.2.1)
   ·exact ih x hx
 exact all r x hx
theorem bp0(ok:HOk P w H h)(e:H a=some (.dT kvs)):kvs.length<=sizeLine/\(a==sysModules)=false /\
  ∃xs,KT H kvs xs/\h.DictOfH (tupleKind (K3 P w)) a xs:=ma0 ok (.inl e)
end
def DGet(H:Hp)(a:Addr)(y:V)(r:Option V):Prop :=
 (∃kvs k,Rd H a (.dK kvs)/\y=kV k/\r=xo0 kvs k)∨∃kvs k b,Rd H a (.dT kvs)/\y=.ref b/\H b=some (.tup (k.map kV))/\r=xo0 kvs k
def DPut(H:Hp)(a:Addr)(y v:V)(H':Hp):Prop :=
 (∃kvs k,H a=some (.dK kvs)/\y=kV k/\kvs.length<sizeLine/\H'=upd H a (.dK (putK kvs k v))) ∨
 ∃kvs k b,H a=some (.dT kvs)/\y=.ref b/\H b=some (.tup (k.map kV))/\kvs.length<sizeLine/\H'=upd H a (.dT (putK kvs k v))
theorem DGet.k{kvs:List (Key×V)}{k:Key}(e:H a=some (.dK kvs)):DGet H a (kV k) (xo0 kvs k):=.inl ⟨kvs,k,.inl e,rfl,rfl⟩
theorem DGet.t{b:Addr}{k:List Key}(e:H a=some (.dT kvs))(eb:H b=some (.tup (k.map kV))):DGet H a (.ref b) (xo0 kvs k):=.inr ⟨kvs,k,b,.inl e,rfl,eb,rfl⟩
theorem DPut.k{kvs:List (Key×V)}{k:Key}{v:V}(e:H a=some (.dK kvs))(hl:kvs.length<sizeLine):DPut H a (kV k) v (upd H a (.dK (putK kvs k v))):=.inl ⟨kvs,k,e,rfl,hl,rfl⟩
section
variable{X:Cx}{σ:St}{s:Shared}{y v:V}{r:Value}{o:Option V}
theorem Inv.big(I:Inv X pins σ H s):sysModules<s.heap.objs.size:=by
 have h:mainGlobals<s.heap.objs.size:=(I.mod.glob.keeps I.bk).lt;exact E6 (by decide) h
theorem db0(hu:A.units+1<cLine)(I:Inv X pins σ H s)(g:DGet H a y (some v))(ry:RelV y u)(h:∀w' s',Inv X pins σ H s'->RelV v w'->Q w' s') :
  wpAny (model X.prog X.w) A (getItem (.ref a) u) Q E s:=by
 rcases g with⟨kvs,k,e,ey,l⟩|⟨kvs,k,b,e,ey,eb,l⟩
 ·subst ey
  obtain⟨z,hd,vs,rel,dd⟩:=m30 I.hok e;obtain⟨w',hw,rw'⟩:=RelO.some_of (v:=v) (o:=valueAt vs k) (by rw[l];exact rel.val k);exact wpAny_getItem_of (qx0 ry) dd.mapOf hw (h w' _ (I.tok _) rw')
 ·subst ey
  cases (show u=Value.ref b from ry);obtain⟨z,hd,xs,rel,dd⟩:=ma0 I.hok e;obtain⟨w',hw,rw'⟩:=RelO.some_of (v:=v) (o:=(atKey xs k).map (·.2)) (by rw[l];exact rel.val k);obtain⟨p,hp,hp2⟩:=P5.mp hw;refine wpAny_getItem_heap (k3 hu) (sd0 I.hok eb) dd hp ?_;rw[hp2];exact h w' _ (I.tok _) rw'
theorem aw0(hu:A.units+1<cLine)(I:Inv X pins σ H s)(g:DGet H a y o)(ry:RelV y u)(h:∀s',Inv X pins σ H s'->Q (.bool (!o.isSome)) s') :
  wpAny (model X.prog X.w) A (compareOp .NotIn u (.ref a)) Q E s:=by
 rcases g with⟨kvs,k,e,ey,l⟩|⟨kvs,k,b,e,ey,eb,l⟩
 ·subst ey
  obtain⟨z,hd,vs,rel,dd⟩:=m30 I.hok e;refine wpAny_notIn_of (qx0 ry) hd dd.mapOf ?_;rw[← (rel.val k).isSome_eq,← l];exact h _ (I.tok _)
 ·subst ey
  cases (show u=Value.ref b from ry);obtain⟨z,hd,xs,rel,dd⟩:=ma0 I.hok e;refine wpAny_notIn_heap (k3 hu) (sd0 I.hok eb) hd dd ?_;have q:=(rel.val k).isSome_eq;rw[Option.isSome_map] at q;rw[← q,← l];exact h _ (I.tok _)
theorem rb0{t':Nat}{ob:HO}(I:Inv X pins σ H s)(mu:Mut (H a))(hs:Heap.SameBut a s.heap h')(he:∃q,h'.get? a=some q)(new:ObjOk X.prog X.w (upd H a ob) h' a ob) :
  Inv X pins σ (upd H a ob) { s with heap:=h',toks:=t' } :=
 I.write (x:=a) (e:=a) mu (.inl rfl) (λb q hb z=>(hs.2 b hb).trans z) he new
theorem et0{P:Program}{w:World}{H':Hp}{kvs:List (Key×V)}{vs:List (Key×Value)}(z:kvs.length<=sizeLine)(hd:(a==sysModules)=false)(rel:KV kvs vs)(dd:h'.DictOf (K3 P w) a vs) :
  ObjOk P w H' h' a (.dK kvs):=⟨z,hd,vs,rel,dd⟩
theorem f90{Q:Unit->Shared->Prop}(hu:A.units+1<cLine)(I:Inv X pins σ H s)(g:DPut H a y v H')(ry:RelV y u)(rv:RelV v r)(h:∀s',Inv X pins σ H' s'->Q () s') :
  wpAny (model X.prog X.w) A (setItem (.ref a) u r) Q E s:=by
 rcases g with⟨kvs,k,e,ey,l,eH⟩|⟨kvs,k,b,e,ey,eb,l,eH⟩
 ·subst ey eH
  obtain⟨z,hd,vs,rel,dd⟩:=iw0 I.hok e;have hz:vs.length<=sizeLine:=by rw[← rel.length];exact z
  have hl:(putK kvs k v).length<=sizeLine:=by have:=yu0 kvs k v;omega
  refine wpAny_setItem_pairs (hsz:=hz) (qx0 ry) dd λh' dd' hs=>h _ ?_
  have he:∃q,h'.get? a=some q:=let ⟨q,_,_,hq,_⟩:=dd';⟨q,hq⟩
  exact rb0 I (by rw[e];exact True.intro) hs he (et0 hl hd (rel.put k rv) dd')
 ·subst ey eH
  cases (show u=Value.ref b from ry);obtain⟨z,hd,xs,rel,dd⟩:=bp0 I.hok e;have hz:xs.length<=sizeLine:=by rw[← Paired.length rel];exact z
  have hl:(putK kvs k v).length<=sizeLine:=by have:=yu0 kvs k v;omega
  refine wpAny_setItem_heap (hsz:=hz) (k3 hu) (sd0 I.hok eb) dd λh' dd' hs=>h _ ?_
  obtain⟨q,es,ep,hq,h2,h3,h4,_,h5⟩:=dd';refine rb0 I (by rw[e];exact True.intro) hs ⟨q,hq⟩ ⟨hl,hd,_,(rel.put k eb rv).keeps λc ys ec=>?_,q,es,ep,hq,h2,h3,h4,h5⟩;rw[Z6 (p70 ec e (λz=>nomatch z))];exact ec
end
def dn0(i:Expr):Prop:=∀ov iv,subscripted i false ov iv=operate [ov,iv] (getItem ov iv)
theorem Z90{prog:Program}{w:World}{A:Around}{E:Value->Shared->Prop}{s:Shared}{env:Env}{value slice:Expr}{pos:Pos}{T id:String}{Q:Value->Shared->Prop}
  (hl:typeLookup (.type T) "__getitem__"=pure (some (.builtin id))) (hs:dn0 slice)
  (h:wpAny (model prog w) A (eval value env) (λo s₁=>wpAny (model prog w) A (eval slice env) (λi s₂=>s₂.TypeIs o T/\wpAny (model prog w) A (getItem o i) Q E s₂) E s₁) E s) :
  wpAny (model prog w) A (eval (.Subscript value slice pos) env) Q E s:=by
 refine Subscript_ (D1 h (λo s₁ h₁=>D1 h₁ (λi s₂ h₂=>?_) λ_ _ x=>x) λ_ _ x=>x);obtain⟨hT,h₂⟩:=h₂;unfold subscriptTail;refine A0 ?_;rw[getitemInPython_of_ne hT.not_modules];refine A0 (W1 hT hl ?_);have fin:wpAny (model prog w) A (subscripted slice false o i) (λr s₃=>wpAny (model prog w) A (letTemporaryGo value o r>>=λ_=>pure r) Q E s₃) E s₂:=by
  rw[hs o i];exact wpAny_operating (D1 h₂ (λr s₃ h₃=>A0 (wpAny_letTemporaryGo (A1 h₃))) λ_ _ x=>x)
 first
  | exact A1 (A0 fin)
  | exact A0 (A1 (A0 fin))
  | exact A0 fin
theorem j70{X:Cx}{σ:St}{s:Shared}{y:V}{o:Option V}(I:Inv X pins σ H s)(g:DGet H a y o):s.TypeIs (.ref a) "dict" := by
 rcases g with⟨kvs,k,e,_,_⟩|⟨kvs,k,b,e,_,_,_⟩
 ·obtain⟨_,_,vs,_,dd⟩:=m30 I.hok e
  exact dd.typeIs
 ·obtain⟨_,_,xs,_,dd⟩:=ma0 I.hok e
  exact dd.typeIs
def Vt0(td ty:TE):TE:=fun σ H Q=>td σ H λx H1=>ty σ H1 λy H2=>∃a v,x=.ref a/\DGet H2 a y (some v)/\Q v H2
def Y50(ty td:TE):TE:=fun σ H Q=>ty σ H λy H1=>td σ H1 λx H2=>∃a o,x=.ref a/\DGet H2 a y o/\Q (.bl (!o.isSome)) H2
section
variable{X:Cx}{i:Expr}{td:TE}
theorem Z20(hu:X.A.units+1<cLine)(ho:PE X o td)(hi:PE X i ty)(hs:dn0 i):PE X (.Subscript o i pos) (Vt0 td ty):=by
 intro pins s σ H Q I h;refine Z90 PySem.F.slot_dict_getitem.lookup hs (thn (ho pins s σ H _ I h) λu s1 ⟨x,H1,I1,rx,q1⟩=>thn (hi pins s1 σ H1 _ I1 q1) λiv s2 ⟨y,H2,I2,ry,a,v,ex,g,q2⟩=>?_);subst ex;obtain rfl:u=Value.ref a:=rx;exact⟨j70 I2 g,db0 hu I2 g ry λw' s3 I3 rw'=>⟨v,H2,I3,rw',q2⟩⟩
theorem e90(hu:X.A.units+1<cLine)(hi:PE X i ty)(ho:PE X o td):PC X .NotIn i o (Y50 ty td):=by
 intro pins s σ H Q I h;refine thn (hi pins s σ H _ I h) λiv s1 ⟨y,H1,I1,ry,q1⟩=>thn (ho pins s1 σ H1 _ I1 q1) λu s2 ⟨x,H2,I2,rx,a,ov,ex,g,q2⟩=>?_
 subst ex;obtain rfl:u=Value.ref a:=rx;exact aw0 hu I2 g ry λs3 I3=>⟨.bl (!ov.isSome),H2,I3,rfl,q2⟩
end
theorem lj0{P:Program}{w:World}(h:Heap)(hb:sysModules<h.objs.size):ObjOk P w H (h.push { cls:=.type "dict",data:=.dict #[] }) h.objs.size (.dK []) :=
 ⟨C5 _,T0.mpr (C0 (A8 hb)),[],.nil,Heap.DictOf.new h⟩
theorem cm0{P:Program}{w:World}(h:Heap)(hb:sysModules<h.objs.size):ObjOk P w H (h.push { cls:=.type "dict",data:=.dict #[] }) h.objs.size (.dT []) :=
 ⟨C5 _,T0.mpr (C0 (A8 hb)),[],.nil,_,#[],0,B3 _ rfl,⟨rfl,rfl,rfl⟩,rfl,rfl,P6⟩
def X40:TE:=λ_ H Q=>∀p,H p=none->Q (.ref p) (upd H p (.dK []))
section
variable{X:Cx}
theorem c10:PE X (.Dict [] [] pos) X40:=λpins s σ H Q I h =>
 wpAny_Dict_empty ⟨.ref s.heap.objs.size,_,I.laid (a:=s.heap.objs.size) (o:=.dK []) (t':=s.toks) (λ_ _ q=>A7 _ q) (A2 _) (lj0 s.heap I.big),rfl,h _ (I.hok.fresh (A2 _))⟩
end
def fw0:List (TE×TE)->St->Hp->(List (V×V)->Hp->Prop)->Prop
 | [],_,H,Q=>Q [] H
 | (tk,tv)::r,σ,H,Q=>tk σ H λx H1=>tv σ H1 λy H2=>fw0 r σ H2 λps H3=>Q ((x,y)::ps) H3
abbrev VV:List (V×V)->List (Value×Value)->Prop:=Paired λp q=>RelV p.1 q.1/\RelV p.2 q.2
def PPs(X:Cx)(pos:Pos)(keys:List (Option Expr))(values:List Expr)(trs:List (TE×TE)):Prop :=
 ∀(pins:List (Addr×Obj)) (s:Shared) (σ:St) (H:Hp) (Q:List (V×V)->Hp->Prop),Inv X pins σ H s->fw0 trs σ H Q ->
  wpAny (model X.prog X.w) X.A (evalPairs (pairTrees keys values X.env pos)) (λvs s'=>∃ps H',Inv X pins σ H' s'/\VV ps vs/\Q ps H') X.xe s
theorem a90{X:Cx}:PPs X pos [] [] []:=λpins s σ H Q I h=>pairTrees_nil_walk ⟨[],H,I,.nil,h⟩
theorem cl0{X:Cx}{k v:Expr}{ks:List (Option Expr)}{vs:List Expr}{tk:TE}{trs:List (TE×TE)}(hk:PE X k tk)(hv:PE X v tv)(hr:PPs X pos ks vs trs) :
  PPs X pos (some k::ks) (v::vs) ((tk,tv)::trs):=λpins s σ H Q I h =>
 pairTrees_cons_walk (thn (hk pins s σ H _ I h) λu s1 ⟨x,H1,I1,rx,q1⟩=>thn (hv pins s1 σ H1 _ I1 q1) λw2 s2 ⟨y,H2,I2,ry,q2⟩ =>
  thn (hr pins s2 σ H2 _ I2 q2) λws s3 ⟨ps,H3,I3,rel,q3⟩=>⟨(x,y)::ps,H3,I3,.cons ⟨rx,ry⟩ rel,q3⟩)
end L2
namespace DL
open Spec PyProof.Rows L2
section
variable{σ σ':St}
theorem Gr.fresh{p:Addr}{o:HO}(h:H p=none):Gr H (upd H p o) B (λa=>B a∨a=p):=λb u n e=>by
 have hb:b≠p:=O8 e h;exact⟨λz=>z.elim n hb,by rw[Z6 hb];exact e⟩
theorem Gr.own{o:HO}(h:B a):Gr H (upd H a o) B B:=λb u n e=>⟨n,by rw[Z6 (λz=>n (by rw[z];exact h))];exact e⟩
theorem RpO.mono{d:D}(s:∀o,H a=some o->H' a=some o)(g:Gr H H' B B')(h:RpO K H B d a):RpO K H' B' d a:=by
 cases d<;>try exact h.elim
 ·obtain⟨xs,e,r⟩:=h;exact⟨xs,s _ e,r.mono g⟩
 ·obtain⟨xs,e,l,r⟩:=h;exact⟨xs,s _ e,l,r.mono g⟩
theorem RpL.mono{d:D}(s:∀o,H a=some o->H' a=some o)(g:Gr H H' B B')(h:RpL K H B d a):RpL K H' B' d a:=by
 cases d with
 | tup es=>obtain⟨ds,q,xs,e,r⟩:=h;exact⟨ds,q,xs,s _ e,r.mono g⟩
 | _=>exact(RpO.mono s g (RpL.toO rfl h)).toL
theorem Pd.impI{F G:α->β->Prop}:∀{l:List α} {m:List β},(∀(i:Nat) a b,l[i]?=some a->m[i]?=some b->F a b->G a b)->Paired F l m->Paired G l m
 | _,_,_,.nil=>.nil
 | _,_,h,.cons r t=>.cons (h 0 _ _ rfl rfl r) (Pd.impI (λi a b e1 e2=>h (i+1) a b (by simpa using e1) (by simpa using e2)) t)
theorem vx0:∀{l:List α} {i:Nat} {a:α},l[i]?=some a->l.set i a=l
 | [],_,_,h=>by simp at h
 | x::l,0,a,h=>by simp at h;subst h;rfl
 | x::l,i+1,a,h=>by rw[List.set_cons_succ,vx0 (by simpa using h)]
theorem Pd.setR{F:α->β->Prop}{a:α}{b:β}(r:F a b){l:List α}{m:List β}(e:l[i]?=some a)(h:Paired F l m):Paired F l (m.set i b):=by
 have:=Pd.set r i h
 rwa [vx0 e] at this
theorem get_set{l:List α}{a b:α}(h:(l.set i a)[j]?=some b):(i=j/\a=b/\j<l.length)∨(i≠j/\l[j]?=some b):=by
 by_cases e:i=j
 ·subst e
  by_cases hl:i<l.length
  ·rw[List.getElem?_set_self hl] at h
   exact .inl ⟨rfl,B6 h,hl⟩
  ·rw[List.getElem?_eq_none (by simpa using hl)] at h;cases h
 ·rw[List.getElem?_set_ne e] at h
  exact .inr ⟨e,h⟩
theorem Env.at(e:Env K H B σ δ){d:D}(h:δ[i]?=some (.ow d)):∃a,σ[i]?=some (some (.ref a))/\B a/\RpL K H B d a:=by
 obtain⟨o,h1,a,rfl,hb,r⟩:=Pd.get e.all h;exact⟨a,h1,hb,r⟩
theorem Env.mut(e:Env K H B σ δ){d:D}{o:HO}(hi:δ[i]?=some (.ow d0))(hs:σ[i]?=some (some (.ref a)))(r:RpL K (upd H a o) B d a):Env K (upd H a o) B σ (δ.set i (.ow d)):=by
 obtain⟨a',h1,hb,_⟩:=e.at hi;rw[hs] at h1;cases h1;refine⟨?_,λb z=>?_,λj k b ds es h1 h2 h3 h4=>?_⟩
 ·
  have h0:Paired (λ(o':Option V) (s:Sl)=>SlR K (upd H a o) B o' s∨(∃d,s=.ow d/\o'=some (.ref a))) σ δ:=Pd.imp (λo' s h=>by
   cases s with
   | un=>exact .inl trivial
   | ex c n=>obtain⟨v,e,r⟩:=h;exact .inl ⟨v,e,r.mono (Gr.own hb)⟩
   | sh d=>obtain⟨v,e,r⟩:=h;exact .inl ⟨v,e,r.mono (Gr.own hb)⟩
   | ow d =>
    obtain⟨b,e,hb',r⟩:=h
    by_cases z:b=a
    ·subst z;exact .inr ⟨d,rfl,e⟩
    ·exact .inl ⟨b,e,hb',r.mono (λo h=>by rw[Z6 z];exact h) (Gr.own hb)⟩) e.all
  have h1:=Pd.setR (i:=i) (b:=Sl.ow d) (.inl ⟨a,rfl,hb,r⟩) hs h0;refine Pd.impI (λj o' s e1 e2 h=>?_) h1;rcases h with h|⟨d',rfl,rfl⟩
  ·exact h
  ·rcases get_set e2 with⟨rfl,e3,_⟩|⟨hne,e3⟩
   ·cases e3;exact⟨a,rfl,hb,r⟩
   ·exact absurd (e.own i j a d0 d' hi e3 hs e1) hne
 ·by_cases z':b=a
  ·subst z';rw[b8];exact λz=>nomatch z
  ·rw[Z6 z'];exact e.bad b z
 ·have q1:∃d,δ[j]?=some (.ow d):=by
   rcases get_set h1 with⟨rfl,_,_⟩|⟨_,h⟩
   ·exact⟨_,hi⟩
   ·exact⟨_,h⟩
  have q2:∃d,δ[k]?=some (.ow d):=by
   rcases get_set h2 with⟨rfl,_,_⟩|⟨_,h⟩
   ·exact⟨_,hi⟩
   ·exact⟨_,h⟩
  obtain⟨d1,q1⟩:=q1;obtain⟨d2,q2⟩:=q2;exact e.own j k b d1 d2 q1 q2 h3 h4
theorem EnvS.mut(en:EnvS K H₀ B₀ H σ δ)(s:Same H H')(b1:∀a,B₀ a->B a)(b2:∀a,B a->B₀ a∨H₀ a=none){d:D}{o:HO}(hi:δ[i]?=some (.ow d0))(hs:σ[i]?=some (some (.ref a)))
  (env:Env K (upd H' a o) B σ (δ.set i (.ow d))):EnvS K H₀ B₀ (upd H' a o) σ (δ.set i (.ow d)):=by
 have h0:=en.fr i d0 a hi hs;refine⟨λb u h=>?_,⟨B,b1,b2,env⟩,λj ds b h1 h2=>?_,en.b0⟩
 ·have:b≠a:=λz=>by rw[z,h0] at h;cases h
  rw[Z6 this];exact s _ _ (en.same b u h)
 ·rcases get_set h1 with⟨rfl,_,_⟩|⟨_,h⟩
  ·rw[hs] at h2;cases h2;exact h0
  ·exact en.fr j ds b h h2
theorem EnvS.take(en:EnvS K H₀ B₀ H σ δ)(b1:∀a,B₀ a->B a)(b2:∀a,B a->B₀ a∨H₀ a=none)(e:Env K H B σ δ)(i:Nat){d:D}{p:Addr}(hp:H p=none)(s:Same H H')
  (r:RpO K H' (λa=>B a∨a=p) d p):EnvS K H₀ B₀ H' (σ.set i (some (.ref p))) (δ.set i (.ow d)):=by
 have g:Gr H H' B (λa=>B a∨a=p):=λb u n h=>⟨λz=>z.elim n (O8 h hp),s _ _ h⟩
 have h0p:H₀ p=none:=en.same.free hp;have live:∀{j:Nat} {d':D} {b:Addr},δ[j]?=some (.ow d')->σ[j]?=some (some (.ref b))->b≠p:=λ{j d' b} h1 h2=>by
  obtain⟨a,q1,q2,q3⟩:=e.at h1;rw[h2] at q1;cases q1;exact λz=>e.bad _ q2 (by rw[z];exact hp)
 refine⟨en.same.trans s,⟨λa=>B a∨a=p,λa z=>.inl (b1 a z),λa z=>?_,?_,λa z=>?_,λj k a ds es h1 h2 h3 h4=>?_⟩,λj ds a h1 h2=>?_,en.b0⟩
 ·rcases z with z|rfl
  ·exact b2 a z
  ·exact .inr h0p
 ·refine Pd.set ⟨p,rfl,.inr rfl,r.toL⟩ i (Pd.imp (λo sl h=>?_) e.all)
  cases sl with
  | un=>trivial
  | ex c n=>obtain⟨v,e,r⟩:=h;exact⟨v,e,r.mono g⟩
  | sh d=>obtain⟨v,e,r⟩:=h;exact⟨v,e,r.mono g⟩
  | ow d=>obtain⟨b,e,hb',r⟩:=h;exact⟨b,e,.inl hb',r.mono (λo h=>s _ _ h) g⟩
 ·rcases z with z|rfl
  ·intro q
   cases h:H a with
   | none=>exact e.bad a z h
   | some u=>rw[s _ _ h] at q;cases q
  ·exact r.live
 ·rcases get_set h1 with⟨rfl,_,_⟩|⟨n1,h1⟩
  ·rcases get_set h2 with⟨rfl,_,_⟩|⟨n2,h2⟩
   ·rfl
   ·rcases get_set h3 with⟨_,e3,_⟩|⟨n3,_⟩
    ·cases e3
     rw[List.getElem?_set_ne n2] at h4;exact absurd rfl (live h2 h4)
    ·exact absurd rfl n3
  ·rcases get_set h2 with⟨rfl,_,_⟩|⟨n2,h2⟩
   ·rcases get_set h4 with⟨_,e4,_⟩|⟨n4,_⟩
    ·cases e4
     rw[List.getElem?_set_ne n1] at h3;exact absurd rfl (live h1 h3)
    ·exact absurd rfl n4
   ·rw[List.getElem?_set_ne n1] at h3
    rw[List.getElem?_set_ne n2] at h4;exact e.own j k a ds es h1 h2 h3 h4
 ·rcases get_set h1 with⟨rfl,_,_⟩|⟨n1,h1⟩
  ·rcases get_set h2 with⟨_,e3,_⟩|⟨n3,_⟩
   ·cases e3;exact h0p
   ·exact absurd rfl n3
  ·rw[List.getElem?_set_ne n1] at h2
   exact en.fr j ds a h1 h2
theorem Env.frz(e:Env K H B σ δ):∃B':BS,(∀a,B' a->B a)/\(∀a,B a->B' a∨∃(i:Nat) (d:D),δ[i]?=some (.ow d)/\σ[i]?=some (some (.ref a)))/\Env K H B' σ (DL.frz δ):=by
 refine⟨λa=>B a/\¬∃(i:Nat) (d:D),δ[i]?=some (.ow d)/\σ[i]?=some (some (.ref a)),λa z=>z.1,λa z=>?_,?_,λa z=>e.bad a z.1,λi j a ds es h1 _ _ _=>?_⟩
 ·by_cases q:∃(i:Nat) (d:D),δ[i]?=some (.ow d)/\σ[i]?=some (some (.ref a))
  ·exact .inr q
  ·exact .inl ⟨z,q⟩
 ·have:Paired (λo s=>SlR K H (λa=>B a/\¬∃(i:Nat) (d:D),δ[i]?=some (.ow d)/\σ[i]?=some (some (.ref a))) o (Q9 s)) σ δ:=Pd.impI (λi o s e1 e2 h=>by
   cases s with
   | un=>trivial
   | ex c n=>obtain⟨v,e,r⟩:=h;exact⟨v,e,r.mono (Gr.less λa z=>z.1)⟩
   | sh d=>obtain⟨v,e,r⟩:=h;exact⟨v,e,r.mono (Gr.less λa z=>z.1)⟩
   | ow d =>
    obtain⟨a,rfl,hb,r⟩:=h;exact⟨_,rfl,r.rp (λa z=>z.1) λz=>z.2 ⟨i,d,e2,e1⟩⟩) e.all
  have mp:∀{l:St} {m:Ds} {F:Option V->Sl->Prop},Paired (λo s=>F o (Q9 s)) l m->Paired F l (m.map Q9):=by
   intro l m F h
   induction h with
   | nil=>exact .nil
   | cons r t ih=>exact .cons r ih
  exact mp this
 ·unfold DL.frz at h1
  rw[List.getElem?_map] at h1;cases q:δ[i]? with
  | none=>rw[q] at h1;cases h1
  | some s=>rw[q] at h1;cases s<;>cases h1
theorem EnvS.frz(en:EnvS K H₀ B₀ H σ δ):EnvS K H₀ B₀ H σ (DL.frz δ):=by
 obtain⟨B,b1,b2,env⟩:=en.ex;obtain⟨B',c1,c2,env'⟩:=env.frz;refine⟨en.same,⟨B',λa z=>?_,λa z=>b2 a (c1 a z),env'⟩,λi ds a h1 _=>?_,en.b0⟩
 ·rcases c2 a (b1 a z) with q|⟨i,d,q1,q2⟩
  ·exact q
  ·exact absurd (en.fr i d a q1 q2) (en.b0 a z)
 ·unfold DL.frz at h1
  rw[List.getElem?_map] at h1;cases q:δ[i]? with
  | none=>rw[q] at h1;cases h1
  | some s=>rw[q] at h1;cases s<;>cases h1
theorem Env.frzAt(e:Env K H B σ δ)(i:Nat):∃B':BS,(∀a,B' a->B a)/\(∀a,B a->B' a∨∃(d:D),δ[i]?=some (.ow d)/\σ[i]?=some (some (.ref a)))/\Env K H B' σ (DL.frzAt i δ):=by
 unfold DL.frzAt;cases h:δ[i]? with
 | none=>exact⟨B,λ_ z=>z,λ_ z=>.inl z,e⟩
 | some s =>
  cases s with
  | un=>dsimp only [Q9];rw[vx0 h];exact⟨B,λ_ z=>z,λ_ z=>.inl z,e⟩
  | ex c n=>dsimp only [Q9];rw[vx0 h];exact⟨B,λ_ z=>z,λ_ z=>.inl z,e⟩
  | sh d=>dsimp only [Q9];rw[vx0 h];exact⟨B,λ_ z=>z,λ_ z=>.inl z,e⟩
  | ow d =>
   obtain⟨a,h1,hb,r⟩:=e.at h;refine⟨λb=>B b/\b≠a,λb z=>z.1,λb z=>?_,?_,λb z=>e.bad b z.1,λj k b ds es h1' h2' h3 h4=>?_⟩
   ·by_cases q:b=a
    ·subst q;exact .inr ⟨d,rfl,h1⟩
    ·exact .inl ⟨z,q⟩
   ·have h0:Paired (λ(o':Option V) (s:Sl)=>SlR K H (λb=>B b/\b≠a) o' s∨(∃d,s=.ow d/\o'=some (.ref a))) σ δ:=Pd.imp (λo' s h=>by
     cases s with
     | un=>exact .inl trivial
     | ex c n=>obtain⟨v,e,r⟩:=h;exact .inl ⟨v,e,r.mono (Gr.less λa z=>z.1)⟩
     | sh d=>obtain⟨v,e,r⟩:=h;exact .inl ⟨v,e,r.mono (Gr.less λa z=>z.1)⟩
     | ow d =>
      obtain⟨b,e,hb',r⟩:=h
      by_cases z:b=a
      ·subst z;exact .inr ⟨d,rfl,e⟩
      ·exact .inl ⟨b,e,⟨hb',z⟩,r.mono (λo h=>h) (Gr.less λa z=>z.1)⟩) e.all
    have h2:=Pd.setR (i:=i) (b:=Sl.sh (unl d)) (.inl ⟨.ref a,rfl,r.rp (λb z=>z.1) λz=>z.2 rfl⟩) h1 h0;refine Pd.impI (λj o' s e1 e2 hh=>?_) h2;rcases hh with hh|⟨d',rfl,rfl⟩
    ·exact hh
    ·rcases get_set e2 with⟨rfl,e3,_⟩|⟨hne,e3⟩
     ·cases e3
     ·exact absurd (e.own i j a d d' h e3 h1 e1) hne
   ·rcases get_set h1' with⟨_,q,_⟩|⟨_,q1⟩
    ·cases q
    ·rcases get_set h2' with⟨_,q,_⟩|⟨_,q2⟩
     ·cases q
     ·exact e.own j k b ds es q1 q2 h3 h4
theorem EnvS.frzAt(en:EnvS K H₀ B₀ H σ δ)(i:Nat):EnvS K H₀ B₀ H σ (DL.frzAt i δ):=by
 obtain⟨B,b1,b2,env⟩:=en.ex;obtain⟨B',c1,c2,env'⟩:=env.frzAt i;refine⟨en.same,⟨B',λa z=>?_,λa z=>b2 a (c1 a z),env'⟩,λj ds a h1 h2=>?_,en.b0⟩
 ·rcases c2 a (b1 a z) with q|⟨d,q1,q2⟩
  ·exact q
  ·exact absurd (en.fr i d a q1 q2) (en.b0 a z)
 ·unfold DL.frzAt at h1
  cases q:δ[i]? with
  | none=>rw[q] at h1;exact en.fr j ds a h1 h2
  | some s =>
   rw[q] at h1;rcases get_set h1 with⟨rfl,q',_⟩|⟨_,q1⟩
   ·cases s<;>cases q'
   ·exact en.fr j ds a q1 h2
theorem i20{d:D}{v:V}(h:flat d=true)(r:Rp K H B d v):Rp K H' B' d v:=by
 cases d<;>simp[flat] at h
 ·rw[V6] at r ⊢;exact r
 ·rw[X5] at r ⊢;exact r
 ·rw[m9] at r ⊢;exact r
 ·rw[W0] at r ⊢;exact r
end
section
variable{X:Cx}{tg:Expr}{g:GE}{gt:GB}{G:GS}
theorem y30(h:PD X e g):PD X e (R0 g):=.mk λB δ pins s σ H Q I ⟨d,en,hq,k⟩=>by
 obtain⟨B',c1,c2,en'⟩:=en.frz;unfold R0 at hq;cases e1:g (frz δ) with
 | none=>rw[e1] at hq;cases hq
 | some x =>
  rw[e1] at hq
  by_cases hf:flat x=true
  ·simp only[Option.bind_some,if_pos hf] at hq
   cases hq;exact h B' (frz δ) pins s σ H Q I ⟨_,en',e1,λv H' s' r=>k v H' s' (i20 hf r)⟩
  ·simp only[Option.bind_some,if_neg hf] at hq
   cases hq
theorem w60(h:PTD X e gt):PTD X e (z50 gt):=.mk λB δ pins s σ H Q I ⟨d,en,hq,k⟩=>by
 obtain⟨B',c1,c2,en'⟩:=en.frz;exact h B' (frz δ) pins s σ H Q I ⟨d,en',hq,k⟩
theorem w40(i:Nat)(h:PSD X st G):PSD X st (wt0 i G):=.mk λH₀ B₀ δ pins s σ H D I ⟨r,en,hq,k⟩=>h H₀ B₀ _ pins s σ H D I ⟨r,en.frzAt i,hq,k⟩
theorem tc0(h:PD X e g):PSD X (.Return (some e) pos) (o7 (s00 g)):=.mk λH₀ B₀ δ pins s σ H D I ⟨r,en,hq,k⟩ =>
 m8 h H₀ B₀ (frz δ) pins s σ H D I ⟨r,en.frz,hq,k⟩
theorem zd0{gA:GA}(h:PDA X es gA):PDF X (.List es pos) (W7 gA) :=
 .mk λB δ=>(di0 (h B δ)).imp fun σ H Q ⟨d,en,h,k⟩=>by
  unfold W7 at h;cases e1:gA δ with
  | none=>rw[e1] at h;cases h
  | some ds =>
   rw[e1] at h
   by_cases hl:ds.length<=sizeLine
   ·simp only[Option.bind_some,if_pos hl] at h
    cases h;refine⟨ds,en,e1,λvs H1 s1 r1=>⟨by rw[r1.length];exact hl,λp hp=>k _ _ (s1.free hp) (s1.trans (Z9 hp)) ⟨vs,b8,r1.mono (Gr.fresh hp)⟩⟩⟩
   ·simp only[Option.bind_some,if_neg hl] at h
    cases h
theorem sg0:PDF X (.Dict [] [] pos) (gc (.dct (.inl []) [])):=.mk λB δ=>c10.imp fun σ H Q ⟨d,en,h,k⟩=>by
 cases h;exact λp hp=>k p _ hp (Z9 hp) ⟨[],b8,rfl,by rw[o8]⟩
theorem P0(i:Nat){px:Pos}(h:PDF X e g)(hN:X.N.Nodup)(hi:X.N[i]?=some x:=by rfl)(hx:Loc X.env.scope x:=by first|exact Or.inl rfl|exact Or.inr rfl)
  (hs:swapsWithSole [.Name x px] e pos.line X.env=pure false:=by rfl) (hw:swappedStores [.Name x px] e X.env=pure none:=by rfl)
  (h1:(assignEach [.Name x px] X.env).map (·.2)=[assign (.Name x px) X.env]:=by rfl)
  (hf:X.fn x=true∨X.env.scope.names.lookup x=some .local:=by first|exact .inl rfl|exact .inr rfl|assumption):PSD X (.Assign [.Name x px] e pos) (R5 i g):=.mk λH₀ B₀ δ pins s σ H D I ⟨r,en,e1,k⟩=>by
 unfold R5 at e1;obtain⟨B,b1,b2,env⟩:=en.ex;cases e2:g δ with
 | none=>rw[e2] at e1;cases e1
 | some d =>
  rw[e2] at e1;cases e1;exact k60 (h B δ) (rt0 (i:=i) hN hi hx hf) hs hw h1 pins s σ H D I ⟨d,env,e2,λp H' hp s' r=>k _ H' (en.take b1 b2 env i hp s' r)⟩
end
end DL
namespace L2
open Spec PyProof.Rows
open PySem.AutoSeq1 (wpAny_loadPart')
theorem gl0(p:Addr)(xs:Array Value)(k:Nat)(q:Addr)(ys:Array Value)(m:Nat)(dq:Option Addr)(sq:Array (Option Value))(h0:¬(!xs.isEmpty&&Builtin.List.listTooLong (xs.size+ys.size))=true)(h1:xs.size<=sizeLine)(h2:xs.size+ys.size<=sizeLine+1) :
  Meets (Builtin.«list.extend» ⟨[.ref p,.ref q],[]⟩) (λ_ R s=>s.heap.get? p=some { cls:=.type "list",dict:=none,data:=.seq xs k,slots:=#[] }/\s.heap.get? q=some { cls:=.type "list",dict:=dq,data:=.seq ys m,slots:=sq }/\R (.ok (.ret Value.none)) { s with heap:=s.heap.update p (Obj.mapSeq λz=>z++ys) }) :=
 .of_wp λprog w A R s h=>by
  obtain⟨hp,g,d,tk,os⟩:=s;obtain⟨hl,hb,h⟩:=h;have f1:=AutoSeq1.idx_int;have f2:=AutoSeq1.sub_tuple_tuple;have f3:=AutoSeq1.sub_list_list;have f4:=AutoSeq1.sub_tuple_list;have f5:=AutoSeq1.sub_list_tuple;have hz':(xs++ys).size<=sizeLine+1:=by rw[Array.size_append];exact h2
  wp_walk using (X0 hl rfl (hz:=h1) (_hz':=hz')),wpAny_loadPart' hl,wpAny_loadPart' hb
  exact⟨_,rfl,h⟩
section
variable{X:Cx}
def ci0(K:W.Frag):V->List V->Hp->VK->Prop:=λx vs H Q=>∃l b xs zs,x=.ref l/\vs=[.ref b]/\H l=some (.lst xs)/\SqL K H b zs/\xs.length+zs.length<=sizeLine/\Q .non (upd H l (.lst (xs++zs)))
theorem h80:MtM X "list.extend" (ci0 X.K):=by
 intro pins s σ H x vs v us Q I rx rv h;obtain⟨l,b,xs,zs,rfl,rfl,hH,hB,hz,q⟩:=h;cases rx;obtain⟨u,rfl,ru⟩:=rv.one;cases ru;obtain⟨z,its,n,r,hl,e⟩:=I.lstM hH;obtain⟨its2,r2,p2,z2⟩:=I.list hB;obtain⟨⟨cls2,dd2,data2,sl2⟩,ho2,hc2,n2,hd2⟩:=p2.isList;simp only at hc2 hd2;subst hc2 hd2;have hl2:=r2.length;have hsz:its.toArray.size+its2.toArray.size<=sizeLine:=by rw[List.size_toArray,List.size_toArray];omega
 have hlong:¬(!its.toArray.isEmpty&&Builtin.List.listTooLong (its.toArray.size+its2.toArray.size))=true:=by
  rw[c40 hsz,Bool.and_false];exact B0
 refine M2 F.slot_list_extend ⟨_,e,rfl⟩ F.entry_list_extend (F.args_list_extend_2 _ _)
  (gl0 l its.toArray n b its2.toArray n2 dd2 sl2 hlong (by rw[List.size_toArray];omega) (by omega)) ⟨e,ho2,?_⟩
 refine⟨.non,_,I.lset (its':=its++its2) hH e (by simp) (r.append r2) ?_,rfl,q⟩;rw[List.length_append];omega
def X90:V->V->V->Hp->(Hp->Prop)->Prop:=λo i v H Q=>∃a H',o=.ref a/\DPut H a i v H'/\Q H'
theorem set_dict(hu:X.A.units+1<cLine):cy0 X X90:=by
 intro pins s σ H o i v ov iv u Q I ro ri rv h;obtain⟨a,H',rfl,g,q⟩:=h;cases ro;exact f90 hu I g ri rv λs3 I3=>⟨H',I3,q⟩
end
end L2
namespace DL
open Spec PyProof.Rows L2
section
variable{σ σ':St}
theorem Rps.set:∀{ds:List D} {xs:List V} {d:D} {v:V} (j:Nat),Rps K H B ds xs->Rp K H B d v->Rps K H B (ds.set j d) (xs.set j v)
 | [],_,_,_,_,h,_=>by rw[o8] at h;subst h;simp[o8]
 | d::ds,_,_,_,0,h,r=>by
  rw[o6] at h;obtain⟨y,t,rfl,h1,h2⟩:=h;rw[List.set_cons_zero,List.set_cons_zero,o6];exact⟨_,_,rfl,r,h2⟩
 | d::ds,_,_,_,j+1,h,r=>by
  rw[o6] at h;obtain⟨y,t,rfl,h1,h2⟩:=h;rw[List.set_cons_succ,List.set_cons_succ,o6];exact⟨_,_,rfl,h1,Rps.set j h2 r⟩
theorem Rps.dropLast{xs:List V}(h:Rps K H B ds xs):Rps K H B ds.dropLast xs.dropLast:=by
 rw[List.dropLast_eq_take,List.dropLast_eq_take,h.length];exact h.take _
structure EnvV(K:W.Frag)(H₀:Hp)(B₀:BS)(H:Hp)(σ:St)(δ:Ds)(d:D)(v:V):Prop where
 same:Same H₀ H
 ex:∃B:BS,(∀a,B₀ a->B a)/\(∀a,B a->B₀ a∨H₀ a=none)/\Env K H B σ δ/\Rp K H B d v
 fr:∀(i:Nat) (ds:D) (a:Addr),δ[i]?=some (.ow ds)->σ[i]?=some (some (.ref a))->H₀ a=none
 b0:∀a,B₀ a->H₀ a≠none
theorem EnvV.s{d:D}{v:V}(h:EnvV K H₀ B₀ H σ δ d v):EnvS K H₀ B₀ H σ δ:=⟨h.same,let ⟨B,b1,b2,e,_⟩:=h.ex;⟨B,b1,b2,e⟩,h.fr,h.b0⟩
theorem EnvV.mk'{d:D}{v:V}(h:EnvS K H₀ B₀ H σ δ)(b1:∀a,B₀ a->B a)(b2:∀a,B a->B₀ a∨H₀ a=none)(e:Env K H B σ δ)(r:Rp K H B d v):EnvV K H₀ B₀ H σ δ d v:=⟨h.same,⟨B,b1,b2,e,r⟩,h.fr,h.b0⟩
end
def tX(K:W.Frag)(H₀:Hp)(B₀:BS)(δ:Ds)(gx:GX):TE:=fun σ H Q=>∃r,EnvS K H₀ B₀ H σ δ/\gx δ=some r/\∀v H',EnvV K H₀ B₀ H' σ r.2 r.1 v->Q v H'
structure PX(X:Cx)(e:Expr)(gx:GX):Prop where
 mk::go:∀H₀ B₀ δ,PE X e (tX X.K H₀ B₀ δ gx)
instance{X:Cx}{e:Expr}{gx:GX}:CoeFun (PX X e gx) (λ_=>∀H₀ B₀ δ,PE X e (tX X.K H₀ B₀ δ gx)):=⟨PX.go⟩
def tTG(K:W.Frag)(H₀:Hp)(B₀:BS)(ft:D->Ds->Option Ds)(d:D)(δ:Ds):TG:=λv σ H Q=>∃δ',EnvV K H₀ B₀ H σ δ d v/\ft d δ=some δ'/\∀σ' H',EnvS K H₀ B₀ H' σ' δ'->Q σ' H'
structure PTG(X:Cx)(tg:Expr)(ft:D->Ds->Option Ds):Prop where
 mk::go:∀H₀ B₀ d δ,PG X tg (tTG X.K H₀ B₀ ft d δ)
instance{X:Cx}{tg:Expr}{ft:D->Ds->Option Ds}:CoeFun (PTG X tg ft) (λ_=>∀H₀ B₀ d δ,PG X tg (tTG X.K H₀ B₀ ft d δ)):=⟨PTG.go⟩
section
variable{X:Cx}{tg:Expr}{g:GE}{gt:GB}{G:GS}
theorem zb0(h:PD X e g):PX X e (Y9 g):=.mk λH₀ B₀ δ pins s σ H Q I ⟨r,en,e1,k⟩=>by
 unfold Y9 at e1;obtain⟨B,b1,b2,env⟩:=en.ex;cases e2:g δ with
 | none=>rw[e2] at e1;cases e1
 | some d =>
  rw[e2] at e1;cases e1;exact h B δ pins s σ H Q I ⟨d,env,e2,λv H' s' r=>k v H' (EnvV.mk' (en.grow s') b1 b2 (env.same s') r)⟩
theorem s80(h:owL i δ=some ds):δ[i]?=some (.ow (.lst ds)):=by
 unfold owL at h;split at h
 ·cases h;assumption
 ·cases h
theorem Zl0{r:List V8×List D}(h:py0 i δ=some r):δ[i]?=some (.ow (.dct (.inl r.1) r.2)):=by
 unfold py0 at h;split at h
 ·cases h;assumption
 ·cases h
theorem vs0(i:Nat)(h:PD X e g)(hN:X.N[i]?=some x:=by rfl)(hv:Vis X.env.scope x:=by first|exact Or.inl rfl|exact Or.inr (Or.inl rfl)|exact Or.inr (Or.inr rfl))(hd:(x==("__debug__" : Str))=false:=by decide)(hcd:(x==("__classdict__" : Str))=false:=by decide)
  (hbase:attributeBase (.Name x px) "append" X.env (eval (.Name x px) X.env)=eval (.Name x px) X.env:=by rfl)
  (hfew:((backTo cpos (starEach [e] X.env)).all (λx=>!x.1)&&(backToKw cpos (keywordEach [] X.env)).all (λx=>x.1.isSome)
  &&decide (([e]:List Expr).length+([]:List Keyword).length+(if ([]:List Keyword).isEmpty then 0 else 1)<30))=true:=by rfl)
  (hline:(apos.endLine==cpos.line)=true:=by rfl) (hs:starEach [e] X.env=(false,eval e X.env)::starEach [] X.env:=by rfl) (hplain:(backTo cpos (starEach [] X.env)).any (·.1)=false:=by rfl) :
  PX X (.Call (.Attribute (.Name x px) "append" apos) [e] [] cpos) (zm0 i g):=.mk λH₀ B₀ δ pins s σ H Q I ⟨r,en,e1,k⟩=>by
 unfold zm0 at e1;obtain⟨B,b1,b2,env⟩:=en.ex;cases e2:owL i δ with
 | none=>rw[e2] at e1;cases e1
 | some ds =>
  cases e3:g δ with
  | none=>rw[e2,e3] at e1;cases e1
  | some d =>
   rw[e2,e3] at e1;simp only[Option.bind_some] at e1;split at e1
   ·rename_i hz
    cases e1;have hi:=s80 e2;obtain⟨a,hs',hb,xs,hx,rx⟩:=env.at hi;refine pm0 X1 Bu0 Bv0 sa0 (yv0 (i:=i) hN hv hd hcd) (J4 (h B δ) y70 hs) hbase hfew hline hs hplain pins s σ H Q I
     ⟨_,hs',.inl ⟨rfl,xs,.inl (.inl hx)⟩,d,env,e3,λv H1 s1 r1=>⟨a,xs,v,rfl,rfl,s1 _ _ hx,by rw[rx.length];exact hz,?_⟩⟩
    have env2:Env X.K (upd H1 a (.lst (xs++[v]))) B σ (δ.set i (.ow (.lst (ds++[d])))):=(env.same s1).mut hi hs' ⟨_,b8,(Rps.snoc (rx.same s1) r1).mono (Gr.own hb)⟩;exact k _ _ (EnvV.mk' (en.mut s1 b1 b2 hi hs' env2) b1 b2 env2 (by rw[V6]))
   ·cases e1
theorem Yp0(i:Nat)(h:PD X e g)(hN:X.N[i]?=some x:=by rfl)(hv:Vis X.env.scope x:=by first|exact Or.inl rfl|exact Or.inr (Or.inl rfl)|exact Or.inr (Or.inr rfl))(hd:(x==("__debug__" : Str))=false:=by decide)(hcd:(x==("__classdict__" : Str))=false:=by decide)
  (hbase:attributeBase (.Name x px) "extend" X.env (eval (.Name x px) X.env)=eval (.Name x px) X.env:=by rfl)
  (hfew:((backTo cpos (starEach [e] X.env)).all (λx=>!x.1)&&(backToKw cpos (keywordEach [] X.env)).all (λx=>x.1.isSome)
  &&decide (([e]:List Expr).length+([]:List Keyword).length+(if ([]:List Keyword).isEmpty then 0 else 1)<30))=true:=by rfl)
  (hline:(apos.endLine==cpos.line)=true:=by rfl) (hs:starEach [e] X.env=(false,eval e X.env)::starEach [] X.env:=by rfl) (hplain:(backTo cpos (starEach [] X.env)).any (·.1)=false:=by rfl) :
  PX X (.Call (.Attribute (.Name x px) "extend" apos) [e] [] cpos) (ql0 i g):=.mk λH₀ B₀ δ pins s σ H Q I ⟨r,en,e1,k⟩=>by
 unfold ql0 at e1;obtain⟨B,b1,b2,env⟩:=en.ex;cases e2:owL i δ with
 | none=>rw[e2] at e1;cases e1
 | some ds =>
  cases e3:g δ with
  | none=>rw[e2,e3] at e1;cases e1
  | some d =>
   rw[e2,e3] at e1;simp only[Option.bind_some] at e1;cases d<;>try cases e1
   rename_i es;dsimp only at e1;split at e1
   ·rename_i hz
    cases e1;have hi:=s80 e2;obtain⟨a,hs',hb,xs,hx,rx⟩:=env.at hi;refine pm0 X1 PySem.F.slot_list_extend PySem.F.type_list_extend h80 (yv0 (i:=i) hN hv hd hcd) (J4 (h B δ) y70 hs) hbase hfew hline hs hplain pins s σ H Q I
     ⟨_,hs',.inl ⟨rfl,xs,.inl (.inl hx)⟩,_,env,e3,λv H1 s1 r1=>?_⟩
    rw[Y6] at r1;obtain⟨b,zs,rfl,hq,rz⟩:=r1;refine⟨a,b,xs,zs,rfl,rfl,s1 _ _ hx,hq.to,by rw[rx.length,rz.length];exact hz,?_⟩;have env2:Env X.K (upd H1 a (.lst (xs++zs))) B σ (δ.set i (.ow (.lst (ds++es)))):=(env.same s1).mut hi hs' ⟨_,b8,(Rps.append (rx.same s1) rz).mono (Gr.own hb)⟩;exact k _ _ (EnvV.mk' (en.mut s1 b1 b2 hi hs' env2) b1 b2 env2 (by rw[V6]))
   ·cases e1
theorem X10(i:Nat)(hN:X.N[i]?=some x:=by rfl)(hv:Vis X.env.scope x:=by first|exact Or.inl rfl|exact Or.inr (Or.inl rfl)|exact Or.inr (Or.inr rfl))(hd:(x==("__debug__" : Str))=false:=by decide)(hcd:(x==("__classdict__" : Str))=false:=by decide)
  (hbase:attributeBase (.Name x px) "pop" X.env (eval (.Name x px) X.env)=eval (.Name x px) X.env:=by rfl) (hline:(apos.endLine==cpos.line)=true:=by rfl) :
  PX X (.Call (.Attribute (.Name x px) "pop" apos) [] [] cpos) (q90 i):=.mk λH₀ B₀ δ pins s σ H Q I ⟨r,en,e1,k⟩=>by
 unfold q90 at e1;obtain⟨B,b1,b2,env⟩:=en.ex;cases e2:owL i δ with
 | none=>rw[e2] at e1;cases e1
 | some ds =>
  rw[e2] at e1;simp only[Option.bind_some] at e1;cases e3:ds.getLast? with
  | none=>rw[e3] at e1;cases e1
  | some d =>
   rw[e3] at e1;cases e1;have hi:=s80 e2;obtain⟨a,hs',hb,xs,hx,rx⟩:=env.at hi;rw[List.getLast?_eq_getElem?] at e3;obtain⟨y,hy,ry⟩:=rx.get e3;refine We0 X1 PySem.F.slot_list_pop PySem.F.type_list_pop W50 (yv0 (i:=i) hN hv hd hcd) hbase hline pins s σ H Q I
    ⟨_,hs',.inl ⟨rfl,xs,.inl (.inl hx)⟩,a,xs,y,rfl,rfl,hx,by rw[rx.length];exact hy,?_⟩
   have env2:Env X.K (upd H a (.lst xs.dropLast)) B σ (δ.set i (.ow (.lst ds.dropLast))):=env.mut hi hs' ⟨_,b8,rx.dropLast.mono (Gr.own hb)⟩;exact k _ _ (EnvV.mk' (en.mut (Same.refl _) b1 b2 hi hs' env2) b1 b2 env2 (ry.mono (Gr.own hb)))
theorem lz0{f:D->Ds->Option Ds}(h:PGD X tg idx f):PTG X tg f:=.mk λH₀ B₀ d δ pins s σ H v u Q I r ⟨δ',en,e1,k⟩=>by
 obtain⟨B,b1,b2,env,rv⟩:=en.ex;exact h B d δ pins s σ H v u Q I r ⟨δ',rv,env,e1,fun σ' w en'=>k σ' H (en.s.wr b1 b2 (Same.refl _) w en')⟩
theorem ri0(i:Nat)(h:PD X e g)(hN:X.N[i]?=some x:=by rfl)(hv:Vis X.env.scope x:=by first|exact Or.inl rfl|exact Or.inr (Or.inl rfl)|exact Or.inr (Or.inr rfl))(hd:(x==("__debug__" : Str))=false:=by decide)(hcd:(x==("__classdict__" : Str))=false:=by decide)
  (ha:∀v,assign (.Subscript (.Name x px) e pos) X.env v=(do
   let ov ← holding [v] (eval (.Name x px) X.env)
   let iv ← holding [v,ov] (eval e X.env)
   standAt pos
   holding [v,ov,iv] (setItem ov iv v)
   release [v,ov,iv] []):=by intro _;rfl):PTG X (.Subscript (.Name x px) e pos) (setAt i g):=.mk λH₀ B₀ d δ pins s σ H v u Q I r ⟨δ',en,e1,k⟩=>by
 unfold setAt at e1;obtain⟨B,b1,b2,env,rv⟩:=en.ex;cases e2:owL i δ with
 | none=>rw[e2] at e1;cases e1
 | some ds =>
  cases e3:g δ with
  | none=>rw[e2,e3] at e1;cases e1
  | some dk =>
   rw[e2,e3] at e1;simp only[Option.bind_some] at e1;cases dk<;>try cases e1
   rename_i kk;dsimp only at e1;cases e4:ixN ds.length kk with
   | none=>rw[e4] at e1;cases e1
   | some j =>
    rw[e4] at e1;cases e1;have hi:=s80 e2;obtain⟨a,hs',hb,xs,hx,rx⟩:=env.at hi;refine fx0 (yv0 (i:=i) hN hv hd hcd) (h B δ) set_list ha pins s σ H v u Q I r ⟨_,hs',_,env,e3,λiv H1 s1 r1=>?_⟩;rw[m9] at r1;subst r1;refine⟨a,xs,kk,j,rfl,rfl,s1 _ _ hx,by rw[rx.length];exact e4,?_⟩;have env2:Env X.K (upd H1 a (.lst (xs.set j v))) B σ (δ.set i (.ow (.lst (ds.set j d)))):=(env.same s1).mut hi hs' ⟨_,b8,(Rps.set j (rx.same s1) (rv.same s1)).mono (Gr.own hb)⟩;exact k _ _ (en.s.mut s1 b1 b2 hi hs' env2)
theorem K4{ft:D->Ds->Option Ds}(h:PX X e gx)(hg:PTG X tg ft)(hs:swapsWithSole [tg] e pos.line X.env=pure false:=by rfl)(hw:swappedStores [tg] e X.env=pure none:=by rfl)
  (h1:(assignEach [tg] X.env).map (·.2)=[assign tg X.env]:=by rfl):PSD X (.Assign [tg] e pos) (W8 gx ft):=.mk λH₀ B₀ δ pins s σ H D I ⟨r,en,e1,k⟩=>by
 unfold W8 at e1;cases e2:gx δ with
 | none=>rw[e2] at e1;cases e1
 | some q =>
  rw[e2] at e1;simp only[Option.bind_some] at e1;cases e3:ft q.1 q.2 with
  | none=>rw[e3] at e1;cases e1
  | some δ' =>
   rw[e3] at e1;cases e1;exact k60 (h H₀ B₀ δ) (hg H₀ B₀ q.1 q.2) hs hw h1 pins s σ H D I ⟨q,en,e2,λv H' en'=>⟨δ',en',e3,fun σ' H'' en''=>k σ' H'' en''⟩⟩
theorem z00(h:PX X e gx)(hs:swapsWith e none pos.line X.env=pure false:=by rfl):PSD X (.Expr e pos) (V1 gx):=.mk λH₀ B₀ δ pins s σ H D I ⟨r,en,e1,k⟩=>by
 unfold V1 at e1;cases e2:gx δ with
 | none=>rw[e2] at e1;cases e1
 | some q =>
  rw[e2] at e1;cases e1;exact iu0 (h H₀ B₀ δ) hs pins s σ H D I ⟨q,en,e2,λv H' en'=>k σ H' en'.s⟩
theorem wo0(n:Nat)(hp:PassesOwn (model X.prog X.w) X.A X.env X.xe)(hc:PTD X c gt)(hb:PSsD X body G):PSD X (.While c body [] pos) (W9 gt G n):=.mk λH₀ B₀ δ pins s σ H D I ⟨r,en,e1,k⟩=>by
 have hc':PT X c (fun σ H Q=>∃B δ,tDT X.K B δ gt σ H Q):=λpins s σ H Q I ⟨B,δ,h⟩=>hc B δ pins s σ H Q I h
 have hb':PSs X body (λD σ H=>∃δ,tDS X.K H₀ B₀ δ G D σ H):=λpins s σ H D I ⟨δ,h⟩=>hb H₀ B₀ δ pins s σ H D I h
 refine dr0 hp hc' hb' pins s σ H D I ⟨λm σ H=>∃δ',EnvS X.K H₀ B₀ H σ δ'/\W9 gt G m δ'=some r,⟨n,δ,en,e1⟩,?_⟩;rintro m σ1 H1 ⟨δ1,en1,e2⟩;cases m with
 | zero=>cases e2
 | succ m =>
  unfold W9 at e2;obtain⟨B,b1,b2,env⟩:=en1.ex;cases e3:gt δ1 with
  | none=>rw[e3] at e2;cases e2
  | some t =>
   rw[e3] at e2;refine⟨B,δ1,t,env,e3,λH2 s2=>?_⟩;cases t with
   | false =>
    rw[if_neg B0];cases e2;exact k σ1 H2 (en1.grow s2)
   | true =>
    rw[if_pos rfl];dsimp only at e2;refine⟨fun σ' H'=>∃δ',EnvS X.K H₀ B₀ H' σ' δ'/\W9 gt G m δ'=some r,fun σ' H' z=>⟨m,Ae0 m,z⟩,δ1,?_⟩;cases e4:G δ1 with
    | none=>rw[e4] at e2;cases e2
    | some rb =>
     rw[e4] at e2;refine⟨rb,en1.grow s2,e4,?_⟩;cases rb with
     | nx δn=>exact fun σ' H' en'=>⟨δn,en',e2⟩
     | ct δn=>exact fun σ' H' en'=>⟨δn,en',e2⟩
     | bk δn=>cases e2;exact fun σ' H' en'=>k σ' H' en'
     | rt d'=>cases e2;exact λv H' s' r'=>k v H' s' r'
     | rf d'=>cases e2;exact λp H' hp s' r'=>k p H' hp s' r'
theorem xa0(i j:Nat){y:Str}{p2 p3:Pos}{kk}(hN:X.N.Nodup)(hij:i≠j)(hc:X.calm=true:=by rfl)(hi:X.N[i]?=some x:=by rfl)(hj:X.N[j]?=some y:=by rfl)
  (hx:Loc X.env.scope x:=by first|exact Or.inl rfl|exact Or.inr rfl) (hy:Loc X.env.scope y:=by first|exact Or.inl rfl|exact Or.inr rfl)
  (hf:X.fn x=true∨X.env.scope.names.lookup x=some .local:=by first|exact .inl rfl|exact .inr rfl|assumption) (hf2:X.fn y=true∨X.env.scope.names.lookup y=some .local:=by first|exact .inl rfl|exact .inr rfl|assumption)
  (hs1:(assignEach [.Name x p2,.Name y p3] X.env).map (·.2)=assign (.Name x p2) X.env::(assignEach [.Name y p3] X.env).map (·.2):=by rfl) (hs2:(assignEach [.Name y p3] X.env).map (·.2)=assign (.Name y p3) X.env::(assignEach [] X.env).map (·.2):=by rfl)
  (hn:(assignEach [.Name x p2,.Name y p3] X.env).length=2:=by rfl) (hst:(assignEach [.Name x p2,.Name y p3] X.env).findIdx? (·.1)=none:=by rfl) :
  PGD X (.Tuple [.Name x p2,.Name y p3] kk pos) [i,j] (G6 i j):=.mk λB d δ=>(W40 hc (ls0 (rt0 (i:=i) hN hi hx hf) (ls0 (rt0 (i:=j) hN hj hy hf2) Zk0 hs2) hs1) hn hst).imp λv σ H Q ⟨δ',r,en,e1,k⟩=>by
 unfold G6 at e1;split at e1
 ·rename_i da db
  cases e1;rw[W3] at r;obtain⟨p,xs,rfl,hq,rs⟩:=r;rw[o6] at rs;obtain⟨va,t1,rfl,ra,rs⟩:=rs;rw[o6] at rs;obtain⟨vb,t2,rfl,rb,rs⟩:=rs;rw[o8] at rs;subst rs;refine⟨p,_,rfl,hq.to,rfl,va,[vb],rfl,vb,[],rfl,rfl,k _ ?_ ((en.set i ra).set j rb)⟩;refine⟨by simp,λq hq=>?_,λq hq ds h=>?_⟩
  ·have h1:q≠i:=λz=>hq (by rw[z];exact A5)
   have h2:q≠j:=λz=>hq (by rw[z];exact A4 _ A5)
   rw[List.getElem?_set_ne (C0 h2),List.getElem?_set_ne (C0 h1),List.getElem?_set_ne (C0 h2),List.getElem?_set_ne (C0 h1)];exact⟨rfl,rfl⟩
  ·rcases get_set h with⟨rfl,e3,_⟩|⟨n1,e3⟩
   ·cases e3
   ·rcases get_set e3 with⟨rfl,e4,_⟩|⟨n2,e4⟩
    ·cases e4
    ·simp at hq
     rcases hq with z|z
     ·exact n2 z.symm
     ·exact n1 z.symm
 ·cases e1
end
end DL
namespace HT
open PyProof.Rows
section
variable{w:World}{s:Shared}
theorem tx0{t:Addr}{Q:Value->Shared->Prop}(ht:IsTup s.heap t items)(hs:s.heap.IsSliceOf sl vl vu .none)(pl:IsPart vl lo)(pu:IsPart vu hi)
  (hw:sIx items.size 0 lo=0/\sIx items.size items.size hi=items.size) (h:Q (.ref t) s):wpAny (model prog w) A (getItem (.ref t) (.ref sl)) Q E s:=by
 obtain⟨os,hos,hcs,hds⟩:=id hs;have hTs:s.TypeIs (.ref sl) "slice" := ⟨os,hos,hcs⟩;unfold getItem
 try with_reducible refine C7 ?_
 first|refine A0 (A1 ?_)|skip
 refine A0 (wpAny_sequenceKey ht.typeIs (by decide) ?_);refine A0 (E3 (name:=Str.ofString "__getitem__") ht.typeIs P2
  (D8 P2 ht.typeIs entry_tuple_getitem ?_ (args_tuple_getitem _ _)))
 show wpAny _ _ (Builtin.Tuple.tupleItemsOf (.ref t)>>=_) _ _ s;refine A0 (tupleItemsOf_ ht ?_);refine A0 (E9 hTs ?_);rw[if_pos (by decide)];refine A0 (u10 hs pl pu ?_);have hyes:(((sIx items.size 0 lo:Nat):Int)==0&&(1:Int)==1&&(sIx items.size items.size hi - sIx items.size 0 lo)==items.size)=true:=by
  rw[hw.1,hw.2];simp
 show wpAny _ _ (if (((sIx items.size 0 lo:Nat):Int)==0&&(1:Int)==1&&(sIx items.size items.size hi - sIx items.size 0 lo)==items.size)=true then _ else _) _ _ s;rw[if_pos hyes];unfold Builtin.Tuple.tupleIsExact;refine A0 (A0 (E9 ht.typeIs (A1 ?_)));rw[if_pos (by decide)];exact A0 (D9 (A1 ⟨_,rfl,A1 h⟩))
end
end HT
namespace L2
open Spec PyProof.Rows
section
variable{X:Cx}
def Vk0(K:W.Frag):V->Option Int->Option Int->Hp->VK->Prop:=λx lo hi H Q=>∃a xs,x=.ref a/\SqT K H a xs/\(HT.sIx xs.length 0 lo=0/\HT.sIx xs.length xs.length hi=xs.length)/\Q (.ref a) H
theorem ao0:SlR X (Vk0 X.K):=by
 intro pins s σ H x v vl vu lo hi sl Q I rx hs pl pu h;obtain⟨a,xs,rfl,hx,hw,q⟩:=h;cases rx;obtain⟨its,r,ht,hz⟩:=I.tuple hx;have hlen:its.toArray.size=xs.length:=by rw[List.size_toArray];exact r.length.symm
 exact⟨"tuple",_,P2.lookup,ht.typeIs,HT.tx0 ht hs pl pu (by rw[hlen];exact hw) ⟨.ref a,H,I,rfl,q⟩⟩
def e40(K:W.Frag):R2:=λx y H Q=>∃a b ys,x=.ref a/\y=.ref b/\SqT K H a []/\SqT K H b ys/\Q (.ref b) H
theorem b40:OpR X (binaryOp .Add) (e40 X.K):=by
 intro pins s σ H x y v u Q I rx ry h;obtain⟨a,b,ys,rfl,rfl,ha,hb,q⟩:=h;cases rx;cases ry;obtain⟨its,r1,p1,_⟩:=I.tuple ha;obtain⟨its2,r2,p2,_⟩:=I.tuple hb;have e:its=[]:=r1.zero;subst e;obtain⟨⟨cls,dd,data,sl⟩,ho,hc,n,hd⟩:=id p1;obtain⟨⟨cls2,dd2,data2,sl2⟩,ho2,hc2,n2,hd2⟩:=id p2;simp only at hc hd hc2 hd2;subst hc hd hc2 hd2;exact i8 ⟨_,ho,rfl⟩ ⟨_,ho2,rfl⟩ x6 x8 x9 y3 (y4 _ _)
  (tuple_addW0 a b _ its2.toArray n n2 dd dd2 sl sl2 rfl) ⟨ho,ho2,⟨.ref b,H,I,rfl,q⟩⟩
def qi0(x:Str)(n:Int):Str:=⟨(List.replicate n.toNat x.cps).foldl (·++·) #[]⟩
def bb0:R2:=λx y H Q=>∃z n,x=.str z/\y=.int n/\-(2 ^ 62)<=n/\n<2 ^ 62/\z.length*n.toNat<=sizeLine/\Q (.str (qi0 z n)) H
theorem Zm0:OpR X (binaryOp .Mult) bb0:=by
 intro pins s σ H x y v u Q I rx ry h;obtain⟨z,n,rfl,rfl,h1,h2,hz,q⟩:=h;obtain⟨t,rfl⟩:=rx;obtain⟨t',rfl⟩:=ry;have fin:∀t'' k,EP X pins σ Q (.str (qi0 z n) t'') { s with toks:=k }:=λt'' k=>⟨.str _,H,I.tok k,⟨t'',rfl⟩,q⟩
 have hsl:(sizeLine:Nat)<2 ^ 40:=by decide
 have hdiv:¬n<1->¬((z.length:Int) > (2 ^ 63 - 1)/n):=by
  intro hn;have hn':0<n:=by omega
  have:(z.length:Int)*n<=2 ^ 63 - 1:=by
   have e:n=(n.toNat:Int):=by omega
   rw[e];have:((z.length*n.toNat:Nat):Int)<=2 ^ 40:=by exact_mod_cast (by omega:z.length*n.toNat<=2 ^ 40)
   rw[Int.natCast_mul] at this;omega
  exact Int.not_lt.mpr ((Int.le_ediv_iff_mul_le hn').mpr this)
 refine PySem.P.mul_str (by rw[decide_eq_false (by omega),decide_eq_false (by omega)];rfl) (λhn _=>hdiv hn) (λ_ _=>?_) ?_
 ·show decide (z.length*n.toNat > sizeLine)=false
  exact P1 (by omega)
 ·by_cases hn:n<1
  ·rw[if_pos hn]
   have e:qi0 z n=Str.empty:=by
    unfold qi0;rw[show n.toNat=0 by omega];rfl
   refine⟨by decide,?_⟩;rw[← e];exact fin _ _
  ·rw[if_neg hn]
   by_cases h3:(n==1||z.length==0)=true
   ·rw[if_pos h3]
    have e:qi0 z n=z:=by
     rw[Bool.or_eq_true] at h3;rcases h3 with h3|h3
     ·have:n=1:=eq_of_beq h3
      subst this;unfold qi0;show (⟨#[]++z.cps⟩:Str)=z;rw[Array.empty_append]
     ·have h3:z.length=0:=eq_of_beq h3
      have hz0:z.cps=#[]:=Array.eq_empty_of_size_eq_zero h3;have:∀k:Nat,(List.replicate k (#[]:Array Nat)).foldl (·++·) #[]=#[]:=by
       intro k
       induction k with
       | zero=>rfl
       | succ k ih=>rw[List.replicate_succ,List.foldl_cons];exact ih
      unfold qi0;rw[hz0,this];cases z;simp at hz0;rw[hz0]
    have:=fin t s.toks;rw[e] at this;exact this
   ·rw[if_neg h3]
    have hl2:∀(k:Nat) (acc:Array Nat),((List.replicate k z.cps).foldl (·++·) acc).size=acc.size+k*z.cps.size:=by
     intro k
     induction k with
     | zero=>intro acc;simp
     | succ k ih=>intro acc;rw[List.replicate_succ,List.foldl_cons,ih,Array.size_append,Nat.succ_mul];omega
    refine⟨?_,fin _ _⟩;show ((List.replicate n.toNat z.cps).foldl (·++·) #[]).size<=_;rw[hl2];have:z.length=z.cps.size:=rfl;rw[this,Nat.mul_comm] at hz
    simpa using hz
theorem o40:fillsNumberSlot (.type "tuple") "mul"=pure false :=
 PySem.fillsNumberSlot_seq (id := "tuple.__mul__") (r:=some (.builtin "tuple.__rmul__")) Bw0.lookup (by decide +kernel) Bx0.lookup (by decide +kernel)
theorem h40:seqRepeat? (.type "tuple")=pure (some (.builtin "tuple.__mul__")):=by
 unfold seqRepeat?;rw[PySem.seqSlot_of (T := "tuple") (name := "__mul__") (id := "tuple.__mul__") Bw0.lookup (by decide +kernel),PySem.seqSlot_of (T := "tuple") (name := "__rmul__") (id := "tuple.__rmul__") Bx0.lookup (by decide +kernel)];rfl
theorem k70(a:Int)(t:Tok)(l:Addr)(items:Array Value)(n:Nat)(dd:Option Addr)(sl:Array (Option Value)) :
  Meets (Builtin.«int.__rmul__» ⟨[.int a t,.ref l],[]⟩) (λ_ R s=>s.heap.get? l=some { cls:=.type "tuple",dict:=dd,data:=.seq items n,slots:=sl }/\R (.ok (.ret Value.notImplemented)) s) :=
 .of_wp λprog w A R s h=>by
  obtain⟨hp,g,d,tk,os⟩:=s;obtain⟨hl,h⟩:=h
  wp_walk
  exact⟨_,rfl,h⟩
theorem du0(l:Addr)(items:Array Value)(n:Nat)(dd:Option Addr)(sl:Array (Option Value))(k:Int)(t:Tok)(h2:2<=k)(h3:k<2 ^ 62)(he:items.isEmpty=false)(hsz:items.size*k.toNat<=sizeLine) :
  Meets (Builtin.«tuple.__mul__» ⟨[.ref l,.int k t],[]⟩) (λ_ R s=>s.heap.get? l=some { cls:=.type "tuple",dict:=dd,data:=.seq items n,slots:=sl }/\R (.ok (.ret (Value.ref s.heap.objs.size))) { s with heap:=s.heap.push { cls:=.type "tuple",data:=.seq ((List.replicate k.toNat items).foldl (·++·) #[]) } }) :=
 .of_wp λprog w A R s h=>by
  obtain⟨hp,g,d,tk,os⟩:=s;obtain⟨hl,h⟩:=h;have f1:=AutoSeq1.idx_int;have c1:¬((decide (k < -(2 ^ 63:Int))||decide (k ≥ 2 ^ 63))=true):=by
   rw[decide_eq_false (by omega),decide_eq_false (by omega)];exact B0
  have c2:¬((items.isEmpty||k==1)=true):=by
   rw[he,beq_eq_false_iff_ne.mpr (by omega)];exact B0
  have c3:¬((decide (k<=0)||items.isEmpty)=true):=by
   rw[he,decide_eq_false (by omega)];exact B0
  have hk:((items.size:Int)*k)=((items.size*k.toNat:Nat):Int):=by
   rw[Int.natCast_mul];congr 1;omega
  have hb:(sizeLine:Nat)<2 ^ 40:=by decide
  have c4:¬((items.size:Int)*k > (2 ^ 63 - 1)/8):=by
   rw[hk];omega
  have c5:¬(Builtin.Tuple.tupleTooMany ((items.size:Int)*k)=true):=by
   rw[hk];unfold Builtin.Tuple.tupleTooMany;simp only[decide_eq_true_eq];omega
  have hsz2:∀(m:Nat) (acc:Array Value),((List.replicate m items).foldl (·++·) acc).size=acc.size+m*items.size:=by
   intro m
   induction m with
   | zero=>intro acc;simp
   | succ m ih=>intro acc;rw[List.replicate_succ,List.foldl_cons,ih,Array.size_append,Nat.succ_mul];omega
  have htake:sizeOk (.seq ((List.replicate k.toNat items).foldl (·++·) #[])):=by
   show ((List.replicate k.toNat items).foldl (·++·) #[]).size<=sizeLine;rw[hsz2,Nat.mul_comm]
   simpa using hsz
  wp_walk
  rw[if_neg c1];show wpAny _ _ (Builtin.Tuple.tupleItemsOf (.ref l)>>=_) _ _ _;refine A0 (tupleItemsOf_ ⟨_,hl,rfl,n,rfl⟩ ?_);dsimp only;rw[if_neg c2,if_neg c3];rw[if_neg c4,if_neg c5];exact A0 (m:=Builtin.Tuple.tupleExact _) (E4 (A1 ⟨_,rfl,h⟩) htake)
def bj0(K:W.Frag):R2:=λx y H Q=>∃a xs k,x=.ref a/\y=.int k/\SqT K H a xs/\xs≠[]/\2<=k/\k<2 ^ 62/\xs.length*k.toNat<=sizeLine/\∀p,H p=none->Q (.ref p) (upd H p (.tup (List.replicate k.toNat xs).flatten))
theorem Y80:OpR X (binaryOp .Mult) (bj0 X.K):=by
 intro pins s σ H x y v u Q I rx ry h;obtain⟨a,xs,k,rfl,rfl,ha,hx,h2,h3,hz,q⟩:=h;cases rx;obtain⟨t,rfl⟩:=ry;obtain⟨its,r1,p1,_⟩:=I.tuple ha;obtain⟨⟨cls,dd,data,sl⟩,ho,hc,n,hd⟩:=id p1;simp only at hc hd;subst hc hd;have hl:=r1.length;have he:its.toArray.isEmpty=false:=by
  cases its with
  | nil=>exact absurd (r1.nil_iff.mp rfl) hx
  | cons a b=>rfl
 have hlen:its.toArray.size*k.toNat<=sizeLine:=by rw[List.size_toArray,← hl];exact hz
 have hnew:(List.replicate k.toNat its.toArray).foldl (·++·) #[]=(List.replicate k.toNat its).flatten.toArray:=by
  have:=foldl_rep its k.toNat [];rw[List.nil_append] at this;exact this
 refine wpAny_binaryOp_repeat_ref (T := "tuple") (U := "int") (by decide) ⟨_,ho,rfl⟩ (λs'=>M1 s' k t) o40 F.fills_int_mul F.slot_int_rmul h40 F.slot_int_index.lookup
  (M2 F.slot_int_rmul (M1 s k t) F.entry_int_rmul (F.args_int_rmul_2 _ _) (k70 k t a its.toArray n dd sl)
   ⟨ho,rfl,⟨_,ho,rfl⟩,M2 F.slot_tuple_mul ⟨_,ho,rfl⟩ F.entry_tuple_mul (F.args_tuple_mul_2 _ _) (du0 a its.toArray n dd sl k t h2 h3 he hlen) ⟨ho,?_⟩⟩)
 rw[hnew];refine⟨.ref s.heap.objs.size,_,I.laid (t':=s.toks) (o:=.tup (List.replicate k.toNat xs).flatten) (λb ob q=>A7 _ q) (A2 _) ?_,rfl,q _ (I.hok.fresh (A2 _))⟩;exact⟨by rw[len_rep,Nat.mul_comm];exact hz,_,r1.rep k.toNat,IsTupN.new _ _⟩
end
end L2
namespace DL
open Spec PyProof.Rows L2
mutual
theorem qn0:∀(d:D) (n:Nat),lean d n=true->deq d d=true
 | .non,_,_=>by unfold deq;rfl
 | .bl b,_,_=>by unfold deq;simp
 | .int b,_,_=>by unfold deq;simp
 | .str b,_,_=>by unfold deq;simp
 | .tup ds,0,h=>by unfold lean at h;cases h
 | .tup ds,n+1,h=>by unfold lean at h;unfold deq;exact sl0 ds n h
 | .lst ds,0,h=>by unfold lean at h;cases h
 | .lst ds,n+1,h=>by unfold lean at h;unfold deq;exact sl0 ds n h
 | .dct _ _,n,h=>by unfold lean at h;cases h
theorem sl0:∀(ds:List D) (n:Nat),leans ds n=true->G4 ds ds=true
 | [],_,_=>by unfold G4;rfl
 | d::ds,n,h=>by
  unfold leans at h;rw[Bool.and_eq_true] at h;unfold G4;rw[qn0 d n h.1,sl0 ds n h.2];rfl
end
theorem xk0:∀ds es:List D,G4 ds es=((List.range (min ds.length es.length)).all (λj=>deq (ds.getD j .non) (es.getD j .non))&&ds.length==es.length)
 | [],[]=>by unfold G4;simp
 | [],_::_=>by unfold G4;simp
 | _::_,[]=>by unfold G4;simp
 | d::ds,e::es=>by
  unfold G4;rw[xk0 ds es];have h1:min (d::ds).length (e::es).length=min ds.length es.length+1:=by simp only[List.length_cons];omega
  rw[h1,List.range_succ_eq_map,List.all_cons,List.all_map];have h2:((d::ds).length==(e::es).length)=(ds.length==es.length):=by
   rw[Bool.eq_iff_iff];simp
  rw[h2,Bool.and_assoc];rfl
theorem ub0:∀{ds:List D} {n j:Nat} {d:D},leans ds n=true->ds[j]?=some d->lean d n=true
 | [],_,_,_,_,h=>by simp at h
 | d::ds,n,0,_,h,e=>by
  unfold leans at h;rw[Bool.and_eq_true] at h;simp at e;subst e;exact h.1
 | d::ds,n,j+1,_,h,e=>by
  unfold leans at h;rw[Bool.and_eq_true] at h;exact ub0 (j:=j) h.2 (by simpa using e)
section
variable{X:Cx}{σ:St}{s:Shared}
mutual
theorem Rp.inj(I:Inv X pins σ H s):∀{d e:D} {n m:Nat} {v:V},lean d n=true->lean e m=true->Rp X.K H B d v->Rp X.K H B' e v->d=e
 | .non,e,_,m,v,_,le,h,h'=>by
  rw[V6] at h;subst h;cases e with
  | non=>rfl
  | bl b=>rw[X5] at h';cases h'
  | int b=>rw[m9] at h';cases h'
  | str b=>rw[W0] at h';cases h'
  | tup b=>rw[W3] at h';obtain⟨_,_,z,_⟩:=h';cases z
  | lst b=>rw[Y6] at h';obtain⟨_,_,z,_⟩:=h';cases z
  | dct a b=>unfold lean at le;cases le
 | .bl c,e,_,m,v,_,le,h,h'=>by
  rw[X5] at h;subst h;cases e with
  | non=>rw[V6] at h';cases h'
  | bl b=>rw[X5] at h';cases h';rfl
  | int b=>rw[m9] at h';cases h'
  | str b=>rw[W0] at h';cases h'
  | tup b=>rw[W3] at h';obtain⟨_,_,z,_⟩:=h';cases z
  | lst b=>rw[Y6] at h';obtain⟨_,_,z,_⟩:=h';cases z
  | dct a b=>unfold lean at le;cases le
 | .int c,e,_,m,v,_,le,h,h'=>by
  rw[m9] at h;subst h;cases e with
  | non=>rw[V6] at h';cases h'
  | bl b=>rw[X5] at h';cases h'
  | int b=>rw[m9] at h';cases h';rfl
  | str b=>rw[W0] at h';cases h'
  | tup b=>rw[W3] at h';obtain⟨_,_,z,_⟩:=h';cases z
  | lst b=>rw[Y6] at h';obtain⟨_,_,z,_⟩:=h';cases z
  | dct a b=>unfold lean at le;cases le
 | .str c,e,_,m,v,_,le,h,h'=>by
  rw[W0] at h;subst h;cases e with
  | non=>rw[V6] at h';cases h'
  | bl b=>rw[X5] at h';cases h'
  | int b=>rw[m9] at h';cases h'
  | str b=>rw[W0] at h';cases h';rfl
  | tup b=>rw[W3] at h';obtain⟨_,_,z,_⟩:=h';cases z
  | lst b=>rw[Y6] at h';obtain⟨_,_,z,_⟩:=h';cases z
  | dct a b=>unfold lean at le;cases le
 | .tup ds,e,0,m,v,ld,_,_,_=>by unfold lean at ld;cases ld
 | .tup ds,e,n+1,m,v,ld,le,h,h'=>by
  rw[W3] at h;obtain⟨a,xs,rfl,q,r⟩:=h;unfold lean at ld;cases e with
  | non=>rw[V6] at h';cases h'
  | bl b=>rw[X5] at h';cases h'
  | int b=>rw[m9] at h';cases h'
  | str b=>rw[W0] at h';cases h'
  | tup es =>
   cases m with
   | zero=>unfold lean at le;cases le
   | succ m =>
    unfold lean at le;rw[W3] at h';obtain⟨a',ys,z,q',r'⟩:=h';cases z;have:=I.tuple_inj q.to q'.to;subst this;rw[Rps.inj I ld le r r']
  | lst es =>
   rw[Y6] at h';obtain⟨a',ys,z,q',r'⟩:=h';cases z;obtain⟨_,_,⟨o,e1,c1,_⟩,_⟩:=I.tuple q.to;obtain⟨_,_,p,_⟩:=I.list q'.to;obtain⟨o',e2,c2,_⟩:=p.isList;rw[e1] at e2;cases e2;rw[c1] at c2;injection c2 with z
   exact absurd z (by decide)
  | dct a b=>unfold lean at le;cases le
 | .lst ds,e,0,m,v,ld,_,_,_=>by unfold lean at ld;cases ld
 | .lst ds,e,n+1,m,v,ld,le,h,h'=>by
  rw[Y6] at h;obtain⟨a,xs,rfl,q,r⟩:=h;unfold lean at ld;cases e with
  | non=>rw[V6] at h';cases h'
  | bl b=>rw[X5] at h';cases h'
  | int b=>rw[m9] at h';cases h'
  | str b=>rw[W0] at h';cases h'
  | lst es =>
   cases m with
   | zero=>unfold lean at le;cases le
   | succ m =>
    unfold lean at le;rw[Y6] at h';obtain⟨a',ys,z,q',r'⟩:=h';cases z;have:=I.list_inj q.to q'.to;subst this;rw[Rps.inj I ld le r r']
  | tup es =>
   rw[W3] at h';obtain⟨a',ys,z,q',r'⟩:=h';cases z;obtain⟨_,_,⟨o,e1,c1,_⟩,_⟩:=I.tuple q'.to;obtain⟨_,_,p,_⟩:=I.list q.to;obtain⟨o',e2,c2,_⟩:=p.isList;rw[e1] at e2;cases e2;rw[c1] at c2;injection c2 with z
   exact absurd z (by decide)
  | dct a b=>unfold lean at le;cases le
 | .dct a b,e,n,m,v,ld,_,_,_=>by unfold lean at ld;cases ld
theorem Rps.inj(I:Inv X pins σ H s):∀{ds es:List D} {n m:Nat} {xs:List V},leans ds n=true->leans es m=true->Rps X.K H B ds xs->Rps X.K H B' es xs->ds=es
 | [],es,_,_,_,_,_,h,h'=>by
  rw[o8] at h;subst h;have:=h'.length;cases es with
  | nil=>rfl
  | cons a b=>simp at this
 | d::ds,es,n,m,_,ld,le,h,h'=>by
  rw[o6] at h;obtain⟨x,r,rfl,h1,h2⟩:=h;cases es with
  | nil=>rw[o8] at h';cases h'
  | cons e es =>
   rw[o6] at h';obtain⟨x',r',z,h1',h2'⟩:=h';cases z;unfold leans at ld le;rw[Bool.and_eq_true] at ld le;rw[Rp.inj I ld.1 le.1 h1 h1',Rps.inj I ld.2 le.2 h2 h2']
end
theorem view(I:Inv X pins σ H s){d:D}{x:V}(l:lean d n=true)(h:Rp X.K H B d x)(r:RelV x u) :
  (d=.non/\u=.none)∨(∃b,d=.bl b/\u=.bool b)∨(∃i t,d=.int i/\u=.int i t)∨(∃z t,d=.str z/\u=.str z t) ∨
  (∃m ds a xs its,n=m+1/\leans ds m=true/\d=.tup ds/\x=.ref a/\u=.ref a/\Rps X.K H B ds xs/\Vals xs its/\s.heap.IsTuple a its.toArray) ∨
  (∃m ds a xs its,n=m+1/\leans ds m=true/\d=.lst ds/\x=.ref a/\u=.ref a/\Rps X.K H B ds xs/\Vals xs its/\s.heap.IsList a its.toArray):=by
 cases d with
 | non=>rw[V6] at h;subst h;exact .inl ⟨rfl,r⟩
 | bl b=>rw[X5] at h;subst h;exact .inr (.inl ⟨b,rfl,r⟩)
 | int i=>rw[m9] at h;subst h;obtain⟨t,e⟩:=r;exact .inr (.inr (.inl ⟨i,t,rfl,e⟩))
 | str z=>rw[W0] at h;subst h;obtain⟨t,e⟩:=r;exact .inr (.inr (.inr (.inl ⟨z,t,rfl,e⟩)))
 | tup ds =>
  cases n with
  | zero=>unfold lean at l;cases l
  | succ m =>
   unfold lean at l;rw[W3] at h;obtain⟨a,xs,rfl,q,rr⟩:=h;obtain⟨its,rv,p,_⟩:=I.tuple q.to;exact .inr (.inr (.inr (.inr (.inl ⟨m,ds,a,xs,its,rfl,l,rfl,rfl,r,rr,rv,p⟩))))
 | lst ds =>
  cases n with
  | zero=>unfold lean at l;cases l
  | succ m =>
   unfold lean at l;rw[Y6] at h;obtain⟨a,xs,rfl,q,rr⟩:=h;obtain⟨its,rv,p,_⟩:=I.list q.to;exact .inr (.inr (.inr (.inr (.inr ⟨m,ds,a,xs,its,rfl,l,rfl,rfl,r,rr,rv,p.isList⟩))))
 | dct a b=>unfold lean at l;cases l
theorem in1_units:A.in1.units=A.units+1:=rfl
theorem tr0{es:List D}{xs ys:List V}{ws:List Value}{A:Around}(ld:leans ds n=true)(le:leans es m=true)(r1:Rps X.K H B ds xs)(r2:Rps X.K H B' es ys)(v1:Vals xs us)(v2:Vals ys ws)
  (ih:∀d e x y u w,lean d n=true->lean e m=true->Rp X.K H B d x->Rp X.K H B' e y->RelV x u->RelV y w->SeqAt.EqAt A s u w (deq d e)) :
  ∀j (h1:j<us.toArray.size) (h2:j<ws.toArray.size),SeqAt.EqAt A s us.toArray[j] ws.toArray[j] (deq (ds.getD j .non) (es.getD j .non)):=by
 intro j h1 h2;have l1:j<ds.length:=by rw[← r1.length,v1.length];simpa using h1
 have l2:j<es.length:=by rw[← r2.length,v2.length];simpa using h2
 obtain⟨x,ex,rx⟩:=r1.get (C1 l1);obtain⟨y,ey,ry⟩:=r2.get (C1 l2);obtain⟨u,eu,ru⟩:=v1.get ex;obtain⟨w,ew,rw'⟩:=v2.get ey;have hu:us.toArray[j]=u:=by
  have:us[j]?=some u:=eu;simp at h1;rw[List.getElem?_eq_getElem h1] at this
  simpa using B6 this
 have hw:ws.toArray[j]=w:=by
  have:ws[j]?=some w:=ew;simp at h2;rw[List.getElem?_eq_getElem h2] at this
  simpa using B6 this
 rw[hu,hw];have e1:ds.getD j .non=ds[j]:=by simp[List.getD_eq_getElem?_getD,l1]
 have e2:es.getD j .non=es[j]:=by simp[List.getD_eq_getElem?_getD,l2]
 rw[e1,e2];exact ih _ _ _ _ _ _ (ub0 ld (C1 l1)) (ub0 le (C1 l2)) rx ry ru rw'
theorem kb0(I:Inv X pins σ H s):∀(n m:Nat) (d e:D) (x y:V) (u w:Value) (A:Around),A.units+n<cLine->lean d n=true->lean e m=true->Rp X.K H B d x->Rp X.K H B' e y->RelV x u->RelV y w->SeqAt.EqAt A s u w (deq d e):=by
 intro n
 induction n with
 | zero =>
  intro m d e x y u w A hu ld le hx hy rx ry;have hu':A.units<cLine:=by omega
  rcases view I ld hx rx with⟨rfl,rfl⟩|⟨b,rfl,rfl⟩|⟨i,t,rfl,rfl⟩|⟨z,t,rfl,rfl⟩|⟨n',_,_,_,_,hn,_⟩|⟨n',_,_,_,_,hn,_⟩<;>(try (exact absurd hn (by omega))) <;>
  rcases view I le hy ry with⟨rfl,rfl⟩|⟨b',rfl,rfl⟩|⟨i',t',rfl,rfl⟩|⟨z',t',rfl,rfl⟩|⟨m',es,a',ys,its',rfl,le',rfl,rfl,rfl,rr',rv',p'⟩|⟨m',es,a',ys,its',rfl,le',rfl,rfl,rfl,rr',rv',p'⟩ <;>
  unfold deq <;>
  first
  | with_reducible exact U1 _|with_reducible exact A20 _ _|with_reducible exact A70 _ _ _ _|with_reducible exact Aa0 _ _ _ _|with_reducible exact A30 _ _ _|with_reducible exact A60 _ _ _
  | with_reducible exact y9 _|with_reducible exact z0 _ _|with_reducible exact A00 _ _|with_reducible exact A10 _|with_reducible exact A40 _ _ _|with_reducible exact A50 _ _|with_reducible exact d6 _ _ _ _
  | with_reducible exact A80 _ _|with_reducible exact A90 _ _ _|with_reducible exact h8 _ _ _ _
  | with_reducible exact SeqAt.EqAt.none_list p' hu'|with_reducible exact SeqAt.EqAt.bool_list _ p' hu'|with_reducible exact SeqAt.EqAt.int_list _ _ p' hu'|with_reducible exact SeqAt.EqAt.str_list _ _ p' hu'
  | with_reducible exact SeqAt.EqAt.none_tuple p' hu'|with_reducible exact SeqAt.EqAt.bool_tuple _ p' hu'|with_reducible exact SeqAt.EqAt.int_tuple _ _ p' hu'|with_reducible exact SeqAt.EqAt.str_tuple _ _ p' hu'
 | succ n ih =>
  intro m d e x y u w A hu ld le hx hy rx ry;have hu':A.units<cLine:=by omega
  have hin:A.in1.units+n<cLine:=by rw[in1_units];omega
  rcases view I ld hx rx with⟨rfl,rfl⟩|⟨b,rfl,rfl⟩|⟨i,t,rfl,rfl⟩|⟨z,t,rfl,rfl⟩|⟨n',ds,a,xs,its,hn,ld',rfl,rfl,rfl,rr,rv,p⟩|⟨n',ds,a,xs,its,hn,ld',rfl,rfl,rfl,rr,rv,p⟩ <;>
  rcases view I le hy ry with⟨rfl,rfl⟩|⟨b',rfl,rfl⟩|⟨i',t',rfl,rfl⟩|⟨z',t',rfl,rfl⟩|⟨m',es,a',ys,its',rfl,le',rfl,rfl,rfl,rr',rv',p'⟩|⟨m',es,a',ys,its',rfl,le',rfl,rfl,rfl,rr',rv',p'⟩
  case inr.inr.inr.inr.inl.inr.inr.inr.inr.inl =>
   cases hn
   by_cases hab:a=a'
   ·subst hab
    have e:D.tup ds=D.tup es:=Rp.inj I ld le hx hy;rw[← e,qn0 _ _ ld];exact U1 _
   ·refine SeqAt.EqAt.of_refs hab ?_
    have:=SeqAt.RcAt.tuples (e:=λj=>deq (ds.getD j .non) (es.getD j .non)) p p' hu' (tr0 ld' le' rr rr' rv rv' λd e x y u w h1 h2 h3 h4 h5 h6=>ih m' d e x y u w A.in1 hin h1 h2 h3 h4 h5 h6);unfold deq;rw[xk0]
    simpa [← rv.length,← rv'.length,rr.length,rr'.length] using this
  case inr.inr.inr.inr.inr.inr.inr.inr.inr.inr =>
   cases hn
   by_cases hab:a=a'
   ·subst hab
    have e:D.lst ds=D.lst es:=Rp.inj I ld le hx hy;rw[← e,qn0 _ _ ld];exact U1 _
   ·refine SeqAt.EqAt.of_refs hab ?_
    have s1:its.toArray.size=ds.length:=by rw[List.size_toArray,← rv.length,rr.length]
    have s2:its'.toArray.size=es.length:=by rw[List.size_toArray,← rv'.length,rr'.length]
    unfold deq;rw[xk0]
    by_cases hl:ds.length=es.length
    ·have:=SeqAt.RcAt.lists (e:=λj=>deq (ds.getD j .non) (es.getD j .non)) p p' (by rw[s1,s2,hl]) hu' (tr0 ld' le' rr rr' rv rv' λd e x y u w h1 h2 h3 h4 h5 h6=>ih m' d e x y u w A.in1 hin h1 h2 h3 h4 h5 h6)
     rw[s1] at this;rw[hl] at this ⊢
     simpa using this
    ·have:=Ca0 (A:=A) p p' (by rw[s1,s2];simpa using hl) hu'
     rw[beq_eq_false_iff_ne.mpr hl,Bool.and_false];exact this
  all_goals
   unfold deq
   first
   | with_reducible exact U1 _|with_reducible exact A20 _ _|with_reducible exact A70 _ _ _ _|with_reducible exact Aa0 _ _ _ _|with_reducible exact A30 _ _ _|with_reducible exact A60 _ _ _
   | with_reducible exact y9 _|with_reducible exact z0 _ _|with_reducible exact A00 _ _|with_reducible exact A10 _|with_reducible exact A40 _ _ _|with_reducible exact A50 _ _|with_reducible exact d6 _ _ _ _
   | with_reducible exact A80 _ _|with_reducible exact A90 _ _ _|with_reducible exact h8 _ _ _ _
   | with_reducible exact SeqAt.EqAt.none_list p' hu'|with_reducible exact SeqAt.EqAt.bool_list _ p' hu'|with_reducible exact SeqAt.EqAt.int_list _ _ p' hu'|with_reducible exact SeqAt.EqAt.str_list _ _ p' hu'
   | with_reducible exact SeqAt.EqAt.none_tuple p' hu'|with_reducible exact SeqAt.EqAt.bool_tuple _ p' hu'|with_reducible exact SeqAt.EqAt.int_tuple _ _ p' hu'|with_reducible exact SeqAt.EqAt.str_tuple _ _ p' hu'
   | with_reducible exact SeqAt.EqAt.list_none p hu'|with_reducible exact SeqAt.EqAt.list_bool _ p hu'|with_reducible exact SeqAt.EqAt.list_int _ _ p hu'|with_reducible exact SeqAt.EqAt.list_str _ _ p hu'
   | with_reducible exact SeqAt.EqAt.tuple_none p hu'|with_reducible exact SeqAt.EqAt.tuple_bool _ p hu'|with_reducible exact SeqAt.EqAt.tuple_int _ _ p hu'|with_reducible exact SeqAt.EqAt.tuple_str _ _ p hu'
   | with_reducible exact SeqAt.EqAt.list_tuple p p' hu'|with_reducible exact SeqAt.EqAt.tuple_list p p' hu'
end
end DL
namespace DL
open Spec PyProof.Rows L2
section
variable{X:Cx}{σ:St}{s:Shared}
theorem fv0(I:Inv X pins σ H s)(n m:Nat)(d e:D)(x y:V)(u w:Value)(A:Around)(hu:A.units+n<cLine)(ld:lean d n=true)(le:lean e m=true)(hx:Rp X.K H B d x)(hy:Rp X.K H B' e y)(rx:RelV x u)(ry:RelV y w) :
  SeqAt.RcAt A s u w (deq d e)/\SeqAt.RcNeAt A s u w (!deq d e):=by
 have hu':A.units<cLine:=by omega
 rcases view I ld hx rx with⟨rfl,rfl⟩|⟨b,rfl,rfl⟩|⟨i,t,rfl,rfl⟩|⟨z,t,rfl,rfl⟩|⟨n',ds,a,xs,its,hn,ld',rfl,rfl,rfl,rr,rv,p⟩|⟨n',ds,a,xs,its,hn,ld',rfl,rfl,rfl,rr,rv,p⟩ <;>
 rcases view I le hy ry with⟨rfl,rfl⟩|⟨b',rfl,rfl⟩|⟨i',t',rfl,rfl⟩|⟨z',t',rfl,rfl⟩|⟨m',es,a',ys,its',rfl,le',rfl,rfl,rfl,rr',rv',p'⟩|⟨m',es,a',ys,its',rfl,le',rfl,rfl,rfl,rr',rv',p'⟩
 case inr.inr.inr.inr.inl.inr.inr.inr.inr.inl =>
  subst hn;have hin:A.in1.units+n'<cLine:=by rw[in1_units];omega
  have hit:=tr0 (A:=A.in1) ld' le' rr rr' rv rv' λd e x y u w h1 h2 h3 h4 h5 h6=>kb0 I n' m' d e x y u w A.in1 hin h1 h2 h3 h4 h5 h6
  have q1:=SeqAt.RcAt.tuples (e:=λj=>deq (ds.getD j .non) (es.getD j .non)) p p' hu' hit;have q2:=SeqAt.RcNeAt.tuples (e:=λj=>deq (ds.getD j .non) (es.getD j .non)) p p' hu' hit;unfold deq;rw[xk0];have s1:its.toArray.size=ds.length:=by rw[List.size_toArray,← rv.length,rr.length]
  have s2:its'.toArray.size=es.length:=by rw[List.size_toArray,← rv'.length,rr'.length]
  rw[s1,s2] at q1 q2;exact⟨q1,q2⟩
 case inr.inr.inr.inr.inr.inr.inr.inr.inr.inr =>
  subst hn;have hin:A.in1.units+n'<cLine:=by rw[in1_units];omega
  have hit:=tr0 (A:=A.in1) ld' le' rr rr' rv rv' λd e x y u w h1 h2 h3 h4 h5 h6=>kb0 I n' m' d e x y u w A.in1 hin h1 h2 h3 h4 h5 h6
  have s1:its.toArray.size=ds.length:=by rw[List.size_toArray,← rv.length,rr.length]
  have s2:its'.toArray.size=es.length:=by rw[List.size_toArray,← rv'.length,rr'.length]
  unfold deq;rw[xk0]
  by_cases hl:ds.length=es.length
  ·have q1:=SeqAt.RcAt.lists (e:=λj=>deq (ds.getD j .non) (es.getD j .non)) p p' (by rw[s1,s2,hl]) hu' hit
   have q2:=SeqAt.RcNeAt.lists (e:=λj=>deq (ds.getD j .non) (es.getD j .non)) p p' (by rw[s1,s2,hl]) hu' hit;rw[s1] at q1 q2;rw[hl] at q1 q2 ⊢;simp only[Nat.min_self,beq_self_eq_true,Bool.and_true];exact⟨q1,q2⟩
  ·have q1:=Ca0 (A:=A) p p' (by rw[s1,s2];simpa using hl) hu'
   have q2:=SeqAt.RcNeAt.lists_lengths (A:=A) p p' (by rw[s1,s2];simpa using hl) hu';rw[beq_eq_false_iff_ne.mpr hl,Bool.and_false];exact⟨q1,q2⟩
 all_goals
  unfold deq;constructor
  ·first
   | with_reducible exact SeqAt.RcAt.none_none|with_reducible exact SeqAt.RcAt.bool_bool _ _|with_reducible exact SeqAt.RcAt.int_int _ _ _ _|with_reducible exact SeqAt.RcAt.str_str _ _ _ _|with_reducible exact SeqAt.RcAt.bool_int _ _ _|with_reducible exact SeqAt.RcAt.int_bool _ _ _
   | with_reducible exact SeqAt.RcAt.none_bool _|with_reducible exact SeqAt.RcAt.none_int _ _|with_reducible exact SeqAt.RcAt.none_str _ _|with_reducible exact SeqAt.RcAt.bool_none _|with_reducible exact SeqAt.RcAt.bool_str _ _ _|with_reducible exact SeqAt.RcAt.int_none _ _|with_reducible exact SeqAt.RcAt.int_str _ _ _ _
   | with_reducible exact SeqAt.RcAt.str_none _ _|with_reducible exact SeqAt.RcAt.str_bool _ _ _|with_reducible exact SeqAt.RcAt.str_int _ _ _ _
   | with_reducible exact SeqAt.RcAt.none_list p' hu'|with_reducible exact SeqAt.RcAt.bool_list _ p' hu'|with_reducible exact SeqAt.RcAt.int_list _ _ p' hu'|with_reducible exact SeqAt.RcAt.str_list _ _ p' hu'
   | with_reducible exact SeqAt.RcAt.none_tuple p' hu'|with_reducible exact SeqAt.RcAt.bool_tuple _ p' hu'|with_reducible exact SeqAt.RcAt.int_tuple _ _ p' hu'|with_reducible exact SeqAt.RcAt.str_tuple _ _ p' hu'
   | with_reducible exact SeqAt.RcAt.list_none p hu'|with_reducible exact SeqAt.RcAt.list_bool _ p hu'|with_reducible exact SeqAt.RcAt.list_int _ _ p hu'|with_reducible exact SeqAt.RcAt.list_str _ _ p hu'
   | with_reducible exact SeqAt.RcAt.tuple_none p hu'|with_reducible exact SeqAt.RcAt.tuple_bool _ p hu'|with_reducible exact SeqAt.RcAt.tuple_int _ _ p hu'|with_reducible exact SeqAt.RcAt.tuple_str _ _ p hu'
   | with_reducible exact SeqAt.RcAt.list_tuple p p' hu'|with_reducible exact SeqAt.RcAt.tuple_list p p' hu'
  ·try rw[Bool.not_false]
   try rw[Bool.not_true]
   first
   | with_reducible exact SeqAt.RcNeAt.none_none|with_reducible exact SeqAt.RcNeAt.bool_bool _ _|with_reducible exact SeqAt.RcNeAt.int_int _ _ _ _|with_reducible exact SeqAt.RcNeAt.str_str _ _ _ _|with_reducible exact SeqAt.RcNeAt.bool_int _ _ _|with_reducible exact SeqAt.RcNeAt.int_bool _ _ _
   | with_reducible exact SeqAt.RcNeAt.none_bool _|with_reducible exact SeqAt.RcNeAt.none_int _ _|with_reducible exact SeqAt.RcNeAt.none_str _ _|with_reducible exact SeqAt.RcNeAt.bool_none _|with_reducible exact SeqAt.RcNeAt.bool_str _ _ _|with_reducible exact SeqAt.RcNeAt.int_none _ _|with_reducible exact SeqAt.RcNeAt.int_str _ _ _ _
   | with_reducible exact SeqAt.RcNeAt.str_none _ _|with_reducible exact SeqAt.RcNeAt.str_bool _ _ _|with_reducible exact SeqAt.RcNeAt.str_int _ _ _ _
   | with_reducible exact SeqAt.RcNeAt.none_list p' hu'|with_reducible exact SeqAt.RcNeAt.bool_list _ p' hu'|with_reducible exact SeqAt.RcNeAt.int_list _ _ p' hu'|with_reducible exact SeqAt.RcNeAt.str_list _ _ p' hu'
   | with_reducible exact SeqAt.RcNeAt.none_tuple p' hu'|with_reducible exact SeqAt.RcNeAt.bool_tuple _ p' hu'|with_reducible exact SeqAt.RcNeAt.int_tuple _ _ p' hu'|with_reducible exact SeqAt.RcNeAt.str_tuple _ _ p' hu'
   | with_reducible exact SeqAt.RcNeAt.list_none p hu'|with_reducible exact SeqAt.RcNeAt.list_bool _ p hu'|with_reducible exact SeqAt.RcNeAt.list_int _ _ p hu'|with_reducible exact SeqAt.RcNeAt.list_str _ _ p hu'
   | with_reducible exact SeqAt.RcNeAt.tuple_none p hu'|with_reducible exact SeqAt.RcNeAt.tuple_bool _ p hu'|with_reducible exact SeqAt.RcNeAt.tuple_int _ _ p hu'|with_reducible exact SeqAt.RcNeAt.tuple_str _ _ p hu'
   | with_reducible exact SeqAt.RcNeAt.list_tuple p p' hu'|with_reducible exact SeqAt.RcNeAt.tuple_list p p' hu'
end
section
variable{X:Cx}{a:Expr}
def gv0(K:W.Frag)(neg:Bool):R2:=λx y H Q=>∃B B' dx dy,Rp K H B dx x/\Rp K H B' dy y/\lean dx 50=true/\lean dy 50=true/\Q (.bl (xor neg (deq dx dy))) H
theorem e60(hu:X.A.units+64<cLine):OpR X (compareOp .Eq) (gv0 X.K false):=by
 intro pins s σ H x y v u Q I rx ry h;obtain⟨B,B',dx,dy,hx,hy,lx,ly,q⟩:=h;exact(fv0 I 50 50 dx dy x y v u X.A (by omega) lx ly hx hy rx ry).1 _ _ _ _ ⟨.bl _,H,I,rfl,by rw[Bool.false_xor] at q;exact q⟩
theorem uy0(hu:X.A.units+64<cLine):OpR X (compareOp .NotEq) (gv0 X.K true):=by
 intro pins s σ H x y v u Q I rx ry h;obtain⟨B,B',dx,dy,hx,hy,lx,ly,q⟩:=h;exact(fv0 I 50 50 dx dy x y v u X.A (by omega) lx ly hx hy rx ry).2 _ _ _ _ ⟨.bl _,H,I,rfl,by rw[Bool.true_xor] at q;exact q⟩
theorem iq0:Op2 K (gv0 K false) ue0:=by
 intro H B x y dx dy d Q hb rx ry h k;unfold ue0 at h;split at h
 ·rename_i hl
  cases h;exact⟨B,B,dx,dy,rx,ry,hl.1,hl.2,k _ H (Same.refl H) (by rw[X5,Bool.false_xor])⟩
 ·cases h
theorem ve0:Op2 K (gv0 K true) M7:=by
 intro H B x y dx dy d Q hb rx ry h k;unfold M7 at h;split at h
 ·rename_i hl
  cases h;exact⟨B,B,dx,dy,rx,ry,hl.1,hl.2,k _ H (Same.refl H) (by rw[X5,Bool.true_xor])⟩
 ·cases h
theorem cv0:Op2 K (λx y H Q=>rI0 (λi j=>.int (i+j)) x y H Q∨(∃i j,x=.str i/\y=.str j/\i.length+j.length<=sizeLine/\Q (.str (i++j)) H)∨be0 K x y H Q∨bq0 K x y H Q∨e40 K x y H Q) j6:=by
 intro H B x y dx dy d Q hb rx ry h k;cases dx<;>cases dy<;>simp only[j6] at h<;>try cases h
 ·rw[m9] at rx ry
  subst rx ry;exact .inl ⟨_,_,rfl,rfl,k _ H (Same.refl H) (by rw[m9])⟩
 ·split at h
  ·cases h
   rw[W0] at rx ry;subst rx ry;exact .inr (.inl ⟨_,_,rfl,rfl,by assumption,k _ H (Same.refl H) (by rw[W0])⟩)
  ·cases h
 ·split at h
  ·rename_i hz
   cases h;have ry0:=ry;have rx0:=rx;rw[W3] at rx ry;obtain⟨a,xs,rfl,q1,r1⟩:=rx;obtain⟨b,ys,rfl,q2,r2⟩:=ry
   by_cases he:xs=[]
   ·subst he
    have e:‹List D›=‹List D›:=rfl;have hn:=r1.length;simp at hn;have hn':=X2.mp hn.symm;subst hn';exact .inr (.inr (.inr (.inr ⟨a,b,ys,rfl,rfl,q1.to,q2.to,k _ H (Same.refl H) (by rw[List.nil_append];exact ry0)⟩)))
   ·refine .inr (.inr (.inr (.inl ⟨a,b,xs,ys,rfl,rfl,q1.to,q2.to,he,by rw[r1.length,r2.length];exact hz,λz=>?_,λz p hp=>k _ _ (Z9 hp) (rg0 hb hp (r1.append r2))⟩)))
    subst z;have hn:=r2.length;simp at hn;have hn':=X2.mp hn.symm;subst hn';exact k _ H (Same.refl H) (by rw[List.append_nil];exact rx0)
  ·cases h
 ·split at h
  ·rename_i hz
   cases h;rw[Y6] at rx ry;obtain⟨a,xs,rfl,q1,r1⟩:=rx;obtain⟨b,ys,rfl,q2,r2⟩:=ry;exact .inr (.inr (.inl ⟨a,b,xs,ys,rfl,rfl,q1.to,q2.to,by rw[r1.length,r2.length];exact hz,λp hp=>k _ _ (Z9 hp) (i00 hb hp (r1.append r2))⟩))
  ·cases h
theorem Y0(ha:PD X a ga)(hb:PD X b gb):PD X (.BinOp a .Add b pos) (o2 ga gb j6):=ta0 (Xl0.or (h70.or (Z00.or (ah0.or b40)))) cv0 ha hb
theorem i40{xs:List V}(h:Rps K H B ds xs):∀k:Nat,Rps K H B (List.replicate k ds).flatten (List.replicate k xs).flatten
 | 0=>by simp[o8]
 | k+1=>by
  rw[List.replicate_succ,List.replicate_succ,List.flatten_cons,List.flatten_cons];exact h.append (i40 h k)
theorem c60:Op2 K (λx y H Q=>rI CMul (λi j=>.int (i*j)) x y H Q∨bb0 x y H Q∨bj0 K x y H Q) M9:=by
 intro H B x y dx dy d Q hb rx ry h k;cases dx<;>cases dy<;>simp only[M9] at h<;>try cases h
 ·split at h
  ·cases h
   rw[m9] at rx ry;subst rx ry;exact .inl ⟨_,_,rfl,rfl,by assumption,k _ H (Same.refl H) (by rw[m9])⟩
  ·cases h
 ·split at h
  ·rename_i hz
   cases h;rw[W0] at rx;rw[m9] at ry;subst rx ry;exact .inr (.inl ⟨_,_,rfl,rfl,hz.1,hz.2.1,hz.2.2,k _ H (Same.refl H) (by rw[W0];rfl)⟩)
  ·cases h
 ·split at h
  ·rename_i hz
   cases h;rw[W3] at rx;rw[m9] at ry;subst ry;obtain⟨a,xs,rfl,q1,r1⟩:=rx;refine .inr (.inr ⟨a,xs,_,rfl,rfl,q1.to,λz=>hz.1 ?_,hz.2.1,hz.2.2.1,by rw[r1.length];exact hz.2.2.2,λp hp=>k _ _ (Z9 hp) (rg0 hb hp (i40 r1 _))⟩);subst z;have hn:=r1.length;simp at hn;exact X2.mp hn.symm
  ·cases h
theorem yj0(ha:PD X a ga)(hb:PD X b gb):PD X (.BinOp a .Mult b pos) (o2 ga gb M9):=ta0 (V20.or (Zm0.or Y80)) c60 ha hb
theorem dd0{xs:List D}(h:sIx xs.length 0 lo=0/\sIx xs.length xs.length hi=xs.length):cutD xs lo hi=xs:=by
 unfold cutD;rw[h.1,h.2];simp
theorem zf0{lo hi:Option Expr}{gl gh:Ds->Option (Option Int)}{p2:Pos}(he:PD X e g)(hl:PDO X lo gl)(hh:PDO X hi gh) :
  PD X (.Subscript e (.Slice lo hi none p2) pos) (J7 g gl gh):=.mk λB δ =>
 (cr0 (Yz0.or (Y90.or (V60.or ao0))) (he B δ) (hl B δ) (hh B δ)).imp fun σ H Q ⟨d,en,h,k⟩=>by
  unfold J7 at h;cases e1:g δ with
  | none=>rw[e1] at h;cases h
  | some x =>
   cases e2:gl δ with
   | none=>rw[e1,e2] at h;cases h
   | some l =>
    cases e3:gh δ with
    | none=>rw[e1,e2,e3] at h;cases h
    | some u =>
     rw[e1,e2,e3] at h;simp only[Option.bind_some] at h;refine⟨x,en,e1,λv H1 s1 r1=>⟨l,en.same s1,(by first|exact e2|rfl),λH2 s2=>⟨u,(en.same s1).same s2,(by first|exact e3|rfl),λH3 s3=>?_⟩⟩⟩;have S:=(s1.trans s2).trans s3;have r3:=(r1.same s2).same s3;have hb:=(((en.same s1).same s2).same s3).bad;cases x<;>simp only[slA] at h<;>try cases h
     ·split at h
      ·cases h
       rw[W0] at r3;exact .inl ⟨_,r3,by assumption,k _ H3 S (by rw[W0])⟩
      ·cases h
     ·have r4:=r3
      rw[W3] at r3;obtain⟨a,xs,rfl,q,r⟩:=r3;rename_i dxs
      by_cases hw:sIx dxs.length 0 l=0/\sIx dxs.length dxs.length u=dxs.length
      ·refine .inr (.inr (.inr ⟨a,xs,rfl,q.to,by rw[r.length,um0,um0];exact hw,k _ _ S ?_⟩))
       rw[dd0 hw];exact r4
      ·exact .inr (.inr (.inl ⟨a,xs,rfl,q.to,by rw[r.length,um0,um0];exact hw,λp hp=>k _ _ (S.trans (Z9 hp)) (rg0 hb hp (ie0 r l u))⟩))
     ·rw[Y6] at r3
      obtain⟨a,xs,rfl,q,r⟩:=r3;exact .inr (.inl ⟨a,xs,rfl,q.to,λp hp=>k _ _ (S.trans (Z9 hp)) (i00 hb hp (ie0 r l u))⟩)
theorem Yl0:FnR K (λxs H Q=>(∃i,xs=[.int i]/\Q (.int i) H)∨∃k,xs=[.bl k]/\Q (.int (if k then 1 else 0)) H) intOfD:=by
 intro H B xs ds d Q hb r h k;unfold intOfD at h;split at h
 ·cases h
  obtain⟨v,rfl,r1⟩:=y40 r;rw[m9] at r1;subst r1;exact .inl ⟨_,rfl,k _ H (Same.refl H) (by rw[m9])⟩
 ·cases h
  obtain⟨v,rfl,r1⟩:=y40 r;rw[X5] at r1;subst r1;exact .inr ⟨_,rfl,k _ H (Same.refl H) (by rw[m9])⟩
 ·cases h
end
end DL
namespace DL
open Spec PyProof.Rows
theorem Z7{gA:GA}(h:gA δ=some ds)(hl:ds.length<=sizeLine):m7 gA δ=some (.tup ds):=by
 unfold m7;rw[h,Option.bind_some,if_pos hl]
theorem lk0{gA:GA}(h:gA δ=some ds)(hl:ds.length<=sizeLine):W7 gA δ=some (.lst ds):=by
 unfold W7;rw[h,Option.bind_some,if_pos hl]
theorem ai0{n:Int}{d:D}(h:d∈R7 0 n):∃k:Nat,(k:Int)<n/\d=.int (k:Int):=by
 obtain⟨k,hk,rfl⟩:=A6.mp h;have:=C3.mp hk;exact⟨k,by omega,by rw[Int.zero_add]⟩
theorem a80(f:D->α)(n:Int):(R7 0 n).map f=(List.range n.toNat).map λ(k:Nat)=>f (.int (k:Int)):=by
 unfold R7;rw[List.map_map];have:n - 0=n:=by omega
 rw[this];refine N0 λk _=>?_
 show f (.int (0+(k:Int)))=_;rw[Int.zero_add]
theorem ym0(n:Int):(R7 0 n).length=n.toNat:=by unfold R7;simp
theorem Zg0{n:Int}{d:D}(h:(R7 0 n)[j]?=some d):j<n.toNat/\d=.int (j:Int):=by
 have hj:j<n.toNat:=by
  have:=(D0.mp h).1
  rwa [ym0] at this
 refine⟨hj,?_⟩;unfold R7 at h;rw[List.getElem?_map,List.getElem?_range (by simpa using hj)] at h;have:=B6 h;rw[← this];show D.int (0+(j:Int))=_;rw[Int.zero_add]
theorem yd0{gt:GB}{ge:GE}{n:Int}(h:Nat->D)(H:∀k:Nat,(k:Int)<n->∃δ',gN 0 (.int (k:Int)) δ=some δ'/\gt δ'=some true/\ge δ'=some (h k)) :
  Q4 (gN 0) gt ge δ (R7 0 n)=some ((List.range n.toNat).map h):=by
 rw[O1 (λd=>match d with|.int j=>h j.toNat|_=>.non) (λd hd=>by
  obtain⟨k,hk,rfl⟩:=ai0 hd;exact H k hk),a80]
 rfl
end DL
namespace DL
open Spec PyProof.Rows L2
section
variable{X:Cx}{a:Expr}
theorem q60(hm:X.mg x=none)(hv:bootBuiltins x=some (.type "list"))(ha:PD X e g)(hg:Gl X x:=by rfl)
  (hn:x ≠"__name__" := by decide) (hdb:(x==("__debug__" : Str))=false:=by decide) (he:starEach [e] X.env=(false,eval e X.env)::starEach [] X.env:=by rfl) (hpl:(backTo pos (starEach [] X.env)).any (·.1)=false:=by rfl) :
  PDF X (.Call (.Name x p) [e] [] pos) (oA (z9 g v6) wn0):=.mk λB δ=>(u80 l90 hg hm hv (J4 (ha B δ) y70 he) hn hdb he hpl).imp fun σ H Q ⟨d,en,h,k⟩=>by
 unfold oA z9 v6 at h;cases e1:g δ with
 | none=>rw[e1] at h;cases h
 | some x =>
  rw[e1] at h;simp only[Option.bind_some,Option.map_some] at h;refine⟨x,en,e1,λv H1 s1 r1=>?_⟩;cases x<;>simp only[wn0] at h<;>try cases h
  ·rw[W3] at r1
   obtain⟨q,xs,rfl,hq,rr⟩:=r1;exact⟨q,xs,rfl,.inr hq.to,λl hl=>k l _ (s1.free hl) (s1.trans (Z9 hl)) ⟨_,b8,rr.mono (Gr.fresh hl)⟩⟩
  ·rw[Y6] at r1
   obtain⟨q,xs,rfl,hq,rr⟩:=r1;exact⟨q,xs,rfl,.inl hq.to,λl hl=>k l _ (s1.free hl) (s1.trans (Z9 hl)) ⟨_,b8,rr.mono (Gr.fresh hl)⟩⟩
end
section
variable{X:Cx}
def FnN(P:Program)(w:World)(K:W.Frag)(mg:Str->Option Value)(base:Heap)(x:Str)(k:Nat)(ps:List Str)(f:List D->Option D):Prop :=
 ∃(fa:Addr) (fd:FuncData),FnOk P w K mg base CX0 k fa fd ps (spN K f)/\mg x=some (.ref fa)/\W.keepIn K (.ref fa)=true/\Binds K fd ps []
theorem sr0{k:Nat}{f:List D->Option D}(C:FnN X.prog X.w X.K X.mg X.base x k ps f)(hr:Room m X.A)(hk:k<=m)(ha:PDA X (e::es) gA)(hg:Gl X x:=by rfl)(hdb:(x==("__debug__" : Str))=false:=by decide)
  (he:starEach (e::es) X.env=(false,eval e X.env)::starEach es X.env:=by rfl) (hpl:(backTo pos (starEach es X.env)).any (·.1)=false:=by rfl):PDF X (.Call (.Name x p) (e::es) [] pos) (oA gA f):=by
 obtain⟨fa,fd,F,hm,kp,hb⟩:=C;exact .mk λB δ=>(rr0 (E:=E0) F (hr.mono hk) hg hm kp hb .nil mc0 (ha B δ) hdb he hpl).imp fun σ H Q h=>by
  obtain⟨d,en,h,k⟩:=h;unfold oA at h;cases e1:gA δ with
  | none=>rw[e1] at h;cases h
  | some ds =>
   rw[e1] at h;refine⟨ds,en,e1,λvs H1 s1 r1=>?_⟩;show spN X.K f (vs++[]) H1 Q E0;rw[List.append_nil];exact⟨B,ds,d,(en.same s1).bad,r1,h,λp H' hp s r=>k p H' (s1.free hp) (s1.trans s) r⟩
theorem U7{k:Nat}{f:List D->Option D}(C:FnN X.prog X.w X.K X.mg X.base x k ps f)(hr:Room m X.A)(hk:k<=m)(ha:PDA X (e::es) gA)(hg:Gl X x:=by rfl)(hdb:(x==("__debug__" : Str))=false:=by decide)
  (he:starEach (e::es) X.env=(false,eval e X.env)::starEach es X.env:=by rfl) (hpl:(backTo pos (starEach es X.env)).any (·.1)=false:=by rfl):PD X (.Call (.Name x p) (e::es) [] pos) (oA gA f):=(sr0 C hr hk ha hg hdb he hpl).pd
theorem R8(h:PDF X e g):PSD X (.Return (some e) pos) (U8 g):=.mk λH₀ B₀ δ pins s σ H D I ⟨r,en,e1,k⟩=>by
 unfold U8 at e1;obtain⟨B,b1,b2,env⟩:=en.ex;cases e2:g δ with
 | none=>rw[e2] at e1;cases e1
 | some d =>
  rw[e2] at e1;cases e1;exact mt0 (h B δ) pins s σ H D I ⟨d,env,e2,λp H' hp s' r=>k p H' (en.same.free hp) (en.same.trans s') (r.mono (λo h=>h) (Gr.less λa z=>z.imp (b1 a) id)).toL⟩
theorem ku0(i:Nat){px:Pos}(hN:X.N[i]?=some x:=by rfl)(hv:Vis X.env.scope x:=by first|exact Or.inl rfl|exact Or.inr (Or.inl rfl)|exact Or.inr (Or.inr rfl))(hd:(x==("__debug__" : Str))=false:=by decide)(hcd:(x==("__classdict__" : Str))=false:=by decide) :
  PSD X (.Return (some (.Name x px)) pos) (lb0 i):=.mk λH₀ B₀ δ pins s σ H D I ⟨r,en,e1,k⟩=>by
 unfold lb0 at e1;obtain⟨B,b1,b2,env⟩:=en.ex;split at e1
 ·rename_i d hi
  obtain⟨a,hs,hb,ro⟩:=env.at hi;cases e1;exact mt0 (yv0 (i:=i) hN hv hd hcd) pins s σ H D I ⟨_,hs,k a H (en.fr i d a hi hs) en.same (ro.mono (λo h=>h) (Gr.less λb z=>z.elim (b1 b) λq=>by rw[q];exact hb))⟩
 ·cases e1
end
end DL
namespace DL
@[simp] def rn0:List D->Option D
 | [.lst ds,.lst es]=>some (.tup ((ds.zip es).map λp=>.tup [p.1,p.2]))
 | _=>none
@[simp] def qm0:List D->Option D
 | [.lst ds]=>some (.lst ds.reverse)
 | _=>none
def hh0:List D->Option (List D)
 | [.lst ds,.lst es]=>some ((ds.zip es).map λp=>.tup [p.1,p.2])
 | _=>none
def y80(gA:GA):GA:=fun δ=>(gA δ).bind hh0
def xn0(ds:List D):List D:=(List.range ds.length).map λ(k:Nat)=>.tup [.int (k:Int),ds.getD k .non]
def fl0:List D->Option (List D)
 | [.lst ds]=>some (xn0 ds)
 | _=>none
def ra0(gA:GA):GA:=fun δ=>(gA δ).bind fl0
@[simp] def vc0:List D->Option D
 | [.dct (.inl ks) ds]=>some (.dct (.inl ks) ds)
 | _=>none
@[simp] def iv0:D->Option (List D)
 | .lst ds=>some ds
 | .tup ds=>some ds
 | _=>none
@[simp] def anyI(g:GE):GA:=fun δ=>(g δ).bind iv0
mutual
def tree:D->Bool
 | .lst _=>false
 | .dct _ _=>false
 | .tup ds=>trees ds
 | _=>true
def trees:List D->Bool
 | []=>true
 | d::ds=>tree d&&trees ds
end
def ye0(g:GE):GE:=fun δ=>(g (frz δ)).bind λd=>if tree d=true then some d else none
theorem va0{g:GE}{d:D}(h:g (frz δ)=some d)(ht:tree d=true):ye0 g δ=some d:=by
 unfold ye0;rw[h,Option.bind_some,if_pos ht]
theorem xi0{gA:GA}{n:Int}(h:gA δ=some [.int n])(h1:-(2 ^ 62)<=n)(h2:n<2 ^ 62):O2 gA δ=some (R7 0 n):=by
 unfold O2;rw[h,Option.bind_some];simp only[gw0];rw[if_pos ⟨h1,h2⟩]
theorem l40{g:GE}(h:g δ=some (.lst ds)):oA (z9 g v6) Y8 δ=some (.int (ds.length:Int)):=by
 rw[o5 (cons_of h rfl)];rfl
end DL
namespace RevL
open Spec PyProof.Rows
theorem he0:typeLookup (.type "list_reverseiterator") "__len__"=pure none:=by rw[typeLookup_type,builtinLookup_eq_fast];kernel_rfl
theorem c90:typeLookup (.type "list_reverseiterator") "__length_hint__"=pure (some (.builtin "list_reverseiterator.__length_hint__")):=by rw[typeLookup_type,builtinLookup_eq_fast];kernel_rfl
theorem ad0:isSubtype (.type "list_reverseiterator") (.type "list_reverseiterator")=pure true:=by rw[isSubtype_type];kernel_rfl
section
variable{w:World}{s:Shared}
variable{wr:List Addr}{G:Array GenState->Array GenState->Prop}{P:Nat->Value->Prop}{St:Nat->Shared->Prop}
theorem Z50(W:WalksS prog w A.in1 I fp wr G n P St)(hT:∀i s,St i s->s.TypeIs (.ref I) "list_reverseiterator")(C:Addr)(res:Value)(c0:Nat)(st:St 0 s)(hC:C∉fp)(hI:I∈fp)
  (gC:s.heap.get? C=some { cls:=.type "list",data:=.seq #[] c0 })
  (hR:∀s' acc' c',Moved (C::wr) G s s'->s'.heap.get? C=some { cls:=.type "list",dict:=none,data:=.seq acc' c',slots:=#[] }->ItemsOf P acc' n->R (.ok (.ret res)) s') (hn:n<=sizeLine) :
  wpAny (model prog w) A.in1 (Builtin.List.listExtendWith (.ref C) (.ref I) res)
   (λfin s'=>match fin with|.done f=>R (.ok f) s'|.again c'=>c'.quiet=true/\codeAny (model prog w) A c' R s') (λe s'=>R (.error e) s') s:=by
 have ne:C≠I:=λe=>hC (e▸hI)
 unfold Builtin.List.listExtendWith;refine A0 (E9 (hT 0 _ st) (by
  have q1:Builtin.List.listSameRef (.ref C) (.ref I)=false:=by simp[Builtin.List.listSameRef,ne]
  have q2:(Value.type "list_reverseiterator"==Value.type "list")=false:=by decide
  have q3:(Value.type "list_reverseiterator"==Value.type "tuple")=false:=by decide
  simp only[q1,q2,q3,Bool.or_false,Bool.false_eq_true,if_false];refine A0 (W.self 0 _ _ _ st (A0 (C7 (by
   unfold Builtin.List.listLengthHint;refine A0 (W1 (hT 0 _ st) he0 (by
    show wpAny _ A.in1 (specialOf (Value.ref I) (Str.ofString "__length_hint__")>>=_) _ _ _;refine A0 (W1 (hT 0 _ st) c90 ?_);refine A0 (k4 (hT 0 _ st) ad0 ?_);rw[if_neg (by decide)];dsimp only;rw[if_pos (by decide +kernel),if_neg (by decide)];refine A1 ?_;rw[if_neg (by decide +kernel)];refine A1 ⟨N1 PySem.F.plain_extend_loop _,?_⟩;exact codeAny_extend_loopS W hn _ hC _ n 0 _ _ _ rfl (C5 _) st gC (ItemsOf.nil P) λs' acc' c' m e hacc=>hR s' acc' c' m e hacc))))))))
theorem dw0(W:WalksS prog w A.in1 I fp wr G n P St)(hT:∀i s,St i s->s.TypeIs (.ref I) "list_reverseiterator")(C:Addr)(st:St 0 s)(hC:C∉fp)(hI:I∈fp)
  (gC:s.heap.get? C=some { cls:=.type "list",data:=.seq #[] })
  (hR:∀s' acc' c',Moved (C::wr) G s s'->s'.heap.get? C=some { cls:=.type "list",dict:=none,data:=.seq acc' c',slots:=#[] }->ItemsOf P acc' n->R (.ok (.ret .none)) s') (hn:n<=sizeLine) :
  wpAny (model prog w) A.in1 (Builtin.«list.__init__» ⟨[.ref C,.ref I],[]⟩)
   (λfin s'=>match fin with|.done f=>R (.ok f) s'|.again c'=>c'.quiet=true/\codeAny (model prog w) A c' R s') (λe s'=>R (.error e) s') s:=by
 show wpAny _ A.in1 (do let old ← Builtin.List.listItems (.ref C);Builtin.List.listUpdate (.ref C) (λ_=>#[]);letGo old.toList.reverse;Builtin.List.listExtendWith (.ref C) (.ref I) .none) _ _ s;refine A0 (by
  unfold Builtin.List.listItems;refine A0 (C6 gC rfl (A1 (by
   show wpAny _ A.in1 (updateSeq C (λ_=>#[])>>=λ_=>letGo (#[]:Array Value).toList.reverse>>=λ_=>Builtin.List.listExtendWith (.ref C) (.ref I) .none) _ _ s;have g2:=Y1 (Obj.mapSeq (λ_=>(#[]:Array Value))) gC rfl;have oth:∀b o,b≠C->s.heap.get? b=some o->(s.heap.update C (Obj.mapSeq (λ_=>(#[]:Array Value)))).get? b=some o:=λb o hb e=>(P4 _ _ (C0 hb)).trans e
   refine A0 (X0 gC rfl (A0 (K2 (Z50 W hT C .none _ (W.frame 0 s _ s.toks st (A2 _) λb hb o e=>oth b o (λh=>hC (h▸hb)) e) hC hI g2 (λs' acc' c' m e hacc=>?_) hn))));exact hR s' acc' c' (Moved.trans W.gtrans ((Moved.refl W.grefl).then_heap (A2 _) λb o hb e=>oth b o (λh=>hb (h▸A5)) e) m) e hacc))))
end
section
variable{w:World}{s:Shared}
variable{wr:List Addr}{G:Array GenState->Array GenState->Prop}{P:Nat->Value->Prop}{St:Nat->Shared->Prop}
theorem nz0{Q:Value->Shared->Prop}(W:WalksS prog w A.in1.in1 I fp wr G n P St)(hT:∀i s,St i s->s.TypeIs (.ref I) "list_reverseiterator")(st:St 0 s)(hfp:∀b∈fp,b<s.heap.objs.size)(hI:I∈fp)
  (hQ:∀s' acc' c',Moved (s.heap.objs.size::wr) G { s with heap:=s.heap.push { cls:=.type "list",data:=.seq #[] } } s' ->
   s'.heap.get? s.heap.objs.size=some { cls:=.type "list",dict:=none,data:=.seq acc' c',slots:=#[] }->ItemsOf P acc' n->Q (.ref s.heap.objs.size) s') (hn:n<=sizeLine) :
  wpAny (model prog w) A (call (.type "list") [.ref I]) Q E s:=by
 have hC:s.heap.objs.size∉fp:=λz=>D4 _ (hfp _ z)
 refine Af0 (Q₁:=λob s1=>ob=.ref s.heap.objs.size/\s1={ s with heap:=s.heap.push { cls:=.type "list",data:=.seq #[] } }) PySem.F.called_list (PySem.F.typeCall_list_1 _) PySem.F.entry_list_init (code_list_new _ ⟨rfl,rfl⟩) λob s1 h1=>?_
 obtain⟨rfl,rfl⟩:=h1;have gC:(s.heap.push { cls:=.type "list",data:=.seq #[] }).get? s.heap.objs.size=some { cls:=.type "list",data:=.seq #[] }:=B3 _ rfl;exact⟨⟨_,gC,rfl⟩,PySem.F.args_list_init_2 _ _,dw0 W hT _ (W.frame 0 s _ s.toks st (A2 _) λb _ o e=>A7 _ e) hC hI gC (λs' acc' c' m e hacc=>⟨rfl,hQ s' acc' c' m e hacc⟩) hn⟩
theorem m10{l:Addr}{its:Array Value}{Q:Value->Shared->Prop}(hh:A.handled=none)(hl:s.heap.IsList l its)(hz:its.size<=sizeLine)
  (h:∀(h':Heap) (tk c:Nat) (a:Addr),s.heap.objs.size<=a->h'.get? a=some { cls:=.type "list",dict:=none,data:=.seq its.reverse c,slots:=#[] }->(∀b o,s.heap.get? b=some o->h'.get? b=some o)->Q (.ref a) { s with heap:=h',toks:=tk }) :
  wpAny (model prog w) A (call (.type "reversed") [.ref l]) (λv s1=>wpAny (model prog w) A (call (.type "list") [v]) Q E s1) E s:=by
 refine call_reversed_list hl ?_;obtain⟨ol,gl,_,_⟩:=id hl;have ltl:l<s.heap.objs.size:=A3 gl;have hh2:A.in1.in1.handled=none:=by simp[hh]
 have Wk:=(Walks.listRev (prog:=prog) (w:=w) hh2 s.heap.objs.size l (A8 ltl) its).toS;refine nz0 Wk (λi s x=>x.2.1.typeIs) ⟨C5 _,⟨_,B3 _ rfl,rfl,by
  show Data.fields #[.ref l,rawInt ((its.size:Int) - 1)]=_;have z:(its.size:Int) - 1 - ((0:Nat):Int)=(its.size:Int) - 1:=by omega
  rw[z]⟩,hl.push _⟩ (λb hb=>?_) (by simp) (λs' acc' c' m e hacc=>?_) hz
 ·show b<(s.heap.push _).objs.size
  rw[Heap.size_push];simp only[List.mem_cons,List.not_mem_nil,or_false] at hb;rcases hb with rfl|rfl
  ·exact Ae0 _
  ·exact Ag0 ltl
 ·obtain⟨h',g',d',tk',os'⟩:=s'
  obtain rfl:g'=s.gens:=m.gens;obtain rfl:d'=s.drawn:=m.drawn;obtain rfl:os'=s.os:=m.os;have ea:acc'=its.reverse:=by
   apply Array.ext
   ·rw[hacc.1,Array.size_reverse]
   ·intro i h1 h2
    have q:its[its.size - 1 - i]?=some acc'[i]:=hacc.2 i acc'[i] (Y2 h1);have hi:i<its.size:=by rw[← hacc.1];exact h1
    rw[Array.getElem?_eq_getElem (by omega)] at q;rw[Array.getElem_reverse];exact(B6 q).symm
  subst ea;have hsz:(s.heap.push (revObj l ((its.size:Int) - 1))).objs.size=s.heap.objs.size+1:=Heap.size_push ..;refine h h' tk' c' _ ?_ e λb o eb=>?_
  ·show s.heap.objs.size<=(s.heap.push _).objs.size
   rw[Heap.size_push];exact k6 _
  ·have lb:=A3 eb
   refine m.heap b o ?_ (A7 _ (A7 _ eb));simp only[List.mem_cons,List.not_mem_nil,or_false,not_or];refine⟨?_,A8 lb⟩;show b≠(s.heap.push _).objs.size;rw[Heap.size_push];exact A8 (Ag0 lb)
end
end RevL
namespace DL
open Spec PyProof.Rows L2
theorem Rps.reverse:∀{ds:List D} {xs:List V},Rps K H B ds xs->Rps K H B ds.reverse xs.reverse
 | [],_,h=>by rw[o8] at h;subst h;simp[o8]
 | d::ds,_,h=>by
  rw[o6] at h;obtain⟨x,r,rfl,h1,h2⟩:=h;rw[List.reverse_cons,List.reverse_cons];exact Rps.snoc (Rps.reverse h2) h1
section
variable{X:Cx}
theorem jc0:bootBuiltins "reversed"=some (.type "reversed"):=by decide +kernel
theorem ag0:bootBuiltins "list"=some (.type "list"):=by decide +kernel
theorem Zh0(hc:X.calm=true)(hl:X.mg "list"=none)(hs:X.mg "reversed"=none)(he:PE X e te)(hgl:Gl X "list" := by rfl)(hgs:Gl X "reversed" := by rfl)
  (e1:starEach [.Call (.Name "reversed" p2) [e] [] pos2] X.env=(false,eval (.Call (.Name "reversed" p2) [e] [] pos2) X.env)::starEach [] X.env:=by rfl) (e2:starEach [e] X.env=(false,eval e X.env)::starEach [] X.env:=by rfl)
  (h1:(backTo pos (starEach [] X.env)).any (·.1)=false:=by rfl) (h2:(backTo pos2 (starEach [] X.env)).any (·.1)=false:=by rfl) :
  PE X (.Call (.Name "list" p) [.Call (.Name "reversed" p2) [e] [] pos2] [] pos) (fun σ H Q=>te σ H λv H'=>∃q xs,v=.ref q/\SqL X.K H' q xs/\∀l,H' l=none->Q (.ref l) (upd H' l (.lst xs.reverse))):=by
 intro pins s σ H Q I h;refine L8 (zq0 I hgl hl ag0 ?_ (by decide) (by decide));refine E1 ?_ e1 h1;rw[e1];show wpAny _ _ (spliced ((false,eval (.Call (.Name "reversed" p2) [e] [] pos2) X.env)::backTo pos (starEach [] X.env))) _ _ s;refine i7 ?_;refine L8 (zq0 I hgs hs jc0 ?_ (by decide) (by decide));refine E1 ?_ e2 h2;rw[e2];show wpAny _ _ (spliced ((false,eval e X.env)::backTo pos2 (starEach [] X.env))) _ _ s;refine i7 (thn (he pins s σ H _ I h) λu s1 ⟨v,H1,I1,r1,q,xs,ev,hq,k⟩=>i6 ?_);subst ev;obtain rfl:u=Value.ref q:=r1;obtain⟨its,rv,pl,hz⟩:=I1.list hq;have hlen:=rv.length;refine thn (RevL.m10 (I1.ok.hd hc) pl.isList (by rw[List.size_toArray,← hlen];exact hz) (Q:=EP X pins σ Q) (E:=X.xe) λh' tk c a ha ga hk=>?_) λv s2 hv=>i6 hv
 have hf:H1 a=none:=I1.hok.fresh ha;refine⟨.ref a,_,I1.laid (a:=a) (o:=.lst xs.reverse) (t':=tk) hk ha ?_,rfl,k a hf⟩;exact⟨by rw[List.length_reverse];exact hz,its.reverse,c,rv.reverse,by rw[ga];simp⟩
theorem dp0(hl:X.mg "list"=none)(hs:X.mg "reversed"=none)(he:PD X e g)(hc:X.calm=true:=by rfl)(hgl:Gl X "list" := by rfl)(hgs:Gl X "reversed" := by rfl)
  (e1:starEach [.Call (.Name "reversed" p2) [e] [] pos2] X.env=(false,eval (.Call (.Name "reversed" p2) [e] [] pos2) X.env)::starEach [] X.env:=by rfl) (e2:starEach [e] X.env=(false,eval e X.env)::starEach [] X.env:=by rfl)
  (h1:(backTo pos (starEach [] X.env)).any (·.1)=false:=by rfl) (h2:(backTo pos2 (starEach [] X.env)).any (·.1)=false:=by rfl) :
  PDF X (.Call (.Name "list" p) [.Call (.Name "reversed" p2) [e] [] pos2] [] pos) (oA (z9 g v6) qm0):=.mk λB δ =>
 (Zh0 hc hl hs (he B δ) hgl hgs e1 e2 h1 h2).imp fun σ H Q ⟨d,en,h,k⟩=>by
  unfold oA z9 v6 at h;cases e3:g δ with
  | none=>rw[e3] at h;cases h
  | some x =>
   rw[e3] at h;simp only[Option.bind_some,Option.map_some] at h;cases x<;>simp only[qm0] at h<;>try cases h
   refine⟨_,en,e3,λv H1 s1 r=>?_⟩;rw[Y6] at r;obtain⟨q,xs,rfl,hq,rr⟩:=r;exact⟨q,xs,rfl,hq.to,λl hl=>k l _ (s1.free hl) (s1.trans (Z9 hl)) ⟨_,b8,rr.reverse.mono (Gr.fresh hl)⟩⟩
end
theorem uk0[DecidableEq κ]:∀{ks:List κ} {ds:List D} {xs:List V} {q:κ},Rps K H B ds xs->(∀d,yz0 ks ds q=some d->∃x,xo0 (ks.zip xs) q=some x/\Rp K H B d x)/\(ks.length=xs.length->(xo0 (ks.zip xs) q).isSome=O3 ks q)
 | [],ds,xs,q,h=>by
  refine⟨λd e=>?_,λ_=>?_⟩
  ·unfold yz0 at e;cases e
  ·rfl
 | k::ks,[],xs,q,h=>by
  rw[o8] at h;subst h;refine⟨λd e=>?_,λz=>?_⟩
  ·unfold yz0 at e;cases e
  ·simp at z
 | k::ks,d::ds,xs,q,h=>by
  rw[o6] at h;obtain⟨x,r,rfl,h1,h2⟩:=h;obtain⟨i1,i2⟩:=uk0 (ks:=ks) (q:=q) h2
  by_cases e:k=q
  ·subst e
   refine⟨λd' e'=>?_,λ_=>?_⟩
   ·unfold yz0 at e'
    rw[if_pos rfl] at e';cases e';exact⟨x,vl0 rfl,h1⟩
   ·rw[List.zip_cons_cons,vl0 rfl]
    unfold O3;simp
  ·refine⟨λd' e'=>?_,λz=>?_⟩
   ·unfold yz0 at e'
    rw[if_neg e] at e';rw[List.zip_cons_cons,vt0 e];exact i1 d' e'
   ·rw[List.zip_cons_cons,vt0 e,i2 (by simpa using z)]
    unfold O3;simp[e]
theorem jq0[DecidableEq κ]:∀{ks:List κ} {xs:List V} {q:κ},ks.length=xs.length->((ks.zip xs).any λkv=>decide (kv.1=q))=O3 ks q
 | [],_,_,_=>rfl
 | k::ks,[],_,h=>by simp at h
 | k::ks,x::xs,q,h=>by
  rw[List.zip_cons_cons,List.any_cons,jq0 (by simpa using h)];rfl
theorem jf0[DecidableEq κ]{ks:List κ}{xs:List V}{q:κ}{v:V}(h:ks.length=xs.length):∃ys,putK (ks.zip xs) q v=(N5 ks q).zip ys/\(N5 ks q).length=ys.length/\(O3 ks q=true->ys=(ks.zip xs).map λp=>if p.1=q then v else p.2)/\(O3 ks q=false->ys=xs++[v]):=by
 unfold putK N5;rw[jq0 h];cases hk:O3 ks q with
 | true =>
  rw[if_pos rfl,if_pos rfl];refine⟨(ks.zip xs).map λp=>if p.1=q then v else p.2,?_,by simp[h],λ_=>rfl,λz=>by cases z⟩;clear hk
  induction ks generalizing xs with
  | nil=>rfl
  | cons k ks ih =>
   cases xs with
   | nil=>simp at h
   | cons x xs =>
    rw[List.zip_cons_cons,List.map_cons,List.map_cons,List.zip_cons_cons,ih (by simpa using h)]
    by_cases e:k=q<;>simp[e]
 | false =>
  rw[if_neg (by simp),if_neg (by simp)];refine⟨xs++[v],?_,by simp[h],λz=>(by cases z),λ_=>rfl⟩;rw[List.zip_append h];rfl
theorem td0[DecidableEq κ]{q:κ}{d:D}{v:V}(hv:Rp K H B d v):∀{ks:List κ} {ds:List D} {xs:List V},Rps K H B ds xs->Rps K H B ((ks.zip ds).map λp=>if p.1=q then d else p.2) ((ks.zip xs).map λp=>if p.1=q then v else p.2)
 | [],_,_,_=>by simp[o8]
 | k::ks,[],xs,h=>by rw[o8] at h;subst h;simp[o8]
 | k::ks,d'::ds,xs,h=>by
  rw[o6] at h;obtain⟨x,r,rfl,h1,h2⟩:=h;rw[List.zip_cons_cons,List.zip_cons_cons,List.map_cons,List.map_cons,o6];refine⟨_,_,rfl,?_,td0 hv h2⟩
  by_cases e:k=q
  ·simp only[e,if_true];exact hv
  ·simp only[e,if_false];exact h1
section
variable{X:Cx}{a:Expr}
theorem qq0{d:D}{k:V8}{v:V}(h:yo0 d=some k)(r:Rp K H B d v):v=kV k:=by
 cases d<;>simp[yo0] at h
 ·subst h;rw[m9] at r;subst r;rfl
 ·subst h;rw[W0] at r;subst r;rfl
theorem dh0:∀{ds:List D} {ks:List V8} {xs:List V},sp0 ds=some ks->Rps K H B ds xs->xs=ks.map kV
 | [],ks,xs,h,r=>by cases h;rw[o8] at r;exact r
 | d::ds,ks,xs,h,r=>by
  unfold sp0 at h;rw[o6] at r;obtain⟨x,r',rfl,h1,h2⟩:=r;cases e1:yo0 d with
  | none=>rw[e1] at h;cases h
  | some k =>
   cases e2:sp0 ds with
   | none=>rw[e1,e2] at h;cases h
   | some l =>
    rw[e1,e2] at h;cases h;rw[qq0 e1 h1,dh0 e2 h2];rfl
theorem kd0{d:D}{k:List V8}{v:V}(h:xp0 d=some k)(r:Rp K H B d v):∃b,v=.ref b/\H b=some (.tup (k.map kV)):=by
 cases d<;>simp only[xp0] at h<;>try cases h
 rw[W3] at r;obtain⟨a,xs,rfl,q,rr⟩:=r;exact⟨a,rfl,by rw[← dh0 h rr];exact q.2⟩
theorem jz0(hu:X.A.units+1<cLine)(ha:PD X a ga)(hb:PD X b gb)(hs:dn0 b:=by exact λ_ _=>rfl):PD X (.Subscript a b pos) (o2 ga gb wd0):=.mk λB δ=>(Z20 hu (ha B δ) (hb B δ) hs).imp fun σ H Q ⟨d,en,h,k⟩=>by
 unfold o2 at h;cases e1:ga δ with
 | none=>rw[e1] at h;cases h
 | some x =>
  cases e2:gb δ with
  | none=>rw[e1,e2] at h;cases h
  | some y =>
   rw[e1,e2] at h;simp only[Option.bind_some] at h;refine⟨x,en,e1,λv1 H1 s1 r1=>⟨y,en.same s1,e2,λv2 H2 s2 r2=>?_⟩⟩;cases x<;>simp only[wd0] at h<;>try cases h
   rename_i ks ds;have r1:=r1.same s2;cases ks with
   | inl ks =>
    simp only at h;cases e3:yo0 y with
    | none=>rw[e3] at h;cases h
    | some q =>
     rw[e3] at h;simp only[Option.bind_some] at h;rw[sx0] at r1;obtain⟨p,xs,rfl,_,hp,hl,rr⟩:=r1;obtain⟨v,hv,rv⟩:=(uk0 rr).1 d h;have:=qq0 e3 r2;subst this;exact⟨p,v,rfl,by rw[← hv];exact DGet.k hp,k v H2 (s1.trans s2) rv⟩
   | inr ks =>
    simp only at h;cases e3:xp0 y with
    | none=>rw[e3] at h;cases h
    | some q =>
     rw[e3] at h;simp only[Option.bind_some] at h;rw[il0] at r1;obtain⟨p,xs,rfl,_,hp,hl,rr⟩:=r1;obtain⟨v,hv,rv⟩:=(uk0 rr).1 d h;obtain⟨b,rfl,hb⟩:=kd0 e3 r2;exact⟨p,v,rfl,by rw[← hv];exact DGet.t hp hb,k v H2 (s1.trans s2) rv⟩
theorem vq0(hu:X.A.units+1<cLine)(ha:PD X a ga)(hb:PD X b gb)(hm:behindInMarks .NotIn b=false:=by first|rfl|with_unfolding_all rfl):PTD X (.Compare a [.NotIn] [b] pos) (ob (o2 ga gb (T4 true))):=.mk λB δ=>(Wt0 (e90 hu (ha B δ) (hb B δ)) hm).imp fun σ H Q ⟨t,en,h,k⟩=>by
 unfold ob o2 at h;cases e1:ga δ with
 | none=>rw[e1] at h;cases h
 | some x =>
  cases e2:gb δ with
  | none=>rw[e1,e2] at h;cases h
  | some y =>
   rw[e1,e2] at h;simp only[Option.bind_some] at h;refine⟨x,en,e1,λv1 H1 s1 r1=>⟨y,en.same s1,e2,λv2 H2 s2 r2=>?_⟩⟩;cases y<;>simp only[T4] at h<;>try cases h
   rename_i ks ds;cases ks with
   | inl ks =>
    simp only at h;cases e3:yo0 x with
    | none=>rw[e3] at h;cases h
    | some q =>
     rw[e3] at h;simp only[Option.map_some,Option.bind_some,asB,Bool.true_xor] at h;cases h;rw[sx0] at r2;obtain⟨p,xs,rfl,_,hp,hl,rr⟩:=r2;have:=qq0 e3 r1;subst this;refine⟨p,_,rfl,DGet.k hp,_,rfl,?_⟩;rw[(uk0 rr).2 hl];exact k H2 (s1.trans s2)
   | inr ks =>
    simp only at h;cases e3:xp0 x with
    | none=>rw[e3] at h;cases h
    | some q =>
     rw[e3] at h;simp only[Option.map_some,Option.bind_some,asB,Bool.true_xor] at h;cases h;rw[il0] at r2;obtain⟨p,xs,rfl,_,hp,hl,rr⟩:=r2;obtain⟨b,rfl,hb⟩:=kd0 e3 (r1.same s2);refine⟨p,_,rfl,DGet.t hp hb,_,rfl,?_⟩;rw[(uk0 rr).2 hl];exact k H2 (s1.trans s2)
theorem vg0(i:Nat)(hu:X.A.units+1<cLine)(h:PD X e g)(hN:X.N[i]?=some x:=by rfl)(hv:Vis X.env.scope x:=by first|exact Or.inl rfl|exact Or.inr (Or.inl rfl)|exact Or.inr (Or.inr rfl))(hd:(x==("__debug__" : Str))=false:=by decide)(hcd:(x==("__classdict__" : Str))=false:=by decide)
  (ha:∀v,assign (.Subscript (.Name x px) e pos) X.env v=(do
   let ov ← holding [v] (eval (.Name x px) X.env)
   let iv ← holding [v,ov] (eval e X.env)
   standAt pos
   holding [v,ov,iv] (setItem ov iv v)
   release [v,ov,iv] []):=by intro _;rfl):PTG X (.Subscript (.Name x px) e pos) (putAt i g):=.mk λH₀ B₀ d δ pins s σ H v u Q I r ⟨δ',en,e1,k⟩=>by
 unfold putAt at e1;obtain⟨B,b1,b2,env,rv⟩:=en.ex;cases e2:py0 i δ with
 | none=>rw[e2] at e1;cases e1
 | some pr =>
  cases e3:g δ with
  | none=>rw[e2,e3] at e1;cases e1
  | some dk =>
   rw[e2,e3] at e1;simp only[Option.bind_some] at e1;cases e4:yo0 dk with
   | none=>rw[e4] at e1;cases e1
   | some q =>
    rw[e4] at e1;simp only[Option.bind_some] at e1;split at e1
    ·rename_i hz
     cases e1;have hi:=Zl0 e2;obtain⟨a,hs',hb,xs,hx,hl,rx⟩:=env.at hi;have hl:pr.1.length=xs.length:=hl;refine fx0 (yv0 (i:=i) hN hv hd hcd) (h B δ) (set_dict hu) ha pins s σ H v u Q I r ⟨_,hs',_,env,e3,λiv H1 s1 r1=>?_⟩;have:=qq0 e4 r1;subst this;obtain⟨ys,hy,hyl,hy1,hy2⟩:=jf0 (q:=q) (v:=v) hl;refine⟨a,_,rfl,DPut.k (s1 _ _ hx) (by rw[List.length_zip,← hl,Nat.min_self];exact hz),?_⟩;have rr:Rps X.K H1 B (K5 pr.1 pr.2 q d) ys:=by
      unfold K5;cases hk:O3 pr.1 q with
      | true=>rw[if_pos rfl,hy1 hk];exact td0 (rv.same s1) (rx.same s1)
      | false=>rw[if_neg (by simp),hy2 hk];exact Rps.snoc (rx.same s1) (rv.same s1)
     rw[hy];have env2:Env X.K (upd H1 a (.dK ((N5 pr.1 q).zip ys))) B σ (δ.set i (.ow (.dct (.inl (N5 pr.1 q)) (K5 pr.1 pr.2 q d)))):=(env.same s1).mut hi hs' ⟨ys,b8,hyl,rr.mono (Gr.own hb)⟩;exact k _ _ (en.s.mut s1 b1 b2 hi hs' env2)
    ·cases e1
end
end DL
namespace L2
open Spec PyProof.Rows
structure FunV(K:W.Frag)(x qual:Str)(st:Stmt)(f:Addr)(fd:FuncData)(dV:Value):Prop where
 ex:∃(oc:Value) (od:Option Addr) (kV doc pm:Value) (an:Option Addr) (cdv ct:Value) (osl:Array (Option Value)),
  fd=W.fnOf x qual (S9 st) (W6 st) (t6 st) dV kV doc pm an cdv ct/\K.lookup f=some ⟨oc,od,.func fd,osl⟩/\W.codeIn K cdv qual=true
 kp:W.keepIn K (.ref f)=true
section
variable{P:Program}{w:World}
theorem FunV.ok{f:Addr}{fd:FuncData}{k:Nat}(F:FunV K x qual st f fd dV)(S:FnScope N ps (t6 st))(len:∀vs H Q E,sp vs H Q E->vs.length=ps.length)
  (hbody:∀(cdv:Value) (A:Around) (outer:List Env) (s:Shared) (H:Hp) (vs:List V) (Q:VK) (E:XK),Room k (A.deeper (envOfC qual (t6 st) s.heap.objs.size f cdv))->sp vs H Q E ->
   ∃t,PSs (ws0 CX0 P w K mg base N qual (t6 st) f cdv A outer s H E).nox (W6 st) t/\t { nx:=λ_ H'=>Q .non H',rt:=Q } (start N vs) H):FnOk P w K mg base CX0 (k+1) f fd ps sp:=by
 obtain⟨oc,od,kV,doc,pm,an,cdv,ct,osl,rfl,lk,hcd⟩:=F.ex;refine bv0 lk hcd S len λA outer s H vs Q E hr hsp=>?_
 obtain⟨t,h,q⟩:=hbody cdv A outer s H vs Q E hr hsp;exact⟨t,h.nox,q⟩
theorem jo0{f:Addr}{kV:Value}(l:K.lookup f=some ⟨oc,od,.func (W.fnOf x qual (S9 st) (W6 st) (t6 st) dV kV doc pm an cdv ct),osl⟩)
  (c:W.codeIn K cdv qual=true) (k:W.keepIn K (.ref f)=true):FunV K x qual st f (W.fnOf x qual (S9 st) (W6 st) (t6 st) dV kV doc pm an cdv ct) dV:=⟨⟨oc,od,kV,doc,pm,an,cdv,ct,osl,rfl,l,c⟩,k⟩
end
end L2
namespace DL
open Spec PyProof.Rows L2
section
variable{P:Program}{w:World}
theorem Tn0{fd:FuncData}{k:Nat}{f:List D->Option D}{G:Ds->Option Res}(F:FunV K x qual st fa fd dV)(S:FnScope N ps (t6 st))
  (body:∀(cdv:Value) (A:Around) (outer:List PySem.Env) (s:Shared) (H:Hp) (E:XK),Room k (A.deeper (envOfC qual (t6 st) s.heap.objs.size fa cdv))->PSsD (ws0 CX0 P w K mg base N qual (t6 st) fa cdv A outer s H E).nox (W6 st) G)
  (hf:∀ds d,f ds=some d->ds.length=ps.length/\(G (W4 N ds)=some (.rt d)∨(d=.non/\∃δ,G (W4 N ds)=some (.nx δ))∨G (W4 N ds)=some (.rf d)/\isL d=false)) :
  FnOk P w K mg base CX0 (k+1) fa fd ps (spD K f):=by
 refine F.ok S (λvs H Q E ⟨B,ds,d,_,r,h,_⟩=>?_) (λcdv A outer s H vs Q E hr ⟨B,ds,d,hb,r,h,q⟩=>?_)
 ·rw[r.length];exact(hf ds d h).1
 ·refine⟨_,body cdv A outer s H E hr H B (W4 N ds),?_⟩
  have en:EnvS K H B H (L2.start N vs) (W4 N ds):=by
   refine⟨Same.refl H,⟨B,λ_ z=>z,λ_ z=>.inl z,⟨?_,hb,λi j a ds' es h1 _ _ _=>(zs0 h1).elim⟩⟩,λi ds' a h1 _=>(zs0 h1).elim,hb⟩;unfold L2.start W4;rw[r.length];exact Pd.app (xh0 (N:=N) r) (u40 _)
  rcases (hf ds d h).2 with e|⟨rfl,δ,e⟩|⟨e,hn⟩
  ·exact⟨_,en,e,λv H' s' r'=>q v H' s' r'⟩
  ·exact⟨_,en,e,fun σ' H' en'=>q .non H' en'.same (by rw[V6])⟩
  ·exact⟨_,en,e,λp H' hp s' r'=>q _ H' s' ((r'.toO hn).rp (λa z=>.inl z) (λz=>hb p z hp))⟩
theorem T10{fd:FuncData}{k:Nat}{f:List D->Option D}{G:Ds->Option Res}(F:FunV K x qual st fa fd dV)(S:FnScope N ps (t6 st))
  (body:∀(cdv:Value) (A:Around) (outer:List PySem.Env) (s:Shared) (H:Hp) (E:XK),Room k (A.deeper (envOfC qual (t6 st) s.heap.objs.size fa cdv))->PSsD (ws0 CX0 P w K mg base N qual (t6 st) fa cdv A outer s H E).nox (W6 st) G)
  (hf:∀ds d,f ds=some d->ds.length=ps.length/\G (W4 N ds)=some (.rf d)/\isL d=false) :
  FnOk P w K mg base CX0 (k+1) fa fd ps (spN K f):=by
 refine F.ok S (λvs H Q E ⟨B,ds,d,_,r,h,_⟩=>?_) (λcdv A outer s H vs Q E hr ⟨B,ds,d,hb,r,h,q⟩=>?_)
 ·rw[r.length];exact(hf ds d h).1
 ·refine⟨_,body cdv A outer s H E hr H B (W4 N ds),?_⟩
  have en:EnvS K H B H (L2.start N vs) (W4 N ds):=by
   refine⟨Same.refl H,⟨B,λ_ z=>z,λ_ z=>.inl z,⟨?_,hb,λi j a ds' es h1 _ _ _=>(zs0 h1).elim⟩⟩,λi ds' a h1 _=>(zs0 h1).elim,hb⟩;unfold L2.start W4;rw[r.length];exact Pd.app (xh0 (N:=N) r) (u40 _)
  exact⟨_,en,(hf ds d h).2.1,λp H' hp s' r'=>q p H' hp s' (r'.toO (hf ds d h).2.2)⟩
end
section
variable{X:Cx}{a:Expr}
def Te0(P:Program)(w:World)(K:W.Frag)(mg:Str->Option Value)(base:Heap)(x:Str)(k:Nat)(ps:List Str)(f:List D->Option D)(dd:List D):Prop :=
 ∃(fa:Addr) (fd:FuncData) (us:List Value) (vs:List V),FnOk P w K mg base CX0 k fa fd ps (spN K f)/\mg x=some (.ref fa)/\W.keepIn K (.ref fa)=true/\Binds K fd ps us/\Vals vs us/\∀H B,Rps K H B dd vs
def cd0(P:Program)(w:World)(K:W.Frag)(mg:Str->Option Value)(base:Heap)(x:Str)(k:Nat)(ps:List Str)(f:List D->Option D)(dd:List D):Prop :=
 ∃(fa:Addr) (fd:FuncData) (us:List Value) (vs:List V),FnOk P w K mg base CX0 k fa fd ps (spD K f)/\mg x=some (.ref fa)/\W.keepIn K (.ref fa)=true/\Binds K fd ps us/\Vals vs us/\∀H B,Rps K H B dd vs
theorem fb0{k:Nat}{f:List D->Option D}{dd:List D}(C:cd0 X.prog X.w X.K X.mg X.base x k ps f dd)(hr:Room m X.A)(hk:k<=m)(ha:PDA X (e::es) gA)(hg:Gl X x:=by rfl)(hdb:(x==("__debug__" : Str))=false:=by decide)
  (he:starEach (e::es) X.env=(false,eval e X.env)::starEach es X.env:=by rfl) (hpl:(backTo pos (starEach es X.env)).any (·.1)=false:=by rfl):PD X (.Call (.Name x p) (e::es) [] pos) (oA gA λds=>f (ds++dd)):=by
 obtain⟨fa,fd,us,dvs,F,hm,kp,hb,hd,hr'⟩:=C;exact .mk λB δ=>(rr0 (E:=E0) F (hr.mono hk) hg hm kp hb hd mc0 (ha B δ) hdb he hpl).imp fun σ H Q h=>by
  obtain⟨d,en,h,k⟩:=h;unfold oA at h;cases e1:gA δ with
  | none=>rw[e1] at h;cases h
  | some ds =>
   rw[e1] at h;refine⟨ds,en,e1,λvs H1 s1 r1=>?_⟩;exact⟨B,ds++dd,d,(en.same s1).bad,r1.append (hr' H1 B),h,λv H' s r=>k v H' (s1.trans s) r⟩
theorem xb0{sc scope:Scope}{elt iter tg:Expr}{ifs:List Expr}{N N':List Str}{n:Nat}{caps:List Nat}{gi:Ds->Option (List D)}{idx:List Nat}{f:D->Ds->Option Ds}{gt:Ds->Option Bool}{ge:Ds->Option D}
  (ok:CompOk sc scope N N' n caps) (hidx:∀j∈idx,j<n) (hi:PID X tg iter gi)
  (hg:∀cl s H ex,PGD (X8 X scope cl N' s H ex) tg idx f) (ht:∀cl s H ex,PFD (X8 X scope cl N' s H ex) ifs gt) (he:∀cl s H ex,PD (X8 X scope cl N' s H ex) elt ge)
  (hc:X.calm=true:=by rfl) (hsc:X.env.scope=sc:=by rfl) (hN:X.N=N:=by rfl) (hs:∀x,foldedSetIterable iter X.env x=pure x:=by intro _;rfl) :
  PDF X (.ListComp elt [⟨tg,iter,ifs,0⟩] scope pos) (o9 n caps gi f gt ge):=kn0 hc hsc (hN▸ok) hidx hi hg ht he hs
theorem fj0{d:D}{v:V}(h:flat d=true)(r:Rp K H B d v):wa0 v=true/\∀e u,flat e=true->Rp K H B e u->eqV v u=eqF d e:=by
 cases d<;>simp[flat] at h
 ·rw[V6] at r;subst r
  refine⟨rfl,λe u he ru=>?_⟩;cases e<;>simp[flat] at he<;>simp only[V6,X5,m9,W0] at ru<;>subst ru<;>rfl
 ·rw[X5] at r;subst r
  refine⟨rfl,λe u he ru=>?_⟩;cases e<;>simp[flat] at he<;>simp only[V6,X5,m9,W0] at ru<;>subst ru<;>rfl
 ·rw[m9] at r;subst r
  refine⟨rfl,λe u he ru=>?_⟩;cases e<;>simp[flat] at he<;>simp only[V6,X5,m9,W0] at ru<;>subst ru<;>rfl
 ·rw[W0] at r;subst r
  refine⟨rfl,λe u he ru=>?_⟩;cases e<;>simp[flat] at he<;>simp only[V6,X5,m9,W0] at ru<;>subst ru<;>rfl
theorem fn0{d:D}{v:V}(h:flat d=true)(r:Rp K H B d v):∀{ds:List D} {xs:List V},ds.all flat=true->Rps K H B ds xs->xs.all wa0=true/\inV v xs=ds.any λy=>eqF y d
 | [],_,_,rs=>by rw[o8] at rs;subst rs;exact⟨rfl,rfl⟩
 | e::ds,_,ha,rs=>by
  rw[o6] at rs;obtain⟨x,t,rfl,r1,r2⟩:=rs;rw[List.all_cons,Bool.and_eq_true] at ha;obtain⟨i1,i2⟩:=fn0 h r ha.2 r2;obtain⟨f1,f2⟩:=fj0 ha.1 r1;refine⟨by rw[List.all_cons,f1,i1];rfl,?_⟩;unfold inV at i2 ⊢;rw[List.any_cons,List.any_cons,f2 d v h r,i2]
theorem sm0(neg:Bool):Op2 K (rIn K neg) (J9 neg):=by
 intro H B x y dx dy d Q hb rx ry h k;have key:∀(ds:List D) (xs:List V),Rps K H B ds xs->flat dx=true/\ds.all flat=true->d=.bl (xor neg (ds.any λy=>eqF y dx))->∀p,y=.ref p->(SqL K H p xs∨SqT K H p xs)->rIn K neg x y H Q:=by
  intro ds xs rs hf hd p hp hq;obtain⟨f1,f2⟩:=fn0 hf.1 rx hf.2 rs;refine⟨p,xs,hp,hq,(fj0 hf.1 rx).1,f1,k _ H (Same.refl H) ?_⟩;rw[hd,X5,f2];cases neg<;>simp
 cases dy<;>simp only[J9] at h<;>try cases h
 ·split at h
  ·rename_i hf
   have hd:=(B6 h).symm;rw[W3] at ry;obtain⟨p,xs,e,q,rs⟩:=ry;exact key _ xs rs hf hd p e (.inr q.to)
  ·cases h
 ·split at h
  ·rename_i hf
   have hd:=(B6 h).symm;rw[Y6] at ry;obtain⟨p,xs,e,q,rs⟩:=ry;exact key _ xs rs hf hd p e (.inl q.to)
  ·cases h
end
theorem Yc0{X:Cx}{tg:Expr}(h:PD X e g):PID X tg e (anyI g):=.mk λB δ pins s σ H R I ⟨items,en,e1,k⟩=>by
 unfold anyI at e1;cases e2:g δ with
 | none=>rw[e2] at e1;cases e1
 | some d =>
  rw[e2] at e1;simp only[Option.bind_some] at e1;cases d<;>simp only[iv0] at e1<;>try cases e1
  ·exact(xd0 (tg:=tg) h) B δ pins s σ H R I ⟨_,en,by unfold tupI;rw[e2];rfl,k⟩
  ·exact(U9 (tg:=tg) h) B δ pins s σ H R I ⟨_,en,by unfold V4;rw[e2];rfl,k⟩
end DL
namespace ZipL
open Spec PyProof.Rows
abbrev IsZ(h:Heap)(z TI TO a:Addr)(f:Bool):Prop :=
 h.get? z=some { cls:=.type "zip",dict:=none,data:=.fields #[rawInt a,.bool f,.bool false,.ref TI,.ref TO],slots:=#[] }
section
variable{w:World}{s:Shared}
theorem alive{o:Obj}{Q:Option Obj->Shared->Prop}(ho:s.heap.get? a=some o)(h:Q (some o) s):wpAny (model prog w) A (loadIfAlive a) Q E s:=by
 have h':Q (s.heap.get? a) s:=by rw[ho];exact h
 exact λ_ _ _=>h'
theorem kp0{TI TO:Addr}{f:Bool}{Q:Bool->Shared->Prop}(hz:IsZ s.heap z TI TO a f)(ha:s.heap.get? a=some oa)
  (hQ:∀h',IsZ h' z TI TO a true->Heap.SameBut z s.heap h'->Q false { s with heap:=h' }):wpAny (model prog w) A (Builtin.SmallTypes.ownedTupleIsFree (.ref z)) Q E s:=by
 unfold Builtin.SmallTypes.ownedTupleIsFree;refine A0 (B4 hz rfl (x:=rawInt a) rfl ?_);show wpAny _ _ (loadIfAlive ((a:Int).toNat)>>=_) _ _ _;rw[Int.toNat_natCast];refine A0 (alive ha ?_);simp only[Option.isNone_some,Bool.false_eq_true,if_false];refine A0 (B4 hz rfl (x:=.bool f) rfl ?_);cases f with
 | true =>
  rw[if_neg (show ¬((Value.bool true != Value.bool true)=true) from B0)];exact A1 (hQ _ hz (Heap.SameBut.refl _ _))
 | false =>
  rw[if_pos (show (Value.bool false != Value.bool true)=true from rfl)];exact A0 (D5 hz (by simp) λh3 he3 hs3=>A1 (hQ h3 he3 hs3))
theorem b50{TI TO a:Addr}{f:Bool}{oa:Obj}{k1 k2:Nat}{xs ys:Array Value}{x y:Value}{Q:Value->Shared->Prop}(D:ZipApart z TI TO i1 i2 l1 l2)
  (hz:IsZ s.heap z TI TO a f) (ha:s.heap.get? a=some oa) (hTI:IsPair s.heap TI (.ref i1) (.ref i2))
  (h1:s.heap.IsListIter i1 l1 k1) (h2:s.heap.IsListIter i2 l2 k2) (hl1:s.heap.IsList l1 xs) (hl2:s.heap.IsList l2 ys) (hx:xs[k1]?=some x) (hy:ys[k2]?=some y)
  (hQ:∀h',IsZ h' z TI TO a true->h'.IsListIter i1 l1 (k1+1)->h'.IsListIter i2 l2 (k2+1)->IsPair h' s.heap.objs.size x y->h'.objs.size=s.heap.objs.size+1 ->
   (∀c o,c≠z->c≠i1->c≠i2->s.heap.get? c=some o->h'.get? c=some o)->Q (.ref s.heap.objs.size) { s with heap:=h' }) :
  wpAny (model prog w) A (Builtin.«zip.__next__» ⟨[.ref z],[]⟩) (λfin s'=>∃v,fin=.done (.ret v)/\Q v s') E s:=by
 show wpAny _ _ (field (.ref z) 2>>=_) _ _ _;refine A0 (B4 hz rfl (x:=.bool false) rfl ?_);show wpAny _ _ (field (.ref z) 3>>=_) _ _ _;refine A0 (B4 hz rfl (x:=.ref TI) rfl ?_);refine A0 (C6 hTI rfl ?_);show wpAny _ _ (Builtin.SmallTypes.ownedTupleIsFree (.ref z)>>=_) _ _ _;refine A0 (kp0 hz ha λh₁ hz₁ hs₁=>?_);simp only[Bool.false_eq_true,if_false];refine A0 ?_;simp only[List.forIn_toArray,List.forIn_cons,List.forIn_nil];refine A0 (A0 (C7 ?_));show wpAny _ _ (Builtin.SmallTypes.nextOf (.ref i1)>>=_) _ _ _;refine A0 (N2 (h1.extBut hs₁.extBut D.i1z) (hl1.extBut hs₁.extBut D.l1z) hx λh₂ h1₂ hs₂=>A1 ?_);refine A1 ?_;refine A0 (A0 (C7 ?_));show wpAny _ _ (Builtin.SmallTypes.nextOf (.ref i2)>>=_) _ _ _;refine A0 (N2 ((h2.extBut hs₁.extBut D.i2z).extBut hs₂.extBut D.i12.symm) ((hl2.extBut hs₁.extBut D.l2z).extBut hs₂.extBut D.l2i1) hy λh₄ h2₄ hs₄=>A1 ?_);refine A1 (A1 ?_);refine A0 (k7 (hsz:=by show 2<=sizeLine;decide) ?_);have hsz:h₄.objs.size=s.heap.objs.size:=by rw[hs₄.1,hs₂.1,hs₁.1]
 have hz₄:IsZ h₄ z TI TO a true:=hs₄.extBut _ _ D.i2z.symm (hs₂.extBut _ _ D.i1z.symm hz₁);have hk₄:∀c o,c≠z->c≠i1->c≠i2->s.heap.get? c=some o->h₄.get? c=some o:=λc o c1 c3 c4 e=>hs₄.extBut _ _ c4 (hs₂.extBut _ _ c3 (hs₁.extBut _ _ c1 e))
 refine A1 ⟨_,rfl,?_⟩;show Q (.ref h₄.objs.size) _;have hq:=hQ (h₄.push { cls:=.type "tuple",data:=.seq #[x,y] }) (A7 _ hz₄) ((h1₂.extBut hs₄.extBut D.i12).at λo e=>A7 _ e) (h2₄.at λo e=>A7 _ e)
  (by rw[← hsz];exact B3 _ rfl) (by rw[Heap.size_push,hsz]) λc o c1 c3 c4 e=>A7 _ (hk₄ c o c1 c3 c4 e)
 rw[hsz];exact hq
theorem aq0{TI TO a:Addr}{f:Bool}{oa:Obj}{k1 k2:Nat}{xs ys:Array Value}{Q:Fin->Shared->Prop}(hh:A.handled=none)(D:ZipApart z TI TO i1 i2 l1 l2)
  (hz:IsZ s.heap z TI TO a f) (ha:s.heap.get? a=some oa) (hTI:IsPair s.heap TI (.ref i1) (.ref i2))
  (h1:s.heap.IsListIter i1 l1 k1) (h2:s.heap.IsListIter i2 l2 k2) (hl1:s.heap.IsList l1 xs) (hl2:s.heap.IsList l2 ys) (hend:xs[k1]?=none∨ys[k2]?=none)
  (hE:∀h' e,(∀c o,c≠z->c≠i1->c≠i2->s.heap.get? c=some o->h'.get? c=some o)->(∃o,h'.get? e=some o/\o.cls=.type "StopIteration")->E (.ref e) { s with heap:=h' }) :
  wpAny (model prog w) A (Builtin.«zip.__next__» ⟨[.ref z],[]⟩) Q E s:=by
 show wpAny _ _ (field (.ref z) 2>>=_) _ _ _;refine A0 (B4 hz rfl (x:=.bool false) rfl ?_);show wpAny _ _ (field (.ref z) 3>>=_) _ _ _;refine A0 (B4 hz rfl (x:=.ref TI) rfl ?_);refine A0 (C6 hTI rfl ?_);show wpAny _ _ (Builtin.SmallTypes.ownedTupleIsFree (.ref z)>>=_) _ _ _;refine A0 (kp0 hz ha λh₁ hz₁ hs₁=>?_);simp only[Bool.false_eq_true,if_false];refine A0 ?_;simp only[List.forIn_toArray,List.forIn_cons,List.forIn_nil];refine A0 (A0 (C7 ?_));show wpAny _ _ (Builtin.SmallTypes.nextOf (.ref i1)>>=_) _ _ _;cases hx:xs[k1]? with
 | none =>
  refine A0 (Y3 hh (h1.extBut hs₁.extBut D.i1z) (hl1.extBut hs₁.extBut D.l1z) hx λh₂ e hs₂ he=>?_);exact hE h₂ e (λc o c1 c3 _ x=>hs₂ _ _ c3 (hs₁.extBut _ _ c1 x)) he
 | some x =>
  have hy:ys[k2]?=none:=by rcases hend with h|h;rw[hx] at h;cases h;exact h
  refine A0 (N2 (h1.extBut hs₁.extBut D.i1z) (hl1.extBut hs₁.extBut D.l1z) hx λh₂ h1₂ hs₂=>A1 ?_);refine A1 ?_;refine A0 (A0 (C7 ?_));show wpAny _ _ (Builtin.SmallTypes.nextOf (.ref i2)>>=_) _ _ _;refine A0 (Y3 hh ((h2.extBut hs₁.extBut D.i2z).extBut hs₂.extBut D.i12.symm) ((hl2.extBut hs₁.extBut D.l2z).extBut hs₂.extBut D.l2i1) hy λh₄ e hs₄ he=>?_);exact hE h₄ e (λc o c1 c3 c4 x=>hs₄ _ _ c4 (hs₂.extBut _ _ c3 (hs₁.extBut _ _ c1 x))) he
theorem qt0{TI TO a:Addr}{f:Bool}{oa:Obj}{k1 k2:Nat}{xs ys:Array Value}{x y:Value}{Q:Option Value->Shared->Prop}(D:ZipApart z TI TO i1 i2 l1 l2)
  (hz:IsZ s.heap z TI TO a f) (ha:s.heap.get? a=some oa) (hTI:IsPair s.heap TI (.ref i1) (.ref i2))
  (h1:s.heap.IsListIter i1 l1 k1) (h2:s.heap.IsListIter i2 l2 k2) (hl1:s.heap.IsList l1 xs) (hl2:s.heap.IsList l2 ys) (hx:xs[k1]?=some x) (hy:ys[k2]?=some y)
  (hQ:∀h',IsZ h' z TI TO a true->h'.IsListIter i1 l1 (k1+1)->h'.IsListIter i2 l2 (k2+1)->IsPair h' s.heap.objs.size x y->h'.objs.size=s.heap.objs.size+1 ->
   (∀c o,c≠z->c≠i1->c≠i2->s.heap.get? c=some o->h'.get? c=some o)->Q (some (.ref s.heap.objs.size)) { s with heap:=h' }) :
  wpAny (model prog w) A (pyNext (.ref z)) Q E s:=by
 have hT:s.TypeIs (.ref z) "zip" := ⟨_,hz,rfl⟩;unfold pyNext;exact A0 (N9 (E3 (name:=Str.ofString "__next__") hT D6
  (D8 D6 hT P7
   (b50 D hz ha hTI h1 h2 hl1 hl2 hx hy λh' a1 a3 a4 a5 a6 a7=>A1 (hQ h' a1 a3 a4 a5 a6 a7)) (P8 _))))
theorem uz0{TI TO a:Addr}{f:Bool}{oa:Obj}{k1 k2:Nat}{xs ys:Array Value}{Q:Option Value->Shared->Prop}(hh:A.handled=none)(D:ZipApart z TI TO i1 i2 l1 l2)
  (hz:IsZ s.heap z TI TO a f) (ha:s.heap.get? a=some oa) (hTI:IsPair s.heap TI (.ref i1) (.ref i2))
  (h1:s.heap.IsListIter i1 l1 k1) (h2:s.heap.IsListIter i2 l2 k2) (hl1:s.heap.IsList l1 xs) (hl2:s.heap.IsList l2 ys) (hend:xs[k1]?=none∨ys[k2]?=none)
  (hQ:∀h',(∀c o,c≠z->c≠i1->c≠i2->s.heap.get? c=some o->h'.get? c=some o)->Q none { s with heap:=h' }):wpAny (model prog w) A (pyNext (.ref z)) Q E s:=by
 have hT:s.TypeIs (.ref z) "zip" := ⟨_,hz,rfl⟩;unfold pyNext;refine A0 (N9 (E3 (name:=Str.ofString "__next__") hT D6
  (D8 D6 hT P7 (aq0 hh D hz ha hTI h1 h2 hl1 hl2 hend λh' e hk he=>?_) (P8 _))))
 obtain⟨o,ho,hc⟩:=he;refine A0 (k4 (T := "StopIteration") (b:=true) ⟨o,ho,hc⟩ Ah0 ?_);exact A1 (hQ _ hk)
end
structure ZSt(h:Heap)(z TI TO i1 i2 l1 l2 S:Addr)(xs ys:Array Value)(i:Nat):Prop where
 own:(i=0/\IsZip h z TI TO .none/\∃p q,IsPair h TO p q)∨∃a f oa,IsZ h z TI TO a f/\h.get? a=some oa/\a≠z/\a≠i1/\a≠i2/\a≠S
 hTI:IsPair h TI (.ref i1) (.ref i2)
 h1:h.IsListIter i1 l1 i
 h2:h.IsListIter i2 l2 i
 hl1:h.IsList l1 xs
 hl2:h.IsList l2 ys
structure ZLow(z TI TO i1 i2 l1 l2 S:Addr):Prop where
 z:z<S
 TI:TI<S
 TO:TO<S
 i1:i1<S
 i2:i2<S
 l1:l1<S
 l2:l2<S
structure ZG(xs ys:Array Value)(S:Addr)(h:Heap)(as:List Addr):Prop where
 rise:as.Pairwise (·<·)
 above:∀a∈as,S<a
 pairs:∀(j:Nat) (a:Addr),as[j]?=some a->∃x y,xs[j]?=some x/\ys[j]?=some y/\IsPair h a x y
section
variable{w:World}{s:Shared}{TI TO S:Addr}{h:Heap}
theorem ZG.there{as:List Addr}(g:ZG xs ys S h as)(ha:a∈as):a<h.objs.size:=by
 obtain⟨j,hj⟩:=Ai0.mp ha;obtain⟨_,_,_,_,e⟩:=g.pairs j a hj;exact A3 e
theorem ZSt.keep(x:ZSt h z TI TO i1 i2 l1 l2 S xs ys i)(L:ZLow z TI TO i1 i2 l1 l2 S)(hk:∀b o,b≠S->h.get? b=some o->h'.get? b=some o):ZSt h' z TI TO i1 i2 l1 l2 S xs ys i:=by
 refine⟨?_,hk _ _ (A8 L.TI) x.hTI,x.h1.at λo e=>hk _ o (A8 L.i1) e,x.h2.at λo e=>hk _ o (A8 L.i2) e,x.hl1.at λo e=>hk _ o (A8 L.l1) e,x.hl2.at λo e=>hk _ o (A8 L.l2) e⟩;rcases x.own with⟨e,hz,p,q,hp⟩|⟨a,f,oa,hz,ha,n1,n2,n3,n4⟩
 ·exact .inl ⟨e,hk _ _ (A8 L.z) hz,p,q,hk _ _ (A8 L.TO) hp⟩
 ·exact .inr ⟨a,f,oa,hk _ _ (A8 L.z) hz,hk _ _ n4 ha,n1,n2,n3,n4⟩
theorem Vw0{x:Value}{Q:Option Value->Shared->Prop}(D:ZipApart z TI TO i1 i2 l1 l2)(st:ZSt s.heap z TI TO i1 i2 l1 l2 S xs ys i)(hS:S<s.heap.objs.size)(hx:xs[i]?=some x)(hy:ys[i]?=some y)
  (hQ:∀h',ZSt h' z TI TO i1 i2 l1 l2 S xs ys (i+1)->IsPair h' s.heap.objs.size x y->(∀c o,c≠z->c≠TO->c≠i1->c≠i2->s.heap.get? c=some o->h'.get? c=some o)->Q (some (.ref s.heap.objs.size)) { s with heap:=h' }) :
  wpAny (model prog w) A (pyNext (.ref z)) Q E s:=by
 obtain⟨o1,e1,_⟩:=id st.h1;obtain⟨o2,e2,_⟩:=id st.h2;rcases st.own with⟨rfl,hz,p,q,hp⟩|⟨a,f,oa,hz,ha,n1,n2,n3,n4⟩
 ·refine wpAny_pyNext_zip_item D hz st.hTI hp st.h1 st.h2 st.hl1 st.hl2 hx hy λh' a1 a2 a3 a4 a5 a6 hk=>hQ h' ⟨.inr ⟨_,false,_,a1,a5,B9 (A3 hz),B9 (A3 e1),B9 (A3 e2),B9 hS⟩,hk _ _ D.TIz D.TITO D.TIi1 D.TIi2 st.hTI,a3,a4,
   st.hl1.at λo e=>hk _ o D.l1z D.l1TO D.l1i1 D.l1i2 e,st.hl2.at λo e=>hk _ o D.l2z D.l2TO D.l2i1 D.l2i2 e⟩ a5 hk
 ·refine qt0 D hz ha st.hTI st.h1 st.h2 st.hl1 st.hl2 hx hy λh' a1 a3 a4 a5 a6 hk=>hQ h' ⟨.inr ⟨a,true,oa,a1,hk _ _ n1 n2 n3 ha,n1,n2,n3,n4⟩,hk _ _ D.TIz D.TIi1 D.TIi2 st.hTI,a3,a4,
   st.hl1.at λo e=>hk _ o D.l1z D.l1i1 D.l1i2 e,st.hl2.at λo e=>hk _ o D.l2z D.l2i1 D.l2i2 e⟩ a5 λc o c1 _ c3 c4 e=>hk c o c1 c3 c4 e
theorem Uq0{Q:Option Value->Shared->Prop}(hh:A.handled=none)(D:ZipApart z TI TO i1 i2 l1 l2)(st:ZSt s.heap z TI TO i1 i2 l1 l2 S xs ys i)(hend:xs[i]?=none∨ys[i]?=none)
  (hQ:∀h',(∀c o,c≠z->c≠TO->c≠i1->c≠i2->s.heap.get? c=some o->h'.get? c=some o)->Q none { s with heap:=h' }):wpAny (model prog w) A (pyNext (.ref z)) Q E s:=by
 rcases st.own with⟨rfl,hz,p,q,hp⟩|⟨a,f,oa,hz,ha,n1,n2,n3,n4⟩
 ·exact wpAny_pyNext_zip_end hh D hz st.hTI hp st.h1 st.h2 st.hl1 st.hl2 hend hQ
 ·exact uz0 hh D hz ha st.hTI st.h1 st.h2 st.hl1 st.hl2 hend λh' hk=>hQ h' λc o c1 _ c3 c4 e=>hk c o c1 c3 c4 e
end
section
variable{w:World}{s:Shared}{TI TO S lo:Addr}{h₁:Heap}
theorem Ue0(hh:A.handled=none)(D:ZipApart z TI TO i1 i2 l1 l2)(L:ZLow z TI TO i1 i2 l1 l2 S)(hlo:lo<=z/\lo<=TO/\lo<=i1/\lo<=i2)(hn:min xs.size ys.size<=sizeLine)(res:Value)
  (hR:∀h' tk acc c as,(∀b o,b<lo->h₁.get? b=some o->h'.get? b=some o)->h'.get? S=some { cls:=.type "list",dict:=none,data:=.seq acc c,slots:=#[] }->as.length=min xs.size ys.size->ZG xs ys S h' as ->
   acc.toList=as.map Value.ref->R (.ok (.ret res)) { s with heap:=h',toks:=tk }) :
  ∀(k i:Nat) (h:Heap) (tk c:Nat) (acc:Array Value) (as:List Addr),min xs.size ys.size - i=k->i<=min xs.size ys.size->ZSt h z TI TO i1 i2 l1 l2 S xs ys i->(∀b o,b<lo->h₁.get? b=some o->h.get? b=some o) ->
   h.get? S=some { cls:=.type "list",dict:=none,data:=.seq acc c,slots:=#[] }->acc.toList=as.map Value.ref->as.length=i->ZG xs ys S h as ->
   codeAny (model prog w) A (.builtin "list.extend.loop" ⟨[.ref S,.ref z,res],[]⟩) R { s with heap:=h,toks:=tk }:=by
 have hz0:=hlo.1;have loS:lo<S:=U2 hlo.1 L.z;have lk:∀(h h':Heap),(∀c o,c≠z->c≠TO->c≠i1->c≠i2->h.get? c=some o->h'.get? c=some o)->∀b o,b<lo->h.get? b=some o->h'.get? b=some o:=λh h' hk b o hb e =>
  hk b o (A8 (B1 hb hlo.1)) (A8 (B1 hb hlo.2.1)) (A8 (B1 hb hlo.2.2.1)) (A8 (B1 hb hlo.2.2.2)) e
 have hk4:∀(h h':Heap),(∀c o,c≠z->c≠TO->c≠i1->c≠i2->h.get? c=some o->h'.get? c=some o)->∀b o,S<=b->h.get? b=some o->h'.get? b=some o:=λh h' hk b o hb e =>
  hk b o (B9 (B1 L.z hb)) (B9 (B1 L.TO hb)) (B9 (B1 L.i1 hb)) (B9 (B1 L.i2 hb)) e
 intro k
 induction k with
 | zero =>
  intro i h tk c acc as hk hi hst hkeep hS hacc hal hG;have hend:xs[i]?=none∨ys[i]?=none:=by
   rcases Nat.le_total xs.size ys.size with q|q
   ·exact .inl (Ce0 (by omega))
   ·exact .inr (Ce0 (by omega))
  refine O0 F.entry_extend_loop ?_;rw[Around.under_plainId k9 _];show wpAny _ A.in1 (pyNext (.ref z)>>=_) _ _ _;refine A0 (Uq0 (s:={ s with heap:=h,toks:=tk }) (A:=A.in1) hh D hst hend λh' he=>?_);refine A1 (hR h' tk acc c as (λb o h1 e=>lk h h' he b o h1 (hkeep b o h1 e)) (hk4 h h' he S _ (A2 _) hS) (by omega) ⟨hG.rise,hG.above,λj a hj=>?_⟩ hacc);obtain⟨x,y,e1,e2,e3⟩:=hG.pairs j a hj;exact⟨x,y,e1,e2,hk4 h h' he a _ (L5 (hG.above a (D2 hj))) e3⟩
 | succ k ih =>
  intro i h tk c acc as hk hi hst hkeep hS hacc hal hG;have hlt:i<min xs.size ys.size:=by omega
  have hix:i<xs.size:=B1 hlt (Nat.min_le_left ..);have hiy:i<ys.size:=B1 hlt (Ba0 ..);have hsz:acc.size=i:=by rw[← Array.length_toList,hacc,List.length_map,hal]
  have hSl:S<h.objs.size:=A3 hS;refine O0 F.entry_extend_loop ?_;rw[Around.under_plainId k9 _];show wpAny _ A.in1 (pyNext (.ref z)>>=_) _ _ _;refine A0 (Vw0 (s:={ s with heap:=h,toks:=tk }) D hst hSl (Y2 hix) (Y2 hiy) λh' hst' ht hkp=>?_);dsimp only at ht hkp ⊢;have hS':=hk4 h h' hkp S _ (A2 _) hS;have up:∀b o,b≠S->h'.get? b=some o->(h'.update S (Obj.mapSeq (·.push (Value.ref h.objs.size)))).get? b=some o:=λb o hb e=>(P4 _ _ (C0 hb)).trans e
  show wpAny _ A.in1 (updateSeq S (·.push (Value.ref h.objs.size))>>=_) _ _ _;refine A0 ?_;refine X0 hS' rfl (A1 ⟨N1 k9 _,ih (i+1) _ tk _ (acc.push (Value.ref h.objs.size)) (as++[h.objs.size]) (by omega) hlt (hst'.keep L up)
   (λb o h1 e=>up b o (A8 (E6 h1 loS)) (lk h h' hkp b o h1 (hkeep b o h1 e))) (Y1 _ hS' rfl) (by rw[Array.toList_push,hacc,List.map_append];rfl) (by rw[List.length_append,hal];rfl) ⟨?_,?_,?_⟩⟩) (by rw[hsz];omega) (by show (acc.push (Value.ref h.objs.size)).size<=sizeLine+1;rw[Array.size_push,hsz];omega)
  ·refine List.pairwise_append.mpr ⟨hG.rise,List.pairwise_singleton _ _,λa ha b hb=>?_⟩
   rw[List.mem_singleton.mp hb];exact hG.there ha
  ·intro a ha
   rcases B8.mp ha with ha|ha
   ·exact hG.above a ha
   ·rw[List.mem_singleton.mp ha];exact hSl
  ·intro j b hj
   rcases Cg0 j as.length with h1|h1|h1
   ·rw[List.getElem?_append_left h1] at hj
    obtain⟨x',y',e1,e2,e3⟩:=hG.pairs j b hj;have hb:=hG.above b (D2 hj);exact⟨x',y',e1,e2,up b _ (B9 hb) (hk4 h h' hkp b _ (L5 hb) e3)⟩
   ·subst h1
    have hb:h.objs.size=b:=by simpa using hj
    subst hb;exact⟨_,_,by rw[hal];exact Y2 hix,by rw[hal];exact Y2 hiy,up _ _ (B9 hSl) ht⟩
   ·have hnone:(as++[h.objs.size])[j]?=none:=List.getElem?_eq_none (by rw[List.length_append,List.length_singleton];omega)
    rw[hnone] at hj;cases hj
end
theorem gr0:typeLookup (.type "zip") "__len__"=pure none:=by rw[typeLookup_type,builtinLookup_eq_fast];kernel_rfl
theorem j80:typeLookup (.type "zip") "__length_hint__"=pure none:=by rw[typeLookup_type,builtinLookup_eq_fast];kernel_rfl
section
variable{w:World}{s:Shared}{TI TO lo:Addr}
def Yr0(xs ys:Array Value)(lo:Addr)(s:Shared)(h':Heap)(as:List Addr):Prop :=
 (∀b o,b<lo->s.heap.get? b=some o->h'.get? b=some o)/\as.length=min xs.size ys.size/\ZG xs ys s.heap.objs.size h' as
theorem ky0{Q:List Value->Shared->Prop}(hh:A.handled=none)(D:ZipApart z TI TO i1 i2 l1 l2)(hlo:lo<=z/\lo<=TO/\lo<=i1/\lo<=i2)
  (st:∀S,S≠z->S≠i1->S≠i2->ZSt s.heap z TI TO i1 i2 l1 l2 S xs ys 0) (hn:min xs.size ys.size<=sizeLine) (L:ZLow z TI TO i1 i2 l1 l2 s.heap.objs.size)
  (hT:s.TypeIs (.ref z) "zip") (hI:∃f0,IsZip s.heap z TI TO f0)
  (hQ:∀h' tk as,Yr0 xs ys lo s h' as->s.heap.objs.size<h'.objs.size->Q (as.map Value.ref) { s with heap:=h',toks:=tk }):wpAny (model prog w) A (collect (.ref z)) Q E s:=by
 have hSz:s.heap.objs.size≠z:=B9 L.z;obtain⟨f0,hI⟩:=hI;unfold collect;refine A0 (wpAny_runValue (O0 F.entry_proto_collect ?_));rw[Around.under_plainId F.plain_proto_collect _];show wpAny _ A.in1 (newList []>>=λl=>again (.builtin "list.__iadd__" ⟨[l,.ref z],[]⟩)) _ _ s;refine A0 (E4 ?_);refine A1 ⟨N1 F.plain_list_iadd _,O0 F.entry_list_iadd ?_⟩;rw[Around.under_plainId F.plain_list_iadd _];have hS₁:(s.heap.push { cls:=.type "list",data:=.seq ([]:List Value).toArray }).get? s.heap.objs.size=some { cls:=.type "list",data:=.seq ([]:List Value).toArray }:=B3 _ rfl;have hz₁:=A7 { cls:=.type "list",data:=.seq ([]:List Value).toArray } hI;have hT₁:Shared.TypeIs { s with heap:=s.heap.push { cls:=.type "list",data:=.seq ([]:List Value).toArray } } (.ref z) "zip" := ⟨_,hz₁,rfl⟩;show wpAny _ A.in1 (Builtin.List.listExtendWith (.ref s.heap.objs.size) (.ref z) (.ref s.heap.objs.size)) _ _ _;unfold Builtin.List.listExtendWith;refine A0 (E9 hT₁ ?_);have h1:Builtin.List.listSameRef (.ref s.heap.objs.size) (.ref z)=false:=by simp[Builtin.List.listSameRef,hSz]
 have h2:(Value.type "zip"==Value.type "list")=false:=by decide
 have h3:(Value.type "zip"==Value.type "tuple")=false:=by decide
 simp only[h1,h2,h3,Bool.or_false,Bool.false_eq_true,if_false];refine A0 (Q1 (s:={ s with heap:=s.heap.push { cls:=.type "list",data:=.seq ([]:List Value).toArray } }) hz₁ ?_);refine A0 (C7 ?_);unfold Builtin.List.listLengthHint;refine A0 (W1 hT₁ gr0 ?_);show wpAny _ A.in1 (specialOf (Value.ref z) (Str.ofString "__length_hint__")>>=_) _ _ _;refine A0 (W1 hT₁ j80 ?_);refine A1 ?_;show wpAny _ A.in1 (rule "list.extend.makes-room">>=λ_=>Builtin.List.listTouch (.ref s.heap.objs.size)>>=λ_ =>
  again (.builtin "list.extend.loop" ⟨[.ref s.heap.objs.size,.ref z,.ref s.heap.objs.size],[]⟩)) _ _ _
 refine A0 (D9 ?_);refine A0 ?_;show wpAny _ A.in1 (updateSeq s.heap.objs.size (·.push .none)>>=λ_=>updateSeq s.heap.objs.size (·.pop)) _ _ _;refine A0 (X0 hS₁ rfl ?_);have hS₂:=Y1 (Obj.mapSeq (·.push Value.none)) hS₁ rfl;refine X0 hS₂ rfl ?_;have hS₃:=Y1 (Obj.mapSeq (·.pop)) hS₂ rfl;have oth:∀b o,b≠s.heap.objs.size->s.heap.get? b=some o ->
   (((s.heap.push { cls:=.type "list",data:=.seq ([]:List Value).toArray }).update s.heap.objs.size (Obj.mapSeq (·.push Value.none))).update s.heap.objs.size (Obj.mapSeq (·.pop))).get? b=some o :=
  λb o hb e=>(P4 _ _ (C0 hb)).trans ((P4 _ _ (C0 hb)).trans (A7 _ e))
 refine A1 ⟨N1 k9 _,Ue0 (s:=s) (lo:=lo) (h₁:=s.heap) hh D L hlo hn _ (λh' tk acc c as hk hS' hl hG hacc=>?_) _ 0 _ s.toks _ #[] [] rfl (C5 _)
  ((st _ hSz (B9 L.i1) (B9 L.i2)).keep L oth) (λb o hb e=>oth b o (A8 (A3 e)) e) hS₃ rfl rfl ⟨List.Pairwise.nil,(λ_ ha=>nomatch ha),(λj a hj=>by simp at hj)⟩⟩
 show wpAny _ A (load s.heap.objs.size>>=_) _ _ _;refine A0 (wpAny_load hS' ?_);refine A1 ?_;have:=hQ h' tk as ⟨hk,hl,hG⟩ (A3 hS');rw[← hacc] at this;exact this
end
section
variable{w:World}{s:Shared}{TI TO lo:Addr}
theorem su0{Q₁:Value->Shared->Prop}(hh:A.handled=none)(D:ZipApart z TI TO i1 i2 l1 l2)(hlo:lo<=z/\lo<=TO/\lo<=i1/\lo<=i2)
  (st:∀S,S≠z->S≠i1->S≠i2->ZSt s.heap z TI TO i1 i2 l1 l2 S xs ys 0) (hn:min xs.size ys.size<=sizeLine) (L:ZLow z TI TO i1 i2 l1 l2 s.heap.objs.size)
  (hT:s.TypeIs (.ref z) "zip") (hI:∃f0,IsZip s.heap z TI TO f0)
  (h:∀h' tk as,Yr0 xs ys lo s h' as->s.heap.objs.size<h'.objs.size->Q₁ (.ref h'.objs.size) { s with heap:=h'.push { cls:=.type "tuple",data:=.seq (as.map Value.ref).toArray },toks:=tk }) :
  codeAny (model prog w) A (.call (.builtin "tuple.__new__") ⟨[.type "tuple",.ref z],[]⟩) (wants Q₁ E) s:=by
 refine codeAny_of_tree ?_;show wpAny _ A.in1 (do checkBuiltinCall "tuple.__new__" ⟨[.type "tuple",.ref z],[]⟩;again (.builtin "tuple.__new__" ⟨[.type "tuple",.ref z],[]⟩)) _ _ s;refine A0 (wpAny_of_eq (F.newCall_tuple_1 _) (A1 ⟨N1 F.plain_tuple_new _,O0 F.entry_tuple_new ?_⟩));rw[Around.under_plainId F.plain_tuple_new _];have hsub:=sub_tuple_self;have hinit:=init_tuple_lookup;have hmh:=madeHere_tuple;have hh1:A.in1.handled=none:=by simp[hh]
 wp_walk using E9 hT,ky0 (lo:=lo) hh1 D hlo st hn L hT hI
 intro h' tk as hz hlt;show wpAny _ _ (Builtin.Tuple.tupleExact (as.map Value.ref).toArray>>=λv=>ret v) _ _ _;unfold Builtin.Tuple.tupleExact;refine A0 (E4 ?_ (by show (as.map Value.ref).toArray.size<=sizeLine;rw[List.size_toArray,List.length_map,hz.2.1];exact hn));exact A1 (h h' tk as hz hlt)
theorem eg0{Q:Value->Shared->Prop}(hh:A.handled=none)(hl1:s.heap.IsList l1 xs)(hl2:s.heap.IsList l2 ys)(hn:min xs.size ys.size<=sizeLine)
  (h:∀(h':Heap) (tk:Nat) (as:List Addr) (t:Addr),(∀b o,s.heap.get? b=some o->h'.get? b=some o)->as.length=min xs.size ys.size->(∀a∈as,s.heap.objs.size<=a/\a<t)->as.Nodup->s.heap.objs.size<=t ->
   (∀(j:Nat) (a:Addr),as[j]?=some a->∃x y,xs[j]?=some x/\ys[j]?=some y/\IsPair h' a x y)->h'.get? t=some { cls:=.type "tuple",data:=.seq (as.map Value.ref).toArray }->Q (.ref t) { s with heap:=h',toks:=tk }) :
  wpAny (model prog w) A (call (.type "zip") [.ref l1,.ref l2]) (λv s1=>wpAny (model prog w) A (call (.type "tuple") [v]) Q E s1) E s:=by
 have a1:l1<s.heap.objs.size:=by obtain⟨_,e,_⟩:=hl1;exact A3 e
 have a2:l2<s.heap.objs.size:=by obtain⟨_,e,_⟩:=hl2;exact A3 e
 refine call_zip_2 hl1 hl2 λh1 hz hTI hTO hi1 hi2 hsz hk=>?_
 have hl1':h1.IsList l1 xs:=hl1.at λo e=>hk _ o e
 have hl2':h1.IsList l2 ys:=hl2.at λo e=>hk _ o e
 have H:∀k,k<5->s.heap.objs.size+k<h1.objs.size:=λk hk=>by rw[hsz];exact Nat.add_lt_add_left hk _
 refine Af0 (Q₁:=λobj s₁=>s₁.TypeIs obj "tuple"/\Q obj s₁) F.called_tuple (F.typeCall_tuple_1 _) F.entry_object_init
  (su0 (lo:=s.heap.objs.size) (xs:=xs) (ys:=ys) (by simp[hh]) (l0 a1 a2) ⟨B2 _ 4,B2 _ 3,A2 _,B2 _ 1⟩ (λS n1 n2 n3=>⟨.inl ⟨rfl,hz,_,_,hTO⟩,hTI,hi1,hi2,hl1',hl2'⟩) hn
   ⟨H 4 (by decide),H 2 (by decide),H 3 (by decide),H 0 (by decide),H 1 (by decide),E6 a1 (H 0 (by decide)),E6 a2 (H 0 (by decide))⟩
   ⟨_,hz,rfl⟩ ⟨_,hz⟩ λh' tk as ze hlt=>⟨⟨_,B3 _ rfl,rfl⟩,?_⟩) λobj s₁ h₁=>?_
 ·obtain⟨k1,k2,g⟩:=ze
  refine h (h'.push _) tk as h'.objs.size (λb o e=>A7 _ (k1 b o (A3 e) (hk b o e))) k2 (λa ha=>⟨?_,g.there ha⟩) (g.rise.imp λh=>A8 h) ?_ (λj a hj=>?_) (B3 _ rfl)
  ·exact L5 (E6 (H 0 (by decide)) (g.above a ha))
  ·exact L5 (E6 (H 0 (by decide)) hlt)
  ·obtain⟨x,y,e1,e2,e3⟩:=g.pairs j a hj
   exact⟨x,y,e1,e2,A7 _ e3⟩
 ·exact⟨h₁.1,F.args_object_init_2 obj _,object_init_meets F.called_tuple.init.lookup F.called_tuple.made (by decide) prog w A.in1 _ s₁ ⟨h₁.1,rfl,h₁.2⟩⟩
end
end ZipL
namespace L2
open Spec PyProof.Rows
def wx0(H:Hp):List (Addr×HO)->Hp
 | []=>H
 | p::l=>upd (wx0 H l) p.1 p.2
theorem qh0{b:Addr}:∀{l:List (Addr×HO)},(∀p∈l,p.1≠b)->wx0 H l b=H b
 | [],_=>rfl
 | p::l,h=>by
  show upd (wx0 H l) p.1 p.2 b=_;rw[Z6 (C0 (h p A5)),qh0 λq hq=>h q (A4 _ hq)]
theorem or0{b:Addr}{u:HO}:∀{l:List (Addr×HO)},wx0 H l b=some u->(∃p∈l,p.1=b/\p.2=u)∨H b=some u
 | [],e=>.inr e
 | p::l,e=>by
  by_cases h:b=p.1
  ·subst h
   have e':upd (wx0 H l) p.1 p.2 p.1=some u:=e;rw[b8] at e';exact .inl ⟨p,A5,rfl,B6 e'⟩
  ·have e':upd (wx0 H l) p.1 p.2 b=some u:=e
   rw[Z6 h] at e';rcases or0 e' with⟨q,hq,x⟩|x
   ·exact .inl ⟨q,A4 _ hq,x⟩
   ·exact .inr x
theorem qj0:∀{l:List (Addr×HO)},(l.map Prod.fst).Nodup->∀p∈l,wx0 H l p.1=some p.2
 | [],_,p,h=>nomatch h
 | q::l,n,p,h=>by
  rw[List.map_cons,List.nodup_cons] at n;show upd (wx0 H l) q.1 q.2 p.1=_;rcases A9.mp h with rfl|h
  ·rw[b8]
  ·rw[Z6 (λz=>n.1 (by rw[← z];exact l6 h)),qj0 n.2 p h]
section
variable{X:Cx}{s:Shared}
theorem Inv.laidL{l:List (Addr×HO)}{t':Nat}(I:Inv X pins σ H s)(k:∀b u,s.heap.get? b=some u->h'.get? b=some u)
  (hl:∀p∈l,s.heap.objs.size<=p.1/\∃xs,p.2=.tup xs/\ObjOk X.prog X.w H h' p.1 (.tup xs)):Inv X pins σ (wx0 H l) { s with heap:=h',toks:=t' }:=by
 have low:∀b,b<s.heap.objs.size->wx0 H l b=H b:=λb hb=>qh0 λp hp z=>by
  have:=(hl p hp).1;rw[z] at this;exact D4 _ (B1 hb this)
 refine I.un ⟨λb u q _ _ _=>k b u q,λb u q _ _ _=>⟨u.slots,k b u q⟩,λb u q n _=>by rw[low b (A3 q)];exact n,λb u q _=>⟨u,k b u q⟩,λb xs q=>by rw[low b (I.hok.lt q)];exact q,
  λb u xs q=>by rw[low b (I.hok.lt q)];exact q,λb ps q=>⟨#[],by rw[low b (I.hok.lt q),q];simp⟩⟩ λb u e=>?_
 rcases or0 e with⟨p,hp,rfl,rfl⟩|e'
 ·obtain⟨_,xs,ex,ok⟩:=hl p hp
  rw[ex];exact ok
 ·exact(I.hok b u e').stay (λc v _ q=>k c v q) (λc q=>by rw[low c (I.hok.lt q)];exact q) λc xs q=>by rw[low c (I.hok.lt q)];exact q
end
def my0(X:Cx)(f1 f2:Value)(r:List V->Hp->VK->Prop):Prop :=
 ∀(pins:List (Addr×Obj)) (s:Shared) (σ:St) (H:Hp) (xs:List V) (us:List Value) (Q:VK),Inv X pins σ H s->Vals xs us->r xs H Q ->
  wpAny (model X.prog X.w) X.A (call f2 us) (λv s1=>wpAny (model X.prog X.w) X.A (call f1 [v]) (EP X pins σ Q) X.xe s1) X.xe s
section
variable{X:Cx}{x1:Str}{T1 T2:String}{r:List V->Hp->VK->Prop}{t:TA}
theorem f40(hc:my0 X (.type T1) (.type T2) r)(hg1:Gl X x1)(hg2:Gl X x2)(hm1:X.mg x1=none)(hm2:X.mg x2=none)(hv1:bootBuiltins x1=some (.type T1))(hv2:bootBuiltins x2=some (.type T2))(ha:PA X (e::es) t)
  (hn1:x1 ≠"__name__" := by decide) (hd1:(x1==("__debug__" : Str))=false:=by decide) (hn2:x2 ≠"__name__" := by decide) (hd2:(x2==("__debug__" : Str))=false:=by decide)
  (e1:starEach [.Call (.Name x2 p2) (e::es) [] pos2] X.env=(false,eval (.Call (.Name x2 p2) (e::es) [] pos2) X.env)::starEach [] X.env:=by rfl) (h1:(backTo pos (starEach [] X.env)).any (·.1)=false:=by rfl)
  (he:starEach (e::es) X.env=(false,eval e X.env)::starEach es X.env:=by rfl) (hpl:(backTo pos2 (starEach es X.env)).any (·.1)=false:=by rfl) :
  PE X (.Call (.Name x1 p) [.Call (.Name x2 p2) (e::es) [] pos2] [] pos) (tCB r t):=by
 intro pins s σ H Q I h;refine L8 (zq0 I hg1 hm1 hv1 ?_ hn1 hd1);refine E1 ?_ e1 h1;rw[e1];show wpAny _ _ (spliced ((false,eval (.Call (.Name x2 p2) (e::es) [] pos2) X.env)::backTo pos (starEach [] X.env))) _ _ s;refine i7 ?_;refine L8 (zq0 I hg2 hm2 hv2 ?_ hn2 hd2);refine E1 (thn (ha pos2 pins s σ H _ I h) λus s1 ⟨vs,H1,I1,r1,q1⟩=>?_) he hpl;exact thn (hc pins s1 σ H1 vs us Q I1 r1 q1) λv s2 hv=>i6 hv
end
end L2
namespace DL
open Spec PyProof.Rows L2
section
variable{X:Cx}{x1:Str}{T1 T2:String}{r:List V->Hp->VK->Prop}{f:List D->Option D}
theorem e50(hc:my0 X (.type T1) (.type T2) r)(hf:FnR X.K r f)(hm1:X.mg x1=none)(hm2:X.mg x2=none)(hv1:bootBuiltins x1=some (.type T1))(hv2:bootBuiltins x2=some (.type T2))(ha:PDA X (e::es) gA)(hg1:Gl X x1:=by rfl)(hg2:Gl X x2:=by rfl)
  (hn1:x1 ≠"__name__" := by decide) (hd1:(x1==("__debug__" : Str))=false:=by decide) (hn2:x2 ≠"__name__" := by decide) (hd2:(x2==("__debug__" : Str))=false:=by decide)
  (e1:starEach [.Call (.Name x2 p2) (e::es) [] pos2] X.env=(false,eval (.Call (.Name x2 p2) (e::es) [] pos2) X.env)::starEach [] X.env:=by rfl) (h1:(backTo pos (starEach [] X.env)).any (·.1)=false:=by rfl)
  (he:starEach (e::es) X.env=(false,eval e X.env)::starEach es X.env:=by rfl) (hpl:(backTo pos2 (starEach es X.env)).any (·.1)=false:=by rfl) :
  PD X (.Call (.Name x1 p) [.Call (.Name x2 p2) (e::es) [] pos2] [] pos) (oA gA f) :=
 .mk λB δ=>(f40 hc hg1 hg2 hm1 hm2 hv1 hv2 (ha B δ) hn1 hd1 hn2 hd2 e1 h1 he hpl).imp fun σ H Q h=>ml0 hf h
end
def yk0:List Addr->List (V×V)->List (Addr×HO)
 | a::as,p::ps=>(a,.tup [p.1,p.2])::yk0 as ps
 | _,_=>[]
theorem n00:∀{as:List Addr} {ps:List (V×V)},as.length=ps.length->(yk0 as ps).map Prod.fst=as
 | [],[],_=>rfl
 | [],_::_,h=>by simp at h
 | _::_,[],h=>by simp at h
 | a::as,p::ps,h=>by
  show a::(yk0 as ps).map Prod.fst=_;rw[n00 (by simpa using h)]
theorem nk0:∀{as:List Addr} {ps:List (V×V)} {q:Addr×HO},q∈yk0 as ps->∃(j:Nat) (p:V×V),as[j]?=some q.1/\ps[j]?=some p/\q.2=.tup [p.1,p.2]
 | [],_,q,h=>by simp[yk0] at h
 | _::_,[],q,h=>by simp[yk0] at h
 | a::as,p::ps,q,h=>by
  rcases A9.mp h with rfl|h
  ·exact⟨0,p,rfl,rfl,rfl⟩
  ·obtain⟨j,p',h1,h2,h3⟩:=nk0 h
   exact⟨j+1,p',by simpa using h1,by simpa using h2,h3⟩
def a00(K:W.Frag):List V->Hp->VK->Prop:=λvs H Q=>∃q1 q2 xs ys,vs=[.ref q1,.ref q2]/\SqL K H q1 xs/\SqL K H q2 ys /\
 ∀(t:Addr) (as:List Addr),as.length=(xs.zip ys).length->as.Nodup->t∉as->H t=none->(∀a∈as,H a=none)->Q (.ref t) (wx0 H ((t,.tup (as.map V.ref))::yk0 as (xs.zip ys)))
theorem ni0:∀as:List Addr,Vals (as.map V.ref) (as.map Value.ref)
 | []=>.nil
 | a::as=>.cons rfl (ni0 as)
theorem oj0{X:Cx}(hc:X.calm=true:=by rfl):my0 X (.type "tuple") (.type "zip") (a00 X.K):=by
 intro pins s σ H vs us Q I r h;obtain⟨q1,q2,xs,ys,rfl,h1,h2,k⟩:=h;cases r with
 | cons r1 r =>
  cases r with
  | cons r2 r =>
   cases r;obtain rfl:=r1;obtain rfl:=r2;obtain⟨us1,v1,p1,z1⟩:=I.list h1;obtain⟨us2,v2,p2,z2⟩:=I.list h2;have l1:=v1.length;have l2:=v2.length;refine ZipL.eg0 (I.ok.hd hc) p1.isList p2.isList (by rw[List.size_toArray,List.size_toArray];omega) λh' tk as t hk hl ha hnd ht hp gt=>?_
   rw[List.size_toArray,List.size_toArray] at hl;have hl':as.length=(xs.zip ys).length:=by rw[List.length_zip,hl];omega
   refine⟨.ref t,_,I.laidL (t':=tk) hk λp hp'=>?_,rfl,k t as hl' hnd (λz=>D4 _ (ha t z).2) (I.hok.fresh ht) λa h=>I.hok.fresh (ha a h).1⟩;rcases A9.mp hp' with rfl|hp'
   ·refine⟨ht,_,rfl,?_,as.map Value.ref,ni0 as,⟨_,gt,rfl,_,rfl,rfl⟩⟩
    rw[List.length_map,hl];omega
   ·obtain⟨j,⟨x,y⟩,e1,e2,e3⟩:=nk0 hp'
    obtain⟨u,w,f1,f2,f3⟩:=hp j p.1 e1;have hz:=l7.mp e2;obtain⟨u',g1,g2⟩:=v1.get hz.1;obtain⟨w',g3,g4⟩:=v2.get hz.2;have eu:u'=u:=by
     have:us1.toArray[j]?=some u':=by simpa using g1
     rw[f1] at this;exact(B6 this).symm
    have ew:w'=w:=by
     have:us2.toArray[j]?=some w':=by simpa using g3
     rw[f2] at this;exact(B6 this).symm
    subst eu;subst ew;exact⟨(ha p.1 (D2 e1)).1,_,e3,(by show 2<=sizeLine;decide),[u',w'],.cons g2 (.cons g4 .nil),⟨_,f3,rfl,_,rfl,rfl⟩⟩
theorem n70:∀{ds es:List D} {xs ys:List V} {as:List Addr},Rps K H B ds xs->Rps K H B es ys->as.length=(xs.zip ys).length->(∀p∈yk0 as (xs.zip ys),H p.1=some p.2/\¬B p.1) ->
  Rps K H B ((ds.zip es).map λp=>D.tup [p.1,p.2]) (as.map V.ref)
 | [],es,xs,ys,as,r1,r2,hl,h=>by
  rw[o8] at r1;subst r1;simp at hl;subst hl;simp[o8]
 | d::ds,[],xs,ys,as,r1,r2,hl,h=>by
  rw[o8] at r2;subst r2;simp at hl;subst hl;simp[o8]
 | d::ds,e::es,xs,ys,as,r1,r2,hl,h=>by
  rw[o6] at r1 r2;obtain⟨x,xs',rfl,a1,a2⟩:=r1;obtain⟨y,ys',rfl,b1,b2⟩:=r2;cases as with
  | nil=>simp at hl
  | cons a as =>
   have h0:=h (a,.tup [x,y]) A5;rw[List.zip_cons_cons,List.map_cons,List.map_cons,o6];refine⟨_,_,rfl,?_,n70 a2 b2 (by simpa using hl) λp hp=>h p (A4 _ hp)⟩;rw[W3];refine⟨a,[x,y],rfl,⟨h0.2,h0.1⟩,?_⟩;rw[o6];refine⟨_,_,rfl,a1,?_⟩;rw[o6];exact⟨_,_,rfl,b1,by rw[o8]⟩
theorem dj0:FnR K (a00 K) rn0:=by
 intro H B xs ds d Q bad r h k;unfold rn0 at h;split at h<;>try cases h
 rename_i ds es;rw[o6] at r;obtain⟨x,r',rfl,r1,r⟩:=r;rw[o6] at r;obtain⟨y,r',rfl,r2,r⟩:=r;rw[o8] at r;subst r;rw[Y6] at r1 r2;obtain⟨q1,us,rfl,s1,t1⟩:=r1;obtain⟨q2,ws,rfl,s2,t2⟩:=r2;refine⟨q1,q2,us,ws,rfl,s1.to,s2.to,λt as hl hnd ht ft fa=>?_⟩;have hfst:(((t,HO.tup (as.map V.ref))::yk0 as (us.zip ws)).map Prod.fst)=t::as:=by rw[List.map_cons,n00 hl]
 have hN:(((t,HO.tup (as.map V.ref))::yk0 as (us.zip ws)).map Prod.fst).Nodup:=by rw[hfst];exact L9.mpr ⟨ht,hnd⟩
 have fr:∀p∈((t,HO.tup (as.map V.ref))::yk0 as (us.zip ws)),H p.1=none:=λp hp=>by
  have:p.1∈t::as:=by rw[← hfst];exact l6 hp
  rcases A9.mp this with e|e
  ·rw[e];exact ft
  ·exact fa _ e
 have sm:Same H (wx0 H ((t,HO.tup (as.map V.ref))::yk0 as (us.zip ws))):=λb u e=>by
  rw[qh0 λp hp z=>by rw[← z,fr p hp] at e;cases e];exact e
 have nb:∀p∈((t,HO.tup (as.map V.ref))::yk0 as (us.zip ws)),¬B p.1:=λp hp z=>bad _ z (fr p hp)
 refine k _ _ sm ?_;rw[W3];refine⟨t,as.map V.ref,rfl,⟨nb _ A5,qj0 hN _ A5⟩,n70 (t1.same sm) (t2.same sm) hl λp hp=>⟨qj0 hN p (A4 _ hp),nb p (A4 _ hp)⟩⟩
end DL
namespace L2
open Spec PyProof.Rows
section
variable{X:Cx}{s:Shared}
theorem Inv.turnedL(I:Inv X pins σ H s)(hf:∀b∈fp,vm0 X pins H b)(k:∀b o,b∉fp->s.heap.get? b=some o->h'.get? b=some o):Inv X pins σ H { s with heap:=h',toks:=t' }:=by
 have nit:∀b u,H b=some u->b∉fp:=λb u e z=>by rw[(hf b z).1] at e;cases e
 refine I.step (g':=s.gens) (d':=s.drawn) (ch:=fp) (λb hb=>⟨(hf b hb).2.2.2.1,(hf b hb).2.1,(hf b hb).2.2.2.2.1,(hf b hb).2.2.2.2.2⟩) (λb o _ _ hc e _=>k b o hc e) (λb o _ _ hc e _=>⟨o.slots,k b o hc e⟩) (λ_ _ _ _ n=>n)
  (λb o hc e=>⟨o,k b o hc e⟩) (λ_ _ e=>e) (λ_ _ _ e=>e) (λb ps e=>⟨#[],by rw[e];simp⟩) (λm hm=>?_) (λb u e=>?_) I.bare
 ·obtain⟨o,es,ep,ho,r⟩:=hm
  exact⟨o,es,ep,k _ o (λz=>(hf _ z).2.1 rfl) ho,r⟩
 ·refine(I.hok b u e).stay (λc v hc q=>k c v ?_ q) (λ_ q=>q) λ_ _ q=>q
  rcases hc with z|z
  ·rw[z];exact nit b u e
  ·exact nit c _ z
theorem Inv.turnedNew{t':Nat}{x y:V}{w:Value}(I:Inv X pins σ H s)(hf:∀b∈fp,vm0 X pins H b)(rx:RelV x u)(ry:RelV y w)(hlt:∀b∈fp,b<s.heap.objs.size)
  (hob:h'.get? s.heap.objs.size=some { cls:=.type "tuple",data:=.seq #[u,w] }) (k:∀b o,b∉fp->s.heap.get? b=some o->h'.get? b=some o) :
  Inv X pins σ (upd H s.heap.objs.size (.tup [x,y])) { s with heap:=h',toks:=t' }/\∀b∈fp,upd H s.heap.objs.size (.tup [x,y]) b=none:=by
 have ne:∀b∈fp,b≠s.heap.objs.size:=λb hb=>A8 (hlt b hb)
 have fr:∀b∈fp,upd H s.heap.objs.size (.tup [x,y]) b=none:=λb hb=>by rw[Z6 (ne b hb)];exact(hf b hb).1
 have I1:Inv X pins σ (upd H s.heap.objs.size (.tup [x,y])) { s with heap:=s.heap.push { cls:=.type "tuple",data:=.seq #[u,w] },toks:=t' } :=
  I.laid (λb o e=>A7 _ e) (A2 _) ⟨(by show 2<=sizeLine;decide),[u,w],.cons rx (.cons ry .nil),⟨_,B3 _ rfl,rfl,_,rfl,rfl⟩⟩
 refine⟨Inv.turnedL (s:={ s with heap:=s.heap.push { cls:=.type "tuple",data:=.seq #[u,w] },toks:=t' }) (t':=t') (fp:=fp) I1 (λb hb=>⟨fr b hb,(hf b hb).2⟩) λb o hb e=>?_,fr⟩;rcases Heap.get?_push_cases e with⟨rfl,rfl⟩|e
 ·exact hob
 ·exact k b o hb e
end
def Itz(K:W.Frag)(a b:Addr):It :=
 ⟨λi H=>∃xs ys x y,SqL K H a xs/\SqL K H b ys/\xs[i]?=some x/\ys[i]?=some y,
   λi H v H'=>∃t x y,v=.ref t/\H t=none/\H'=upd H t (.tup [x,y])/\(∀xs,SqL K H a xs->xs[i]?=some x)/\∀ys,SqL K H b ys->ys[i]?=some y,
   λi H=>∃xs ys,SqL K H a xs/\SqL K H b ys/\(xs.length<=i∨ys.length<=i)⟩
theorem c30{P:Program}{w:World}{x1}{TI TO b:Addr}(D:ZipApart z TI TO i1 i2 a b):Turn P w K (.Tuple elts x1 pos) (Itz K a b) [z,TI,TO,i1,i2] z
  (λi h=>IsZip h z TI TO .none/\IsPair h TI (.ref i1) (.ref i2)/\(∃p q,IsPair h TO p q)/\h.IsListIter i1 a i/\h.IsListIter i2 b i) where
 mem:=by simp
 obj:=λi h st c hc=>by
  obtain⟨hz,hTI,⟨p,q,hTO⟩,⟨o1,e1,c1,d1⟩,⟨o2,e2,c2,d2⟩⟩:=st;simp only[List.mem_cons,List.not_mem_nil,or_false] at hc;rcases hc with rfl|rfl|rfl|rfl|rfl
  ·exact⟨_,hz,λv z=>nomatch z⟩
  ·exact⟨_,hTI,λv z=>nomatch z⟩
  ·exact⟨_,hTO,λv z=>nomatch z⟩
  ·exact⟨_,e1,λv z=>by rw[d1] at z;cases z⟩
  ·exact⟨_,e2,λv z=>by rw[d2] at z;cases z⟩
 keep:=λi h h' st k=>by
  obtain⟨hz,hTI,⟨p,q,hTO⟩,h1,h2⟩:=st;exact⟨k z (by simp) _ hz,k TI (by simp) _ hTI,⟨p,q,k TO (by simp) _ hTO⟩,h1.at λo e=>k i1 (by simp) o e,h2.at λo e=>k i2 (by simp) o e⟩
 item:=by
  intro X hP hw hK hc i pins s σ H E I hf st hg;subst hP hw hK;obtain⟨hz,hTI,⟨p,q,hTO⟩,h1,h2⟩:=st;obtain⟨xs,ys,x,y,hq1,hq2,hx,hy⟩:=hg;obtain⟨us,rv1,p1,z1⟩:=I.list hq1;obtain⟨ws,rv2,p2,z2⟩:=I.list hq2;obtain⟨u,hu,ru⟩:=rv1.get hx;obtain⟨w,hw,rw'⟩:=rv2.get hy;refine wpAny_pyNext_zip_item D hz hTI hTO h1 h2 p1.isList p2.isList (x:=u) (y:=w) (by simpa using hu) (by simpa using hw) λh' a1 a2 a3 a4 a5 a6 hk=>?_
  refine⟨_,rfl,Ck0 (s:={ s with heap:=h' }) a1 λh'' b1 hs=>?_⟩;have lt:∀{c o},s.heap.get? c=some o->c<s.heap.objs.size:=λe=>A3 e
  have lz:=lt hz;have lTO:=lt hTO;have lTI:=lt hTI;obtain⟨o1,e1,_⟩:=id h1;obtain⟨o2,e2,_⟩:=id h2;have l1:=lt e1;have l2:=lt e2;obtain⟨I1,fr⟩:=I.turnedNew (h':=h'') (t':=s.toks) (fp:=[z,TI,TO,i1,i2]) hf ru rw' (λc hc=>by
   simp only[List.mem_cons,List.not_mem_nil,or_false] at hc;rcases hc with rfl|rfl|rfl|rfl|rfl<;>assumption) (hs.extBut _ _ (B9 lz) a5) (λc o hc e=>by
   simp only[List.mem_cons,List.not_mem_nil,or_false,not_or] at hc;exact hs.extBut _ _ hc.1 (hk c o hc.1 hc.2.2.1 hc.2.2.2.1 hc.2.2.2.2 e))
  exact⟨.ref s.heap.objs.size,_,I1,rfl,⟨_,x,y,rfl,I.hok.fresh (A2 _),rfl,λys hy'=>by rw[I.list_inj hy' hq1];exact hx,λys' hy'=>by rw[I.list_inj hy' hq2];exact hy⟩,
   ⟨b1,hs.extBut _ _ D.TIz (hk _ _ D.TIz D.TITO D.TIi1 D.TIi2 hTI),⟨_,_,hs.extBut _ _ D.TOz a2⟩,a3.extBut hs.extBut D.i1z,a4.extBut hs.extBut D.i2z⟩,fr⟩
 done:=by
  intro X hP hw hK hc i pins s σ H E I hf st hg;subst hP hw hK;obtain⟨hz,hTI,⟨p,q,hTO⟩,h1,h2⟩:=st;obtain⟨xs,ys,hq1,hq2,hend⟩:=hg;obtain⟨us,rv1,p1,z1⟩:=I.list hq1;obtain⟨ws,rv2,p2,z2⟩:=I.list hq2;have l1:=rv1.length;have l2:=rv2.length;refine wpAny_pyNext_zip_end (I.ok.hd hc) D hz hTI hTO h1 h2 p1.isList p2.isList (hend.imp (λh=>by simp;omega) λh=>by simp;omega) λh' hk=>⟨rfl,I.turnedL (t':=s.toks) (fp:=[z,TI,TO,i1,i2]) hf λc o hc e=>?_⟩
  simp only[List.mem_cons,List.not_mem_nil,or_false,not_or] at hc;exact hk c o hc.1 hc.2.2.1 hc.2.2.2.1 hc.2.2.2.2 e
 self:=λ_ _ _ _ _ st h=>Q1 st.1 h
def Ite(K:W.Frag)(a:Addr):It :=
 ⟨λi H=>∃xs x,SqL K H a xs/\xs[i]?=some x,
   λi H v H'=>∃t x,v=.ref t/\H t=none/\H'=upd H t (.tup [.int (i:Int),x])/\∀xs,SqL K H a xs->xs[i]?=some x,
   λi H=>∃xs,SqL K H a xs/\xs.length<=i⟩
theorem fo0{P:Program}{w:World}{x1}{e:Addr}(hei:e≠it):Turn P w K (.Tuple elts x1 pos) (Ite K a) [e,it] e
  (λi h=>(∃old,IsEnum h e it i old)/\h.IsListIter it a i) where
 mem:=by simp
 obj:=λi h st c hc=>by
  obtain⟨⟨old,he⟩,⟨o1,e1,c1,d1⟩⟩:=st;simp only[List.mem_cons,List.not_mem_nil,or_false] at hc;rcases hc with rfl|rfl
  ·exact⟨_,he,λv z=>nomatch z⟩
  ·exact⟨_,e1,λv z=>by rw[d1] at z;cases z⟩
 keep:=λi h h' st k=>by
  obtain⟨⟨old,he⟩,h1⟩:=st;exact⟨⟨old,k e (by simp) _ he⟩,h1.at λo x=>k it (by simp) o x⟩
 item:=by
  intro X hP hw hK hc i pins s σ H E I hf st hg;subst hP hw hK;obtain⟨⟨old,he⟩,h1⟩:=st;obtain⟨xs,x,hq,hx⟩:=hg;obtain⟨us,rv,p1,z1⟩:=I.list hq;obtain⟨u,hu,ru⟩:=rv.get hx;refine wpAny_pyNext_enum_item he h1 p1.isList (x:=u) (by simpa using hu) hei λh' a1 a2 a3 a4 hk=>?_
  refine⟨_,rfl,wpAny_letOwnedTupleGo_enum (s:={ s with heap:=h',toks:=s.toks+1 }) a1 λh'' b1 hs=>?_⟩;have le:=A3 he;obtain⟨o1,e1,_⟩:=id h1;have l1:=A3 e1;obtain⟨I1,fr⟩:=I.turnedNew (h':=h'') (t':=s.toks+1) (fp:=[e,it]) (x:=.int (i:Int)) (u:=.int i s.toks) hf ⟨_,rfl⟩ ru (λc hc=>by
   simp only[List.mem_cons,List.not_mem_nil,or_false] at hc;rcases hc with rfl|rfl<;>assumption) ((hs.2 _ (B9 le)).trans a3) (λc o hc x=>by
   simp only[List.mem_cons,List.not_mem_nil,or_false,not_or] at hc;exact(hs.2 _ hc.1).trans (hk c o hc.1 hc.2 x))
  exact⟨.ref s.heap.objs.size,_,I1,rfl,⟨_,x,rfl,I.hok.fresh (A2 _),rfl,λys hy=>by rw[I.list_inj hy hq];exact hx⟩,⟨⟨_,by simpa using b1⟩,a2.at λo y=>(hs.2 it hei.symm).trans y⟩,fr⟩
 done:=by
  intro X hP hw hK hc i pins s σ H E I hf st hg;subst hP hw hK;obtain⟨⟨old,he⟩,h1⟩:=st;obtain⟨xs,hq,hend⟩:=hg;obtain⟨us,rv,p1,z1⟩:=I.list hq;have l1:=rv.length;refine wpAny_pyNext_enum_end (I.ok.hd hc) he h1 p1.isList (by simp;omega) λh' hk=>⟨rfl,I.turnedL (t':=s.toks) (fp:=[e,it]) hf λc o hc x=>?_⟩
  simp only[List.mem_cons,List.not_mem_nil,or_false,not_or] at hc;exact hk c o hc.2 x
 self:=λ_ _ _ _ _ st h=>by
  obtain⟨⟨old,he⟩,_⟩:=st;exact wpAny_pyIter_enum he h
section
variable{X:Cx}
def Vb0(K:W.Frag)(ta:TA):TI:=fun σ H R=>ta σ H λvs H1=>∃a b,vs=[.ref a,.ref b]/\(∃xs,SqL K H1 a xs)/\(∃ys,SqL K H1 b ys)/\R (Itz K a b) H1
theorem boot_zip:bootBuiltins "zip"=some (.type "zip"):=by decide +kernel
theorem f80:bootBuiltins "enumerate"=some (.type "enumerate"):=by decide +kernel
theorem Xy0{a:Expr}{ta:TA}{p pos:Pos}(hg:Gl X "zip")(hm:X.mg "zip"=none)(ha:PA X [a,b] ta)(hs:starEach [a,b] X.env=[(false,eval a X.env),(false,eval b X.env)]:=by rfl)(hs2:starEach [b] X.env=[(false,eval b X.env)]:=by rfl) :
  PI X (.Tuple elts x1 tpos) (.Call (.Name "zip" p) [a,b] [] pos) (Vb0 X.K ta):=by
 intro pins s σ H R I h;refine Call_ (zq0 I hg hm boot_zip (E1 (thn (ha pos pins s σ H _ I h) λus s1 ⟨vs,H1,I1,r1,q1⟩=>?_) (by rw[hs,hs2]) (by rw[hs2];rfl)));obtain⟨qa,qb,e,⟨xs,h1⟩,⟨ys,h2⟩,q⟩:=q1;subst e;cases r1 with
 | cons r rr =>
  cases rr with
  | cons r' rr =>
   cases rr;obtain rfl:=r;obtain rfl:=r';obtain⟨us1,v1,p1,z1⟩:=I1.list h1;obtain⟨us2,v2,p2,z2⟩:=I1.list h2;have a1:qa<s1.heap.objs.size:=by obtain⟨_,e,_⟩:=p1.isList;exact A3 e
   have a2:qb<s1.heap.objs.size:=by obtain⟨_,e,_⟩:=p2.isList;exact A3 e
   refine call_zip_2 p1.isList p2.isList λh' hz hTI hTO hi1 hi2 hsz hk=>?_
   refine Q1 (s:={ s1 with heap:=h' }) hz ?_;refine⟨_,_,_,_,H1,rfl,I1.kept (t':=s1.toks) hk,c30 (l0 a1 a2),⟨hz,hTI,⟨_,_,hTO⟩,hi1,hi2⟩,λb hb=>?_,q⟩;simp only[List.mem_cons,List.not_mem_nil,or_false] at hb;rcases hb with rfl|rfl|rfl|rfl|rfl
   ·exact I1.fpOk (B2 _ 4) (I1.hok.fresh (B2 _ 4))
   ·exact I1.fpOk (B2 _ 2) (I1.hok.fresh (B2 _ 2))
   ·exact I1.fpOk (B2 _ 3) (I1.hok.fresh (B2 _ 3))
   ·exact I1.fpOk (A2 _) (I1.hok.fresh (A2 _))
   ·exact I1.fpOk (B2 _ 1) (I1.hok.fresh (B2 _ 1))
def U20(K:W.Frag)(ta:TA):TI:=fun σ H R=>ta σ H λvs H1=>∃a,vs=[.ref a]/\(∃xs,SqL K H1 a xs)/\R (Ite K a) H1
theorem Zt0{a:Expr}{ta:TA}{p pos:Pos}(hg:Gl X "enumerate")(hm:X.mg "enumerate"=none)(ha:PA X [a] ta)(hs:starEach [a] X.env=[(false,eval a X.env)]:=by rfl) :
  PI X (.Tuple elts x1 tpos) (.Call (.Name "enumerate" p) [a] [] pos) (U20 X.K ta):=by
 intro pins s σ H R I h;refine Call_ (zq0 I hg hm f80 (E1 (thn (ha pos pins s σ H _ I h) λus s1 ⟨vs,H1,I1,r1,q1⟩=>?_) hs rfl));obtain⟨qa,e,⟨xs,h1⟩,q⟩:=q1;subst e;cases r1 with
 | cons r rr =>
  cases rr;obtain rfl:=r;obtain⟨us1,v1,p1,z1⟩:=I1.list h1;refine call_enumerate_list p1.isList λh' hz hi1 hsz hk=>?_
  refine wpAny_pyIter_enum (s:={ s1 with heap:=h' }) hz ?_;refine⟨_,_,_,_,H1,rfl,I1.kept (t':=s1.toks) hk,fo0 (B9 (Ae0 _)),⟨⟨_,hz⟩,hi1⟩,λb hb=>?_,q⟩;simp only[List.mem_cons,List.not_mem_nil,or_false] at hb;rcases hb with rfl|rfl
  ·exact I1.fpOk (B2 _ 1) (I1.hok.fresh (B2 _ 1))
  ·exact I1.fpOk (A2 _) (I1.hok.fresh (A2 _))
end
end L2
namespace DL
open Spec PyProof.Rows L2
section
variable{X:Cx}{a:Expr}
theorem rf0{t:Addr}{x y:V}{d e:D}(hn:¬B t)(ht:H t=some (.tup [x,y]))(r1:Rp K H B d x)(r2:Rp K H B e y):Rp K H B (.tup [d,e]) (.ref t):=by
 rw[W3];refine⟨t,[x,y],rfl,⟨hn,ht⟩,?_⟩;rw[o6];refine⟨_,_,rfl,r1,?_⟩;rw[o6];exact⟨_,_,rfl,r2,by rw[o8]⟩
theorem ip0(hm:X.mg "zip"=none)(ha:PDA X [a,b] gA)(hg:Gl X "zip" := by rfl)(hs:starEach [a,b] X.env=[(false,eval a X.env),(false,eval b X.env)]:=by rfl)(hs2:starEach [b] X.env=[(false,eval b X.env)]:=by rfl) :
  PID X (.Tuple elts x1 tpos) (.Call (.Name "zip" p) [a,b] [] pos) (y80 gA):=.mk λB δ=>L2.PI.imp (Xy0 hg hm (ha B δ) hs hs2) fun σ H R ⟨items,en,e1,k⟩=>by
 unfold y80 at e1;cases e2:gA δ with
 | none=>rw[e2] at e1;cases e1
 | some ds =>
  rw[e2] at e1;simp only[Option.bind_some] at e1;unfold hh0 at e1;split at e1<;>try cases e1
  rename_i ds es;refine⟨_,en,e2,λvs H' s' r=>?_⟩;rw[o6] at r;obtain⟨x,t,rfl,r1,r⟩:=r;rw[o6] at r;obtain⟨y,t,rfl,r2,r⟩:=r;rw[o8] at r;subst r;rw[Y6] at r1 r2;obtain⟨q1,us,rfl,s1,t1⟩:=r1;obtain⟨q2,ws,rfl,s2,t2⟩:=r2;have hlen:((ds.zip es).map λp=>D.tup [p.1,p.2]).length=min us.length ws.length:=by rw[List.length_map,List.length_zip,t1.length,t2.length]
  refine⟨q1,q2,rfl,⟨us,s1.to⟩,⟨ws,s2.to⟩,k _ H' s' ⟨λi H2 g2 hi=>?_,λi H2 v H3 g2 y hi=>?_,λi H2 g2 hi=>?_⟩⟩
  ·rw[hlen] at hi
   have h1:i<us.length:=by omega
   have h2:i<ws.length:=by omega
   exact⟨us,ws,us[i],ws[i],(s1.mono g2).to,(s2.mono g2).to,by simp[h1],by simp[h2]⟩
  ·obtain⟨t,x,y,rfl,ht,rfl,hx,hy⟩:=y
   rw[List.length_map,List.length_zip] at hi;have h1:i<ds.length:=by omega
   have h2:i<es.length:=by omega
   obtain⟨x',e4,rx⟩:=t1.get (i:=i) (C1 h1);obtain⟨y',e5,ry⟩:=t2.get (i:=i) (C1 h2);have ex:=hx us (s1.mono g2).to;have ey:=hy ws (s2.mono g2).to;rw[e4] at ex;rw[e5] at ey;cases ex;cases ey;refine⟨Z9 ht,.tup [ds[i],es[i]],by rw[List.getElem?_map,show (ds.zip es)[i]?=some (ds[i],es[i]) from l7.mpr ⟨C1 h1,C1 h2⟩];rfl,λB' gB hb=>?_⟩;exact rf0 (λz=>hb t z ht) b8 (rx.mono gB) (ry.mono gB)
  ·rw[hlen] at hi
   exact⟨us,ws,(s1.mono g2).to,(s2.mono g2).to,by omega⟩
theorem cp0(hm:X.mg "enumerate"=none)(ha:PDA X [a] gA)(hg:Gl X "enumerate" := by rfl)(hs:starEach [a] X.env=[(false,eval a X.env)]:=by rfl) :
  PID X (.Tuple elts x1 tpos) (.Call (.Name "enumerate" p) [a] [] pos) (ra0 gA):=.mk λB δ=>L2.PI.imp (Zt0 hg hm (ha B δ) hs) fun σ H R ⟨items,en,e1,k⟩=>by
 unfold ra0 at e1;cases e2:gA δ with
 | none=>rw[e2] at e1;cases e1
 | some ds =>
  rw[e2] at e1;simp only[Option.bind_some] at e1;unfold fl0 at e1;split at e1<;>try cases e1
  rename_i ds;refine⟨_,en,e2,λvs H' s' r=>?_⟩;rw[o6] at r;obtain⟨x,t,rfl,r1,r⟩:=r;rw[o8] at r;subst r;rw[Y6] at r1;obtain⟨q1,us,rfl,s1,t1⟩:=r1;have hlen:(xn0 ds).length=us.length:=by unfold xn0;simp[t1.length]
  refine⟨q1,rfl,⟨us,s1.to⟩,k _ H' s' ⟨λi H2 g2 hi=>?_,λi H2 v H3 g2 y hi=>?_,λi H2 g2 hi=>?_⟩⟩
  ·rw[hlen] at hi
   exact⟨us,us[i],(s1.mono g2).to,by simp[hi]⟩
  ·obtain⟨t,x,rfl,ht,rfl,hx⟩:=y
   rw[hlen,t1.length] at hi;obtain⟨x',e4,rx⟩:=t1.get (i:=i) (C1 hi);have ex:=hx us (s1.mono g2).to;rw[e4] at ex;cases ex;refine⟨Z9 ht,.tup [.int (i:Int),ds[i]],by unfold xn0;simp[hi],λB' gB hb=>?_⟩;exact rf0 (λz=>hb t z ht) b8 (by rw[m9]) (rx.mono gB)
  ·rw[hlen] at hi
   exact⟨us,(s1.mono g2).to,hi⟩
end
mutual
theorem ib0(hB:∀a,B a->B' a∨(∃xs,H a=some (.lst xs))∨∃ks xs,H a=some (dOb ks xs)):∀(d:D) (v:V),tree d=true->Rp K H B' d v->Rp K H B d v
 | .non,v,_,r=>by rw[V6] at r ⊢;exact r
 | .bl _,v,_,r=>by rw[X5] at r ⊢;exact r
 | .int _,v,_,r=>by rw[m9] at r ⊢;exact r
 | .str _,v,_,r=>by rw[W0] at r ⊢;exact r
 | .lst _,v,h,_=>by unfold tree at h;cases h
 | .dct _ _,v,h,_=>by unfold tree at h;cases h
 | .tup ds,v,h,r=>by
  unfold tree at h;rw[W3] at r ⊢;obtain⟨a,xs,rfl,q,rs⟩:=r;refine⟨a,xs,rfl,?_,l60 hB ds xs h rs⟩;obtain⟨n,q⟩:=q;refine⟨λz=>?_,q⟩;rcases hB a z with z|⟨ys,z⟩|⟨ks,ys,z⟩
  ·exact n z
  ·rw[z] at q;cases q
  ·rw[z] at q;cases ks<;>cases q
theorem l60(hB:∀a,B a->B' a∨(∃xs,H a=some (.lst xs))∨∃ks xs,H a=some (dOb ks xs)):∀(ds:List D) (vs:List V),trees ds=true->Rps K H B' ds vs->Rps K H B ds vs
 | [],vs,_,r=>by rw[o8] at r ⊢;exact r
 | d::ds,vs,h,r=>by
  unfold trees at h;rw[Bool.and_eq_true] at h;rw[o6] at r ⊢;obtain⟨x,t,rfl,r1,r2⟩:=r;exact⟨x,t,rfl,ib0 hB d x h.1 r1,l60 hB ds t h.2 r2⟩
end
theorem vf0{X:Cx}{g:GE}(h:PD X e g):PD X e (ye0 g):=.mk λB δ pins s σ H Q I ⟨d,en,hq,k⟩=>by
 obtain⟨B',c1,c2,en'⟩:=en.frz;unfold ye0 at hq;cases e1:g (frz δ) with
 | none=>rw[e1] at hq;cases hq
 | some x =>
  rw[e1] at hq
  by_cases hf:tree x=true
  ·simp only[Option.bind_some,if_pos hf] at hq
   cases hq;refine h B' (frz δ) pins s σ H Q I ⟨_,en',e1,λv H' s' r=>k v H' s' (ib0 (λa z=>?_) _ _ hf r)⟩;rcases c2 a z with q|⟨i,d',h1,h2⟩
   ·exact .inl q
   ·obtain⟨o,h3,a',e4,_,ro⟩:=Pd.get en.all h1
    rw[h2] at h3;cases h3;cases e4;cases d'<;>try exact ro.elim
    ·obtain⟨_,_,xs,e5,_⟩:=ro;exact .inr (.inl ⟨xs,s' _ _ e5⟩)
    ·obtain⟨xs,e5,_⟩:=ro;exact .inr (.inl ⟨xs,s' _ _ e5⟩)
    ·obtain⟨xs,e5,_⟩:=ro;exact .inr (.inr ⟨_,_,s' _ _ e5⟩)
  ·simp only[Option.bind_some,if_neg hf] at hq
   cases hq
section
variable{X:Cx}
def Ze0:List V->Hp->VK->Prop:=λvs H Q=>∃a kvs,vs=[.ref a]/\H a=some (.dK kvs)/\∀l,H l=none->Q (.ref l) (upd H l (.dK kvs))
theorem kv0{X:Cx}:CallR X (.type "dict") Ze0:=by
 intro pins s σ H vs us Q I r h;obtain⟨a,kvs,rfl,ha,k⟩:=h;cases r with
 | cons r rr =>
  cases rr;obtain rfl:=r;obtain⟨hz,hS,ws,rv,m⟩:kvs.length<=sizeLine/\(a==sysModules)=false/\∃vs,KV kvs vs/\s.heap.DictOf (K3 X.prog X.w) a vs:=I.hok a _ ha;have hl:kvs.length=ws.length:=u8 rv;have hb:sysModules<s.heap.objs.size:=E6 (by decide) ((I.mod.glob.keeps I.bk).lt:mainGlobals<s.heap.objs.size);refine kt_call_dict hS m (by rw[← hl];exact hz) λh' hd hs=>?_
  have hf:H s.heap.objs.size=none:=I.hok.fresh (A2 _);refine⟨.ref s.heap.objs.size,_,I.laid (a:=s.heap.objs.size) (o:=.dK kvs) (t':=s.toks) (λb o q=>(hs.2 b (A8 (A3 q))).trans (A7 _ q)) (A2 _)
   ⟨hz,T0.mpr (C0 (A8 hb)),ws,rv,hd⟩,rfl,k _ hf⟩
theorem g70(hm:X.mg "dict"=none)(hv:bootBuiltins "dict"=some (.type "dict"))(ha:PD X e g)(hg:Gl X "dict" := by rfl)
  (he:starEach [e] X.env=(false,eval e X.env)::starEach [] X.env:=by rfl) (hpl:(backTo pos (starEach [] X.env)).any (·.1)=false:=by rfl) :
  PDF X (.Call (.Name "dict" p) [e] [] pos) (oA (z9 g v6) vc0):=.mk λB δ=>(u80 kv0 hg hm hv (J4 (ha B δ) y70 he) (by decide) (by decide) he hpl).imp fun σ H Q ⟨d,en,h,k⟩=>by
 unfold oA z9 v6 at h;cases e1:g δ with
 | none=>rw[e1] at h;cases h
 | some x =>
  rw[e1] at h;simp only[Option.bind_some,Option.map_some] at h;refine⟨x,en,e1,λv H1 s1 r1=>?_⟩;cases x<;>try (simp only[vc0] at h;cases h;done)
  rename_i ks ds;cases ks with
  | inr ks=>simp only[vc0] at h;cases h
  | inl ks =>
  simp only[vc0] at h;cases h;rw[sx0] at r1;obtain⟨q,xs,rfl,nq,hq,hl,rr⟩:=r1;exact⟨q,_,rfl,hq,λl hl'=>k l _ (s1.free hl') (s1.trans (Z9 hl')) ⟨xs,b8,hl,rr.mono (Gr.fresh hl')⟩⟩
end
end DL
namespace DL
open Spec PyProof.Rows L2
section
variable{X:Cx}{name:PySem.Str}{id:String}{r:V->List V->Hp->VK->Prop}{f:D->List D->Option D}
theorem gm0{P:Program}{w:World}{mg:PySem.Str->Option Value}{k:Nat}{f:Addr}{fd:FuncData}{ps:List PySem.Str}:FnOk P w K mg base CX0 k f fd ps (spD K λ_=>none) :=
 ⟨λvs H Q E ⟨_,_,_,_,_,h,_⟩=>(by cases h),λA outer s H args us vs Q E _ _ _ _ ⟨_,_,_,_,_,h,_⟩=>(by cases h)⟩
end
section
variable{X:Cx}{a:Expr}{gc:Ds->Option D}
open Builtin Builtin.Str Builtin.Int in
theorem U60{prog:Program}{w:World}{A:Around}{E:Value->Shared->Prop}{s:Shared}{x:Str}{n:Int}{t u:Tok}{Q:Value->Shared->Prop}(hr:(decide (n < -(2 ^ 63:Int))||decide (n ≥ 2 ^ 63))=false)
  (hb:¬n<1->(n==1||x.length==0)=false->¬((x.length:Int) > (2 ^ 63 - 1)/n)) (hl:¬n<1->(n==1||x.length==0)=false->tooLong (x.length*n.toNat)=false)
  (h:(if n<1 then Made.str Str.empty else if (n==1||x.length==0)=true then Made.val (.str x t) else Made.str ⟨(List.replicate n.toNat x.cps).foldl (·++·) #[]⟩).post Q s) :
  wpAny (model prog w) A (binaryOp .Mult (.int n u) (.str x t)) Q E s :=
 PySem.lm_binaryOp_repeat_right (T := "str") (U := "int") (by decide) (λs'=>M1 s' n u) (P3 s x t) PySem.F.fills_int_mul PySem.noFill_str_mul Cm0 PySem.lm_noRepeat_int PySem.repeat_str PySem.F.slot_int_index.lookup
  (call_gives Cm0 (M1 s n u) PySem.F.entry_int_mul (PySem.F.args_int_mul_2 _ _) (PySem.AutoIntG3.int___mul___int_str_0 n u x t)
   ⟨rfl,P3 _ x t,call_gives PySem.F.slot_str_mul (P3 s x t) PySem.F.entry_str_mul (PySem.F.args_str_mul_2 _ _) (gives_str_mul x n t u hr hb hl) h⟩)
end
end DL
namespace ZipL
open Spec PyProof.Rows
abbrev ww0(h:Heap)(z TI TO:Addr)(v:Value)(f:Bool):Prop :=
 h.get? z=some { cls:=.type "zip",dict:=none,data:=.fields #[v,.bool f,.bool false,.ref TI,.ref TO],slots:=#[] }
section
variable{w:World}{s:Shared}
theorem dead{Q:Option Obj->Shared->Prop}(ho:s.heap.get? a=none)(h:Q none s):wpAny (model prog w) A (loadIfAlive a) Q E s:=by
 have h':Q (s.heap.get? a) s:=by rw[ho];exact h
 exact λ_ _ _=>h'
theorem no0{TI TO:Addr}{f:Bool}{Q:Bool->Shared->Prop}(hz:IsZ s.heap z TI TO a f)(ha:s.heap.get? a=none)(hQ:Q true s):wpAny (model prog w) A (Builtin.SmallTypes.ownedTupleIsFree (.ref z)) Q E s:=by
 unfold Builtin.SmallTypes.ownedTupleIsFree;refine A0 (B4 hz rfl (x:=rawInt a) rfl ?_);show wpAny _ _ (loadIfAlive ((a:Int).toNat)>>=_) _ _ _;rw[Int.toNat_natCast];refine A0 (dead ha ?_);simp only[Option.isNone_none,if_true];exact A1 hQ
theorem g60{TI TO:Addr}{v0:Value}{f:Bool}{k1 k2:Nat}{xs ys:Array Value}{x y a b:Value}{Q:Value->Shared->Prop}(D:ZipApart z TI TO i1 i2 l1 l2)
  (hz:ww0 s.heap z TI TO v0 f) (hfree:∀Q':Bool->Shared->Prop,Q' true s->wpAny (model prog w) A (Builtin.SmallTypes.ownedTupleIsFree (.ref z)) Q' E s) (hTI:IsPair s.heap TI (.ref i1) (.ref i2)) (hTO:IsPair s.heap TO a b)
  (h1:s.heap.IsListIter i1 l1 k1) (h2:s.heap.IsListIter i2 l2 k2) (hl1:s.heap.IsList l1 xs) (hl2:s.heap.IsList l2 ys) (hx:xs[k1]?=some x) (hy:ys[k2]?=some y)
  (hQ:∀h',IsZ h' z TI TO s.heap.objs.size false->IsPair h' TO x y->h'.IsListIter i1 l1 (k1+1)->h'.IsListIter i2 l2 (k2+1)->IsPair h' s.heap.objs.size x y->h'.objs.size=s.heap.objs.size+1 ->
   (∀c o,c≠z->c≠TO->c≠i1->c≠i2->s.heap.get? c=some o->h'.get? c=some o)->Q (.ref s.heap.objs.size) { s with heap:=h' }) :
  wpAny (model prog w) A (Builtin.«zip.__next__» ⟨[.ref z],[]⟩) (λfin s'=>∃v,fin=.done (.ret v)/\Q v s') E s:=by
 show wpAny _ _ (field (.ref z) 2>>=_) _ _ _;refine A0 (B4 hz rfl (x:=.bool false) rfl ?_);show wpAny _ _ (field (.ref z) 3>>=_) _ _ _;refine A0 (B4 hz rfl (x:=.ref TI) rfl ?_);refine A0 (C6 hTI rfl ?_);show wpAny _ _ (Builtin.SmallTypes.ownedTupleIsFree (.ref z)>>=_) _ _ _;refine A0 (hfree _ ?_);simp only[if_true];refine A0 (D9 ?_);refine A0 (B4 hz rfl (x:=.ref TO) rfl ?_);refine A0 (D5 hz (by simp) λg1 zg1 e1=>?_)
 replace zg1:ww0 g1 z TI TO .ellipsis f:=zg1
 refine A0 ?_;simp only[List.zipIdx_cons,List.zipIdx_nil,List.forIn_cons,List.forIn_nil];refine A0 (A0 (L0 ?_));show wpAny _ _ (Builtin.SmallTypes.nextOf (.ref i1)>>=_) _ _ _;refine A0 (N2 (h1.extBut e1.extBut D.i1z) (hl1.extBut e1.extBut D.l1z) hx λg2 it1 e2=>A1 ?_);have to2:IsPair g2 TO a b:=e2.extBut _ _ D.TOi1 (e1.extBut _ _ D.TOz hTO);refine A0 (C6 to2 rfl ?_);refine A0 (Q2 to2 λg3 to3 e3=>?_)
 replace to3:IsPair g3 TO x b:=to3
 refine A0 (K2 (A1 ?_));refine A0 (A0 (L0 ?_));show wpAny _ _ (Builtin.SmallTypes.nextOf (.ref i2)>>=_) _ _ _;refine A0 (N2 (((h2.extBut e1.extBut D.i2z).extBut e2.extBut D.i12.symm).extBut e3.extBut D.TOi2.symm) (((hl2.extBut e1.extBut D.l2z).extBut e2.extBut D.l2i1).extBut e3.extBut D.l2TO) hy λg4 it2 e4=>A1 ?_);have to4:IsPair g4 TO x b:=e4.extBut _ _ D.TOi2 to3;refine A0 (C6 to4 rfl ?_);refine A0 (Q2 to4 λg5 to5 e5=>?_)
 replace to5:IsPair g5 TO x y:=to5
 refine A0 (K2 (A1 (A1 ?_)));refine A0 (C6 to5 rfl ?_);refine A0 (k7 (hsz:=by show 2<=sizeLine;decide) ?_);have sz:g5.objs.size=s.heap.objs.size:=by rw[e5.1,e4.1,e3.1,e2.1,e1.1]
 have z5:ww0 g5 z TI TO .ellipsis f:=e5.extBut _ _ D.TOz.symm (e4.extBut _ _ D.i2z.symm (e3.extBut _ _ D.TOz.symm (e2.extBut _ _ D.i1z.symm zg1)));have keep:∀c o,c≠z->c≠TO->c≠i1->c≠i2->s.heap.get? c=some o->g5.get? c=some o:=λc o c1 c2 c3 c4 e=>e5.extBut _ _ c2 (e4.extBut _ _ c4 (e3.extBut _ _ c2 (e2.extBut _ _ c3 (e1.extBut _ _ c1 e))))
 have j1:g5.IsListIter i1 l1 (k1+1):=((it1.extBut e3.extBut D.TOi1.symm).extBut e4.extBut D.i12).extBut e5.extBut D.TOi1.symm;have j2:g5.IsListIter i2 l2 (k2+1):=it2.extBut e5.extBut D.TOi2.symm;have lz:z<g5.objs.size:=A3 z5;show wpAny _ _ (Builtin.SmallTypes.ownedTupleHandOut (.ref z) (.ref g5.objs.size)>>=_) _ _ _;refine A0 ?_;unfold Builtin.SmallTypes.ownedTupleHandOut;have z6:ww0 (g5.push { cls:=.type "tuple",data:=.seq #[x,y] }) z TI TO .ellipsis f:=A7 _ z5;refine A0 (D5 z6 (by simp) λg7 z7 e7=>?_)
 replace z7:ww0 g7 z TI TO (rawInt g5.objs.size) f:=z7
 refine D5 z7 (by simp) λg8 z8 e8=>?_
 replace z8:IsZ g8 z TI TO g5.objs.size false:=z8
 have up:∀c o,c≠z->g5.get? c=some o->g8.get? c=some o:=λc o c1 e=>e8.extBut _ _ c1 (e7.extBut _ _ c1 (A7 _ e))
 have t8:IsPair g8 g5.objs.size x y:=e8.extBut _ _ (B9 lz) (e7.extBut _ _ (B9 lz) (B3 _ rfl));have s8:g8.objs.size=g5.objs.size+1:=by rw[e8.1,e7.1,Heap.size_push]
 rw[sz] at z8 t8 s8;refine A1 ⟨_,rfl,?_⟩;show Q (.ref g5.objs.size) _;rw[sz];exact hQ g8 z8 (up _ _ D.TOz to5) (j1.at λo e=>up _ o D.i1z e) (j2.at λo e=>up _ o D.i2z e) t8 s8 λc o c1 c2 c3 c4 e=>up c o c1 (keep c o c1 c2 c3 c4 e)
theorem f50{TI TO:Addr}{v0:Value}{f:Bool}{k1 k2:Nat}{xs ys:Array Value}{a b:Value}{Q:Fin->Shared->Prop}(hh:A.handled=none)(D:ZipApart z TI TO i1 i2 l1 l2)
  (hz:ww0 s.heap z TI TO v0 f) (hfree:∀Q':Bool->Shared->Prop,Q' true s->wpAny (model prog w) A (Builtin.SmallTypes.ownedTupleIsFree (.ref z)) Q' E s) (hTI:IsPair s.heap TI (.ref i1) (.ref i2)) (hTO:IsPair s.heap TO a b)
  (h1:s.heap.IsListIter i1 l1 k1) (h2:s.heap.IsListIter i2 l2 k2) (hl1:s.heap.IsList l1 xs) (hl2:s.heap.IsList l2 ys) (hend:xs[k1]?=none∨ys[k2]?=none)
  (hE:∀h' e,(∀c o,c≠z->c≠TO->c≠i1->c≠i2->s.heap.get? c=some o->h'.get? c=some o)->(∃o,h'.get? e=some o/\o.cls=.type "StopIteration")->E (.ref e) { s with heap:=h' }) :
  wpAny (model prog w) A (Builtin.«zip.__next__» ⟨[.ref z],[]⟩) Q E s:=by
 show wpAny _ _ (field (.ref z) 2>>=_) _ _ _;refine A0 (B4 hz rfl (x:=.bool false) rfl ?_);show wpAny _ _ (field (.ref z) 3>>=_) _ _ _;refine A0 (B4 hz rfl (x:=.ref TI) rfl ?_);refine A0 (C6 hTI rfl ?_);show wpAny _ _ (Builtin.SmallTypes.ownedTupleIsFree (.ref z)>>=_) _ _ _;refine A0 (hfree _ ?_);simp only[if_true];refine A0 (D9 ?_);refine A0 (B4 hz rfl (x:=.ref TO) rfl ?_);refine A0 (D5 hz (by simp) λg1 zg1 e1=>?_)
 replace zg1:ww0 g1 z TI TO .ellipsis f:=zg1
 refine A0 ?_;simp only[List.zipIdx_cons,List.zipIdx_nil,List.forIn_cons,List.forIn_nil];refine A0 (A0 (L0 ?_));show wpAny _ _ (Builtin.SmallTypes.nextOf (.ref i1)>>=_) _ _ _;cases hx:xs[k1]? with
 | none =>
  refine A0 (Y3 hh (h1.extBut e1.extBut D.i1z) (hl1.extBut e1.extBut D.l1z) hx λg2 e e2 he=>?_);obtain⟨oe,hoe,hce⟩:=he;have z2:ww0 g2 z TI TO .ellipsis f:=e2 _ _ D.i1z.symm zg1;have hez:e≠z:=λx=>by subst x;rw[z2] at hoe;cases hoe;simp at hce
  exact D5 z2 (by simp) λg3 _ e3=>hE g3 e (λc o c1 _ c3 _ x=>e3.extBut _ _ c1 (e2 _ _ c3 (e1.extBut _ _ c1 x))) ⟨oe,e3.extBut _ _ hez hoe,hce⟩
 | some x =>
  have hy:ys[k2]?=none:=by rcases hend with h|h;rw[hx] at h;cases h;exact h
  refine A0 (N2 (h1.extBut e1.extBut D.i1z) (hl1.extBut e1.extBut D.l1z) hx λg2 it1 e2=>A1 ?_);have to2:IsPair g2 TO a b:=e2.extBut _ _ D.TOi1 (e1.extBut _ _ D.TOz hTO);refine A0 (C6 to2 rfl ?_);refine A0 (Q2 to2 λg3 to3 e3=>?_);refine A0 (K2 (A1 ?_));refine A0 (A0 (L0 ?_));show wpAny _ _ (Builtin.SmallTypes.nextOf (.ref i2)>>=_) _ _ _;refine A0 (Y3 hh (((h2.extBut e1.extBut D.i2z).extBut e2.extBut D.i12.symm).extBut e3.extBut D.TOi2.symm) (((hl2.extBut e1.extBut D.l2z).extBut e2.extBut D.l2i1).extBut e3.extBut D.l2TO) hy λg4 e e4 he=>?_);obtain⟨oe,hoe,hce⟩:=he;have z4:ww0 g4 z TI TO .ellipsis f:=e4 _ _ D.i2z.symm (e3.extBut _ _ D.TOz.symm (e2.extBut _ _ D.i1z.symm zg1));have hez:e≠z:=λx=>by subst x;rw[z4] at hoe;cases hoe;simp at hce
  exact D5 z4 (by simp) λg5 _ e5=>hE g5 e (λc o c1 c2 c3 c4 x=>e5.extBut _ _ c1 (e4 _ _ c4 (e3.extBut _ _ c2 (e2.extBut _ _ c3 (e1.extBut _ _ c1 x))))) ⟨oe,e5.extBut _ _ hez hoe,hce⟩
theorem nn0{TI TO:Addr}{f:Bool}{Q:Bool->Shared->Prop}(hz:ww0 s.heap z TI TO .none f)(hQ:Q true s):wpAny (model prog w) A (Builtin.SmallTypes.ownedTupleIsFree (.ref z)) Q E s:=by
 unfold Builtin.SmallTypes.ownedTupleIsFree;exact A0 (B4 hz rfl (x:=.none) rfl (A1 hQ))
theorem Ww0{TI TO:Addr}{f:Bool}(hz:ww0 s.heap z TI TO v f)(h:Q (.ref z) s):wpAny (model prog w) A (pyIter (.ref z)) Q E s:=by
 have hT:s.TypeIs (.ref z) "zip" := ⟨_,hz,rfl⟩;refine wpAny_pyIter_slot hT F.slot_zip_iter (D8 F.slot_zip_iter hT F.entry_zip_iter ?_ (F.args_zip_iter_1 _));exact A1 ⟨_,rfl, "zip",_,hT,D6.lookup,h⟩
def g40(h:Heap)(z TI TO:Addr):Prop:=∃v f,ww0 h z TI TO v f/\(v=.none∨∃a:Addr,v=rawInt a)
theorem gj0{TI TO:Addr}{k1 k2:Nat}{xs ys:Array Value}{x y a b:Value}{Q:Option Value->Shared->Prop}(D:ZipApart z TI TO i1 i2 l1 l2)
  (hz:g40 s.heap z TI TO) (hTI:IsPair s.heap TI (.ref i1) (.ref i2)) (hTO:IsPair s.heap TO a b)
  (h1:s.heap.IsListIter i1 l1 k1) (h2:s.heap.IsListIter i2 l2 k2) (hl1:s.heap.IsList l1 xs) (hl2:s.heap.IsList l2 ys) (hx:xs[k1]?=some x) (hy:ys[k2]?=some y)
  (hQ:∀h',g40 h' z TI TO->(∃p q,IsPair h' TO p q)->h'.IsListIter i1 l1 (k1+1)->h'.IsListIter i2 l2 (k2+1)->IsPair h' s.heap.objs.size x y ->
   (∀c o,c≠z->c≠TO->c≠i1->c≠i2->s.heap.get? c=some o->h'.get? c=some o)->Q (some (.ref s.heap.objs.size)) { s with heap:=h' }) :
  wpAny (model prog w) A (pyNext (.ref z)) Q E s:=by
 obtain⟨v,f,hz,hv⟩:=hz;have hT:s.TypeIs (.ref z) "zip" := ⟨_,hz,rfl⟩;have again:(∀(E':Value->Shared->Prop) (A':Around) (Q':Bool->Shared->Prop),Q' true s->wpAny (model prog w) A' (Builtin.SmallTypes.ownedTupleIsFree (.ref z)) Q' E' s)->wpAny (model prog w) A (pyNext (.ref z)) Q E s:=λhf=>by
  unfold pyNext;exact A0 (N9 (E3 (name:=Str.ofString "__next__") hT D6
   (D8 D6 hT P7
    (g60 D hz (λQ' q=>hf _ _ Q' q) hTI hTO h1 h2 hl1 hl2 hx hy λh' a1 a2 a3 a4 a5 a6 a7=>A1 (hQ h' ⟨_,_,a1,.inr ⟨_,rfl⟩⟩ ⟨_,_,a2⟩ a3 a4 a5 a7)) (P8 _))))
 rcases hv with rfl|⟨a0,rfl⟩
 ·exact again λE' A' Q' q=>nn0 hz q
 ·cases e:s.heap.get? a0 with
  | none=>exact again λE' A' Q' q=>no0 hz e q
  | some oa =>
   exact qt0 D hz e hTI h1 h2 hl1 hl2 hx hy λh' b1 b2 b3 b4 b5 b6=>hQ h' ⟨_,_,b1,.inr ⟨_,rfl⟩⟩ ⟨_,_,b6 _ _ D.TOz D.TOi1 D.TOi2 hTO⟩ b2 b3 b4 λc o c1 _ c3 c4 q=>b6 c o c1 c3 c4 q
theorem pw0{TI TO:Addr}{k1 k2:Nat}{xs ys:Array Value}{a b:Value}{Q:Option Value->Shared->Prop}(hh:A.handled=none)(D:ZipApart z TI TO i1 i2 l1 l2)
  (hz:g40 s.heap z TI TO) (hTI:IsPair s.heap TI (.ref i1) (.ref i2)) (hTO:IsPair s.heap TO a b)
  (h1:s.heap.IsListIter i1 l1 k1) (h2:s.heap.IsListIter i2 l2 k2) (hl1:s.heap.IsList l1 xs) (hl2:s.heap.IsList l2 ys) (hend:xs[k1]?=none∨ys[k2]?=none)
  (hQ:∀h',(∀c o,c≠z->c≠TO->c≠i1->c≠i2->s.heap.get? c=some o->h'.get? c=some o)->Q none { s with heap:=h' }):wpAny (model prog w) A (pyNext (.ref z)) Q E s:=by
 obtain⟨v,f,hz,hv⟩:=hz;have hT:s.TypeIs (.ref z) "zip" := ⟨_,hz,rfl⟩;have again:(∀(E':Value->Shared->Prop) (A':Around) (Q':Bool->Shared->Prop),Q' true s->wpAny (model prog w) A' (Builtin.SmallTypes.ownedTupleIsFree (.ref z)) Q' E' s)->wpAny (model prog w) A (pyNext (.ref z)) Q E s:=λhf=>by
  unfold pyNext;refine A0 (N9 (E3 (name:=Str.ofString "__next__") hT D6
   (D8 D6 hT P7 (f50 hh D hz (λQ' q=>hf _ _ Q' q) hTI hTO h1 h2 hl1 hl2 hend λh' e hk he=>?_) (P8 _))))
  obtain⟨o,ho,hc⟩:=he;refine A0 (k4 (T := "StopIteration") (b:=true) ⟨o,ho,hc⟩ Ah0 ?_);exact A1 (hQ _ hk)
 rcases hv with rfl|⟨a0,rfl⟩
 ·exact again λE' A' Q' q=>nn0 hz q
 ·cases e:s.heap.get? a0 with
  | none=>exact again λE' A' Q' q=>no0 hz e q
  | some oa=>exact uz0 hh D hz e hTI h1 h2 hl1 hl2 hend λh' hk=>hQ h' λc o c1 _ c3 c4 q=>hk c o c1 c3 c4 q
end
end ZipL
namespace L2
open Spec PyProof.Rows
theorem e70{P:Program}{w:World}{TI TO b:Addr}(D:ZipApart z TI TO i1 i2 a b):Turn P w K (.Name nx pos) (Itz K a b) [z,TI,TO,i1,i2] z
  (λi h=>ZipL.g40 h z TI TO/\IsPair h TI (.ref i1) (.ref i2)/\(∃p q,IsPair h TO p q)/\h.IsListIter i1 a i/\h.IsListIter i2 b i) where
 mem:=by simp
 obj:=λi h st c hc=>by
  obtain⟨⟨v,f,hz,_⟩,hTI,⟨p,q,hTO⟩,⟨o1,e1,c1,d1⟩,⟨o2,e2,c2,d2⟩⟩:=st;simp only[List.mem_cons,List.not_mem_nil,or_false] at hc;rcases hc with rfl|rfl|rfl|rfl|rfl
  ·exact⟨_,hz,λv z=>nomatch z⟩
  ·exact⟨_,hTI,λv z=>nomatch z⟩
  ·exact⟨_,hTO,λv z=>nomatch z⟩
  ·exact⟨_,e1,λv z=>by rw[d1] at z;cases z⟩
  ·exact⟨_,e2,λv z=>by rw[d2] at z;cases z⟩
 keep:=λi h h' st k=>by
  obtain⟨⟨v,f,hz,hv⟩,hTI,⟨p,q,hTO⟩,h1,h2⟩:=st;exact⟨⟨v,f,k z (by simp) _ hz,hv⟩,k TI (by simp) _ hTI,⟨p,q,k TO (by simp) _ hTO⟩,h1.at λo e=>k i1 (by simp) o e,h2.at λo e=>k i2 (by simp) o e⟩
 item:=by
  intro X hP hw hK hc i pins s σ H E I hf st hg;subst hP hw hK;obtain⟨hz,hTI,⟨p,q,hTO⟩,h1,h2⟩:=st;obtain⟨xs,ys,x,y,hq1,hq2,hx,hy⟩:=hg;obtain⟨us,rv1,p1,z1⟩:=I.list hq1;obtain⟨ws,rv2,p2,z2⟩:=I.list hq2;obtain⟨u,hu,ru⟩:=rv1.get hx;obtain⟨w,hw,rw'⟩:=rv2.get hy;refine ZipL.gj0 D hz hTI hTO h1 h2 p1.isList p2.isList (x:=u) (y:=w) (by simpa using hu) (by simpa using hw) λh' a1 a2 a3 a4 a5 hk=>?_
  refine⟨_,rfl,?_⟩;unfold letOwnedTupleGo;refine A1 ?_;have lt:∀{c o},s.heap.get? c=some o->c<s.heap.objs.size:=λe=>A3 e
  obtain⟨v0,f0,hz0,_⟩:=id hz;have lz:=lt hz0;have lTO:=lt hTO;have lTI:=lt hTI;obtain⟨o1,e1,_⟩:=id h1;obtain⟨o2,e2,_⟩:=id h2;have l1:=lt e1;have l2:=lt e2;obtain⟨I1,fr⟩:=I.turnedNew (h':=h') (t':=s.toks) (fp:=[z,TI,TO,i1,i2]) hf ru rw' (λc hc=>by
   simp only[List.mem_cons,List.not_mem_nil,or_false] at hc;rcases hc with rfl|rfl|rfl|rfl|rfl<;>assumption) a5 (λc o hc e=>by
   simp only[List.mem_cons,List.not_mem_nil,or_false,not_or] at hc;exact hk c o hc.1 hc.2.2.1 hc.2.2.2.1 hc.2.2.2.2 e)
  exact⟨.ref s.heap.objs.size,_,I1,rfl,⟨_,x,y,rfl,I.hok.fresh (A2 _),rfl,λys hy'=>by rw[I.list_inj hy' hq1];exact hx,λys' hy'=>by rw[I.list_inj hy' hq2];exact hy⟩,
   ⟨a1,hk _ _ D.TIz D.TITO D.TIi1 D.TIi2 hTI,a2,a3,a4⟩,fr⟩
 done:=by
  intro X hP hw hK hc i pins s σ H E I hf st hg;subst hP hw hK;obtain⟨hz,hTI,⟨p,q,hTO⟩,h1,h2⟩:=st;obtain⟨xs,ys,hq1,hq2,hend⟩:=hg;obtain⟨us,rv1,p1,z1⟩:=I.list hq1;obtain⟨ws,rv2,p2,z2⟩:=I.list hq2;have l1:=rv1.length;have l2:=rv2.length;refine ZipL.pw0 (I.ok.hd hc) D hz hTI hTO h1 h2 p1.isList p2.isList (hend.imp (λh=>by simp;omega) λh=>by simp;omega) λh' hk=>⟨rfl,I.turnedL (t':=s.toks) (fp:=[z,TI,TO,i1,i2]) hf λc o hc e=>?_⟩
  simp only[List.mem_cons,List.not_mem_nil,or_false,not_or] at hc;exact hk c o hc.1 hc.2.2.1 hc.2.2.2.1 hc.2.2.2.2 e
 self:=λ_ _ _ _ _ st h=>by
  obtain⟨⟨v,f,hz,_⟩,_⟩:=st;exact ZipL.Ww0 hz h
section
variable{X:Cx}
theorem Zr0{a:Expr}{ta:TA}{p pos:Pos}(hg:Gl X "zip")(hm:X.mg "zip"=none)(ha:PA X [a,b] ta)(hs:starEach [a,b] X.env=[(false,eval a X.env),(false,eval b X.env)]:=by rfl)(hs2:starEach [b] X.env=[(false,eval b X.env)]:=by rfl) :
  PI X (.Name nx tpos) (.Call (.Name "zip" p) [a,b] [] pos) (Vb0 X.K ta):=by
 intro pins s σ H R I h;refine Call_ (zq0 I hg hm boot_zip (E1 (thn (ha pos pins s σ H _ I h) λus s1 ⟨vs,H1,I1,r1,q1⟩=>?_) (by rw[hs,hs2]) (by rw[hs2];rfl)));obtain⟨qa,qb,e,⟨xs,h1⟩,⟨ys,h2⟩,q⟩:=q1;subst e;cases r1 with
 | cons r rr =>
  cases rr with
  | cons r' rr =>
   cases rr;obtain rfl:=r;obtain rfl:=r';obtain⟨us1,v1,p1,z1⟩:=I1.list h1;obtain⟨us2,v2,p2,z2⟩:=I1.list h2;have a1:qa<s1.heap.objs.size:=by obtain⟨_,e,_⟩:=p1.isList;exact A3 e
   have a2:qb<s1.heap.objs.size:=by obtain⟨_,e,_⟩:=p2.isList;exact A3 e
   refine call_zip_2 p1.isList p2.isList λh' hz hTI hTO hi1 hi2 hsz hk=>?_
   refine Q1 (s:={ s1 with heap:=h' }) hz ?_;refine⟨_,_,_,_,H1,rfl,I1.kept (t':=s1.toks) hk,e70 (l0 a1 a2),⟨⟨_,_,hz,.inl rfl⟩,hTI,⟨_,_,hTO⟩,hi1,hi2⟩,λb hb=>?_,q⟩;simp only[List.mem_cons,List.not_mem_nil,or_false] at hb;rcases hb with rfl|rfl|rfl|rfl|rfl
   ·exact I1.fpOk (B2 _ 4) (I1.hok.fresh (B2 _ 4))
   ·exact I1.fpOk (B2 _ 2) (I1.hok.fresh (B2 _ 2))
   ·exact I1.fpOk (B2 _ 3) (I1.hok.fresh (B2 _ 3))
   ·exact I1.fpOk (A2 _) (I1.hok.fresh (A2 _))
   ·exact I1.fpOk (B2 _ 1) (I1.hok.fresh (B2 _ 1))
end
end L2
namespace DL
open Spec PyProof.Rows L2
section
variable{X:Cx}{a:Expr}
theorem k40(hm:X.mg "zip"=none)(ha:PDA X [a,b] gA)(hg:Gl X "zip" := by rfl)(hs:starEach [a,b] X.env=[(false,eval a X.env),(false,eval b X.env)]:=by rfl)(hs2:starEach [b] X.env=[(false,eval b X.env)]:=by rfl) :
  PID X (.Name nx tpos) (.Call (.Name "zip" p) [a,b] [] pos) (y80 gA):=.mk λB δ=>L2.PI.imp (Zr0 hg hm (ha B δ) hs hs2) fun σ H R ⟨items,en,e1,k⟩=>by
 unfold y80 at e1;cases e2:gA δ with
 | none=>rw[e2] at e1;cases e1
 | some ds =>
  rw[e2] at e1;simp only[Option.bind_some] at e1;unfold hh0 at e1;split at e1<;>try cases e1
  rename_i ds es;refine⟨_,en,e2,λvs H' s' r=>?_⟩;rw[o6] at r;obtain⟨x,t,rfl,r1,r⟩:=r;rw[o6] at r;obtain⟨y,t,rfl,r2,r⟩:=r;rw[o8] at r;subst r;rw[Y6] at r1 r2;obtain⟨q1,us,rfl,s1,t1⟩:=r1;obtain⟨q2,ws,rfl,s2,t2⟩:=r2;have hlen:((ds.zip es).map λp=>D.tup [p.1,p.2]).length=min us.length ws.length:=by rw[List.length_map,List.length_zip,t1.length,t2.length]
  refine⟨q1,q2,rfl,⟨us,s1.to⟩,⟨ws,s2.to⟩,k _ H' s' ⟨λi H2 g2 hi=>?_,λi H2 v H3 g2 y hi=>?_,λi H2 g2 hi=>?_⟩⟩
  ·rw[hlen] at hi
   have h1:i<us.length:=by omega
   have h2:i<ws.length:=by omega
   exact⟨us,ws,us[i],ws[i],(s1.mono g2).to,(s2.mono g2).to,by simp[h1],by simp[h2]⟩
  ·obtain⟨t,x,y,rfl,ht,rfl,hx,hy⟩:=y
   rw[List.length_map,List.length_zip] at hi;have h1:i<ds.length:=by omega
   have h2:i<es.length:=by omega
   obtain⟨x',e4,rx⟩:=t1.get (i:=i) (C1 h1);obtain⟨y',e5,ry⟩:=t2.get (i:=i) (C1 h2);have ex:=hx us (s1.mono g2).to;have ey:=hy ws (s2.mono g2).to;rw[e4] at ex;rw[e5] at ey;cases ex;cases ey;refine⟨Z9 ht,.tup [ds[i],es[i]],by rw[List.getElem?_map,show (ds.zip es)[i]?=some (ds[i],es[i]) from l7.mpr ⟨C1 h1,C1 h2⟩];rfl,λB' gB hb=>?_⟩;exact rf0 (λz=>hb t z ht) b8 (rx.mono gB) (ry.mono gB)
  ·rw[hlen] at hi
   exact⟨us,ws,(s1.mono g2).to,(s2.mono g2).to,by omega⟩
end
end DL
namespace L2
open Spec PyProof.Rows
section
variable{X:Cx}
theorem cc0{s:Shared}{d b:Addr}{k:List Key}{v:V}{r:Value}{Q:Unit->Shared->Prop}(hu:A.units+1<cLine)(I:Inv X pins σ H s)(e:H d=some (.dT kvs))(eb:H b=some (.tup (k.map kV)))(l:kvs.length<sizeLine)(rv:RelV v r)
  (h:∀h' tk,Inv X pins σ (upd H d (.dT (putK kvs k v))) { s with heap:=h',toks:=tk }->Heap.SameBut d s.heap h'->Q () { s with heap:=h',toks:=tk }) :
  wpAny (model X.prog X.w) A.in1 (dictSet d (.ref b) r) Q E s:=by
 obtain⟨z,hd,xs,rel,dd⟩:=bp0 I.hok e;have hz:xs.length<=sizeLine:=by rw[← Paired.length rel];exact z
 have hl:(putK kvs k v).length<=sizeLine:=by have:=yu0 kvs k v;omega
 refine wpAny_dictSet_heap (hsz:=hz) (knd:=tupleKind (K3 X.prog X.w)) (k3 hu) (sd0 I.hok eb) dd λh' dd' hs=>h _ _ ?_ hs
 obtain⟨q,es,ep,hq,h2,h3,h4,_,h5⟩:=dd';refine rb0 I (by rw[e];exact True.intro) hs ⟨q,hq⟩ ⟨hl,hd,_,(rel.put k eb rv).keeps λc ys ec=>?_,q,es,ep,hq,h2,h3,h4,h5⟩;rw[Z6 (p70 ec e (λz=>nomatch z))];exact ec
structure PKV where
 p:Addr
 b:Addr
 k:List Key
 v:V
def PKV.ok(H:Hp)(x:PKV):Prop:=H x.p=some (.tup [.ref x.b,x.v])/\H x.b=some (.tup (x.k.map kV))
def putAll(kvs:List (List Key×V))(ps:List PKV):List (List Key×V):=ps.foldl (λacc x=>putK acc x.k x.v) kvs
theorem tf0:plainId "dict.update.loop"=true:=by decide +kernel
theorem lw0:entryFor table "dict.update.loop"=some Builtin.«dict.update.loop»:=entryFor_of_fast (by kernel_rfl)
theorem dm0{l d:Addr}(hh:A.handled=none)(hu:A.units+1<cLine){R:Result->Shared->Prop}{ps:List PKV}(n:Nat):∀(i:Nat) (s:Shared) (H:Hp) (kvs:List (List Key×V)),ps.length - i=n->i<=ps.length->Inv X pins σ H s->vm0 X pins H it->it≠d->it≠l->s.heap.IsListIter it l i ->
  SqL X.K H l (ps.map λx=>V.ref x.p)->(∀x∈ps,x.ok H)->H d=some (.dT kvs)->kvs.length+(ps.length - i)<=sizeLine ->
  (∀s',Inv X pins σ (upd H d (.dT (putAll kvs (ps.drop i)))) s'->R (.ok (.ret .none)) s') ->
  wpAny (model X.prog X.w) A.in1 (Builtin.«dict.update.loop» ⟨[.ref d,.ref it,rawInt i,.none],[]⟩) (λfin s'=>match fin with|.done f=>R (.ok f) s'|.again c'=>c'.quiet=true/\codeAny (model X.prog X.w) A c' R s') (λe s'=>R (.error e) s') s:=by
 induction n with
 | zero =>
  intro i s H kvs hn hi I hf hid hil hit hl hp hd hz hR;obtain⟨its,rv,pl,_⟩:=I.list hl;have hlen:=rv.length;rw[List.length_map] at hlen;unfold Builtin.«dict.update.loop»;refine A0 (wpAny_pyNext_list_end hh hit pl.isList (by simp;omega) λh' hk=>?_);have I1:Inv X pins σ H { s with heap:=h' }:=I.turnedL (t':=s.toks) (fp:=[it]) (λb hb=>by rw[List.mem_singleton.mp hb];exact hf) λb o hb e=>hk _ _ (λz=>hb (by simp[z])) e
  have e:ps.drop i=[]:=by rw[List.drop_eq_nil_iff];omega
  rw[e] at hR;have:=hR _ (show Inv X pins σ (upd H d (.dT (putAll kvs []))) { s with heap:=h' } from by
   rw[show upd H d (.dT (putAll kvs []))=H from by funext c;by_cases q:c=d<;>simp[upd,q,putAll,hd]];exact I1)
  exact A0 (A1 (A1 this))
 | succ n ih =>
  intro i s H kvs hn hi I hf hid hil hit hl hp hd hz hR;obtain⟨its,rv,pl,_⟩:=I.list hl;have hlt:i<ps.length:=by omega
  obtain⟨x,hx⟩:∃x,ps[i]?=some x:=⟨ps[i],by simp[hlt]⟩;have hxm:x∈ps:=D2 hx;obtain⟨hx1,hx2⟩:=hp x hxm;obtain⟨u,hu1,ru⟩:=rv.get (show (ps.map λx=>V.ref x.p)[i]?=some (.ref x.p) by rw[List.getElem?_map,hx];rfl);cases (show u=Value.ref x.p from ru);unfold Builtin.«dict.update.loop»;refine A0 (B30 hit pl.isList (by simpa using hu1) λh' hit' hs=>?_);have I1:Inv X pins σ H { s with heap:=h' }:=I.turnedL (t':=s.toks) (fp:=[it]) (λb hb=>by rw[List.mem_singleton.mp hb];exact hf) λb o hb e=>hs.extBut _ _ (λz=>hb (by simp[z])) e
  obtain⟨its2,rv2,ip,_⟩:=I1.tuple (SqT.of hx1);cases rv2 with
  | cons r1 rr =>
   cases rr with
   | cons r2 rr =>
    cases rr;cases r1;obtain⟨o,ho,hc,nn,hdat⟩:=id ip;rename_i rv0;refine A0 (C7 ?_);refine A0 (wpAny_tryCatch ?_);unfold Builtin.Dict.pairItems;refine A0 (E9 (show Shared.TypeIs _ (.ref x.p) "tuple" from ⟨o,ho,hc⟩) ?_);rw[if_pos (by decide)];refine A0 (C6 ho hdat (A1 ?_));show wpAny _ _ (holding [.ref x.b,rv0] (dictSet d (.ref x.b) rv0)) _ _ _;refine C7 (cc0 (A:=A) hu I1 hd hx2 (by omega) r2 λh2 tk I2 hs2=>?_);have hpd:∀(c:Addr) (us:List V),H c=some (.tup us)->upd H d (.dT (putK kvs x.k x.v)) c=some (.tup us):=λc us ec=>by
     rw[Z6 (p70 ec hd (λz=>nomatch z))];exact ec
    have hc':((i:Int)+1)=((i+1:Nat):Int):=by push_cast;rfl
    refine A1 ⟨N1 tf0 _,?_⟩;rw[hc'];refine O0 lw0 ?_;rw[Around.under_plainId tf0 _];have hdl:l≠d∨True:=.inr trivial;refine ih (i+1) _ (upd H d (.dT (putK kvs x.k x.v))) (putK kvs x.k x.v) (by omega) (by omega) I2 ⟨by rw[Z6 hid];exact hf.1,hf.2⟩ hid hil (hit'.extBut hs2.extBut hid) ?_ (λy hy=>⟨hpd _ _ (hp y hy).1,hpd _ _ (hp y hy).2⟩) b8 (by have:=yu0 kvs x.k x.v;omega) λs' I'=>hR s' ?_
    ·rcases hl with (hl|⟨o',hl⟩)|hl
     ·exact .inl (.inl (by rw[Z6 (p70 hl hd (λz=>nomatch z))];exact hl))
     ·exact .inl (.inr ⟨o',by rw[Z6 (p70 hl hd (λz=>nomatch z))];exact hl⟩)
     ·exact .inr hl
    ·have e1:upd (upd H d (.dT (putK kvs x.k x.v))) d (.dT (putAll (putK kvs x.k x.v) (ps.drop (i+1))))=upd H d (.dT (putAll kvs (ps.drop i))):=by
      have e2:ps.drop i=x::ps.drop (i+1):=by
       rw[List.drop_eq_getElem_cons hlt];have:ps[i]=x:=by
        have:=hx;rw[List.getElem?_eq_getElem hlt] at this;exact B6 this
       rw[this]
      rw[e2]
      funext c
      by_cases q:c=d<;>simp[upd,q,putAll]
     rw[← e1];exact I'
end
theorem es0:typeLookup (.type "list") "keys"=pure none:=by rw[typeLookup_type,builtinLookup_eq_fast];kernel_rfl
theorem e20{prog:Program}{w:World}{A:Around}{E:Value->Shared->Prop}{s:Shared}{a:Addr}{o:Obj}{xs:Array Value}{k:Nat}{Q:Option Value->Shared->Prop}
  (hx:s.heap.get? a=some o) (hc:o.cls=.type "list") (hdat:o.data=.seq xs k) (hd:o.dict=none) (hA:A.handled=none)
  (h:∀h' tk,(∀b ob,s.heap.get? b=some ob->h'.get? b=some ob)->Q none { s with heap:=h',toks:=tk }) :
  wpAny (model prog w) A (getAttr? (.ref a) "keys") Q E s:=by
 obtain⟨c,dct,dat,sl⟩:=o;simp only at hc hdat hd;subst hc hdat hd;obtain⟨hp,g,d,tk,os⟩:=s;have hT:∀tk',(⟨hp,g,d,tk',os⟩:Shared).TypeIs (.ref a) "list" := λ_=>⟨_,hx,rfl⟩
 have f1:=sub_AttributeError;have f3:=PySem.F.slot_list_getattribute.lookup;have f4:=PySem.F.slot_list_getattribute.bind (.ref a);have f5:=am_list_getattr_none;unfold getAttr? getAttrBy? getAttrBy
 repeat (any_goals (first|assumption|exact hT _|((with_reducible show wpAny _ _ (call (Value.builtin "list.__getattribute__") _ _) _ _ _);refine M2 PySem.F.slot_list_getattribute (hT _) am_entry_list_getattribute (PySem.F.args_list_getattribute_2 _ _) (meets_getattribute_miss_list a xs k sl "keys" _ es0 (by decide +kernel)) ⟨hx,hA,λh' tk' e hx'=>?_⟩)|wp_step))
 obtain⟨t',u',he⟩:=hx'.there;show wpAny _ _ (getattributeRaised _ _ _ _ _ _ _) _ _ _;unfold getattributeRaised
 repeat (any_goals (first|assumption|wp_step))
 exact h _ _ hx'.keeps
def Xu0(K:W.Frag):List V->Hp->VK->Prop:=λvs H Q=>∃l ps,vs=[.ref l]/\SqL K H l (ps.map λx:PKV=>V.ref x.p)/\(∀x∈ps,x.ok H)/\ps.length<=sizeLine/\∀d,H d=none->Q (.ref d) (upd H d (.dT (putAll [] ps)))
theorem ga0{X:Cx}(hu:X.A.units+2<cLine)(hcalm:X.calm=true:=by rfl):CallR X (.type "dict") (Xu0 X.K):=by
 intro pins s σ H vs us Q I r h;obtain⟨l,ps,rfl,hl,hp,hz,k⟩:=h;cases r with
 | cons r rr =>
  cases rr;obtain rfl:=r;have hb:sysModules<s.heap.objs.size:=E6 (by decide) ((I.mod.glob.keeps I.bk).lt:mainGlobals<s.heap.objs.size);have hf:H s.heap.objs.size=none:=I.hok.fresh (A2 _);refine Af0 (Q₁:=λobj s₁=>obj=.ref s.heap.objs.size/\s₁={ s with heap:=s.heap.push { cls:=.type "dict",data:=.dict #[] } }) PySem.F.kt_called_dict (PySem.F.kt_typeCall_dict_1 _) PySem.F.entry_dict_init (kt_code_dict_new _ ⟨rfl,rfl⟩) ?_;rintro obj s₁ ⟨rfl,rfl⟩;have I1:Inv X pins σ (upd H s.heap.objs.size (.dT [])) { s with heap:=s.heap.push { cls:=.type "dict",data:=.dict #[] } }:=I.laid (a:=s.heap.objs.size) (o:=.dT []) (t':=s.toks) (λ_ _ q=>A7 _ q) (A2 _) (cm0 s.heap hb);have hT:Shared.TypeIs { s with heap:=s.heap.push { cls:=.type "dict",data:=.dict #[] } } (.ref s.heap.objs.size) "dict" := ⟨_,B3 _ rfl,rfl⟩;have hdne:∀(c:Addr) (o:HO),H c=some o->upd H s.heap.objs.size (.dT []) c=some o:=λc o e=>by rw[Z6 (O8 e hf)];exact e
  have hl1:SqL X.K (upd H s.heap.objs.size (.dT [])) l (ps.map λx:PKV=>V.ref x.p):=by
   rcases hl with (hl|⟨o',hl⟩)|hl
   ·exact .inl (.inl (hdne _ _ hl))
   ·exact .inl (.inr ⟨o',hdne _ _ hl⟩)
   ·exact .inr hl
  obtain⟨its,rv,⟨ol,nl,hol,hcl,hdl,hdat⟩,_⟩:=I1.list hl1;refine⟨hT,PySem.F.args_dict_init_2 _ _,?_⟩;unfold Builtin.«dict.__init__»;refine A0 ?_;unfold Builtin.Dict.selfAndRest;refine A0 (wpAny_notOrdered_dict hT ?_);show wpAny _ _ (pure (s.heap.objs.size,[Value.ref l])) _ _ _;refine A1 ?_;show wpAny _ _ (Builtin.Dict.updateFrom "dict.__init__" s.heap.objs.size (.ref l) [] .none) _ _ _;unfold Builtin.Dict.updateFrom;refine A0 (E9 (show Shared.TypeIs _ (.ref l) "list" from ⟨ol,hol,hcl⟩) ?_);rw[if_pos (by decide)];refine A0 (e20 hol hcl hdat hdl (I.ok.hd hcalm) λh1 tk1 k1=>?_);simp only[Option.isNone_none,if_true];have I2:Inv X pins σ (upd H s.heap.objs.size (.dT [])) { s with heap:=h1,toks:=tk1 }:=I1.kept (t':=tk1) k1;obtain⟨its2,rv2,pl2,_⟩:=I2.list hl1;refine A0 (D9 (A0 (i4 (s:={ s with heap:=h1,toks:=tk1 }) pl2.isList ?_)));refine A1 ⟨N1 tf0 _,O0 lw0 ?_⟩;rw[Around.under_plainId tf0 _];have I3:Inv X pins σ (upd H s.heap.objs.size (.dT [])) { s with heap:=h1.push { cls:=.type "list_iterator",data:=.fields #[.ref l,.int 0 0] },toks:=tk1 }:=I2.kept (t':=tk1) λb o e=>A7 _ e
  have lts:s.heap.objs.size<h1.objs.size:=A3 (k1 _ _ (B3 _ rfl));have hln:h1.objs.size≠l:=by
   obtain⟨ol2,nl2,hol2,_⟩:=pl2;exact B9 (A3 hol2)
  have hfr:upd H s.heap.objs.size (.dT []) h1.objs.size=none:=I2.hok.fresh (A2 _);refine dm0 (X:=X) (pins:=pins) (σ:=σ) (A:=X.A.in1) (it:=h1.objs.size) (l:=l) (d:=s.heap.objs.size) (ps:=ps) (I.ok.hd hcalm) (show X.A.units+1+1<cLine by omega) ps.length 0 _ _ [] (by omega) (C5 _) I3 (I2.fpOk (A2 _) hfr) (B9 lts) hln ?_ hl1 (λx hx=>⟨hdne _ _ (hp x hx).1,hdne _ _ (hp x hx).2⟩) b8 (by simpa using hz) λs' I'=>⟨rfl,?_⟩
  ·exact⟨_,B3 _ rfl,rfl,rfl⟩
  ·refine⟨.ref s.heap.objs.size,_,I',rfl,?_⟩
   have e:upd (upd H s.heap.objs.size (.dT [])) s.heap.objs.size (.dT (putAll [] (ps.drop 0)))=upd H s.heap.objs.size (.dT (putAll [] ps)):=by
    funext c
    by_cases q:c=s.heap.objs.size<;>simp[upd,q]
   rw[e];exact k _ hf
end L2
namespace DL
open Spec PyProof.Rows L2
def O7:List (List V8)->List D->List D->Option (List (List V8)×List D)
 | ks,vs,[]=>some (ks,vs)
 | ks,vs,.tup [a,b]::r=>(xp0 a).bind λk=>O7 (N5 ks k) (K5 ks vs k b) r
 | _,_,_=>none
def uu0:List D->Option D
 | [.lst ds]=>if ds.length<=sizeLine then (O7 [] [] ds).map λr=>.dct (.inr r.1) r.2 else none
 | _=>none
theorem j60{ks:List (List V8)}{vs:List D}{d:D}{r:List (List V8)×List D}(e:O7 ks vs (d::ds)=some r):∃a b k,d=.tup [a,b]/\xp0 a=some k/\O7 (N5 ks k) (K5 ks vs k b) ds=some r:=by
 cases d with
 | tup l =>
  match l,e with
  | [],e=>simp[O7] at e
  | [_],e=>simp[O7] at e
  | [a,b],e =>
   unfold O7 at e;cases h:xp0 a with
   | none=>rw[h] at e;cases e
   | some k=>rw[h] at e;exact⟨a,b,k,rfl,h,e⟩
  | _::_::_::_,e=>simp[O7] at e
 | non=>simp[O7] at e
 | bl _=>simp[O7] at e
 | int _=>simp[O7] at e
 | str _=>simp[O7] at e
 | lst _=>simp[O7] at e
 | dct _ _=>simp[O7] at e
theorem ph0:∀{ds:List D} {xs:List V} {ks:List (List V8)} {vs:List D} {ws:List V} {r:List (List V8)×List D},Rps K H B ds xs->Rps K H B vs ws->ks.length=ws.length->O7 ks vs ds=some r ->
  ∃ps:List PKV,xs=ps.map (λx=>V.ref x.p)/\(∀x∈ps,x.ok H)/\∃ws',putAll (ks.zip ws) ps=r.1.zip ws'/\r.1.length=ws'.length/\Rps K H B r.2 ws'
 | [],xs,ks,vs,ws,r,h1,h2,hl,e=>by
  unfold O7 at e;cases e;rw[o8] at h1;exact⟨[],h1,(λx hx=>by cases hx),ws,rfl,hl,h2⟩
 | d::ds,xs,ks,vs,ws,r,h1,h2,hl,e=>by
  rw[o6] at h1;obtain⟨x,t,rfl,hx,ht⟩:=h1;obtain⟨a,b,k,rfl,e1,e⟩:=j60 e;rw[W3] at hx;obtain⟨p,ys,rfl,hq,hys⟩:=hx;rw[o6] at hys;obtain⟨y1,t1,rfl,hy1,hys⟩:=hys;rw[o6] at hys;obtain⟨y2,t2,rfl,hy2,hys⟩:=hys;rw[o8] at hys;subst hys;obtain⟨kb,rfl,hkb⟩:=kd0 e1 hy1;obtain⟨zs,hz1,hz2,hz3,hz4⟩:=jf0 (q:=k) (v:=y2) hl;have rr:Rps K H B (K5 ks vs k b) zs:=by
   unfold K5;cases hk:O3 ks k with
   | true=>rw[if_pos rfl,hz3 hk];exact td0 hy2 h2
   | false=>rw[if_neg (by simp),hz4 hk];exact Rps.snoc h2 hy2
  obtain⟨ps,q1,q2,ws',q3,q4,q5⟩:=ph0 ht rr hz2 e;refine⟨⟨p,kb,k,y2⟩::ps,by rw[q1];rfl,λx hx=>?_,ws',?_,q4,q5⟩
  ·rcases A9.mp hx with rfl|hx
   ·exact⟨hq.2,hkb⟩
   ·exact q2 x hx
  ·show putAll (putK (ks.zip ws) k y2) ps=_
   rw[hz1];exact q3
section
variable{X:Cx}
theorem nq0(hu:X.A.units+2<cLine)(hcalm:X.calm=true)(hm:X.mg "dict"=none)(hv:bootBuiltins "dict"=some (.type "dict"))(ha:PD X e g)(hg:Gl X "dict" := by rfl)
  (he:starEach [e] X.env=(false,eval e X.env)::starEach [] X.env:=by rfl) (hpl:(backTo pos (starEach [] X.env)).any (·.1)=false:=by rfl) :
  PDF X (.Call (.Name "dict" p) [e] [] pos) (oA (z9 g v6) uu0):=.mk λB δ=>(u80 (ga0 hu hcalm) hg hm hv (J4 (ha B δ) y70 he) (by decide) (by decide) he hpl).imp fun σ H Q ⟨d,en,h,k⟩=>by
 unfold oA z9 v6 at h;cases e1:g δ with
 | none=>rw[e1] at h;cases h
 | some x =>
  rw[e1] at h;simp only[Option.bind_some,Option.map_some] at h;refine⟨x,en,e1,λv H1 s1 r1=>?_⟩;unfold uu0 at h;split at h
  ·rename_i ds he1
   injection he1 with he1
   subst he1;split at h
   ·rename_i hz
    cases e2:O7 [] [] ds with
    | none=>rw[e2] at h;cases h
    | some r =>
     rw[e2] at h;cases h;rw[Y6] at r1;obtain⟨q,xs,rfl,hq,rr⟩:=r1;obtain⟨ps,q1,q2,ws,q3,q4,q5⟩:=ph0 rr (ks:=[]) (vs:=[]) (ws:=[]) (by rw[o8]) rfl e2;refine⟨q,ps,rfl,by rw[← q1];exact hq.to,q2,by have:=rr.length;rw[q1,List.length_map] at this;omega,λl hl'=>?_⟩;have q3:putAll [] ps=r.1.zip ws:=q3;rw[q3];exact k l _ (s1.free hl') (s1.trans (Z9 hl')) ⟨ws,b8,q4,q5.mono (Gr.fresh hl')⟩
   ·cases h
  ·cases h
end
end DL
namespace DL
open Spec PyProof.Rows L2
section
variable{σ:St}
theorem Env.fresh{p:Addr}{o:HO}(e:Env K H B σ δ)(hp:H p=none):Env K (upd H p o) (λa=>B a∨a=p) σ δ:=by
 refine⟨Pd.imp (λv s h=>?_) e.all,λa z=>?_,e.own⟩
 ·cases s with
  | un=>trivial
  | ex c n=>obtain⟨u,q,r⟩:=h;exact⟨u,q,r.mono (Gr.fresh hp)⟩
  | sh d=>obtain⟨u,q,r⟩:=h;exact⟨u,q,r.mono (Gr.fresh hp)⟩
  | ow d =>
   obtain⟨a,q,hb,r⟩:=h;exact⟨a,q,.inl hb,r.mono (λo ho=>by rw[Z6 (O8 ho hp)];exact ho) (Gr.fresh hp)⟩
 ·rcases z with z|z
  ·have:=e.bad a z
   by_cases q:a=p
   ·rw[q,b8];exact λw=>nomatch w
   ·rw[Z6 q];exact this
  ·rw[z,b8];exact λw=>nomatch w
end
def iz0(i:Nat)(g:GE):GS:=fun δ=>match δ[i]? with
 | some (.sh (.int a))=>(g δ).bind λd=>match d with
  | .int b=>some (.nx (δ.set i (.sh (.int (a+b)))))
  | _=>none
 | _=>none
section
variable{X:Cx}
theorem Z30(i:Nat)(hN:X.N.Nodup)(h:PD X e g)(hi:X.N[i]?=some x:=by rfl)(hx:Loc X.env.scope x:=by first|exact Or.inl rfl|exact Or.inr rfl)
  (hf:X.fn x=true∨X.env.scope.names.lookup x=some .local:=by first|exact .inl rfl|exact .inr rfl|assumption):PSD X (.AugAssign (.Name x pos') .Add e pos) (iz0 i g):=.mk λH₀ B₀ δ pins s σ H D I ⟨r,en,e1,k⟩=>by
 unfold iz0 at e1;obtain⟨B,b1,b2,env⟩:=en.ex;split at e1
 ·rename_i a ha
  cases e2:g δ with
  | none=>rw[e2] at e1;cases e1
  | some d =>
   rw[e2] at e1;simp only[Option.bind_some] at e1;cases d<;>simp only at e1<;>try cases e1
   rename_i b;obtain⟨v,hv,rv⟩:=env.get ha;rw[m9] at rv;subst rv;refine Xg0 hN hi hx (h B δ) W80 hf pins s σ H D I ⟨_,hv,.int b,env,e2,λv2 H1 s1 r1=>?_⟩;rw[m9] at r1;subst r1;refine⟨a,b,rfl,rfl,?_⟩;exact k _ H1 (en.wr b1 b2 s1 lg0 ((env.same s1).set i (by rw[m9])))
 ·cases e1
end
def flats(ds:List D):Bool:=ds.all flat
def om0(g:GE):GE:=fun δ=>(g (frz δ)).bind λd=>match d with
 | .lst ds=>if flats ds=true then some (.lst ds) else none
 | _=>none
theorem Zp0{g:GE}(h:g (frz δ)=some (.lst ds))(hf:flats ds=true):om0 g δ=some (.lst ds):=by
 unfold om0;rw[h,Option.bind_some];simp only[];rw[if_pos hf]
section
variable{X:Cx}{g:GE}
theorem oz0:∀{ds:List D} {xs:List V},flats ds=true->Rps K H B ds xs->Rps K H' B' ds xs
 | [],xs,_,r=>by rw[o8] at r ⊢;exact r
 | d::ds,xs,h,r=>by
  rw[o6] at r ⊢;obtain⟨x,r',e1,r1,r2⟩:=r;unfold flats at h;rw[List.all_cons,Bool.and_eq_true] at h;exact⟨x,r',e1,i20 h.1 r1,oz0 (ds:=ds) h.2 r2⟩
theorem dq0(h:PDF X e g):PDF X e (om0 g):=.mk λB δ pins s σ H Q I ⟨d,en,hq,k⟩=>by
 obtain⟨B',c1,c2,en'⟩:=en.frz;unfold om0 at hq;cases e1:g (frz δ) with
 | none=>rw[e1] at hq;cases hq
 | some x =>
  rw[e1,Option.bind_some] at hq;cases x with
  | lst ds =>
   simp only[] at hq
   by_cases hf:flats ds=true
   ·rw[if_pos hf] at hq
    cases hq;exact h B' (frz δ) pins s σ H Q I ⟨_,en',e1,λp H' hp s' r=>k p H' hp s' (by
     obtain⟨xs,e5,r5⟩:=r;exact⟨xs,e5,oz0 hf r5⟩)⟩
   ·rw[if_neg hf] at hq;cases hq
  | non=>cases hq
  | bl _=>cases hq
  | int _=>cases hq
  | str _=>cases hq
  | tup _=>cases hq
  | dct _ _=>cases hq
end
end DL
namespace L2
open Spec PyProof.Rows
def CMulW(i j:Int):Prop:=i.natAbs.log2<=2000000/\j.natAbs.log2<=2000
instance decMulW(i j:Int):Decidable (CMulW i j):=inferInstanceAs (Decidable (i.natAbs.log2<=2000000/\j.natAbs.log2<=2000))
theorem CMulW.ok{i j:Int}(h:CMulW i j):IntMulOk i j:=by
 obtain⟨h1,h2⟩:=h;have b1:Builtin.Int.intBits i<=2000001:=by unfold Builtin.Int.intBits;split<;>omega
 have b2:Builtin.Int.intBits j<=2001:=by unfold Builtin.Int.intBits;split<;>omega
 unfold IntMulOk Builtin.Int.intTooBig;intro h;rw[Bool.and_eq_true] at h;have h3:=c6 h.2;rw[bitsLine_eq] at h3;omega
section
variable{X:Cx}
theorem Zv0:OpR X (binaryOp .Mult) (rI CMulW λi j=>.int (i*j)):=opI λ_ _ _ _ _ _ _ hc q=>mul_int q hc.ok
end
end L2
namespace DL
open Spec PyProof.Rows L2
@[simp] def gt0:D->D->Option D:=ii λi j=>if i.natAbs.log2<=2000000/\j.natAbs.log2<=2000 then some (.int (i*j)) else none
section
variable{X:Cx}{a:Expr}{ga gb:GE}{gA:GA}{ys:List Str}
theorem aj0(ha:PD X a ga)(hb:PD X b gb):PD X (.BinOp a .Mult b pos) (o2 ga gb gt0):=ta0 Zv0 (pj0 (C:=CMulW) (g':=λi j=>.int (i*j)) λ_ _ _ _=>by rw[m9]) ha hb
end
end DL
namespace Att
open PySem.W PySem.Calls PyProof.Rows
theorem jr0(W:Nat):∀ns:List Int,WData.weightAll (ns.map .int)<=W->∀z∈ns,z.natAbs.log2<=W
 | [],_,z,hz=>by cases hz
 | n::ns,h,z,hz=>by
  rw[List.map_cons,WData.weightAll] at h;rcases A9.mp hz with rfl|hz
  ·have h1:WData.weight (.int z)<=W:=by omega
   unfold WData.weight at h1
   by_cases q:z=0
   ·subst q;exact C5 _
   ·rw[if_neg (by simpa using q)] at h1
    omega
  ·exact jr0 W ns (by omega) z hz
theorem lf0{l:OpenLaw}{n:Nat}{q:Program}{loose:List Str}{XP:(Str->Option Value)->Heap->Prop}{YP:World->Heap->Prop}{d:DefRec}
  (hn:l.most=some n) (hdf:d.params.defaults=[])
  (call:∀(w:World) (s₀ s₁:Shared) (mg mb:Str->Option Value) (fa:Addr) (o:Obj) (pm cd doc:Value) (a:Addr) (vs:List Value) (ns:List Int),
   Ground q loose [] XP w s₀ mg mb s₁.heap->YP w s₁.heap ->
   s₁.heap.get? fa=some o->o.data=.func (docDef d.name d.params d.body d.scope pm cd doc)->s₁.heap.CodeRec cd d.name->mg d.name=some (.ref fa) ->
   s₁.heap.get? a=some { cls:=.type "list",data:=.seq vs.toArray }->IntsAre vs ns->ns.length<=n->(∀z∈ns,z.natAbs.log2<=1048576)->s₁.gens=#[] ->
   codeAny (model l.prog w) callerA (.call (.ref fa) ⟨[.ref a],[]⟩) (λr s'=>r=.ok (.ret (.bool true))/\OldK s₁.heap s'.heap/\s'.os=s₁.os/\AllBare s'.gens) s₁) :
  WalkO q loose XP YP l.row.toRowW d [] (λf vs=>PySem.call f vs):=by
 intro w s₀ s₁ mg mb G Y fa o pm cd doc dV kV ho hd hcd hD hmg hg args vals as hpre hlay hrd hwl hlo;obtain rfl:dV=.none:=Dflts.none hD hdf;obtain rfl:kV=.none:=Dflts.noKw hD;obtain⟨a,vs,ns,rfl,rfl,hobj,hints,hlen⟩:=ey0 hn hpre hwl;have hw:∀z∈ns,z.natAbs.log2<=1048576:=by
  have h1:(WData.layable (.list (ns.map .int))&&true)=true:=hlay;rw[Bool.and_true] at h1;unfold WData.layable at h1;rw[Bool.and_eq_true] at h1;have h2:WData.weight (.list (ns.map .int))<=2 ^ 20:=c6 h1.2;rw[WData.weight] at h2;exact jr0 (2 ^ 20) ns h2
 refine enter_call (x5 (call w s₀ s₁ mg mb fa o pm cd doc a vs ns G Y ho (fd_plain hd) hcd hmg hobj hints hlen hw hg) λr s' hq=>?_);obtain⟨rfl,h2,h3,h4⟩:=hq;exact⟨.inl ⟨.bool true,.bool true,[],rfl,λ_=>rfl,.bool true,d30 l _,λ_=>⟨List.Pairwise.nil,λ_ hm=>(nomatch hm)⟩⟩,h2,h3,h4⟩
end Att
namespace L2
open Spec PyProof.Rows
theorem b20{l:W.OpenLaw}{n k:Nat}{q:Program}{loose:List Str}{XP:(Str->Option Value)->Heap->Prop}{YP:World->Heap->Prop}{d:DefRec}{K:Params->W.Frag}{CX:CXT}{sp:W.Frag->Sp}{x:Str}
  (hn:l.most=some n) (hn2:n<=sizeLine) (hdf:d.params.defaults=[]) (hr:Room k callerA)
  (hY:∀(w:World) (h:Heap),YP w h->(K w.params).In h)
  (F:∀(w:World) (mg:Str->Option Value) (fa:Addr) (h:Heap),(K w.params).In h->h.Ns mainGlobals mg->mg d.name=some (.ref fa) ->
   ∃fd:FuncData,(∀(s:Shared) (u:Value),BindsTo s fd ⟨[u],[]⟩ [(x,u)]) /\
    ∀base:Heap,(K w.params).In base->base.Ns mainGlobals mg->FnOk l.prog w (K w.params) mg base CX k fa fd [x] (sp (K w.params)))
  (hsp:∀(K:W.Frag) (H:Hp) (a:Addr) (ns:List Int),ns.length<=n->(∀z∈ns,z.natAbs.log2<=1048576)->Only H->SqL K H a (ns.map V.int)->sp K [.ref a] H (λv _=>v=.bl true) λ_ _ _=>False)
  (hCX:∀(H:Hp) (s:Shared) (e:Value) (s':Shared),CX [] H s (λ_ _ _=>False) e s'->False) :
  W.WalkO q loose XP YP l.row.toRowW d [] (λf vs=>PySem.call f vs):=by
 refine Att.lf0 hn hdf λw s₀ s₁ mg mb fa o pm cd doc a vs ns G Y ho hd hcd hmg hobj hints hlen hw hg=>?_
 have KX:=hY w _ Y;obtain⟨fd,hb,hF⟩:=F w mg fa _ KX G.T.g hmg;exact dy0 KX G.T.g G.T.b G.T.builtins G.T.nolimit hg hobj hints (B7 hlen hn2) hr hF hb (λH hO hS=>hsp (K w.params) H a ns hlen hw hO hS) λH e s'=>hCX H s₁ e s'
section
variable{X:Cx}
def Tf0:V->List V->Hp->VK->Prop:=λx vs H Q=>∃l xs y k,x=.ref l/\vs=[.int ((k:Nat):Int),y]/\H l=some (.lst xs)/\k<=xs.length/\xs.length<sizeLine/\Q .non (upd H l (.lst (xs.take k++y::xs.drop k)))
theorem lo0:∀{xs:List V} {us:List Value} {y:V} {u:Value} (k:Nat),Vals xs us->RelV y u->Vals (xs.take k++y::xs.drop k) (us.take k++u::us.drop k)
 | _,_,_,_,0,h,r=>.cons r h
 | _,_,_,_,k+1,.nil,r=>.cons r .nil
 | _,_,_,_,k+1,.cons q t,r=>.cons q (lo0 k t r)
theorem Yu0:MtM X "list.insert" Tf0:=by
 intro pins s σ H x vs v us Q I rx rv h;obtain⟨l,xs,y,k,rfl,rfl,hH,hk,hz,q⟩:=h;cases rx;obtain⟨u0,u,rfl,ru0,ru⟩:=rv.two;obtain⟨t0,rfl⟩:=ru0;obtain⟨z,its,n,r,hl,e⟩:=I.lstM hH;have hlen:its.length=xs.length:=r.length.symm;have hsl:sizeLine<2 ^ 62:=by decide
 obtain⟨K,hK⟩:∃K:Int,K=((k:Nat):Int):=⟨_,rfl⟩;rw[← hK];have hfit:Builtin.List.listFitsIndex K=true:=by
  unfold Builtin.List.listFitsIndex;rw[Bool.and_eq_true];exact⟨L1 (by omega),L1 (by omega)⟩
 have hc0:¬(!Builtin.List.listFitsIndex K)=true:=by rw[hfit];decide
 have hsz:its.toArray.size<=sizeLine:=by rw[List.size_toArray];omega
 have e1:(if K<0 then (K+((its.toArray.size:Nat):Int)).toNat else min K.toNat its.toArray.size)=k:=by
  rw[if_neg (by omega),List.size_toArray,Nat.min_eq_left (by omega)];omega
 refine M2 F.slot_list_insert ⟨_,e,rfl⟩ F.entry_list_insert (F.args_list_insert_3 (.ref l) (.int K t0) u) (PySem.AutoListH.list_insert_list_int_val_1 l its.toArray n K t0 u hc0 hsz) ⟨e,?_⟩;refine⟨.non,_,I.lset (its':=its.take k++u::its.drop k) hH e ?_ (lo0 k r ru) ?_,rfl,q⟩
 ·show (its.toArray.extract 0 (if K<0 then (K+((its.toArray.size:Nat):Int)).toNat else min K.toNat its.toArray.size)).push u++its.toArray.extract (if K<0 then (K+((its.toArray.size:Nat):Int)).toNat else min K.toNat its.toArray.size)=_
  rw[e1];apply Array.toList_inj.mp;simp;exact List.take_of_length_le (by rw[List.length_drop];omega)
 ·rw[List.length_append,List.length_cons,List.length_take,List.length_drop];omega
end
end L2
namespace DL
open Spec PyProof.Rows L2
def qk0(i:Nat)(gk g:GE):GX:=fun δ=>(owL i δ).bind λds=>(gk δ).bind λk=>(g δ).bind λd=>match k with
 | .int n=>if 0<=n/\n<=ds.length/\ds.length<sizeLine then some (.non,δ.set i (.ow (.lst (ds.take n.toNat++d::ds.drop n.toNat)))) else none
 | _=>none
section
variable{X:Cx}{e0:Expr}{g:GE}{gA:GA}
theorem Wo0(i:Nat)(h0:PD X e0 g0)(h:PD X e g)(hN:X.N[i]?=some x:=by rfl)(hv:Vis X.env.scope x:=by first|exact Or.inl rfl|exact Or.inr (Or.inl rfl)|exact Or.inr (Or.inr rfl))(hd:(x==("__debug__" : Str))=false:=by decide)(hcd:(x==("__classdict__" : Str))=false:=by decide)
  (hbase:attributeBase (.Name x px) "insert" X.env (eval (.Name x px) X.env)=eval (.Name x px) X.env:=by rfl)
  (hfew:((backTo cpos (starEach [e0,e] X.env)).all (λx=>!x.1)&&(backToKw cpos (keywordEach [] X.env)).all (λx=>x.1.isSome)
  &&decide (([e0,e]:List Expr).length+([]:List Keyword).length+(if ([]:List Keyword).isEmpty then 0 else 1)<30))=true:=by rfl)
  (hline:(apos.endLine==cpos.line)=true:=by rfl) (hs:starEach [e0,e] X.env=(false,eval e0 X.env)::starEach [e] X.env:=by rfl) (hs1:starEach [e] X.env=(false,eval e X.env)::starEach [] X.env:=by rfl) (hplain:(backTo cpos (starEach [e] X.env)).any (·.1)=false:=by rfl) :
  PX X (.Call (.Attribute (.Name x px) "insert" apos) [e0,e] [] cpos) (qk0 i g0 g):=.mk λH₀ B₀ δ pins s σ H Q I ⟨r,en,e1,k⟩=>by
 unfold qk0 at e1;obtain⟨B,b1,b2,env⟩:=en.ex;cases e2:owL i δ with
 | none=>rw[e2] at e1;cases e1
 | some ds =>
  cases e4:g0 δ with
  | none=>rw[e2,e4] at e1;cases e1
  | some d0 =>
   cases e3:g δ with
   | none=>rw[e2,e4,e3] at e1;cases e1
   | some d =>
    rw[e2,e4,e3] at e1;simp only[Option.bind_some] at e1;cases d0<;>simp only[] at e1<;>try cases e1
    rename_i n;split at e1
    ·rename_i hz
     cases e1;have hi:=s80 e2;obtain⟨a,hs',hb,xs,hx,rx⟩:=env.at hi;refine pm0 X1 PySem.F.slot_list_insert PySem.F.type_list_insert Yu0 (yv0 (i:=i) hN hv hd hcd) (J4 (h0 B δ) (J4 (h B δ) y70 hs1) hs) hbase hfew hline hs hplain pins s σ H Q I
      ⟨_,hs',.inl ⟨rfl,xs,.inl (.inl hx)⟩,.int n,env,e4,λv0 H0 s0 r0=>⟨d,env.same s0,e3,λv H1 s1 r1=>?_⟩⟩
     rw[m9] at r0;subst r0;refine⟨a,xs,v,n.toNat,rfl,by rw[Int.toNat_of_nonneg hz.1],s1 _ _ (s0 _ _ hx),by rw[rx.length];omega,by rw[rx.length];exact hz.2.2,?_⟩;have s01:=s0.trans s1;have env2:Env X.K (upd H1 a (.lst (xs.take n.toNat++v::xs.drop n.toNat))) B σ (δ.set i (.ow (.lst (ds.take n.toNat++d::ds.drop n.toNat)))):=(env.same s01).mut hi hs' ⟨_,b8,by
      have r2:Rps X.K (upd H1 a (.lst (xs.take n.toNat++v::xs.drop n.toNat))) B ds xs:=(rx.same s01).mono (Gr.own hb);refine(r2.take _).append ?_;rw[o6];exact⟨v,_,rfl,r1.mono (Gr.own hb),r2.drop _⟩⟩
     exact k _ _ (EnvV.mk' (en.mut s01 b1 b2 hi hs' env2) b1 b2 env2 (by rw[V6]))
    ·cases e1
end
end DL
namespace L2
open Spec PyProof.Rows
section
variable{X:Cx}
theorem fk0{s:Shared}{d:Addr}{kvs:List (Key×V)}{k:Key}{v:V}{r:Value}{Q:Unit->Shared->Prop}(I:Inv X pins σ H s)(e:H d=some (.dK kvs))(l:kvs.length<sizeLine)(rk:RelV (kV k) u)(rv:RelV v r)
  (h:∀h' tk,Inv X pins σ (upd H d (.dK (putK kvs k v))) { s with heap:=h',toks:=tk }->Heap.SameBut d s.heap h'->Q () { s with heap:=h',toks:=tk }) :
  wpAny (model X.prog X.w) A (dictSet d u r) Q E s:=by
 obtain⟨z,hd,vs,rel,dd⟩:=iw0 I.hok e;have hz:vs.length<=sizeLine:=by rw[← rel.length];exact z
 have hl:(putK kvs k v).length<=sizeLine:=by have:=yu0 kvs k v;omega
 refine wpAny_dictSet_pairs (hsz:=hz) (qx0 rk) dd λh' dd' hs=>h _ _ ?_ hs
 have he:∃q,h'.get? d=some q:=let ⟨q,_,_,hq,_⟩:=dd';⟨q,hq⟩
 exact rb0 I (by rw[e];exact True.intro) hs he (et0 hl hd (rel.put k rv) dd')
end
end L2
namespace L2
open Spec PyProof.Rows
open PySem.AutoSeq1 (wpAny_loadPart')
section
variable{w:World}{s:Shared}
theorem wz0{l:Addr}{items}{x:Value}{Q:Value->Shared->Prop}(hit:s.heap.IsTupleIter it l i)(hl:s.heap.IsTuple l items)(hx:items[i]?=some x)
  (hQ:∀h',h'.IsTupleIter it l (i+1)->Heap.SameBut it s.heap h'->Q x { s with heap:=h' }):wpAny (model prog w) A (Builtin.SmallTypes.nextOf (.ref it)) Q E s:=by
 obtain⟨o,ho,hc,hd⟩:=id hit;obtain⟨ol,hol,_,nl,hdl⟩:=hl;unfold Builtin.SmallTypes.nextOf;refine A0 (E3 (name:=Str.ofString "__next__") hit.typeIs l9
  (D8 l9 hit.typeIs Cp0 ?_ (Cq0 _)))
 show wpAny _ _ (field (.ref it) 0>>=_) _ _ s;refine A0 (B4 ho hd (x:=.ref l) rfl ?_);show wpAny _ _ (if (Value.ref l==Value.none)=true then _ else _) _ _ s;rw[if_neg (show ¬((Value.ref l==Value.none)=true) from B0)];show wpAny _ _ (field (.ref it) 1>>=_) _ _ s;refine A0 (B4 ho hd (x:=.int i 0) rfl ?_);show wpAny _ _ (seqItems? (.ref l)>>=_) _ _ s;refine A0 (C6 hol hdl ?_);simp only[Int.toNat_natCast,hx];refine A0 (Ak0 ho hd (by simp) (A1 ⟨x,rfl,A1 (hQ _ ?_ (Heap.SameBut.update ..))⟩));exact⟨_,Y1 _ ho (Obj.isFreed_of_fields (Obj.data_mapFields hd _)),(Obj.cls_mapFields ..).trans hc,by
  rw[Obj.data_mapFields hd];simp[rawInt]⟩
theorem qb0{l:Addr}{items}{Q:Value->Shared->Prop}(hh:A.handled=none)(hit:s.heap.IsTupleIter it l i)(hl:s.heap.IsTuple l items)(hx:items[i]?=none)
  (hE:∀h' e,Heap.ExtBut it s.heap h'->(∃o,h'.get? e=some o/\o.cls=.type "StopIteration")->E (.ref e) { s with heap:=h' }):wpAny (model prog w) A (Builtin.SmallTypes.nextOf (.ref it)) Q E s:=by
 obtain⟨o,ho,hc,hd⟩:=id hit;obtain⟨ol,hol,_,nl,hdl⟩:=hl;unfold Builtin.SmallTypes.nextOf;refine A0 (E3 (name:=Str.ofString "__next__") hit.typeIs l9
  (D8 l9 hit.typeIs Cp0 ?_ (Cq0 _)))
 show wpAny _ _ (field (.ref it) 0>>=_) _ _ s;refine A0 (B4 ho hd (x:=.ref l) rfl ?_);show wpAny _ _ (if (Value.ref l==Value.none)=true then _ else _) _ _ s;rw[if_neg (show ¬((Value.ref l==Value.none)=true) from B0)];show wpAny _ _ (field (.ref it) 1>>=_) _ _ s;refine A0 (B4 ho hd (x:=.int i 0) rfl ?_);show wpAny _ _ (seqItems? (.ref l)>>=_) _ _ s;refine A0 (C6 hol hdl ?_);simp only[Int.toNat_natCast,hx]
 first
  | refine A0 (D9 (A0 (Ak0 ho hd (by simp) ?_)))
  | refine A0 (D9 (A0 (Ak0 ho hd (by simp) (A0 (K2 ?_)))))
 show wpAny _ _ (newExc (.type "StopIteration") []>>=_) _ _ _;refine A0 ?_;simp only[newExc,newTuple];refine A0 (E4 ?_ (by size_fits));refine A0 (m:=firstArgMember _ _) (wpAny_of_eq (a:=Value.none) (by first|rfl|(simp only[firstArgMember];rfl)) ?_);refine E4 ?_ (by size_fits);simp only[raiseNew];refine A0 (wpAny_handled ?_)
 first|rw[show A.in1.handled=none from hh]|rw[hh]
 refine A0 (A1 (wpAny_throw ?_));exact hE _ _ (((Heap.SameBut.update ..).extBut.push _).push _) ⟨_,B3 _ rfl,rfl⟩
theorem to0{h:Heap}{l:Addr}(x:h.IsTupleIter it l i)(k:∀o,h.get? it=some o->h'.get? it=some o):h'.IsTupleIter it l i:=let ⟨o,e,r⟩:=x;⟨o,k o e,r⟩
end
end L2
namespace L2
open Spec PyProof.Rows
open PySem.AutoSeq1 (wpAny_loadPart')
section
variable{w:World}{s:Shared}{TI TO:Addr}{k2:Nat}{x a b:Value}
theorem zi0{h:Heap}{l c:Addr}(q:h.IsTupleIter it l i)(e:Heap.ExtBut c h h')(n:it≠c):h'.IsTupleIter it l i:=to0 q λo p=>e _ _ n p
def gq0(z TO i1 i2:Addr)(h h':Heap):Prop:=∀c o,c≠z->c≠TO->c≠i1->c≠i2->h.get? c=some o->h'.get? c=some o
end
abbrev wkT(h:Heap)(l:Addr):Heap:=h.push { cls:=.type "tuple_iterator",data:=.fields #[.ref l,.int 0 0] }
end L2
namespace DL
open Spec PyProof.Rows L2
def lent(p:Addr)(l:List D):D:=.tup [.int (p:Int),.lst l]
def But(p:Addr)(H H':Hp):Prop:=∀b o,b≠p->H b=some o->H' b=some o
section
variable{σ:St}
theorem q70{p:Addr}:RpL K H B (lent p l) a↔a=p/\∃xs,H a=some (.lst xs)/\Rps K H B l xs:=by
 constructor
 ·rintro⟨ds,e,xs,h,r⟩
  cases e;exact⟨rfl,xs,h,r⟩
 ·rintro⟨rfl,xs,h,r⟩
  exact⟨l,rfl,xs,h,r⟩
theorem Gr.but{p:Addr}(hb:B p)(h:But p H H'):Gr H H' B B:=λb u n e=>⟨n,h b u (λz=>n (z▸hb)) e⟩
theorem Env.mutB(e:Env K H B σ δ){d:D}(hi:δ[i]?=some (.ow d0))(hs:σ[i]?=some (some (.ref a)))(hh:But a H H')(r:RpL K H' B d a):Env K H' B σ (δ.set i (.ow d)):=by
 obtain⟨a',h1,hb,_⟩:=e.at hi;rw[hs] at h1;cases h1;refine⟨?_,λb z=>?_,λj k b ds es h1 h2 h3 h4=>?_⟩
 ·have h0:Paired (λ(o':Option V) (s:Sl)=>SlR K H' B o' s∨(∃d,s=.ow d/\o'=some (.ref a))) σ δ:=Pd.imp (λo' s h=>by
   cases s with
   | un=>exact .inl trivial
   | ex c n=>obtain⟨v,e,r⟩:=h;exact .inl ⟨v,e,r.mono (Gr.but hb hh)⟩
   | sh d=>obtain⟨v,e,r⟩:=h;exact .inl ⟨v,e,r.mono (Gr.but hb hh)⟩
   | ow d =>
    obtain⟨b,e,hb',r⟩:=h
    by_cases z:b=a
    ·subst z;exact .inr ⟨d,rfl,e⟩
    ·exact .inl ⟨b,e,hb',r.mono (λo h=>hh b o z h) (Gr.but hb hh)⟩) e.all
  have h1:=Pd.setR (i:=i) (b:=Sl.ow d) (.inl ⟨a,rfl,hb,r⟩) hs h0;refine Pd.impI (λj o' s e1 e2 h=>?_) h1;rcases h with h|⟨d',rfl,rfl⟩
  ·exact h
  ·rcases get_set e2 with⟨rfl,e3,_⟩|⟨hne,e3⟩
   ·cases e3;exact⟨a,rfl,hb,r⟩
   ·exact absurd (e.own i j a d0 d' hi e3 hs e1) hne
 ·by_cases z':b=a
  ·subst z';exact r.live
  ·cases q:H b with
   | none=>exact absurd q (e.bad b z)
   | some o=>rw[hh b o z' q];exact λz=>nomatch z
 ·have q1:∃d,δ[j]?=some (.ow d):=by
   rcases get_set h1 with⟨rfl,_,_⟩|⟨_,h⟩
   ·exact⟨_,hi⟩
   ·exact⟨_,h⟩
  have q2:∃d,δ[k]?=some (.ow d):=by
   rcases get_set h2 with⟨rfl,_,_⟩|⟨_,h⟩
   ·exact⟨_,hi⟩
   ·exact⟨_,h⟩
  obtain⟨d1,q1⟩:=q1;obtain⟨d2,q2⟩:=q2;exact e.own j k b d1 d2 q1 q2 h3 h4
theorem EnvS.mutB(en:EnvS K H₀ B₀ H σ δ)(b1:∀a,B₀ a->B a)(b2:∀a,B a->B₀ a∨H₀ a=none){d:D}(hi:δ[i]?=some (.ow d0))(hs:σ[i]?=some (some (.ref a)))(hh:But a H H')
  (env:Env K H' B σ (δ.set i (.ow d))):EnvS K H₀ B₀ H' σ (δ.set i (.ow d)):=by
 have h0:=en.fr i d0 a hi hs;refine⟨λb u h=>?_,⟨B,b1,b2,env⟩,λj ds b h1 h2=>?_,en.b0⟩
 ·have:b≠a:=λz=>by rw[z,h0] at h;cases h
  exact hh _ _ this (en.same b u h)
 ·rcases get_set h1 with⟨rfl,_,_⟩|⟨_,h⟩
  ·rw[hs] at h2;cases h2;exact h0
  ·exact en.fr j ds b h h2
end
def spM(K:W.Frag)(me:Bool)(f:List D->Option (List D)):Sp:=λvs H Q _=>∃(B:BS) (ds:List D) (us:List V) (p:Addr) (l l':List D),(∀a,B a->H a≠none)/\B p/\vs=us++[.ref p]/\Rps K H B ds us/\(∃xs,H p=some (.lst xs)/\Rps K H B l xs)/\f (ds++[.lst l])=some l' /\
 ∀H',But p H H'->(∃xs,H' p=some (.lst xs)/\Rps K H' B l' xs)->Q (if me=true then .ref p else .non) H'
structure FnM(P:Program)(w:World)(K:W.Frag)(mg:Str->Option Value)(base:Heap)(x:Str)(k:Nat)(ps:List Str)(me:Bool)(f:List D->Option (List D)):Prop where
 ex:∃fa fd,FnOk P w K mg base CX0 k fa fd ps (spM K me f)/\mg x=some (.ref fa)/\W.keepIn K (.ref fa)=true/\Binds K fd ps []
@[simp] def z30(N:List Str)(ds:List D)(p:Addr)(l:List D):Ds:=ds.map .sh++.ow (lent p l)::List.replicate (N.length - (ds.length+1)) .un
theorem sz0{p:Addr}{d:D}(h:(z30 N ds p l)[i]?=some (.ow d)):i=ds.length/\d=lent p l:=by
 unfold z30 at h
 by_cases hi:i<ds.length
 ·rw[List.getElem?_append_left (by simpa using hi),List.getElem?_map] at h
  cases q:ds[i]? with
  | none=>rw[q] at h;cases h
  | some x=>rw[q] at h;cases h
 ·rw[List.getElem?_append_right (by simpa using hi),List.length_map] at h
  cases q:i - ds.length with
  | zero=>rw[q] at h;cases h;exact⟨by omega,rfl⟩
  | succ n =>
   rw[q,List.getElem?_cons_succ,List.getElem?_replicate] at h;split at h<;>cases h
section
variable{P:Program}{w:World}
theorem okM{fd:FuncData}{k:Nat}{me:Bool}{f:List D->Option (List D)}{G:Ds->Option Res}(F:Fun K x qual st fa fd)(S:FnScope N ps (t6 st))
  (body:∀(cdv:Value) (A:Around) (outer:List PySem.Env) (s:Shared) (H:Hp) (E:XK),Room k (A.deeper (envOfC qual (t6 st) s.heap.objs.size fa cdv))->PSsD (ws0 CX0 P w K mg base N qual (t6 st) fa cdv A outer s H E).nox (W6 st) G)
  (hf:∀ds l l',f (ds++[.lst l])=some l'->(ds++[D.lst l]).length=ps.length/\∀p,(me=true/\G (z30 N ds p l)=some (.rf (lent p l')))∨(me=false/\∃δ',G (z30 N ds p l)=some (.nx δ')/\δ'[ds.length]?=some (.ow (lent p l')))) :
  FnOk P w K mg base CX0 (k+1) fa fd ps (spM K me f):=by
 refine F.ok S (λvs H Q E ⟨B,ds,us,p,l,l',_,_,hv,r,_,h,_⟩=>?_) (λcdv A outer s H vs Q E hr ⟨B,ds,us,p,l,l',hb,hp,hv,r,⟨xs,hx,rx⟩,h,q⟩=>?_)
 ·rw[hv,List.length_append,r.length]
  have:=(hf ds l l' h).1;rw[List.length_append] at this;exact this
 ·subst hv
  refine⟨_,body cdv A outer s H E hr (λa=>if a=p then none else H a) (λa=>B a/\a≠p) (z30 N ds p l),?_⟩;have sm:Same (λa=>if a=p then none else H a) H:=λb o e=>by
   by_cases z:b=p
   ·simp only[z,if_true] at e;cases e
   ·simp only[z,if_false] at e;exact e
  have sb:∀{H':Hp},Same (λa=>if a=p then none else H a) H'->But p H H':=λs' b o z e=>s' b o (by simp only[z,if_false];exact e)
  have en:EnvS K (λa=>if a=p then none else H a) (λa=>B a/\a≠p) H (L2.start N (us++[.ref p])) (z30 N ds p l):=by
   refine⟨sm,⟨B,λ_ z=>z.1,λa z=>?_,⟨?_,hb,λi j a ds' es h1 h2 _ _=>?_⟩⟩,λi ds' a h1 h2=>?_,λa z=>?_⟩
   ·by_cases q:a=p
    ·exact .inr (by simp only[q,if_true])
    ·exact .inl ⟨z,q⟩
   ·unfold L2.start z30
    rw[List.map_append,List.append_assoc,List.length_append,r.length];exact Pd.app (xh0 (N:=N) r) (.cons ⟨p,rfl,hp,q70.mpr ⟨rfl,xs,hx,rx⟩⟩ (u40 _))
   ·rw[(sz0 h1).1,(sz0 h2).1]
   ·obtain⟨rfl,_⟩:=sz0 h1
    have:(L2.start N (us++[.ref p]))[ds.length]?=some (some (.ref p)):=by
     unfold L2.start;rw[← r.length,List.map_append,List.append_assoc,List.getElem?_append_right (by simp),List.length_map,Nat.sub_self];rfl
    rw[this] at h2;cases h2;simp only[if_true]
   ·simp only[z.2,if_false]
    exact hb a z.1
  have less:∀a,B a->(B a/\a≠p)∨a=p:=λa z=>by
   by_cases q:a=p
   ·exact .inr q
   ·exact .inl ⟨z,q⟩
  rcases (hf ds l l' h).2 p with⟨m,e⟩|⟨m,δ',e,e'⟩
  ·refine⟨_,en,e,λa H' _ s' r'=>?_⟩
   obtain⟨rfl,ys,hy,ry⟩:=q70.mp r';have:=q H' (sb s') ⟨ys,hy,ry.mono (Gr.less less)⟩;rw[m] at this;exact this
  ·refine⟨_,en,e,fun σ' H' en'=>?_⟩
   obtain⟨B',c1,c2,env'⟩:=en'.ex;obtain⟨a,h1,hB,rl⟩:=env'.at e';obtain⟨rfl,ys,hy,ry⟩:=q70.mp rl;have:=q H' (sb en'.same) ⟨ys,hy,ry.mono (Gr.less λb z=>by
    by_cases q:b=a
    ·rw[q];exact hB
    ·exact c1 b ⟨z,q⟩)⟩
   rw[m] at this;exact this
end
def v10(i:Nat)(gA:GA)(f:List D->Option (List D)):GS:=fun δ=>(gA δ).bind λds=>match δ[i]? with
 | some (.ow (.lst l))=>(f (ds++[.lst l])).map λl'=>.nx (δ.set i (.ow (.lst l')))
 | some (.ow (.tup [.int p,.lst l]))=>(f (ds++[.lst l])).map λl'=>.nx (δ.set i (.ow (.tup [.int p,.lst l'])))
 | _=>none
structure PAM(X:Cx)(i:Nat)(es:List Expr)(gA:GA):Prop where
 mk::go:∀B δ,PA X es (fun σ H Q=>∃ds a,Env X.K H B σ δ/\gA δ=some ds/\σ[i]?=some (some (.ref a))/\∀vs H',Same H H'->Rps X.K H' B ds vs->Q (vs++[.ref a]) H')
section
variable{X:Cx}{g:GE}{gA:GA}{y:Str}
theorem in0(i:Nat)(hN:X.N[i]?=some y:=by rfl)(hv:Vis X.env.scope y:=by first|exact Or.inl rfl|exact Or.inr (Or.inl rfl)|exact Or.inr (Or.inr rfl))(hd:(y==("__debug__" : Str))=false:=by decide)(hcd:(y==("__classdict__" : Str))=false:=by decide)
  (hs:starEach [.Name y px] X.env=(false,eval (.Name y px) X.env)::starEach [] X.env:=by rfl):PAM X i [.Name y px] v6:=.mk λB δ=>(J4 (yv0 (i:=i) hN hv hd hcd) y70 hs).imp fun σ H Q ⟨ds,a,en,h,hi,k⟩=>by
 cases h;exact⟨_,hi,k [] H (Same.refl H) (by rw[o8])⟩
theorem ti0(ha:PD X e g)(hr:PAM X i es gA)(hs:starEach (e::es) X.env=(false,eval e X.env)::starEach es X.env:=by rfl):PAM X i (e::es) (z9 g gA) :=
 .mk λB δ=>(J4 (ha B δ) (hr.go B δ) hs).imp fun σ H Q ⟨ds,a,en,h,hi,k⟩=>by
  unfold z9 at h;cases e1:g δ with
  | none=>rw[e1] at h;cases h
  | some d =>
   cases e2:gA δ with
   | none=>rw[e1,e2] at h;cases h
   | some es' =>
    rw[e1,e2] at h;cases h;refine⟨d,en,e1,λv H1 s1 r1=>⟨es',a,en.same s1,rfl,hi,λvs H2 s2 r2=>?_⟩⟩;have:=k (v::vs) H2 (s1.trans s2) (by rw[o6];exact⟨v,vs,rfl,r1.same s2,r2⟩);exact this
theorem n90(i:Nat){k:Nat}{f:List D->Option (List D)}(C:FnM X.prog X.w X.K X.mg X.base x k ps me f)(hr:Room m X.A)(hk:k<=m)(ha:PAM X i (e::es) gA)
  (hg:Gl X x:=by rfl) (hdb:(x==("__debug__" : Str))=false:=by decide) (he:starEach (e::es) X.env=(false,eval e X.env)::starEach es X.env:=by rfl) (hpl:(backTo pos (starEach es X.env)).any (·.1)=false:=by rfl)
  {ap:Pos} (hs:swapsWith (.Call (.Name x p) (e::es) [] pos) none ap.line X.env=pure false:=by rfl) :
  PSD X (.Expr (.Call (.Name x p) (e::es) [] pos) ap) (v10 i gA f):=.mk λH₀ B₀ δ pins s σ H D I ⟨r,en,e1,kk⟩=>by
 unfold v10 at e1;obtain⟨B,b1,b2,env⟩:=en.ex;obtain⟨fa,fd,F,hm,hkp,hb⟩:=C.ex;cases e2:gA δ with
 | none=>rw[e2] at e1;cases e1
 | some ds =>
  rw[e2,Option.bind_some] at e1;have go:∀{d0:DL.D} {l l':List DL.D} (mk:List DL.D->DL.D),δ[i]?=some (.ow d0)->d0=mk l->(∀a,RpL X.K H B d0 a->∃xs,H a=some (.lst xs)/\Rps X.K H B l xs)->(∀H' a,RpL X.K H B d0 a->(∃xs,H' a=some (.lst xs)/\Rps X.K H' B l' xs)->RpL X.K H' B (mk l') a)->f (ds++[.lst l])=some l' ->
    Wp0 X.K H₀ B₀ D (.nx (δ.set i (.ow (mk l'))))->wpAny (model X.prog X.w) X.A (exec (.Expr (.Call (.Name x p) (e::es) [] pos) ap) X.env) (SP X pins D) X.xe s:=by
   intro d0 l l' mk hi hd h1 h2 hf hD;obtain⟨a,hs',hB,ro⟩:=env.at hi;obtain⟨xs,hx,rx⟩:=h1 a ro;refine iu0 (rr0 (E:=E0) F (hr.mono hk) hg hm hkp hb .nil mc0 (ha.go B δ) hdb he hpl) hs pins s σ H D I ⟨ds,a,env,e2,hs',λvs H1 s1 r1=>?_⟩;show spM X.K me f ((vs++[.ref a])++[]) H1 _ _;rw[List.append_nil];refine⟨B,ds,vs,a,l,l',(env.same s1).bad,hB,rfl,r1,⟨xs,s1 _ _ hx,rx.same s1⟩,hf,λH' hh hl'=>?_⟩;have hh':But a H H':=λb o n e=>hh b o n (s1 b o e)
   have env2:Env X.K H' B σ (δ.set i (.ow (mk l'))):=env.mutB hi hs' hh' (h2 H' a ro hl');exact hD σ H' (en.mutB b1 b2 hi hs' hh' env2)
  split at e1
  ·rename_i l hi
   cases e3:f (ds++[.lst l]) with
   | none=>rw[e3] at e1;cases e1
   | some l' =>
    rw[e3] at e1;cases e1;exact go .lst hi rfl (λa h=>h) (λH' a _ h=>h) e3 kk
  ·rename_i q l hi
   cases e3:f (ds++[.lst l]) with
   | none=>rw[e3] at e1;cases e1
   | some l' =>
    rw[e3] at e1;cases e1;refine go (λl=>.tup [.int q,.lst l]) hi rfl (λa ⟨ds,e,h⟩=>?_) (λH' a ⟨ds,e,_⟩ h=>⟨l',?_,h⟩) e3 kk
    ·cases e;exact h
    ·cases e;rfl
  ·cases e1
end
def mo0(i:Nat)(g:GE):GX:=fun δ=>(g δ).bind λd=>match δ[i]? with
 | some (.ow (.tup [.int p,.lst l]))=>if l.length<sizeLine then some (.non,δ.set i (.ow (.tup [.int p,.lst (l++[d])]))) else none
 | _=>none
section
variable{X:Cx}{g:GE}
theorem ay0(i:Nat)(h:PD X e g)(hN:X.N[i]?=some x:=by rfl)(hv:Vis X.env.scope x:=by first|exact Or.inl rfl|exact Or.inr (Or.inl rfl)|exact Or.inr (Or.inr rfl))(hd:(x==("__debug__" : Str))=false:=by decide)(hcd:(x==("__classdict__" : Str))=false:=by decide)
  (hbase:attributeBase (.Name x px) "append" X.env (eval (.Name x px) X.env)=eval (.Name x px) X.env:=by rfl)
  (hfew:((backTo cpos (starEach [e] X.env)).all (λx=>!x.1)&&(backToKw cpos (keywordEach [] X.env)).all (λx=>x.1.isSome)
  &&decide (([e]:List Expr).length+([]:List Keyword).length+(if ([]:List Keyword).isEmpty then 0 else 1)<30))=true:=by rfl)
  (hline:(apos.endLine==cpos.line)=true:=by rfl) (hs:starEach [e] X.env=(false,eval e X.env)::starEach [] X.env:=by rfl) (hplain:(backTo cpos (starEach [] X.env)).any (·.1)=false:=by rfl) :
  PX X (.Call (.Attribute (.Name x px) "append" apos) [e] [] cpos) (mo0 i g):=.mk λH₀ B₀ δ pins s σ H Q I ⟨r,en,e1,k⟩=>by
 unfold mo0 at e1;obtain⟨B,b1,b2,env⟩:=en.ex;cases e3:g δ with
 | none=>rw[e3] at e1;cases e1
 | some d =>
  rw[e3,Option.bind_some] at e1;split at e1
  ·rename_i p ds hi
   split at e1
   ·rename_i hz
    cases e1;obtain⟨a,hs',hb,ds',hq,xs,hx,rx⟩:=env.at hi;cases hq;refine pm0 X1 Bu0 Bv0 sa0 (yv0 (i:=i) hN hv hd hcd) (J4 (h B δ) y70 hs) hbase hfew hline hs hplain pins s σ H Q I
     ⟨_,hs',.inl ⟨rfl,xs,.inl (.inl hx)⟩,d,env,e3,λv H1 s1 r1=>⟨a,xs,v,rfl,rfl,s1 _ _ hx,by rw[rx.length];exact hz,?_⟩⟩
    have env2:Env X.K (upd H1 a (.lst (xs++[v]))) B σ (δ.set i (.ow (.tup [.int (a:Int),.lst (ds++[d])]))):=(env.same s1).mut hi hs' ⟨_,rfl,_,b8,(Rps.snoc (rx.same s1) r1).mono (Gr.own hb)⟩;exact k _ _ (EnvV.mk' (en.mut s1 b1 b2 hi hs' env2) b1 b2 env2 (by rw[V6]))
   ·cases e1
  ·cases e1
end
end DL
namespace DL
open Spec PyProof.Rows L2
theorem ja0{P:Program}{w:World}{mg:PySem.Str->Option Value}{k:Nat}{fd:FuncData}{ps:List PySem.Str}{f:List D->Option (List D)}(hf:∀ds,f ds=none):FnOk P w K mg base CX0 k fa fd ps (spM K me f) :=
 ⟨λvs H Q E ⟨_,_,_,_,_,_,_,_,_,_,_,h,_⟩=>(by rw[hf] at h;cases h),λA outer s H args us vs Q E _ _ _ _ ⟨_,_,_,_,_,_,_,_,_,_,_,h,_⟩=>(by rw[hf] at h;cases h)⟩
end DL
namespace L2
open Spec PyProof.Rows
open PySem.AutoSeq1 (wpAny_loadPart')
section
variable{w:World}{s:Shared}{TI TO:Addr}{k2:Nat}{x a b:Value}
theorem gz0{Q:Value->Shared->Prop}(D:ZipApart z TI TO i1 i2 l1 l2)
  (hz:IsZip s.heap z TI TO .none) (hTI:IsPair s.heap TI (.ref i1) (.ref i2)) (hTO:IsPair s.heap TO a b)
  (h1:s.heap.IsTupleIter i1 l1 k1) (h2:s.heap.IsListIter i2 l2 k2) (t1:s.heap.IsTuple l1 xs) (t2:s.heap.IsList l2 ys) (hx:xs[k1]?=some x) (hy:ys[k2]?=some y)
  (hQ:∀h',IsZip h' z TI TO (rawInt s.heap.objs.size)->IsPair h' TO x y->h'.IsTupleIter i1 l1 (k1+1)->h'.IsListIter i2 l2 (k2+1)->IsPair h' s.heap.objs.size x y->h'.objs.size=s.heap.objs.size+1 ->
   gq0 z TO i1 i2 s.heap h'->Q (.ref s.heap.objs.size) { s with heap:=h' }) :
  wpAny (model prog w) A (Builtin.«zip.__next__» ⟨[.ref z],[]⟩) (λfin s'=>∃v,fin=.done (.ret v)/\Q v s') E s:=by
 show wpAny _ _ (field (.ref z) 2>>=_) _ _ _;refine A0 (B4 hz rfl (x:=.bool false) rfl ?_);show wpAny _ _ (field (.ref z) 3>>=_) _ _ _;refine A0 (B4 hz rfl (x:=.ref TI) rfl (A0 (C6 hTI rfl ?_)));show wpAny _ _ (Builtin.SmallTypes.ownedTupleIsFree (.ref z)>>=_) _ _ _;refine A0 ?_;unfold Builtin.SmallTypes.ownedTupleIsFree;refine A0 (B4 hz rfl (x:=.none) rfl (A1 ?_));simp only[if_true];refine A0 (D9 (A0 (B4 hz rfl (x:=.ref TO) rfl (A0 (D5 hz (by simp) λg1 q1 e1=>?_)))))
 replace q1:IsZip g1 z TI TO .ellipsis:=q1
 refine A0 ?_;simp only[List.zipIdx_cons,List.zipIdx_nil,List.forIn_cons,List.forIn_nil];refine A0 (A0 (L0 ?_));show wpAny _ _ (Builtin.SmallTypes.nextOf (.ref i1)>>=_) _ _ _;refine A0 (wz0 (zi0 h1 e1.extBut D.i1z) (t1.extBut e1.extBut D.l1z) hx λg2 j1 e2=>A1 ?_);have p2:IsPair g2 TO a b:=e2.extBut _ _ D.TOi1 (e1.extBut _ _ D.TOz hTO);refine A0 (C6 p2 rfl (A0 (Q2 p2 λg3 p3 e3=>?_)))
 replace p3:IsPair g3 TO x b:=p3
 refine A0 (K2 (A1 ?_));refine A0 (A0 (L0 ?_));show wpAny _ _ (Builtin.SmallTypes.nextOf (.ref i2)>>=_) _ _ _;refine A0 (N2 (((h2.extBut e1.extBut D.i2z).extBut e2.extBut D.i12.symm).extBut e3.extBut D.TOi2.symm)
  (((t2.extBut e1.extBut D.l2z).extBut e2.extBut D.l2i1).extBut e3.extBut D.l2TO) hy λg4 j2 e4=>A1 ?_)
 have p4:IsPair g4 TO x b:=e4.extBut _ _ D.TOi2 p3;refine A0 (C6 p4 rfl (A0 (Q2 p4 λg5 p5 e5=>?_)))
 replace p5:IsPair g5 TO x y:=p5
 refine A0 (K2 (A1 (A1 ?_)));refine A0 (C6 p5 rfl (A0 (k7 ?_)));have sz:g5.objs.size=s.heap.objs.size:=by rw[e5.1,e4.1,e3.1,e2.1,e1.1]
 have q5:IsZip g5 z TI TO .ellipsis:=e5.extBut _ _ D.TOz.symm (e4.extBut _ _ D.i2z.symm (e3.extBut _ _ D.TOz.symm (e2.extBut _ _ D.i1z.symm q1)));have keep:gq0 z TO i1 i2 s.heap g5:=λc o c1 c2 c3 c4 e=>e5.extBut _ _ c2 (e4.extBut _ _ c4 (e3.extBut _ _ c2 (e2.extBut _ _ c3 (e1.extBut _ _ c1 e))))
 have r1:g5.IsTupleIter i1 l1 (k1+1):=zi0 (zi0 (zi0 j1 e3.extBut D.TOi1.symm) e4.extBut D.i12) e5.extBut D.TOi1.symm;have r2:g5.IsListIter i2 l2 (k2+1):=j2.extBut e5.extBut D.TOi2.symm;have lz:z<g5.objs.size:=A3 q5;show wpAny _ _ (Builtin.SmallTypes.ownedTupleHandOut (.ref z) (.ref g5.objs.size)>>=_) _ _ _;refine A0 ?_;unfold Builtin.SmallTypes.ownedTupleHandOut;have q6:IsZip (g5.push { cls:=.type "tuple",data:=.seq #[x,y] }) z TI TO .ellipsis:=A7 _ q5;refine A0 (D5 q6 (by simp) λg7 q7 e7=>?_)
 replace q7:IsZip g7 z TI TO (rawInt g5.objs.size):=q7
 refine D5 q7 (by simp) λg8 q8 e8=>?_
 replace q8:IsZip g8 z TI TO (rawInt g5.objs.size):=q8
 have up:∀c o,c≠z->g5.get? c=some o->g8.get? c=some o:=λc o c1 e=>e8.extBut _ _ c1 (e7.extBut _ _ c1 (A7 _ e))
 have p8:IsPair g8 g5.objs.size x y:=e8.extBut _ _ (B9 lz) (e7.extBut _ _ (B9 lz) (B3 _ rfl));have sz8:g8.objs.size=g5.objs.size+1:=by rw[e8.1,e7.1,Heap.size_push]
 rw[sz] at q8 p8 sz8;refine A1 ⟨_,rfl,?_⟩;show Q (.ref g5.objs.size) _;rw[sz];exact hQ g8 q8 (up _ _ D.TOz p5) (to0 r1 λo e=>up _ o D.i1z e) (r2.at λo e=>up _ o D.i2z e) p8 sz8 λc o c1 c2 c3 c4 e=>up c o c1 (keep c o c1 c2 c3 c4 e)
theorem dx0{Q:PySem.Fin->Shared->Prop}(hh:A.handled=none)(D:ZipApart z TI TO i1 i2 l1 l2)
  (hz:IsZip s.heap z TI TO .none) (hTI:IsPair s.heap TI (.ref i1) (.ref i2)) (hTO:IsPair s.heap TO a b)
  (h1:s.heap.IsTupleIter i1 l1 k1) (h2:s.heap.IsListIter i2 l2 k2) (t1:s.heap.IsTuple l1 xs) (t2:s.heap.IsList l2 ys) (hend:xs[k1]?=none∨ys[k2]?=none)
  (hE:∀h' e,gq0 z TO i1 i2 s.heap h'->(∃o,h'.get? e=some o/\o.cls=.type "StopIteration")->E (.ref e) { s with heap:=h' }) :
  wpAny (model prog w) A (Builtin.«zip.__next__» ⟨[.ref z],[]⟩) Q E s:=by
 show wpAny _ _ (field (.ref z) 2>>=_) _ _ _;refine A0 (B4 hz rfl (x:=.bool false) rfl ?_);show wpAny _ _ (field (.ref z) 3>>=_) _ _ _;refine A0 (B4 hz rfl (x:=.ref TI) rfl (A0 (C6 hTI rfl ?_)));show wpAny _ _ (Builtin.SmallTypes.ownedTupleIsFree (.ref z)>>=_) _ _ _;refine A0 ?_;unfold Builtin.SmallTypes.ownedTupleIsFree;refine A0 (B4 hz rfl (x:=.none) rfl (A1 ?_));simp only[if_true];refine A0 (D9 (A0 (B4 hz rfl (x:=.ref TO) rfl (A0 (D5 hz (by simp) λg1 q1 e1=>?_)))))
 replace q1:IsZip g1 z TI TO .ellipsis:=q1
 refine A0 ?_;simp only[List.zipIdx_cons,List.zipIdx_nil,List.forIn_cons,List.forIn_nil];refine A0 (A0 (L0 ?_));show wpAny _ _ (Builtin.SmallTypes.nextOf (.ref i1)>>=_) _ _ _;cases hx:xs[k1]? with
 | none =>
  refine A0 (qb0 hh (zi0 h1 e1.extBut D.i1z) (t1.extBut e1.extBut D.l1z) hx λg2 e e2 he=>?_);obtain⟨oe,ho,hc⟩:=he;have q2:IsZip g2 z TI TO .ellipsis:=e2 _ _ D.i1z.symm q1;have ne:e≠z:=λx=>by subst x;rw[q2] at ho;cases ho;simp at hc
  exact D5 q2 (by simp) λg3 _ e3=>hE g3 e (λc o c1 _ c3 _ x=>e3.extBut _ _ c1 (e2 _ _ c3 (e1.extBut _ _ c1 x))) ⟨oe,e3.extBut _ _ ne ho,hc⟩
 | some x =>
  have hy:ys[k2]?=none:=by rcases hend with h|h;rw[hx] at h;cases h;exact h
  refine A0 (wz0 (zi0 h1 e1.extBut D.i1z) (t1.extBut e1.extBut D.l1z) hx λg2 j1 e2=>A1 ?_);have p2:IsPair g2 TO a b:=e2.extBut _ _ D.TOi1 (e1.extBut _ _ D.TOz hTO);refine A0 (C6 p2 rfl (A0 (Q2 p2 λg3 p3 e3=>?_)));refine A0 (K2 (A1 ?_));refine A0 (A0 (L0 ?_));show wpAny _ _ (Builtin.SmallTypes.nextOf (.ref i2)>>=_) _ _ _;refine A0 (Y3 hh (((h2.extBut e1.extBut D.i2z).extBut e2.extBut D.i12.symm).extBut e3.extBut D.TOi2.symm)
   (((t2.extBut e1.extBut D.l2z).extBut e2.extBut D.l2i1).extBut e3.extBut D.l2TO) hy λg4 e e4 he=>?_)
  obtain⟨oe,ho,hc⟩:=he;have q4:IsZip g4 z TI TO .ellipsis:=e4 _ _ D.i2z.symm (e3.extBut _ _ D.TOz.symm (e2.extBut _ _ D.i1z.symm q1));have ne:e≠z:=λx=>by subst x;rw[q4] at ho;cases ho;simp at hc
  exact D5 q4 (by simp) λg5 _ e5=>hE g5 e (λc o c1 c2 c3 c4 x=>e5.extBut _ _ c1 (e4 _ _ c4 (e3.extBut _ _ c2 (e2.extBut _ _ c3 (e1.extBut _ _ c1 x))))) ⟨oe,e5.extBut _ _ ne ho,hc⟩
end
def Yt0(K:W.Frag)(a b:Addr):It :=
 ⟨λi H=>∃xs ys x y,SqT K H a xs/\SqL K H b ys/\xs[i]?=some x/\ys[i]?=some y,
   λi H v H'=>∃t x y,v=.ref t/\H t=none/\H'=upd H t (.tup [x,y])/\(∀xs,SqT K H a xs->xs[i]?=some x)/\∀ys,SqL K H b ys->ys[i]?=some y,
   λi H=>∃xs ys,SqT K H a xs/\SqL K H b ys/\(xs.length<=i∨ys.length<=i)⟩
theorem fq0{P:Program}{w:World}{x1}{TI TO b:Addr}(D:ZipApart z TI TO i1 i2 a b):Turn P w K (.Tuple elts x1 pos) (Yt0 K a b) [z,TI,TO,i1,i2] z
  (λi h=>IsZip h z TI TO .none/\IsPair h TI (.ref i1) (.ref i2)/\(∃p q,IsPair h TO p q)/\h.IsTupleIter i1 a i/\h.IsListIter i2 b i) where
 mem:=by simp
 obj:=λi h st c hc=>by
  obtain⟨hz,hTI,⟨p,q,hTO⟩,⟨o1,e1,c1,d1⟩,⟨o2,e2,c2,d2⟩⟩:=st;simp only[List.mem_cons,List.not_mem_nil,or_false] at hc;rcases hc with rfl|rfl|rfl|rfl|rfl
  ·exact⟨_,hz,λv z=>nomatch z⟩
  ·exact⟨_,hTI,λv z=>nomatch z⟩
  ·exact⟨_,hTO,λv z=>nomatch z⟩
  ·exact⟨_,e1,λv z=>by rw[d1] at z;cases z⟩
  ·exact⟨_,e2,λv z=>by rw[d2] at z;cases z⟩
 keep:=λi h h' st k=>by
  obtain⟨hz,hTI,⟨p,q,hTO⟩,h1,h2⟩:=st;exact⟨k z (by simp) _ hz,k TI (by simp) _ hTI,⟨p,q,k TO (by simp) _ hTO⟩,to0 h1 λo e=>k i1 (by simp) o e,h2.at λo e=>k i2 (by simp) o e⟩
 item:=by
  intro X hP hw hK hc i pins s σ H E I hf st hg;subst hP hw hK;obtain⟨hz,hTI,⟨p,q,hTO⟩,h1,h2⟩:=st;obtain⟨xs,ys,x,y,hq1,hq2,hx,hy⟩:=hg;obtain⟨us,rv1,p1,z1⟩:=I.tuple hq1;obtain⟨ws,rv2,p2,z2⟩:=I.list hq2;obtain⟨u,hu,ru⟩:=rv1.get hx;obtain⟨w,hw,rw'⟩:=rv2.get hy;have hT:s.TypeIs (.ref z) "zip" := ⟨_,hz,rfl⟩;unfold pyNext;refine A0 (N9 (E3 (name:=Str.ofString "__next__") hT D6
   (D8 D6 hT P7
    (gz0 D hz hTI hTO h1 h2 p1 p2.isList (x:=u) (y:=w) (by simpa using hu) (by simpa using hw) λh' a1 a2 a3 a4 a5 a6 hk=>A1 ?_) (P8 _))))
  refine⟨_,rfl,Ck0 (s:={ s with heap:=h' }) a1 λh'' b1 hs=>?_⟩;have lt:∀{c o},s.heap.get? c=some o->c<s.heap.objs.size:=λe=>A3 e
  have lz:=lt hz;have lTO:=lt hTO;have lTI:=lt hTI;obtain⟨o1,e1,_⟩:=id h1;obtain⟨o2,e2,_⟩:=id h2;have l1:=lt e1;have l2:=lt e2;obtain⟨I1,fr⟩:=I.turnedNew (h':=h'') (t':=s.toks) (fp:=[z,TI,TO,i1,i2]) hf ru rw' (λc hc=>by
   simp only[List.mem_cons,List.not_mem_nil,or_false] at hc;rcases hc with rfl|rfl|rfl|rfl|rfl<;>assumption) (hs.extBut _ _ (B9 lz) a5) (λc o hc e=>by
   simp only[List.mem_cons,List.not_mem_nil,or_false,not_or] at hc;exact hs.extBut _ _ hc.1 (hk c o hc.1 hc.2.2.1 hc.2.2.2.1 hc.2.2.2.2 e))
  exact⟨.ref s.heap.objs.size,_,I1,rfl,⟨_,x,y,rfl,I.hok.fresh (A2 _),rfl,λys hy'=>by rw[I.tuple_inj hy' hq1];exact hx,λys' hy'=>by rw[I.list_inj hy' hq2];exact hy⟩,
   ⟨b1,hs.extBut _ _ D.TIz (hk _ _ D.TIz D.TITO D.TIi1 D.TIi2 hTI),⟨_,_,hs.extBut _ _ D.TOz a2⟩,zi0 a3 hs.extBut D.i1z,a4.extBut hs.extBut D.i2z⟩,fr⟩
 done:=by
  intro X hP hw hK hc i pins s σ H E I hf st hg;subst hP hw hK;obtain⟨hz,hTI,⟨p,q,hTO⟩,h1,h2⟩:=st;obtain⟨xs,ys,hq1,hq2,hend⟩:=hg;obtain⟨us,rv1,p1,z1⟩:=I.tuple hq1;obtain⟨ws,rv2,p2,z2⟩:=I.list hq2;have l1:=rv1.length;have l2:=rv2.length;have hT:s.TypeIs (.ref z) "zip" := ⟨_,hz,rfl⟩;unfold pyNext;refine A0 (N9 (E3 (name:=Str.ofString "__next__") hT D6
   (D8 D6 hT P7 (dx0 (I.ok.hd hc) D hz hTI hTO h1 h2 p1 p2.isList (hend.imp (λh=>by simp;omega) λh=>by simp;omega) λh' e hk he=>?_) (P8 _))))
  obtain⟨o,ho,hcl⟩:=he;refine A0 (k4 (T := "StopIteration") (b:=true) ⟨o,ho,hcl⟩ Ah0 ?_);refine A1 ⟨rfl,I.turnedL (t':=s.toks) (fp:=[z,TI,TO,i1,i2]) hf λc o hc e=>?_⟩;simp only[List.mem_cons,List.not_mem_nil,or_false,not_or] at hc;exact hk c o hc.1 hc.2.2.1 hc.2.2.2.1 hc.2.2.2.2 e
 self:=λ_ _ _ _ _ st h=>Q1 st.1 h
abbrev wkL(h:Heap)(l:Addr):Heap:=h.push { cls:=.type "list_iterator",data:=.fields #[.ref l,.int 0 0] }
abbrev wm2(h:Heap)(a b:Addr):Heap:=wkL (wkT h a) b
abbrev wm3(h:Heap)(a b:Addr):Heap:=(wm2 h a b).push { cls:=.type "tuple",data:=.seq #[.ref h.objs.size,.ref (wkT h a).objs.size] }
abbrev wm4(h:Heap)(a b:Addr):Heap:=(wm3 h a b).push { cls:=.type "tuple",data:=.seq #[.none,.none] }
abbrev wm5(h:Heap)(a b:Addr):Heap:=(wm4 h a b).push { cls:=.type "zip",data:=.fields #[.none,.bool false,.bool false,.ref (wm2 h a b).objs.size,.ref (wm3 h a b).objs.size] }
set_option maxHeartbeats 1000000 in
theorem oc0(l1 l2:Addr)(xs ys:Array Value) :
  Meets (Builtin.«zip.__new__» ⟨[.type "zip",.ref l1,.ref l2],[]⟩) (λ_ R s=>s.heap.IsTuple l1 xs/\s.heap.IsList l2 ys /\
   R (.ok (.ret (.ref (wm4 s.heap l1 l2).objs.size))) { s with heap:=wm5 s.heap l1 l2 }) :=
 .of_wp λprog w A R s h=>by
  obtain⟨hp,g,d,tk,os⟩:=s;obtain⟨t1,t2,h⟩:=h;have hsub:=sub_zip;have hL1:Heap.IsTuple (Shared.heap ⟨hp,g,d,tk,os⟩) l1 xs:=t1;have hL2:Heap.IsList (Shared.heap ⟨hp.push { cls:=.type "tuple_iterator",data:=.fields #[.ref l1,.int 0 0] },g,d,tk,os⟩) l2 ys:=t2.push _
  wp_walk using wpAny_pyIter_tuple hL1,i4 hL2
  exact⟨_,rfl,h⟩
theorem pu0{prog:Program}{w:World}{A:Around}{E:Value->Shared->Prop}{s:Shared}{Q:Value->Shared->Prop}(t1:s.heap.IsTuple l1 xs)(t2:s.heap.IsList l2 ys)
  (h:∀h',IsZip h' (s.heap.objs.size+4) (s.heap.objs.size+2) (s.heap.objs.size+3) .none->IsPair h' (s.heap.objs.size+2) (.ref s.heap.objs.size) (.ref (s.heap.objs.size+1)) ->
   IsPair h' (s.heap.objs.size+3) .none .none->h'.IsTupleIter s.heap.objs.size l1 0->h'.IsListIter (s.heap.objs.size+1) l2 0->h'.objs.size=s.heap.objs.size+5 ->
   (∀c o,s.heap.get? c=some o->h'.get? c=some o)->Q (.ref (s.heap.objs.size+4)) { s with heap:=h' }) :
  wpAny (model prog w) A (call (.type "zip") [.ref l1,.ref l2]) Q E s:=by
 refine callType_new F.called_zip (by decide) (F.typeCall_zip_2 _ _) (F.newCall_zip_2 _ _) (λobj=>F.args_object_init_3 obj _ _) F.entry_zip_new
  (oc0 l1 l2 xs ys) ⟨t1,t2,?_⟩
 have n1:(wkT s.heap l1).objs.size=s.heap.objs.size+1:=Heap.size_push ..;have n2:(wm2 s.heap l1 l2).objs.size=s.heap.objs.size+2:=by rw[Heap.size_push,n1]
 have n3:(wm3 s.heap l1 l2).objs.size=s.heap.objs.size+3:=by rw[Heap.size_push,n2]
 have n4:(wm4 s.heap l1 l2).objs.size=s.heap.objs.size+4:=by rw[Heap.size_push,n3]
 have n5:(wm5 s.heap l1 l2).objs.size=s.heap.objs.size+5:=by rw[Heap.size_push,n4]
 have up:∀{h:Heap} {o:Obj} {c:Addr} {v:Obj},h.get? c=some v->(h.push o).get? c=some v:=λe=>A7 _ e
 have g5:(wm5 s.heap l1 l2).get? (wm4 s.heap l1 l2).objs.size=some _:=B3 _ rfl;have g4:(wm5 s.heap l1 l2).get? (wm3 s.heap l1 l2).objs.size=some _:=up (B3 _ rfl);have g3:(wm5 s.heap l1 l2).get? (wm2 s.heap l1 l2).objs.size=some _:=up (up (B3 _ rfl));have g2:(wm5 s.heap l1 l2).get? (wkT s.heap l1).objs.size=some _:=up (up (up (B3 _ rfl)));have g1:(wm5 s.heap l1 l2).get? s.heap.objs.size=some _:=up (up (up (up (B3 _ rfl))));show _/\_;rw[n2,n3,n4] at g5;rw[n1,n2] at g3;rw[n3] at g4;rw[n1] at g2;rw[n4];exact⟨⟨_,g5,rfl⟩,h _ g5 g3 g4 ⟨_,g1,rfl,rfl⟩ ⟨_,g2,rfl,rfl⟩ n5 λc o e=>up (up (up (up (up e))))⟩
section
variable{X:Cx}
def Ve0(K:W.Frag)(ta:TA):TI:=fun σ H R=>ta σ H λvs H1=>∃a b,vs=[.ref a,.ref b]/\(∃xs,SqT K H1 a xs)/\(∃ys,SqL K H1 b ys)/\R (Yt0 K a b) H1
theorem Yf0{a:Expr}{ta:TA}{p pos:Pos}(hg:Gl X "zip")(hm:X.mg "zip"=none)(ha:PA X [a,b] ta)(hs:starEach [a,b] X.env=[(false,eval a X.env),(false,eval b X.env)]:=by rfl)(hs2:starEach [b] X.env=[(false,eval b X.env)]:=by rfl) :
  PI X (.Tuple elts x1 tpos) (.Call (.Name "zip" p) [a,b] [] pos) (Ve0 X.K ta):=by
 intro pins s σ H R I h;refine Call_ (zq0 I hg hm boot_zip (E1 (thn (ha pos pins s σ H _ I h) λus s1 ⟨vs,H1,I1,r1,q1⟩=>?_) (by rw[hs,hs2]) (by rw[hs2];rfl)));obtain⟨qa,qb,e,⟨xs,h1⟩,⟨ys,h2⟩,q⟩:=q1;subst e;cases r1 with
 | cons r rr =>
  cases rr with
  | cons r' rr =>
   cases rr;obtain rfl:=r;obtain rfl:=r';obtain⟨us1,v1,p1,z1⟩:=I1.tuple h1;obtain⟨us2,v2,p2,z2⟩:=I1.list h2;have a1:qa<s1.heap.objs.size:=by obtain⟨_,e,_⟩:=p1;exact A3 e
   have a2:qb<s1.heap.objs.size:=by obtain⟨_,_,e,_⟩:=p2;exact A3 e
   refine pu0 p1 p2.isList λh' hz hTI hTO hi1 hi2 hsz hk=>?_
   refine Q1 (s:={ s1 with heap:=h' }) hz ?_;refine⟨_,_,_,_,H1,rfl,I1.kept (t':=s1.toks) hk,fq0 (l0 a1 a2),⟨hz,hTI,⟨_,_,hTO⟩,hi1,hi2⟩,λb hb=>?_,q⟩;simp only[List.mem_cons,List.not_mem_nil,or_false] at hb;rcases hb with rfl|rfl|rfl|rfl|rfl
   ·exact I1.fpOk (B2 _ 4) (I1.hok.fresh (B2 _ 4))
   ·exact I1.fpOk (B2 _ 2) (I1.hok.fresh (B2 _ 2))
   ·exact I1.fpOk (B2 _ 3) (I1.hok.fresh (B2 _ 3))
   ·exact I1.fpOk (A2 _) (I1.hok.fresh (A2 _))
   ·exact I1.fpOk (B2 _ 1) (I1.hok.fresh (B2 _ 1))
end
end L2
namespace DL
open Spec PyProof.Rows L2
def a70:List D->Option (List D)
 | [.tup ds,.lst es]=>some ((ds.zip es).map λp=>.tup [p.1,p.2])
 | _=>none
def rp0(gA:GA):GA:=fun δ=>(gA δ).bind a70
section
variable{X:Cx}{a:Expr}
theorem b00(hm:X.mg "zip"=none)(ha:PDA X [a,b] gA)(hg:Gl X "zip" := by rfl)(hs:starEach [a,b] X.env=[(false,eval a X.env),(false,eval b X.env)]:=by rfl)(hs2:starEach [b] X.env=[(false,eval b X.env)]:=by rfl) :
  PID X (.Tuple elts x1 tpos) (.Call (.Name "zip" p) [a,b] [] pos) (rp0 gA):=.mk λB δ=>L2.PI.imp (Yf0 hg hm (ha B δ) hs hs2) fun σ H R ⟨items,en,e1,k⟩=>by
 unfold rp0 at e1;cases e2:gA δ with
 | none=>rw[e2] at e1;cases e1
 | some ds =>
  rw[e2] at e1;simp only[Option.bind_some] at e1;unfold a70 at e1;split at e1<;>try cases e1
  rename_i ds es;refine⟨_,en,e2,λvs H' s' r=>?_⟩;rw[o6] at r;obtain⟨x,t,rfl,r1,r⟩:=r;rw[o6] at r;obtain⟨y,t,rfl,r2,r⟩:=r;rw[o8] at r;subst r;rw[W3] at r1;rw[Y6] at r2;obtain⟨q1,us,rfl,s1,t1⟩:=r1;obtain⟨q2,ws,rfl,s2,t2⟩:=r2;have hlen:((ds.zip es).map λp=>D.tup [p.1,p.2]).length=min us.length ws.length:=by rw[List.length_map,List.length_zip,t1.length,t2.length]
  refine⟨q1,q2,rfl,⟨us,s1.to⟩,⟨ws,s2.to⟩,k _ H' s' ⟨λi H2 g2 hi=>?_,λi H2 v H3 g2 y hi=>?_,λi H2 g2 hi=>?_⟩⟩
  ·rw[hlen] at hi
   have h1:i<us.length:=by omega
   have h2:i<ws.length:=by omega
   exact⟨us,ws,us[i],ws[i],(s1.mono g2).to,(s2.mono g2).to,by simp[h1],by simp[h2]⟩
  ·obtain⟨t,x,y,rfl,ht,rfl,hx,hy⟩:=y
   rw[List.length_map,List.length_zip] at hi;have h1:i<ds.length:=by omega
   have h2:i<es.length:=by omega
   obtain⟨x',e4,rx⟩:=t1.get (i:=i) (C1 h1);obtain⟨y',e5,ry⟩:=t2.get (i:=i) (C1 h2);have ex:=hx us (s1.mono g2).to;have ey:=hy ws (s2.mono g2).to;rw[e4] at ex;rw[e5] at ey;cases ex;cases ey;refine⟨Z9 ht,.tup [ds[i],es[i]],by rw[List.getElem?_map,show (ds.zip es)[i]?=some (ds[i],es[i]) from l7.mpr ⟨C1 h1,C1 h2⟩];rfl,λB' gB hb=>?_⟩;exact rf0 (λz=>hb t z ht) b8 (rx.mono gB) (ry.mono gB)
  ·rw[hlen] at hi
   exact⟨us,ws,(s1.mono g2).to,(s2.mono g2).to,by omega⟩
end
end DL
namespace L2
open Spec PyProof.Rows PySem.W
theorem op0{X:Cx}:CallR X (.builtin "len") (λxs H Q=>∃(p:Addr) (kvs:List (Key×V)),xs=[.ref p]/\H p=some (.dK kvs)/\Q (.int kvs.length) H):=by
 intro pins s σ H xs us Q I r h;obtain⟨p,kvs,rfl,hq,q⟩:=h;obtain⟨u,rfl,rx⟩:=vals1 r;cases rx;have hn:=vr0;obtain⟨z,hd,vs,rel,dd⟩:=iw0 I.hok hq;have hl:=rel.length;exact call_len_dict hd dd (by omega) ⟨.int kvs.length,H,I.tok _,⟨s.toks+1,by rw[hl]⟩,q⟩
end L2
namespace DL
open Spec PyProof.Rows L2
def we0:List D->Option D
 | [.dct (.inl ks) _]=>some (.int ks.length)
 | _=>none
theorem jd0:FnR K (λxs H Q=>∃(p:Addr) (kvs:List (Key×V)),xs=[.ref p]/\H p=some (.dK kvs)/\Q (.int kvs.length) H) we0:=by
 intro H B xs ds d Q hb r h k;unfold we0 at h;split at h
 ·cases h
  obtain⟨v,rfl,r1⟩:=y40 r;rw[sx0] at r1;obtain⟨p,ys,rfl,_,hp,hl,rr⟩:=r1;refine⟨p,_,rfl,hp,k _ H (Same.refl H) ?_⟩;rw[m9,List.length_zip,← hl,Nat.min_self]
 ·cases h
end DL
namespace SoT
open PyProof.Rows
section
variable{P:Program}{w:World}{s:Shared}{b:Array Keyed}{κ:SortKind}{cmp:Keyed->Keyed->Bool}
structure Go(b:Array Keyed)(κ:SortKind)(st:SortSt):Prop where
 kd:kindOf st=κ
 pm:(arrOf st).Perm b
 pe:pendingOf st=#[]
 fa:failedOf st=none
structure Cp(P:Program)(w:World)(A:Around)(E:Value->Shared->Prop)(s:Shared)(b:Array Keyed)(κ:SortKind)(cmp:Keyed->Keyed->Bool):Prop where
 ask:∀(st:SortSt) (i j:Nat) (x y:Keyed) (Q:Option Bool->SortSt->Prop),Go b κ st->(arrOf st)[i]?=some x->(arrOf st)[j]?=some y->Q (some (cmp x y)) st->wpS (model P w) A E s (ltAt' i j) Q st
 nd:b.toList.Nodup
 tr:∀x∈b.toList,∀y∈b.toList,∀z∈b.toList,cmp x y=true->cmp y z=true->cmp x z=true
 to:∀x∈b.toList,∀y∈b.toList,x≠y->cmp y x=false->cmp x y=true
theorem Go.set{st:SortSt}(h:Go b κ st){xs:Array Keyed}(p:xs.Perm (arrOf st)):Go b κ (setArr st xs):=⟨h.kd,p.trans h.pm,h.pe,h.fa⟩
theorem Go.sz{st:SortSt}(h:Go b κ st):(arrOf st).size=b.size:=h.pm.size_eq
theorem Go.el{st:SortSt}(h:Go b κ st)(hi:i<b.size):∃x,(arrOf st)[i]?=some x/\x∈b.toList:=by
 have hi':i<(arrOf st).size:=by rw[h.sz];exact hi
 exact⟨(arrOf st)[i],Al0 _ i hi',(m3.mp h.pm).mem_iff.mp (by simp)⟩
theorem Go.mem{st:SortSt}(h:Go b κ st){x:Keyed}(e:(arrOf st)[i]?=some x):x∈b.toList/\i<b.size:=by
 obtain⟨hi,rfl⟩:=Am0.mp e;exact⟨(m3.mp h.pm).mem_iff.mp (by simp),by rw[← h.sz];exact hi⟩
theorem Go.ne{st:SortSt}(h:Go b κ st)(hn:b.toList.Nodup){x y:Keyed}(e1:(arrOf st)[i]?=some x)(e2:(arrOf st)[j]?=some y)(hij:i<j):x≠y:=by
 have hn':(arrOf st).toList.Nodup:=(m3.mp h.pm).nodup_iff.mpr hn;obtain⟨h1,rfl⟩:=Am0.mp e1;obtain⟨h2,rfl⟩:=Am0.mp e2;have:=E7.mp hn' i j (by simpa using h1) (by simpa using h2) hij
 simpa using this
def Up(cmp:Keyed->Keyed->Bool)(xs:Array Keyed)(n:Nat):Prop:=∀i j x y,i<j->j<n->xs[i]?=some x->xs[j]?=some y->cmp x y=true
def Dn(cmp:Keyed->Keyed->Bool)(xs:Array Keyed)(n:Nat):Prop:=∀i j x y,i<j->j<n->xs[i]?=some x->xs[j]?=some y->cmp y x=true
variable(C:Cp P w A E s b κ cmp)
include C
theorem Z70{st:SortSt}(hg:Go b κ st)(hn:n<b.size)(h1:1<=n)(h:Up cmp (arrOf st) n){u v:Keyed}(eu:(arrOf st)[n - 1]?=some u)(ev:(arrOf st)[n]?=some v)(huv:cmp u v=true):Up cmp (arrOf st) (n+1):=λi j x y hij hj ex ey=>by
 by_cases hjn:j<n
 ·exact h i j x y hij hjn ex ey
 ·have:j=n:=by omega
  subst this;rw[ev] at ey;cases ey
  by_cases hi:i=j - 1
  ·subst hi;rw[eu] at ex;cases ex;exact huv
  ·exact C.tr x (hg.mem ex).1 u (hg.mem eu).1 v (hg.mem ev).1 (h i (j - 1) x u (by omega) (by omega) ex eu) huv
theorem Zo0{st:SortSt}(hg:Go b κ st)(hn:n<b.size)(h1:1<=n)(h:Dn cmp (arrOf st) n){u v:Keyed}(eu:(arrOf st)[n - 1]?=some u)(ev:(arrOf st)[n]?=some v)(huv:cmp v u=true):Dn cmp (arrOf st) (n+1):=λi j x y hij hj ex ey=>by
 by_cases hjn:j<n
 ·exact h i j x y hij hjn ex ey
 ·have:j=n:=by omega
  subst this;rw[ev] at ey;cases ey
  by_cases hi:i=j - 1
  ·subst hi;rw[eu] at ex;cases ex;exact huv
  ·exact C.tr v (hg.mem ev).1 u (hg.mem eu).1 x (hg.mem ex).1 huv (h i (j - 1) x u (by omega) (by omega) ex eu)
theorem asc{st:SortSt}{a:Nat}{Q:AscSt->SortSt->Prop}(hg:Go b κ st)(hm:m<=b.size)(ha:1<=a)(ham:a<=m)(hu:Up cmp (arrOf st) a)
  (k:∀n,a<=n->n<=m->Up cmp (arrOf st) n->(n=m∨∃u v,(arrOf st)[n - 1]?=some u/\(arrOf st)[n]?=some v/\cmp v u=true)->Q (none,n) st):wpS (model P w) A E s (ascLoop a m) Q st:=by
 unfold ascLoop;refine S0 (I:=λx c t=>t=st/\c=(none,x)/\Up cmp (arrOf st) x) (λx c t hax hxm hI=>?_) (λc t hI=>?_) ⟨rfl,rfl,hu⟩
 ·obtain⟨e1,e2,hu'⟩:=hI
  subst e1;subst e2;obtain⟨v,ev,mv⟩:=hg.el (i:=x) (by omega);obtain⟨u,eu,mu⟩:=hg.el (i:=x - 1) (by omega);refine B5 (C.ask _ _ _ _ _ _ hg ev eu ?_);cases hc:cmp v u with
  | true=>exact C4 (k x hax (by omega) hu' (.inr ⟨u,v,eu,ev,hc⟩))
  | false=>exact C4 ⟨rfl,rfl,Z70 C hg (by omega) (by omega) hu' eu ev (C.to u mu v mv (hg.ne C.nd eu ev (by omega)) hc)⟩
 ·obtain⟨e1,e2,hu'⟩:=hI
  subst e1;subst e2;have e:max a m=m:=by omega
  rw[e] at hu' ⊢;exact k m ham (A2 _) hu' (.inl rfl)
theorem desc{st:SortSt}{a:Nat}{Q:DescSt->SortSt->Prop}(hg:Go b κ st)(hm:m<=b.size)(ha:1<=a)(ham:a<=m)(hd:Dn cmp (arrOf st) a)
  (k:∀n,a<=n->n<=m->Dn cmp (arrOf st) n->Q (none,n,0) st):wpS (model P w) A E s (descLoop a m) Q st:=by
 unfold descLoop;refine S0 (I:=λx c t=>t=st/\c=(none,x,0)/\Dn cmp (arrOf st) x) (λx c t hax hxm hI=>?_) (λc t hI=>?_) ⟨rfl,rfl,hd⟩
 ·obtain⟨e1,e2,hu'⟩:=hI
  subst e1;subst e2;obtain⟨v,ev,mv⟩:=hg.el (i:=x) (by omega);obtain⟨u,eu,mu⟩:=hg.el (i:=x - 1) (by omega);refine B5 (C.ask _ _ _ _ _ _ hg ev eu ?_);cases hc:cmp v u with
  | true =>
   dsimp only;rw[if_pos rfl,if_neg (by omega)];exact C4 ⟨rfl,rfl,Zo0 C hg (by omega) (by omega) hu' eu ev hc⟩
  | false =>
   dsimp only;rw[if_neg (by simp)];refine B5 (C.ask _ _ _ _ _ _ hg eu ev ?_);rw[C.to u mu v mv (hg.ne C.nd eu ev (by omega)) hc];exact C4 (k x hax (by omega) hu')
 ·obtain⟨e1,e2,hu'⟩:=hI
  subst e1;subst e2;have e:max a m=m:=by omega
  rw[e] at hu' ⊢;exact k m ham (A2 _) hu'
theorem tl{st:SortSt}{Q:Option Nat->SortSt->Prop}(hg:Go b κ st)(hm:m<=b.size)(h1:1<=n)(hnm:n<=m)(hd:Dn cmp (arrOf st) n)
  (k:∀r t,Go b κ t->1<=r->r<=m->Up cmp (arrOf t) r->Q (some r) t):wpS (model P w) A E s (tail3 n m) Q st:=by
 unfold tail3;rw[reverseSlice'_eq];refine B5 (wpS_modify ?_);have hsz:n<=(arrOf st).size:=by rw[hg.sz];omega
 have g2:Go b κ (setArr st (mirror (arrOf st) 0 n ((n - 0)/2))):=hg.set (mirror_perm _ _ _ _);have at_:∀i,i<n->(mirror (arrOf st) 0 n ((n - 0)/2))[i]?=(arrOf st)[n - 1 - i]?:=λi hi=>by
  rw[getElem?_mirror_all hsz,if_pos ⟨C5 _,hi⟩,Nat.zero_add]
 have hu:Up cmp (arrOf (setArr st (mirror (arrOf st) 0 n ((n - 0)/2)))) n:=λi j x y hij hj ex ey=>by
  have ex:(mirror (arrOf st) 0 n ((n - 0)/2))[i]?=some x:=ex;have ey:(mirror (arrOf st) 0 n ((n - 0)/2))[j]?=some y:=ey;rw[at_ i (by omega)] at ex;rw[at_ j hj] at ey;exact hd (n - 1 - j) (n - 1 - i) y x (by omega) (by omega) ey ex
 exact B5 (asc C g2 hm h1 hnm hu λr a1 a2 a3 _=>C4 (k r _ g2 (by omega) a2 a3))
theorem run{st:SortSt}{Q:Option Nat->SortSt->Prop}(hg:Go b κ st)(hm:m<=b.size)(h1:1<=m)
  (k:∀r t,Go b κ t->1<=r->r<=m->Up cmp (arrOf t) r->Q (some r) t):wpS (model P w) A E s (countRun' 0 m) Q st:=by
 rw[countRun0_eq];refine B5 (asc C hg hm (A2 1) h1 (λi j x y a c _ _=>by omega) λn n1 n2 hu hor=>?_);dsimp only
 by_cases hnm:n=m
 ·rw[if_pos (by rw[hnm];simp)]
  exact C4 (k n st hg n1 n2 hu)
 ·rw[if_neg (by simpa using hnm)]
  obtain⟨u,v,eu,ev,hc⟩:=hor.resolve_left hnm
  by_cases hg1:n > 1
  ·rw[if_pos hg1]
   obtain⟨x,ex,mx⟩:=hg.el (i:=0) (by omega);refine B5 (C.ask _ _ _ _ _ _ hg ex eu ?_);rw[hu 0 (n - 1) x u (by omega) (by omega) ex eu];exact C4 (k n st hg n1 n2 hu)
  ·rw[if_neg hg1]
   have:n=1:=by omega
   subst this;unfold descPart;refine B5 (wpS_lift (D9 ⟨rfl,?_⟩));have d2:Dn cmp (arrOf st) (1+1):=λi j x y hij hj ex ey=>by
    have hi:i=0:=by omega
    have hj':j=1:=by omega
    subst hi;subst hj';rw[show (1:Nat) - 1=0 from rfl,ex] at eu;rw[ey] at ev;cases eu;cases ev;exact hc
   refine B5 (desc C hg hm (by omega) (by omega) d2 λr a1 a2 a3=>?_);dsimp only;rw[if_neg (by omega)];exact tl C hg hm (by omega) a2 a3 k
theorem ins{st:SortSt}{a:Nat}{Q:Bool->SortSt->Prop}(hg:Go b κ st)(hn:n<=b.size)(ha:a<=n)(hu:Up cmp (arrOf st) a)
  (k:∀t,Go b κ t->Up cmp (arrOf t) n->Q true t):wpS (model P w) A E s (binarySort' 0 n a) Q st:=by
 rw[binarySort'_eq];simp only[Nat.zero_add];refine B5 (wpS_mono (S0 (I:=λx c t=>c=(none,())/\Go b κ t/\Up cmp (arrOf t) (min x n)) (Q:=λc t=>c=(none,())/\Go b κ t/\Up cmp (arrOf t) n) (λx c t hax hxn hI=>?_) (λc t hI=>?_) ⟨rfl,hg,?_⟩) λc t hI=>?_)
 ·obtain⟨e1,g2,u2⟩:=hI
  subst e1;have ex:min x n=x:=by omega
  rw[ex] at u2;have hx:x<b.size:=by omega
  obtain⟨v,ev,mv⟩:=g2.el hx;refine B5 (wpS_mono (S0 (I:=λy c t2=>t2=t/\∃l r,c=(none,l,r)/\l<=r/\r<=x/\r - l<=x - y/\(∀i z,i<l->(arrOf t)[i]?=some z->cmp z v=true)/\∀i z,r<=i->i<x->(arrOf t)[i]?=some z->cmp v z=true)
   (Q:=λc t2=>t2=t/\∃l r,c=(none,l,r)/\l<=x/\(∀i z,i<l->(arrOf t)[i]?=some z->cmp z v=true)/\∀i z,l<=i->i<x->(arrOf t)[i]?=some z->cmp v z=true) (λy c t2 _ hyx hJ=>?_) (λc t2 hJ=>?_)
   ⟨rfl,0,x,rfl,by omega,by omega,by omega,λi z hi=>by omega,λi z h1 h2=>by omega⟩) λc t2 hJ=>?_)
  ·obtain⟨e1,l,r,e2,hlr,hrx,hm,lo,hi⟩:=hJ
   subst e1;subst e2;dsimp only
   by_cases hge:l ≥ r
   ·rw[if_pos hge]
    have:l=r:=by omega
    subst this;exact C4 ⟨rfl,l,l,rfl,hrx,lo,hi⟩
   ·rw[if_neg hge]
    obtain⟨u,eu,mu⟩:=g2.el (i:=(l+r)/2) (by omega);refine B5 (C.ask _ _ _ _ _ _ g2 ev eu ?_);cases hc:cmp v u with
    | true =>
     refine C4 ⟨rfl,l,(l+r)/2,rfl,by omega,by omega,by omega,lo,λi z h1 h2 ez=>?_⟩
     by_cases q:i=(l+r)/2
     ·subst q;rw[eu] at ez;cases ez;exact hc
     ·exact C.tr v mv u mu z (g2.mem ez).1 hc (u2 _ i u z (by omega) (by omega) eu ez)
    | false =>
     have huv:=C.to u mu v mv (g2.ne C.nd eu ev (by omega)) hc;refine C4 ⟨rfl,(l+r)/2+1,r,rfl,by omega,by omega,by omega,λi z h1 ez=>?_,hi⟩
     by_cases q:i=(l+r)/2
     ·subst q;rw[eu] at ez;cases ez;exact huv
     ·exact C.tr z (g2.mem ez).1 u mu v mv (u2 i _ z u (by omega) (by omega) ez eu) huv
  ·obtain⟨e1,l,r,e2,hlr,hrx,hm,lo,hi⟩:=hJ
   subst e1;subst e2;have:l=r:=by omega
   subst this;exact⟨rfl,l,l,rfl,hrx,lo,hi⟩
  ·obtain⟨e1,l,r,e2,hlx,lo,hi⟩:=hJ
   subst e1;subst e2;show wpS _ _ _ _ (do moveDown' x l;pure (ForInStep.yield (none,()))) _ _;rw[moveDown'_eq];refine B5 (wpS_modify (C4 ⟨rfl,g2.set (bubble_perm _ _ _),?_⟩));have hxs:x<(arrOf t2).size:=by rw[g2.sz];exact hx
   have e3:min (x+1) n=x+1:=by omega
   rw[e3];have at_:∀i,(bubble (arrOf t2) x (x - l))[i]?=if i=l then some v else if l<i/\i<=x then (arrOf t2)[i - 1]? else (arrOf t2)[i]?:=λi=>by
    rw[getElem?_bubble hxs _ (by omega),show x - (x - l)=l by omega,ev]
   intro i j y z hij hj ey ez;have ey:(bubble (arrOf t2) x (x - l))[i]?=some y:=ey;have ez:(bubble (arrOf t2) x (x - l))[j]?=some z:=ez;rw[at_] at ey ez
   by_cases q1:j=l
   ·rw[if_pos q1] at ez
    rw[if_neg (by omega),if_neg (by omega)] at ey;cases ez;exact lo i y (by omega) ey
   ·rw[if_neg q1] at ez
    by_cases q2:i=l
    ·rw[if_pos q2] at ey
     rw[if_pos ⟨by omega,by omega⟩] at ez;cases ey;exact hi (j - 1) z (by omega) (by omega) ez
    ·rw[if_neg q2] at ey
     by_cases q3:l<i
     ·rw[if_pos ⟨q3,by omega⟩] at ey
      rw[if_pos ⟨by omega,by omega⟩] at ez;exact u2 (i - 1) (j - 1) y z (by omega) (by omega) ey ez
     ·rw[if_neg (by omega)] at ey
      by_cases q4:l<j
      ·rw[if_pos ⟨q4,by omega⟩] at ez
       exact u2 i (j - 1) y z (by omega) (by omega) ey ez
      ·rw[if_neg (by omega)] at ez
       exact u2 i j y z hij (by omega) ey ez
 ·obtain⟨hc,g2,u2⟩:=hI
  refine⟨hc,g2,?_⟩
  rwa [show min (max (max a 1) n) n=n by omega] at u2
 ·intro i j x y hij hj ex ey
  exact hu i j x y hij (by omega) ex ey
 ·obtain⟨e1,g2,u2⟩:=hI
  subst e1;exact C4 (k t g2 u2)
end
section
variable{P:Program}{w:World}{s:Shared}{b:Array Keyed}{κ:SortKind}{cmp:Keyed->Keyed->Bool}
theorem runs(C:Cp P w A E s b κ cmp){st:SortSt}{Q:Unit->SortSt->Prop}(hg:Go b κ st)(h2:2<=b.size)(h64:b.size<64)
  (k:∀t,(arrOf t).Perm b->failedOf t=none->Up cmp (arrOf t) b.size->Q () t):wpS (model P w) A E s sortRuns' Q st:=by
 rw[sortRuns'_eq];refine B5 (S1 ?_);dsimp only;have hmr:minRun' b.size b.size 0=b.size:=by
  obtain⟨f,hf⟩:∃f,b.size=f+1:=⟨b.size - 1,by omega⟩;have e:minRun' (f+1) b.size 0=b.size:=by rw[minRun'_succ,if_pos h64];rfl
  rwa [← hf] at e
 simp only[hg.sz,hmr];refine B5 (wpS_mono (S0 (I:=λx c t=>(x=0/\c=(none,0)/\Go b κ t)∨(1<=x/\c=(none,b.size)/\(arrOf t).Perm b/\failedOf t=none/\(pendingOf t).size=1/\Up cmp (arrOf t) b.size))
  (Q:=λc t=>c=(none,b.size)/\(arrOf t).Perm b/\failedOf t=none/\(pendingOf t).size=1/\Up cmp (arrOf t) b.size) (λx c t _ hx hI=>?_) (λc t hI=>?_) (.inl ⟨rfl,rfl,hg⟩)) λc t hI=>?_)
 ·rcases hI with⟨e1,e2,g2⟩|⟨e1,e2,d1⟩
  ·subst e1;subst e2
   dsimp only;rw[if_neg (by omega)];simp only[Nat.sub_zero,Nat.min_self,Nat.zero_add];refine B5 (run C g2 (A2 _) (by omega) λr t2 g3 r1 r2 u3=>?_);dsimp only;have fin:∀t3,Go b κ t3->Up cmp (arrOf t3) b.size->(arrOf (setPending t3 ((pendingOf t3).push (0,b.size,0)))).Perm b/\failedOf (setPending t3 ((pendingOf t3).push (0,b.size,0)))=none/\(pendingOf (setPending t3 ((pendingOf t3).push (0,b.size,0)))).size=1/\Up cmp (arrOf (setPending t3 ((pendingOf t3).push (0,b.size,0)))) b.size :=
    λt3 g u=>⟨g.pm,g.fa,(by show ((pendingOf t3).push (0,b.size,0)).size=1;rw[g.pe];rfl),u⟩
   have nob:∀t3,Go b κ t3->(pendingOf t3).back?=none:=λt3 g=>by rw[g.pe];rfl
   by_cases hlt:r<b.size
   ·rw[if_pos hlt]
    refine B5 (wpS_lift (D9 ⟨rfl,?_⟩));refine B5 (ins C g3 (A2 _) r2 u3 λt3 g4 u4=>?_);simp only[Bool.not_true,Bool.false_eq_true,if_false];refine B5 (S1 ?_);rw[nob t3 g4];exact B5 (wpS_modify (C4 (.inr ⟨by omega,rfl,fin t3 g4 u4⟩)))
   ·rw[if_neg hlt]
    have hr:r=b.size:=by omega
    subst hr;refine B5 (S1 ?_);rw[nob t2 g3];exact B5 (wpS_modify (C4 (.inr ⟨by omega,rfl,fin t2 g3 u3⟩)))
  ·subst e2
   dsimp only;rw[if_pos (A2 _)];exact C4 ⟨rfl,d1⟩
 ·rcases hI with⟨e1,_,_⟩|⟨_,e2,d1⟩
  ·omega
  ·exact⟨e2,d1⟩
 ·obtain⟨e1,p1,p2,p3,p4⟩:=hI
  subst e1;dsimp only;refine B5 (wpS_mono (S0 (I:=λ_ c t2=>t2=t/\c=(none,())) (Q:=λc t2=>t2=t/\c=(none,())) (λx c t2 _ _ hJ=>?_) (λ_ _ hJ=>hJ) ⟨rfl,rfl⟩) λc t2 hJ=>?_)
  ·obtain⟨e1,e2⟩:=hJ
   subst e1;subst e2;refine B5 (S1 ?_);rw[if_pos (by rw[p3];exact A2 1)];exact C4 ⟨rfl,rfl⟩
  ·obtain⟨e1,e2⟩:=hJ
   subst e1;subst e2;exact C4 (k _ p1 p2 p4)
end
def PairAt(h:Heap)(v:Value)(q:Int×Int):Prop:=∃a o n t u,v=.ref a/\h.get? a=some o/\o.cls=.type "tuple"/\o.data=.seq #[.int q.1 t,.int q.2 u] n
theorem PairAt.one{h:Heap}{r:Int×Int}(x:PairAt h v q)(y:PairAt h v r):q=r:=by
 obtain⟨a,o,n,t,u,e,e1,_,e2⟩:=x;obtain⟨a',o',n',t',u',f,f1,_,f2⟩:=y;rw[e] at f;cases f;rw[e1] at f1;cases f1;rw[e2] at f2;injection f2 with f2 _
 have f3:=C9 Array.toList f2;simp only at f3;injection f3 with g1 g2
 injection g1 with g1 _
 injection g2 with g2 _
 injection g2 with g2 _
 exact M0 g1 g2
def lt2(a b:Int×Int):Bool:=decide (a.1<b.1∨(a.1=b.1/\a.2<b.2))
theorem up0{a b:Int×Int}:lt2 a b=true↔(a.1<b.1∨(a.1=b.1/\a.2<b.2)):=by unfold lt2;exact decide_eq_true_iff
open Classical in
def pk(h:Heap)(v:Value):Int×Int:=if e:∃q,PairAt h v q then e.choose else (0,0)
theorem p00{h:Heap}(x:PairAt h v q):pk h v=q:=by
 unfold pk;have e:∃q,PairAt h v q:=⟨q,x⟩;rw[dif_pos e];exact e.choose_spec.one x
section
variable{P:Program}{w:World}{s:Shared}
theorem f00(f:Bool)(x y:Value):keyLt' (tuples' f) x y=(do
  let xs ← Builtin.List.listItems x;let ys ← Builtin.List.listItems y
  for ((p,q),i) in (xs.toList.zip ys.toList).zipIdx do
   if !(← eqBool p q) then return ← oneLt' (f&&i==0) p q
  return decide (xs.size<ys.size)):=rfl
theorem pk0{f:Bool}{a c:Int}{t u:Tok}{Q:Bool->Shared->Prop}(h:Q (decide (a<c)) s):wpAny (model P w) A (oneLt' f (.int a t) (.int c u)) Q E s:=by
 cases f with
 | true=>exact oneLt_int h
 | false =>
  rw[oneLt'_eq];rw[if_neg (by simp)];refine A0 (wpAny_richCompare_same (M1 s a t) (M1 s c u) slot_int_lt (call_int_lt ⟨(λz=>nomatch z),?_⟩));exact L6 h
theorem go0{f:Bool}{x:Value}{r:Int×Int}{Q:Bool->Shared->Prop}(hx:PairAt s.heap x q)(hy:PairAt s.heap y r)(h:Q (lt2 q r) s):wpAny (model P w) A (keyLt' (tuples' f) x y) Q E s:=by
 obtain⟨a,o,n,t,u,rfl,e1,_,e2⟩:=hx;obtain⟨a',o',n',t',u',rfl,f1,_,f2⟩:=hy;rw[f00];refine A0 (o0 e1 e2 (A0 (o0 f1 f2 ?_)));simp only[List.zip_cons_cons,List.zip_nil_right,List.zipIdx_cons,List.zipIdx_nil,List.forIn_cons,List.forIn_nil];refine A0 (A0 (A0 (u7 ?_)))
 by_cases e:q.1=r.1
 ·rw[show (q.1==r.1)=true by simpa using e]
  rw[if_neg (by simp)];refine A1 (A0 (A0 (u7 ?_)))
  by_cases e':q.2=r.2
  ·rw[show (q.2==r.2)=true by simpa using e']
   rw[if_neg (by simp)];refine A1 (A1 (A1 ?_));have:lt2 q r=false:=by unfold lt2;rw[e,e'];simp
   rw[this] at h;exact h
  ·rw[show (q.2==r.2)=false by simpa using e']
   rw[if_pos (by rfl)];refine A0 (pk0 (A1 (A1 (A1 ?_))));have:lt2 q r=decide (q.2<r.2):=by unfold lt2;rw[e];simp
   rw[this] at h;exact h
 ·rw[show (q.1==r.1)=false by simpa using e]
  rw[if_pos (by rfl)];refine A0 (pk0 (A1 (A1 (A1 ?_))));have:lt2 q r=decide (q.1<r.1):=by unfold lt2;simp[e]
  rw[this] at h;exact h
end
structure Prs(h:Heap)(vs:List Value):Prop where
 all:∀v∈vs,∃q,PairAt h v q
 nd:(vs.map (pk h)).Nodup
def qf0(h:Heap)(x y:Keyed):Bool:=lt2 (pk h x.1) (pk h y.1)
section
variable{P:Program}{w:World}{s:Shared}
theorem Tr0{b:Array Keyed}{f:Bool}(hb:∀x∈b.toList,∃q,PairAt s.heap x.1 q)(st:SortSt)(i j:Nat)(x y:Keyed)(Q:Option Bool->SortSt->Prop)(hg:Go b (tuples' f) st)(ei:(arrOf st)[i]?=some x)(ej:(arrOf st)[j]?=some y)(k:Q (some (qf0 s.heap x y)) st):wpS (model P w) A E s (ltAt' i j) Q st:=by
 obtain⟨q,hq⟩:=hb x (hg.mem ei).1;obtain⟨r,hr⟩:=hb y (hg.mem ej).1;unfold qf0 at k;rw[p00 hq,p00 hr] at k;rw[ltAt'_eq];refine B5 (S1 ?_);show wpS _ _ _ _ (elem' (arrOf st) i>>=λx=>elem' (arrOf st) j>>=λy=>lt' x y) Q st;rw[elem'_eq,elem'_eq,ei,ej];refine B5 (C4 (B5 (C4 ?_)));rw[lt'_eq];refine B5 (S1 ?_);rw[hg.kd];exact B5 (wpS_lift (N9 (go0 hq hr ⟨rfl,C4 k⟩)))
theorem cpP(hv:Prs s.heap vs)(f:Bool):Cp P w A E s (pairsOf vs) (tuples' f) (qf0 s.heap):=by
 have el:∀x∈(pairsOf vs).toList,x.1∈vs/\x=(x.1,x.1):=λx hx=>by
  rw[pairsOf_toList] at hx;obtain⟨i,hi,e⟩:=I0.mp hx;rw[List.getElem_zip] at e;have e1:x.1=vs[i]'(by rw[List.length_zip] at hi;omega):=by rw[← e]
  rw[e1];exact⟨E5 _,e.symm⟩
 have hb:∀x∈(pairsOf vs).toList,∃q,PairAt s.heap x.1 q:=λx hx=>hv.all _ (el x hx).1
 have hnv:vs.Nodup:=by
  refine E7.mpr λi j hi hj hij e=>?_
  have:=E7.mp hv.nd i j (by simpa using hi) (by simpa using hj) hij;rw[List.getElem_map,List.getElem_map,e] at this;exact this rfl
 refine⟨Tr0 hb,?_,λx _ y _ z _ h1 h2=>?_,λx hx y hy hne h=>?_⟩
 ·rw[pairsOf_toList]
  refine E7.mpr λi j hi hj hij e=>?_
  rw[List.getElem_zip,List.getElem_zip] at e;have e1:=C9 Prod.fst e;simp only[List.length_zip] at hi hj;exact E7.mp hnv i j (by omega) (by omega) hij e1
 ·unfold qf0 at *
  rw[up0] at *;omega
 ·unfold qf0 at *
  have hpk:pk s.heap x.1≠pk s.heap y.1:=λe=>by
   apply hne;obtain⟨mx,ex⟩:=el x hx;obtain⟨my,ey⟩:=el y hy;obtain⟨i,hi,e1⟩:=I0.mp mx;obtain⟨j,hj,e2⟩:=I0.mp my;have hij:i=j:=by
    rcases Cg0 i j with q|q|q
    ·have:=E7.mp hv.nd i j (by simpa using hi) (by simpa using hj) q
     rw[List.getElem_map,List.getElem_map,e1,e2] at this;exact absurd e this
    ·exact q
    ·have:=E7.mp hv.nd j i (by simpa using hj) (by simpa using hi) q
     rw[List.getElem_map,List.getElem_map,e1,e2] at this;exact absurd e.symm this
   subst hij;rw[ex,ey,← e1,← e2]
  rw[up0];have h':¬((pk s.heap y.1).1<(pk s.heap x.1).1∨((pk s.heap y.1).1=(pk s.heap x.1).1/\(pk s.heap y.1).2<(pk s.heap x.1).2)):=λz=>by
   rw[up0.mpr z] at h;cases h
  have:(pk s.heap x.1).1≠(pk s.heap y.1).1∨(pk s.heap x.1).2≠(pk s.heap y.1).2:=by
   by_cases q1:(pk s.heap x.1).1=(pk s.heap y.1).1
   ·exact .inr λq2=>hpk (M0 q1 q2)
   ·exact .inl q1
  omega
theorem Wv0{Q:Option Value->Shared->Prop}(hv:PairAt s.heap v q)(h:∀t,Q (some (.int q.1 t)) s):wpAny (model P w) A (firstOfTuple' v) Q E s:=by
 obtain⟨a,o,n,t,u,rfl,e1,e2,e3⟩:=hv;show wpAny _ _ (typeOf (.ref a)>>=λT=>if (T != .type "tuple")=true then pure none else do return (← Builtin.List.listItems (.ref a))[0]?) _ _ _;refine A0 (E9 (T := "tuple") ⟨o,e1,e2⟩ ?_);rw[if_neg (by simp)];exact A0 (o0 e1 e3 (A1 (h t)))
theorem firstsP:∀{vs:List Value} {Q:List (Option Value)->Shared->Prop},(∀v∈vs,∃q,PairAt s.heap v q)->(∀(fs:List Value) (ns:List Int),IntsAre fs ns->fs.length=vs.length->Q (fs.map some) s)->wpAny (model P w) A (vs.mapM firstOfTuple') Q E s
 | [],Q,_,h=>by
  rw[List.mapM_nil];exact A1 (h [] [] .nil rfl)
 | v::vs,Q,hv,h=>by
  rw[List.mapM_cons];obtain⟨q,hq⟩:=hv v A5;refine A0 (Wv0 hq λt=>A0 (firstsP (λu hu=>hv u (A4 _ hu)) λfs ns a c=>A1 ?_));exact h (.int q.1 t::fs) (q.1::ns) (.cons q.1 t a) (by rw[List.length_cons,List.length_cons,c])
theorem U40{v₁ v₂:Value}{r:List Value}{Q:SortKind->Shared->Prop}(hv:∀v∈v₁::v₂::r,∃q,PairAt s.heap v q)(h:Q (tuples' true) s):wpAny (model P w) A (keyKind' (v₁::v₂::r).toArray) Q E s:=by
 rw[keyKind'_eq,List.mapM_toArray];refine A0 ?_;rw[map_eq_pure_bind];refine A0 (firstsP hv λfs ns a c=>A1 ?_);have h1:((fs.map some).toArray.all λx=>x.isSome)=true:=by simp
 rw[if_pos h1];have h2:(fs.map some).toArray.filterMap id=fs.toArray:=by
  simp
 refine A0 (D9 ?_);rw[h2,oneTypeOnly'_eq,List.mapM_toArray,mapM_typeOf_ints a];simp only[map_pure,pure_bind];obtain⟨f0,fr,rfl⟩:∃f0 fr,fs=f0::fr:=by
  cases fs with
  | nil=>simp at c
  | cons f0 fr=>exact⟨f0,fr,rfl⟩
 have h3:((f0::fr).map λ_=>Value.type "int").toArray[0]?=some (.type "int"):=by simp
 rw[h3];have h4:(((f0::fr).map λ_=>Value.type "int").toArray.all λx=>x==Value.type "int")=true:=by
  simp only[List.all_toArray,List.all_map,List.all_eq_true];exact λ_ _=>rfl
 simp only[h4,if_true,pure_bind];exact A1 h
end
section
variable{P:Program}{w:World}{s:Shared}
theorem PairAt.to{h:Heap}(x:PairAt h v q)(k:∀a o,h.get? a=some o->o.cls=.type "tuple"->h'.get? a=some o):PairAt h' v q:=by
 obtain⟨a,o,n,t,u,e,e1,e2,e3⟩:=x;exact⟨a,o,n,t,u,e,k a o e1 e2,e2,e3⟩
theorem Prs.to{h:Heap}(x:Prs h vs)(k:∀a o,h.get? a=some o->o.cls=.type "tuple"->h'.get? a=some o):Prs h' vs/\∀v∈vs,pk h' v=pk h v:=by
 have e:∀v∈vs,pk h' v=pk h v:=λv hv=>by
  obtain⟨q,hq⟩:=x.all v hv;rw[p00 hq,p00 (hq.to k)]
 refine⟨⟨λv hv=>?_,?_⟩,e⟩
 ·obtain⟨q,hq⟩:=x.all v hv
  exact⟨q,hq.to k⟩
 ·rw[List.map_congr_left e]
  exact x.nd
theorem Up0{F:Fin->Shared->Prop}(ho:s.heap.get? a=some (seqObj "list" vs.toArray n))(hv:Prs s.heap vs)(h64:vs.length<64)
  (h:∀out:Array Value,out.toList.Perm vs->(out.toList.map (pk s.heap)).Pairwise (λx y=>lt2 x y=true)->F (.done (.ret .none)) { s with heap:=sortedHeap s.heap a vs out }) :
  wpAny (model P w) A (Builtin.«list.sort» ⟨[.ref a],[]⟩) F E s:=by
 rw[list_sort_plain];have la:a<s.heap.objs.size:=A3 ho;obtain⟨ep,hu⟩:∃ep,(s.heap.update a (Obj.mapSeq λ_=>#[])).get? a=some (seqObj "list" #[] ep):=⟨_,get?_update_seq ho (λ_=>#[])⟩;refine A0 (o0 ho rfl (A0 (listUpdate_at ho rfl (A0 (seqEpoch_at hu rfl (A0 (k7 (A0 (wpAny_newList (C7 ?_))))))))));obtain⟨g,hgd⟩:∃g,g=((s.heap.update a (Obj.mapSeq λ_=>#[])).push (seqObj "tuple" vs.toArray 0)).push (seqObj "list" #[] 0):=⟨_,rfl⟩;have ne1:a≠(s.heap.update a (Obj.mapSeq λ_=>#[])).objs.size:=by rw[Heap.size_update];exact A8 la
 have h6:g.get? a=some (seqObj "list" #[] ep):=by
  rw[hgd,Heap.get?_push_ne _ _ _ (by rw[size_push',Heap.size_update];exact A8 (Ag0 la)),Heap.get?_push_ne _ _ _ ne1];exact hu
 have kp:∀c o,s.heap.get? c=some o->o.cls=.type "tuple"->g.get? c=some o:=λc o e1 e2=>by
  have hca:c≠a:=λz=>by
   subst z;rw[ho] at e1;cases e1;have e3:Value.type "list"=Value.type "tuple" := e2;injection e3 with e3
   exact absurd e3 (by decide)
  rw[hgd];exact A7 _ (A7 _ (by rw[Heap.get?_update_ne _ _ _ _ hca];exact e1))
 obtain⟨hv6,hpk⟩:=hv.to kp;show wpAny (model P w) A _ F E { s with heap:=((s.heap.update a (Obj.mapSeq λ_=>#[])).push (seqObj "tuple" vs.toArray 0)).push (seqObj "list" #[] 0) };rw[← hgd];dsimp only;have hsz:vs.toArray.size=vs.length:=by simp
 have fin:∀out:Array Value,out.toList.Perm vs->(out.toList.map (pk s.heap)).Pairwise (λx y=>lt2 x y=true)->F (.done (.ret .none)) { s with heap:=g.update a (Obj.mapSeq λ_=>out) }:=λout p1 p2=>by
  rw[hgd];exact h out p1 p2
 by_cases h2:vs.toArray.size<2
 ·rw[if_pos h2,if_pos h2]
  refine A0 (A1 ?_);rw[StateT.run_pure];refine A0 (A1 ?_);dsimp only;refine A0 (seqEpoch_at h6 rfl (A0 (listUpdate_at h6 rfl ?_ (hsz2:=by rw[Array.size_map];show (pairsOf vs).size<=_;rw[pairsOf_size,sizeLine_eq];omega))));simp only[bne_self_eq_false,Bool.false_eq_true,if_false];have e0:((vs.toArray.zip vs.toArray).map (·.2)).toList=vs:=by
   have:=o3 (A2 vs.length)
   simpa using this
  refine A1 (fin _ (by rw[e0]) ?_);rw[e0];refine E7.mpr λi j hi hj hij=>?_
  rw[List.length_map] at hi hj;omega
 ·rw[if_neg h2,if_neg h2]
  obtain⟨v₁,v₂,r,rfl⟩:∃v₁ v₂ r,vs=v₁::v₂::r:=by
   match vs,hsz,h2 with
   | [],_,h2=>simp at h2
   | [_],_,h2=>simp at h2
   | v₁::v₂::r,_,_=>exact⟨v₁,v₂,r,rfl⟩
  refine A0 (U40 (s:={ s with heap:=g }) hv6.all ?_);have C:=cpP (P:=P) (w:=w) (A:=A) (E:=E) (s:={ s with heap:=g }) hv6 true;refine A0 (D1 (runs C (st:=SortSt.mk' (tuples' true) ((v₁::v₂::r).toArray.zip (v₁::v₂::r).toArray) #[] 7 none)
   (Q:=λ_ t=>(arrOf t).Perm (pairsOf (v₁::v₂::r))/\failedOf t=none/\Up (qf0 g) (arrOf t) (pairsOf (v₁::v₂::r)).size)
   ⟨rfl,Array.Perm.refl _,rfl,rfl⟩ (by rw[pairsOf_size];simp) (by rw[pairsOf_size];exact h64) λt a1 a2 a3=>⟨a1,a2,a3⟩) ?_ λ_ _ e=>e)
  rintro⟨⟨⟩,t⟩ s' ⟨es,hp,hf,hup⟩;subst es;dsimp only;refine A0 (seqEpoch_at h6 rfl (A0 (listUpdate_at h6 rfl ?_ (hsz2:=by refine B7 (j3 ((Array.size_map ..).trans (hp.size_eq.trans (pairsOf_size _)))) ?_;rw[sizeLine_eq];omega))));rw[hf];simp only[bne_self_eq_false,Bool.false_eq_true,if_false];have hpl:(arrOf t).toList.Perm ((v₁::v₂::r).zip (v₁::v₂::r)):=by
   have:=m3.mp hp
   rwa [pairsOf_toList] at this
  have eq12:∀x∈(arrOf t).toList,x.1=x.2/\x.2∈v₁::v₂::r:=λx hx=>by
   have hm:=hpl.mem_iff.mp hx;obtain⟨i,hi,e⟩:=I0.mp hm;rw[List.getElem_zip] at e;rw[← e];exact⟨rfl,E5 _⟩
  have e2:((arrOf t).map (·.2)).toList=(arrOf t).toList.map (·.2):=by simp
  refine A1 (fin _ ?_ ?_)
  ·rw[e2]
   have:=hpl.map Prod.snd
   rwa [o3 (A2 _)] at this
  ·rw[e2,List.map_map]
   refine E7.mpr λi j hi hj hij=>?_
   rw[List.length_map] at hi hj;rw[List.getElem_map,List.getElem_map];have hi':i<(arrOf t).size:=by simpa using hi
   have hj':j<(arrOf t).size:=by simpa using hj
   have:=hup i j (arrOf t)[i] (arrOf t)[j] hij (by rw[← hp.size_eq];exact hj') (Al0 _ i hi') (Al0 _ j hj');have m1:=eq12 (arrOf t)[i] (by simp);have m2:=eq12 (arrOf t)[j] (by simp);unfold qf0 at this;rw[m1.1,m2.1,hpk _ m1.2,hpk _ m2.2] at this
   simpa using this
theorem Zd0{l:Addr}{Q:Value->Shared->Prop}(hl:s.heap.IsList l vs.toArray)(hv:Prs s.heap vs)(h64:vs.length<64)
  (h:∀out:Array Value,out.toList.Perm vs->(out.toList.map (pk s.heap)).Pairwise (λx y=>lt2 x y=true)->Q (.ref (s.heap.objs.size+1)) { s with heap:=sortedAll s.heap vs out }) :
  wpAny (model P w) A (call (.builtin "sorted") [.ref l]) Q E s:=by
 refine Calls.call_function_entry kind_sorted plain_sorted entry_sorted (args_sorted1 _) ?_;unfold Builtin.«sorted»;refine A0 (m:=checkCount "sorted" 1 1 _) (A1 (A0 (collect_list hl (A0 (wpAny_newList ?_)))));have hsz:((s.heap.push (seqObj "list" #[] 0)).update s.heap.objs.size (Obj.mapSeq (·++vs.toArray))).objs.size=s.heap.objs.size+1:=by rw[Heap.size_update,size_push']
 obtain⟨g,hg⟩:∃g,g=((s.heap.push (seqObj "list" #[] 0)).update s.heap.objs.size (Obj.mapSeq (·++vs.toArray))).push (seqObj "list" vs.toArray 0):=⟨_,rfl⟩;have hoL:g.get? (s.heap.objs.size+1)=some (seqObj "list" vs.toArray 0):=by
  rw[← hsz,hg];exact B3 _ rfl
 have kp:∀c o,s.heap.get? c=some o->o.cls=.type "tuple"->g.get? c=some o:=λc o e1 _=>by
  have lc:=A3 e1;rw[hg];refine A7 _ ?_;rw[Heap.get?_update_ne _ _ _ _ (A8 lc)];exact A7 _ e1
 obtain⟨hv2,hpk⟩:=hv.to kp;show wpAny _ _ _ _ _ { s with heap:=((s.heap.push (seqObj "list" #[] 0)).update s.heap.objs.size (Obj.mapSeq (·++vs.toArray))).push (seqObj "list" vs.toArray 0) };rw[hsz,← hg];refine A0 (C7 (D8 slot_list_sort ⟨_,hoL,rfl⟩ entry_list_sort (Up0 (s:={ s with heap:=g }) hoL hv2 h64 λout p1 p2=>⟨_,rfl,?_⟩) (args_list_sort _)));refine A1 ⟨_,rfl,?_⟩;have p3:(out.toList.map (pk s.heap)).Pairwise (λx y=>lt2 x y=true):=by
  rw[← List.map_congr_left λv hv=>hpk v (p1.mem_iff.mp hv)];exact p2
 have:=h out p1 p3;unfold sortedAll at this;rw[hg];exact this
end
end SoT
namespace SoT
def le2(a b:Int×Int):Bool:=!lt2 b a
def srt(ps:List (Int×Int)):List (Int×Int):=ps.mergeSort le2
theorem vi0{a b:Int×Int}:le2 a b=true↔¬(b.1<a.1∨(b.1=a.1/\b.2<a.2)):=by
 unfold le2 lt2;rw[Bool.not_eq_true',decide_eq_false_iff_not]
theorem X50(a b c:Int×Int)(h1:le2 a b=true)(h2:le2 b c=true):le2 a c=true:=by rw[vi0] at *;omega
theorem V00(a b:Int×Int):(le2 a b||le2 b a)=true:=by rw[Bool.or_eq_true,vi0,vi0];omega
theorem Wz0{a b:Int×Int}(h1:le2 a b=true)(h2:le2 b a=true):a=b:=by
 rw[vi0] at *;exact M0 (by omega) (by omega)
theorem o10:∀{l m:List (Int×Int)},l.Perm m->l.Pairwise (λa b=>le2 a b=true)->m.Pairwise (λa b=>le2 a b=true)->l=m
 | [],m,h,_,_=>by rw[List.nil_perm.mp h]
 | a::l,[],h,_,_=>by exact absurd (List.perm_nil.mp h) (by simp)
 | a::l,b::m,h,h1,h2=>by
  have self:∀x:Int×Int,le2 x x=true:=λx=>by rw[vi0];omega
  have hab:le2 a b=true:=by
   rcases A9.mp (h.mem_iff.mpr (A5 (a:=b) (l:=m))) with e|e
   ·rw[e];exact self a
   ·exact Ct0 h1 e
  have hba:le2 b a=true:=by
   rcases A9.mp (h.mem_iff.mp (A5 (a:=a) (l:=l))) with e|e
   ·rw[e];exact self b
   ·exact Ct0 h2 e
  have e:=Wz0 hab hba;subst e;rw[o10 (List.Perm.cons_inv h) (Cu0.mp h1).2 (Cu0.mp h2).2]
theorem u20(ps:List (Int×Int)):(srt ps).Perm ps:=List.mergeSort_perm ps le2
theorem mr0(ps:List (Int×Int)):(srt ps).Pairwise (λa b=>le2 a b=true):=List.pairwise_mergeSort X50 V00 ps
theorem fs0{l ps:List (Int×Int)}(hp:l.Perm ps)(h:l.Pairwise (λa b=>lt2 a b=true)):l=srt ps :=
 o10 (hp.trans (u20 ps).symm) (h.imp λ{a b} z=>by rw[up0] at z;rw[vi0];omega) (mr0 ps)
theorem dz0{l m:List (Int×Int)}(h:l.Perm m):srt l=srt m:=o10 ((u20 l).trans (h.trans (u20 m).symm)) (mr0 l) (mr0 m)
end SoT
namespace L2
open Spec PyProof.Rows SoT
def PrV(H:Hp):List V->List (Int×Int)->Prop
 | [],[]=>True
 | v::vs,q::qs=>(∃a,v=.ref a/\H a=some (.tup [.int q.1,.int q.2]))/\PrV H vs qs
 | _,_=>False
section
variable{X:Cx}{s:Shared}
theorem js0(I:Inv X pins σ H s)(h:H a=some (.tup [.int q.1,.int q.2])):PairAt s.heap (.ref a) q:=by
 obtain⟨its,rv,⟨o,e1,e2,n,e3⟩,_⟩:=I.tuple (X:=X) (xs:=[.int q.1,.int q.2]) (.inl (.inl h));cases rv with
 | cons r1 rv =>
  cases rv with
  | cons r2 rv =>
   cases rv;obtain⟨t,rfl⟩:=r1;obtain⟨u,rfl⟩:=r2;exact⟨a,o,n,t,u,rfl,e1,e2,e3⟩
theorem e30(I:Inv X pins σ H s):∀{ys:List V} {its:List Value} {ps:List (Int×Int)},Vals ys its->PrV H ys ps->its.map (pk s.heap)=ps/\(∀v∈its,∃q,PairAt s.heap v q)/\∀v∈its,∃a,v=.ref a/\V.ref a∈ys/\H a=some (.tup [.int (pk s.heap v).1,.int (pk s.heap v).2])
 | [],_,[],.nil,_=>⟨rfl,(λv h=>by cases h),(λv h=>by cases h)⟩
 | [],_,_::_,.nil,h=>h.elim
 | y::ys,_,[],.cons _ _,h=>h.elim
 | y::ys,_,q::ps,.cons r rv,h=>by
  obtain⟨⟨a,rfl,ha⟩,h2⟩:=h;cases (show _=Value.ref a from r);obtain⟨i1,i2,i3⟩:=e30 I rv h2;have e:=p00 (js0 I ha);refine⟨by rw[List.map_cons,i1,e],λv hv=>?_,λv hv=>?_⟩
  ·rcases A9.mp hv with rfl|hv
   ·exact⟨q,js0 I ha⟩
   ·exact i2 v hv
  ·rcases A9.mp hv with rfl|hv
   ·exact⟨a,rfl,A5,by rw[e];exact ha⟩
   ·obtain⟨b,e1,e2,e3⟩:=i3 v hv
    exact⟨b,e1,A4 _ e2,e3⟩
theorem kg0{h:Heap}{ys:List V}:∀{vs:List Value},(∀v∈vs,∃a,v=.ref a/\V.ref a∈ys/\H a=some (.tup [.int (pk h v).1,.int (pk h v).2]))->∃zs,Vals zs vs/\PrV H zs (vs.map (pk h))/\∀z∈zs,z∈ys
 | [],_=>⟨[],.nil,trivial,λz hz=>by cases hz⟩
 | v::vs,hv=>by
  obtain⟨a,rfl,m,e⟩:=hv v A5;obtain⟨zs,z1,z2,z3⟩:=kg0 (vs:=vs) λu hu=>hv u (A4 _ hu)
  exact⟨.ref a::zs,.cons rfl z1,⟨⟨a,rfl,e⟩,z2⟩,λz hz=>by
   rcases A9.mp hz with rfl|hz
   ·exact m
   ·exact z3 z hz⟩
theorem gs0:CallR X (.builtin "sorted") (λxs H Q=>∃(p:Addr) (ys:List V) (ps:List (Int×Int)),xs=[.ref p]/\SqL X.K H p ys/\PrV H ys ps/\ps.Nodup/\ps.length<64/\∀l zs,H l=none->PrV H zs (srt ps)->(∀z∈zs,z∈ys)->Q (.ref l) (upd H l (.lst zs))):=by
 intro pins s σ H xs us Q I r h;obtain⟨p,ys,ps,rfl,hq,hp,hn,h64,k⟩:=h;obtain⟨u,rfl,rx⟩:=vals1 r;cases rx;obtain⟨its,rv,pl,hz⟩:=I.list hq;obtain⟨i1,i2,i3⟩:=e30 I rv hp;have hl:its.length=ps.length:=by rw[← i1,List.length_map]
 refine Zd0 pl.isList ⟨i2,by rw[i1];exact hn⟩ (by omega) λout p1 p2=>?_
 have hs:out.toList.map (pk s.heap)=srt ps:=by
  refine fs0 ?_ p2;have:=p1.map (pk s.heap)
  rwa [i1] at this
 obtain⟨zs,z1,z2,z3⟩:=kg0 (H:=H) (h:=s.heap) (ys:=ys) (vs:=out.toList) λv hv=>i3 v (p1.mem_iff.mp hv)
 rw[hs] at z2;obtain⟨e,he⟩:=sortedAll_at s.heap its out;have hfr:H (s.heap.objs.size+1)=none:=I.hok.fresh (k6 _);refine⟨.ref (s.heap.objs.size+1),_,I.laid (t':=s.toks) (a:=s.heap.objs.size+1) (o:=.lst zs) (λb o hb=>sortedAll_old hb) (k6 _) ⟨?_,out.toList,e,z1,he⟩,rfl,k _ zs hfr z2 z3⟩;rw[z1.length,p1.length_eq];rw[rv.length] at hz;exact hz
end
end L2
namespace DL
open Spec PyProof.Rows L2 SoT
def pD(q:Int×Int):D:=.tup [.int q.1,.int q.2]
def s60:List D->Option (List (Int×Int))
 | []=>some []
 | .tup [.int i,.int j]::ds=>(s60 ds).map λr=>(i,j)::r
 | _=>none
def uw0:List D->Option D
 | [.lst ds]=>(s60 ds).bind λps=>if ps.Nodup/\ps.length<64 then some (.lst ((srt ps).map pD)) else none
 | _=>none
theorem i60:∀ps:List (Int×Int),s60 (ps.map pD)=some ps
 | []=>rfl
 | q::ps=>by show (s60 (ps.map pD)).map _=_;rw[i60 ps];rfl
theorem al0{ps:List (Int×Int)}(h1:ps.Nodup)(h2:ps.length<64):uw0 [.lst (ps.map pD)]=some (.lst ((srt ps).map pD)):=by
 show (s60 (ps.map pD)).bind _=_;rw[i60,Option.bind_some,if_pos ⟨h1,h2⟩]
theorem ec0:∀{ds:List D} {ys:List V} {ps:List (Int×Int)},Rps K H B ds ys->s60 ds=some ps->PrV H ys ps/\∀y∈ys,∃a,y=.ref a/\¬B a
 | [],ys,ps,r,h=>by
  rw[o8] at r;subst r;cases h;exact⟨trivial,λy hy=>by cases hy⟩
 | d::ds,ys,ps,r,h=>by
  rw[o6] at r;obtain⟨x,t,rfl,r1,r2⟩:=r;unfold s60 at h;split at h
  ·rename_i e;cases e
  ·rename_i i j ds' e
   injection e with e1 e2
   subst e1;subst e2;obtain⟨rs,e3,rfl⟩:=P5.mp h;obtain⟨i1,i2⟩:=ec0 r2 e3;rw[W3] at r1;obtain⟨a,xs,rfl,hq,rr⟩:=r1;rw[o6] at rr;obtain⟨x1,t1,rfl,q1,rr⟩:=rr;rw[o6] at rr;obtain⟨x2,t2,rfl,q2,rr⟩:=rr;rw[o8] at rr;subst rr;rw[m9] at q1 q2;subst q1;subst q2;exact⟨⟨⟨a,rfl,hq.2⟩,i1⟩,λy hy=>by
    rcases A9.mp hy with rfl|hy
    ·exact⟨a,rfl,hq.1⟩
    ·exact i2 y hy⟩
  ·cases h
theorem mz0:∀{zs:List V} {qs:List (Int×Int)} {a:Addr},PrV H zs qs->V.ref a∈zs->H a≠none
 | [],_,_,_,hz=>by cases hz
 | _::_,[],_,h,_=>h.elim
 | z::zs,q::qs,a,h,hz=>by
  obtain⟨⟨b,e,hb⟩,h2⟩:=h;rcases A9.mp hz with e2|hz
  ·rw[e] at e2
   cases e2;rw[hb];exact λz=>nomatch z
  ·exact mz0 h2 hz
theorem ex0:∀{zs:List V} {qs:List (Int×Int)},PrV H zs qs->(∀z∈zs,∃a,z=.ref a/\¬B a)->Rps K H B (qs.map pD) zs
 | [],[],_,_=>by rw[List.map_nil,o8]
 | [],_::_,h,_=>h.elim
 | _::_,[],h,_=>h.elim
 | z::zs,q::qs,h,hb=>by
  obtain⟨⟨a,rfl,ha⟩,h2⟩:=h;rw[List.map_cons,o6];refine⟨_,_,rfl,?_,ex0 h2 λy hy=>hb y (A4 _ hy)⟩;obtain⟨b,e,nb⟩:=hb _ A5;cases e;unfold pD;rw[W3];refine⟨a,_,rfl,⟨nb,ha⟩,?_⟩;rw[o6];refine⟨_,_,rfl,by rw[m9],?_⟩;rw[o6];exact⟨_,_,rfl,by rw[m9],by rw[o8]⟩
section
variable{X:Cx}
theorem ot0(hm:X.mg "sorted"=none)(hv:bootBuiltins "sorted"=some (.builtin "sorted"))(ha:PD X e g)(hg:Gl X "sorted" := by rfl)
  (he:starEach [e] X.env=(false,eval e X.env)::starEach [] X.env:=by rfl) (hpl:(backTo pos (starEach [] X.env)).any (·.1)=false:=by rfl) :
  PDF X (.Call (.Name "sorted" p) [e] [] pos) (oA (z9 g v6) uw0):=.mk λB δ=>(q80 gs0 hg hm hv (J4 (ha B δ) y70 he) (by decide) (by decide) he hpl).imp fun σ H Q ⟨d,en,h,k⟩=>by
 unfold oA z9 v6 at h;cases e1:g δ with
 | none=>rw[e1] at h;cases h
 | some x =>
  rw[e1] at h;simp only[Option.bind_some,Option.map_some] at h;refine⟨x,en,e1,λv H1 s1 r1=>?_⟩;unfold uw0 at h;split at h
  ·rename_i ds he1
   injection he1 with he1
   subst he1;cases e2:s60 ds with
   | none=>rw[e2] at h;cases h
   | some ps =>
    rw[e2] at h;simp only[Option.bind_some] at h;split at h
    ·rename_i hz
     cases h;rw[Y6] at r1;obtain⟨q,ys,rfl,hq,rr⟩:=r1;obtain⟨v1,v2⟩:=ec0 rr e2;refine⟨q,ys,ps,rfl,hq.to,v1,hz.1,hz.2,λl zs hl' hzs hin=>?_⟩;refine k l _ (s1.free hl') (s1.trans (Z9 hl')) ⟨zs,b8,?_⟩;refine Rps.same (Z9 hl') (ex0 hzs λz hz=>?_);obtain⟨a,rfl,nb⟩:=v2 z (hin z hz);refine⟨a,rfl,λq=>q.elim nb λq=>?_⟩;subst q;exact mz0 hzs hz hl'
    ·cases h
  ·cases h
end
end DL
namespace DL
open Spec PyProof.Rows L2
def oh0(neg:Bool):D->D->Option D
 | x,.lst ys=>if lean x 50=true/\leans ys 50=true then some (.bl (xor neg (ys.any λy=>deq y x))) else none
 | _,_=>none
def Wy0(K:W.Frag)(neg:Bool):R2:=λx y H Q=>∃(B B':BS) (dx:D) (ds:List D) (p:Addr) (xs:List V),y=.ref p/\SqL K H p xs/\Rp K H B dx x/\Rps K H B' ds xs/\lean dx 50=true/\leans ds 50=true/\Q (.bl (xor neg (ds.any λd=>deq d dx))) H
section
variable{X:Cx}
open Classical in
theorem Wu0{s:Shared}{σ:L2.St}(I:Inv X pins σ H s){dx:D}{x:V}{xs:List V}{its:List Value}(hu:A.units+50<cLine)(hx:Rp X.K H B dx x)(rx:RelV x v)(hs:Rps X.K H B' ds xs)(rv:Vals xs its)(lx:lean dx 50=true)(ls:leans ds 50=true) :
  ∃f:Value->Bool,(∀w∈its,SeqAt.EqAt A s w v (f w))/\its.any f=ds.any λd=>deq d dx:=by
 have at_:∀j w,its[j]?=some w->∃d,ds[j]?=some d/\SeqAt.EqAt A s w v (deq d dx):=λj w hw=>by
  have hj:j<its.length:=(D0.mp hw).1;have l1:=rv.length;have l2:=hs.length;obtain⟨y,ey,ry⟩:=hs.get (i:=j) (C1 (by omega:j<ds.length));obtain⟨u,eu,ru⟩:=rv.get ey;rw[hw] at eu;cases eu;exact⟨_,C1 (by omega),kb0 I 50 50 _ _ _ _ _ _ A hu (ub0 ls (C1 (by omega))) lx ry hx ru rx⟩
 refine⟨λw=>decide (∃(j:Nat) (d:D),its[j]?=some w/\ds[j]?=some d/\deq d dx=true),λw hw=>?_,?_⟩
 ·obtain⟨j,hj⟩:=Ai0.mp hw
  dsimp only
  by_cases h:∃(j:Nat) (d:D),its[j]?=some w/\ds[j]?=some d/\deq d dx=true
  ·rw[decide_eq_true h]
   obtain⟨i,d,e1,e2,e3⟩:=h;obtain⟨d',e4,q⟩:=at_ i w e1;rw[e2] at e4;cases e4;rw[e3] at q;exact q
  ·rw[decide_eq_false h]
   obtain⟨d',e4,q⟩:=at_ j w (by assumption);cases e5:deq d' dx with
   | true=>exact absurd ⟨j,d',by assumption,e4,e5⟩ h
   | false=>rw[e5] at q;exact q
 ·rw[Bool.eq_iff_iff,List.any_eq_true,List.any_eq_true]
  constructor
  ·rintro⟨w,_,h⟩
   obtain⟨j,d,_,e2,e3⟩:=c6 h;exact⟨d,D2 e2,e3⟩
  ·rintro⟨d,hd,h⟩
   obtain⟨j,hj⟩:=Ai0.mp hd;have l1:=rv.length;have l2:=hs.length;have hlt:j<its.length:=by have:=(D0.mp hj).1;omega
   exact⟨its[j],E5 hlt,L1 ⟨j,d,C1 hlt,hj,h⟩⟩
theorem ac0(hu:X.A.units+64<cLine):OpR X (compareOp .NotIn) (Wy0 X.K true):=by
 intro pins s σ H x y v u Q I rx ry h;obtain⟨B,B',dx,ds,p,xs,rfl,hq,hx,hs,lx,ls,q⟩:=h;cases ry;obtain⟨its,r,pl,hz⟩:=I.list hq;obtain⟨f,f1,f2⟩:=Wu0 (A:=X.A.in1) I (by show X.A.units+1+50<cLine;omega) hx rx hs r lx ls;refine SeqAt.notIn_listAt f pl.isList (λw hw=>f1 w (by simpa using hw)) ⟨.bl _,H,I,rfl,?_⟩;rw[show its.toArray.any f=its.any f by simp,f2];rw[Bool.true_xor] at q;exact q
theorem Yd0(neg:Bool):Op2 K (Wy0 K neg) (oh0 neg):=by
 intro H B x y dx dy d Q hb rx ry h k;unfold oh0 at h;split at h
 ·rename_i ds
  split at h
  ·rename_i hl
   cases h;rw[Y6] at ry;obtain⟨p,xs,rfl,hq,rr⟩:=ry;exact⟨B,B,dx,ds,p,xs,rfl,hq.to,rx,rr,hl.1,hl.2,k _ H (Same.refl H) (by rw[X5])⟩
  ·cases h
 ·cases h
end
end DL
namespace DL
open Spec PyProof.Rows L2
def pr0(gk gv:GE):GE:=fun δ=>(gk δ).bind λa=>(yo0 a).bind λk=>(gv δ).map λb=>.dct (.inl [k]) [b]
section
variable{X:Cx}{ke ve:Expr}{gk gv:Ds->Option D}
theorem pq0(hk:PD X ke gk)(hv:PD X ve gv):PDF X (.Dict [some ke] [ve] pos) (pr0 gk gv):=.mk λB δ pins s σ H Q I ⟨d,en,h,k⟩=>by
 unfold pr0 at h;cases e1:gk δ with
 | none=>rw[e1] at h;cases h
 | some a =>
  rw[e1] at h;simp only[Option.bind_some] at h;cases e2:yo0 a with
  | none=>rw[e2] at h;cases h
  | some key =>
   rw[e2] at h;simp only[Option.bind_some] at h;cases e3:gv δ with
   | none=>rw[e3] at h;cases h
   | some b =>
    rw[e3] at h;cases h;have hb:sysModules<s.heap.objs.size:=E6 (by decide) ((I.mod.glob.keeps I.bk).lt:mainGlobals<s.heap.objs.size);have hp:H s.heap.objs.size=none:=I.hok.fresh (A2 _);have I1:Inv X pins σ (upd H s.heap.objs.size (.dK [])) { s with heap:=s.heap.push { cls:=.type "dict",data:=.dict #[] } }:=I.laid (a:=s.heap.objs.size) (o:=.dK []) (t':=s.toks) (λ_ _ q=>A7 _ q) (A2 _) (lj0 s.heap hb);have en1:Env X.K (upd H s.heap.objs.size (.dK [])) (λa=>B a∨a=s.heap.objs.size) σ δ:=en.fresh hp;have pp:=cl0 (pos:=pos) (hk (λa=>B a∨a=s.heap.objs.size) δ) (hv (λa=>B a∨a=s.heap.objs.size) δ) (a90 (X:=X) (pos:=pos));rw[arm_eval_Dict,zip_pairTrees [some ke] [ve] X.env pos rfl rfl,dictDisplay_pairs (pairTrees [some ke] [ve] X.env pos) (λz=>by have hn:=pairTrees_length [some ke] [ve] X.env pos rfl rfl;rw[z] at hn;cases hn) (by rw[pairTrees_length [some ke] [ve] X.env pos rfl rfl];simp)];refine A0 (i0 (A0 ?_));unfold subDict;refine A0 (wpAny_alloc ?_);refine A0 (C7 ?_);rw[if_pos (by rw[pairTrees_length [some ke] [ve] X.env pos rfl rfl];simp)];refine A0 (thn (pp pins _ σ _ (λps H2=>∃v1 v2,ps=[(v1,v2)]/\Rp X.K H2 (λa=>B a∨a=s.heap.objs.size) a v1/\Rp X.K H2 (λa=>B a∨a=s.heap.objs.size) b v2/\Same (upd H s.heap.objs.size (.dK [])) H2) I1
     ⟨a,en1,e1,λv1 H1 s1 r1=>⟨b,en1.same s1,e3,λv2 H2 s2 r2=>⟨v1,v2,rfl,r1.same s2,r2,s1.trans s2⟩⟩⟩) λvs s2 ⟨ps,H2,I2,rel,v1,v2,eps,r1,r2,sm⟩=>?_)
    subst eps;cases rel with
    | @cons _ q _ _ rh rt =>
     cases rt;obtain⟨q1,q2⟩:=q;have ek:=qq0 e2 r1;obtain⟨rq1,rq2⟩:=rh;rw[ek] at rq1;refine C7 ?_;refine A0 ?_;simp only[List.forIn_cons,List.forIn_nil];refine A0 (A0 (fk0 I2 (sm _ _ b8) (by decide) rq1 rq2 λh' tk I3 _=>A1 ?_));refine A1 (A1 (A1 (A1 ⟨.ref s.heap.objs.size,_,I3,rfl,?_⟩)));refine k s.heap.objs.size _ hp (λc o e=>?_) ⟨[v2],b8,rfl,?_⟩
     ·have hc:c≠s.heap.objs.size:=O8 e hp
      rw[Z6 hc];exact sm c o (by rw[Z6 hc];exact e)
     ·have:=r2.mono (Gr.own (H:=H2) (B:=λa=>B a∨a=s.heap.objs.size) (a:=s.heap.objs.size) (o:=.dK (putK [] key v2)) (.inr rfl))
      rw[o6];exact⟨v2,[],rfl,this,by rw[o8]⟩
end
end DL
namespace W
open DL
def hasAll(x s:Str):Bool:=x.cps.toList.all λc=>decide (c∈s.cps.toList)
def nameS:Str := "0123456789abcdefghijklmnopqrstuvwxyz"
def isName(x:Str):Bool:=(decide ((x.length:Int)<=8)&&hasAll x nameS)&&decide (0<(x.length:Int))
def T70:D->Str
 | .tup (.str n::_)=>n
 | _ => ""
inductive Pt where
 | text (w:Str)|row (vs:List D)|table (ps:List (Str×D))|rcd (c:Str) (ps:List (Str×D))
def pr(p:Str×D):D:=.tup [.str p.1,p.2]
def Pt.d:Pt->D
 | .text w=>.tup [.str "text",.str w]
 | .row vs=>.tup [.str "row",.tup vs]
 | .table ps=>.tup [.str "table",.tup (ps.map pr)]
 | .rcd c ps=>.tup [.str "record",.str c,.tup (ps.map pr)]
def Pt.vals:Pt->List D
 | .text _=>[]
 | .row vs=>vs
 | .table ps=>ps.map (·.2)
 | .rcd _ ps=>ps.map (·.2)
def Pt.pnames:Pt->List Str
 | .text _=>[]
 | .row _=>[]
 | .table ps=>ps.map (·.1)
 | .rcd _ ps=>ps.map (·.1)
def Pt.cls:Pt->List Str
 | .rcd c _=>[c]
 | _=>[]
def Pt.all(p:Pt):List Str:=p.pnames++p.cls
theorem qu0{n:Str}(h:isName n=true):n.length<=8:=by
 unfold isName at h;simp only[Bool.and_eq_true,decide_eq_true_eq] at h;omega
theorem mp0(ps:List (Str×D)):Q4 (gN 0) noT (o2 (gv 0) (gc (.int 1)) ixD) [.un] (ps.map pr)=some (ps.map (·.2)):=by
 rw[O1 (λd=>match d with|.tup [_,v]=>v|_=>.non) (λd hd=>by
  obtain⟨p,hp,rfl⟩:=A6.mp hd;exact⟨[.sh (pr p)],rfl,rfl,rfl⟩),List.map_map]
 rfl
theorem tg0(ps:List (Str×D)):Q4 (gN 0) noT (o2 (gv 0) (gc (.int 0)) ixD) [.un] (ps.map pr)=some ((ps.map (·.1)).map .str):=by
 rw[O1 (λd=>.str (T70 d)) (λd hd=>by
  obtain⟨p,hp,rfl⟩:=A6.mp hd;exact⟨[.sh (pr p)],rfl,rfl,rfl⟩),List.map_map,List.map_map]
 rfl
def Pt.few(p:Pt):Prop:=p.vals.length<=sizeLine
def G5:Str := "abcdefghijklmnopqrstuvwxyz0123456789"
def cg(i:Int):Nat:=G5.cps.toList.getD i.toNat 0
theorem jk0(i:Int)(h0:0<=i)(h1:i<36):ixD (.str G5) (.int i)=some (.str ⟨#[cg i]⟩):=by
 have hl:G5.cps.toList.length=36:=by decide +kernel
 have hz:G5.length<=sizeLine:=by decide +kernel
 have:=yb0 (xs:=G5.cps.toList) (i:=i) h0 (by rw[hl];omega) 0;simp only[ixD,if_pos hz,this,Option.map_some];rfl
theorem fu0(i:Int)(h0:0<=i)(h1:i<36):cg i∈nameS.cps.toList:=by
 have h:∀n:Nat,n<36->G5.cps.toList.getD n 0∈nameS.cps.toList:=by decide +kernel
 exact h i.toNat (by omega)
theorem Xe0(i j:Int)(h0:0<=i)(h1:i<36)(h2:0<=j)(h3:j<36)(e:cg i=cg j):i=j:=by
 have h:∀n:Nat,n<36->∀m:Nat,m<36->G5.cps.toList.getD n 0=G5.cps.toList.getD m 0->n=m:=by decide +kernel
 have:=h i.toNat (by omega) j.toNat (by omega) e;omega
def ones(l:List Nat):List Str:=l.map λc=>⟨#[c]⟩
def strOf(l:List Nat):Str:=⟨l.toArray⟩
theorem join_ones(l:List Nat):Txt.join "" (ones l)=strOf l:=by
 have key:∀(l:List Nat) (acc:List Nat),(ones l).foldl (λa p=>a++("" : Str).cps++p.cps) acc.toArray=(acc++l).toArray:=by
  intro l
  induction l with
  | nil=>intro acc;simp[ones]
  | cons c l ih =>
   intro acc;show (ones l).foldl _ (acc.toArray++("" : Str).cps++#[c])=_;have e:acc.toArray++("" : Str).cps++#[c]=(acc++[c]).toArray:=by
    have:("" : Str).cps=#[]:=rfl;rw[this];simp
   rw[e,ih];simp
 cases l with
 | nil=>rfl
 | cons c l =>
  show (⟨_⟩:Str)=_;unfold strOf;congr 1;exact key l [c]
theorem r00:∀l:List Nat,((ones l).map (·.length)).sum=l.length
 | []=>rfl
 | c::l=>by
  show 1+((ones l).map (·.length)).sum=l.length+1;rw[r00 l];omega
theorem ea0(l:List Nat)(h1:0<l.length)(h2:l.length<=8)(h3:∀c∈l,c∈nameS.cps.toList):isName (strOf l)=true:=by
 unfold isName hasAll;have e:(strOf l).length=l.length:=by show l.toArray.size=_;simp
 have e2:(strOf l).cps.toList=l:=by simp[strOf]
 rw[e,e2];simp only[Bool.and_eq_true,decide_eq_true_eq,List.all_eq_true];exact⟨⟨by omega,λc hc=>by simpa using h3 c hc⟩,by omega⟩
theorem fy0{l m:List Nat}(h:strOf l=strOf m):l=m:=by
 unfold strOf at h;injection h with h
 simpa using C9 Array.toList h
end W
namespace Pn
open DL W
def Q8:GS:=(v7 (ifD (o70 (ob (o2 (o2 (gv 0) (gc (.int 0)) ixD) (gc (.str "text")) eqD)) (ob (o2 (o2 (gv 0) (gc (.int 0)) ixD) (gc (.str "row")) eqD)))
 (v7 (U8 (W7 v6))
 u5)
 u5)
 (v7 (U8 (o9 1 [] (tupI (o2 (gv 0) (unG J1 (gc (.int 1))) ixD)) (gN 0) noT (o2 (gv 0) (gc (.int 0)) ixD)))
 u5))
def O9:List Str:=["part"]
def Y5:List D->Option D:=mkN 1 O9 Q8
def un0:GS:=(v7 (ifD (ob (o2 (o2 (gv 0) (gc (.int 0)) ixD) (gc (.str "text")) eqD))
 (v7 (o7 (m7 (z9 (gc (.str "text")) (z9 (o2 (gv 0) (gc (.int 1)) ixD) v6))))
 u5)
 u5)
 (v7 (ifD (ob (o2 (o2 (gv 0) (gc (.int 0)) ixD) (gc (.str "row")) eqD))
 (v7 (o7 (m7 (z9 (gc (.str "row")) (z9 (oA (z9 (o2 (gv 0) (gc (.int 1)) ixD) v6) Y8) v6))))
 u5)
 u5)
 (v7 (ifD (ob (o2 (o2 (gv 0) (gc (.int 0)) ixD) (gc (.str "table")) eqD))
 (v7 (o7 (m7 (z9 (gc (.str "table")) (z9 (oA (z9 (oA (z9 (gv 0) v6) Y5) v6) Z8) v6))))
 u5)
 u5)
 (v7 (o7 (m7 (z9 (gc (.str "record")) (z9 (o2 (gv 0) (gc (.int 1)) ixD) (z9 (oA (z9 (oA (z9 (gv 0) v6) Y5) v6) Z8) v6)))))
 u5))))
def sb0:List Str:=["part"]
def z60:List D->Option D:=mkF 1 sb0 un0
def zk0:GS:=(v7 (ifD (ob (o2 (o2 (gv 0) (gc (.int 0)) ixD) (gc (.str "text")) eqD))
 (v7 (U8 (W7 v6))
 u5)
 u5)
 (v7 (ifD (ob (o2 (o2 (gv 0) (gc (.int 0)) ixD) (gc (.str "row")) eqD))
 (v7 (U8 (oA (z9 (o2 (gv 0) (gc (.int 1)) ixD) v6) wn0))
 u5)
 u5)
 (v7 (U8 (o9 1 [] (tupI (o2 (gv 0) (unG J1 (gc (.int 1))) ixD)) (gN 0) noT (o2 (gv 0) (gc (.int 1)) ixD)))
 u5)))
def zv0:List Str:=["part"]
def m_values:List D->Option D:=mkN 1 zv0 zk0
def M5:GS:=(v7 (ifD (ob (o2 (o2 (gv 0) (gc (.int 0)) ixD) (gc (.str "text")) eqD))
 (v7 (o7 (gv 0))
 u5)
 u5)
 (v7 (ifD (ob (o2 (o2 (gv 0) (gc (.int 0)) ixD) (gc (.str "row")) eqD))
 (v7 (o7 (m7 (z9 (gc (.str "row")) (z9 (oA (z9 (gv 1) v6) Z8) v6))))
 u5)
 u5)
 (v7 (m5 (gN 2) (oA (z9 (oA (z9 (gv 0) v6) Y5) (z9 (gv 1) v6)) rn0))
 (v7 (ifD (ob (o2 (o2 (gv 0) (gc (.int 0)) ixD) (gc (.str "table")) eqD))
 (v7 (o7 (m7 (z9 (gc (.str "table")) (z9 (gv 2) v6))))
 u5)
 u5)
 (v7 (o7 (m7 (z9 (gc (.str "record")) (z9 (o2 (gv 0) (gc (.int 1)) ixD) (z9 (gv 2) v6)))))
 u5)))))
def J8:List Str:=["part", "some", "pairs"]
def V9:List D->Option D:=mkF 2 J8 M5
theorem Q3(p:Pt)(h:p.few):m_values [p.d]=some (.lst p.vals):=by
 cases p with
 | text w=>kernel_rfl
 | row vs =>
  refine O5 rfl (v9 (δ':=[.sh (Pt.row vs).d]) (by rw[Z0 (by kernel_rfl)];rfl) (N6 (by rw[V0 (by kernel_rfl)];rfl)))
 | table ps =>
  refine O5 rfl (v9 (δ':=[.sh (Pt.table ps).d]) (by rw[Z0 (by kernel_rfl)];rfl) (v9 (δ':=[.sh (Pt.table ps).d]) (by rw[Z0 (by kernel_rfl)];rfl) (N6 (M8 ?_))));exact Z5 (items:=ps.map pr) rfl (by have:(ps.map (·.2)).length<=sizeLine:=h;simpa using this) (mp0 ps)
 | rcd c ps =>
  refine O5 rfl (v9 (δ':=[.sh (Pt.rcd c ps).d]) (by rw[Z0 (by kernel_rfl)];rfl) (v9 (δ':=[.sh (Pt.rcd c ps).d]) (by rw[Z0 (by kernel_rfl)];rfl) (N6 (M8 ?_))));exact Z5 (items:=ps.map pr) rfl (by have:(ps.map (·.2)).length<=sizeLine:=h;simpa using this) (mp0 ps)
theorem tw0(p:Pt)(h:p.few):Y5 [p.d]=some (.lst (p.pnames.map .str)):=by
 cases p with
 | text w=>kernel_rfl
 | row vs=>kernel_rfl
 | table ps =>
  refine O5 rfl (v9 (δ':=[.sh (Pt.table ps).d]) (by rw[Z0 (by kernel_rfl)];rfl) (N6 (M8 ?_)));exact Z5 (items:=ps.map pr) rfl (by have:(ps.map (·.2)).length<=sizeLine:=h;simpa using this) (tg0 ps)
 | rcd c ps =>
  refine O5 rfl (v9 (δ':=[.sh (Pt.rcd c ps).d]) (by rw[Z0 (by kernel_rfl)];rfl) (N6 (M8 ?_)));exact Z5 (items:=ps.map pr) rfl (by have:(ps.map (·.2)).length<=sizeLine:=h;simpa using this) (tg0 ps)
def hd:Pt->D
 | .text w=>.tup [.str "text",.str w]
 | .row vs=>.tup [.str "row",.int vs.length]
 | .table ps=>.tup [.str "table",.tup ((ps.map (·.1)).map .str)]
 | .rcd c ps=>.tup [.str "record",.str c,.tup ((ps.map (·.1)).map .str)]
def put:Pt->List D->Pt
 | .text w,_=>.text w
 | .row _,vs=>.row vs
 | .table ps,vs=>.table ((ps.map (·.1)).zip vs)
 | .rcd c ps,vs=>.rcd c ((ps.map (·.1)).zip vs)
theorem rm0(p:Pt)(h:p.few):z60 [p.d]=some (hd p):=by
 have e:=tw0 p h;cases p with
 | text w=>kernel_rfl
 | row vs=>kernel_rfl
 | table ps =>
  refine Z1 rfl (v9 (δ':=[.sh (Pt.table ps).d]) (by rw[Z0 (by kernel_rfl)];rfl) (v9 (δ':=[.sh (Pt.table ps).d]) (by rw[Z0 (by kernel_rfl)];rfl) (n6 ?_)));rw[V0 (by kernel_rfl)];refine n6 (Y4 (Z7 (cons_of rfl (cons_of (d:=.tup ((ps.map (·.1)).map .str)) ?_ rfl)) (by show 2<=sizeLine;decide)));rw[o5 (cons_of (by rw[o5 (ds:=[(Pt.table ps).d]) rfl];exact e) rfl)];rfl
 | rcd c ps =>
  refine Z1 rfl (v9 (δ':=[.sh (Pt.rcd c ps).d]) (by rw[Z0 (by kernel_rfl)];rfl) (v9 (δ':=[.sh (Pt.rcd c ps).d]) (by rw[Z0 (by kernel_rfl)];rfl) (v9 (δ':=[.sh (Pt.rcd c ps).d]) (by rw[Z0 (by kernel_rfl)];rfl) ?_)));refine n6 (Y4 (Z7 (cons_of rfl (cons_of (d:=.str c) rfl (cons_of (d:=.tup ((ps.map (·.1)).map .str)) ?_ rfl))) (by show 3<=sizeLine;decide)));rw[o5 (cons_of (by rw[o5 (ds:=[(Pt.rcd c ps).d]) rfl];exact e) rfl)];rfl
theorem eu0(ns:List Str)(vs:List D):rn0 [.lst (ns.map .str),.lst vs]=some (.tup ((ns.zip vs).map pr)):=by
 simp only[rn0];rw[List.zip_map_left,List.map_map];rfl
theorem v90(p:Pt)(h:p.few)(vs:List D):V9 [p.d,.lst vs]=some (put p vs).d:=by
 have e:=tw0 p h;cases p with
 | text w=>kernel_rfl
 | row us=>kernel_rfl
 | table ps =>
  refine Z1 rfl (v9 (δ':=[.sh (Pt.table ps).d,.sh (.lst vs),.un]) (by rw[Z0 (by kernel_rfl)];rfl) (v9 (δ':=[.sh (Pt.table ps).d,.sh (.lst vs),.un]) (by rw[Z0 (by kernel_rfl)];rfl) (v9 (j7 (d:=.tup (((ps.map (·.1)).zip vs).map pr)) ?_) (n6 ?_))))
  ·rw[o5 (cons_of (by rw[o5 (ds:=[(Pt.table ps).d]) rfl];exact e) (cons_of rfl rfl))]
   exact eu0 _ _
  ·rw[V0 (by kernel_rfl)]
   rfl
 | rcd c ps =>
  refine Z1 rfl (v9 (δ':=[.sh (Pt.rcd c ps).d,.sh (.lst vs),.un]) (by rw[Z0 (by kernel_rfl)];rfl) (v9 (δ':=[.sh (Pt.rcd c ps).d,.sh (.lst vs),.un]) (by rw[Z0 (by kernel_rfl)];rfl) (v9 (j7 (d:=.tup (((ps.map (·.1)).zip vs).map pr)) ?_)
   (v9 (δ':=[.sh (Pt.rcd c ps).d,.sh (.lst vs),.sh (.tup (((ps.map (·.1)).zip vs).map pr))]) (by rw[Z0 (by kernel_rfl)];rfl) ?_))))
  ·rw[o5 (cons_of (by rw[o5 (ds:=[(Pt.rcd c ps).d]) rfl];exact e) (cons_of rfl rfl))]
   exact eu0 _ _
  ·rfl
theorem ds0(h:∀d∈l,lean d n=true):leans l n=true:=by
 induction l with
 | nil=>unfold leans;rfl
 | cons d l ih =>
  unfold leans;rw[h d A5,ih λe he=>h e (A4 _ he)];rfl
theorem vj0(s:Str)(n:Nat):lean (.str s) n=true:=by unfold lean;rfl
theorem vy0(h:∀d∈l,lean d n=true):lean (.tup l) (n+1)=true:=by unfold lean;exact ds0 h
mutual
theorem kl0:∀(d:D) (n:Nat),lean d n=true->deq d d=true
 | .non,_,_=>by unfold deq;rfl
 | .bl b,_,_=>by unfold deq;simp
 | .int b,_,_=>by unfold deq;simp
 | .str b,_,_=>by unfold deq;simp
 | .tup ds,0,h=>by unfold lean at h;cases h
 | .tup ds,n+1,h=>by unfold lean at h;unfold deq;exact sn0 ds n h
 | .lst ds,0,h=>by unfold lean at h;cases h
 | .lst ds,n+1,h=>by unfold lean at h;unfold deq;exact sn0 ds n h
 | .dct _ _,n,h=>by unfold lean at h;cases h
theorem sn0:∀(ds:List D) (n:Nat),leans ds n=true->G4 ds ds=true
 | [],_,_=>by unfold G4;rfl
 | d::ds,n,h=>by
  unfold leans at h;rw[Bool.and_eq_true] at h;unfold G4;rw[kl0 d n h.1,sn0 ds n h.2];rfl
end
mutual
def nb:D->Bool
 | .bl _=>false
 | .dct _ _=>false
 | .tup xs=>nbs xs
 | .lst xs=>nbs xs
 | _=>true
def nbs:List D->Bool
 | []=>true
 | x::xs=>nb x&&nbs xs
end
mutual
theorem fe0:∀(d e:D),nb d=true->nb e=true->deq d e=true->d=e
 | .non,e,_,h2,h=>by cases e<;>unfold deq at h<;>first|rfl|(cases h)
 | .bl b,e,h1,_,_=>by unfold nb at h1;cases h1
 | .int i,e,_,h2,h=>by
  cases e<;>unfold deq at h<;>first|(cases h;done)|(unfold nb at h2;cases h2;done)|(rw[beq_iff_eq] at h;rw[h])
 | .str x,e,_,h2,h=>by cases e<;>unfold deq at h<;>first|(cases h;done)|(rw[beq_iff_eq] at h;rw[h])
 | .tup xs,e,h1,h2,h=>by
  cases e<;>unfold deq at h<;>try (cases h;done)
  unfold nb at h1 h2;rw[o00 _ _ h1 h2 h]
 | .lst xs,e,h1,h2,h=>by
  cases e<;>unfold deq at h<;>try (cases h;done)
  unfold nb at h1 h2;rw[o00 _ _ h1 h2 h]
 | .dct _ _,e,h1,_,_=>by unfold nb at h1;cases h1
theorem o00:∀(ds es:List D),nbs ds=true->nbs es=true->G4 ds es=true->ds=es
 | [],[],_,_,_=>rfl
 | [],_::_,_,_,h=>by unfold G4 at h;cases h
 | _::_,[],_,_,h=>by unfold G4 at h;cases h
 | d::ds,e::es,h1,h2,h=>by
  unfold nbs at h1 h2;unfold G4 at h;rw[Bool.and_eq_true] at h1 h2 h;rw[fe0 d e h1.1 h2.1 h.1,o00 ds es h1.2 h2.2 h.2]
end
theorem Wm0(h:∀d∈l,nb d=true):nbs l=true:=by
 induction l with
 | nil=>unfold nbs;rfl
 | cons d l ih =>
  unfold nbs;rw[h d A5,ih λe he=>h e (A4 _ he)];rfl
structure Pl(d:D):Prop where
 le:lean d 50=true
 nb:nb d=true
theorem c70{d:D}(h:lean d 50=true):M7 d d=some (.bl false):=by
 unfold M7;rw[if_pos ⟨h,h⟩,kl0 d 50 h];rfl
theorem b30{d e:D}(h1:Pl d)(h2:Pl e)(n:d≠e):M7 d e=some (.bl true):=by
 unfold M7;rw[if_pos ⟨h1.le,h2.le⟩];cases q:deq d e with
 | false=>rfl
 | true=>exact absurd (fe0 d e h1.nb h2.nb q) n
theorem sj0(s:Str):nb (.str s)=true:=by unfold nb;rfl
theorem Xm0(i:Int):nb (.int i)=true:=by unfold nb;rfl
theorem so0(h:∀d∈l,nb d=true):nb (.tup l)=true:=by unfold nb;exact Wm0 h
theorem rw0(p:Pt):Pl (hd p):=by
 have ls:∀(ns:List Str) (n:Nat),lean (.tup (ns.map .str)) (n+1)=true:=λns n=>vy0 λd hd=>by
  obtain⟨q,_,rfl⟩:=A6.mp hd;exact vj0 _ _
 have nn:∀(ns:List Str),nb (.tup (ns.map .str))=true:=λns=>so0 λd hd=>by
  obtain⟨q,_,rfl⟩:=A6.mp hd;exact sj0 _
 have li:∀(i:Int) (n:Nat),lean (.int i) n=true:=λi n=>by unfold lean;rfl
 cases p with
 | text w=>exact⟨vy0 λd hd=>by simp only[List.mem_cons,List.not_mem_nil,or_false] at hd;rcases hd with rfl|rfl<;>exact vj0 _ _,so0 λd hd=>by simp only[List.mem_cons,List.not_mem_nil,or_false] at hd;rcases hd with rfl|rfl<;>exact sj0 _⟩
 | row w=>exact⟨vy0 λd hd=>by simp only[List.mem_cons,List.not_mem_nil,or_false] at hd;rcases hd with rfl|rfl<;>first|exact vj0 _ _|exact li _ _,so0 λd hd=>by simp only[List.mem_cons,List.not_mem_nil,or_false] at hd;rcases hd with rfl|rfl<;>first|exact sj0 _|exact Xm0 _⟩
 | table w=>exact⟨vy0 λd hd=>by simp only[List.mem_cons,List.not_mem_nil,or_false] at hd;rcases hd with rfl|rfl<;>first|exact vj0 _ _|exact ls _ _,so0 λd hd=>by simp only[List.mem_cons,List.not_mem_nil,or_false] at hd;rcases hd with rfl|rfl<;>first|exact sj0 _|exact nn _⟩
 | rcd c w=>exact⟨vy0 λd hd=>by simp only[List.mem_cons,List.not_mem_nil,or_false] at hd;rcases hd with rfl|rfl|rfl<;>first|exact vj0 _ _|exact ls _ _,so0 λd hd=>by simp only[List.mem_cons,List.not_mem_nil,or_false] at hd;rcases hd with rfl|rfl|rfl<;>first|exact sj0 _|exact nn _⟩
end Pn
namespace W
open DL StrLaws Builtin.Str
theorem v70(l:List Nat):(strOf l).cps.toList=l:=by simp[strOf]
theorem zr0(l:List Nat):(strOf l).length=l.length:=by show l.toArray.size=_;simp
theorem ki0(x:PySem.Str):strOf x.cps.toList=x:=by cases x;simp[strOf]
end W
namespace Gw
open DL W
def ui0:GS:=(v7 (ifD (ob (o2 (o2 (gv 0) (gc (.int 0)) ixD) (gc (.str "text")) eqD))
 (v7 (U8 (W7 v6))
 u5)
 u5)
 (v7 (ifD (ob (o2 (o2 (gv 0) (gc (.int 0)) ixD) (gc (.str "row")) eqD))
 (v7 (U8 (oA (z9 (o2 (gv 0) (gc (.int 1)) ixD) v6) wn0))
 u5)
 u5)
 (v7 (U8 (o9 2 [] (tupI (o2 (gv 0) (unG J1 (gc (.int 1))) ixD)) (G6 0 1) noT (gv 1)))
 u5)))
def ug0:List Str:=["_law_part_here"]
def K6:List D->Option D:=mkN 1 ug0 ui0
end Gw
namespace Gw
open DL W StrLaws
theorem mul_r(i j:Int)(h:-(2 ^ 64)<j/\j<2 ^ 64):M9 (.int i) (.int j)=some (.int (i*j)):=by simp only[M9];rw[if_pos (.inr h)]
theorem bw0(i j:Int)(h:-(2 ^ 64)<i/\i<2 ^ 64):M9 (.int i) (.int j)=some (.int (i*j)):=by simp only[M9];rw[if_pos (.inl h)]
theorem wg0(i j:Int)(h:0<j):j5 (.int i) (.int j)=some (.int (i%j)):=by simp only[j5,ii];rw[if_pos h]
theorem vu0{g:GE}{d:D}(h1:owL i δ=some l)(h2:g δ=some d)(h3:l.length<sizeLine):V1 (zm0 i g) δ=some (.nx (δ.set i (.ow (.lst (l++[d]))))):=by
 unfold V1 zm0;rw[h1,h2];simp only[Option.bind_some];rw[if_pos h3];rfl
theorem ff0(l:List Nat)(k:Int)(h0:0<=k)(h1:k<=l.length):Txt.slice (strOf l) none (some k)=strOf (l.take k.toNat):=by
 show sliceText _ _ _=_;rw[sliceText_to ⟨h0,by rw[v70];exact h1⟩,v70];simp[strOf]
theorem Yq0(l:List Nat)(k:Int)(h0:0<=k)(h1:k<=l.length):Txt.slice (strOf l) (some k) none=strOf (l.drop k.toNat):=by
 show sliceText _ _ _=_;rw[sliceText_from ⟨h0,by rw[v70];exact h1⟩,v70];unfold strOf;congr 2;rw[List.take_of_length_le];rw[List.length_drop];omega
theorem Uv0(a b:List Nat):strOf a++strOf b=strOf (a++b):=by
 show (⟨_⟩:Str)=⟨_⟩;simp[strOf]
theorem bz0(a b:List Nat)(h:a.length+b.length<=sizeLine):j6 (.str (strOf a)) (.str (strOf b))=some (.str (strOf (a++b))):=by
 simp only[j6];rw[if_pos (by rw[zr0,zr0];exact h),Uv0]
end Gw
namespace Gw
open DL W
theorem oy0(ps:List (Str×D)):Q4 (G6 0 1) noT (gv 1) [.un,.un] (ps.map pr)=some (ps.map (·.2)):=by
 rw[O1 (λd=>match d with|.tup [_,v]=>v|_=>.non) (λd hd=>by
  obtain⟨p,hp,rfl⟩:=A6.mp hd;exact⟨_,rfl,rfl,rfl⟩),List.map_map]
 rfl
theorem rk0(p:Pt)(h:p.few):K6 [p.d]=some (.lst p.vals):=by
 cases p with
 | text w=>kernel_rfl
 | row vs =>
  refine O5 rfl (v9 (δ':=[.sh (Pt.row vs).d]) (by rw[Z0 (by kernel_rfl)];rfl) (N6 (by rw[V0 (by kernel_rfl)];rfl)))
 | table ps =>
  refine O5 rfl (v9 (δ':=[.sh (Pt.table ps).d]) (by rw[Z0 (by kernel_rfl)];rfl) (v9 (δ':=[.sh (Pt.table ps).d]) (by rw[Z0 (by kernel_rfl)];rfl) (N6 (M8 ?_))));exact Z5 (items:=ps.map pr) rfl (by have:(ps.map (·.2)).length<=sizeLine:=h;simpa using this) (oy0 ps)
 | rcd c ps =>
  refine O5 rfl (v9 (δ':=[.sh (Pt.rcd c ps).d]) (by rw[Z0 (by kernel_rfl)];rfl) (v9 (δ':=[.sh (Pt.rcd c ps).d]) (by rw[Z0 (by kernel_rfl)];rfl) (N6 (M8 ?_))));exact Z5 (items:=ps.map pr) rfl (by have:(ps.map (·.2)).length<=sizeLine:=h;simpa using this) (oy0 ps)
end Gw
namespace K22
open DL W
inductive Dfs (adj:Nat->List Nat) (S:List Nat):Nat->List Nat->List Nat->List Nat->Prop
 | nil (o:List Nat):Dfs adj S 0 o [] o
 | skip {c:Nat} {o T r:List Nat} {x:Nat}:x∈o∨x∈S->Dfs adj S c o T r->Dfs adj S (c+1) o (x::T) r
 | visit {c:Nat} {o T r:List Nat} {x:Nat}:x∉o->x∉S->(adj x++T).length+o.length<=10000->Dfs adj S c (o++[x]) (adj x++T) r->Dfs adj S (c+1) o (x::T) r
theorem sub_len:∀{l m:List Nat},l.Nodup->(∀a∈l,a∈m)->l.length<=m.length
 | [],m,_,_=>C5 _
 | a::l,m,h,hs=>by
  obtain⟨h1,h2⟩:=L9.mp h;obtain⟨m1,m2,rfl⟩:=List.append_of_mem (hs a A5);have:=sub_len (m:=m1++m2) h2 λb hb=>by
   have:=hs b (A4 _ hb);rcases B8.mp this with q|q
   ·exact B8.mpr (.inl q)
   ·rcases A9.mp q with rfl|q
    ·exact absurd hb h1
    ·exact B8.mpr (.inr q)
  simp only[List.length_append,List.length_cons] at this ⊢;omega
theorem Yy0(adj:Nat->List Nat)(S:List Nat)(n:Nat)(hn:n<=60)(ha:∀i,i<n->(adj i).length<=12/\∀j∈adj i,j<n):∀(M:Nat) (o T:List Nat),T.length+13*(n - o.length)<=M->M<=5000->o.Nodup->(∀x∈o,x<n/\x∉S)->(∀x∈T,x<n) ->
  ∃c r,Dfs adj S c o T r/\c<=M/\r.Nodup/\(∀x∈r,x<n/\x∉S)/\o.length<=r.length:=by
 intro M
 induction M with
 | zero =>
  intro o T hM hM2 ho hon hT;have:T=[]:=X2.mp (by omega);subst this;exact⟨0,o,.nil o,A2 _,ho,hon,A2 _⟩
 | succ M ih =>
  intro o T hM hM2 ho hon hT;cases T with
  | nil=>exact⟨0,o,.nil o,C5 _,ho,hon,A2 _⟩
  | cons x T =>
   rw[List.length_cons] at hM
   by_cases hx:x∈o∨x∈S
   ·obtain⟨c,r,h1,h2,h3⟩:=ih o T (by omega) (by omega) ho hon λy hy=>hT y (A4 _ hy)
    exact⟨c+1,r,.skip hx h1,by omega,h3⟩
   ·have hxn:=hT x A5
    obtain⟨hl,hj⟩:=ha x hxn;have hxo:x∉o:=λz=>hx (.inl z)
    have hxS:x∉S:=λz=>hx (.inr z)
    have hnd:(o++[x]).Nodup:=S2.mpr ⟨ho,by simp,λa ha b hb e=>by
     have:=c9.mp hb;subst this;subst e;exact hxo ha⟩
    have hin:∀y∈o++[x],y<n/\y∉S:=λy hy=>by
     rcases B8.mp hy with z|z
     ·exact hon y z
     ·have:=c9.mp z;subst this;exact⟨hxn,hxS⟩
    have hlen:(o++[x]).length<=n:=by
     have:=sub_len hnd (m:=List.range n) λy hy=>C3.mpr (hin y hy).1
     rwa [p9] at this
    rw[List.length_append,List.length_singleton] at hlen;obtain⟨c,r,h1,h2,h3,h4,h5⟩:=ih (o++[x]) (adj x++T) (by simp only[List.length_append,List.length_singleton];omega) (by omega) hnd hin (λy hy=>by
     rcases B8.mp hy with z|z
     ·exact hj y z
     ·exact hT y (A4 _ z))
    refine⟨c+1,r,.visit hxo hxS (by rw[List.length_append];omega) h1,by omega,h3,h4,?_⟩;rw[List.length_append] at h5;omega
def vis(adj:Nat->List Nat)(S:List Nat):Nat->Nat->List Nat->Option (List Nat)
 | 0,_,_=>none
 | q+1,k,o=>if k∈o∨k∈S then some o else (adj k).foldlM (λo j=>vis adj S q j o) (o++[k])
theorem si0{f g:List Nat->Nat->Option (List Nat)}(h:∀o j r,f o j=some r->g o j=some r):∀(l:List Nat) (o r:List Nat),l.foldlM f o=some r->l.foldlM g o=some r
 | [],o,r,e=>e
 | j::l,o,r,e=>by
  rw[List.foldlM_cons] at e ⊢;cases e1:f o j with
  | none=>rw[e1] at e;cases e
  | some o1 =>
   rw[e1] at e;rw[h o j o1 e1];exact si0 h l o1 r e
theorem kh0{adj:Nat->List Nat}:∀(q k:Nat) (o r:List Nat),vis adj S q k o=some r->vis adj S (q+1) k o=some r
 | 0,_,_,_,e=>by cases e
 | q+1,k,o,r,e=>by
  rw[vis] at e ⊢;split at e
  ·rename_i h
   rw[if_pos h];exact e
  ·rename_i h
   rw[if_neg h];exact si0 (λo j r e=>kh0 q j o r e) _ _ _ e
theorem ap0{adj:Nat->List Nat}(hj:∀i,i<n->∀j∈adj i,j<n):∀{c:Nat} {o T r:List Nat},Dfs adj S c o T r->o.Nodup->(∀x∈o,x<n)->(∀x∈T,x<n)->∀q,n+1<=q+o.length->T.foldlM (λo j=>vis adj S q j o) o=some r:=by
 intro c o T r h
 induction h with
 | nil o=>intro _ _ _ q _;rfl
 | @skip c o T r x hx hd ih =>
  intro ho hon hT q hq;have h1:o.length<=n:=by
   have:=sub_len ho (m:=List.range n) λy hy=>C3.mpr (hon y hy)
   rwa [p9] at this
  obtain⟨q,rfl⟩:∃q',q=q'+1:=⟨q - 1,by omega⟩;rw[List.foldlM_cons,vis,if_pos hx];exact ih ho hon (λy hy=>hT y (A4 _ hy)) (q+1) hq
 | @visit c o T r x hx hs hz hd ih =>
  intro ho hon hT q hq;have hxn:=hT x A5;have hnd:(o++[x]).Nodup:=S2.mpr ⟨ho,by simp,λa ha b hb e=>by
   have:=c9.mp hb;subst this;subst e;exact hx ha⟩
  have hin:∀y∈o++[x],y<n:=λy hy=>by
   rcases B8.mp hy with z|z
   ·exact hon y z
   ·have:=c9.mp z;subst this;exact hxn
  have h1:o.length+1<=n:=by
   have:=sub_len hnd (m:=List.range n) λy hy=>C3.mpr (hin y hy)
   rwa [p9,List.length_append,List.length_singleton] at this
  obtain⟨q,rfl⟩:∃q',q=q'+1:=⟨q - 1,by omega⟩;have e:=ih hnd hin (λy hy=>by
   rcases B8.mp hy with z|z
   ·exact hj x hxn y z
   ·exact hT y (A4 _ z)) q (by rw[List.length_append,List.length_singleton];omega)
  rw[List.foldlM_append] at e;cases e1:(adj x).foldlM (λo j=>vis adj S q j o) (o++[x]) with
  | none=>rw[e1] at e;cases e
  | some o1 =>
   rw[e1] at e;rw[List.foldlM_cons,vis,if_neg (λz=>z.elim hx hs),e1];exact si0 (λo j r e=>kh0 q j o r e) _ _ _ e
theorem V80{adj:Nat->List Nat}(hj:∀i,i<n->∀j∈adj i,j<n){c x:Nat}(h:Dfs adj S c [] [x] r)(hx:x<n)(q:Nat)(hq:n+1<=q):vis adj S q x []=some r:=by
 have e:=ap0 hj h P6 (λy hy=>by cases hy) (λy hy=>by rw[List.mem_singleton.mp hy];exact hx) q (by simpa using hq);rw[List.foldlM_cons] at e;cases e1:vis adj S q x [] with
 | none=>rw[e1] at e;cases e
 | some o1=>rw[e1] at e;exact e
def Q8:GS:=Pn.Q8
def O9:List Str:=Pn.O9
def Y5:List D->Option D:=Pn.Y5
def zk0:GS:=Pn.zk0
def zv0:List Str:=Pn.zv0
def m_values:List D->Option D:=Pn.m_values
def M5:GS:=Pn.M5
def J8:List Str:=Pn.J8
def V9:List D->Option D:=Pn.V9
def vb0:GS:=(v7 (U8 (o9 1 [] (V4 (oA (z9 (gv 0) v6) m_values)) (gN 0) (ob (X6 isTup (gv 0))) (o2 (gv 0) (gc (.int 1)) ixD)))
 u5)
def t80:List Str:=["part"]
def zc0:List D->Option D:=mkN 1 t80 vb0
def xg0:GS:=(v7 (R5 3 (W7 v6))
 (v7 (R5 4 (oA (z9 (gv 2) v6) vc0))
 (v7 (R5 5 (W7 (z9 (gv 1) v6)))
 (v7 (W9 (ob (o2 (R0 (oA (z9 (gv 5) v6) Y8)) (gc (.int 0)) gtD))
 (v7 (W8 (q90 5) (gN 6))
 (v7 (ifD (z50 (ob (o2 (gv 6) (gv 4) (T4 true))))
 (v7 (W8 (Y9 (gc (.bl true))) (putAt 4 (gv 6)))
 (v7 (V1 (zm0 3 (gv 6)))
 (v7 (V1 (ql0 5 (oA (z9 (oA (z9 (o2 (gv 0) (gv 6) ixD) v6) zc0) v6) qm0)))
 u5)))
 u5)
 u5)) 100000)
 (v7 (lb0 3)
 u5)))))
def wk0:List Str:=["web", "k", "left", "order", "seen", "waiting", "part"]
def ze0:List D->Option D:=mkN 3 wk0 xg0
def yi0:GS:=(v7 (m5 (gN 2) (o9 1 [1] (V4 (oA (z9 (gv 0) v6) m_values)) (gN 0) noT (ifG (ob (X6 isTup (gv 0))) (m7 (z9 (gc (.str "at")) (z9 (o2 (gv 1) (o2 (gv 0) (gc (.int 1)) ixD) wd0) v6))) (gv 0))))
 (v7 (o7 (oA (z9 (gv 0) (z9 (gv 2) v6)) V9))
 u5))
def xr0:List Str:=["part", "numbers", "some"]
def G7:List D->Option D:=mkF 2 xr0 yi0
def ui0:GS:=Gw.ui0
def ug0:List Str:=Gw.ug0
def K6:List D->Option D:=Gw.K6
def nd(l:List Nat):List D:=l.map λ(i:Nat)=>D.int (i:Int)
def nn(l:List D):List Nat:=l.filterMap λd=>match d with|.int i=>some i.toNat|_=>none
theorem m60:∀l:List Nat,nn (nd l)=l
 | []=>rfl
 | a::l=>by
  have:=m60 l;unfold nn nd at this ⊢;rw[List.map_cons,List.filterMap_cons];simp only[Int.toNat_natCast];rw[this]
structure GoodD(W:D)(n:Nat):Prop where
 few:n<=60
 ex:∃Wb,W=.tup Wb/\Wb.length=n/\∀i,i<n->∃vs,K6 [Wb.getD i .non]=some (.lst vs)/\vs.length<=12/\∀v∈vs,v=.non∨(∃z,v=.int z)∨∃j:Nat,v=.tup [.str "at",.int (j:Int)]/\j<n
def tgs(vs:List D):List Nat:=vs.filterMap λv=>match v with|.tup [_,.int j]=>some j.toNat|_=>none
def ys0(W:D)(i:Nat):List Nat:=match W with
 | .tup Wb=>(match K6 [Wb.getD i .non] with
  | some (.lst vs)=>tgs vs
  | _=>[])
 | _=>[]
section
end
theorem uq0(a b:List Nat):nd (a++b)=nd a++nd b:=by unfold nd;rw[List.map_append]
theorem Wl0(a:List Nat):(nd a).reverse=nd a.reverse:=by unfold nd;rw[List.map_reverse]
theorem z80(a:List Nat):(nd a).length=a.length:=by simp[nd]
theorem Wa0(o:List Nat)(x:Nat):((nd o).any λy=>eqF y (.int (x:Int)))=decide (x∈o):=by
 unfold nd;rw[List.any_map,Bool.eq_iff_iff,List.any_eq_true,decide_eq_true_eq];constructor
 ·rintro⟨y,hy,e⟩
  have e:decide ((y:Int)=(x:Int))=true:=e;have e:=c6 e;have:y=x:=by omega
  subst this;exact hy
 ·intro h
  exact⟨x,h,show decide ((x:Int)=(x:Int))=true from L1 rfl⟩
theorem mg0(o:List Nat):((nd o).all λd=>flat d)=true:=by
 unfold nd;rw[List.all_map,List.all_eq_true];exact λ_ _=>rfl
theorem la0{adj:Nat->List Nat}(hj:∀i,i<n->∀j∈adj i,j<n):∀(q k:Nat) (o r:List Nat),vis adj S q k o=some r->k<n->o.Nodup->(∀x∈o,x<n)->r.Nodup/\∀x∈r,x<n
 | 0,_,_,_,e,_,_,_=>by cases e
 | q+1,k,o,r,e,hk,ho,hon=>by
  rw[vis] at e;split at e
  ·cases e;exact⟨ho,hon⟩
  ·rename_i h
   have go:∀(l:List Nat) (o r:List Nat),l.foldlM (λo j=>vis adj S q j o) o=some r->(∀j∈l,j<n)->o.Nodup->(∀x∈o,x<n)->r.Nodup/\∀x∈r,x<n:=by
    intro l
    induction l with
    | nil=>intro o r e _ ho hon;cases e;exact⟨ho,hon⟩
    | cons j l ih =>
     intro o r e hl ho hon;rw[List.foldlM_cons] at e;cases e1:vis adj S q j o with
     | none=>rw[e1] at e;cases e
     | some o1 =>
      rw[e1] at e;obtain⟨a,b⟩:=la0 hj q j o o1 e1 (hl j A5) ho hon;exact ih o1 r e (λi hi=>hl i (A4 _ hi)) a b
   refine go _ _ _ e (hj k hk) (S2.mpr ⟨ho,by simp,λa ha b hb e=>?_⟩) λx hx=>?_
   ·rw[List.mem_singleton.mp hb] at e;exact h (.inl (e▸ha))
   ·rcases B8.mp hx with z|z
    ·exact hon x z
    ·rw[List.mem_singleton.mp z];exact hk
theorem ge0(o:List Nat)(x:Nat):J9 true (.int (x:Int)) (.lst (nd o))=some (.bl (decide (x∉o))):=by
 simp only[J9];rw[if_pos ⟨rfl,mg0 o⟩,Wa0];congr 2
 by_cases h:x∈o<;>simp[h]
theorem p80:∀{vs:List D},(∀v∈vs,v=.non∨(∃z,v=.int z)∨∃j:Nat,v=.tup [.str "at",.int (j:Int)]/\j<n)->∀j∈tgs vs,j<n:=by
 intro vs h j hj;obtain⟨v,hv,e⟩:=i5.mp hj;rcases h v hv with rfl|⟨z,rfl⟩|⟨i,rfl,hi⟩
 ·cases e
 ·cases e
 ·simp only[Int.toNat_natCast,Option.some.injEq] at e
  omega
theorem pp0{W:D}(hW:GoodD W n)(hi:i<n):∃vs,oA (z9 (o2 (gv 0) (gv 1) ixD) v6) K6=oA (z9 (o2 (gv 0) (gv 1) ixD) v6) K6/\(∃d,ixD W (.int (i:Int))=some d/\K6 [d]=some (.lst vs))/\ys0 W i=tgs vs/\vs.length<=12/\∀v∈vs,v=.non∨(∃z,v=.int z)∨∃j:Nat,v=.tup [.str "at",.int (j:Int)]/\j<n:=by
 obtain⟨Wb,rfl,hl,h⟩:=hW.ex;obtain⟨vs,e,h1,h2⟩:=h i hi;refine⟨vs,rfl,⟨Wb.getD i .non,?_,e⟩,?_,h1,h2⟩
 ·show atI Wb (i:Int)=_
  rw[yb0 (by omega) (by omega) .non,Int.toNat_natCast]
 ·unfold ys0
  simp only[];rw[e]
theorem p50{W:D}(hW:GoodD W n):∀i,i<n->∀j∈ys0 W i,j<n:=λi hi j hj=>by
 obtain⟨vs,_,_,e,_,h⟩:=pp0 hW hi;rw[e] at hj;exact p80 h j hj
theorem Q3(p:Pt)(h:p.few):m_values [p.d]=some (.lst p.vals):=Pn.Q3 p h
theorem ck0(p:Pt)(h:p.few)(vs:List D):V9 [p.d,.lst vs]=some (Pn.put p vs).d:=Pn.v90 p h vs
theorem rk0(p:Pt)(h:p.few):K6 [p.d]=some (.lst p.vals):=Gw.rk0 p h
def Lv(n:Nat)(v:D):Prop:=v=.non∨(∃z,v=.int z)∨∃j:Nat,v=.tup [.str "at",.int (j:Int)]/\j<n
structure Pw(n:Nat)(p:Pt):Prop where
 few:p.vals.length<=12
 lv:∀v∈p.vals,Lv n v
theorem Pw.f{p:Pt}(h:Pw n p):p.few:=by
 have z:(12:Nat)<=sizeLine:=by decide
 exact B7 h.few z
structure Web(ps:List Pt):Prop where
 len:0<ps.length/\ps.length<=60
 pw:∀p∈ps,Pw ps.length p
def wd(ps:List Pt):D:=.tup (ps.map Pt.d)
theorem Web.at{ps:List Pt}(h:Web ps)(hi:i<ps.length):ixD (wd ps) (.int (i:Int))=some ps[i].d/\(ps.map Pt.d).getD i .non=ps[i].d/\Pw ps.length ps[i]:=by
 refine⟨?_,?_,h.pw _ (E5 hi)⟩
 ·show atI (ps.map Pt.d) (i:Int)=_
  rw[yb0 (by omega) (by rw[List.length_map];omega) .non,Int.toNat_natCast];simp[hi]
 ·simp[hi]
theorem Web.good{ps:List Pt}(h:Web ps):GoodD (wd ps) ps.length:=⟨h.len.2,ps.map Pt.d,rfl,by rw[List.length_map],λi hi=>by
 obtain⟨_,e,q⟩:=h.at hi;exact⟨ps[i].vals,by rw[e];exact rk0 _ q.f,q.few,q.lv⟩⟩
theorem Web.adj{ps:List Pt}(h:Web ps)(hi:i<ps.length):ys0 (wd ps) i=tgs ps[i].vals:=by
 obtain⟨_,e,q⟩:=h.at hi;unfold ys0 wd;simp only[];rw[e,rk0 _ q.f]
theorem pv0(vs:List D):(tgs vs).length<=vs.length:=List.length_filterMap_le _ _
theorem p30(j:Nat)(vs:List D):tgs (.tup [.str "at",.int (j:Int)]::vs)=j::tgs vs:=by unfold tgs;rw[List.filterMap_cons];simp only[Int.toNat_natCast]
theorem s90:∀vs:List D,(∀v∈vs,Lv n v)->Q4 (gN 0) (ob (X6 isTup (gv 0))) (o2 (gv 0) (gc (.int 1)) ixD) [.un] vs=some (nd (tgs vs))
 | [],_=>rfl
 | v::vs,h=>by
  have ih:=s90 vs λu hu=>h u (A4 _ hu)
  unfold Q4;rcases h v A5 with rfl|⟨z,rfl⟩|⟨j,rfl,hj⟩
  ·exact ih
  ·exact ih
  ·show (match o2 (gv 0) (gc (.int 1)) ixD [.sh (.tup [.str "at",.int (j:Int)])] with|none=>none|some y=>(Q4 (gN 0) (ob (X6 isTup (gv 0))) (o2 (gv 0) (gc (.int 1)) ixD) [.un] vs).map λr=>y::r)=_
   rw[ih,p30];rfl
theorem t90{p:Pt}(h:Pw n p):zc0 [p.d]=some (.lst (nd (tgs p.vals))) :=
 O5 rfl (N6 (M8 (Z5 (items:=p.vals) (by
  show Option.bind (oA (z9 (gv 0) v6) m_values [.sh p.d]) v40=_;rw[o5 (ds:=[p.d]) rfl,Q3 p h.f];rfl) h.f (s90 p.vals h.lv))))
def lkv(f:Nat->Nat):D->D
 | .tup [_,.int j]=>.tup [.str "at",.int (f j.toNat:Int)]
 | v=>v
def rel(f:Nat->Nat)(p:Pt):Pt:=Pn.put p (p.vals.map (lkv f))
theorem wm0{vs:List D}(h:D.tup [.str "at",.int (j:Int)]∈vs):j∈tgs vs:=i5.mpr ⟨_,h,by simp only[Int.toNat_natCast]⟩
theorem uh0{p:Pt}(h:Pw n p)(f:Nat->Nat)(D':D)(hd:∀j∈tgs p.vals,wd0 D' (.int (j:Int))=some (.int (f j:Int))):G7 [p.d,D']=some (rel f p).d:=by
 refine Z1 rfl (v9 (δ':=[.sh p.d,.sh D',.sh (.lst (p.vals.map (lkv f)))]) (j7 (Z5 (items:=p.vals) (by
  show Option.bind (oA (z9 (gv 0) v6) m_values [.sh p.d,.sh D',.un]) v40=_;rw[o5 (ds:=[p.d]) rfl,Q3 p h.f];rfl) h.f ?_)) (n6 (Y4 (by rw[o5 (ds:=[p.d,.lst (p.vals.map (lkv f))]) rfl];exact ck0 p h.f _))))
 refine O1 (lkv f) λv hv=>⟨[.sh v,.sh D'],rfl,rfl,?_⟩
 rcases h.lv v hv with rfl|⟨z,rfl⟩|⟨j,rfl,hj⟩
 ·rfl
 ·rfl
 ·unfold ifG
  rw[show ob (X6 isTup (gv 0)) [.sh (.tup [.str "at",.int (j:Int)]),.sh D']=some true from rfl];show m7 _ _=_;exact Z7 (cons_of rfl (cons_of (d:=.int (f j:Int)) (by
   rw[o4 (x:=D') (y:=.int (j:Int)) rfl rfl];exact hd j (wm0 hv)) rfl)) (by show 2<=sizeLine;decide)
theorem vp0(p:Pt)(vs:List D)(h:vs.length=p.vals.length):(Pn.put p vs).vals=vs:=by
 cases p with
 | text w=>exact(List.eq_nil_of_length_eq_zero h).symm
 | row us=>rfl
 | table ps =>
  show ((ps.map (·.1)).zip vs).map (·.2)=vs;refine o3 ?_;have h':vs.length=(ps.map (·.2)).length:=h;simp only[List.length_map] at h' ⊢;omega
 | rcd c ps =>
  show ((ps.map (·.1)).zip vs).map (·.2)=vs;refine o3 ?_;have h':vs.length=(ps.map (·.2)).length:=h;simp only[List.length_map] at h' ⊢;omega
theorem Xk0{p:Pt}(h:Pw n p)(f:Nat->Nat)(hf:∀j∈tgs p.vals,f j<m):Pw m (rel f p):=by
 have e:(rel f p).vals=p.vals.map (lkv f):=vp0 p _ (by rw[List.length_map]);refine⟨by rw[e,List.length_map];exact h.few,λv hv=>?_⟩;rw[e] at hv;obtain⟨u,hu,rfl⟩:=A6.mp hv;rcases h.lv u hu with rfl|⟨z,rfl⟩|⟨i,rfl,hi⟩
 ·exact .inl rfl
 ·exact .inr (.inl ⟨z,rfl⟩)
 ·exact .inr (.inr ⟨f i,rfl,hf i (wm0 hu)⟩)
def kd(l:List Nat):List V8:=l.map λ(i:Nat)=>Sum.inl (i:Int)
def td(l:List Nat):List D:=l.map λ_=>.bl true
theorem kc0(a b:List Nat):kd (a++b)=kd a++kd b:=by unfold kd;rw[List.map_append]
theorem se0(o:List Nat)(x:Nat):O3 (kd o) (.inl (x:Int))=decide (x∈o):=by
 unfold O3 kd;rw[List.any_map];rw[Bool.eq_iff_iff,List.any_eq_true,decide_eq_true_eq];constructor
 ·rintro⟨y,hy,e⟩
  have e:=c6 e;injection e with e
  have:y=x:=by omega
  subst this;exact hy
 ·intro h;exact⟨x,h,L1 rfl⟩
def ded(S:List Nat):List Nat:=S.foldl (λa x=>if x∈a then a else a++[x]) []
theorem mm0:∀(S a:List Nat),(∀y,y∈S.foldl (λa x=>if x∈a then a else a++[x]) a↔y∈a∨y∈S)/\(S.foldl (λa x=>if x∈a then a else a++[x]) a).length<=a.length+S.length
 | [],a=>⟨λy=>by simp,by simp⟩
 | x::S,a=>by
  obtain⟨h1,h2⟩:=mm0 S (if x∈a then a else a++[x]);refine⟨λy=>?_,?_⟩
  ·rw[List.foldl_cons,h1]
   split
   ·rename_i hx
    constructor
    ·rintro (h|h)
     ·exact .inl h
     ·exact .inr (A4 _ h)
    ·rintro (h|h)
     ·exact .inl h
     ·rcases A9.mp h with rfl|h
      ·exact .inl hx
      ·exact .inr h
   ·rw[List.mem_append,List.mem_singleton,List.mem_cons,or_assoc]
  ·rw[List.foldl_cons]
   refine B7 h2 ?_;split
   ·simp only[List.length_cons];omega
   ·simp only[List.length_append,List.length_cons,List.length_nil];omega
theorem Yb0(S:List Nat)(y:Nat):y∈ded S↔y∈S:=by
 unfold ded;rw[(mm0 S []).1];simp
theorem Zz0(S:List Nat):(ded S).length<=S.length:=by
 have:=(mm0 S []).2;rw[List.length_nil,Nat.zero_add] at this;exact this
def MT:GB:=(ob (o2 (R0 (oA (z9 (gv 5) v6) Y8)) (gc (.int 0)) gtD))
def MB:GS:=(v7 (W8 (q90 5) (gN 6))
 (v7 (ifD (z50 (ob (o2 (gv 6) (gv 4) (T4 true))))
 (v7 (W8 (Y9 (gc (.bl true))) (putAt 4 (gv 6)))
 (v7 (V1 (zm0 3 (gv 6)))
 (v7 (V1 (ql0 5 (oA (z9 (oA (z9 (o2 (gv 0) (gv 6) ixD) v6) zc0) v6) qm0)))
 u5)))
 u5)
 u5))
def ms(W:D)(k l:Sl)(U o T:List Nat)(s:Sl):Ds:=[.sh W,k,l,.ow (.lst (nd o)),.ow (.dct (.inl (kd (U++o))) (nd U++td o)),.ow (.lst (nd T.reverse)),s]
section
variable{W:D}{k l:Sl}{U:List Nat}
theorem gn0(s:Sl)(o T:List Nat):MT (ms W k l U o T s)=some (decide (0<T.length)):=by
 have e:R0 (oA (z9 (gv 5) v6) Y8) (ms W k l U o T s)=some (.int (T.length:Int)):=by
  show some (D.int ((nd T.reverse).length:Int))=_;rw[z80,List.length_reverse]
 unfold MT ob;rw[o4 (x:=.int (T.length:Int)) (y:=.int 0) e rfl];show some (decide ((0:Int)<(T.length:Int)))=_;congr 1;rw[decide_eq_decide];omega
theorem Wx0(s:Sl)(o T:List Nat)(x:Nat):W8 (q90 5) (gN 6) (ms W k l U o (x::T) s)=some (.nx (ms W k l U o T (.sh (.int (x:Int))))):=by
 have e1:owL 5 (ms W k l U o (x::T) s)=some (nd (x::T).reverse):=rfl;have e2:nd (x::T).reverse=nd T.reverse++[.int (x:Int)]:=by rw[List.reverse_cons,uq0];rfl
 unfold W8 q90;rw[e1,Option.bind_some,e2,List.getLast?_concat,List.dropLast_concat];rfl
theorem bf0(o T:List Nat)(x:Nat):z50 (ob (o2 (gv 6) (gv 4) (T4 true))) (ms W k l U o T (.sh (.int (x:Int))))=some (decide (x∉U++o)):=by
 show some (xor true (O3 (kd (U++o)) (.inl (x:Int))))=_;rw[se0,Bool.true_xor];congr 1
 by_cases h:x∈U++o
 ·rw[decide_eq_true h,decide_eq_false (λz=>z h)];rfl
 ·rw[decide_eq_false h,decide_eq_true h];rfl
theorem em0{adj:Nat->List Nat}(hS:∀y,y∈U↔y∈S)(hU:U.length<=1000)(hA:∀x,x<n->∃d,ixD W (.int (x:Int))=some d/\zc0 [d]=some (.lst (nd (adj x)))/\(adj x).length<=12/\∀j∈adj x,j<n):∀{c:Nat} {o T r:List Nat},Dfs adj S c o T r->(∀x∈T,x<n)->o.length+T.length<=10001->∀(m:Nat) (s:Sl),c<m->∃s',W9 MT MB m (ms W k l U o T s)=some (.nx (ms W k l U r [] s')):=by
 intro c o T r h
 induction h with
 | nil o =>
  intro _ _ m s hm;cases m with
  | zero=>omega
  | succ m =>
   refine⟨s,?_⟩;unfold W9;rw[gn0];rfl
 | @skip c o T r x hx hd ih =>
  intro hT hl m s hm;cases m with
  | zero=>omega
  | succ m =>
   rw[List.length_cons] at hl;obtain⟨s',e⟩:=ih (λy hy=>hT y (A4 _ hy)) (by omega) m (.sh (.int (x:Int))) (by omega);refine⟨s',?_⟩;have hin:x∈U++o:=B8.mpr (hx.symm.imp (hS x).mpr id);have eb:MB (ms W k l U o (x::T) s)=some (.nx (ms W k l U o T (.sh (.int (x:Int))))) :=
    v9 (Wx0 s o T x) (v9 (δ':=ms W k l U o T (.sh (.int (x:Int)))) (by rw[Z0 (by rw[bf0,decide_eq_false (λz=>z hin)])];rfl) rfl)
   unfold W9;rw[gn0,decide_eq_true (by simp)];dsimp only;rw[eb];exact e
 | @visit c o T r x hx hxS hz hd ih =>
  intro hT hl m s hm;cases m with
  | zero=>omega
  | succ m =>
   have hxn:=hT x A5;obtain⟨d,hd1,hd2,hal,haj⟩:=hA x hxn;have zs:(20000:Nat)<=sizeLine:=by decide
   rw[List.length_append] at hz;obtain⟨s',e⟩:=ih (λy hy=>by
    rcases B8.mp hy with q|q
    ·exact haj y q
    ·exact hT y (A4 _ q)) (by simp only[List.length_append,List.length_singleton];omega) m (.sh (.int (x:Int))) (by omega)
   refine⟨s',?_⟩;have hin:x∉U++o:=λz=>(B8.mp z).elim (λq=>hxS ((hS x).mp q)) hx
   have p1:W8 (Y9 (gc (.bl true))) (putAt 4 (gv 6)) (ms W k l U o T (.sh (.int (x:Int))))=some (.nx [.sh W,k,l,.ow (.lst (nd o)),.ow (.dct (.inl (kd (U++(o++[x])))) (nd U++td (o++[x]))),.ow (.lst (nd T.reverse)),.sh (.int (x:Int))]):=by
    have hk:O3 (kd (U++o)) (.inl (x:Int))=false:=by rw[se0,decide_eq_false hin]
    have e1:N5 (kd (U++o)) (.inl (x:Int))=kd (U++(o++[x])):=by
     unfold N5;rw[hk,if_neg (by simp),← List.append_assoc,kc0 (U++o)];rfl
    have e2:K5 (kd (U++o)) (nd U++td o) (.inl (x:Int)) (.bl true)=nd U++td (o++[x]):=by
     unfold K5;rw[hk,if_neg (by simp)];unfold td;rw[List.map_append,List.append_assoc];rfl
    unfold W8 Y9;show ((if (kd (U++o)).length<sizeLine then some ([.sh W,k,l,.ow (.lst (nd o)),Sl.ow (.dct (.inl (N5 (kd (U++o)) (.inl (x:Int)))) (K5 (kd (U++o)) (nd U++td o) (.inl (x:Int)) (.bl true))),.ow (.lst (nd T.reverse)),.sh (.int (x:Int))]) else none).map Res.nx)=_;rw[if_pos (by unfold kd;rw[List.length_map,List.length_append];omega),e1,e2];rfl
   have p2:V1 (zm0 3 (gv 6)) [.sh W,k,l,.ow (.lst (nd o)),.ow (.dct (.inl (kd (U++(o++[x])))) (nd U++td (o++[x]))),.ow (.lst (nd T.reverse)),.sh (.int (x:Int))]=some (.nx [.sh W,k,l,.ow (.lst (nd (o++[x]))),.ow (.dct (.inl (kd (U++(o++[x])))) (nd U++td (o++[x]))),.ow (.lst (nd T.reverse)),.sh (.int (x:Int))]):=by
    rw[Gw.vu0 (l:=nd o) (d:=.int (x:Int)) rfl rfl (by rw[z80];omega),uq0];rfl
   have p3:V1 (ql0 5 (oA (z9 (oA (z9 (o2 (gv 0) (gv 6) ixD) v6) zc0) v6) qm0)) [.sh W,k,l,.ow (.lst (nd (o++[x]))),.ow (.dct (.inl (kd (U++(o++[x])))) (nd U++td (o++[x]))),.ow (.lst (nd T.reverse)),.sh (.int (x:Int))]=some (.nx (ms W k l U (o++[x]) (adj x++T) (.sh (.int (x:Int))))):=by
    have ev:oA (z9 (oA (z9 (o2 (gv 0) (gv 6) ixD) v6) zc0) v6) qm0 [.sh W,k,l,.ow (.lst (nd (o++[x]))),.ow (.dct (.inl (kd (U++(o++[x])))) (nd U++td (o++[x]))),.ow (.lst (nd T.reverse)),.sh (.int (x:Int))]=some (.lst (nd (adj x).reverse)):=by
     rw[o5 (ds:=[.lst (nd (adj x))]) (cons_of (d:=.lst (nd (adj x))) (by
      rw[o5 (ds:=[d]) (cons_of (d:=d) (by rw[o4 (x:=W) (y:=.int (x:Int)) rfl rfl];exact hd1) rfl)];exact hd2) rfl)]
     show some (D.lst (nd (adj x)).reverse)=_;rw[Wl0]
    unfold V1 ql0;rw[ev];show Option.map _ (if (nd T.reverse).length+(nd (adj x).reverse).length<=sizeLine then _ else _)=_;rw[if_pos (by rw[z80,z80,List.length_reverse,List.length_reverse];omega),← uq0,← List.reverse_append];rfl
   have eb:MB (ms W k l U o (x::T) s)=some (.nx (ms W k l U (o++[x]) (adj x++T) (.sh (.int (x:Int))))) :=
    v9 (Wx0 s o T x) (v9 (δ':=ms W k l U (o++[x]) (adj x++T) (.sh (.int (x:Int)))) (by
     rw[V0 (by rw[bf0,decide_eq_true hin])];exact v9 p1 (v9 p2 (v9 p3 rfl))) rfl)
   unfold W9;rw[gn0,decide_eq_true (by simp)];dsimp only;rw[eb];exact e
end
theorem tb0{ps:List Pt}(h:Web ps)(S:List Nat)(hS:S.length<=1000){x c:Nat}(hx:x<ps.length)(hd:Dfs (ys0 (wd ps)) S c [] [x] r)(hc:c<=5000):ze0 [wd ps,.int (x:Int),.dct (.inl (kd (ded S))) (nd (ded S))]=some (.lst (nd r)):=by
 have hl:=Zz0 S;obtain⟨s',e⟩:=em0 (W:=wd ps) (k:=.sh (.int (x:Int))) (l:=.sh (.dct (.inl (kd (ded S))) (nd (ded S)))) (U:=ded S) (n:=ps.length) (Yb0 S) (by omega) (λy hy=>by
  obtain⟨e1,_,q⟩:=h.at hy;refine⟨_,e1,?_,?_,?_⟩
  ·rw[h.adj hy];exact t90 q
  ·rw[h.adj hy];exact B7 (pv0 _) q.few
  ·exact p50 h.good y hy) hd (λy hy=>by rw[List.mem_singleton.mp hy];exact hx) (by simp) 100000 .un (by omega)
 refine O5 rfl (v9 (δ':=[.sh (wd ps),.sh (.int (x:Int)),.sh (.dct (.inl (kd (ded S))) (nd (ded S))),.ow (.lst []),.un,.un,.un]) rfl (v9 (δ':=[.sh (wd ps),.sh (.int (x:Int)),.sh (.dct (.inl (kd (ded S))) (nd (ded S))),.ow (.lst []),.ow (.dct (.inl (kd (ded S))) (nd (ded S))),.un,.un]) rfl (v9 (δ':=ms (wd ps) (.sh (.int (x:Int))) (.sh (.dct (.inl (kd (ded S))) (nd (ded S)))) (ded S) [] [x] .un) ?_ (v9 e (N6 ?_)))))
 ·unfold ms
  rw[List.append_nil];show some (Res.nx [.sh (wd ps),.sh (.int (x:Int)),.sh (.dct (.inl (kd (ded S))) (nd (ded S))),.ow (.lst []),.ow (.dct (.inl (kd (ded S))) (nd (ded S))),.ow (.lst [.int (x:Int)]),.un])=_;have:nd (ded S)++td []=nd (ded S):=S3 _;rw[this];rfl
 ·rfl
theorem oo0{adj:Nat->List Nat}:∀{c:Nat} {o T r:List Nat},Dfs adj S c o T r->(∀i∈o,∀j∈adj i,j∈o∨j∈S∨j∈T)->(∃s,r=o++s)/\∀i∈r,∀j∈adj i,j∈r∨j∈S:=by
 intro c o T r h
 induction h with
 | nil o =>
  intro H;refine⟨⟨[],(S3 o).symm⟩,λi hi j hj=>?_⟩;rcases H i hi j hj with q|q|q
  ·exact .inl q
  ·exact .inr q
  ·cases q
 | @skip c o T r x hx hd ih =>
  intro H;refine ih λi hi j hj=>?_
  rcases H i hi j hj with q|q|q
  ·exact .inl q
  ·exact .inr (.inl q)
  ·rcases A9.mp q with rfl|q
   ·exact hx.imp id .inl
   ·exact .inr (.inr q)
 | @visit c o T r x hx hxS hz hd ih =>
  intro H;obtain⟨⟨s,e⟩,h2⟩:=ih λi hi j hj=>by
   rcases B8.mp hi with hi|hi
   ·rcases H i hi j hj with q|q|q
    ·exact .inl (G0 _ q)
    ·exact .inr (.inl q)
    ·rcases A9.mp q with rfl|q
     ·exact .inl (by simp)
     ·exact .inr (.inr (E2 _ q))
   ·rw[List.mem_singleton.mp hi] at hj
    exact .inr (.inr (G0 _ hj))
  exact⟨⟨x::s,by rw[e,List.append_assoc];rfl⟩,h2⟩
theorem walk{ps:List Pt}(h:Web ps)(S:List Nat){x:Nat}(hx:x<ps.length):∃c r,Dfs (ys0 (wd ps)) S c [] [x] r/\c<=5000/\r.Nodup/\(∀y∈r,y<ps.length/\y∉S)/\(∀i∈r,∀j∈ys0 (wd ps) i,j∈r∨j∈S)/\(x∈S->r=[])/\(x∉S->∃s,r=x::s):=by
 obtain⟨c,r,h1,h2,h3,h4,_⟩:=Yy0 (ys0 (wd ps)) S ps.length h.len.2 (λi hi=>by
  rw[h.adj hi];obtain⟨_,_,q⟩:=h.at hi;exact⟨B7 (pv0 _) q.few,p80 q.lv⟩) 1000 [] [x] (by have:=h.len.2;simp only[List.length_cons,List.length_nil];omega) (by decide) P6 (λy hy=>by cases hy) (λy hy=>by rw[List.mem_singleton.mp hy];exact hx)
 obtain⟨_,f2⟩:=oo0 h1 λi hi=>by cases hi
 refine⟨c,r,h1,by omega,h3,h4,f2,λhS=>?_,λhS=>?_⟩
 ·cases h1 with
  | skip _ h=>cases h;rfl
  | visit _ q _ _=>exact absurd hS q
 ·cases h1 with
  | skip q _=>exact absurd (q.resolve_left (by simp)) hS
  | visit _ _ _ hd =>
   obtain⟨⟨s,e⟩,_⟩:=oo0 hd λi hi j hj=>by
    rw[show i=x from by simpa using hi] at hj;exact .inr (.inr (G0 _ hj))
   exact⟨s,e⟩
theorem ig0:∀(r:List Nat) (m j:Nat),j∈r->yz0 (kd r) (nd (List.range' m r.length)) (.inl (j:Int))=some (.int ((m+r.idxOf j:Nat):Int))
 | [],_,_,h=>by cases h
 | u::r,m,j,h=>by
  rw[List.length_cons,List.range'_succ];show (if (Sum.inl (u:Int):V8)=.inl (j:Int) then some (D.int (m:Int)) else yz0 (kd r) (nd (List.range' (m+1) r.length)) (.inl (j:Int)))=_
  by_cases e:u=j
  ·subst e;rw[if_pos rfl,List.idxOf_cons_self];rfl
  ·rw[if_neg (by intro q;injection q with q;omega),ig0 r (m+1) j ((A9.mp h).resolve_left (C0 e)),show (u::r).idxOf j=r.idxOf j+1 from by rw[List.idxOf_cons,beq_false_of_ne e];rfl]
   congr 2;omega
end K22
namespace K22
open DL W
section
variable{ps:List Pt}(h:Web ps){x:Nat}(hx:x<ps.length)
include h hx
end
end K22
namespace K22
open DL W
theorem e80{v:D}(h:Lv n v)(k:Nat):lean v (k+1)=true:=by
 rcases h with rfl|⟨z,rfl⟩|⟨j,rfl,_⟩<;>simp[lean,leans]
theorem ox0{k:Nat}(h:∀x∈l,lean x k=true):leans l k=true:=by
 induction l with
 | nil=>rfl
 | cons a l ih=>rw[leans,h a A5,ih λx hx=>h x (A4 _ hx)];rfl
end K22
namespace Bw
open DL W
def z10:GS:=(v7 (ifD (ob (o2 (gv 1) (oA (z9 (gv 0) v6) Y8) ltD))
 (v7 (o7 (o2 (gv 0) (gv 1) ixD))
 u5)
 u5)
 (v7 (o7 (o2 (o2 (o2 (gv 1) (gc (.int 7919)) M9) (gc (.int 5)) j6) (o2 (gv 1) (gc (.int 31)) j6) M9))
 u5))
def zo0:List Str:=["_law_script", "_law_k"]
def d9:List D->Option D:=mkF 2 zo0 z10
def yg0:GS:=(v7 (o7 (o2 (o2 (o2 (o2 (o2 (o2 (gv 0) (gc (.int 2147483629)) j5) (gc (.int 1)) j6) (o2 (o2 (gc (.int 48271)) (o2 (gc (.int 69621)) (gv 1) M9) j6) (o2 (o2 (gc (.int 2)) (gv 1) M9) (gv 1) M9) j6) M9) (gv 1) j6) (gc (.int 2147483647)) j5) (gc (.int 7)) zh0))
 u5)
def xl0:List Str:=["_law_cell", "_law_k"]
def t7:List D->Option D:=mkF 2 xl0 yg0
def y60:GS:=(v7 (m5 (gN 2) (gc (.str "abcdefghijklmnopqrstuvwxyz0123456789")))
 (v7 (m5 (gN 3) (wc0 (gc (.str "")) (z9 (o9 1 [0,2] (O2 (z9 (o2 (oA (z9 (gv 0) (z9 (gc (.int 20)) v6)) t7) (gc (.int 8)) j5) v6)) (gN 0) noT (o2 (gv 2) (o2 (oA (z9 (gv 1) (z9 (gv 0) v6)) t7) (gc (.int 36)) j5) ixD)) v6)))
 (v7 (m5 (gN 4) (o2 (oA (z9 (gv 0) (z9 (gc (.int 21)) v6)) t7) (o2 (oA (z9 (gv 3) v6) Y8) (gc (.int 1)) j6) j5))
 (v7 (U8 (o9 1 [0,2,3,4] (O2 (z9 (gv 1) v6)) (gN 0) noT (o2 (o2 (J7 (gv 3) O6 (someO (gv 4))) (o2 (gv 2) (o2 (o2 (o2 (gc (.int 3)) (gv 0) M9) (gv 1) j6) (gc (.int 36)) j5) ixD) j6) (J7 (gv 3) (someO (gv 4)) O6) j6)))
 u5))))
def yt0:List Str:=["_law_cell", "_law_many", "_law_signs_here", "_law_base", "_law_at"]
def Q7:List D->Option D:=mkN 2 yt0 y60
def K1:GS:=(v7 (m5 (gN 3) (o2 (oA (z9 (gv 0) (z9 (gv 1) v6)) t7) (gc (.int 5)) j5))
 (v7 (ifD (ob (o2 (gv 3) (gc (.int 0)) eqD))
 (v7 (o7 (gc .non))
 u5)
 u5)
 (v7 (ifD (ob (o2 (gv 3) (gc (.int 3)) ltD))
 (v7 (o7 (m7 (z9 (gc (.str "at")) (z9 (o2 (oA (z9 (gv 0) (z9 (o2 (gc (.int 40)) (gv 1) j6) v6)) t7) (gv 2) j5) v6))))
 u5)
 u5)
 (v7 (ifD (ob (o2 (gv 3) (gc (.int 3)) eqD))
 (v7 (o7 (o2 (o2 (oA (z9 (gv 0) (z9 (o2 (gc (.int 60)) (gv 1) j6) v6)) t7) (gc (.int 260)) j5) (gc (.int 130)) tt0))
 u5)
 u5)
 (v7 (o7 (o2 (o2 (o2 (o2 (o2 (o2 (gv 0) (gc (.int 1)) j6) (o2 (gv 1) (gc (.int 3)) j6) M9) (o2 (gc (.int 982451653)) (gc (.int 7)) ud0) gt0) (o2 (o2 (gc (.int 2)) (o2 (gc (.int 10)) (gc (.int 60)) ud0) M9) (gc (.int 1)) tt0) j5) (gc (.int 1)) j6) (o2 (gc (.int 10)) (gc (.int 60)) ud0) tt0))
 u5)))))
def z70:List Str:=["_law_cell", "_law_k", "_law_many", "_law_way"]
def Z2:List D->Option D:=mkF 3 z70 K1
def N7:GS:=(v7 (m5 (gN 3) (o2 (oA (z9 (gv 0) (z9 (gc (.int 1)) v6)) t7) (gc (.int 5)) j5))
 (v7 (m5 (gN 4) (o2 (W7 (z9 (gc (.int 0)) (z9 (gc (.int 1)) (z9 (gc (.int 2)) (z9 (gc (.int 3)) (z9 (gc (.int 2)) (z9 (gc (.int 1)) (z9 (gc (.int 4)) (z9 (gc (.int 12)) v6))))))))) (o2 (oA (z9 (gv 0) (z9 (gc (.int 2)) v6)) t7) (gc (.int 8)) j5) ixD))
 (v7 (ifD (ob (o2 (gv 3) (gc (.int 0)) eqD))
 (v7 (m5 (gN 5) (gc (.str "abcdefghijklmnopqrstuvwxyz0123456789 ")))
 (v7 (o7 (m7 (z9 (gc (.str "text")) (z9 (wc0 (gc (.str "")) (z9 (o9 1 [0,5] (O2 (z9 (o2 (oA (z9 (gv 0) (z9 (gc (.int 3)) v6)) t7) (gc (.int 21)) j5) v6)) (gN 0) noT (o2 (gv 2) (o2 (oA (z9 (gv 1) (z9 (o2 (gc (.int 80)) (gv 0) j6) v6)) t7) (gc (.int 37)) j5) ixD)) v6)) v6))))
 u5))
 u5)
 (v7 (m5 (gN 6) (o9 1 [0,2] (O2 (z9 (gv 4) v6)) (gN 0) noT (oA (z9 (gv 1) (z9 (o2 (gc (.int 4)) (gv 0) j6) (z9 (gv 2) v6))) Z2)))
 (v7 (ifD (ob (o2 (gv 3) (gc (.int 1)) eqD))
 (v7 (o7 (m7 (z9 (gc (.str "row")) (z9 (oA (z9 (gv 6) v6) Z8) v6))))
 u5)
 u5)
 (v7 (m5 (gN 7) (o2 (oA (z9 (gv 0) (z9 (gc (.int 30)) v6)) t7) (gc (.int 12)) j5))
 (v7 (m5 (gN 8) (oA (z9 (o9 1 [1,6,7] (O2 (z9 (gv 4) v6)) (gN 0) noT (m7 (z9 (o2 (gv 1) (o2 (o2 (gv 3) (gv 0) j6) (gc (.int 12)) j5) ixD) (z9 (o2 (gv 2) (gv 0) ixD) v6)))) v6) Z8))
 (v7 (ifD (ob (o2 (gv 3) (gc (.int 2)) eqD))
 (v7 (o7 (m7 (z9 (gc (.str "table")) (z9 (gv 8) v6))))
 u5)
 u5)
 (v7 (o7 (m7 (z9 (gc (.str "record")) (z9 (o2 (gv 1) (o2 (oA (z9 (gv 0) (z9 (gc (.int 31)) v6)) t7) (gc (.int 12)) j5) ixD) (z9 (gv 8) v6)))))
 u5)))))))))
def G3:List Str:=["_law_cell", "_law_names", "_law_many", "_law_kind", "_law_size", "_law_signs_here", "_law_some", "_law_turn", "_law_pairs"]
def X3:List D->Option D:=mkF 3 G3 N7
def zp0:GS:=(v7 (m5 (gN 3) (o2 (gc (.int 1)) (o2 (oA (z9 (oA (z9 (gv 0) (z9 (gv 1) v6)) d9) (z9 (gc (.int 3)) v6)) t7) (gv 2) j5) j6))
 (v7 (m5 (gN 4) (oA (z9 (oA (z9 (gv 0) (z9 (o2 (gv 1) (gc (.int 1)) j6) v6)) d9) (z9 (gc (.int 12)) v6)) Q7))
 (v7 (o7 (oA (z9 (o9 1 [0,1,3,4] (O2 (z9 (gv 3) v6)) (gN 0) noT (oA (z9 (oA (z9 (gv 1) (z9 (o2 (o2 (gv 2) (gc (.int 2)) j6) (gv 0) j6) v6)) d9) (z9 (gv 4) (z9 (gv 3) v6))) X3)) v6) Z8))
 u5)))
def yc0:List Str:=["_law_script", "_law_start", "_law_most", "_law_many", "_law_names"]
def T3:List D->Option D:=mkF 3 yc0 zp0
def zz0(T7:List D->Option D):GS:=(v7 (ifD (ob (o2 (gv 1) (gc .non) ks0))
 (v7 (o7 (o2 (gv 0) (gc .non) ks0))
 u5)
 u5)
 (v7 (ifD (ob (X6 isStr (gv 1)))
 (v7 (o7 (xu0 (X6 isStr (gv 0)) (o2 (gv 0) (gv 1) eqD)))
 u5)
 u5)
 (v7 (ifD (ob (X6 isInt (gv 1)))
 (v7 (o7 (xu0 (X6 isInt (gv 0)) (xu0 (gg0 (X6 isBool (gv 0))) (o2 (gv 0) (gv 1) eqD))))
 u5)
 u5)
 (v7 (ifD (o70 (ob (o2 (X6 isTup (gv 0)) (X6 isTup (gv 1)) neD)) (ob (o2 (X6 pd0 (gv 0)) (X6 pd0 (gv 1)) neD)))
 (v7 (o7 (gc (.bl false)))
 u5)
 u5)
 (v7 (o7 (xu0 (o2 (oA (z9 (gv 0) v6) Y8) (oA (z9 (gv 1) v6) Y8) eqD) (oA (z9 (o9 1 [0,1] (O2 (z9 (oA (z9 (gv 1) v6) Y8) v6)) (gN 0) noT (oA (z9 (o2 (gv 1) (gv 0) ixD) (z9 (o2 (gv 2) (gv 0) ixD) v6)) T7)) v6) k20)))
 u5)))))
def xv0:List Str:=["_law_found", "_law_due"]
def Z4:Nat->List D->Option D
 | 0=>λ_=>none
 | k+1=>mkF 2 xv0 (zz0 (Z4 k))
end Bw
namespace Bw
open DL W StrLaws
theorem U6(c k:Int)(h0:0<=k)(h1:k<=1000000):∃x,0<=x/\x<2147483647/\t7 [.int c,.int k]=some (.int x):=by
 obtain⟨q,hq⟩:∃q,q=((c%2147483629+1)*(48271+69621*k+2*k*k)+k)%2147483647:=⟨_,rfl⟩;have q0:0<=q:=by rw[hq];exact L3 _ (by decide)
 have q1:q<2147483647:=by rw[hq];exact L4 _ (by decide)
 refine⟨q/7,by omega,by omega,Z1 rfl (n6 (Y4 ?_))⟩;have kk:2*k*k<=2*1000000*1000000:=by
  have:=Int.mul_le_mul h1 h1 h0 (by omega);rw[Int.mul_assoc];omega
 have kk0:0<=2*k*k:=by
  have:=Int.mul_nonneg h0 h0;rw[Int.mul_assoc];omega
 rw[o4 (x:=.int q) (y:=.int 7) (by
  rw[o4 (x:=.int ((c%2147483629+1)*(48271+69621*k+2*k*k)+k)) (y:=.int 2147483647) (by
   rw[o4 (x:=.int ((c%2147483629+1)*(48271+69621*k+2*k*k))) (y:=.int k) (by
    rw[o4 (x:=.int (c%2147483629+1)) (y:=.int (48271+69621*k+2*k*k)) rfl (by
     rw[o4 (x:=.int (48271+69621*k)) (y:=.int (2*k*k)) (by
      rw[o4 (x:=.int 48271) (y:=.int (69621*k)) rfl (by rw[o4 (x:=.int 69621) (y:=.int k) rfl rfl];exact Gw.mul_r _ _ (by omega))];rfl) (by
      rw[o4 (x:=.int (2*k)) (y:=.int k) (by rw[o4 (x:=.int 2) (y:=.int k) rfl rfl];exact Gw.mul_r _ _ (by omega)) rfl];exact Gw.mul_r _ _ (by omega))]
     rfl)]
    exact Gw.mul_r _ _ (by omega)) rfl]
   rfl) rfl]
  rw[hq];exact Gw.wg0 _ _ (by decide)) rfl]
 rfl
structure Pool(nm:List Str):Prop where
 len:nm.length=12
 names:∀s∈nm,isName s=true
 nd:nm.Nodup
theorem rl0(c:Int):∃nm,Q7 [.int c,.int 12]=some (.lst (nm.map .str))/\Pool nm:=by
 have z:(1000:Nat)<=sizeLine:=by decide
 obtain⟨x20,a0,a1,a2⟩:=U6 c 20 (by decide) (by decide);obtain⟨x21,b0,b1,b2⟩:=U6 c 21 (by decide) (by decide);obtain⟨f,hf⟩:∃f:Nat->Int,∀j:Nat,j<8->0<=f j/\f j<36/\∀δ:Ds,o2 (oA (z9 (gv 1) (z9 (gv 0) v6)) t7) (gc (.int 36)) j5 (.sh (.int (j:Int))::.sh (.int c)::δ)=some (.int (f j)):=by
  have:∀j:Nat,∃v:Int,j<8->0<=v/\v<36/\∀δ:Ds,o2 (oA (z9 (gv 1) (z9 (gv 0) v6)) t7) (gc (.int 36)) j5 (.sh (.int (j:Int))::.sh (.int c)::δ)=some (.int v):=λj=>by
   by_cases hj:j<8
   ·obtain⟨x,y0,y1,y2⟩:=U6 c (j:Int) (by omega) (by omega)
    refine⟨x%36,λ_=>⟨by omega,by omega,fun δ=>?_⟩⟩;rw[o4 (x:=.int x) (y:=.int 36) (by rw[o5 (ds:=[.int c,.int (j:Int)]) rfl];exact y2) rfl];rfl
   ·exact⟨0,λh=>absurd h hj⟩
  obtain⟨f,hf⟩:=r8 this;exact⟨f,hf⟩
 obtain⟨n,hn⟩:∃n:Nat,(n:Int)=x20%8:=⟨(x20%8).toNat,by omega⟩;have n8:n<8:=by omega
 obtain⟨w,hw⟩:∃w:List Nat,w=(List.range n).map λj=>cg (f j):=⟨_,rfl⟩
 have wl:w.length=n:=by rw[hw];simp
 have wm:∀x∈w,x∈nameS.cps.toList:=λx hx=>by
  rw[hw] at hx;obtain⟨j,hj,rfl⟩:=A6.mp hx;have hj:=C3.mp hj;exact fu0 _ (hf j (by omega)).1 (hf j (by omega)).2.1
 have base:∀s3 s4:Sl,wc0 (gc (.str "")) (z9 (o9 1 [0,2] (O2 (z9 (o2 (oA (z9 (gv 0) (z9 (gc (.int 20)) v6)) t7) (gc (.int 8)) j5) v6)) (gN 0) noT (o2 (gv 2) (o2 (oA (z9 (gv 1) (z9 (gv 0) v6)) t7) (gc (.int 36)) j5) ixD)) v6) [.sh (.int c),.sh (.int 12),.sh (.str G5),s3,s4]=some (.str (strOf w)):=λs3 s4=>by
  rw[jh0 (x:=.str "") (ds:=[.lst ((ones w).map .str)]) rfl (cons_of (Z5 (items:=R7 0 (n:Int)) (xi0 (cons_of (by
   rw[o4 (x:=.int x20) (y:=.int 8) (by rw[o5 (ds:=[.int c,.int 20]) rfl];exact a2) rfl,hn];rfl) rfl) (by omega) (by omega)) (by rw[ym0];omega) (by
   have q:=yd0 (gt:=noT) (ge:=(o2 (gv 2) (o2 (oA (z9 (gv 1) (z9 (gv 0) v6)) t7) (gc (.int 36)) j5) ixD)) (δ:=[.un,.sh (.int c),.sh (.str G5)]) (n:=(n:Int)) (λj=>.str ⟨#[cg (f j)]⟩) (λk hk=>⟨[.sh (.int (k:Int)),.sh (.int c),.sh (.str G5)],rfl,rfl,by
    have hk':k<n:=by omega
    obtain⟨g0,g1,g2⟩:=hf k (by omega);rw[o4 (x:=.str G5) (y:=.int (f k)) rfl (g2 _)];exact jk0 (f k) g0 g1⟩)
   refine q.trans ?_;rw[Int.toNat_natCast,hw];unfold ones;rw[List.map_map,List.map_map];rfl)) rfl)]
  have e1:=strs_map id (ones w);have e1':tl0 ((ones w).map D.str)=some (ones w):=by simpa using e1
  simp only[pl0];rw[e1',Option.bind_some,r00,join_ones,if_pos (by
   have:("" : PySem.Str).length=0:=by decide +kernel
   rw[this];omega)]
 obtain⟨a,ha⟩:∃a:Nat,(a:Int)=x21%((n:Int)+1):=⟨(x21%((n:Int)+1)).toNat,by have:=L3 x21 (by omega:(n:Int)+1≠0);omega⟩;have han:a<=n:=by have:=L4 x21 (by omega:(0:Int)<(n:Int)+1);omega
 obtain⟨F,hF⟩:∃F:Nat->List Nat,F=λ(k:Nat)=>w.take a++cg ((3*(k:Int)+c)%36)::w.drop a:=⟨_,rfl⟩
 have Fl:∀k,(F k).length=n+1:=λk=>by
  rw[hF];show (w.take a++cg ((3*(k:Int)+c)%36)::w.drop a).length=n+1;rw[List.length_append,List.length_cons,List.length_take,List.length_drop];omega
 refine⟨(List.range 12).map λk=>strOf (F k),O5 rfl (v9 (j7 (d:=.str G5) rfl) (v9 (j7 (d:=.str (strOf w)) (base _ _)) (v9 (j7 (d:=.int (a:Int)) ?_) (N6 (M8 (Z5 (items:=R7 0 12) rfl (by rw[ym0];show (12:Nat)<=_;omega) ?_)))))),by simp,λs hs=>?_,?_⟩
 ·rw[o4 (x:=.int x21) (y:=.int ((n:Int)+1)) (by rw[o5 (ds:=[.int c,.int 21]) rfl];exact b2) (by
   rw[o4 (x:=.int (n:Int)) (y:=.int 1) (by
    rw[o5 (ds:=[.str (strOf w)]) rfl];simp only[Y8];rw[zr0,wl,if_pos (by omega)]) rfl]
   rfl),Gw.wg0 _ _ (by omega),ha]
 ·have q:=yd0 (gt:=noT) (ge:=(o2 (o2 (J7 (gv 3) O6 (someO (gv 4))) (o2 (gv 2) (o2 (o2 (o2 (gc (.int 3)) (gv 0) M9) (gv 1) j6) (gc (.int 36)) j5) ixD) j6) (J7 (gv 3) (someO (gv 4)) O6) j6)) (δ:=[.un,.sh (.int c),.sh (.str G5),.sh (.str (strOf w)),.sh (.int (a:Int))]) (n:=12) (λk=>.str (strOf (F k))) (λk hk=>⟨[.sh (.int (k:Int)),.sh (.int c),.sh (.str G5),.sh (.str (strOf w)),.sh (.int (a:Int))],rfl,rfl,by
   have hk':(k:Int)<12:=hk;have t1:J7 (gv 3) O6 (someO (gv 4)) [.sh (.int (k:Int)),.sh (.int c),.sh (.str G5),.sh (.str (strOf w)),.sh (.int (a:Int))]=some (.str (strOf (w.take a))):=by
    show slA (.str (strOf w)) none (some (a:Int))=_;simp only[slA];rw[if_pos (by rw[zr0,wl];omega),Gw.ff0 _ _ (by omega) (by omega),Int.toNat_natCast]
   have t2:J7 (gv 3) (someO (gv 4)) O6 [.sh (.int (k:Int)),.sh (.int c),.sh (.str G5),.sh (.str (strOf w)),.sh (.int (a:Int))]=some (.str (strOf (w.drop a))):=by
    show slA (.str (strOf w)) (some (a:Int)) none=_;simp only[slA];rw[if_pos (by rw[zr0,wl];omega),Gw.Yq0 _ _ (by omega) (by omega),Int.toNat_natCast]
   have t3:o2 (gv 2) (o2 (o2 (o2 (gc (.int 3)) (gv 0) M9) (gv 1) j6) (gc (.int 36)) j5) ixD [.sh (.int (k:Int)),.sh (.int c),.sh (.str G5),.sh (.str (strOf w)),.sh (.int (a:Int))]=some (.str (strOf [cg ((3*(k:Int)+c)%36)])):=by
    rw[o4 (x:=.str G5) (y:=.int ((3*(k:Int)+c)%36)) rfl (by
     rw[o4 (x:=.int (3*(k:Int)+c)) (y:=.int 36) (by
      rw[o4 (x:=.int (3*(k:Int))) (y:=.int c) (by rw[o4 (x:=.int 3) (y:=.int (k:Int)) rfl rfl];exact Gw.bw0 _ _ (by decide)) rfl];rfl) rfl]
     rfl)]
    exact jk0 _ (by omega) (by omega)
   rw[o4 (x:=.str (strOf (w.take a++[cg ((3*(k:Int)+c)%36)]))) (y:=.str (strOf (w.drop a))) (by
    rw[o4 t1 t3];exact Gw.bz0 _ _ (by rw[List.length_take];simp;omega)) t2]
   rw[Gw.bz0 _ _ (by rw[List.length_append,List.length_take,List.length_drop];simp;omega),hF];show some (D.str (strOf _))=some (D.str (strOf (w.take a++cg ((3*(k:Int)+c)%36)::w.drop a)));rw[List.append_assoc];rfl⟩)
  refine q.trans ?_;rw[List.map_map];rfl
 ·obtain⟨k,hk,rfl⟩:=A6.mp hs
  refine ea0 _ (by rw[Fl];omega) (by rw[Fl];omega) λx hx=>?_
  rw[hF] at hx;rcases B8.mp hx with q|q
  ·exact wm x (S4 q)
  ·rcases A9.mp q with rfl|q
   ·exact fu0 _ (by omega) (by omega)
   ·exact wm x (List.mem_of_mem_drop q)
 ·refine List.nodup_iff_pairwise_ne.mpr (List.pairwise_map.mpr (List.Pairwise.imp_of_mem ?_ (Cx0 (n:=12))))
  intro i j hi hj hij e;have hi:=C3.mp hi;have hj:=C3.mp hj;have e:=fy0 e;rw[hF] at e;have e:w.take a++cg ((3*(i:Int)+c)%36)::w.drop a=w.take a++cg ((3*(j:Int)+c)%36)::w.drop a:=e;have e:=List.append_cancel_left e;have e:=(List.cons.inj e).1;have e:=Xe0 _ _ (by omega) (by omega) (by omega) (by omega) e;omega
end Bw
namespace Bw
open DL W
theorem zt0{g:GE}{b:Bool}(h:g δ=some (.bl b)):ob g δ=some b:=by
 unfold ob;rw[h];rfl
inductive Vb:D->Prop
 | non:Vb .non
 | lk (j:Nat) (h:j<1000):Vb (.tup [.str "at",.int (j:Int)])
 | int (z:Int) (h:z.natAbs<2 ^ 250):Vb (.int z)
def sg(s:Str):List Int:=s.cps.toList.map λ(c:Nat)=>(c:Int)
end Bw
namespace Ta
open DL W
def Q8:GS:=Pn.Q8
def O9:List Str:=Pn.O9
def Y5:List D->Option D:=Pn.Y5
def un0:GS:=Pn.un0
def sb0:List Str:=Pn.sb0
def z60:List D->Option D:=Pn.z60
def zk0:GS:=Pn.zk0
def zv0:List Str:=Pn.zv0
def m_values:List D->Option D:=Pn.m_values
def wh0:GS:=(v7 (o7 (xu0 (X6 isTup (o2 (gv 0) (gc (.int 0)) ixD)) (X6 isTup (o2 (gv 0) (gc (.int 1)) ixD))))
 u5)
def w80:List Str:=["both"]
def U0:List D->Option D:=mkF 1 w80 wh0
def yy0:GS:=(v7 (o7 (m7 (z9 (o2 (o2 (gv 0) (gc (.int 0)) ixD) (gc (.int 1)) ixD) (z9 (o2 (o2 (gv 0) (gc (.int 1)) ixD) (gc (.int 1)) ixD) v6))))
 u5)
def wp0:List Str:=["both"]
def V3:List D->Option D:=mkF 1 wp0 yy0
def wf0:GS:=(v7 (ifD (ob (o2 (oA (z9 (o2 (gv 0) (o2 (gv 2) (gc (.int 0)) ixD) ixD) v6) z60) (oA (z9 (o2 (gv 1) (o2 (gv 2) (gc (.int 1)) ixD) ixD) v6) z60) M7))
 (v7 (o7 (gc (.bl false)))
 u5)
 u5)
 (v7 (J0 (y80 (z9 (oA (z9 (o2 (gv 0) (o2 (gv 2) (gc (.int 0)) ixD) ixD) v6) m_values) (z9 (oA (z9 (o2 (gv 1) (o2 (gv 2) (gc (.int 1)) ixD) ixD) v6) m_values) v6))) (gN 4)
 (v7 (ifD (ob (oA (z9 (gv 4) v6) U0))
 (v7 (ifD (ob (o2 (oA (z9 (gv 4) v6) V3) (gv 3) (T4 true)))
 (v7 (o7 (gc (.bl false)))
 u5)
 u5)
 u5)
 (v7 (ifD (ob (o2 (o2 (gv 4) (gc (.int 0)) ixD) (o2 (gv 4) (gc (.int 1)) ixD) M7))
 (v7 (o7 (gc (.bl false)))
 u5)
 u5)
 u5))
 u5))
 (v7 (o7 (gc (.bl true)))
 u5)))
def uj0:List Str:=["one", "other", "pair", "listed", "both"]
def y50:List D->Option D:=mkF 4 uj0 wf0
end Ta
namespace Ta
open DL W K22
open Classical in
theorem i50{f:D->Ds->Option Ds}{G:GS}(st:Sl->Ds)(hf:∀d s,f d (st s)=some (st (.sh d)))(ok:D->Prop):∀items:List D,(∀d∈items,(ok d->G (st (.sh d))=some (.nx (st (.sh d))))/\(¬ok d->G (st (.sh d))=some (.rt (.bl false)))) ->
  ∀s,((∀d∈items,ok d)->∃s',U5 f G items (st s)=some (.nx (st s')))/\(¬(∀d∈items,ok d)->U5 f G items (st s)=some (.rt (.bl false)))
 | [],_,s=>⟨λ_=>⟨s,rfl⟩,λh=>absurd (λd hd=>by cases hd) h⟩
 | d::items,h,s=>by
  have hd:=h d A5;obtain⟨i1,i2⟩:=i50 st hf ok items (λe he=>h e (A4 _ he)) (.sh d);have un:U5 f G (d::items) (st s)=(match G (st (.sh d)) with|some (.nx δ')=>U5 f G items δ'|some (.ct δ')=>U5 f G items δ'|some (.bk δ')=>some (.nx δ')|r=>r):=by
   conv=>lhs;unfold U5
   rw[hf d s];rfl
  rw[un]
  by_cases hk:ok d
  ·rw[hd.1 hk]
   refine⟨λz=>i1 λe he=>z e (A4 _ he),λz=>i2 λq=>z λe he=>?_⟩;rcases A9.mp he with rfl|he
   ·exact hk
   ·exact q e he
  ·rw[hd.2 hk]
   exact⟨λz=>absurd (z d A5) hk,λ_=>rfl⟩
def pN(p:Nat×Nat):D:=.tup [.int (p.1:Int),.int (p.2:Int)]
def k2(p:Nat×Nat):List V8:=[.inl (p.1:Int),.inl (p.2:Int)]
theorem Wj0{p q:Nat×Nat}(h:k2 p=k2 q):p=q:=by
 unfold k2 at h;injection h with h1 h2
 injection h2 with h2 _
 injection h1 with h1
 injection h2 with h2
 exact M0 (by omega) (by omega)
theorem b90(ks:List (List V8))(k:List V8):O3 ks k=true↔k∈ks:=by
 unfold O3;rw[List.any_eq_true];constructor
 ·rintro⟨x,hx,e⟩
  rw[← of_decide_eq_true e];exact hx
 ·intro h
  exact⟨k,h,L1 rfl⟩
theorem dg0(ks:List (List V8))(k x:List V8):x∈N5 ks k↔x∈ks∨x=k:=by
 unfold N5
 by_cases h:O3 ks k=true
 ·rw[if_pos h]
  have:=(b90 ks k).mp h;exact⟨.inl,λz=>z.elim id λe=>e▸this⟩
 ·rw[if_neg h,List.mem_append,List.mem_singleton]
theorem ov0(v:D):∀(L:List (Nat×Nat)) (ks:List (List V8)) (vs:List D),∃r,O7 ks vs (L.map λp=>.tup [pN p,v])=some r/\∀x,x∈r.1↔x∈ks∨∃p∈L,x=k2 p
 | [],ks,vs=>⟨(ks,vs),rfl,λx=>⟨.inl,λz=>z.elim id λ⟨p,hp,_⟩=>by cases hp⟩⟩
 | p::L,ks,vs=>by
  obtain⟨r,h1,h2⟩:=ov0 v L (N5 ks (k2 p)) (K5 ks vs (k2 p) v);refine⟨r,?_,λx=>?_⟩
  ·rw[← h1];rfl
  ·rw[h2,dg0]
   constructor
   ·rintro ((z|z)|⟨q,hq,e⟩)
    ·exact .inl z
    ·exact .inr ⟨p,A5,z⟩
    ·exact .inr ⟨q,A4 _ hq,e⟩
   ·rintro (z|⟨q,hq,e⟩)
    ·exact .inl (.inl z)
    ·rcases A9.mp hq with rfl|hq
     ·exact .inl (.inr e)
     ·exact .inr ⟨q,hq,e⟩
def Dc(L:List (Nat×Nat))(d:D):Prop:=∃ks vs,d=.dct (.inr ks) vs/\∀x,x∈ks↔∃p∈L,x=k2 p
theorem bk0{d:D}(h:Dc L d)(p:Nat×Nat):T4 true (pN p) d=some (.bl (decide (p∉L))):=by
 obtain⟨ks,vs,rfl,hk⟩:=h;show some (D.bl (xor true (O3 ks (k2 p))))=_
 by_cases z:p∈L
 ·rw[(b90 ks _).mpr ((hk _).mpr ⟨p,z,rfl⟩),decide_eq_false (λq=>q z)];rfl
 ·have:O3 ks (k2 p)=false:=by
   cases e:O3 ks (k2 p) with
   | false=>rfl
   | true =>
    obtain⟨q,hq,e2⟩:=(hk _).mp ((b90 ks _).mp e);exact absurd (Wj0 e2▸hq) z
  rw[this,decide_eq_true z];rfl
def okv(L:List (Nat×Nat)):D->D->Prop
 | .tup [_,.int i],.tup [_,.int j]=>(i.toNat,j.toNat)∈L
 | v,w=>v=w
theorem cz0{v:D}(h:Lv n v):Pn.Pl v:=by
 refine⟨e80 h 49,?_⟩;rcases h with rfl|⟨z,rfl⟩|⟨j,rfl,_⟩<;>simp[Pn.nb,Pn.nbs]
def w50(p:Prop)(o:Option D):Prop:=(p->o=some (.bl true))/\(¬p->o=some (.bl false))
theorem Ym0{v w:D}(hv:Lv n v)(hw:Lv m w):w50 (v≠w) (M7 v w) :=
 ⟨λe=>Pn.b30 (cz0 hv) (cz0 hw) e,λe=>by
  have:=Classical.not_not.mp e;subst this;exact Pn.c70 (cz0 hv).le⟩
theorem rz0{p:Prop}{g:GE}(h:w50 p (g δ)):(p->ob g δ=some true)/\(¬p->ob g δ=some false) :=
 ⟨λz=>by unfold ob;rw[h.1 z];rfl,λz=>by unfold ob;rw[h.2 z];rfl⟩
theorem fa0{v w:D}(hv:Lv n v)(hw:Lv m w)(h:¬(isTup v=true/\isTup w=true)):okv L v w↔v=w:=by
 rcases hv with rfl|⟨z,rfl⟩|⟨j,rfl,_⟩<;>rcases hw with rfl|⟨z',rfl⟩|⟨j',rfl,_⟩<;>first|exact Iff.rfl|exact absurd ⟨rfl,rfl⟩ h
def UB:GS:=(v7 (ifD (ob (oA (z9 (gv 4) v6) U0))
 (v7 (ifD (ob (o2 (oA (z9 (gv 4) v6) V3) (gv 3) (T4 true)))
 (v7 (o7 (gc (.bl false)))
 u5)
 u5)
 u5)
 (v7 (ifD (ob (o2 (o2 (gv 4) (gc (.int 0)) ixD) (o2 (gv 4) (gc (.int 1)) ixD) M7))
 (v7 (o7 (gc (.bl false)))
 u5)
 u5)
 u5))
 u5)
theorem rj0(v w:D):U0 [.tup [v,w]]=some (.bl (isTup v&&isTup w)):=by
 refine Z1 rfl (n6 (Y4 ?_));unfold xu0;rw[show ob (X6 isTup (o2 (gv 0) (gc (.int 0)) ixD)) (W4 w80 [.tup [v,w]])=some (isTup v) from rfl,Option.bind_some];cases isTup v with
 | false=>rfl
 | true=>rw[if_pos rfl];rfl
theorem hf0{d:D}(hd:Dc L d){v w:D}(hv:Lv n v)(hw:Lv m w)(a b c:Sl) :
  (okv L v w->UB [a,b,c,.sh d,.sh (.tup [v,w])]=some (.nx [a,b,c,.sh d,.sh (.tup [v,w])]))/\(¬okv L v w->UB [a,b,c,.sh d,.sh (.tup [v,w])]=some (.rt (.bl false))):=by
 have hl:ob (oA (z9 (gv 4) v6) U0) [a,b,c,.sh d,.sh (.tup [v,w])]=some (isTup v&&isTup w):=by
  unfold ob;rw[o5 (ds:=[.tup [v,w]]) rfl,rj0];rfl
 by_cases hb:isTup v=true/\isTup w=true
 ·rw[hb.1,hb.2] at hl
  obtain⟨i,rfl,_⟩:∃j:Nat,v=.tup [.str "at",.int (j:Int)]/\j<n:=by
   rcases hv with rfl|⟨z,rfl⟩|h
   ·exact absurd hb.1 (by simp)
   ·exact absurd hb.1 (by simp)
   ·exact h
  obtain⟨j,rfl,_⟩:∃j:Nat,w=.tup [.str "at",.int (j:Int)]/\j<m:=by
   rcases hw with rfl|⟨z,rfl⟩|h
   ·exact absurd hb.2 (by simp)
   ·exact absurd hb.2 (by simp)
   ·exact h
  have e:okv L (.tup [.str "at",.int (i:Int)]) (.tup [.str "at",.int (j:Int)])↔(i,j)∈L:=by
   unfold okv;simp only[Int.toNat_natCast]
  have lp:V3 [.tup [.tup [.str "at",.int (i:Int)],.tup [.str "at",.int (j:Int)]]]=some (pN (i,j)) :=
   Z1 rfl (n6 (Y4 (Z7 (cons_of rfl (cons_of rfl rfl)) (by show 2<=sizeLine;decide))))
  have ht:ob (o2 (oA (z9 (gv 4) v6) V3) (gv 3) (T4 true)) [a,b,c,.sh d,.sh (.tup [.tup [.str "at",.int (i:Int)],.tup [.str "at",.int (j:Int)]])]=some (decide ((i,j)∉L)):=by
   unfold ob;rw[o4 (x:=pN (i,j)) (y:=d) (by rw[o5 (ds:=[.tup [.tup [.str "at",.int (i:Int)],.tup [.str "at",.int (j:Int)]]]) rfl];exact lp) rfl,bk0 hd];rfl
  rw[e];refine⟨λz=>?_,λz=>?_⟩
  ·rw[decide_eq_false (λq=>q z)] at ht
   refine v9 (δ':=[a,b,c,.sh d,.sh (.tup [.tup [.str "at",.int (i:Int)],.tup [.str "at",.int (j:Int)]])]) ?_ rfl;rw[V0 hl];refine v9 (δ':=[a,b,c,.sh d,.sh (.tup [.tup [.str "at",.int (i:Int)],.tup [.str "at",.int (j:Int)]])]) ?_ rfl;rw[Z0 ht];rfl
  ·rw[decide_eq_true z] at ht
   refine n6 ?_;rw[V0 hl];refine n6 ?_;rw[V0 ht];rfl
 ·have hl2:(isTup v&&isTup w)=false:=by
   cases e1:isTup v with
   | false=>rfl
   | true =>
    cases e2:isTup w with
    | false=>rfl
    | true=>exact absurd ⟨e1,e2⟩ hb
  rw[hl2] at hl;rw[fa0 hv hw hb];obtain⟨t1,t2⟩:=rz0 (g:=o2 (o2 (gv 4) (gc (.int 0)) ixD) (o2 (gv 4) (gc (.int 1)) ixD) M7) (δ:=[a,b,c,.sh d,.sh (.tup [v,w])]) (p:=v≠w) (by
   rw[o4 (x:=v) (y:=w) rfl rfl];exact Ym0 hv hw)
  refine⟨λz=>?_,λz=>?_⟩
  ·refine v9 (δ':=[a,b,c,.sh d,.sh (.tup [v,w])]) ?_ rfl
   rw[Z0 hl];refine v9 (δ':=[a,b,c,.sh d,.sh (.tup [v,w])]) ?_ rfl;rw[Z0 (t2 λq=>q z)];rfl
  ·refine n6 ?_
   rw[Z0 hl];refine n6 ?_;rw[V0 (t1 z)];rfl
def pa(ps:List Pt)(i:Nat):Pt:=ps.getD i (.row [])
def up(ps qs:List Pt)(L:List (Nat×Nat))(p:Nat×Nat):Prop:=Pn.hd (pa ps p.1)=Pn.hd (pa qs p.2)/\∀q∈(pa ps p.1).vals.zip (pa qs p.2).vals,okv L q.1 q.2
theorem R9{ps:List Pt}(h:Web ps)(hi:i<ps.length):ixD (wd ps) (.int (i:Int))=some (pa ps i).d/\Pw ps.length (pa ps i):=by
 obtain⟨a,_,c⟩:=h.at hi;have:pa ps i=ps[i]:=by unfold pa;simp[hi]
 rw[this];exact⟨a,c⟩
theorem rm0(p:Pt)(h:p.few):z60 [p.d]=some (Pn.hd p):=Pn.rm0 p h
theorem Q3(p:Pt)(h:p.few):m_values [p.d]=some (.lst p.vals):=Pn.Q3 p h
theorem ss0{ps qs:List Pt}(hp:Web ps)(hq:Web qs){d:D}(hd:Dc L d){p:Nat×Nat}(h1:p.1<ps.length)(h2:p.2<qs.length):w50 (up ps qs L p) (y50 [wd ps,wd qs,pN p,d]):=by
 obtain⟨a1,a2⟩:=R9 hp h1;obtain⟨b1,b2⟩:=R9 hq h2;unfold up;generalize pa ps p.1=P at a1 a2;generalize pa qs p.2=R at b1 b2;have g1:∀δ:Ds,o2 (gv 0) (o2 (gv 2) (gc (.int 0)) ixD) ixD (.sh (wd ps)::.sh (wd qs)::.sh (pN p)::δ)=some P.d:=fun δ=>by
  rw[o4 (x:=wd ps) (y:=.int (p.1:Int)) rfl rfl];exact a1
 have g2:∀δ:Ds,o2 (gv 1) (o2 (gv 2) (gc (.int 1)) ixD) ixD (.sh (wd ps)::.sh (wd qs)::.sh (pN p)::δ)=some R.d:=fun δ=>by
  rw[o4 (x:=wd qs) (y:=.int (p.2:Int)) rfl rfl];exact b1
 obtain⟨t1,t2⟩:=rz0 (g:=o2 (oA (z9 (o2 (gv 0) (o2 (gv 2) (gc (.int 0)) ixD) ixD) v6) z60) (oA (z9 (o2 (gv 1) (o2 (gv 2) (gc (.int 1)) ixD) ixD) v6) z60) M7) (δ:=[.sh (wd ps),.sh (wd qs),.sh (pN p),.sh d,.un]) (p:=Pn.hd P≠Pn.hd R) (by
  rw[o4 (x:=Pn.hd P) (y:=Pn.hd R) (by rw[o5 (ds:=[P.d]) (cons_of (g1 _) rfl)];exact rm0 P a2.f) (by rw[o5 (ds:=[R.d]) (cons_of (g2 _) rfl)];exact rm0 R b2.f)];exact⟨λe=>Pn.b30 (Pn.rw0 P) (Pn.rw0 R) e,λe=>by rw[Classical.not_not.mp e];exact Pn.c70 (Pn.rw0 R).le⟩)
 by_cases hh:Pn.hd P=Pn.hd R
 ·obtain⟨f1,f2⟩:=i50 (f:=gN 4) (G:=UB) (λs=>[.sh (wd ps),.sh (wd qs),.sh (pN p),.sh d,s]) (λ_ _=>rfl) (λx=>∃v w,x=.tup [v,w]/\okv L v w) ((P.vals.zip R.vals).map λq=>.tup [q.1,q.2]) (λx hx=>by
   obtain⟨q,hq',rfl⟩:=A6.mp hx;obtain⟨m1,m2⟩:=D7 hq';obtain⟨u1,u2⟩:=hf0 hd (a2.lv _ m1) (b2.lv _ m2) (.sh (wd ps)) (.sh (wd qs)) (.sh (pN p));refine⟨λ⟨v,w,e,o⟩=>?_,λz=>u2 λo=>z ⟨_,_,rfl,o⟩⟩;injection e with e
   injection e with e1 e
   injection e with e2 _
   rw[← e1,← e2] at o;exact u1 o) .un
  have hz:y80 (z9 (oA (z9 (o2 (gv 0) (o2 (gv 2) (gc (.int 0)) ixD) ixD) v6) m_values) (z9 (oA (z9 (o2 (gv 1) (o2 (gv 2) (gc (.int 1)) ixD) ixD) v6) m_values) v6)) [.sh (wd ps),.sh (wd qs),.sh (pN p),.sh d,.un]=some ((P.vals.zip R.vals).map λq=>.tup [q.1,q.2]):=by
   unfold y80;rw[cons_of (d:=.lst P.vals) (ds:=[.lst R.vals]) (by rw[o5 (ds:=[P.d]) (cons_of (g1 _) rfl)];exact Q3 P a2.f) (cons_of (by rw[o5 (ds:=[R.d]) (cons_of (g2 _) rfl)];exact Q3 R b2.f) rfl)];rfl
  have hn:∀rest:GS,v7 (ifD (ob (o2 (oA (z9 (o2 (gv 0) (o2 (gv 2) (gc (.int 0)) ixD) ixD) v6) z60) (oA (z9 (o2 (gv 1) (o2 (gv 2) (gc (.int 1)) ixD) ixD) v6) z60) M7)) (v7 (o7 (gc (.bl false))) u5) u5) rest [.sh (wd ps),.sh (wd qs),.sh (pN p),.sh d,.un]=rest [.sh (wd ps),.sh (wd qs),.sh (pN p),.sh d,.un]:=λrest=>v9 (by rw[Z0 (t2 λz=>z hh)];rfl) rfl
  refine⟨λhup=>?_,λhup=>?_⟩
  ·obtain⟨s',hs⟩:=f1 λx hx=>by
    obtain⟨q,hq',rfl⟩:=A6.mp hx;exact⟨_,_,rfl,hup.2 q hq'⟩
   refine Z1 rfl ?_;refine(hn _).trans (v9 (zg0 hz hs) (n6 rfl))
  ·refine Z1 rfl ?_
   refine(hn _).trans (n6 (zg0 hz (f2 λz=>hup ⟨hh,λq hq'=>?_⟩)));obtain⟨v,w,e,o⟩:=z _ (A6.mpr ⟨q,hq',rfl⟩);injection e with e
   injection e with e1 e
   injection e with e2 _
   rw[e1,e2];exact o
 ·refine⟨λz=>absurd z.1 hh,λ_=>Z1 rfl (n6 ?_)⟩
  show ifD _ _ _ [.sh (wd ps),.sh (wd qs),.sh (pN p),.sh d,.un]=_;rw[V0 (t1 hh)];rfl
theorem fi0(p q:Nat×Nat):deq (pN p) (pN q)=decide (p=q):=by
 unfold pN;rw[deq,G4,G4,G4,deq,deq]
 by_cases h:p=q
 ·subst h;simp
 ·rw[decide_eq_false h]
  cases e:(p.1:Int)==(q.1:Int) with
  | false=>rfl
  | true =>
   cases e2:(p.2:Int)==(q.2:Int) with
   | false=>rfl
   | true =>
    exfalso;apply h;rw[beq_iff_eq] at e e2;exact M0 (by omega) (by omega)
theorem px0(p:Nat×Nat)(k:Nat):lean (pN p) (k+1)=true:=by simp[pN,lean,leans]
theorem ol0(L:List (Nat×Nat))(k:Nat):leans (L.map pN) (k+1)=true:=ox0 λx hx=>by
 obtain⟨p,_,rfl⟩:=A6.mp hx;exact px0 p k
theorem ct0(L:List (Nat×Nat)):Q4 (gN 0) noT (o2 (gv 0) (gc (.int 0)) ixD) [.un] (L.map pN)=some ((L.map λp=>(p.1:Int)).map .int):=by
 rw[O1 (λd=>match d with|.tup [a,_]=>a|_=>.non) (λd hd=>by
  obtain⟨q,_,rfl⟩:=A6.mp hd;exact⟨[.sh (pN q)],rfl,rfl,rfl⟩),List.map_map,List.map_map]
 rfl
theorem tp0(L:List (Nat×Nat)):Q4 (gN 0) noT (o2 (gv 0) (gc (.int 1)) ixD) [.un] (L.map pN)=some ((L.map λp=>(p.2:Int)).map .int):=by
 rw[O1 (λd=>match d with|.tup [_,b]=>b|_=>.non) (λd hd=>by
  obtain⟨q,_,rfl⟩:=A6.mp hd;exact⟨[.sh (pN q)],rfl,rfl,rfl⟩),List.map_map,List.map_map]
 rfl
theorem dl0(ps:List Pt)(δ:Ds)(h:gv i δ=some (wd ps)):oA (z9 (gv i) v6) Y8 δ=some (.int (ps.length:Int)):=by
 rw[o5 (ds:=[wd ps]) (cons_of h rfl)];show some (D.int ((ps.map Pt.d).length:Int))=_;rw[List.length_map]
end Ta
namespace Bw
open DL W
def cnt:Pt->Nat
 | .text w=>w.length
 | .row vs=>vs.length
 | .table ps=>ps.length
 | .rcd _ ps=>ps.length
def kn:Pt->Nat
 | .text _=>0
 | .row _=>1
 | .table _=>2
 | .rcd _ _=>3
def two(p:Str×D):List D:=[.str p.1,p.2]
def its:Pt->List D
 | .text _=>[]
 | .row vs=>vs
 | .table ps=>ps.flatMap two
 | .rcd c ps=>.str c::ps.flatMap two
def tx:Pt->List Int
 | .text w=>sg w
 | _=>[]
structure Gq(p:Pt):Prop where
 cnt:cnt p<=20
 vals:∀v∈p.vals,Vb v
 names:∀s∈p.all,s.length<=20
 few:p.vals.length<=12
def web(ps:List Pt):D:=.tup (ps.map Pt.d)
structure Gw'(ps:List Pt):Prop where
 len:ps.length<=60
 it:∀p∈ps,Gq p
theorem qy0(k:Nat)(z:Int):Z4 (k+1) [.int z,.int z]=some (.bl true):=by
 refine Z1 rfl (v9 (δ':=[.sh (.int z),.sh (.int z)]) rfl (v9 (δ':=[.sh (.int z),.sh (.int z)]) rfl (n6 ?_)));rw[V0 rfl];refine n6 (Y4 ?_);show some (D.bl (decide (z=z)))=_;rw[decide_eq_true rfl]
theorem wl0(ns:List Int)(hb:∀z∈ns,z.natAbs.log2<=1048576)(k:Int)(h0:0<=k)(h1:k<=1000):∃z,d9 [.lst (ns.map .int),.int k]=some (.int z)/\z.natAbs.log2<=1048576:=by
 by_cases h:k<ns.length
 ·have hlt:k.toNat<ns.length:=by omega
  refine⟨ns[k.toNat],Z1 rfl (n6 ?_),hb _ (E5 hlt)⟩;rw[V0 (by
   show some (decide (k<(((ns.map D.int).length:Nat):Int)))=_;rw[decide_eq_true (by rw[List.length_map];exact h)])]
  refine n6 (Y4 ?_);show atI (ns.map D.int) k=_;rw[yb0 h0 (by rw[List.length_map];exact h) .non];simp[List.getD_eq_getElem?_getD,hlt]
 ·refine⟨(k*7919+5)*(k+31),Z1 rfl (v9 (δ':=[.sh (.lst (ns.map .int)),.sh (.int k)]) ?_ (n6 (Y4 ?_))),?_⟩
  ·rw[Z0 (by
    show some (decide (k<(((ns.map D.int).length:Nat):Int)))=_;rw[decide_eq_false (by rw[List.length_map];exact h)])]
   rfl
  ·rw[o4 (x:=.int (k*7919+5)) (y:=.int (k+31)) (by
    rw[o4 (x:=.int (k*7919)) (y:=.int 5) (by rw[o4 (x:=.int k) (y:=.int 7919) rfl rfl];exact Gw.mul_r _ _ (by decide)) rfl];rfl) rfl]
   exact Gw.mul_r _ _ (by omega)
  ·have q1:(k*7919+5)*(k+31)<=8000000*2000:=Int.mul_le_mul (by omega) (by omega) (by omega) (by omega)
   have q2:0<=(k*7919+5)*(k+31):=Int.mul_nonneg (by omega) (by omega);generalize (k*7919+5)*(k+31)=w at q1 q2;rcases Cy0 w.natAbs with e|e
   ·rw[e];decide
   ·have:w.natAbs.log2<60:=(Aq0 (B9 e)).mpr (by omega)
    omega
theorem lg(c k:Int)(L:Nat)(h:c.natAbs.log2<=L)(hk:0<=k/\k<=1000):((c+1)*(k+3)).natAbs.log2<=L+13:=by
 have h1:c.natAbs<2 ^ (L+1):=B1 Nat.lt_log2_self (Nat.pow_le_pow_right (by decide) (by omega));have h2:(c+1).natAbs<=2 ^ (L+1):=by omega
 have h3:(k+3).natAbs<=2 ^ 10:=by
  have:(2:Nat) ^ 10=1024:=by decide
  omega
 have h4:((c+1)*(k+3)).natAbs<=2 ^ (L+11):=by
  rw[Int.natAbs_mul];have:=Nat.mul_le_mul h2 h3;rw[← Nat.pow_add] at this;exact this
 rcases Cy0 ((c+1)*(k+3)).natAbs with e|e
 ·rw[e,Nat.log2_zero];omega
 ·have h5:(2:Nat) ^ (L+11)<2 ^ (L+12):=Nat.pow_lt_pow_right (by decide) (by omega)
  have:=(Aq0 (B9 e)).mpr (U2 h4 h5);omega
theorem T80:ud0 (.int 982451653) (.int 7)=some (.int (982451653 ^ 7)):=by kernel_rfl
theorem Ux0:ud0 (.int 10) (.int 60)=some (.int (10 ^ 60)):=by kernel_rfl
theorem lg7:(982451653 ^ 7:Int).natAbs.log2<=2000:=by decide +kernel
def Lk(m:Nat)(v:D):Prop:=∀j:Nat,v=.tup [.str "at",.int (j:Int)]->j<m
theorem m40(h:i<m):Lk m (.tup [.str "at",.int (i:Int)]):=λj e=>by
 injection e with e
 injection e with _ e
 injection e with e _
 injection e with e
 omega
theorem te0(c k m:Int)(hc:c.natAbs.log2<=1048576)(hk:0<=k/\k<=100)(hm:0<m/\m<=1000):∃v,Z2 [.int c,.int k,.int m]=some v/\Vb v/\Lk m.toNat v:=by
 have z:(1000:Nat)<=sizeLine:=by decide
 obtain⟨x,a0,a1,a2⟩:=U6 c k hk.1 (by omega);obtain⟨y,b0,b1,b2⟩:=U6 c (40+k) (by omega) (by omega);obtain⟨w,c0,c1,c2⟩:=U6 c (60+k) (by omega) (by omega);have s1:∀s:Sl,m5 (gN 3) (o2 (oA (z9 (gv 0) (z9 (gv 1) v6)) t7) (gc (.int 5)) j5) [.sh (.int c),.sh (.int k),.sh (.int m),s]=some (.nx [.sh (.int c),.sh (.int k),.sh (.int m),.sh (.int (x%5))]):=λs=>by
  refine j7 (i:=3) (d:=.int (x%5)) ?_;rw[o4 (x:=.int x) (y:=.int 5) (by rw[o5 (ds:=[.int c,.int k]) rfl];exact a2) rfl];rfl
 by_cases h0:x%5=0
 ·refine⟨.non,Z1 rfl (v9 (s1 _) (n6 ?_)),.non,λj h=>nomatch h⟩
  rw[V0 (by show some (decide (x%5=0))=_;rw[decide_eq_true h0])];rfl
 have n0:∀G:GS,ifD (ob (o2 (gv 3) (gc (.int 0)) eqD)) G u5 [.sh (.int c),.sh (.int k),.sh (.int m),.sh (.int (x%5))]=some (.nx [.sh (.int c),.sh (.int k),.sh (.int m),.sh (.int (x%5))]):=λG=>by
  rw[Z0 (by show some (decide (x%5=0))=_;rw[decide_eq_false h0])];rfl
 by_cases h3:x%5<3
 ·have j0:0<=y%m:=L3 _ (by omega)
  have j1:y%m<m:=L4 _ hm.1;refine⟨.tup [.str "at",.int (((y%m).toNat:Nat):Int)],Z1 rfl (v9 (s1 _) (v9 (n0 _) (n6 ?_))),.lk _ (by omega),m40 (by omega)⟩;rw[V0 (by show some (decide (x%5<3))=_;rw[decide_eq_true h3])];refine n6 (Y4 (Z7 (cons_of rfl (cons_of ?_ rfl)) (by show 2<=sizeLine;omega)));rw[o4 (x:=.int y) (y:=.int m) (by rw[o5 (ds:=[.int c,.int (40+k)]) rfl];exact b2) rfl,Gw.wg0 _ _ hm.1,Int.toNat_of_nonneg j0]
 have n3:∀G:GS,ifD (ob (o2 (gv 3) (gc (.int 3)) ltD)) G u5 [.sh (.int c),.sh (.int k),.sh (.int m),.sh (.int (x%5))]=some (.nx [.sh (.int c),.sh (.int k),.sh (.int m),.sh (.int (x%5))]):=λG=>by
  rw[Z0 (by show some (decide (x%5<3))=_;rw[decide_eq_false h3])];rfl
 by_cases h4:x%5=3
 ·refine⟨.int (w%260 - 130),Z1 rfl (v9 (s1 _) (v9 (n0 _) (v9 (n3 _) (n6 ?_)))),.int _ (B1 (m:=1000) (by omega) (by decide)),λj h=>nomatch h⟩
  rw[V0 (by show some (decide (x%5=3))=_;rw[decide_eq_true h4])];refine n6 (Y4 ?_);rw[o4 (x:=.int (w%260)) (y:=.int 130) (by
   rw[o4 (x:=.int w) (y:=.int 260) (by rw[o5 (ds:=[.int c,.int (60+k)]) rfl];exact c2) rfl];rfl) rfl]
  rfl
 have n4:∀G:GS,ifD (ob (o2 (gv 3) (gc (.int 3)) eqD)) G u5 [.sh (.int c),.sh (.int k),.sh (.int m),.sh (.int (x%5))]=some (.nx [.sh (.int c),.sh (.int k),.sh (.int m),.sh (.int (x%5))]):=λG=>by
  rw[Z0 (by show some (decide (x%5=3))=_;rw[decide_eq_false h4])];rfl
 obtain⟨u,hu⟩:∃u:Int,u=(c+1)*(k+3)*982451653 ^ 7%(2*10 ^ 60 - 1):=⟨_,rfl⟩;have u0:0<=u:=by rw[hu];exact L3 _ (by decide)
 have u1:u<2*10 ^ 60 - 1:=by rw[hu];exact L4 _ (by decide)
 refine⟨.int (u+1 - 10 ^ 60),Z1 rfl (v9 (s1 _) (v9 (n0 _) (v9 (n3 _) (v9 (n4 _) (n6 (Y4 ?_)))))),.int _ ?_,λj h=>nomatch h⟩
 ·have e10:∀δ:Ds,o2 (gc (.int 10)) (gc (.int 60)) ud0 δ=some (.int (10 ^ 60)):=fun δ=>by rw[o4 (x:=.int 10) (y:=.int 60) rfl rfl];exact Ux0
  rw[o4 (x:=.int (u+1)) (y:=.int (10 ^ 60)) (by
   rw[o4 (x:=.int u) (y:=.int 1) (by
    rw[o4 (x:=.int ((c+1)*(k+3)*982451653 ^ 7)) (y:=.int (2*10 ^ 60 - 1)) (by
     rw[o4 (x:=.int ((c+1)*(k+3))) (y:=.int (982451653 ^ 7)) (by
      rw[o4 (x:=.int (c+1)) (y:=.int (k+3)) rfl rfl];exact Gw.mul_r _ _ (by omega)) (by rw[o4 (x:=.int 982451653) (y:=.int 7) rfl rfl];exact T80)]
     have:=lg c k 1048576 hc (by omega);simp only[gt0,ii];rw[if_pos ⟨by omega,lg7⟩]) (by
     rw[o4 (x:=.int (2*10 ^ 60)) (y:=.int 1) (by rw[o4 (x:=.int 2) (y:=.int (10 ^ 60)) rfl (e10 _)];exact Gw.bw0 _ _ (by decide)) rfl];rfl),Gw.wg0 _ _ (by decide),hu]) rfl]
   rfl) (e10 _)]
  rfl
 ·have e:((10:Int) ^ 60)<2 ^ 240:=by decide +kernel
  have e2:((10:Int) ^ 60)=((10 ^ 60:Nat):Int):=by decide +kernel
  have e3:(10 ^ 60:Nat)<2 ^ 250:=by decide +kernel
  rw[e2] at u1 ⊢;generalize (10 ^ 60:Nat)=t at u1 e3;generalize (2:Nat) ^ 250=r at e3;omega
theorem m80(nm:List Str)(hp:Pool nm)(i:Int)(h0:0<=i)(h1:i<12):ixD (.lst (nm.map .str)) (.int i)=some (.str (nm.getD i.toNat ""))/\nm.getD i.toNat ""∈nm:=by
 have hl:=hp.len;have hlt:i.toNat<nm.length:=by omega
 constructor
 ·show atI (nm.map D.str) i=_
  rw[yb0 h0 (by rw[List.length_map];omega) .non];simp[List.getD_eq_getElem?_getD,hlt]
 ·rw[List.getD_eq_getElem?_getD,List.getElem?_eq_getElem hlt]
  exact E5 hlt
def S37:Str := "abcdefghijklmnopqrstuvwxyz0123456789 "
theorem T90(i:Int)(h0:0<=i)(h1:i<37):∃c:Nat,ixD (.str S37) (.int i)=some (.str ⟨#[c]⟩):=by
 have hl:S37.cps.toList.length=37:=by decide +kernel
 refine⟨S37.cps.toList.getD i.toNat 0,?_⟩;simp only[ixD];rw[if_pos (by decide +kernel),yb0 h0 (by rw[hl];exact h1) 0];rfl
theorem Y00(c m:Int)(nm:List Str)(hp:Pool nm)(hc:c.natAbs.log2<=1048576)(hm:0<m/\m<=1000):∃p:Pt,X3 [.int c,.lst (nm.map .str),.int m]=some p.d/\Gq p/\∀v∈p.vals,Lk m.toNat v:=by
 have z:(1000:Nat)<=sizeLine:=by decide
 obtain⟨x1,p0,p1,p2⟩:=U6 c 1 (by decide) (by decide);obtain⟨x2,q0,q1,q2⟩:=U6 c 2 (by decide) (by decide);obtain⟨x3,r0,r1,r2⟩:=U6 c 3 (by decide) (by decide);obtain⟨xt,t0,t1,t2⟩:=U6 c 30 (by decide) (by decide);obtain⟨xc,c0,c1,c2⟩:=U6 c 31 (by decide) (by decide);obtain⟨n,hn12,hn⟩:∃n:Nat,n<=12/\∀δ:Ds,o2 (W7 (z9 (gc (.int 0)) (z9 (gc (.int 1)) (z9 (gc (.int 2)) (z9 (gc (.int 3)) (z9 (gc (.int 2)) (z9 (gc (.int 1)) (z9 (gc (.int 4)) (z9 (gc (.int 12)) v6))))))))) (o2 (oA (z9 (gv 0) (z9 (gc (.int 2)) v6)) t7) (gc (.int 8)) j5) ixD (.sh (.int c)::δ)=some (.int (n:Int)):=by
  have key:∀(n:Nat),ixD (.lst [.int 0,.int 1,.int 2,.int 3,.int 2,.int 1,.int 4,.int 12]) (.int (x2%8))=some (.int (n:Int))->∀δ:Ds,o2 (W7 (z9 (gc (.int 0)) (z9 (gc (.int 1)) (z9 (gc (.int 2)) (z9 (gc (.int 3)) (z9 (gc (.int 2)) (z9 (gc (.int 1)) (z9 (gc (.int 4)) (z9 (gc (.int 12)) v6))))))))) (o2 (oA (z9 (gv 0) (z9 (gc (.int 2)) v6)) t7) (gc (.int 8)) j5) ixD (.sh (.int c)::δ)=some (.int (n:Int)):=λn h δ=>by
   rw[o4 (x:=.lst [.int 0,.int 1,.int 2,.int 3,.int 2,.int 1,.int 4,.int 12]) (y:=.int (x2%8)) (lk0 rfl (by show 8<=sizeLine;omega)) (by
    rw[o4 (x:=.int x2) (y:=.int 8) (by rw[o5 (ds:=[.int c,.int 2]) rfl];exact q2) rfl];rfl)]
   exact h
  have q:x2%8=0∨x2%8=1∨x2%8=2∨x2%8=3∨x2%8=4∨x2%8=5∨x2%8=6∨x2%8=7:=by omega
  rcases q with q|q|q|q|q|q|q|q<;>rw[q] at key
  ·exact⟨0,by omega,key 0 rfl⟩
  ·exact⟨1,by omega,key 1 rfl⟩
  ·exact⟨2,by omega,key 2 rfl⟩
  ·exact⟨3,by omega,key 3 rfl⟩
  ·exact⟨2,by omega,key 2 rfl⟩
  ·exact⟨1,by omega,key 1 rfl⟩
  ·exact⟨4,by omega,key 4 rfl⟩
  ·exact⟨12,by omega,key 12 rfl⟩
 have s3:∀δ:Ds,o2 (oA (z9 (gv 0) (z9 (gc (.int 1)) v6)) t7) (gc (.int 5)) j5 (.sh (.int c)::δ)=some (.int (x1%5)):=fun δ=>by
  rw[o4 (x:=.int x1) (y:=.int 5) (by rw[o5 (ds:=[.int c,.int 1]) rfl];exact p2) rfl];rfl
 by_cases k0:x1%5=0
 ·obtain⟨f,hf⟩:∃f:Nat->Nat,∀j:Nat,j<21->∀δ:Ds,o2 (gv 2) (o2 (oA (z9 (gv 1) (z9 (o2 (gc (.int 80)) (gv 0) j6) v6)) t7) (gc (.int 37)) j5) ixD (.sh (.int (j:Int))::.sh (.int c)::.sh (.str S37)::δ)=some (.str ⟨#[f j]⟩):=by
   have:∀j:Nat,∃v:Nat,j<21->∀δ:Ds,o2 (gv 2) (o2 (oA (z9 (gv 1) (z9 (o2 (gc (.int 80)) (gv 0) j6) v6)) t7) (gc (.int 37)) j5) ixD (.sh (.int (j:Int))::.sh (.int c)::.sh (.str S37)::δ)=some (.str ⟨#[v]⟩):=λj=>by
    by_cases hj:j<21
    ·obtain⟨x,y0,y1,y2⟩:=U6 c (80+(j:Int)) (by omega) (by omega)
     obtain⟨v,hv⟩:=T90 (x%37) (by omega) (by omega);refine⟨v,λ_ δ=>?_⟩;rw[o4 (x:=.str S37) (y:=.int (x%37)) rfl (by
      rw[o4 (x:=.int x) (y:=.int 37) (by rw[o5 (ds:=[.int c,.int (80+(j:Int))]) rfl];exact y2) rfl];rfl)]
     exact hv
    ·exact⟨0,λh=>absurd h hj⟩
   obtain⟨f,hf⟩:=r8 this;exact⟨f,hf⟩
  obtain⟨l,hl⟩:∃l:Nat,(l:Int)=x3%21:=⟨(x3%21).toNat,by omega⟩;have l21:l<21:=by omega
  obtain⟨w,hw⟩:∃w:List Nat,w=(List.range l).map f:=⟨_,rfl⟩;have wl:w.length=l:=by rw[hw];simp
  refine⟨.text (strOf w),Z1 rfl (v9 (j7 (d:=.int (x1%5)) (s3 _)) (v9 (j7 (d:=.int (n:Int)) (hn _)) (n6 ?_))),⟨by show (strOf w).length<=20;rw[zr0];omega,λv hv=>(by cases hv),λs hs=>(by cases hs),C5 _⟩,λv hv=>(by cases hv)⟩;rw[V0 (by show some (decide (x1%5=0))=_;rw[decide_eq_true k0])];refine v9 (j7 (d:=.str S37) rfl) (n6 (Y4 (Z7 (cons_of rfl (cons_of (d:=.str (strOf w)) ?_ rfl)) (by show 2<=sizeLine;omega))))
  change wc0 _ _ [.sh (.int c),.sh (.lst (nm.map .str)),.sh (.int m),.sh (.int (x1%5)),.sh (.int (n:Int)),.sh (.str S37),.un,.un,.un]=_
  rw[jh0 (x:=.str "") (ds:=[.lst ((ones w).map .str)]) rfl (cons_of (Z5 (items:=R7 0 (l:Int)) (xi0 (cons_of (by
   rw[o4 (x:=.int x3) (y:=.int 21) (by rw[o5 (ds:=[.int c,.int 3]) rfl];exact r2) rfl,hl];rfl) rfl) (by omega) (by omega)) (by rw[ym0];omega) (by
   have q:=yd0 (gt:=noT) (ge:=(o2 (gv 2) (o2 (oA (z9 (gv 1) (z9 (o2 (gc (.int 80)) (gv 0) j6) v6)) t7) (gc (.int 37)) j5) ixD)) (δ:=[.un,.sh (.int c),.sh (.str S37)]) (n:=(l:Int)) (λj=>.str ⟨#[f j]⟩) (λk hk=>⟨[.sh (.int (k:Int)),.sh (.int c),.sh (.str S37)],rfl,rfl,hf k (by omega) []⟩);refine q.trans ?_;rw[Int.toNat_natCast,hw];unfold ones;rw[List.map_map,List.map_map];rfl)) rfl)]
  have e1:=strs_map id (ones w);have e1':tl0 ((ones w).map D.str)=some (ones w):=by simpa using e1
  simp only[pl0];rw[e1',Option.bind_some,r00,join_ones,if_pos (by
   have:("" : PySem.Str).length=0:=by decide +kernel
   rw[this];omega)]
 obtain⟨f,hf⟩:∃f:Nat->D,∀j:Nat,j<12->(Vb (f j)/\Lk m.toNat (f j))/\Z2 [.int c,.int (4+(j:Int)),.int m]=some (f j):=by
  have:∀j:Nat,∃v:D,j<12->(Vb v/\Lk m.toNat v)/\Z2 [.int c,.int (4+(j:Int)),.int m]=some v:=λj=>by
   by_cases hj:j<12
   ·obtain⟨v,h1,h2⟩:=te0 c (4+(j:Int)) m hc (by omega) hm
    exact⟨v,λ_=>⟨h2,h1⟩⟩
   ·exact⟨.non,λh=>absurd h hj⟩
  obtain⟨f,hf⟩:=r8 this;exact⟨f,hf⟩
 obtain⟨vs,hvs⟩:∃vs:List D,vs=(List.range n).map f:=⟨_,rfl⟩;have vl:vs.length=n:=by rw[hvs];simp
 have vv:∀v∈vs,Vb v/\Lk m.toNat v:=λv hv=>by
  rw[hvs] at hv;obtain⟨k,hk,rfl⟩:=A6.mp hv;exact(hf k (by have:=C3.mp hk;omega)).1
 have n0:∀G:GS,ifD (ob (o2 (gv 3) (gc (.int 0)) eqD)) G u5 [.sh (.int c),.sh (.lst (nm.map .str)),.sh (.int m),.sh (.int (x1%5)),.sh (.int (n:Int)),.un,.un,.un,.un]=some (.nx [.sh (.int c),.sh (.lst (nm.map .str)),.sh (.int m),.sh (.int (x1%5)),.sh (.int (n:Int)),.un,.un,.un,.un]):=λG=>by
  rw[Z0 (by show some (decide (x1%5=0))=_;rw[decide_eq_false k0])];rfl
 have s6:o9 1 [0,2] (O2 (z9 (gv 4) v6)) (gN 0) noT (oA (z9 (gv 1) (z9 (o2 (gc (.int 4)) (gv 0) j6) (z9 (gv 2) v6))) Z2) [.sh (.int c),.sh (.lst (nm.map .str)),.sh (.int m),.sh (.int (x1%5)),.sh (.int (n:Int)),.un,.un,.un,.un]=some (.lst vs):=by
  refine Z5 (items:=R7 0 (n:Int)) (xi0 (cons_of rfl rfl) (by omega) (by omega)) (by rw[ym0];omega) ?_;have q:=yd0 (gt:=noT) (ge:=oA (z9 (gv 1) (z9 (o2 (gc (.int 4)) (gv 0) j6) (z9 (gv 2) v6))) Z2) (δ:=[.un,.sh (.int c),.sh (.int m)]) (n:=(n:Int)) f (λk hk=>⟨[.sh (.int (k:Int)),.sh (.int c),.sh (.int m)],rfl,rfl,by
   rw[o5 (ds:=[.int c,.int (4+(k:Int)),.int m]) rfl];exact(hf k (by omega)).2⟩)
  rw[Int.toNat_natCast] at q;rw[hvs];exact q
 by_cases k1:x1%5=1
 ·refine⟨.row vs,Z1 rfl (v9 (j7 (d:=.int (x1%5)) (s3 _)) (v9 (j7 (d:=.int (n:Int)) (hn _)) (v9 (n0 _) (v9 (j7 (d:=.lst vs) s6) (n6 ?_))))),⟨by show vs.length<=20;omega,λv hv=>(vv v hv).1,λs hs=>(by cases hs),by show vs.length<=12;omega⟩,λv hv=>(vv v hv).2⟩
  rw[V0 (by show some (decide (x1%5=1))=_;rw[decide_eq_true k1])];exact n6 (Y4 (Z7 (cons_of rfl (cons_of rfl rfl)) (by show 2<=sizeLine;omega)))
 have n1:∀G:GS,ifD (ob (o2 (gv 3) (gc (.int 1)) eqD)) G u5 [.sh (.int c),.sh (.lst (nm.map .str)),.sh (.int m),.sh (.int (x1%5)),.sh (.int (n:Int)),.un,.sh (.lst vs),.un,.un]=some (.nx [.sh (.int c),.sh (.lst (nm.map .str)),.sh (.int m),.sh (.int (x1%5)),.sh (.int (n:Int)),.un,.sh (.lst vs),.un,.un]):=λG=>by
  rw[Z0 (by show some (decide (x1%5=1))=_;rw[decide_eq_false k1])];rfl
 obtain⟨st,hst⟩:∃st:Int,st=xt%12:=⟨_,rfl⟩;have st0:0<=st:=by omega
 obtain⟨nf,hnf⟩:∃nf:Nat->Str,nf=λ(k:Nat)=>nm.getD ((st+(k:Int))%12).toNat "" := ⟨_,rfl⟩
 have hnm:∀k,nf k∈nm:=λk=>by rw[hnf];exact(m80 nm hp ((st+(k:Int))%12) (by omega) (by omega)).2
 obtain⟨ps,hps⟩:∃ps:List (Str×D),ps=(List.range n).map λk=>(nf k,f k):=⟨_,rfl⟩
 have pl:ps.length=n:=by rw[hps];simp
 have pv:∀v∈ps.map (·.2),Vb v/\Lk m.toNat v:=λv hv=>by
  rw[hps,List.map_map] at hv;obtain⟨k,hk,rfl⟩:=A6.mp hv;exact(hf k (by have:=C3.mp hk;omega)).1
 have short:∀s∈nm,s.length<=20:=λs hs=>by have:=qu0 (hp.names s hs);omega
 have pn:∀s∈ps.map (·.1),s.length<=20:=λv hv=>by
  rw[hps,List.map_map] at hv;obtain⟨k,hk,rfl⟩:=A6.mp hv;exact short _ (hnm k)
 have s7:m5 (gN 7) (o2 (oA (z9 (gv 0) (z9 (gc (.int 30)) v6)) t7) (gc (.int 12)) j5) [.sh (.int c),.sh (.lst (nm.map .str)),.sh (.int m),.sh (.int (x1%5)),.sh (.int (n:Int)),.un,.sh (.lst vs),.un,.un]=some (.nx [.sh (.int c),.sh (.lst (nm.map .str)),.sh (.int m),.sh (.int (x1%5)),.sh (.int (n:Int)),.un,.sh (.lst vs),.sh (.int st),.un]):=by
  refine j7 (i:=7) (d:=.int st) ?_;rw[o4 (x:=.int xt) (y:=.int 12) (by rw[o5 (ds:=[.int c,.int 30]) rfl];exact t2) rfl,hst];rfl
 have s8:m5 (gN 8) (oA (z9 (o9 1 [1,6,7] (O2 (z9 (gv 4) v6)) (gN 0) noT (m7 (z9 (o2 (gv 1) (o2 (o2 (gv 3) (gv 0) j6) (gc (.int 12)) j5) ixD) (z9 (o2 (gv 2) (gv 0) ixD) v6)))) v6) Z8) [.sh (.int c),.sh (.lst (nm.map .str)),.sh (.int m),.sh (.int (x1%5)),.sh (.int (n:Int)),.un,.sh (.lst vs),.sh (.int st),.un]=some (.nx [.sh (.int c),.sh (.lst (nm.map .str)),.sh (.int m),.sh (.int (x1%5)),.sh (.int (n:Int)),.un,.sh (.lst vs),.sh (.int st),.sh (.tup (ps.map pr))]):=by
  refine j7 (i:=8) (d:=.tup (ps.map pr)) ?_;rw[o5 (ds:=[.lst (ps.map pr)]) (cons_of (Z5 (items:=R7 0 (n:Int)) (xi0 (cons_of rfl rfl) (by omega) (by omega)) (by rw[ym0];omega) (by
   rw[hps,List.map_map];have q:=yd0 (gt:=noT) (ge:=(m7 (z9 (o2 (gv 1) (o2 (o2 (gv 3) (gv 0) j6) (gc (.int 12)) j5) ixD) (z9 (o2 (gv 2) (gv 0) ixD) v6)))) (δ:=[.un,.sh (.lst (nm.map .str)),.sh (.lst vs),.sh (.int st)]) (n:=(n:Int)) (λj=>pr (nf j,f j)) (λk hk=>⟨[.sh (.int (k:Int)),.sh (.lst (nm.map .str)),.sh (.lst vs),.sh (.int st)],rfl,rfl,by
    have hk':k<n:=by omega
    refine Z7 (cons_of (d:=.str (nf k)) ?_ (cons_of (d:=f k) ?_ rfl)) (by show 2<=sizeLine;omega)
    ·rw[o4 (x:=.lst (nm.map .str)) (y:=.int ((st+(k:Int))%12)) rfl rfl,hnf]
     exact(m80 nm hp _ (by omega) (by omega)).1
    ·rw[o4 (x:=.lst vs) (y:=.int (k:Int)) rfl rfl]
     show atI vs (k:Int)=_;rw[yb0 (by omega) (by omega) .non,Int.toNat_natCast,hvs];simp[List.getD_eq_getElem?_getD,hk']⟩)
   rw[Int.toNat_natCast] at q;exact q)) rfl)]
  rfl
 by_cases k2:x1%5=2
 ·refine⟨.table ps,Z1 rfl (v9 (j7 (d:=.int (x1%5)) (s3 _)) (v9 (j7 (d:=.int (n:Int)) (hn _)) (v9 (n0 _) (v9 (j7 (d:=.lst vs) s6) (v9 (n1 _) (v9 s7 (v9 s8 (n6 ?_)))))))),⟨by show ps.length<=20;omega,λv hv=>(pv v hv).1,λs hs=>pn s (by simpa [Pt.all,Pt.pnames,Pt.cls] using hs),by show (ps.map (·.2)).length<=12;rw[List.length_map];omega⟩,λv hv=>(pv v hv).2⟩
  rw[V0 (by show some (decide (x1%5=2))=_;rw[decide_eq_true k2])];exact n6 (Y4 (Z7 (cons_of rfl (cons_of rfl rfl)) (by show 2<=sizeLine;omega)))
 ·obtain⟨a1,a2⟩:=m80 nm hp (xc%12) (by omega) (by omega)
  refine⟨.rcd (nm.getD (xc%12).toNat "") ps,Z1 rfl (v9 (j7 (d:=.int (x1%5)) (s3 _)) (v9 (j7 (d:=.int (n:Int)) (hn _)) (v9 (n0 _) (v9 (j7 (d:=.lst vs) s6) (v9 (n1 _) (v9 s7 (v9 s8 (v9 (δ':=[.sh (.int c),.sh (.lst (nm.map .str)),.sh (.int m),.sh (.int (x1%5)),.sh (.int (n:Int)),.un,.sh (.lst vs),.sh (.int st),.sh (.tup (ps.map pr))]) ?_ (n6 (Y4 ?_)))))))))),⟨by show ps.length<=20;omega,λv hv=>(pv v hv).1,λs hs=>?_,by show (ps.map (·.2)).length<=12;rw[List.length_map];omega⟩,λv hv=>(pv v hv).2⟩
  ·rw[Z0 (by show some (decide (x1%5=2))=_;rw[decide_eq_false k2])];rfl
  ·exact Z7 (cons_of rfl (cons_of (by
    rw[o4 (x:=.lst (nm.map .str)) (y:=.int (xc%12)) rfl (by
     rw[o4 (x:=.int xc) (y:=.int 12) (by rw[o5 (ds:=[.int c,.int 31]) rfl];exact c2) rfl];rfl)]
    exact a1) (cons_of rfl rfl))) (by show 3<=sizeLine;omega)
  ·rcases B8.mp hs with q|q
   ·exact pn s q
   ·have:=c9.mp q
    rw[this];exact short _ a2
theorem xy0(ns:List Int)(hb:∀z∈ns,z.natAbs.log2<=1048576)(a:Int)(ha:0<=a/\a<=100)(most:Int)(hm:0<most/\most<=60):∃ps:List Pt,T3 [.lst (ns.map .int),.int a,.int most]=some (web ps)/\Gw' ps/\0<ps.length/\∀p∈ps,∀v∈p.vals,Lk ps.length v:=by
 have z:(1000:Nat)<=sizeLine:=by decide
 obtain⟨c0,e0,_⟩:=wl0 ns hb a ha.1 (by omega);obtain⟨c1,e1,_⟩:=wl0 ns hb (a+1) (by omega) (by omega);obtain⟨x,x0,x1,x2⟩:=U6 c0 3 (by decide) (by decide);obtain⟨nm,hn,hp⟩:=rl0 c1;have j0:0<=x%most:=L3 _ (by omega);have j1:x%most<most:=L4 _ hm.1;obtain⟨n,hnn⟩:∃n:Nat,(n:Int)=1+x%most:=⟨(1+x%most).toNat,by omega⟩;have n60:n<=60:=by omega
 have n1:0<n:=by omega
 obtain⟨f,hf⟩:∃f:Nat->Pt,∀k:Nat,k<60->(Gq (f k)/\∀v∈(f k).vals,Lk n v)/\∀δ:Ds,oA (z9 (oA (z9 (gv 1) (z9 (o2 (o2 (gv 2) (gc (.int 2)) j6) (gv 0) j6) v6)) d9) (z9 (gv 4) (z9 (gv 3) v6))) X3 (.sh (.int (k:Int))::.sh (.lst (ns.map .int))::.sh (.int a)::.sh (.int (n:Int))::.sh (.lst (nm.map .str))::δ)=some (f k).d:=by
  have:∀k:Nat,∃p:Pt,k<60->(Gq p/\∀v∈p.vals,Lk n v)/\∀δ:Ds,oA (z9 (oA (z9 (gv 1) (z9 (o2 (o2 (gv 2) (gc (.int 2)) j6) (gv 0) j6) v6)) d9) (z9 (gv 4) (z9 (gv 3) v6))) X3 (.sh (.int (k:Int))::.sh (.lst (ns.map .int))::.sh (.int a)::.sh (.int (n:Int))::.sh (.lst (nm.map .str))::δ)=some p.d:=λk=>by
   by_cases hk:k<60
   ·obtain⟨c,e,hc⟩:=wl0 ns hb (a+2+(k:Int)) (by omega) (by omega)
    obtain⟨p,h1,h2⟩:=Y00 c (n:Int) nm hp hc (by omega);refine⟨p,λ_=>⟨h2,fun δ=>?_⟩⟩;rw[o5 (ds:=[.int c,.lst (nm.map .str),.int (n:Int)]) (cons_of (by
     rw[o5 (ds:=[.lst (ns.map .int),.int (a+2+(k:Int))]) rfl];exact e) (cons_of rfl (cons_of rfl rfl)))]
    exact h1
   ·exact⟨.row [],λh=>absurd h hk⟩
  obtain⟨f,hf⟩:=r8 this;exact⟨f,hf⟩
 refine⟨(List.range n).map f,Z1 rfl (v9 (j7 (d:=.int (n:Int)) ?_) (v9 (j7 (d:=.lst (nm.map .str)) ?_) (n6 (Y4 ?_)))),⟨by simp;omega,λp hp=>?_⟩,by simp;omega,λp hp=>?_⟩
 ·rw[o4 (x:=.int 1) (y:=.int (x%most)) rfl (by
   rw[o4 (x:=.int x) (y:=.int most) (by
    rw[o5 (ds:=[.int c0,.int 3]) (cons_of (by rw[o5 (ds:=[.lst (ns.map .int),.int a]) rfl];exact e0) rfl)];exact x2) rfl]
   exact Gw.wg0 _ _ hm.1),hnn]
  rfl
 ·rw[o5 (ds:=[.int c1,.int 12]) (cons_of (by rw[o5 (ds:=[.lst (ns.map .int),.int (a+1)]) rfl];exact e1) rfl)]
  exact hn
 ·rw[o5 (ds:=[.lst (((List.range n).map f).map Pt.d)]) (cons_of (Z5 (items:=R7 0 (n:Int)) (xi0 (cons_of rfl rfl) (by omega) (by omega)) (by rw[ym0];omega) (by
   have q:=yd0 (gt:=noT) (ge:=oA (z9 (oA (z9 (gv 1) (z9 (o2 (o2 (gv 2) (gc (.int 2)) j6) (gv 0) j6) v6)) d9) (z9 (gv 4) (z9 (gv 3) v6))) X3) (δ:=[.un,.sh (.lst (ns.map .int)),.sh (.int a),.sh (.int (n:Int)),.sh (.lst (nm.map .str))]) (n:=(n:Int)) (λk=>(f k).d) (λk hk=>⟨_,rfl,rfl,(hf k (by omega)).2 []⟩);rw[Int.toNat_natCast] at q;rw[List.map_map];exact q)) rfl)]
  rfl
 ·obtain⟨k,hk,rfl⟩:=A6.mp hp
  exact(hf k (by have:=C3.mp hk;omega)).1.1
 ·obtain⟨k,hk,rfl⟩:=A6.mp hp
  rw[List.length_map,List.length_range];exact(hf k (by have:=C3.mp hk;omega)).1.2
end Bw
namespace Km
open DL W K22
def z10:GS:=Bw.z10
def zo0:List Str:=Bw.zo0
def d9:List D->Option D:=Bw.d9
def yg0:GS:=Bw.yg0
def xl0:List Str:=Bw.xl0
def t7:List D->Option D:=Bw.t7
def y60:GS:=Bw.y60
def yt0:List Str:=Bw.yt0
def Q7:List D->Option D:=Bw.Q7
def K1:GS:=Bw.K1
def z70:List Str:=Bw.z70
def Z2:List D->Option D:=Bw.Z2
def N7:GS:=Bw.N7
def G3:List Str:=Bw.G3
def X3:List D->Option D:=Bw.X3
def zp0:GS:=Bw.zp0
def yc0:List Str:=Bw.yc0
def T3:List D->Option D:=Bw.T3
def xm0:GS:=(v7 (ifD (ob (o2 (o2 (gv 0) (gc (.int 0)) ixD) (gc (.str "text")) eqD))
 (v7 (U8 (W7 v6))
 u5)
 u5)
 (v7 (m5 (gN 1) (o2 (gv 0) (unG J1 (gc (.int 1))) ixD))
 (v7 (ifD (ob (o2 (o2 (gv 0) (gc (.int 0)) ixD) (gc (.str "row")) neD))
 (v7 (m5 (gN 1) (o9 1 [] (tupI (o2 (gv 0) (unG J1 (gc (.int 1))) ixD)) (gN 0) noT (o2 (gv 0) (gc (.int 1)) ixD)))
 u5)
 u5)
 (v7 (U8 (o9 1 [] (anyI (gv 1)) (gN 0) (ob (X6 isTup (gv 0))) (o2 (gv 0) (gc (.int 1)) ixD)))
 u5))))
def vv0:List Str:=["_law_part", "_law_some"]
def S6:List D->Option D:=mkN 1 vv0 xm0
structure GoodL(W:D)(n:Nat):Prop where
 few:n<=60
 ex:∃Wb,W=.tup Wb/\Wb.length=n/\∀i,i<n->∃js:List Nat,S6 [Wb.getD i .non]=some (.lst (nd js))/\js.length<=20/\∀j∈js,j<n
def yr0(W:D)(i:Nat):List Nat:=match W with
 | .tup Wb=>(match S6 [Wb.getD i .non] with
  | some (.lst vs)=>nn vs
  | _=>[])
 | _=>[]
def Yv0(W:D)(k:Int)(od:List D):Prop:=∃(n:Nat) (o:List Nat),GoodL W n/\0<=k/\k<n/\od=nd o/\o.Nodup/\∀x∈o,x<n
open Classical in
def j8(q:Nat):List D->Option (List D)
 | [W,.int k,.lst od]=>if Yv0 W k od then (vis (yr0 W) [] q k.toNat (nn od)).map nd else none
 | _=>none
def S7:List D->Option (List D):=j8 62
def K9(S7:List D->Option (List D)):GS:=(v7 (ifD (z50 (ob (o2 (gv 1) (gv 2) (J9 true))))
 (v7 (V1 (mo0 2 (gv 1)))
 (v7 (J0 (V4 (oA (z9 (o2 (gv 0) (gv 1) ixD) v6) S6)) (gN 3)
 (v7 (v10 2 (z9 (gv 0) (z9 (gv 3) v6)) S7)
 u5))
 u5))
 u5)
 u5)
def zj0:List Str:=["_law_web", "_law_at", "_law_found", "_law_other"]
section
def v50:GS:=(v7 (ifD (ob (X6 isTup (gv 0)))
 (v7 (o7 (m7 (z9 (gc (.str "at")) (z9 (o2 (gv 1) (o2 (gv 0) (gc (.int 1)) ixD) wd0) v6))))
 u5)
 u5)
 (v7 (o7 (gv 0))
 u5))
def tn0:List Str:=["_law_value", "_law_numbers"]
def W5:List D->Option D:=mkF 2 tn0 v50
def xq0:GS:=(v7 (R5 2 (W7 v6))
 (v7 (v10 2 (z9 (gv 0) (z9 (gv 1) v6)) S7)
 (v7 (wt0 2 (R5 3 (gc (.dct (.inl []) []))))
 (v7 (J0 (V4 (gv 2)) (gN 4)
 (v7 (W8 (Y9 (R0 (oA (z9 (gv 3) v6) we0))) (putAt 3 (gv 4)))
 u5))
 (v7 (wt0 3 (R5 5 (W7 v6)))
 (v7 (J0 (V4 (gv 2)) (gN 4)
 (v7 (m5 (gN 6) (o2 (gv 0) (gv 4) ixD))
 (v7 (ifD (ob (o2 (o2 (gv 6) (gc (.int 0)) ixD) (gc (.str "row")) eqD))
 (v7 (m5 (gN 6) (m7 (z9 (gc (.str "row")) (z9 (oA (z9 (o9 1 [3] (tupI (o2 (gv 6) (gc (.int 1)) ixD)) (gN 0) noT (oA (z9 (gv 0) (z9 (gv 1) v6)) W5)) v6) Z8) v6))))
 u5)
 (v7 (ifD (ob (o2 (o2 (gv 6) (gc (.int 0)) ixD) (gc (.str "text")) neD))
 (v7 (m5 (gN 7) (o9 2 [3] (tupI (o2 (gv 6) (unG J1 (gc (.int 1))) ixD)) (G6 0 1) noT (m7 (z9 (gv 0) (z9 (oA (z9 (gv 1) (z9 (gv 2) v6)) W5) v6)))))
 (v7 (m5 (gN 6) (o2 (J7 (gv 6) O6 (someO (unG J1 (gc (.int 1))))) (m7 (z9 (oA (z9 (gv 7) v6) Z8) v6)) j6))
 u5))
 u5)
 u5))
 (v7 (V1 (zm0 5 (gv 6)))
 u5))))
 (v7 (o7 (s00 (oA (z9 (gv 5) v6) Z8)))
 u5)))))))
def vk0:List Str:=["_law_web", "_law_at", "_law_found", "_law_numbers", "_law_k", "_law_parts", "_law_part", "_law_pairs"]
def J2:List D->Option D:=mkF 2 vk0 xq0
def yl0:GS:=(v7 (ifD (ob (o2 (o2 (gv 0) (gc (.int 0)) ixD) (gc (.str "text")) eqD))
 (v7 (U8 (W7 v6))
 u5)
 u5)
 (v7 (ifD (ob (o2 (o2 (gv 0) (gc (.int 0)) ixD) (gc (.str "row")) eqD))
 (v7 (U8 (oA (z9 (o2 (gv 0) (gc (.int 1)) ixD) v6) wn0))
 u5)
 u5)
 (v7 (U8 (o9 1 [] (tupI (o2 (gv 0) (unG J1 (gc (.int 1))) ixD)) (gN 0) noT (o2 (gv 0) (gc (.int 1)) ixD)))
 u5)))
def w70:List Str:=["_law_part"]
def j9:List D->Option D:=mkN 1 w70 yl0
def w90:GS:=(v7 (ifD (ob (o2 (o2 (gv 0) (gc (.int 0)) ixD) (gc (.str "row")) eqD))
 (v7 (o7 (m7 (z9 (gc (.str "row")) (z9 (oA (z9 (gv 1) v6) Z8) v6))))
 u5)
 u5)
 (v7 (ifD (ob (o2 (o2 (gv 0) (gc (.int 0)) ixD) (gc (.str "text")) eqD))
 (v7 (o7 (gv 0))
 u5)
 u5)
 (v7 (m5 (gN 2) (o9 2 [] (rp0 (z9 (o2 (gv 0) (unG J1 (gc (.int 1))) ixD) (z9 (gv 1) v6))) (G6 0 1) noT (m7 (z9 (o2 (gv 0) (gc (.int 0)) ixD) (z9 (gv 1) v6)))))
 (v7 (o7 (o2 (J7 (gv 0) O6 (someO (unG J1 (gc (.int 1))))) (m7 (z9 (oA (z9 (gv 2) v6) Z8) v6)) j6))
 u5))))
def uf0:List Str:=["_law_part", "_law_some", "_law_pairs"]
def U3:List D->Option D:=mkF 2 uf0 w90
def zn0:GS:=(v7 (R5 2 (W7 (z9 (gc (.int 0)) v6)))
 (v7 (J0 (rc0 (z9 (gc (.int 1)) (z9 (oA (z9 (gv 0) v6) Y8) v6))) (gN 3)
 (v7 (V1 (qk0 2 (o2 (gc (.int 1)) (o2 (oA (z9 (gv 1) (z9 (o2 (gc (.int 100)) (gv 3) j6) v6)) t7) (R0 (oA (z9 (gv 2) v6) Y8)) j5) j6) (gv 3)))
 u5))
 (v7 (wt0 2 (R5 4 (gc (.dct (.inl []) []))))
 (v7 (J0 (V4 (gv 2)) (gN 3)
 (v7 (W8 (Y9 (R0 (oA (z9 (gv 4) v6) we0))) (putAt 4 (gv 3)))
 u5))
 (v7 (wt0 4 (R5 5 (W7 v6)))
 (v7 (J0 (V4 (gv 2)) (gN 3)
 (v7 (V1 (zm0 5 (oA (z9 (o2 (gv 0) (gv 3) ixD) (z9 (o9 1 [4] (V4 (oA (z9 (o2 (gv 0) (gv 3) ixD) v6) j9)) (gN 0) noT (oA (z9 (gv 0) (z9 (gv 1) v6)) W5)) v6)) U3)))
 u5))
 (v7 (o7 (s00 (oA (z9 (gv 5) v6) Z8)))
 u5)))))))
def yq0:List Str:=["_law_web", "_law_cell", "_law_order", "_law_k", "_law_numbers", "_law_parts"]
def R6:List D->Option D:=mkF 2 yq0 zn0
end
theorem gp0{W:D}(hW:GoodL W n)(o:List Nat)(q j:Nat)(hj:j<n)(ho:o.Nodup)(hon:∀x∈o,x<n):j8 q [W,.int (j:Int),.lst (nd o)]=(vis (yr0 W) [] q j o).map nd:=by
 unfold j8;simp only[];rw[if_pos ⟨n,o,hW,by omega,by omega,rfl,ho,hon⟩,m60,Int.toNat_natCast]
theorem pp0{W:D}(hW:GoodL W n)(hi:i<n):(∃d,ixD W (.int (i:Int))=some d/\S6 [d]=some (.lst (nd (yr0 W i))))/\(yr0 W i).length<=20/\∀j∈yr0 W i,j<n:=by
 obtain⟨Wb,rfl,hl,h⟩:=hW.ex;obtain⟨js,e,h1,h2⟩:=h i hi;have ea:yr0 (.tup Wb) i=js:=by
  unfold yr0;simp only[];rw[e];exact m60 js
 rw[ea];refine⟨⟨Wb.getD i .non,?_,e⟩,h1,h2⟩;show atI Wb (i:Int)=_;rw[yb0 (by omega) (by omega) .non,Int.toNat_natCast]
theorem p50{W:D}(hW:GoodL W n):∀i,i<n->∀j∈yr0 W i,j<n:=λi hi=>(pp0 hW hi).2.2
def CB(f:List D->Option (List D)):GS:=(v7 (v10 2 (z9 (gv 0) (z9 (gv 3) v6)) f)
 u5)
theorem lh0{W:D}(hW:GoodL W n)(K:Sl)(p q:Nat):∀(js:List Nat) (o r:List Nat) (s3:Sl),(∀j∈js,j<n)->js.foldlM (λo j=>vis (yr0 W) [] q j o) o=some r->o.Nodup->(∀x∈o,x<n) ->
  ∃s3',U5 (gN 3) (CB (j8 q)) (nd js) [.sh W,K,.ow (lent p (nd o)),s3]=some (.nx [.sh W,K,.ow (lent p (nd r)),s3'])
 | [],o,r,s3,_,e,_,_=>by cases e;exact⟨s3,rfl⟩
 | j::js,o,r,s3,hv,e,ho,hon=>by
  rw[List.foldlM_cons] at e;cases e1:vis (yr0 W) [] q j o with
  | none=>rw[e1] at e;cases e
  | some o1 =>
   rw[e1] at e;have hj:=hv j A5;obtain⟨a,b⟩:=la0 (p50 hW) q j o o1 e1 hj ho hon;obtain⟨s',h⟩:=lh0 hW K p q js o1 r (.sh (.int (j:Int))) (λi hi=>hv i (A4 _ hi)) e a b;refine⟨s',?_⟩;have h1:CB (j8 q) [.sh W,K,.ow (lent p (nd o)),.sh (.int (j:Int))]=some (.nx [.sh W,K,.ow (lent p (nd o1)),.sh (.int (j:Int))]):=by
    refine v9 (δ':=[.sh W,K,.ow (lent p (nd o1)),.sh (.int (j:Int))]) ?_ rfl;unfold v10;show Option.map _ (j8 q [W,.int (j:Int),.lst (nd o)])=_;rw[gp0 hW o q j hj ho hon,e1];rfl
   show U5 (gN 3) (CB (j8 q)) (.int (j:Int)::nd js) _=_;unfold U5;show (match CB (j8 q) [.sh W,K,.ow (lent p (nd o)),.sh (.int (j:Int))] with|some (.nx δ')=>U5 (gN 3) (CB (j8 q)) (nd js) δ'|some (.ct δ')=>U5 (gN 3) (CB (j8 q)) (nd js) δ'|some (.bk δ')=>some (.nx δ')|r=>r)=_;rw[h1];exact h
theorem wu0(q:Nat):∀ds l l',j8 (q+1) (ds++[.lst l])=some l'->(ds++[D.lst l]).length=3/\∀p,(false=true/\K9 (j8 q) (z30 zj0 ds p l)=some (.rf (lent p l')))∨(false=false/\∃δ',K9 (j8 q) (z30 zj0 ds p l)=some (.nx δ')/\δ'[ds.length]?=some (.ow (lent p l'))):=by
 intro ds l l' h;have zs:(1000:Nat)<=sizeLine:=by decide
 obtain⟨W,k,od,he⟩:∃W k od,ds++[D.lst l]=[W,.int k,.lst od]:=by
  unfold j8 at h;split at h
  ·rename_i W k od e;exact⟨W,k,od,e⟩
  ·cases h
 have he2:ds=[W,.int k]/\l=od:=by
  have:ds++[D.lst l]=[W,.int k]++[.lst od]:=he;have:=List.append_inj' this rfl;refine⟨this.1,?_⟩;injection this.2 with z
  injection z
 obtain⟨rfl,rfl⟩:=he2;refine⟨rfl,λp=>.inr ⟨rfl,?_⟩⟩;have h:j8 (q+1) [W,.int k,.lst l]=some l':=h;have ha:Yv0 W k l:=Classical.byContradiction λha=>by
  unfold j8 at h;simp only[] at h;rw[if_neg ha] at h;cases h
 obtain⟨n,o,hW,k0,k1,rfl,ho,hon⟩:=ha;obtain⟨k,rfl⟩:∃k':Nat,k=(k':Int):=⟨k.toNat,by omega⟩;have hk:k<n:=by omega
 rw[gp0 hW o (q+1) k hk ho hon] at h;cases e1:vis (yr0 W) [] (q+1) k o with
 | none=>rw[e1] at h;cases h
 | some r =>
  rw[e1] at h;cases h;have hlo:o.length<=60:=by
   have:=sub_len ho (m:=List.range n) λy hy=>C3.mpr (hon y hy)
   rw[List.length_range] at this;have:=hW.few;omega
  have ht:z50 (ob (o2 (gv 1) (gv 2) (J9 true))) [.sh W,.sh (.int (k:Int)),.ow (lent p (nd o)),.un]=some (decide (k∉o)):=by
   show ob (o2 (gv 1) (gv 2) (J9 true)) [.sh W,.sh (.int (k:Int)),.sh (.lst (nd o)),.un]=_;unfold ob;rw[o4 (x:=.int (k:Int)) (y:=.lst (nd o)) rfl rfl,ge0];rfl
  rw[vis] at e1
  by_cases hc:k∈o
  ·rw[if_pos (.inl hc)] at e1
   cases e1;refine⟨[.sh W,.sh (.int (k:Int)),.ow (lent p (nd o)),.un],v9 (δ':=[.sh W,.sh (.int (k:Int)),.ow (lent p (nd o)),.un]) ?_ rfl,rfl⟩;rw[decide_eq_false (by simpa using hc)] at ht;show ifD _ _ _ [.sh W,.sh (.int (k:Int)),.ow (lent p (nd o)),.un]=_;rw[Z0 ht];rfl
  ·rw[if_neg (λz=>z.elim hc (λz=>by cases z))] at e1
   have hnd:(o++[k]).Nodup:=S2.mpr ⟨ho,by simp,λa ha b hb e=>by
    rw[List.mem_singleton.mp hb] at e;exact hc (e▸ha)⟩
   have hin:∀x∈o++[k],x<n:=λx hx=>by
    rcases B8.mp hx with z|z
    ·exact hon x z
    ·rw[List.mem_singleton.mp z];exact hk
   obtain⟨⟨d,hd1,hd2⟩,hvl,hvs⟩:=pp0 hW hk;obtain⟨s3,hf⟩:=lh0 hW (.sh (.int (k:Int))) p q (yr0 W k) (o++[k]) r .un hvs e1 hnd hin;refine⟨[.sh W,.sh (.int (k:Int)),.ow (lent p (nd r)),s3],v9 (δ':=[.sh W,.sh (.int (k:Int)),.ow (lent p (nd r)),s3]) ?_ rfl,rfl⟩;rw[decide_eq_true hc] at ht;show ifD _ _ _ [.sh W,.sh (.int (k:Int)),.ow (lent p (nd o)),.un]=_;rw[V0 ht];refine v9 (δ':=[.sh W,.sh (.int (k:Int)),.ow (lent p (nd (o++[k]))),.un]) ?_ (v9 (zg0 (items:=nd (yr0 W k)) ?_ hf) rfl)
   ·unfold V1 mo0
    show Option.map _ (if (nd o).length<sizeLine then some (D.non,([.sh W,.sh (.int (k:Int)),.ow (.tup [.int (p:Int),.lst (nd o++[.int (k:Int)])]),.un]:Ds)) else none)=_;rw[if_pos (by rw[z80];omega)];rw[uq0];rfl
   ·show Option.bind (oA (z9 (o2 (gv 0) (gv 1) ixD) v6) S6 _) v40=_
    rw[o5 (ds:=[d]) (cons_of (by rw[o4 (x:=W) (y:=.int (k:Int)) rfl rfl];exact hd1) rfl),hd2];rfl
theorem xw0(ds:List D):j8 0 ds=none:=by
 unfold j8;split
 ·split<;>rfl
 ·rfl
end Km
namespace Km
open DL W K22
open Bw (sg cnt kn its tx Vb Gq)
def pd(ks:List V8):D:=.dct (.inl ks) (nd (List.range ks.length))
def ix{α:Type}[DecidableEq α]:List α->α->Nat
 | [],_=>0
 | b::l,a=>if b=a then 0 else ix l a+1
theorem g50[DecidableEq α]:∀{l:List α} {a:α},a∈l->ix l a<l.length
 | [],_,h=>by cases h
 | b::l,a,h=>by
  unfold ix;rw[List.length_cons]
  by_cases e:b=a
  ·rw[if_pos e];omega
  ·have:=g50 (l:=l) (a:=a) ((A9.mp h).resolve_left λz=>e z.symm)
   rw[if_neg e];omega
theorem kf0:∀(ks:List V8) (s:Nat) (k:V8),k∈ks->yz0 ks (nd (List.range' s ks.length)) k=some (.int ((s+ix ks k:Nat):Int))
 | [],s,k,h=>by cases h
 | a::ks,s,k,h=>by
  rw[List.length_cons,List.range'_succ];show (if a=k then some (D.int (s:Int)) else yz0 ks (nd (List.range' (s+1) ks.length)) k)=_;unfold ix
  by_cases e:a=k
  ·rw[if_pos e,if_pos e]
   rfl
  ·have hk:k∈ks:=(A9.mp h).resolve_left λz=>e z.symm
   rw[if_neg e,if_neg e,kf0 ks (s+1) k hk,show s+1+ix ks k=s+(ix ks k+1) by omega]
theorem Xd0{k:V8}(h:k∈ks):yz0 ks (nd (List.range ks.length)) k=some (.int (ix ks k:Int)):=by
 rw[List.range_eq_range',kf0 ks 0 k h,Nat.zero_add]
theorem Zn0(ks:List V8)(k:V8):O3 ks k=true↔k∈ks:=by
 unfold O3;rw[List.any_eq_true];constructor
 ·rintro⟨x,hx,e⟩
  rw[← of_decide_eq_true e];exact hx
 ·intro h
  exact⟨k,h,L1 rfl⟩
theorem Vf0{k:V8}(h:k∉ks):O3 ks k=false:=by
 cases e:O3 ks k with
 | false=>rfl
 | true=>exact absurd ((Zn0 ks k).mp e) h
theorem d60{k:V8}(h:k∉ks):(.dct (.inl (N5 ks k)) (K5 ks (nd (List.range ks.length)) k (.int (ks.length:Int))):D)=pd (ks++[k]):=by
 unfold N5 K5 pd;rw[Vf0 h,if_neg (by simp),if_neg (by simp),List.length_append,List.length_singleton,List.range_succ,uq0];rfl
theorem idx_map[DecidableEq α][DecidableEq β](f:α->β)(a:α):∀l:List α,(∀b∈l,f b=f a->b=a)->ix (l.map f) (f a)=ix l a
 | [],_=>rfl
 | b::l,h=>by
  rw[List.map_cons];unfold ix
  by_cases e:b=a
  ·rw[if_pos e,if_pos (by rw[e])]
  ·rw[if_neg e,if_neg (λz=>e (h b A5 z)),idx_map f a l λc hc=>h c (A4 _ hc)]
def kb(B:List Nat):List V8:=B.map λ(k:Nat)=>(Sum.inl (k:Int):V8)
theorem kb_mem(B:List Nat)(j:Nat):(Sum.inl (j:Int):V8)∈kb B↔j∈B:=by
 unfold kb;rw[List.mem_map];constructor
 ·rintro⟨k,hk,e⟩
  have:(k:Int)=(j:Int):=by injection e
  have:k=j:=by omega
  rw[← this];exact hk
 ·exact λh=>⟨j,h,rfl⟩
theorem Wi0(B:List Nat)(j:Nat):ix (kb B) (Sum.inl (j:Int):V8)=ix B j:=idx_map (λ(k:Nat)=>(Sum.inl (k:Int):V8)) j B λb _ e=>by
 have:(b:Int)=(j:Int):=by injection e
 omega
theorem el0(B:List Nat):(kb B).length=B.length:=by unfold kb;rw[List.length_map]
structure Wb(ps:List Pt):Prop where
 len:0<ps.length/\ps.length<=60
 it:∀p∈ps,Gq p
 lk:∀p∈ps,∀v∈p.vals,Bw.Lk ps.length v
theorem dc0{B:List Nat}(h:j∈B):wd0 (pd (kb B)) (.int (j:Int))=some (.int (ix B j:Int)):=by
 show yz0 (kb B) (nd (List.range (kb B).length)) (.inl (j:Int))=_;rw[Xd0 ((kb_mem B j).mpr h),Wi0]
end Km
namespace Ta
open DL W K22
theorem t20{v:D}(vs:List D)(h:v=.non∨∃z,v=.int z):tgs (v::vs)=tgs vs:=by
 unfold tgs;rw[List.filterMap_cons];rcases h with rfl|⟨z,rfl⟩<;>rfl
end Ta
namespace Ta
open DL W K22 SoT
def zz(p:Nat×Nat):Int×Int:=((p.1:Int),(p.2:Int))
def nn2(q:Int×Int):Nat×Nat:=(q.1.toNat,q.2.toNat)
theorem de0{p q:Nat×Nat}(h:zz p=zz q):p=q:=by
 obtain⟨a,b⟩:=p;obtain⟨c,d⟩:=q;have h1:(a:Int)=(c:Int):=C9 Prod.fst h;have h2:(b:Int)=(d:Int):=C9 Prod.snd h;exact M0 (by show a=c;omega) (by show b=d;omega)
theorem lr0{f:α->β}(hf:∀a b,f a=f b->a=b):∀{l:List α},l.Nodup->(l.map f).Nodup
 | [],_=>P6
 | a::l,h=>by
  rw[List.nodup_cons] at h;rw[List.map_cons,List.nodup_cons];refine⟨λz=>?_,lr0 hf h.2⟩;obtain⟨b,hb,e⟩:=A6.mp z;exact h.1 (hf _ _ e▸hb)
end Ta
namespace Ua
open DL
def Q8:GS:=Pn.Q8
def O9:List Str:=Pn.O9
def Y5:List D->Option D:=Pn.Y5
def zk0:GS:=Pn.zk0
def zv0:List Str:=Pn.zv0
def m_values:List D->Option D:=Pn.m_values
def vb0:GS:=K22.vb0
def t80:List Str:=K22.t80
def zc0:List D->Option D:=K22.zc0
def xg0:GS:=K22.xg0
def wk0:List Str:=K22.wk0
def ze0:List D->Option D:=K22.ze0
def mb0:GS:=(v7 (U8 (oA (z9 (gv 0) (z9 (gv 1) (z9 (gc (.dct (.inl []) [])) v6))) ze0))
 u5)
def gf0:List Str:=["web", "k"]
def v20:List D->Option D:=mkN 2 gf0 mb0
def M5:GS:=Pn.M5
def J8:List Str:=Pn.J8
def V9:List D->Option D:=Pn.V9
def yi0:GS:=K22.yi0
def xr0:List Str:=K22.xr0
def G7:List D->Option D:=K22.G7
def rq0:GS:=(v7 (m5 (gN 2) (om0 (oA (z9 (gv 0) (z9 (gv 1) v6)) v20)))
 (v7 (R5 3 (gc (.dct (.inl []) [])))
 (v7 (J0 (ra0 (z9 (gv 2) v6)) (G6 4 5)
 (v7 (W8 (Y9 (gv 4)) (putAt 3 (gv 5)))
 u5))
 (v7 (o7 (s00 (oA (z9 (o9 1 [0,3] (V4 (gv 2)) (gN 0) noT (oA (z9 (o2 (gv 1) (gv 0) ixD) (z9 (gv 2) v6)) G7)) v6) Z8)))
 u5))))
def o90:List Str:=["web", "k", "order", "numbers", "number", "part"]
def yf0:List D->Option D:=mkF 2 o90 rq0
end Ua
namespace Ua
open DL W K22
open Ta (pa R9)
def dr(ps:List Pt)(r:List Nat):List Pt:=r.map λk=>rel (λj=>r.idxOf j) (pa ps k)
structure Met(ps:List Pt)(r:List Nat):Prop where
 ex:∃c,Dfs (ys0 (wd ps)) [] c [] [0] r/\c<=5000
 nd:r.Nodup
 lt:∀y∈r,y<ps.length
 cl:∀i∈r,∀j∈ys0 (wd ps) i,j∈r
 hd:∃s,r=0::s
theorem km0{ps:List Pt}(h:Web ps):∃r,Met ps r:=by
 obtain⟨c,r,h1,h2,h3,h4,h5,_,h7⟩:=walk h [] h.len.1;exact⟨r,⟨c,h1,h2⟩,h3,λy hy=>(h4 y hy).1,λi hi j hj=>(h5 i hi j hj).resolve_right (by simp),h7 (by simp)⟩
theorem Met.zero{ps:List Pt}(m:Met ps r):0∈r:=by obtain⟨s,rfl⟩:=m.hd;exact A5
theorem u70{ps:List Pt}(h:Web ps)(hi:i<ps.length):ys0 (wd ps) i=tgs (pa ps i).vals:=by
 rw[h.adj hi];unfold pa;simp[hi]
theorem au0{adj:Nat->List Nat}{c:Nat}{o:List Nat}(h:Dfs adj S c o T r):∃s,r=o++s:=by
 induction h with
 | nil o=>exact⟨[],(S3 o).symm⟩
 | skip _ _ ih=>exact ih
 | @visit c o T r x _ _ _ _ ih =>
  obtain⟨s,e⟩:=ih;exact⟨x::s,by rw[e,List.append_assoc];rfl⟩
theorem ii0{adj adj':Nat->List Nat}(f:Nat->Nat){c:Nat}{o:List Nat}(h:Dfs adj [] c o T r):(∀a∈r,∀b∈r,f a=f b->a=b)->(∀i∈r,adj' (f i)=(adj i).map f)->Dfs adj' [] c (o.map f) (T.map f) (r.map f):=by
 induction h with
 | nil o=>intro _ _;exact .nil _
 | @skip c o T r x hx hd ih =>
  intro hi ha;exact .skip (.inl (l6 (hx.resolve_right (by simp)))) (ih hi ha)
 | @visit c o T r x hx hS hz hd ih =>
  intro hi ha;obtain⟨s,e⟩:=au0 hd;have hxr:x∈r:=by rw[e];simp
  have hor:∀y∈o,y∈r:=λy hy=>by rw[e];simp[hy]
  have k:=ih hi ha;refine .visit (λz=>?_) (by simp) ?_ ?_
  ·obtain⟨y,hy,e2⟩:=A6.mp z
   exact hx (hi y (hor y hy) x hxr e2▸hy)
  ·rw[ha x hxr]
   simp only[List.length_append,List.length_map] at hz ⊢;exact hz
  ·rw[ha x hxr]
   rw[List.map_append,List.map_append] at k;exact k
theorem jy0(f:Nat->Nat):∀{vs:List D},(∀v∈vs,Lv n v)->tgs (vs.map (lkv f))=(tgs vs).map f
 | [],_=>rfl
 | v::vs,h=>by
  have ih:=jy0 f (vs:=vs) λu hu=>h u (A4 _ hu)
  rw[List.map_cons];rcases h v A5 with rfl|⟨z,rfl⟩|⟨j,rfl,hj⟩
  ·rw[Ta.t20 _ (.inl rfl),show lkv f D.non=.non from rfl,Ta.t20 _ (.inl rfl),ih]
  ·rw[Ta.t20 _ (.inr ⟨z,rfl⟩),show lkv f (D.int z)=.int z from rfl,Ta.t20 _ (.inr ⟨z,rfl⟩),ih]
  ·rw[show lkv f (.tup [.str "at",.int (j:Int)])=.tup [.str "at",.int (f j:Int)] from by unfold lkv;simp only[Int.toNat_natCast],p30,p30,ih]
   rfl
theorem c80(f:Nat->Nat)(p:Pt):(rel f p).vals=p.vals.map (lkv f):=vp0 p _ (by rw[List.length_map])
theorem u50:∀(a:List Str) (b:List D),a.length=b.length->(a.zip b).map (·.1)=a
 | [],_,_=>by simp
 | _::_,[],h=>by simp at h
 | a::as,b::bs,h=>by simp at h;simp[u50 as bs h]
theorem av0(p:Pt)(vs us:List D)(h:vs.length=p.vals.length):Pn.put (Pn.put p vs) us=Pn.put p us:=by
 cases p with
 | text w=>rfl
 | row us=>rfl
 | table ps =>
  show Pt.table _=Pt.table _;rw[u50 _ _ (by rw[List.length_map];have:vs.length=(ps.map (·.2)).length:=h;rw[this,List.length_map])]
 | rcd c ps =>
  show Pt.rcd _ _=Pt.rcd _ _;rw[u50 _ _ (by rw[List.length_map];have:vs.length=(ps.map (·.2)).length:=h;rw[this,List.length_map])]
theorem s40(f:Nat->Nat)(j:Nat):lkv f (.tup [.str "at",.int (j:Int)])=.tup [.str "at",.int (f j:Int)]:=by unfold lkv;simp only[Int.toNat_natCast]
theorem af0{p:Pt}(h:Pw n p)(f g:Nat->Nat):rel g (rel f p)=rel (λj=>g (f j)) p:=by
 unfold rel;rw[vp0 p _ (by rw[List.length_map]),av0 _ _ _ (by rw[List.length_map]),List.map_map];congr 1;refine N0 λv hv=>?_
 rcases h.lv v hv with rfl|⟨z,rfl⟩|⟨j,rfl,hj⟩
 ·rfl
 ·rfl
 ·show lkv g (lkv f _)=_
  rw[s40,s40,s40]
theorem d90{p:Pt}(h:Pw n p){f g:Nat->Nat}(e:∀j∈tgs p.vals,f j=g j):rel f p=rel g p:=by
 unfold rel;congr 1;refine N0 λv hv=>?_
 rcases h.lv v hv with rfl|⟨z,rfl⟩|⟨j,rfl,hj⟩
 ·rfl
 ·rfl
 ·rw[s40,s40,e j (wm0 hv)]
theorem by0{f:Nat->Nat}:∀{r:List Nat},(∀a∈r,∀b∈r,f a=f b->a=b)->r.Nodup->(r.map f).Nodup
 | [],_,_=>P6
 | a::r,hi,h=>by
  rw[List.nodup_cons] at h;rw[List.map_cons,List.nodup_cons];refine⟨λz=>?_,by0 (λx hx y hy=>hi x (A4 _ hx) y (A4 _ hy)) h.2⟩;obtain⟨b,hb,e⟩:=A6.mp z;exact h.1 (hi b (A4 _ hb) a A5 e▸hb)
structure Iso(ps qs:List Pt)(r:List Nat)(f:Nat->Nat):Prop where
 img:∀i∈r,f i<qs.length/\pa qs (f i)=rel f (pa ps i)
 inj:∀a∈r,∀b∈r,f a=f b->a=b
 zero:f 0=0
theorem idx_map(f:Nat->Nat):∀(r:List Nat) (j:Nat),j∈r->(∀a∈r,f a=f j->a=j)->(r.map f).idxOf (f j)=r.idxOf j
 | [],_,h,_=>by cases h
 | a::r,j,h,hi=>by
  rw[List.map_cons,List.idxOf_cons,List.idxOf_cons]
  by_cases e:a=j
  ·subst e;simp
  ·have ne:f a≠f j:=λz=>e (hi a A5 z)
   rw[beq_false_of_ne e,beq_false_of_ne ne];show _+1=_+1;rw[idx_map f r j ((A9.mp h).resolve_left (C0 e)) λb hb=>hi b (A4 _ hb)]
theorem i10{ps qs:List Pt}{f:Nat->Nat}(hp:Web ps)(hq:Web qs)(m:Met ps r)(I:Iso ps qs r f):Met qs (r.map f)/\dr qs (r.map f)=dr ps r:=by
 have adj:∀i∈r,ys0 (wd qs) (f i)=(ys0 (wd ps) i).map f:=λi hi=>by
  rw[u70 hq (I.img i hi).1,u70 hp (m.lt i hi),(I.img i hi).2,c80];exact jy0 f (R9 hp (m.lt i hi)).2.lv
 refine⟨⟨?_,by0 I.inj m.nd,λy hy=>?_,λy hy j hj=>?_,?_⟩,?_⟩
 ·obtain⟨c,h1,h2⟩:=m.ex
  refine⟨c,?_,h2⟩;have:=ii0 (adj':=ys0 (wd qs)) f h1 I.inj adj;rw[List.map_nil,List.map_cons,List.map_nil,I.zero] at this;exact this
 ·obtain⟨i,hi,rfl⟩:=A6.mp hy
  exact(I.img i hi).1
 ·obtain⟨i,hi,rfl⟩:=A6.mp hy
  rw[adj i hi] at hj;obtain⟨k,hk,rfl⟩:=A6.mp hj;exact l6 (m.cl i hi k hk)
 ·obtain⟨s,rfl⟩:=m.hd
  exact⟨s.map f,by rw[List.map_cons,I.zero]⟩
 ·unfold dr
  rw[List.map_map];refine N0 λi hi=>?_
  show rel _ (pa qs (f i))=_;rw[(I.img i hi).2,af0 (R9 hp (m.lt i hi)).2];refine d90 (R9 hp (m.lt i hi)).2 λj hj=>?_
  have hjr:j∈r:=m.cl i hi j (by rw[u70 hp (m.lt i hi)];exact hj);exact idx_map f r j hjr λa ha e=>I.inj a ha j hjr e
theorem yw0{ps:List Pt}(hp:Web ps)(m:Met ps r):Web (dr ps r)/\(dr ps r).length=r.length:=by
 have hl:r.length<=ps.length:=by
  have:=sub_len m.nd (m:=List.range ps.length) λy hy=>C3.mpr (m.lt y hy)
  rwa [p9] at this
 have e:(dr ps r).length=r.length:=by unfold dr;rw[List.length_map]
 refine⟨⟨?_,λp hp'=>?_⟩,e⟩
 ·rw[e]
  have:=hp.len.2;exact⟨List.length_pos_of_mem m.zero,by omega⟩
 ·rw[e]
  obtain⟨i,hi,rfl⟩:=A6.mp hp';refine Xk0 (R9 hp (m.lt i hi)).2 _ λj hj=>?_
  exact d4 (m.cl i hi j (by rw[u70 hp (m.lt i hi)];exact hj))
theorem d80{ps:List Pt}(hp:Web ps)(m:Met ps r):Iso ps (dr ps r) r λj=>r.idxOf j:=by
 refine⟨λi hi=>?_,λa ha b hb e=>?_,?_⟩
 ·have h1:r.idxOf i<r.length:=d4 hi
  refine⟨by rw[(yw0 hp m).2];exact h1,?_⟩;have:pa (dr ps r) (r.idxOf i)=(dr ps r)[r.idxOf i]'(by rw[(yw0 hp m).2];exact h1):=by unfold pa;simp[(yw0 hp m).2,h1]
  rw[this];unfold dr;rw[List.getElem_map,List.getElem_idxOf h1]
 ·have h1:r.idxOf a<r.length:=d4 ha
  have h2:r.idxOf b<r.length:=d4 hb;rw[← List.getElem_idxOf h1,← List.getElem_idxOf h2];congr 1
 ·obtain⟨s,rfl⟩:=m.hd
  exact List.idxOf_cons_self
end Ua
namespace Ua
open DL W K22
open Ta (pa R9 w50)
theorem uh0{p:Pt}(h:Pw n p)(f:Nat->Nat)(D':D)(hd:∀j∈tgs p.vals,wd0 D' (.int (j:Int))=some (.int (f j:Int))):G7 [p.d,D']=some (rel f p).d:=K22.uh0 h f D' hd
theorem tb0{ps:List Pt}(h:Web ps)(m:Met ps r):ze0 [wd ps,.int 0,.dct (.inl []) []]=some (.lst (nd r)):=by
 obtain⟨c,h1,h2⟩:=m.ex;exact K22.tb0 h [] (by decide) h.len.1 h1 h2
theorem Xt0{ps:List Pt}(h:Web ps)(m:Met ps r):v20 [wd ps,.int 0]=some (.lst (nd r)) :=
 O5 rfl (N6 (M8 (by rw[o5 (ds:=[wd ps,.int 0,.dct (.inl []) []]) rfl];exact tb0 h m)))
def nums(r:List Nat)(i:Nat):D:=.dct (.inl (kd (r.take i))) (nd (List.range' 0 i))
theorem ax0(hn:r.Nodup)(hj:j<r.length):N5 (kd (r.take j)) (.inl (r[j]:Int))=kd (r.take (j+1))/\K5 (kd (r.take j)) (nd (List.range' 0 j)) (.inl (r[j]:Int)) (.int (j:Int))=nd (List.range' 0 (j+1)):=by
 have hnin:r[j]∉r.take j:=λz=>by
  have q:(r.take j++r.drop j).Nodup:=by rw[List.take_append_drop];exact hn
  exact(S2.mp q).2.2 _ z _ (by rw[List.drop_eq_getElem_cons hj];exact A5) rfl
 have hk:O3 (kd (r.take j)) (.inl (r[j]:Int))=false:=by rw[se0,decide_eq_false hnin]
 have tk:r.take (j+1)=r.take j++[r[j]]:=by rw[List.take_succ,List.getElem?_eq_getElem hj];rfl
 constructor
 ·unfold N5;rw[hk,if_neg (by simp),tk,kc0];rfl
 ·unfold K5;rw[hk,if_neg (by simp),List.range'_concat,uq0,Nat.one_mul,Nat.zero_add];rfl
theorem ak0(hj:j∈r):wd0 (nums r r.length) (.int (j:Int))=some (.int ((r.idxOf j:Nat):Int)):=by
 show yz0 (kd (r.take r.length)) (nd (List.range' 0 r.length)) (.inl (j:Int))=_;rw[List.take_length,ig0 r 0 j hj,Nat.zero_add]
theorem ln0{vs:List D}{k:Nat}{v:D}{g:GE}{gx:GE}(h1:δ[i]?=some (.ow (.dct (.inl ks) vs)))(h2:gx δ=some v)(h3:g δ=some (.int (k:Int)))(h4:ks.length<sizeLine) :
  W8 (Y9 gx) (putAt i g) δ=some (.nx (δ.set i (.ow (.dct (.inl (N5 ks (.inl (k:Int)))) (K5 ks vs (.inl (k:Int)) v))))):=by
 have e:py0 i δ=some (ks,vs):=by unfold py0;rw[h1]
 unfold W8 Y9;rw[h2,Option.map_some,Option.bind_some];unfold DL.putAt;rw[e,Option.bind_some,h3,Option.bind_some];simp only[yo0,Option.bind_some];rw[if_pos h4];rfl
theorem Ya0{ps:List Pt}(h:Web ps)(m:Met ps r){mf:List D->Option D}(hm:∀i∈r,mf [(pa ps i).d,nums r r.length]=some (rel (λj=>r.idxOf j) (pa ps i)).d) :
  Q4 (gN 0) noT (oA (z9 (o2 (gv 1) (gv 0) ixD) (z9 (gv 2) v6)) mf) [.un,.sh (wd ps),.sh (nums r r.length)] (nd r)=some ((dr ps r).map Pt.d):=by
 rw[O1 (λd=>match d with|.int i=>(rel (λj=>r.idxOf j) (pa ps i.toNat)).d|_=>.non) (λd hd=>by
  obtain⟨i,hi,rfl⟩:=A6.mp hd;refine⟨[.sh (.int (i:Int)),.sh (wd ps),.sh (nums r r.length)],rfl,rfl,?_⟩;rw[o5 (ds:=[(pa ps i).d,nums r r.length]) (cons_of (by rw[o4 (x:=wd ps) (y:=.int (i:Int)) rfl rfl];exact(R9 h (m.lt i hi)).1) rfl),hm i hi];rfl)]
 unfold nd dr;rw[List.map_map,List.map_map];rfl
theorem Met.len{ps:List Pt}(h:Web ps)(m:Met ps r):r.length<=ps.length/\r.length<=60:=by
 have:=sub_len m.nd (m:=List.range ps.length) λy hy=>C3.mpr (m.lt y hy)
 rw[List.length_range] at this;exact⟨this,B7 this h.len.2⟩
theorem Met.tg{ps:List Pt}(h:Web ps)(m:Met ps r)(hi:i∈r)(hj:j∈tgs (pa ps i).vals):j∈r:=m.cl i hi j (by rw[u70 h (m.lt i hi)];exact hj)
theorem ld0(r:List Nat):(xn0 (nd r)).length=r.length:=by unfold xn0;rw[List.length_map,List.length_range,z80]
theorem b60{d:D}(h:(xn0 (nd r))[j]?=some d):∃hj:j<r.length,d=.tup [.int (j:Int),.int (r[j]:Int)]:=by
 have hjl:j<r.length:=by
  have:=(D0.mp h).1
  rwa [ld0] at this
 refine⟨hjl,?_⟩;unfold xn0 at h;rw[List.getElem?_map,List.getElem?_range (by rw[z80];exact hjl)] at h;have e:(nd r).getD j .non=.int (r[j]:Int):=by unfold nd;simp[hjl]
 rw[← e];exact(B6 h).symm
theorem Yg0{gA:GA}(δ:Ds)(r:List Nat)(h:gA δ=some [.lst (nd r)]):ra0 gA δ=some (xn0 (nd r)):=by
 unfold ra0;rw[h];rfl
def NB:GS:=(v7 (W8 (Y9 (gv 4)) (DL.putAt 3 (gv 5))) u5)
theorem tq0{ps:List Pt}(h:Web ps)(m:Met ps r):yf0 [wd ps,.int 0]=some (wd (dr ps r)):=by
 have zs:(2000:Nat)<=sizeLine:=by decide
 obtain⟨_,h60⟩:=m.len h;obtain⟨δ',l1,s4,s5,rfl⟩:=ya0 (f:=G6 4 5) (G:=NB) (λi δ=>∃s4 s5:Sl,δ=[.sh (wd ps),.sh (.int 0),.sh (.lst (nd r)),.ow (nums r i),s4,s5]) (xn0 (nd r)) 0 [.sh (wd ps),.sh (.int 0),.sh (.lst (nd r)),.ow (nums r 0),.un,.un] (by
  rintro j d δ hj ⟨s4,s5,rfl⟩;rw[Nat.zero_add];obtain⟨hjl,rfl⟩:=b60 hj;obtain⟨e1,e2⟩:=ax0 m.nd hjl;refine⟨[.sh (wd ps),.sh (.int 0),.sh (.lst (nd r)),.ow (nums r j),.sh (.int (j:Int)),.sh (.int (r[j]:Int))],_,rfl,v9 (ln0 (ks:=kd (r.take j)) (vs:=nd (List.range' 0 j)) (k:=r[j]) (v:=.int (j:Int)) rfl rfl rfl (by unfold kd;rw[List.length_map,List.length_take];omega)) rfl,.sh (.int (j:Int)),.sh (.int (r[j]:Int)),?_⟩;rw[e1,e2];rfl) ⟨.un,.un,rfl⟩
 rw[Nat.zero_add,ld0] at l1;refine Z1 rfl (v9 (j7 (d:=.lst (nd r)) (Zp0 ?_ (mg0 r))) (v9 (δ':=[.sh (wd ps),.sh (.int 0),.sh (.lst (nd r)),.ow (nums r 0),.un,.un]) rfl (v9 (zg0 (items:=xn0 (nd r)) ?_ l1) (n6 (Y4 ?_)))))
 ·show oA (z9 (gv 0) (z9 (gv 1) v6)) v20 [.sh (wd ps),.sh (.int 0),.un,.un,.un,.un]=_
  rw[o5 (ds:=[wd ps,.int 0]) rfl];exact Xt0 h m
 ·exact Yg0 _ r rfl
 ·show oA _ Z8 [.sh (wd ps),.sh (.int 0),.sh (.lst (nd r)),.sh (nums r r.length),Q9 s4,Q9 s5]=_
  rw[o5 (ds:=[.lst ((dr ps r).map Pt.d)]) (cons_of (Z5 (items:=nd r) rfl (by rw[z80];omega) (Ya0 h m λi hi=>uh0 (R9 h (m.lt i hi)).2 _ _ λj hj=>ak0 (m.tg h hi hj))) rfl)];rfl
end Ua
namespace Ua
open DL W K22 SoT
open Ta (pa R9 w50 pN zz nn2 de0 lr0 up okv)
section
variable{ps qs:List Pt}{s:List Nat}
def SL(L:List (Nat×Nat)):List (Nat×Nat):=(srt (L.map zz)).map nn2
theorem Uw0(L:List (Nat×Nat)):(srt (L.map zz)).map pD=(SL L).map pN:=by
 unfold SL;rw[List.map_map];refine N0 λq hq=>?_
 obtain⟨p,hp,rfl⟩:=A6.mp ((u20 _).mem_iff.mp hq);rfl
theorem rs0(L:List (Nat×Nat)):(SL L).Perm L:=by
 have h:=(u20 (L.map zz)).map nn2;have e:(L.map zz).map nn2=L:=by
  rw[List.map_map];exact(N0 λp _=>by show (((p.1:Int)).toNat,((p.2:Int)).toNat)=p;rw[Int.toNat_natCast,Int.toNat_natCast]).trans (r9 L)
 rw[e] at h;exact h
theorem o30{M:List (Nat×Nat)}(h:L.Perm M):SL L=SL M:=by
 unfold SL;rw[dz0 (h.map zz)]
theorem rh0(hn:L.Nodup)(h9:L.length<64):uw0 [.lst (L.map pN)]=some (.lst ((SL L).map pN)):=by
 have e1:L.map pN=(L.map zz).map pD:=by rw[List.map_map];rfl
 rw[e1,al0 (lr0 (λa b=>de0) hn) (by rw[List.length_map];exact h9),Uw0]
end
end Ua
namespace Ua
open DL W K22 SoT
open Ta (pN w50)
theorem Wk0(hn:r.Nodup)(hj:j<r.length):r.idxOf r[j]=j :=
 (At0 hn).mp (List.getElem_idxOf (d4 (E5 hj)))
end Ua
namespace Km
open DL W K22
open Bw (sg cnt kn its tx Vb Gq)
theorem y20{ps:List Pt}(hj:j<ps.length):ixD (Bw.web ps) (.int (j:Int))=some (ps.getD j (.row [])).d/\ps.getD j (.row [])∈ps:=by
 constructor
 ·show atI (ps.map Pt.d) (j:Int)=_
  rw[yb0 (by omega) (by rw[List.length_map];omega) .non,Int.toNat_natCast];simp[List.getD_eq_getElem?_getD,hj]
 ·rw[List.getD_eq_getElem?_getD,List.getElem?_eq_getElem hj]
  exact E5 hj
end Km
namespace Km
open DL W K22
open Bw (sg cnt kn its tx Vb Gq two)
def lkd(j:Nat):D:=.tup [.str "at",.int (j:Int)]
theorem ul0(f:D->D):∀ps:List (Str×D),(ps.map (·.1)).zip ((ps.map (·.2)).map f)=ps.map λp=>(p.1,f p.2)
 | []=>rfl
 | p::ps=>by
  rw[List.map_cons,List.map_cons,List.map_cons,List.zip_cons_cons,ul0 f ps,List.map_cons]
theorem o60(f:D->D)(hf:∀s,f (.str s)=.str s):∀ps:List (Str×D),(ps.map λp=>(p.1,f p.2)).flatMap two=(ps.flatMap two).map f
 | []=>rfl
 | p::ps=>by
  rw[List.map_cons,List.flatMap_cons,o60 f hf ps,List.flatMap_cons,List.map_append];show[D.str p.1,f p.2]++_=[f (.str p.1),f p.2]++_;rw[hf]
theorem lu0(π:Nat->Nat)(p:Pt):cnt (rel π p)=cnt p/\kn (rel π p)=kn p/\tx (rel π p)=tx p/\its (rel π p)=(its p).map (lkv π)/\(rel π p).vals=p.vals.map (lkv π)/\(rel π p).all=p.all:=by
 have hv:(rel π p).vals=p.vals.map (lkv π):=vp0 p _ (by rw[List.length_map]);cases p with
 | text w=>exact⟨rfl,rfl,rfl,rfl,hv,rfl⟩
 | row vs=>exact⟨by show (vs.map (lkv π)).length=vs.length;rw[List.length_map],rfl,rfl,rfl,hv,rfl⟩
 | table ps =>
  have e:rel π (.table ps)=.table (ps.map λp=>(p.1,lkv π p.2)):=C9 Pt.table (ul0 (lkv π) ps);refine⟨?_,rfl,rfl,?_,hv,?_⟩
  ·rw[e];show (ps.map λp=>(p.1,lkv π p.2)).length=ps.length;rw[List.length_map]
  ·rw[e];exact o60 (lkv π) (λ_=>rfl) ps
  ·rw[e];show (ps.map λp=>(p.1,lkv π p.2)).map (·.1)++[]=ps.map (·.1)++[];rw[List.map_map];rfl
 | rcd c ps =>
  have e:rel π (.rcd c ps)=.rcd c (ps.map λp=>(p.1,lkv π p.2)):=C9 (Pt.rcd c) (ul0 (lkv π) ps);refine⟨?_,rfl,rfl,?_,hv,?_⟩
  ·rw[e];show (ps.map λp=>(p.1,lkv π p.2)).length=ps.length;rw[List.length_map]
  ·rw[e]
   show D.str c::_=D.str c::(ps.flatMap two).map (lkv π);rw[← o60 (lkv π) (λ_=>rfl) ps]
  ·rw[e];show (ps.map λp=>(p.1,lkv π p.2)).map (·.1)++[c]=ps.map (·.1)++[c];rw[List.map_map];rfl
theorem ll0(π:Nat->Nat)(j:Nat):lkv π (lkd j)=lkd (π j):=by unfold lkd lkv;simp only[Int.toNat_natCast]
def laid(ps:List Pt)(L:List Nat):List Pt:=L.map λk=>rel (ix L) (ps.getD k (.row []))
theorem Y70{ps:List Pt}(hw:Wb ps){L:List Nat}(h0:0<L.length/\L.length<=60)(hL:∀k∈L,k<ps.length)(hc:∀k∈L,∀i∈tgs (ps.getD k (.row [])).vals,i∈L):Wb (laid ps L):=by
 have hl:(laid ps L).length=L.length:=by unfold laid;rw[List.length_map]
 refine⟨by rw[hl];exact h0,λp hp=>?_,λp hp v hv=>?_⟩
 ·obtain⟨k,hk,rfl⟩:=A6.mp hp
  obtain⟨_,w2⟩:=y20 (hL k hk);have hq:=hw.it _ w2;obtain⟨r1,_,_,_,r5,r6⟩:=lu0 (ix L) (ps.getD k (.row []));refine⟨by rw[r1];exact hq.cnt,λv hv=>?_,by rw[r6];exact hq.names,by rw[r5,List.length_map];exact hq.few⟩;rw[r5] at hv;obtain⟨u,hu,rfl⟩:=A6.mp hv;have hb:=hq.vals u hu;cases hb with
  | non=>exact .non
  | lk i _ =>
   rw[show lkv (ix L) (.tup [.str "at",.int (i:Int)])=lkd (ix L i) from ll0 _ _];exact .lk _ (by have:=g50 (hc k hk i (wm0 hu));omega)
  | int z hz=>exact .int z hz
 ·obtain⟨k,hk,rfl⟩:=A6.mp hp
  obtain⟨_,w2⟩:=y20 (hL k hk);obtain⟨_,_,_,_,r5,_⟩:=lu0 (ix L) (ps.getD k (.row []));rw[r5] at hv;obtain⟨u,hu,rfl⟩:=A6.mp hv;have hb:=(hw.it _ w2).vals u hu;rw[hl];cases hb with
  | non=>exact λj e=>nomatch e
  | lk i _ =>
   rw[show lkv (ix L) (.tup [.str "at",.int (i:Int)])=lkd (ix L i) from ll0 _ _];exact Bw.m40 (g50 (hc k hk i (wm0 hu)))
  | int z hz=>exact λj e=>nomatch e
theorem w00(p:Pt)(h:p.few):j9 [p.d]=some (.lst p.vals):=Pn.Q3 p h
theorem sy0{p:Pt}(h:Gq p):p.few/\p.vals.length<=20:=by
 have z:(1000:Nat)<=sizeLine:=by decide
 have hc:=h.cnt;have:p.vals.length<=20:=by
  cases p with
  | text w=>exact C5 _
  | row vs=>exact hc
  | table ps=>show (ps.map (·.2)).length<=20;rw[List.length_map];exact hc
  | rcd c ps=>show (ps.map (·.2)).length<=20;rw[List.length_map];exact hc
 exact⟨B7 this (by omega),this⟩
theorem ew0{v:D}(h:Vb v)(L:List Nat)(hl:∀j:Nat,v=lkd j->j∈L):W5 [v,pd (kb L)]=some (lkv (ix L) v):=by
 cases h with
 | non=>kernel_rfl
 | int z _=>exact Z1 rfl (v9 (δ':=[.sh (.int z),.sh (pd (kb L))]) (by rw[Z0 (by rfl)];rfl) (n6 rfl))
 | lk j _ =>
  rw[show lkv (ix L) (.tup [.str "at",.int (j:Int)])=lkd (ix L j) from ll0 _ _];refine Z1 rfl (n6 ?_);rw[V0 (by rfl)];refine n6 (Y4 (Z7 (cons_of rfl (cons_of (d:=.int (ix L j:Int)) ?_ rfl)) (by show 2<=sizeLine;decide)));rw[o4 (x:=pd (kb L)) (y:=.int (j:Int)) rfl rfl];exact dc0 (hl j rfl)
theorem v90(p:Pt)(h:p.vals.length<=20)(vs:List D)(hl:vs.length=p.vals.length):U3 [p.d,.lst vs]=some (Pn.put p vs).d:=by
 have z:(1000:Nat)<=sizeLine:=by decide
 have hc:∀(X:D) (ps:List (Str×D)),ixD X (.int (-1))=some (.tup (ps.map pr))->vs.length=ps.length->ps.length<=20->o9 2 [] (rp0 (z9 (o2 (gv 0) (unG J1 (gc (.int 1))) ixD) (z9 (gv 1) v6))) (G6 0 1) noT (m7 (z9 (o2 (gv 0) (gc (.int 0)) ixD) (z9 (gv 1) v6))) [.sh X,.sh (.lst vs),.un]=some (.lst (((ps.map (·.1)).zip vs).map pr)):=λX ps hX hv hp=>by
  refine Z5 (items:=((ps.map pr).zip vs).map λq=>.tup [q.1,q.2]) ?_ (by rw[List.length_map,List.length_zip,List.length_map];omega) ?_
  ·unfold rp0
   rw[cons_of (d:=.tup (ps.map pr)) (ds:=[.lst vs]) (by rw[o4 (x:=X) (y:=.int (-1)) rfl rfl];exact hX) rfl];rfl
  ·clear hX
   rw[O1 (λd=>match d with|.tup [.tup [a,_],b]=>.tup [a,b]|_=>.non) (λd hd=>by
    obtain⟨q,hq,rfl⟩:=A6.mp hd;obtain⟨u,hu,e⟩:=A6.mp (D7 hq).1;obtain⟨q1,q2⟩:=q;have e:pr u=q1:=e;subst e;exact⟨[.sh (pr u),.sh q2],rfl,rfl,Z7 (cons_of rfl (cons_of rfl rfl)) (by show 2<=sizeLine;omega)⟩)]
   congr 1;rw[List.map_map];clear hl h
   induction ps generalizing vs with
   | nil=>rfl
   | cons q ps ih =>
    cases vs with
    | nil=>rfl
    | cons v vs =>
     rw[List.map_cons,List.map_cons,List.zip_cons_cons,List.zip_cons_cons,List.map_cons,List.map_cons,ih vs (by simpa using hv) (by simp only[List.length_cons] at hp;omega)];rfl
 cases p with
 | text w =>
  have:vs=[]:=X2.mp hl;subst this;kernel_rfl
 | row us =>
  refine Z1 rfl (n6 ?_);rw[V0 (by kernel_rfl)];exact n6 (Y4 (Z7 (cons_of rfl (cons_of rfl rfl)) (by show 2<=sizeLine;omega)))
 | table ps =>
  have hp:(ps.map (·.2)).length<=20:=h;have hv:vs.length=(ps.map (·.2)).length:=hl;rw[List.length_map] at hp hv;refine Z1 rfl (v9 (δ':=[.sh (Pt.table ps).d,.sh (.lst vs),.un]) (by rw[Z0 (by kernel_rfl)];rfl) (v9 (δ':=[.sh (Pt.table ps).d,.sh (.lst vs),.un]) (by rw[Z0 (by kernel_rfl)];rfl) (v9 (j7 (d:=.lst (((ps.map (·.1)).zip vs).map pr)) (hc _ ps rfl hv hp)) (n6 (Y4 ?_)))));rw[o4 (x:=.tup [.str "table"]) (y:=.tup [.tup (((ps.map (·.1)).zip vs).map pr)]) rfl (Z7 (cons_of rfl rfl) (by show 1<=sizeLine;omega))];rfl
 | rcd c ps =>
  have hp:(ps.map (·.2)).length<=20:=h;have hv:vs.length=(ps.map (·.2)).length:=hl;rw[List.length_map] at hp hv;refine Z1 rfl (v9 (δ':=[.sh (Pt.rcd c ps).d,.sh (.lst vs),.un]) (by rw[Z0 (by kernel_rfl)];rfl) (v9 (δ':=[.sh (Pt.rcd c ps).d,.sh (.lst vs),.un]) (by rw[Z0 (by kernel_rfl)];rfl) (v9 (j7 (d:=.lst (((ps.map (·.1)).zip vs).map pr)) (hc _ ps rfl hv hp)) (n6 (Y4 ?_)))));rw[o4 (x:=.tup [.str "record",.str c]) (y:=.tup [.tup (((ps.map (·.1)).zip vs).map pr)]) rfl (Z7 (cons_of rfl rfl) (by show 1<=sizeLine;omega))];rfl
theorem U6(c k:Int)(h0:0<=k)(h1:k<=1000000):∃x,0<=x/\x<2147483647/\t7 [.int c,.int k]=some (.int x):=Bw.U6 c k h0 h1
theorem X00(L:List Nat)(p k:Nat):nd (L.take p++k::L.drop p)=(nd L).take p++.int (k:Int)::(nd L).drop p:=by
 unfold nd;rw[List.map_append,List.map_cons,List.map_take,List.map_drop]
theorem Yn0{L:List Nat}{p k:Nat}{g:GE}(W C s4 s5:Sl)(hg:g [W,C,.ow (.lst (nd L)),.sh (.int (k:Int)),s4,s5]=some (.int (p:Int)))(hp:p<=L.length)(hl:L.length<=1000) :
  V1 (qk0 2 g (gv 3)) [W,C,.ow (.lst (nd L)),.sh (.int (k:Int)),s4,s5]=some (.nx [W,C,.ow (.lst (nd (L.take p++k::L.drop p))),.sh (.int (k:Int)),s4,s5]):=by
 have zs:(9000:Nat)<=sizeLine:=by decide
 unfold V1 qk0;rw[show owL 2 [W,C,.ow (.lst (nd L)),.sh (.int (k:Int)),s4,s5]=some (nd L) from rfl,Option.bind_some,hg,Option.bind_some];show Option.map _ (if 0<=(p:Int)/\(p:Int)<=((nd L).length:Int)/\(nd L).length<sizeLine then some (D.non,([W,C,.ow (.lst ((nd L).take (p:Int).toNat++.int (k:Int)::(nd L).drop (p:Int).toNat)),.sh (.int (k:Int)),s4,s5]:Ds)) else none)=_;rw[if_pos ⟨by omega,by rw[z80];omega,by rw[z80];omega⟩,Int.toNat_natCast,X00];rfl
theorem Z10{gA:GA}{i j:Int}(h:gA δ=some [.int i,.int j])(h1:-(2 ^ 62)<=i/\i<2 ^ 62)(h2:-(2 ^ 62)<=j/\j<2 ^ 62):rc0 gA δ=some (R7 i j):=by
 unfold rc0;rw[h,Option.bind_some];simp only[gx0];rw[if_pos ⟨h1,h2⟩]
def OB:GS:=(v7 (V1 (qk0 2 (o2 (gc (.int 1)) (o2 (oA (z9 (gv 1) (z9 (o2 (gc (.int 100)) (gv 3) j6) v6)) t7) (R0 (oA (z9 (gv 2) v6) Y8)) j5) j6) (gv 3)))
 u5)
theorem ca0{d:D}(h:(R7 1 (n:Int))[j]?=some d):j+1<n/\d=.int ((j+1:Nat):Int):=by
 unfold R7 at h;rw[List.getElem?_map] at h;cases e:(List.range ((n:Int) - 1).toNat)[j]? with
 | none=>rw[e] at h;cases h
 | some k =>
  rw[e] at h;cases h;obtain⟨h1,h2⟩:=D0.mp e;rw[List.length_range] at h1;rw[List.getElem_range] at h2;subst h2;refine⟨by omega,?_⟩;show D.int (1+(j:Int))=_;rw[show (1:Int)+(j:Int)=((j+1:Nat):Int) by omega]
theorem cj0(W:Sl)(c:Int)(n:Nat)(h0:0<n/\n<=60)(s3 s4 s5:Sl):∃(L:List Nat) (s3':Sl),U5 (gN 3) OB (R7 1 (n:Int)) [W,.sh (.int c),.ow (.lst (nd [0])),s3,s4,s5]=some (.nx [W,.sh (.int c),.ow (.lst (nd L)),s3',s4,s5])/\L.length=n/\L.Nodup/\(∀k,k∈L↔k<n)/\L[0]?=some 0:=by
 obtain⟨δ',l1,l2⟩:=ya0 (f:=gN 3) (G:=OB) (λi δ=>∃(L:List Nat) (s3:Sl),δ=[W,.sh (.int c),.ow (.lst (nd L)),s3,s4,s5]/\L.length=i+1/\L.Nodup/\(∀k,k∈L↔k<i+1)/\L[0]?=some 0) (R7 1 (n:Int)) 0 [W,.sh (.int c),.ow (.lst (nd [0])),s3,s4,s5] (by
  rintro j d δ hj ⟨L,s3,rfl,a1,a2,a3,a4⟩;obtain⟨h1,rfl⟩:=ca0 hj;rw[Nat.zero_add] at a1 a3 ⊢;obtain⟨x,x0,x1,x2⟩:=U6 c (100+((j+1:Nat):Int)) (by omega) (by omega);have m0:0<=x%((j:Int)+1):=L3 _ (by omega);have m1:x%((j:Int)+1)<(j:Int)+1:=L4 _ (by omega);obtain⟨p,hp⟩:∃p:Nat,(p:Int)=1+x%((j:Int)+1):=⟨(1+x%((j:Int)+1)).toNat,by omega⟩;have hpl:p<=L.length:=by omega
  have hp1:1<=p:=by omega
  have hk:j+1∉L:=λz=>by have:=(a3 _).mp z;omega
  have perm:(L.take p++(j+1)::L.drop p).Perm ((j+1)::L):=by
   have:=List.perm_middle (a:=j+1) (l₁:=L.take p) (l₂:=L.drop p)
   rwa [List.take_append_drop] at this
  refine⟨[W,.sh (.int c),.ow (.lst (nd L)),.sh (.int ((j+1:Nat):Int)),s4,s5],[W,.sh (.int c),.ow (.lst (nd (L.take p++(j+1)::L.drop p))),.sh (.int ((j+1:Nat):Int)),s4,s5],rfl,v9 (Yn0 _ _ _ _ ?_ hpl (by omega)) rfl,_,_,rfl,?_,?_,λk=>?_,?_⟩
  ·rw[hp,o4 (x:=.int 1) (y:=.int (x%((j:Int)+1))) rfl (by
    rw[o4 (x:=.int x) (y:=.int ((j:Int)+1)) (by
     rw[o5 (ds:=[.int c,.int (100+((j+1:Nat):Int))]) rfl];exact x2) (by
     show Option.bind (some (D.int ((nd L).length:Int))) _=_;rw[z80,a1];show some (D.int ((j+1:Nat):Int))=_;congr 2)]
    exact Gw.wg0 _ _ (by omega))]
   rfl
  ·rw[perm.length_eq,List.length_cons,a1]
  ·exact perm.nodup_iff.mpr (L9.mpr ⟨hk,a2⟩)
  ·rw[perm.mem_iff,List.mem_cons,a3]
   omega
  ·obtain⟨a,L',rfl⟩:∃a L',L=a::L':=by
    cases L with
    | nil=>simp at a1
    | cons a L'=>exact⟨a,L',rfl⟩
   obtain⟨q,rfl⟩:∃q,p=q+1:=⟨p - 1,by omega⟩;rw[List.take_succ_cons];exact a4) ⟨[0],s3,rfl,rfl,by simp,λk=>by rw[List.mem_singleton];omega,rfl⟩
 obtain⟨L,s3',rfl,b1,b2,b3,b4⟩:=l2;have hl:(R7 1 (n:Int)).length=n - 1:=by unfold R7;rw[List.length_map,List.length_range];omega
 rw[hl,Nat.zero_add] at b1 b3;have e:n - 1+1=n:=by omega
 rw[e] at b1 b3;exact⟨L,s3',l1,b1,b2,b3,b4⟩
theorem Tt0{B:List Nat}{k:Nat}(hB:B.length<=60)(hk:k∉B)(a b c e:Sl):W8 (Y9 (R0 (oA (z9 (gv 4) v6) we0))) (putAt 4 (gv 3)) [a,b,c,.sh (.int (k:Int)),.ow (pd (kb B)),e]=some (.nx [a,b,c,.sh (.int (k:Int)),.ow (pd (kb (B++[k]))),e]):=by
 have zs:(1000000:Nat)<=sizeLine:=by decide
 show Option.map Res.nx (if (kb B).length<sizeLine then some ([a,b,c,.sh (.int (k:Int)),.ow (.dct (.inl (N5 (kb B) (.inl (k:Int)))) (K5 (kb B) (nd (List.range (kb B).length)) (.inl (k:Int)) (.int ((kb B).length:Int)))),e]:Ds) else none)=_;rw[if_pos (by rw[el0];omega),d60 (λz=>hk ((kb_mem B k).mp z))];unfold kb;rw[List.map_append];rfl
theorem p40{L:List Nat}{d:D}(h:(nd L)[j]?=some d):∃k,L[j]?=some k/\d=.int (k:Int):=by
 unfold nd at h;rw[List.getElem?_map] at h;cases e:L[j]? with
 | none=>rw[e] at h;cases h
 | some k=>rw[e] at h;cases h;exact⟨k,rfl,rfl⟩
theorem kj0{L:List Nat}(hn:L.Nodup){k:Nat}(h:L[j]?=some k):k∉L.take j:=λz=>by
 obtain⟨i,hi,e⟩:=I0.mp z;obtain⟨hj,ej⟩:=D0.mp h;rw[List.length_take] at hi;rw[List.getElem_take] at e;exact E7.mp hn i j (by omega) hj (by omega) (e.trans ej.symm)
def N4:GS:=(v7 (W8 (Y9 (R0 (oA (z9 (gv 4) v6) we0))) (putAt 4 (gv 3)))
 u5)
theorem Ul0(a b c e s3:Sl)(L:List Nat)(hn:L.Nodup)(hl:L.length<=60):∃s3',U5 (gN 3) N4 (nd L) [a,b,c,s3,.ow (.dct (.inl []) []),e]=some (.nx [a,b,c,s3',.ow (pd (kb L)),e]):=by
 obtain⟨δ',l1,l2⟩:=ya0 (f:=gN 3) (G:=N4) (λi δ=>∃s3:Sl,δ=[a,b,c,s3,.ow (pd (kb (L.take i))),e]) (nd L) 0 [a,b,c,s3,.ow (.dct (.inl []) []),e] (by
  rintro j d δ hj ⟨s3,rfl⟩;obtain⟨k,hk,rfl⟩:=p40 hj;rw[Nat.zero_add];have e1:L.take (j+1)=L.take j++[k]:=by rw[List.take_succ,hk];rfl
  refine⟨_,_,rfl,v9 (Tt0 (by rw[List.length_take];omega) (kj0 hn hk) _ _ _ _) rfl,.sh (.int (k:Int)),by rw[e1]⟩) ⟨s3,rfl⟩
 obtain⟨s3',rfl⟩:=l2;rw[z80,Nat.zero_add,List.take_length] at l1;exact⟨s3',l1⟩
theorem X30{L:List Nat}{v:D}(h:W5 [v,pd (kb L)]=some (lkv (ix L) v)):oA (z9 (gv 0) (z9 (gv 1) v6)) W5 [.sh v,.sh (pd (kb L))]=some (lkv (ix L) v):=by
 rw[o5 (ds:=[v,pd (kb L)]) rfl];exact h
theorem ik0{L:List Nat}{vs:List D}(hv:∀v∈vs,Vb v)(hl:∀i∈tgs vs,i∈L):Q4 (gN 0) noT (oA (z9 (gv 0) (z9 (gv 1) v6)) W5) [.un,.sh (pd (kb L))] vs=some (vs.map (lkv (ix L))):=by
 refine O1 (lkv (ix L)) λv h=>⟨[.sh v,.sh (pd (kb L))],rfl,rfl,?_⟩
 have h2:∀j:Nat,v=lkd j->j∈L:=λj e=>by
  subst e;exact hl j (wm0 h)
 exact X30 (ew0 (hv v h) L h2)
def RN:GS:=(v7 (V1 (zm0 5 (oA (z9 (o2 (gv 0) (gv 3) ixD) (z9 (o9 1 [4] (V4 (oA (z9 (o2 (gv 0) (gv 3) ixD) v6) j9)) (gN 0) noT (oA (z9 (gv 0) (z9 (gv 1) v6)) W5)) v6)) U3)))
 u5)
theorem mj0{ps:List Pt}(hw:Wb ps)(c:Int):∃L:List Nat,L.length=ps.length/\(∀k∈L,k<ps.length)/\(∀k∈L,∀i∈tgs (ps.getD k (.row [])).vals,i∈L)/\L[0]?=some 0/\R6 [Bw.web ps,.int c]=some (Bw.web (laid ps L)):=by
 have zs:(9000:Nat)<=sizeLine:=by decide
 have h60:=hw.len;obtain⟨L,s3,l1,b1,b2,b3,b4⟩:=cj0 (.sh (Bw.web ps)) c ps.length hw.len .un .un .un;have hL:∀k∈L,k<ps.length:=λk hk=>(b3 k).mp hk
 have hc:∀k∈L,∀i∈tgs (ps.getD k (.row [])).vals,i∈L:=λk hk i hi=>(b3 i).mpr (by
  obtain⟨_,w2⟩:=y20 (hL k hk);refine p80 (n:=ps.length) (vs:=(ps.getD k (.row [])).vals) (λv hv=>?_) i hi;have hb:=(hw.it _ w2).vals v hv;have hk:=hw.lk _ w2 v hv;cases hb with
  | non=>exact .inl rfl
  | lk j _=>exact .inr (.inr ⟨j,rfl,hk j rfl⟩)
  | int z _=>exact .inr (.inl ⟨z,rfl⟩))
 refine⟨L,b1,hL,hc,b4,?_⟩;obtain⟨s3',l2⟩:=Ul0 (.sh (Bw.web ps)) (.sh (.int c)) (.sh (.lst (nd L))) .un s3 L b2 (by omega);obtain⟨δ',l3,l4⟩:=ya0 (f:=gN 3) (G:=RN) (λi δ=>∃s:Sl,δ=[.sh (Bw.web ps),.sh (.int c),.sh (.lst (nd L)),s,.sh (pd (kb L)),.ow (.lst ((L.take i).map λk=>(rel (ix L) (ps.getD k (.row []))).d))]) (nd L) 0 [.sh (Bw.web ps),.sh (.int c),.sh (.lst (nd L)),s3',.sh (pd (kb L)),.ow (.lst [])] (by
  rintro j d δ hj ⟨s,rfl⟩;obtain⟨k,hk,rfl⟩:=p40 hj;have hkm:=D2 hk;rw[Nat.zero_add];obtain⟨w1,w2⟩:=y20 (hL k hkm);have hq:=hw.it _ w2;have hcl:=hc k hkm;obtain⟨f1,f2⟩:=sy0 hq;have e1:(L.take (j+1)).map (λk=>(rel (ix L) (ps.getD k (.row []))).d)=(L.take j).map (λk=>(rel (ix L) (ps.getD k (.row []))).d)++[(rel (ix L) (ps.getD k (.row []))).d]:=by rw[List.take_succ,hk,List.map_append];rfl
  generalize ps.getD k (.row [])=p at w1 w2 hq hcl f1 f2 e1;refine⟨[.sh (Bw.web ps),.sh (.int c),.sh (.lst (nd L)),.sh (.int (k:Int)),.sh (pd (kb L)),.ow (.lst ((L.take j).map λk=>(rel (ix L) (ps.getD k (.row []))).d))],_,rfl,v9 (Gw.vu0 (l:=(L.take j).map λk=>(rel (ix L) (ps.getD k (.row []))).d) (d:=(rel (ix L) p).d) rfl ?_ (by rw[List.length_map,List.length_take];omega)) rfl,.sh (.int (k:Int)),by rw[e1];rfl⟩;have g1:∀δ:Ds,o2 (gv 0) (gv 3) ixD (.sh (Bw.web ps)::.sh (.int c)::.sh (.lst (nd L))::.sh (.int (k:Int))::δ)=some p.d:=fun δ=>by
   rw[o4 (x:=Bw.web ps) (y:=.int (k:Int)) rfl rfl];exact w1
  rw[o5 (ds:=[p.d,.lst (p.vals.map (lkv (ix L)))]) (cons_of (g1 _) (cons_of (Z5 (items:=p.vals) (by
   show Option.bind (oA (z9 (o2 (gv 0) (gv 3) ixD) v6) j9 _) v40=_;rw[o5 (ds:=[p.d]) (cons_of (g1 _) rfl),w00 p f1];rfl) f1 (ik0 hq.vals hcl)) rfl))]
  exact v90 p f2 _ (by rw[List.length_map])) ⟨s3',rfl⟩
 obtain⟨s,rfl⟩:=l4;rw[z80,Nat.zero_add,List.take_length] at l3;refine Z1 rfl (v9 (δ':=[.sh (Bw.web ps),.sh (.int c),.ow (.lst (nd [0])),.un,.un,.un]) rfl (v9 (zg0 (items:=R7 1 (ps.length:Int)) ?_ l1) (v9 (δ':=[.sh (Bw.web ps),.sh (.int c),.sh (.lst (nd L)),s3,.ow (.dct (.inl []) []),.un]) rfl (v9 (zg0 (items:=nd L) rfl l2) (v9 (δ':=[.sh (Bw.web ps),.sh (.int c),.sh (.lst (nd L)),s3',.sh (pd (kb L)),.ow (.lst [])]) rfl (v9 (zg0 (items:=nd L) rfl l3) (n6 (Y4 ?_))))))))
 ·refine Z10 (cons_of (d:=.int 1) (ds:=[.int (ps.length:Int)]) rfl (cons_of ?_ rfl)) (by omega) (by omega)
  rw[o5 (ds:=[Bw.web ps]) rfl];show some (D.int ((ps.map Pt.d).length:Int))=_;rw[List.length_map]
 ·show oA (z9 (gv 5) v6) Z8 [.sh (Bw.web ps),.sh (.int c),.sh (.lst (nd L)),s,.sh (pd (kb L)),.sh (.lst (L.map λk=>(rel (ix L) (ps.getD k (.row []))).d))]=_
  rw[o5 (ds:=[.lst (L.map λk=>(rel (ix L) (ps.getD k (.row []))).d)]) rfl];show some (D.tup _)=some (D.tup ((L.map λk=>rel (ix L) (ps.getD k (.row []))).map Pt.d));rw[List.map_map];rfl
theorem m50{v:D}(hb:Vb v)(hk:Bw.Lk n v):Lv n v:=by
 cases hb with
 | non=>exact .inl rfl
 | lk j _=>exact .inr (.inr ⟨j,rfl,hk j rfl⟩)
 | int z _=>exact .inr (.inl ⟨z,rfl⟩)
def LG:GE:=o9 1 [] (anyI (gv 1)) (gN 0) (ob (X6 isTup (gv 0))) (o2 (gv 0) (gc (.int 1)) ixD)
theorem iy0{X Y:D}{vs:List D}(hv:∀v∈vs,Lv n v)(hl:vs.length<=20)(hY:iv0 Y=some vs):LG [.sh X,.sh Y]=some (.lst (nd (tgs vs))):=by
 have z:(1000:Nat)<=sizeLine:=by decide
 exact Z5 (items:=vs) hY (by omega) (s90 vs hv)
theorem tp0(ps:List (Str×D)):Q4 (gN 0) noT (o2 (gv 0) (gc (.int 1)) ixD) [.un] (ps.map pr)=some (ps.map (·.2)):=by
 rw[O1 (λd=>match d with|.tup [_,b]=>b|_=>.non) (λd hd=>by
  obtain⟨q,_,rfl⟩:=A6.mp hd;exact⟨[.sh (pr q)],rfl,rfl,rfl⟩),List.map_map]
 rfl
theorem t90{p:Pt}(hq:Gq p)(hk:∀v∈p.vals,Bw.Lk n v):S6 [p.d]=some (.lst (nd (tgs p.vals))):=by
 have z:(1000:Nat)<=sizeLine:=by decide
 have hv:∀v∈p.vals,Lv n v:=λv h=>m50 (hq.vals v h) (hk v h)
 have hl:=(sy0 hq).2;cases p with
 | text w=>kernel_rfl
 | row vs =>
  refine O5 rfl (v9 (δ':=[.sh (Pt.row vs).d,.un]) (by rw[Z0 (by kernel_rfl)];rfl) (v9 (δ':=[.sh (Pt.row vs).d,.sh (.tup vs)]) rfl (v9 (δ':=[.sh (Pt.row vs).d,.sh (.tup vs)]) (by rw[Z0 (by kernel_rfl)];rfl) (N6 (M8 ?_)))));exact iy0 hv hl rfl
 | table ps =>
  have hp:ps.length<=20:=by have:(ps.map (·.2)).length<=20:=hl;rwa [d5] at this
  refine O5 rfl (v9 (δ':=[.sh (Pt.table ps).d,.un]) (by rw[Z0 (by kernel_rfl)];rfl) (v9 (δ':=[.sh (Pt.table ps).d,.sh (.tup (ps.map pr))]) rfl (v9 (δ':=[.sh (Pt.table ps).d,.sh (.lst (ps.map (·.2)))]) ?_ (N6 (M8 ?_)))))
  ·rw[V0 (by kernel_rfl)]
   exact v9 (j7 (d:=.lst (ps.map λq:Str×D=>q.2)) (Z5 (items:=ps.map pr) rfl (by rw[List.length_map];omega) (tp0 ps))) rfl
  ·exact iy0 hv hl rfl
 | rcd c ps =>
  have hp:ps.length<=20:=by have:(ps.map (·.2)).length<=20:=hl;rwa [d5] at this
  refine O5 rfl (v9 (δ':=[.sh (Pt.rcd c ps).d,.un]) (by rw[Z0 (by kernel_rfl)];rfl) (v9 (δ':=[.sh (Pt.rcd c ps).d,.sh (.tup (ps.map pr))]) rfl (v9 (δ':=[.sh (Pt.rcd c ps).d,.sh (.lst (ps.map (·.2)))]) ?_ (N6 (M8 ?_)))))
  ·rw[V0 (by kernel_rfl)]
   exact v9 (j7 (d:=.lst (ps.map λq:Str×D=>q.2)) (Z5 (items:=ps.map pr) rfl (by rw[List.length_map];omega) (tp0 ps))) rfl
  ·exact iy0 hv hl rfl
theorem Wb.tg{ps:List Pt}(hw:Wb ps){k:Nat}(hk:k<ps.length):(∀i∈tgs (ps.getD k (.row [])).vals,i<ps.length)/\(tgs (ps.getD k (.row [])).vals).length<=20:=by
 obtain⟨_,w2⟩:=y20 hk;have hq:=hw.it _ w2;exact⟨p80 (n:=ps.length) λv hv=>m50 (hq.vals v hv) (hw.lk _ w2 v hv),B7 (pv0 _) (sy0 hq).2⟩
theorem bc0{ps:List Pt}(hi:i<ps.length):(ps.map Pt.d).getD i .non=(ps.getD i (.row [])).d:=by simp[List.getD_eq_getElem?_getD,hi]
theorem Wb.good{ps:List Pt}(hw:Wb ps):GoodL (Bw.web ps) ps.length:=⟨hw.len.2,ps.map Pt.d,rfl,by rw[List.length_map],λi hi=>by
 obtain⟨_,w2⟩:=y20 hi;obtain⟨t1,t2⟩:=hw.tg hi;exact⟨_,by rw[bc0 hi];exact t90 (hw.it _ w2) (hw.lk _ w2),t2,t1⟩⟩
theorem Wb.adj{ps:List Pt}(hw:Wb ps)(hi:i<ps.length):yr0 (Bw.web ps) i=tgs (ps.getD i (.row [])).vals:=by
 obtain⟨_,w2⟩:=y20 hi;show (match S6 [(ps.map Pt.d).getD i .non] with|some (.lst vs)=>nn vs|_=>[])=_;rw[bc0 hi,t90 (hw.it _ w2) (hw.lk _ w2)];exact m60 _
theorem put3{B:List Nat}{k:Nat}(hB:B.length<=60)(hk:k∉B)(a b c e f g:Sl):W8 (Y9 (R0 (oA (z9 (gv 3) v6) we0))) (putAt 3 (gv 4)) [a,b,c,.ow (pd (kb B)),.sh (.int (k:Int)),e,f,g]=some (.nx [a,b,c,.ow (pd (kb (B++[k]))),.sh (.int (k:Int)),e,f,g]):=by
 have zs:(1000000:Nat)<=sizeLine:=by decide
 show Option.map Res.nx (if (kb B).length<sizeLine then some ([a,b,c,.ow (.dct (.inl (N5 (kb B) (.inl (k:Int)))) (K5 (kb B) (nd (List.range (kb B).length)) (.inl (k:Int)) (.int ((kb B).length:Int)))),.sh (.int (k:Int)),e,f,g]:Ds) else none)=_;rw[if_pos (by rw[el0];omega),d60 (λz=>hk ((kb_mem B k).mp z))];unfold kb;rw[List.map_append];rfl
def N3:GS:=(v7 (W8 (Y9 (R0 (oA (z9 (gv 3) v6) we0))) (putAt 3 (gv 4)))
 u5)
theorem Vz0(a b c e f g s:Sl)(L:List Nat)(hn:L.Nodup)(hl:L.length<=60):∃s',U5 (gN 4) N3 (nd L) [a,b,c,.ow (.dct (.inl []) []),s,e,f,g]=some (.nx [a,b,c,.ow (pd (kb L)),s',e,f,g]):=by
 obtain⟨δ',l1,l2⟩:=ya0 (f:=gN 4) (G:=N3) (λi δ=>∃s:Sl,δ=[a,b,c,.ow (pd (kb (L.take i))),s,e,f,g]) (nd L) 0 [a,b,c,.ow (.dct (.inl []) []),s,e,f,g] (by
  rintro j d δ hj ⟨s,rfl⟩;obtain⟨k,hk,rfl⟩:=p40 hj;rw[Nat.zero_add];have e1:L.take (j+1)=L.take j++[k]:=by rw[List.take_succ,hk];rfl
  refine⟨_,_,rfl,v9 (put3 (by rw[List.length_take];omega) (kj0 hn hk) _ _ _ _ _ _) rfl,.sh (.int (k:Int)),by rw[e1]⟩) ⟨s,rfl⟩
 obtain⟨s',rfl⟩:=l2;rw[z80,Nat.zero_add,List.take_length] at l1;exact⟨s',l1⟩
def R1:GS:=(v7 (m5 (gN 6) (m7 (z9 (gc (.str "row")) (z9 (oA (z9 (o9 1 [3] (tupI (o2 (gv 6) (gc (.int 1)) ixD)) (gN 0) noT (oA (z9 (gv 0) (z9 (gv 1) v6)) W5)) v6) Z8) v6))))
 u5)
def R2:GS:=(v7 (m5 (gN 7) (o9 2 [3] (tupI (o2 (gv 6) (unG J1 (gc (.int 1))) ixD)) (G6 0 1) noT (m7 (z9 (gv 0) (z9 (oA (z9 (gv 1) (z9 (gv 2) v6)) W5) v6)))))
 (v7 (m5 (gN 6) (o2 (J7 (gv 6) O6 (someO (unG J1 (gc (.int 1))))) (m7 (z9 (oA (z9 (gv 7) v6) Z8) v6)) j6))
 u5))
def R3:GS:=(v7 (ifD (ob (o2 (o2 (gv 6) (gc (.int 0)) ixD) (gc (.str "text")) neD)) R2 u5) u5)
def R4:GS:=(ifD (ob (o2 (o2 (gv 6) (gc (.int 0)) ixD) (gc (.str "row")) eqD)) R1 R3)
theorem jn0{L:List Nat}{ps:List (Str×D)}(hv:∀v∈ps.map (·.2),Vb v)(hl:∀i∈tgs (ps.map (·.2)),i∈L):Q4 (G6 0 1) noT (m7 (z9 (gv 0) (z9 (oA (z9 (gv 1) (z9 (gv 2) v6)) W5) v6))) [.un,.un,.sh (pd (kb L))] (ps.map pr)=some ((ps.map λq:Str×D=>(q.1,lkv (ix L) q.2)).map pr):=by
 have z:(2:Nat)<=sizeLine:=by decide
 rw[O1 (λd=>match d with|.tup [a,b]=>.tup [a,lkv (ix L) b]|_=>.non) (λd hd=>by
  obtain⟨q,hq,rfl⟩:=A6.mp hd;have hm:q.2∈ps.map (·.2):=A6.mpr ⟨q,hq,rfl⟩;refine⟨[.sh (.str q.1),.sh q.2,.sh (pd (kb L))],rfl,rfl,Z7 (cons_of rfl (cons_of (d:=lkv (ix L) q.2) ?_ rfl)) z⟩;rw[o5 (ds:=[q.2,pd (kb L)]) rfl];exact ew0 (hv _ hm) L λj e=>hl j (wm0 (by rw[e] at hm;exact hm))),List.map_map,List.map_map]
 rfl
theorem Vy0{L:List Nat}{p:Pt}(hq:Gq p)(hl:∀i∈tgs p.vals,i∈L)(a b c d e s7:Sl):∃s7',R4 [a,b,c,.sh (pd (kb L)),d,e,.sh p.d,s7]=some (.nx [a,b,c,.sh (pd (kb L)),d,e,.sh (rel (ix L) p).d,s7']):=by
 have z:(1000:Nat)<=sizeLine:=by decide
 have hv:=hq.vals;have h20:=(sy0 hq).2;cases p with
 | text w =>
  refine⟨s7,?_⟩;show ifD _ _ _ [a,b,c,.sh (pd (kb L)),d,e,.sh (Pt.text w).d,s7]=_;rw[Z0 (by kernel_rfl)];refine v9 (δ':=[a,b,c,.sh (pd (kb L)),d,e,.sh (Pt.text w).d,s7]) ?_ rfl;rw[Z0 (by kernel_rfl)];rfl
 | row vs =>
  refine⟨s7,?_⟩;show ifD _ _ _ [a,b,c,.sh (pd (kb L)),d,e,.sh (Pt.row vs).d,s7]=_;rw[V0 (by kernel_rfl)];have h20:vs.length<=20:=h20;refine v9 (j7 (d:=(rel (ix L) (.row vs)).d) (Z7 (cons_of rfl (cons_of (d:=.tup (vs.map (lkv (ix L)))) ?_ rfl)) (by show 2<=sizeLine;omega))) rfl;rw[o5 (ds:=[.lst (vs.map (lkv (ix L)))]) (cons_of (Z5 (items:=vs) rfl (by omega) (ik0 hv hl)) rfl)];rfl
 | table ps =>
  have hp:ps.length<=20:=by have:(ps.map (·.2)).length<=20:=h20;rwa [d5] at this
  have er:rel (ix L) (.table ps)=.table (ps.map λq:Str×D=>(q.1,lkv (ix L) q.2)):=C9 Pt.table (ul0 (lkv (ix L)) ps);rw[er];refine⟨.sh (.lst ((ps.map λq:Str×D=>(q.1,lkv (ix L) q.2)).map pr)),?_⟩;show ifD _ _ _ [a,b,c,.sh (pd (kb L)),d,e,.sh (Pt.table ps).d,s7]=_;rw[Z0 (by kernel_rfl)];refine v9 (δ':=[a,b,c,.sh (pd (kb L)),d,e,.sh (Pt.table (ps.map λq:Str×D=>(q.1,lkv (ix L) q.2))).d,.sh (.lst ((ps.map λq:Str×D=>(q.1,lkv (ix L) q.2)).map pr))]) ?_ rfl;rw[V0 (by kernel_rfl)];refine v9 (j7 (d:=.lst ((ps.map λq:Str×D=>(q.1,lkv (ix L) q.2)).map pr)) (Z5 (items:=ps.map pr) rfl (by rw[List.length_map];omega) (jn0 hv hl))) (v9 (j7 ?_) rfl);rw[o4 (x:=.tup [.str "table"]) (y:=.tup [.tup ((ps.map λq:Str×D=>(q.1,lkv (ix L) q.2)).map pr)]) rfl (Z7 (cons_of rfl rfl) (by show 1<=sizeLine;omega))];rfl
 | rcd cl ps =>
  have hp:ps.length<=20:=by have:(ps.map (·.2)).length<=20:=h20;rwa [d5] at this
  have er:rel (ix L) (.rcd cl ps)=.rcd cl (ps.map λq:Str×D=>(q.1,lkv (ix L) q.2)):=C9 (Pt.rcd cl) (ul0 (lkv (ix L)) ps);rw[er];refine⟨.sh (.lst ((ps.map λq:Str×D=>(q.1,lkv (ix L) q.2)).map pr)),?_⟩;show ifD _ _ _ [a,b,c,.sh (pd (kb L)),d,e,.sh (Pt.rcd cl ps).d,s7]=_;rw[Z0 (by kernel_rfl)];refine v9 (δ':=[a,b,c,.sh (pd (kb L)),d,e,.sh (Pt.rcd cl (ps.map λq:Str×D=>(q.1,lkv (ix L) q.2))).d,.sh (.lst ((ps.map λq:Str×D=>(q.1,lkv (ix L) q.2)).map pr))]) ?_ rfl;rw[V0 (by kernel_rfl)];refine v9 (j7 (d:=.lst ((ps.map λq:Str×D=>(q.1,lkv (ix L) q.2)).map pr)) (Z5 (items:=ps.map pr) rfl (by rw[List.length_map];omega) (jn0 hv hl))) (v9 (j7 ?_) rfl);rw[o4 (x:=.tup [.str "record",.str cl]) (y:=.tup [.tup ((ps.map λq:Str×D=>(q.1,lkv (ix L) q.2)).map pr)]) rfl (Z7 (cons_of rfl rfl) (by show 1<=sizeLine;omega))];rfl
def DR:GS:=(v7 (m5 (gN 6) (o2 (gv 0) (gv 4) ixD))
 (v7 R4
 (v7 (V1 (zm0 5 (gv 6)))
 u5)))
theorem dv0{ps:List Pt}(hw:Wb ps){a:Nat}{L:List Nat}(b2:L.Nodup)(hL:∀k∈L,k<ps.length)(hc:∀k∈L,∀i∈tgs (ps.getD k (.row [])).vals,i∈L)(hcome:S7 [Bw.web ps,.int (a:Int),.lst []]=some (nd L)):J2 [Bw.web ps,.int (a:Int)]=some (Bw.web (laid ps L)):=by
 have zs:(9000:Nat)<=sizeLine:=by decide
 have h60:=hw.len;have hlen:L.length<=60:=by
  have:=sub_len b2 (m:=List.range ps.length) λy hy=>C3.mpr (hL y hy)
  rw[List.length_range] at this;omega
 obtain⟨s4,l2⟩:=Vz0 (.sh (Bw.web ps)) (.sh (.int (a:Int))) (.sh (.lst (nd L))) .un .un .un .un L b2 hlen;obtain⟨δ',l3,l4⟩:=ya0 (f:=gN 4) (G:=DR) (λi δ=>∃s s6 s7:Sl,δ=[.sh (Bw.web ps),.sh (.int (a:Int)),.sh (.lst (nd L)),.sh (pd (kb L)),s,.ow (.lst ((L.take i).map λk=>(rel (ix L) (ps.getD k (.row []))).d)),s6,s7]) (nd L) 0 [.sh (Bw.web ps),.sh (.int (a:Int)),.sh (.lst (nd L)),.sh (pd (kb L)),s4,.ow (.lst []),.un,.un] (by
  rintro j d δ hj ⟨s,s6,s7,rfl⟩;obtain⟨k,hk,rfl⟩:=p40 hj;have hkm:=D2 hk;rw[Nat.zero_add];obtain⟨w1,w2⟩:=y20 (hL k hkm);have hq:=hw.it _ w2;have hcl:=hc k hkm;have e1:(L.take (j+1)).map (λk=>(rel (ix L) (ps.getD k (.row []))).d)=(L.take j).map (λk=>(rel (ix L) (ps.getD k (.row []))).d)++[(rel (ix L) (ps.getD k (.row []))).d]:=by rw[List.take_succ,hk,List.map_append];rfl
  generalize ps.getD k (.row [])=p at w1 w2 hq hcl e1;obtain⟨s7',hr⟩:=Vy0 hq hcl (.sh (Bw.web ps)) (.sh (.int (a:Int))) (.sh (.lst (nd L))) (.sh (.int (k:Int))) (.ow (.lst ((L.take j).map λk=>(rel (ix L) (ps.getD k (.row []))).d))) s7;refine⟨[.sh (Bw.web ps),.sh (.int (a:Int)),.sh (.lst (nd L)),.sh (pd (kb L)),.sh (.int (k:Int)),.ow (.lst ((L.take j).map λk=>(rel (ix L) (ps.getD k (.row []))).d)),s6,s7],_,rfl,v9 (j7 (d:=p.d) ?_) (v9 hr (v9 (Gw.vu0 (l:=(L.take j).map λk=>(rel (ix L) (ps.getD k (.row []))).d) (d:=(rel (ix L) p).d) rfl rfl (by rw[List.length_map,List.length_take];omega)) rfl)),.sh (.int (k:Int)),.sh (rel (ix L) p).d,s7',by rw[e1];rfl⟩;rw[o4 (x:=Bw.web ps) (y:=.int (k:Int)) rfl rfl];exact w1) ⟨s4,.un,.un,rfl⟩
 obtain⟨s,s6,s7,rfl⟩:=l4;rw[z80,Nat.zero_add,List.take_length] at l3;refine Z1 rfl (v9 (δ':=[.sh (Bw.web ps),.sh (.int (a:Int)),.ow (.lst []),.un,.un,.un,.un,.un]) rfl (v9 (δ':=[.sh (Bw.web ps),.sh (.int (a:Int)),.ow (.lst (nd L)),.un,.un,.un,.un,.un]) ?_ (v9 (δ':=[.sh (Bw.web ps),.sh (.int (a:Int)),.sh (.lst (nd L)),.ow (.dct (.inl []) []),.un,.un,.un,.un]) rfl (v9 (zg0 (items:=nd L) rfl l2) (v9 (δ':=[.sh (Bw.web ps),.sh (.int (a:Int)),.sh (.lst (nd L)),.sh (pd (kb L)),s4,.ow (.lst []),.un,.un]) rfl (v9 (zg0 (items:=nd L) rfl l3) (n6 (Y4 ?_))))))))
 ·unfold v10
  show Option.map _ (S7 [Bw.web ps,.int (a:Int),.lst []])=_;rw[hcome];rfl
 ·show oA (z9 (gv 5) v6) Z8 [.sh (Bw.web ps),.sh (.int (a:Int)),.sh (.lst (nd L)),.sh (pd (kb L)),s,.sh (.lst (L.map λk=>(rel (ix L) (ps.getD k (.row []))).d)),Q9 s6,Q9 s7]=_
  rw[o5 (ds:=[.lst (L.map λk=>(rel (ix L) (ps.getD k (.row []))).d)]) rfl];show some (D.tup _)=some (D.tup ((L.map λk=>rel (ix L) (ps.getD k (.row []))).map Pt.d));rw[List.map_map];rfl
theorem xy0(ns:List Int)(hb:∀z∈ns,z.natAbs.log2<=1048576)(a:Int)(ha:0<=a/\a<=100)(most:Int)(hm:0<most/\most<=60):∃ps:List Pt,T3 [.lst (ns.map .int),.int a,.int most]=some (Bw.web ps)/\Wb ps:=by
 obtain⟨ps,h1,h2,h3,h4⟩:=Bw.xy0 ns hb a ha most hm;exact⟨ps,h1,⟨h3,h2.len⟩,h2.it,h4⟩
end Km
namespace Va
open DL W K22
def wh0:GS:=(v7 (o7 (xu0 (X6 isTup (o2 (gv 0) (gc (.int 0)) ixD)) (X6 isTup (o2 (gv 0) (gc (.int 1)) ixD))))
 u5)
def w80:List Str:=["both"]
def U0:List D->Option D:=mkF 1 w80 wh0
def Q8:GS:=(v7 (ifD (o70 (ob (o2 (o2 (gv 0) (gc (.int 0)) ixD) (gc (.str "text")) eqD)) (ob (o2 (o2 (gv 0) (gc (.int 0)) ixD) (gc (.str "row")) eqD)))
 (v7 (U8 (W7 v6))
 u5)
 u5)
 (v7 (U8 (o9 1 [] (tupI (o2 (gv 0) (unG J1 (gc (.int 1))) ixD)) (gN 0) noT (o2 (gv 0) (gc (.int 0)) ixD)))
 u5))
def O9:List Str:=["part"]
def Y5:List D->Option D:=mkN 1 O9 Q8
def un0:GS:=(v7 (ifD (ob (o2 (o2 (gv 0) (gc (.int 0)) ixD) (gc (.str "text")) eqD))
 (v7 (o7 (m7 (z9 (gc (.str "text")) (z9 (o2 (gv 0) (gc (.int 1)) ixD) v6))))
 u5)
 u5)
 (v7 (ifD (ob (o2 (o2 (gv 0) (gc (.int 0)) ixD) (gc (.str "row")) eqD))
 (v7 (o7 (m7 (z9 (gc (.str "row")) (z9 (oA (z9 (o2 (gv 0) (gc (.int 1)) ixD) v6) Y8) v6))))
 u5)
 u5)
 (v7 (ifD (ob (o2 (o2 (gv 0) (gc (.int 0)) ixD) (gc (.str "table")) eqD))
 (v7 (o7 (m7 (z9 (gc (.str "table")) (z9 (oA (z9 (oA (z9 (gv 0) v6) Y5) v6) Z8) v6))))
 u5)
 u5)
 (v7 (o7 (m7 (z9 (gc (.str "record")) (z9 (o2 (gv 0) (gc (.int 1)) ixD) (z9 (oA (z9 (oA (z9 (gv 0) v6) Y5) v6) Z8) v6)))))
 u5))))
def sb0:List Str:=["part"]
def z60:List D->Option D:=mkF 1 sb0 un0
def yy0:GS:=(v7 (o7 (m7 (z9 (o2 (o2 (gv 0) (gc (.int 0)) ixD) (gc (.int 1)) ixD) (z9 (o2 (o2 (gv 0) (gc (.int 1)) ixD) (gc (.int 1)) ixD) v6))))
 u5)
def wp0:List Str:=["both"]
def V3:List D->Option D:=mkF 1 wp0 yy0
def zk0:GS:=(v7 (ifD (ob (o2 (o2 (gv 0) (gc (.int 0)) ixD) (gc (.str "text")) eqD))
 (v7 (U8 (W7 v6))
 u5)
 u5)
 (v7 (ifD (ob (o2 (o2 (gv 0) (gc (.int 0)) ixD) (gc (.str "row")) eqD))
 (v7 (U8 (oA (z9 (o2 (gv 0) (gc (.int 1)) ixD) v6) wn0))
 u5)
 u5)
 (v7 (U8 (o9 1 [] (tupI (o2 (gv 0) (unG J1 (gc (.int 1))) ixD)) (gN 0) noT (o2 (gv 0) (gc (.int 1)) ixD)))
 u5)))
def zv0:List Str:=["part"]
def m_values:List D->Option D:=mkN 1 zv0 zk0
def wf0:GS:=(v7 (ifD (ob (o2 (oA (z9 (o2 (gv 0) (o2 (gv 2) (gc (.int 0)) ixD) ixD) v6) z60) (oA (z9 (o2 (gv 1) (o2 (gv 2) (gc (.int 1)) ixD) ixD) v6) z60) M7))
 (v7 (o7 (gc (.bl false)))
 u5)
 u5)
 (v7 (J0 (y80 (z9 (oA (z9 (o2 (gv 0) (o2 (gv 2) (gc (.int 0)) ixD) ixD) v6) m_values) (z9 (oA (z9 (o2 (gv 1) (o2 (gv 2) (gc (.int 1)) ixD) ixD) v6) m_values) v6))) (gN 4)
 (v7 (ifD (ob (oA (z9 (gv 4) v6) U0))
 (v7 (ifD (ob (o2 (oA (z9 (gv 4) v6) V3) (gv 3) (T4 true)))
 (v7 (o7 (gc (.bl false)))
 u5)
 u5)
 u5)
 (v7 (ifD (ob (o2 (o2 (gv 4) (gc (.int 0)) ixD) (o2 (gv 4) (gc (.int 1)) ixD) M7))
 (v7 (o7 (gc (.bl false)))
 u5)
 u5)
 u5))
 u5))
 (v7 (o7 (gc (.bl true)))
 u5)))
def uj0:List Str:=["one", "other", "pair", "listed", "both"]
def y50:List D->Option D:=mkF 4 uj0 wf0
def us0:GS:=(v7 (m5 (gN 3) (oA (z9 (o9 1 [] (V4 (gv 2)) (gN 0) noT (m7 (z9 (gv 0) (z9 (gc (.bl true)) v6)))) v6) uu0))
 (v7 (U8 (o9 1 [0,1,3] (V4 (gv 2)) (gN 0) (ob (oA (z9 (gv 1) (z9 (gv 2) (z9 (gv 0) (z9 (gv 3) v6)))) y50)) (gv 0)))
 u5))
def oi0:List Str:=["one", "other", "pairs", "listed"]
def z20:List D->Option D:=mkN 3 oi0 us0
def uo0:GS:=(v7 (R5 2 (W7 (z9 (m7 (z9 (gc (.int 0)) (z9 (gc (.int 0)) v6))) v6)))
 (v7 (R5 3 (pr0 (gc (.int 0)) (gc (.bl true))))
 (v7 (R5 4 (pr0 (gc (.int 0)) (gc (.bl true))))
 (v7 (m5 (gN 5) (gc (.int 0)))
 (v7 (W9 (ob (o2 (gv 5) (R0 (oA (z9 (gv 2) v6) Y8)) ltD))
 (v7 (m5 (gN 6) (ye0 (o2 (gv 2) (gv 5) ixD)))
 (v7 (iz0 5 (gc (.int 1)))
 (v7 (J0 (y80 (z9 (oA (z9 (o2 (gv 0) (o2 (gv 6) (gc (.int 0)) ixD) ixD) v6) m_values) (z9 (oA (z9 (o2 (gv 1) (o2 (gv 6) (gc (.int 1)) ixD) ixD) v6) m_values) v6))) (gN 7)
 (v7 (ifD (J3 (ob (oA (z9 (gv 7) v6) U0)) (J3 (z50 (ob (o2 (o2 (o2 (gv 7) (gc (.int 0)) ixD) (gc (.int 1)) ixD) (gv 3) (T4 true)))) (z50 (ob (o2 (o2 (o2 (gv 7) (gc (.int 1)) ixD) (gc (.int 1)) ixD) (gv 4) (T4 true))))))
 (v7 (W8 (Y9 (gc (.bl true))) (putAt 3 (o2 (o2 (gv 7) (gc (.int 0)) ixD) (gc (.int 1)) ixD)))
 (v7 (W8 (Y9 (gc (.bl true))) (putAt 4 (o2 (o2 (gv 7) (gc (.int 1)) ixD) (gc (.int 1)) ixD)))
 (v7 (V1 (zm0 2 (oA (z9 (gv 7) v6) V3)))
 u5)))
 u5)
 u5))
 u5))) 100000)
 (v7 (lb0 2)
 u5))))))
def od0:List Str:=["one", "other", "pairs", "mine", "yours", "number", "pair", "both"]
def yn0:List D->Option D:=mkN 2 od0 uo0
def vb0:GS:=(v7 (U8 (o9 1 [] (V4 (oA (z9 (gv 0) v6) m_values)) (gN 0) (ob (X6 isTup (gv 0))) (o2 (gv 0) (gc (.int 1)) ixD)))
 u5)
def t80:List Str:=["part"]
def zc0:List D->Option D:=mkN 1 t80 vb0
def xg0:GS:=(v7 (R5 3 (W7 v6))
 (v7 (R5 4 (oA (z9 (gv 2) v6) vc0))
 (v7 (R5 5 (W7 (z9 (gv 1) v6)))
 (v7 (W9 (ob (o2 (R0 (oA (z9 (gv 5) v6) Y8)) (gc (.int 0)) gtD))
 (v7 (W8 (q90 5) (gN 6))
 (v7 (ifD (z50 (ob (o2 (gv 6) (gv 4) (T4 true))))
 (v7 (W8 (Y9 (gc (.bl true))) (putAt 4 (gv 6)))
 (v7 (V1 (zm0 3 (gv 6)))
 (v7 (V1 (ql0 5 (oA (z9 (oA (z9 (o2 (gv 0) (gv 6) ixD) v6) zc0) v6) qm0)))
 u5)))
 u5)
 u5)) 100000)
 (v7 (lb0 3)
 u5)))))
def wk0:List Str:=["web", "k", "left", "order", "seen", "waiting", "part"]
def ze0:List D->Option D:=mkN 3 wk0 xg0
def mb0:GS:=(v7 (U8 (oA (z9 (gv 0) (z9 (gv 1) (z9 (gc (.dct (.inl []) [])) v6))) ze0))
 u5)
def gf0:List Str:=["web", "k"]
def v20:List D->Option D:=mkN 2 gf0 mb0
def M5:GS:=(v7 (ifD (ob (o2 (o2 (gv 0) (gc (.int 0)) ixD) (gc (.str "text")) eqD))
 (v7 (o7 (gv 0))
 u5)
 u5)
 (v7 (ifD (ob (o2 (o2 (gv 0) (gc (.int 0)) ixD) (gc (.str "row")) eqD))
 (v7 (o7 (m7 (z9 (gc (.str "row")) (z9 (oA (z9 (gv 1) v6) Z8) v6))))
 u5)
 u5)
 (v7 (m5 (gN 2) (oA (z9 (oA (z9 (gv 0) v6) Y5) (z9 (gv 1) v6)) rn0))
 (v7 (ifD (ob (o2 (o2 (gv 0) (gc (.int 0)) ixD) (gc (.str "table")) eqD))
 (v7 (o7 (m7 (z9 (gc (.str "table")) (z9 (gv 2) v6))))
 u5)
 u5)
 (v7 (o7 (m7 (z9 (gc (.str "record")) (z9 (o2 (gv 0) (gc (.int 1)) ixD) (z9 (gv 2) v6)))))
 u5)))))
def J8:List Str:=["part", "some", "pairs"]
def V9:List D->Option D:=mkF 2 J8 M5
def yi0:GS:=(v7 (m5 (gN 2) (o9 1 [1] (V4 (oA (z9 (gv 0) v6) m_values)) (gN 0) noT (ifG (ob (X6 isTup (gv 0))) (m7 (z9 (gc (.str "at")) (z9 (o2 (gv 1) (o2 (gv 0) (gc (.int 1)) ixD) wd0) v6))) (gv 0))))
 (v7 (o7 (oA (z9 (gv 0) (z9 (gv 2) v6)) V9))
 u5))
def xr0:List Str:=["part", "numbers", "some"]
def G7:List D->Option D:=mkF 2 xr0 yi0
def rq0:GS:=(v7 (m5 (gN 2) (om0 (oA (z9 (gv 0) (z9 (gv 1) v6)) v20)))
 (v7 (R5 3 (gc (.dct (.inl []) [])))
 (v7 (J0 (ra0 (z9 (gv 2) v6)) (G6 4 5)
 (v7 (W8 (Y9 (gv 4)) (putAt 3 (gv 5)))
 u5))
 (v7 (o7 (s00 (oA (z9 (o9 1 [0,3] (V4 (gv 2)) (gN 0) noT (oA (z9 (o2 (gv 1) (gv 0) ixD) (z9 (gv 2) v6)) G7)) v6) Z8)))
 u5))))
def o90:List Str:=["web", "k", "order", "numbers", "number", "part"]
def yf0:List D->Option D:=mkF 2 o90 rq0
def fc0:GS:=(v7 (m5 (gN 2) (oA (z9 (gv 0) v6) λds=>yf0 (ds++[(.int 0)])))
 (v7 (m5 (gN 3) (oA (z9 (gv 1) v6) λds=>yf0 (ds++[(.int 0)])))
 (v7 (m5 (gN 4) (oA (z9 (gv 2) (z9 (gv 3) v6)) yn0))
 (v7 (m5 (gN 5) (oA (z9 (gv 2) (z9 (gv 3) (z9 (gv 4) v6))) z20))
 (v7 (W9 (ob (o2 (oA (z9 (gv 5) v6) Y8) (oA (z9 (gv 4) v6) Y8) ltD))
 (v7 (m5 (gN 4) (gv 5))
 (v7 (m5 (gN 5) (oA (z9 (gv 2) (z9 (gv 3) (z9 (gv 4) v6))) z20))
 u5)) 100000)
 (v7 (U8 (oA (z9 (gv 5) v6) uw0))
 u5))))))
def X20:List Str:=["old", "new", "one", "other", "pairs", "rest"]
def t70:List D->Option D:=mkN 2 X20 fc0
def zz0(T7:List D->Option D):GS:=(v7 (ifD (ob (o2 (gv 1) (gc .non) ks0))
 (v7 (o7 (o2 (gv 0) (gc .non) ks0))
 u5)
 u5)
 (v7 (ifD (ob (X6 isStr (gv 1)))
 (v7 (o7 (xu0 (X6 isStr (gv 0)) (o2 (gv 0) (gv 1) eqD)))
 u5)
 u5)
 (v7 (ifD (ob (X6 isInt (gv 1)))
 (v7 (o7 (xu0 (X6 isInt (gv 0)) (xu0 (gg0 (X6 isBool (gv 0))) (o2 (gv 0) (gv 1) eqD))))
 u5)
 u5)
 (v7 (ifD (o70 (ob (o2 (X6 isTup (gv 0)) (X6 isTup (gv 1)) neD)) (ob (o2 (X6 pd0 (gv 0)) (X6 pd0 (gv 1)) neD)))
 (v7 (o7 (gc (.bl false)))
 u5)
 u5)
 (v7 (o7 (xu0 (o2 (oA (z9 (gv 0) v6) Y8) (oA (z9 (gv 1) v6) Y8) eqD) (oA (z9 (o9 1 [0,1] (O2 (z9 (oA (z9 (gv 1) v6) Y8) v6)) (gN 0) noT (oA (z9 (o2 (gv 1) (gv 0) ixD) (z9 (o2 (gv 2) (gv 0) ixD) v6)) T7)) v6) k20)))
 u5)))))
def xv0:List Str:=["_law_found", "_law_due"]
def Z4:Nat->List D->Option D
 | 0=>λ_=>none
 | k+1=>mkF 2 xv0 (zz0 (Z4 k))
def T7:List D->Option D:=Z4 8
def xm0:GS:=(v7 (ifD (ob (o2 (o2 (gv 0) (gc (.int 0)) ixD) (gc (.str "text")) eqD))
 (v7 (U8 (W7 v6))
 u5)
 u5)
 (v7 (m5 (gN 1) (o2 (gv 0) (unG J1 (gc (.int 1))) ixD))
 (v7 (ifD (ob (o2 (o2 (gv 0) (gc (.int 0)) ixD) (gc (.str "row")) neD))
 (v7 (m5 (gN 1) (o9 1 [] (tupI (o2 (gv 0) (unG J1 (gc (.int 1))) ixD)) (gN 0) noT (o2 (gv 0) (gc (.int 1)) ixD)))
 u5)
 u5)
 (v7 (U8 (o9 1 [] (anyI (gv 1)) (gN 0) (ob (X6 isTup (gv 0))) (o2 (gv 0) (gc (.int 1)) ixD)))
 u5))))
def vv0:List Str:=["_law_part", "_law_some"]
def S6:List D->Option D:=mkN 1 vv0 xm0
def j8:Nat->List D->Option (List D):=Km.j8
def S7:List D->Option (List D):=j8 62
def K9(S7:List D->Option (List D)):GS:=(v7 (ifD (z50 (ob (o2 (gv 1) (gv 2) (J9 true))))
 (v7 (V1 (mo0 2 (gv 1)))
 (v7 (J0 (V4 (oA (z9 (o2 (gv 0) (gv 1) ixD) v6) S6)) (gN 3)
 (v7 (v10 2 (z9 (gv 0) (z9 (gv 3) v6)) S7)
 u5))
 u5))
 u5)
 u5)
def zj0:List Str:=["_law_web", "_law_at", "_law_found", "_law_other"]
section
def v50:GS:=(v7 (ifD (ob (X6 isTup (gv 0)))
 (v7 (o7 (m7 (z9 (gc (.str "at")) (z9 (o2 (gv 1) (o2 (gv 0) (gc (.int 1)) ixD) wd0) v6))))
 u5)
 u5)
 (v7 (o7 (gv 0))
 u5))
def tn0:List Str:=["_law_value", "_law_numbers"]
def W5:List D->Option D:=mkF 2 tn0 v50
def xq0:GS:=(v7 (R5 2 (W7 v6))
 (v7 (v10 2 (z9 (gv 0) (z9 (gv 1) v6)) S7)
 (v7 (wt0 2 (R5 3 (gc (.dct (.inl []) []))))
 (v7 (J0 (V4 (gv 2)) (gN 4)
 (v7 (W8 (Y9 (R0 (oA (z9 (gv 3) v6) we0))) (putAt 3 (gv 4)))
 u5))
 (v7 (wt0 3 (R5 5 (W7 v6)))
 (v7 (J0 (V4 (gv 2)) (gN 4)
 (v7 (m5 (gN 6) (o2 (gv 0) (gv 4) ixD))
 (v7 (ifD (ob (o2 (o2 (gv 6) (gc (.int 0)) ixD) (gc (.str "row")) eqD))
 (v7 (m5 (gN 6) (m7 (z9 (gc (.str "row")) (z9 (oA (z9 (o9 1 [3] (tupI (o2 (gv 6) (gc (.int 1)) ixD)) (gN 0) noT (oA (z9 (gv 0) (z9 (gv 1) v6)) W5)) v6) Z8) v6))))
 u5)
 (v7 (ifD (ob (o2 (o2 (gv 6) (gc (.int 0)) ixD) (gc (.str "text")) neD))
 (v7 (m5 (gN 7) (o9 2 [3] (tupI (o2 (gv 6) (unG J1 (gc (.int 1))) ixD)) (G6 0 1) noT (m7 (z9 (gv 0) (z9 (oA (z9 (gv 1) (z9 (gv 2) v6)) W5) v6)))))
 (v7 (m5 (gN 6) (o2 (J7 (gv 6) O6 (someO (unG J1 (gc (.int 1))))) (m7 (z9 (oA (z9 (gv 7) v6) Z8) v6)) j6))
 u5))
 u5)
 u5))
 (v7 (V1 (zm0 5 (gv 6)))
 u5))))
 (v7 (o7 (s00 (oA (z9 (gv 5) v6) Z8)))
 u5)))))))
def vk0:List Str:=["_law_web", "_law_at", "_law_found", "_law_numbers", "_law_k", "_law_parts", "_law_part", "_law_pairs"]
def J2:List D->Option D:=mkF 2 vk0 xq0
def yl0:GS:=(v7 (ifD (ob (o2 (o2 (gv 0) (gc (.int 0)) ixD) (gc (.str "text")) eqD))
 (v7 (U8 (W7 v6))
 u5)
 u5)
 (v7 (ifD (ob (o2 (o2 (gv 0) (gc (.int 0)) ixD) (gc (.str "row")) eqD))
 (v7 (U8 (oA (z9 (o2 (gv 0) (gc (.int 1)) ixD) v6) wn0))
 u5)
 u5)
 (v7 (U8 (o9 1 [] (tupI (o2 (gv 0) (unG J1 (gc (.int 1))) ixD)) (gN 0) noT (o2 (gv 0) (gc (.int 1)) ixD)))
 u5)))
def w70:List Str:=["_law_part"]
def j9:List D->Option D:=mkN 1 w70 yl0
def q50:GS:=(v7 (ifD (ob (o2 (o2 (gv 0) (gc (.int 0)) ixD) (gc (.str "text")) eqD))
 (v7 (o7 (gv 0))
 u5)
 u5)
 (v7 (ifD (ob (o2 (o2 (gv 0) (gc (.int 0)) ixD) (gc (.str "row")) eqD))
 (v7 (o7 (m7 (z9 (gc (.str "row")) (z9 (oA (z9 (o2 (gv 0) (gc (.int 1)) ixD) v6) Y8) v6))))
 u5)
 u5)
 (v7 (o7 (o2 (J7 (gv 0) O6 (someO (unG J1 (gc (.int 1))))) (m7 (z9 (oA (z9 (o9 1 [] (tupI (o2 (gv 0) (unG J1 (gc (.int 1))) ixD)) (gN 0) noT (o2 (gv 0) (gc (.int 0)) ixD)) v6) Z8) v6)) j6))
 u5)))
def kw0:List Str:=["_law_part"]
def K8:List D->Option D:=mkF 1 kw0 q50
def tv0:GS:=(v7 (ifD (ob (o2 (oA (z9 (gv 0) v6) K8) (oA (z9 (gv 1) v6) K8) M7))
 (v7 (o7 (gc (.bl false)))
 u5)
 u5)
 (v7 (J0 (y80 (z9 (oA (z9 (gv 0) v6) j9) (z9 (oA (z9 (gv 1) v6) j9) v6))) (G6 3 4)
 (v7 (ifD (J3 (ob (X6 isTup (gv 3))) (ob (X6 isTup (gv 4))))
 (v7 (ifD (ob (o2 (m7 (z9 (o2 (gv 3) (gc (.int 1)) ixD) (z9 (o2 (gv 4) (gc (.int 1)) ixD) v6))) (gv 2) (T4 true)))
 (v7 (o7 (gc (.bl false)))
 u5)
 u5)
 u5)
 (v7 (ifD (ob (o2 (gv 3) (gv 4) M7))
 (v7 (o7 (gc (.bl false)))
 u5)
 u5)
 u5))
 u5))
 (v7 (o7 (gc (.bl true)))
 u5)))
def nv0:List Str:=["_law_one", "_law_other", "_law_there", "_law_here", "_law_beside"]
def zx0:List D->Option D:=mkF 3 nv0 tv0
def q20:GS:=(v7 (R5 2 (W7 (z9 (m7 (z9 (gc (.int 0)) (z9 (gc (.int 0)) v6))) v6)))
 (v7 (m5 (gN 3) (gc (.int 0)))
 (v7 (W9 (ob (o2 (gv 3) (R0 (oA (z9 (gv 2) v6) Y8)) ltD))
 (v7 (W8 (Y9 (ye0 (o2 (gv 2) (gv 3) ixD))) (G6 4 5))
 (v7 (m5 (gN 3) (o2 (gv 3) (gc (.int 1)) j6))
 (v7 (J0 (y80 (z9 (oA (z9 (o2 (gv 0) (gv 4) ixD) v6) j9) (z9 (oA (z9 (o2 (gv 1) (gv 5) ixD) v6) j9) v6))) (G6 6 7)
 (v7 (ifD (J3 (ob (X6 isTup (gv 6))) (ob (X6 isTup (gv 7))))
 (v7 (ifD (J3 (z50 (ob (o2 (o2 (gv 6) (gc (.int 1)) ixD) (o9 1 [] (V4 (gv 2)) (gN 0) noT (o2 (gv 0) (gc (.int 0)) ixD)) (J9 true)))) (z50 (ob (o2 (o2 (gv 7) (gc (.int 1)) ixD) (o9 1 [] (V4 (gv 2)) (gN 0) noT (o2 (gv 0) (gc (.int 1)) ixD)) (J9 true)))))
 (v7 (V1 (zm0 2 (m7 (z9 (o2 (gv 6) (gc (.int 1)) ixD) (z9 (o2 (gv 7) (gc (.int 1)) ixD) v6)))))
 u5)
 u5)
 u5)
 u5)
 u5))
 u5))) 100000)
 (v7 (wt0 2 (m5 (gN 8) (W7 (z9 (m7 (z9 (gc (.int 0)) (z9 (gc (.int 0)) v6))) v6))))
 (v7 (W9 (ob (o2 (gv 8) (W7 v6) M7))
 (v7 (m5 (gN 9) (oA (z9 (o9 1 [] (V4 (gv 2)) (gN 0) noT (m7 (z9 (gv 0) (z9 (gc (.bl true)) v6)))) v6) uu0))
 (v7 (m5 (gN 8) (o9 1 [0,1,9] (V4 (gv 2)) (gN 0) (v30 (ob (oA (z9 (o2 (gv 1) (o2 (gv 0) (gc (.int 0)) ixD) ixD) (z9 (o2 (gv 2) (o2 (gv 0) (gc (.int 1)) ixD) ixD) (z9 (gv 3) v6))) zx0))) (gv 0)))
 (v7 (m5 (gN 2) (o9 1 [8] (V4 (gv 2)) (gN 0) (ob (o2 (gv 0) (gv 1) (oh0 true))) (gv 0)))
 u5))) 100000)
 (v7 (U8 (oA (z9 (gv 2) v6) uw0))
 u5))))))
def j30:List Str:=["_law_old", "_law_new", "_law_pairs", "_law_at", "_law_k", "_law_j", "_law_here", "_law_beside", "_law_bad", "_law_there"]
def wj0:List D->Option D:=mkN 2 j30 q20
def z10:GS:=(v7 (ifD (ob (o2 (gv 1) (oA (z9 (gv 0) v6) Y8) ltD))
 (v7 (o7 (o2 (gv 0) (gv 1) ixD))
 u5)
 u5)
 (v7 (o7 (o2 (o2 (o2 (gv 1) (gc (.int 7919)) M9) (gc (.int 5)) j6) (o2 (gv 1) (gc (.int 31)) j6) M9))
 u5))
def zo0:List Str:=["_law_script", "_law_k"]
def d9:List D->Option D:=mkF 2 zo0 z10
def yg0:GS:=(v7 (o7 (o2 (o2 (o2 (o2 (o2 (o2 (gv 0) (gc (.int 2147483629)) j5) (gc (.int 1)) j6) (o2 (o2 (gc (.int 48271)) (o2 (gc (.int 69621)) (gv 1) M9) j6) (o2 (o2 (gc (.int 2)) (gv 1) M9) (gv 1) M9) j6) M9) (gv 1) j6) (gc (.int 2147483647)) j5) (gc (.int 7)) zh0))
 u5)
def xl0:List Str:=["_law_cell", "_law_k"]
def t7:List D->Option D:=mkF 2 xl0 yg0
def K1:GS:=(v7 (m5 (gN 3) (o2 (oA (z9 (gv 0) (z9 (gv 1) v6)) t7) (gc (.int 5)) j5))
 (v7 (ifD (ob (o2 (gv 3) (gc (.int 0)) eqD))
 (v7 (o7 (gc .non))
 u5)
 u5)
 (v7 (ifD (ob (o2 (gv 3) (gc (.int 3)) ltD))
 (v7 (o7 (m7 (z9 (gc (.str "at")) (z9 (o2 (oA (z9 (gv 0) (z9 (o2 (gc (.int 40)) (gv 1) j6) v6)) t7) (gv 2) j5) v6))))
 u5)
 u5)
 (v7 (ifD (ob (o2 (gv 3) (gc (.int 3)) eqD))
 (v7 (o7 (o2 (o2 (oA (z9 (gv 0) (z9 (o2 (gc (.int 60)) (gv 1) j6) v6)) t7) (gc (.int 260)) j5) (gc (.int 130)) tt0))
 u5)
 u5)
 (v7 (o7 (o2 (o2 (o2 (o2 (o2 (o2 (gv 0) (gc (.int 1)) j6) (o2 (gv 1) (gc (.int 3)) j6) M9) (o2 (gc (.int 982451653)) (gc (.int 7)) ud0) gt0) (o2 (o2 (gc (.int 2)) (o2 (gc (.int 10)) (gc (.int 60)) ud0) M9) (gc (.int 1)) tt0) j5) (gc (.int 1)) j6) (o2 (gc (.int 10)) (gc (.int 60)) ud0) tt0))
 u5)))))
def z70:List Str:=["_law_cell", "_law_k", "_law_many", "_law_way"]
def Z2:List D->Option D:=mkF 3 z70 K1
def N7:GS:=(v7 (m5 (gN 3) (o2 (oA (z9 (gv 0) (z9 (gc (.int 1)) v6)) t7) (gc (.int 5)) j5))
 (v7 (m5 (gN 4) (o2 (W7 (z9 (gc (.int 0)) (z9 (gc (.int 1)) (z9 (gc (.int 2)) (z9 (gc (.int 3)) (z9 (gc (.int 2)) (z9 (gc (.int 1)) (z9 (gc (.int 4)) (z9 (gc (.int 12)) v6))))))))) (o2 (oA (z9 (gv 0) (z9 (gc (.int 2)) v6)) t7) (gc (.int 8)) j5) ixD))
 (v7 (ifD (ob (o2 (gv 3) (gc (.int 0)) eqD))
 (v7 (m5 (gN 5) (gc (.str "abcdefghijklmnopqrstuvwxyz0123456789 ")))
 (v7 (o7 (m7 (z9 (gc (.str "text")) (z9 (wc0 (gc (.str "")) (z9 (o9 1 [0,5] (O2 (z9 (o2 (oA (z9 (gv 0) (z9 (gc (.int 3)) v6)) t7) (gc (.int 21)) j5) v6)) (gN 0) noT (o2 (gv 2) (o2 (oA (z9 (gv 1) (z9 (o2 (gc (.int 80)) (gv 0) j6) v6)) t7) (gc (.int 37)) j5) ixD)) v6)) v6))))
 u5))
 u5)
 (v7 (m5 (gN 6) (o9 1 [0,2] (O2 (z9 (gv 4) v6)) (gN 0) noT (oA (z9 (gv 1) (z9 (o2 (gc (.int 4)) (gv 0) j6) (z9 (gv 2) v6))) Z2)))
 (v7 (ifD (ob (o2 (gv 3) (gc (.int 1)) eqD))
 (v7 (o7 (m7 (z9 (gc (.str "row")) (z9 (oA (z9 (gv 6) v6) Z8) v6))))
 u5)
 u5)
 (v7 (m5 (gN 7) (o2 (oA (z9 (gv 0) (z9 (gc (.int 30)) v6)) t7) (gc (.int 12)) j5))
 (v7 (m5 (gN 8) (oA (z9 (o9 1 [1,6,7] (O2 (z9 (gv 4) v6)) (gN 0) noT (m7 (z9 (o2 (gv 1) (o2 (o2 (gv 3) (gv 0) j6) (gc (.int 12)) j5) ixD) (z9 (o2 (gv 2) (gv 0) ixD) v6)))) v6) Z8))
 (v7 (ifD (ob (o2 (gv 3) (gc (.int 2)) eqD))
 (v7 (o7 (m7 (z9 (gc (.str "table")) (z9 (gv 8) v6))))
 u5)
 u5)
 (v7 (o7 (m7 (z9 (gc (.str "record")) (z9 (o2 (gv 1) (o2 (oA (z9 (gv 0) (z9 (gc (.int 31)) v6)) t7) (gc (.int 12)) j5) ixD) (z9 (gv 8) v6)))))
 u5)))))))))
def G3:List Str:=["_law_cell", "_law_names", "_law_many", "_law_kind", "_law_size", "_law_signs", "_law_some", "_law_turn", "_law_pairs"]
def X3:List D->Option D:=mkF 3 G3 N7
def y60:GS:=(v7 (m5 (gN 2) (gc (.str "abcdefghijklmnopqrstuvwxyz0123456789")))
 (v7 (m5 (gN 3) (wc0 (gc (.str "")) (z9 (o9 1 [0,2] (O2 (z9 (o2 (oA (z9 (gv 0) (z9 (gc (.int 20)) v6)) t7) (gc (.int 8)) j5) v6)) (gN 0) noT (o2 (gv 2) (o2 (oA (z9 (gv 1) (z9 (gv 0) v6)) t7) (gc (.int 36)) j5) ixD)) v6)))
 (v7 (m5 (gN 4) (o2 (oA (z9 (gv 0) (z9 (gc (.int 21)) v6)) t7) (o2 (oA (z9 (gv 3) v6) Y8) (gc (.int 1)) j6) j5))
 (v7 (U8 (o9 1 [0,2,3,4] (O2 (z9 (gv 1) v6)) (gN 0) noT (o2 (o2 (J7 (gv 3) O6 (someO (gv 4))) (o2 (gv 2) (o2 (o2 (o2 (gc (.int 3)) (gv 0) M9) (gv 1) j6) (gc (.int 36)) j5) ixD) j6) (J7 (gv 3) (someO (gv 4)) O6) j6)))
 u5))))
def yt0:List Str:=["_law_cell", "_law_many", "_law_signs", "_law_base", "_law_at"]
def Q7:List D->Option D:=mkN 2 yt0 y60
def zp0:GS:=(v7 (m5 (gN 3) (o2 (gc (.int 1)) (o2 (oA (z9 (oA (z9 (gv 0) (z9 (gv 1) v6)) d9) (z9 (gc (.int 3)) v6)) t7) (gv 2) j5) j6))
 (v7 (m5 (gN 4) (oA (z9 (oA (z9 (gv 0) (z9 (o2 (gv 1) (gc (.int 1)) j6) v6)) d9) (z9 (gc (.int 12)) v6)) Q7))
 (v7 (o7 (oA (z9 (o9 1 [0,1,3,4] (O2 (z9 (gv 3) v6)) (gN 0) noT (oA (z9 (oA (z9 (gv 1) (z9 (o2 (o2 (gv 2) (gc (.int 2)) j6) (gv 0) j6) v6)) d9) (z9 (gv 4) (z9 (gv 3) v6))) X3)) v6) Z8))
 u5)))
def yc0:List Str:=["_law_script", "_law_start", "_law_most", "_law_many", "_law_names"]
def T3:List D->Option D:=mkF 3 yc0 zp0
def tu0:GS:=(v7 (m5 (gN 3) (o2 (gv 2) (o2 (oA (z9 (gv 1) (z9 (gc (.int 5)) v6)) t7) (gc (.int 12)) j5) ixD))
 (v7 (ifD (ob (o2 (o2 (gv 0) (gc (.int 0)) ixD) (gc (.str "text")) eqD))
 (v7 (o7 (m7 (z9 (gc (.str "text")) (z9 (J7 (J7 (o2 (o2 (gv 0) (gc (.int 1)) ixD) (gc (.str "a b 9")) j6) (someO (o2 (oA (z9 (gv 1) (z9 (gc (.int 6)) v6)) t7) (gc (.int 4)) j5)) O6) O6 (someO (gc (.int 20)))) v6))))
 u5)
 u5)
 (v7 (ifD (ob (o2 (o2 (gv 0) (gc (.int 0)) ixD) (gc (.str "row")) eqD))
 (v7 (o7 (m7 (z9 (gc (.str "row")) (z9 (J7 (o2 (o2 (gv 0) (gc (.int 1)) ixD) (m7 (z9 (gc .non) (z9 (gc (.int 3)) v6))) j6) O6 (someO (o2 (oA (z9 (gv 1) (z9 (gc (.int 6)) v6)) t7) (gc (.int 12)) j5))) v6))))
 u5)
 u5)
 (v7 (ifD (ob (o2 (o2 (gv 0) (gc (.int 0)) ixD) (gc (.str "table")) eqD))
 (v7 (o7 (m7 (z9 (gc (.str "record")) (z9 (gv 3) (z9 (o2 (gv 0) (gc (.int 1)) ixD) v6)))))
 u5)
 u5)
 (v7 (o7 (m7 (z9 (gc (.str "record")) (z9 (gv 3) (z9 (J7 (o2 (gv 0) (gc (.int 2)) ixD) O6 (someO (o2 (oA (z9 (gv 1) (z9 (gc (.int 6)) v6)) t7) (gc (.int 13)) j5))) v6)))))
 u5)))))
def m00:List Str:=["_law_part", "_law_cell", "_law_names", "_law_name"]
def zy0:List D->Option D:=mkF 3 m00 tu0
def w90:GS:=(v7 (ifD (ob (o2 (o2 (gv 0) (gc (.int 0)) ixD) (gc (.str "row")) eqD))
 (v7 (o7 (m7 (z9 (gc (.str "row")) (z9 (oA (z9 (gv 1) v6) Z8) v6))))
 u5)
 u5)
 (v7 (ifD (ob (o2 (o2 (gv 0) (gc (.int 0)) ixD) (gc (.str "text")) eqD))
 (v7 (o7 (gv 0))
 u5)
 u5)
 (v7 (m5 (gN 2) (o9 2 [] (rp0 (z9 (o2 (gv 0) (unG J1 (gc (.int 1))) ixD) (z9 (gv 1) v6))) (G6 0 1) noT (m7 (z9 (o2 (gv 0) (gc (.int 0)) ixD) (z9 (gv 1) v6)))))
 (v7 (o7 (o2 (J7 (gv 0) O6 (someO (unG J1 (gc (.int 1))))) (m7 (z9 (oA (z9 (gv 2) v6) Z8) v6)) j6))
 u5))))
def uf0:List Str:=["_law_part", "_law_some", "_law_pairs"]
def U3:List D->Option D:=mkF 2 uf0 w90
def ux0:GS:=(v7 (R5 3 (oA (z9 (gv 0) v6) wn0))
 (v7 (J0 (O2 (z9 (o2 (oA (z9 (gv 1) (z9 (gc (.int 7)) v6)) t7) (gc (.int 4)) j5) v6)) (gN 4)
 (v7 (m5 (gN 5) (oA (z9 (gv 1) (z9 (o2 (gc (.int 8)) (gv 4) j6) v6)) t7))
 (v7 (m5 (gN 6) (o2 (gv 5) (R0 (oA (z9 (gv 3) v6) Y8)) j5))
 (v7 (wt0 7 (R5 7 (oA (z9 (ye0 (o2 (gv 3) (gv 6) ixD)) v6) j9)))
 (v7 (ifD (ob (o2 (o2 (o2 (gv 5) (gc (.int 60)) zh0) (gc (.int 5)) j5) (gc (.int 0)) ue0))
 (v7 (W8 (Y9 (oA (z9 (ye0 (o2 (gv 3) (gv 6) ixD)) (z9 (gv 5) (z9 (gv 2) v6))) zy0)) (setAt 3 (gv 6)))
 u5)
 (v7 (ifD (z50 (ob (o2 (gv 7) (W7 v6) M7)))
 (v7 (ifD (J3 (ob (o2 (o2 (o2 (gv 5) (gc (.int 300)) zh0) (gc (.int 4)) j5) (gc (.int 0)) ue0)) (ob (o2 (R0 (oA (z9 (gv 3) v6) Y8)) (gc (.int 60)) ltD)))
 (v7 (V1 (zm0 3 (o2 (W7 (z9 (m7 (z9 (gc (.str "text")) (z9 (gc (.str "new")) v6))) (z9 (m7 (z9 (gc (.str "row")) (z9 (m7 (z9 (m7 (z9 (gc (.str "at")) (z9 (gv 6) v6))) (z9 (gc .non) v6))) v6))) v6))) (o2 (o2 (gv 5) (gc (.int 1200)) zh0) (gc (.int 2)) j5) ixD)))
 (v7 (W8 (Y9 (m7 (z9 (gc (.str "at")) (z9 (o2 (R0 (oA (z9 (gv 3) v6) Y8)) (gc (.int 1)) tt0) v6)))) (setAt 7 (o2 (o2 (gv 5) (gc (.int 2400)) zh0) (R0 (oA (z9 (gv 7) v6) Y8)) j5)))
 u5))
 (v7 (W8 (Y9 (oA (z9 (gv 5) (z9 (gc (.int 4)) (z9 (R0 (oA (z9 (gv 3) v6) Y8)) v6))) Z2)) (setAt 7 (o2 (o2 (gv 5) (gc (.int 2400)) zh0) (R0 (oA (z9 (gv 7) v6) Y8)) j5)))
 u5))
 (v7 (W8 (Y9 (ye0 (oA (z9 (o2 (gv 3) (gv 6) ixD) (z9 (gv 7) v6)) U3))) (setAt 3 (gv 6)))
 u5))
 u5)
 u5))
 u5)))))
 (v7 (o7 (s00 (oA (z9 (gv 3) v6) Z8)))
 u5)))
def o80:List Str:=["_law_web", "_law_cell", "_law_names", "_law_parts", "_law_j", "_law_more", "_law_at", "_law_some"]
def yp0:List D->Option D:=mkF 3 o80 ux0
def zn0:GS:=(v7 (R5 2 (W7 (z9 (gc (.int 0)) v6)))
 (v7 (J0 (rc0 (z9 (gc (.int 1)) (z9 (oA (z9 (gv 0) v6) Y8) v6))) (gN 3)
 (v7 (V1 (qk0 2 (o2 (gc (.int 1)) (o2 (oA (z9 (gv 1) (z9 (o2 (gc (.int 100)) (gv 3) j6) v6)) t7) (R0 (oA (z9 (gv 2) v6) Y8)) j5) j6) (gv 3)))
 u5))
 (v7 (wt0 2 (R5 4 (gc (.dct (.inl []) []))))
 (v7 (J0 (V4 (gv 2)) (gN 3)
 (v7 (W8 (Y9 (R0 (oA (z9 (gv 4) v6) we0))) (putAt 4 (gv 3)))
 u5))
 (v7 (wt0 4 (R5 5 (W7 v6)))
 (v7 (J0 (V4 (gv 2)) (gN 3)
 (v7 (V1 (zm0 5 (oA (z9 (o2 (gv 0) (gv 3) ixD) (z9 (o9 1 [4] (V4 (oA (z9 (o2 (gv 0) (gv 3) ixD) v6) j9)) (gN 0) noT (oA (z9 (gv 0) (z9 (gv 1) v6)) W5)) v6)) U3)))
 u5))
 (v7 (o7 (s00 (oA (z9 (gv 5) v6) Z8)))
 u5)))))))
def yq0:List Str:=["_law_web", "_law_cell", "_law_order", "_law_k", "_law_numbers", "_law_parts"]
def R6:List D->Option D:=mkF 2 yq0 zn0
def pc0:GS:=(v7 (m5 (gN 1) (oA (z9 (gv 0) (z9 (gc (.int 1)) (z9 (o2 (W7 (z9 (gc (.int 16)) (z9 (gc (.int 60)) v6))) (oA (z9 (o2 (o2 (oA (z9 (gv 0) (z9 (gc (.int 0)) v6)) d9) (gc (.int 8)) j5) (gc (.int 5)) eqD) v6) intOfD) ixD) v6))) T3))
 (v7 (m5 (gN 2) (oA (z9 (oA (z9 (gv 0) (z9 (gc (.int 2)) v6)) d9) (z9 (gc (.int 12)) v6)) Q7))
 (v7 (m5 (gN 3) (oA (z9 (gv 0) (z9 (gc (.int 40)) v6)) d9))
 (v7 (m5 (gN 4) (oA (z9 (gv 1) (z9 (gv 3) (z9 (gv 2) v6))) yp0))
 (v7 (ifD (ob (o2 (o2 (oA (z9 (gv 3) (z9 (gc (.int 1)) v6)) t7) (gc (.int 8)) j5) (gc (.int 3)) eqD))
 (v7 (m5 (gN 4) (oA (z9 (gv 0) (z9 (gc (.int 20)) (z9 (gc (.int 12)) v6))) T3))
 u5)
 u5)
 (v7 (ifD (ob (o2 (o2 (oA (z9 (gv 3) (z9 (gc (.int 2)) v6)) t7) (gc (.int 2)) j5) (gc (.int 1)) eqD))
 (v7 (m5 (gN 4) (oA (z9 (gv 4) (z9 (gv 3) v6)) R6))
 u5)
 u5)
 (v7 (o7 (m7 (z9 (gv 1) (z9 (gv 4) v6))))
 u5)))))))
def g90:List Str:=["_law_script", "_law_old", "_law_names", "_law_cell", "_law_new"]
def v60:List D->Option D:=mkF 1 g90 pc0
def bm0:GS:=(v7 (W8 (Y9 (oA (z9 (gv 0) v6) v60)) (G6 1 2))
 (v7 (m5 (gN 3) (oA (z9 (oA (z9 (gv 1) (z9 (gc (.int 0)) v6)) J2) (z9 (oA (z9 (gv 2) (z9 (gc (.int 0)) v6)) J2) v6)) wj0))
 (v7 (R5 4 (oA (z9 (gv 1) (z9 (gv 2) v6)) t70))
 (v7 (ifD (v30 (ob (ye0 (oA (z9 (gv 4) (z9 (gv 3) v6)) T7))))
 (v7 (o7 (gc (.bl false)))
 u5)
 u5)
 (v7 (V1 (zm0 4 (m7 (z9 (gc (.int 0)) (z9 (gc (.int 0)) v6)))))
 (v7 (ifD (v30 (ob (oA (z9 (oA (z9 (gv 1) (z9 (gv 2) v6)) t70) (z9 (gv 3) v6)) T7)))
 (v7 (o7 (gc (.bl false)))
 u5)
 u5)
 (v7 (m5 (gN 5) (oA (z9 (gv 1) (z9 (gc (.int 0)) v6)) J2))
 (v7 (o7 (oA (z9 (oA (z9 (gv 1) (z9 (gv 1) v6)) t70) (z9 (o9 1 [] (O2 (z9 (oA (z9 (gv 5) v6) Y8) v6)) (gN 0) noT (m7 (z9 (gv 0) (z9 (gv 0) v6)))) v6)) T7))
 u5))))))))
def Ur0:List Str:=["_law_script", "_law_old", "_law_new", "_law_due", "_law_found", "_law_whole"]
def re0:List D->Option D:=mkF 1 Ur0 bm0
end
end Va
namespace Va
open DL W K22
open Ta (pa R9 w50 pN k2 Dc okv up)
def fs(L:List (Nat×Nat)):List Nat:=L.map (·.1)
def sn(L:List (Nat×Nat)):List Nat:=L.map (·.2)
def lnk:D->Option Nat
 | .tup [_,.int i]=>some i.toNat
 | _=>none
theorem pg0(j:Nat):lnk (.tup [.str "at",.int (j:Int)])=some j:=by unfold lnk;simp only[Int.toNat_natCast]
def wst(L:List (Nat×Nat))(v w:D):List (Nat×Nat):=match lnk v,lnk w with
 | some i,some j=>if i∉fs L/\j∉sn L then L++[(i,j)] else L
 | _,_=>L
theorem pa0(L:List (Nat×Nat))(i j:Nat):wst L (.tup [.str "at",.int (i:Int)]) (.tup [.str "at",.int (j:Int)])=if i∉fs L/\j∉sn L then L++[(i,j)] else L:=by
 unfold wst;rw[pg0,pg0]
theorem md0(L:List (Nat×Nat)){v w:D}(hv:Lv n v)(hw:Lv m w)(h:(isTup v&&isTup w)=false):wst L v w=L:=by
 rcases hv with rfl|⟨z,rfl⟩|⟨i,rfl,hi⟩
 ·rfl
 ·rfl
 ·rcases hw with rfl|⟨z,rfl⟩|⟨j,rfl,hj⟩
  ·unfold wst;rw[pg0];rfl
  ·unfold wst;rw[pg0];rfl
  ·cases h
def vz0(L:List (Nat×Nat))(zs:List (D×D)):List (Nat×Nat):=zs.foldl (λL q=>wst L q.1 q.2) L
def wk(ps qs:List Pt):Nat->Nat->List (Nat×Nat)->List (Nat×Nat)
 | 0,_,L=>L
 | k+1,a,L=>match L[a]? with
  | some p=>wk ps qs k (a+1) (vz0 L ((pa ps p.1).vals.zip (pa qs p.2).vals))
  | none=>L
structure WI(n m:Nat)(L:List (Nat×Nat)):Prop where
 inr:∀p∈L,p.1<n/\p.2<m
 f:(fs L).Nodup
 s:(sn L).Nodup
theorem WI.len(h:WI n m L):L.length<=n:=by
 have:=sub_len h.f (m:=List.range n) λy hy=>by
  obtain⟨p,hp,rfl⟩:=A6.mp hy;exact C3.mpr (h.inr p hp).1
 rw[List.length_range] at this;unfold fs at this
 rwa [d5] at this
theorem WI.nd(h:WI n m L):L.Nodup:=by
 have:=h.f;unfold fs at this;exact List.Pairwise.of_map _ (λa b hab e=>hab (by rw[e])) this
theorem fh0(L:List (Nat×Nat))(p:Nat×Nat):fs (L++[p])=fs L++[p.1]:=by unfold fs;rw[List.map_append];rfl
theorem en0(L:List (Nat×Nat))(p:Nat×Nat):sn (L++[p])=sn L++[p.2]:=by unfold sn;rw[List.map_append];rfl
theorem i70{l:List Nat}{x:Nat}(h:l.Nodup)(hx:x∉l):(l++[x]).Nodup:=S2.mpr ⟨h,by simp,λa ha b hb e=>by
 rw[List.mem_singleton.mp hb] at e;exact hx (e▸ha)⟩
theorem ms0(h:WI n m L){v w:D}(hv:Lv n v)(hw:Lv m w):WI n m (wst L v w):=by
 cases hb:isTup v&&isTup w with
 | false=>rw[md0 L hv hw hb];exact h
 | true =>
  rcases hv with rfl|⟨z,rfl⟩|⟨i,rfl,hi⟩
  ·cases hb
  ·cases hb
  ·rcases hw with rfl|⟨z,rfl⟩|⟨j,rfl,hj⟩
   ·cases hb
   ·cases hb
   ·rw[pa0]
    by_cases hc:i∉fs L/\j∉sn L
    ·rw[if_pos hc]
     refine⟨λp hp=>?_,by rw[fh0];exact i70 h.f hc.1,by rw[en0];exact i70 h.s hc.2⟩;rcases B8.mp hp with q|q
     ·exact h.inr p q
     ·rw[List.mem_singleton.mp q];exact⟨hi,hj⟩
    ·rw[if_neg hc];exact h
theorem Y10(L:List (Nat×Nat))(v w:D):∃s,wst L v w=L++s:=by
 unfold wst;split
 ·split
  ·exact⟨_,rfl⟩
  ·exact⟨[],(S3 L).symm⟩
 ·exact⟨[],(S3 L).symm⟩
theorem qc0:∀(zs:List (D×D)) (L:List (Nat×Nat)),∃s,vz0 L zs=L++s
 | [],L=>⟨[],(S3 L).symm⟩
 | q::zs,L=>by
  obtain⟨s,e⟩:=Y10 L q.1 q.2;obtain⟨t,e2⟩:=qc0 zs (wst L q.1 q.2);refine⟨s++t,?_⟩;show vz0 (wst L q.1 q.2) zs=_;rw[e2,e,List.append_assoc]
theorem ut0:∀(zs:List (D×D)) {L:List (Nat×Nat)},WI n m L->(∀q∈zs,Lv n q.1/\Lv m q.2)->WI n m (vz0 L zs)
 | [],_,h,_=>h
 | q::zs,L,h,hz=>ut0 zs (ms0 h (hz q A5).1 (hz q A5).2) λx hx=>hz x (A4 _ hx)
theorem sq0{ps qs:List Pt}(hp:Web ps)(hq:Web qs){p:Nat×Nat}(h1:p.1<ps.length)(h2:p.2<qs.length):∀q∈(pa ps p.1).vals.zip (pa qs p.2).vals,Lv ps.length q.1/\Lv qs.length q.2:=λq hq' =>
 ⟨(R9 hp h1).2.lv _ (D7 hq').1,(R9 hq h2).2.lv _ (D7 hq').2⟩
theorem p10{ps qs:List Pt}(hp:Web ps)(hq:Web qs):∀(k a:Nat) {L:List (Nat×Nat)},WI ps.length qs.length L->WI ps.length qs.length (wk ps qs k a L)
 | 0,_,_,h=>h
 | k+1,a,L,h=>by
  unfold wk;cases e:L[a]? with
  | none=>exact h
  | some p =>
   have hm:=D2 e;exact p10 hp hq k (a+1) (ut0 _ h (sq0 hp hq (h.inr p hm).1 (h.inr p hm).2))
theorem wi0{ps qs:List Pt}(hp:Web ps)(hq:Web qs):WI ps.length qs.length [(0,0)]:=⟨λp h=>by rw[List.mem_singleton.mp h];exact⟨hp.len.1,hq.len.1⟩,by unfold fs;simp,by unfold sn;simp⟩
def wkd(ps qs:List Pt):List (Nat×Nat):=wk ps qs 61 0 [(0,0)]
theorem rj0(v w:D):U0 [.tup [v,w]]=some (.bl (isTup v&&isTup w)):=Ta.rj0 v w
theorem Vh0(i j:Nat):V3 [.tup [.tup [.str "at",.int (i:Int)],.tup [.str "at",.int (j:Int)]]]=some (pN (i,j)) :=
 Z1 rfl (n6 (Y4 (Z7 (cons_of rfl (cons_of rfl rfl)) (by show 2<=sizeLine;decide))))
theorem Q3(p:Pt)(h:p.few):m_values [p.d]=some (.lst p.vals):=Pn.Q3 p h
theorem Wc0(a b:List Nat):td (a++b)=td a++td b:=by unfold td;rw[List.map_append]
def dk(l:List Nat):D:=.dct (.inl (kd l)) (td l)
theorem ir0{l:List Nat}{k:Nat}(h:k∉l):(.dct (.inl (N5 (kd l) (.inl (k:Int)))) (K5 (kd l) (td l) (.inl (k:Int)) (.bl true)):D)=dk (l++[k]):=by
 have hk:O3 (kd l) (.inl (k:Int))=false:=by rw[se0,decide_eq_false h]
 unfold N5 K5 dk;rw[hk,if_neg (by simp),if_neg (by simp),kc0,Wc0];rfl
theorem bu0(l:List Nat)(x:Nat):T4 true (.int (x:Int)) (dk l)=some (.bl (decide (x∉l))):=by
 show some (D.bl (xor true (O3 (kd l) (.inl (x:Int)))))=_;rw[se0]
 by_cases h:x∈l<;>simp[h]
def ws(one other:D)(L:List (Nat×Nat))(a:Nat)(s6 s7:Sl):Ds:=[.sh one,.sh other,.ow (.lst (L.map pN)),.ow (dk (fs L)),.ow (dk (sn L)),.sh (.int (a:Int)),s6,s7]
def FB:GS:=(v7 (ifD (J3 (ob (oA (z9 (gv 7) v6) U0)) (J3 (z50 (ob (o2 (o2 (o2 (gv 7) (gc (.int 0)) ixD) (gc (.int 1)) ixD) (gv 3) (T4 true)))) (z50 (ob (o2 (o2 (o2 (gv 7) (gc (.int 1)) ixD) (gc (.int 1)) ixD) (gv 4) (T4 true))))))
 (v7 (W8 (Y9 (gc (.bl true))) (DL.putAt 3 (o2 (o2 (gv 7) (gc (.int 0)) ixD) (gc (.int 1)) ixD)))
 (v7 (W8 (Y9 (gc (.bl true))) (DL.putAt 4 (o2 (o2 (gv 7) (gc (.int 1)) ixD) (gc (.int 1)) ixD)))
 (v7 (V1 (zm0 2 (oA (z9 (gv 7) v6) V3)))
 u5)))
 u5)
 u5)
theorem o20{g1 g2:GB}{a b:Bool}(h1:g1 δ=some a)(h2:g2 δ=some b):J3 g1 g2 δ=some (a&&b):=by
 unfold J3;rw[h1,Option.bind_some];cases a with
 | false=>rfl
 | true=>rw[if_pos rfl,h2];rfl
theorem Uf0{g1 g2:GB}(h1:g1 δ=some false):J3 g1 g2 δ=some false:=by
 unfold J3;rw[h1,Option.bind_some];rfl
theorem mf0(L:List (Nat×Nat))(p:Nat×Nat):L.map pN++[pN p]=(L++[p]).map pN:=by rw[List.map_append];rfl
theorem Vn0{one other:D}{v w:D}(hv:Lv n v)(hw:Lv m w)(hl:L.length<=60)(a:Nat)(s6:Sl):FB (ws one other L a s6 (.sh (.tup [v,w])))=some (.nx (ws one other (wst L v w) a s6 (.sh (.tup [v,w])))):=by
 have zs:(2000:Nat)<=sizeLine:=by decide
 have hlk:ob (oA (z9 (gv 7) v6) U0) (ws one other L a s6 (.sh (.tup [v,w])))=some (isTup v&&isTup w):=by
  unfold ob;rw[o5 (ds:=[.tup [v,w]]) rfl,rj0];rfl
 cases hb:isTup v&&isTup w with
 | false =>
  rw[hb] at hlk;rw[md0 L hv hw hb];refine v9 (δ':=ws one other L a s6 (.sh (.tup [v,w]))) ?_ rfl;rw[Z0 (Uf0 hlk)];rfl
 | true =>
  rw[hb] at hlk;rcases hv with rfl|⟨z,rfl⟩|⟨i,rfl,hi⟩
  ·cases hb
  ·cases hb
  ·rcases hw with rfl|⟨z,rfl⟩|⟨j,rfl,hj⟩
   ·cases hb
   ·cases hb
   ·have t1:z50 (ob (o2 (o2 (o2 (gv 7) (gc (.int 0)) ixD) (gc (.int 1)) ixD) (gv 3) (T4 true))) (ws one other L a s6 (.sh (.tup [.tup [.str "at",.int (i:Int)],.tup [.str "at",.int (j:Int)]])))=some (decide (i∉fs L)):=by
     show ob (o2 (o2 (o2 (gv 7) (gc (.int 0)) ixD) (gc (.int 1)) ixD) (gv 3) (T4 true)) [.sh one,.sh other,.sh (.lst (L.map pN)),.sh (dk (fs L)),.sh (dk (sn L)),.sh (.int (a:Int)),Q9 s6,.sh (.tup [.tup [.str "at",.int (i:Int)],.tup [.str "at",.int (j:Int)]])]=_;refine Bw.zt0 ?_;rw[o4 (x:=.int (i:Int)) (y:=dk (fs L)) rfl rfl];exact bu0 _ _
    have t2:z50 (ob (o2 (o2 (o2 (gv 7) (gc (.int 1)) ixD) (gc (.int 1)) ixD) (gv 4) (T4 true))) (ws one other L a s6 (.sh (.tup [.tup [.str "at",.int (i:Int)],.tup [.str "at",.int (j:Int)]])))=some (decide (j∉sn L)):=by
     show ob (o2 (o2 (o2 (gv 7) (gc (.int 1)) ixD) (gc (.int 1)) ixD) (gv 4) (T4 true)) [.sh one,.sh other,.sh (.lst (L.map pN)),.sh (dk (fs L)),.sh (dk (sn L)),.sh (.int (a:Int)),Q9 s6,.sh (.tup [.tup [.str "at",.int (i:Int)],.tup [.str "at",.int (j:Int)]])]=_;refine Bw.zt0 ?_;rw[o4 (x:=.int (j:Int)) (y:=dk (sn L)) rfl rfl];exact bu0 _ _
    have t3:=o20 hlk (o20 t1 t2);rw[pa0]
    by_cases hc:i∉fs L/\j∉sn L
    ·rw[if_pos hc]
     rw[decide_eq_true hc.1,decide_eq_true hc.2] at t3;refine v9 (δ':=ws one other (L++[(i,j)]) a s6 (.sh (.tup [.tup [.str "at",.int (i:Int)],.tup [.str "at",.int (j:Int)]]))) ?_ rfl;rw[V0 t3];have fl:(fs L).length<=60:=by unfold fs;rw[List.length_map];exact hl
     have sl:(sn L).length<=60:=by unfold sn;rw[List.length_map];exact hl
     refine v9 (Ua.ln0 (ks:=kd (fs L)) (vs:=td (fs L)) (k:=i) (v:=.bl true) rfl rfl rfl (by unfold kd;rw[List.length_map];omega)) ?_;rw[ir0 hc.1];refine v9 (Ua.ln0 (ks:=kd (sn L)) (vs:=td (sn L)) (k:=j) (v:=.bl true) rfl rfl rfl (by unfold kd;rw[List.length_map];omega)) ?_;rw[ir0 hc.2];refine v9 (Gw.vu0 (l:=L.map pN) (d:=pN (i,j)) rfl ?_ (by rw[List.length_map];omega)) ?_
     ·rw[o5 (ds:=[.tup [.tup [.str "at",.int (i:Int)],.tup [.str "at",.int (j:Int)]]]) rfl]
      exact Vh0 i j
     ·rw[mf0,show fs L++[i]=fs (L++[(i,j)]) from (fh0 L (i,j)).symm,show sn L++[j]=sn (L++[(i,j)]) from (en0 L (i,j)).symm]
      rfl
    ·rw[if_neg hc]
     have:(true&&(decide (i∉fs L)&&decide (j∉sn L)))=false:=by
      by_cases h1:i∈fs L
      ·simp[h1]
      ·by_cases h2:j∈sn L
       ·simp[h2]
       ·exact absurd ⟨h1,h2⟩ hc
     rw[this] at t3;refine v9 (δ':=ws one other L a s6 (.sh (.tup [.tup [.str "at",.int (i:Int)],.tup [.str "at",.int (j:Int)]]))) ?_ rfl;rw[Z0 t3];rfl
theorem fd0(hn:n<=60)(one other:D)(a:Nat)(s6:Sl):∀(zs:List (D×D)) {L:List (Nat×Nat)} (s7:Sl),WI n m L->(∀q∈zs,Lv n q.1/\Lv m q.2)->∃s7',U5 (gN 7) FB (zs.map λq=>.tup [q.1,q.2]) (ws one other L a s6 s7)=some (.nx (ws one other (vz0 L zs) a s6 s7'))
 | [],L,s7,_,_=>⟨s7,rfl⟩
 | q::zs,L,s7,h,hz=>by
  have hq:=hz q A5;obtain⟨s',e⟩:=fd0 hn one other a s6 zs (.sh (.tup [q.1,q.2])) (ms0 h hq.1 hq.2) λx hx=>hz x (A4 _ hx)
  refine⟨s',?_⟩;rw[List.map_cons];unfold U5;show (match FB (ws one other L a s6 (.sh (.tup [q.1,q.2]))) with|some (.nx δ')=>U5 (gN 7) FB _ δ'|some (.ct δ')=>U5 (gN 7) FB _ δ'|some (.bk δ')=>some (.nx δ')|r=>r)=_;rw[Vn0 hq.1 hq.2 (B7 h.len hn)];exact e
def PT:GB:=(ob (o2 (gv 5) (R0 (oA (z9 (gv 2) v6) Y8)) ltD))
def PB:GS:=(v7 (m5 (gN 6) (ye0 (o2 (gv 2) (gv 5) ixD)))
 (v7 (iz0 5 (gc (.int 1)))
 (v7 (J0 (y80 (z9 (oA (z9 (o2 (gv 0) (o2 (gv 6) (gc (.int 0)) ixD) ixD) v6) m_values) (z9 (oA (z9 (o2 (gv 1) (o2 (gv 6) (gc (.int 1)) ixD) ixD) v6) m_values) v6))) (gN 7)
 FB)
 u5)))
theorem bl0(one other:D)(L:List (Nat×Nat))(a:Nat)(s6 s7:Sl):PT (ws one other L a s6 s7)=some (decide (a<L.length)):=by
 refine Bw.zt0 ?_;rw[o4 (x:=.int (a:Int)) (y:=.int (L.length:Int)) rfl (by
  show (if flat (D.int ((L.map pN).length:Int))=true then some (D.int ((L.map pN).length:Int)) else none)=_;rw[List.length_map];rfl)]
 show some (D.bl (decide ((a:Int)<(L.length:Int))))=_;congr 2;rw[decide_eq_decide];omega
theorem bn0{a:Nat}{p:Nat×Nat}(h:L[a]?=some p):ixD (.lst (L.map pN)) (.int (a:Int))=some (pN p):=by
 obtain⟨hl,e⟩:=D0.mp h;show atI (L.map pN) (a:Int)=_;rw[yb0 (by omega) (by rw[List.length_map];omega) .non,Int.toNat_natCast];simp[hl,e]
theorem Un0{ps qs:List Pt}(hp:Web ps)(hq:Web qs)(h:WI ps.length qs.length L){a:Nat}{p:Nat×Nat}(e:L[a]?=some p)(s6 s7:Sl):∃s7',PB (ws (wd ps) (wd qs) L a s6 s7)=some (.nx (ws (wd ps) (wd qs) (vz0 L ((pa ps p.1).vals.zip (pa qs p.2).vals)) (a+1) (.sh (pN p)) s7')):=by
 have hm:=h.inr p (D2 e);obtain⟨a1,a2⟩:=R9 hp hm.1;obtain⟨b1,b2⟩:=R9 hq hm.2;obtain⟨s',ef⟩:=fd0 hp.len.2 (wd ps) (wd qs) (a+1) (.sh (pN p)) ((pa ps p.1).vals.zip (pa qs p.2).vals) s7 h (sq0 hp hq hm.1 hm.2);refine⟨s',v9 (δ':=ws (wd ps) (wd qs) L a (.sh (pN p)) s7) (j7 (d:=pN p) (va0 ?_ rfl)) (v9 (δ':=ws (wd ps) (wd qs) L (a+1) (.sh (pN p)) s7) rfl (v9 (zg0 ?_ ef) rfl))⟩
 ·show o2 (gv 2) (gv 5) ixD [.sh (wd ps),.sh (wd qs),.sh (.lst (L.map pN)),.sh (dk (fs L)),.sh (dk (sn L)),.sh (.int (a:Int)),Q9 s6,Q9 s7]=_
  rw[o4 (x:=.lst (L.map pN)) (y:=.int (a:Int)) rfl rfl];exact bn0 e
 ·unfold y80
  rw[cons_of (d:=.lst (pa ps p.1).vals) (ds:=[.lst (pa qs p.2).vals]) (by
   rw[o5 (ds:=[(pa ps p.1).d]) (cons_of (by rw[o4 (x:=wd ps) (y:=.int (p.1:Int)) rfl rfl];exact a1) rfl)];exact Q3 _ a2.f) (cons_of (by
   rw[o5 (ds:=[(pa qs p.2).d]) (cons_of (by rw[o4 (x:=wd qs) (y:=.int (p.2:Int)) rfl rfl];exact b1) rfl)];exact Q3 _ b2.f) rfl)]
  rfl
theorem ih0{ps qs:List Pt}(hp:Web ps)(hq:Web qs):∀(k a f:Nat) {L:List (Nat×Nat)} (s6 s7:Sl),a+k=61->k<f->a<=L.length->WI ps.length qs.length L->∃a' s6' s7',W9 PT PB f (ws (wd ps) (wd qs) L a s6 s7)=some (.nx (ws (wd ps) (wd qs) (wk ps qs k a L) a' s6' s7'))
 | 0,a,f,L,s6,s7,h1,h2,h3,h=>by
  have:=h.len;have:=hp.len.2;omega
 | k+1,a,f,L,s6,s7,h1,h2,h3,h=>by
  obtain⟨g,rfl⟩:∃g,f=g+1:=⟨f - 1,by omega⟩;unfold wk;cases e:L[a]? with
  | none =>
   have hl:=Ar0.mp e;refine⟨a,s6,s7,?_⟩;unfold W9;rw[bl0,decide_eq_false (by omega)]
  | some p =>
   have hl:=(D0.mp e).1;have hm:=h.inr p (D2 e);obtain⟨s',eb⟩:=Un0 hp hq h e s6 s7;obtain⟨t,et⟩:=qc0 ((pa ps p.1).vals.zip (pa qs p.2).vals) L;obtain⟨a',s6',s7',ew⟩:=ih0 hp hq k (a+1) g (.sh (pN p)) s' (by omega) (by omega) (by rw[et,List.length_append];omega) (ut0 _ h (sq0 hp hq hm.1 hm.2));refine⟨a',s6',s7',?_⟩;unfold W9;rw[bl0,decide_eq_true hl];dsimp only;rw[eb];exact ew
theorem ej0{ps qs:List Pt}(hp:Web ps)(hq:Web qs):yn0 [wd ps,wd qs]=some (.lst ((wkd ps qs).map pN)):=by
 obtain⟨a',s6',s7',e⟩:=ih0 hp hq 61 0 100000 (L:=[(0,0)]) .un .un rfl (by decide) (by decide) (wi0 hp hq);exact O5 rfl (v9 (δ':=[.sh (wd ps),.sh (wd qs),.ow (.lst [pN (0,0)]),.un,.un,.un,.un,.un]) rfl (v9 (δ':=[.sh (wd ps),.sh (wd qs),.ow (.lst [pN (0,0)]),.ow (dk [0]),.un,.un,.un,.un]) rfl (v9 (δ':=[.sh (wd ps),.sh (wd qs),.ow (.lst [pN (0,0)]),.ow (dk [0]),.ow (dk [0]),.un,.un,.un]) rfl (v9 (δ':=ws (wd ps) (wd qs) [(0,0)] 0 .un .un) rfl (v9 e (N6 rfl))))))
end Va
namespace Va
open DL W K22
open Ta (pa R9 w50 pN k2 Dc okv up)
def ls(one other:D)(L:List (Nat×Nat))(a:Nat)(s4 s5 s6 s7:Sl):Ds:=[.sh one,.sh other,.ow (.lst (L.map pN)),.sh (.int (a:Int)),s4,s5,s6,s7,.un,.un]
def LF:GS:=(v7 (ifD (J3 (ob (X6 isTup (gv 6))) (ob (X6 isTup (gv 7))))
 (v7 (ifD (J3 (z50 (ob (o2 (o2 (gv 6) (gc (.int 1)) ixD) (o9 1 [] (V4 (gv 2)) (gN 0) noT (o2 (gv 0) (gc (.int 0)) ixD)) (J9 true)))) (z50 (ob (o2 (o2 (gv 7) (gc (.int 1)) ixD) (o9 1 [] (V4 (gv 2)) (gN 0) noT (o2 (gv 0) (gc (.int 1)) ixD)) (J9 true)))))
 (v7 (V1 (zm0 2 (m7 (z9 (o2 (gv 6) (gc (.int 1)) ixD) (z9 (o2 (gv 7) (gc (.int 1)) ixD) v6)))))
 u5)
 u5)
 u5)
 u5)
 u5)
theorem Vm0(L:List (Nat×Nat))(hl:L.length<=60)(δ:Ds)(h:gv 2 δ=some (.lst (L.map pN))):o9 1 [] (V4 (gv 2)) (gN 0) noT (o2 (gv 0) (gc (.int 0)) ixD) δ=some (.lst (nd (fs L))):=by
 have zs:(2000:Nat)<=sizeLine:=by decide
 refine Z5 (items:=L.map pN) (by show Option.bind (gv 2 δ) v40=_;rw[h];rfl) (by rw[List.length_map];omega) ?_;refine(Ta.ct0 L).trans ?_;unfold nd fs;rw[List.map_map,List.map_map];rfl
theorem Uc0(L:List (Nat×Nat))(hl:L.length<=60)(δ:Ds)(h:gv 2 δ=some (.lst (L.map pN))):o9 1 [] (V4 (gv 2)) (gN 0) noT (o2 (gv 0) (gc (.int 1)) ixD) δ=some (.lst (nd (sn L))):=by
 have zs:(2000:Nat)<=sizeLine:=by decide
 refine Z5 (items:=L.map pN) (by show Option.bind (gv 2 δ) v40=_;rw[h];rfl) (by rw[List.length_map];omega) ?_;refine(Ta.tp0 L).trans ?_;unfold nd sn;rw[List.map_map,List.map_map];rfl
theorem U30{one other:D}{v w:D}(hv:Lv n v)(hw:Lv m w)(hl:L.length<=60)(a:Nat)(s4 s5:Sl):LF (ls one other L a s4 s5 (.sh v) (.sh w))=some (.nx (ls one other (wst L v w) a s4 s5 (.sh v) (.sh w))):=by
 have zs:(2000:Nat)<=sizeLine:=by decide
 have hlk:J3 (ob (X6 isTup (gv 6))) (ob (X6 isTup (gv 7))) (ls one other L a s4 s5 (.sh v) (.sh w))=some (isTup v&&isTup w):=o20 rfl rfl;cases hb:isTup v&&isTup w with
 | false =>
  rw[hb] at hlk;rw[md0 L hv hw hb];refine v9 (δ':=ls one other L a s4 s5 (.sh v) (.sh w)) ?_ rfl;rw[Z0 hlk];rfl
 | true =>
  rw[hb] at hlk;rcases hv with rfl|⟨z,rfl⟩|⟨i,rfl,hi⟩
  ·cases hb
  ·cases hb
  ·rcases hw with rfl|⟨z,rfl⟩|⟨j,rfl,hj⟩
   ·cases hb
   ·cases hb
   ·have t1:z50 (ob (o2 (o2 (gv 6) (gc (.int 1)) ixD) (o9 1 [] (V4 (gv 2)) (gN 0) noT (o2 (gv 0) (gc (.int 0)) ixD)) (J9 true))) (ls one other L a s4 s5 (.sh (.tup [.str "at",.int (i:Int)])) (.sh (.tup [.str "at",.int (j:Int)])))=some (decide (i∉fs L)):=by
     show ob (o2 (o2 (gv 6) (gc (.int 1)) ixD) (o9 1 [] (V4 (gv 2)) (gN 0) noT (o2 (gv 0) (gc (.int 0)) ixD)) (J9 true)) [.sh one,.sh other,.sh (.lst (L.map pN)),.sh (.int (a:Int)),Q9 s4,Q9 s5,.sh (.tup [.str "at",.int (i:Int)]),.sh (.tup [.str "at",.int (j:Int)]),.un,.un]=_;refine Bw.zt0 ?_;rw[o4 (x:=.int (i:Int)) (y:=.lst (nd (fs L))) rfl (Vm0 L hl _ rfl)];exact ge0 _ _
    have t2:z50 (ob (o2 (o2 (gv 7) (gc (.int 1)) ixD) (o9 1 [] (V4 (gv 2)) (gN 0) noT (o2 (gv 0) (gc (.int 1)) ixD)) (J9 true))) (ls one other L a s4 s5 (.sh (.tup [.str "at",.int (i:Int)])) (.sh (.tup [.str "at",.int (j:Int)])))=some (decide (j∉sn L)):=by
     show ob (o2 (o2 (gv 7) (gc (.int 1)) ixD) (o9 1 [] (V4 (gv 2)) (gN 0) noT (o2 (gv 0) (gc (.int 1)) ixD)) (J9 true)) [.sh one,.sh other,.sh (.lst (L.map pN)),.sh (.int (a:Int)),Q9 s4,Q9 s5,.sh (.tup [.str "at",.int (i:Int)]),.sh (.tup [.str "at",.int (j:Int)]),.un,.un]=_;refine Bw.zt0 ?_;rw[o4 (x:=.int (j:Int)) (y:=.lst (nd (sn L))) rfl (Uc0 L hl _ rfl)];exact ge0 _ _
    have t3:=o20 t1 t2;rw[pa0]
    by_cases hc:i∉fs L/\j∉sn L
    ·rw[if_pos hc]
     rw[decide_eq_true hc.1,decide_eq_true hc.2] at t3;refine v9 (δ':=ls one other (L++[(i,j)]) a s4 s5 (.sh (.tup [.str "at",.int (i:Int)])) (.sh (.tup [.str "at",.int (j:Int)]))) ?_ rfl;rw[V0 hlk];refine v9 (δ':=ls one other (L++[(i,j)]) a s4 s5 (.sh (.tup [.str "at",.int (i:Int)])) (.sh (.tup [.str "at",.int (j:Int)]))) ?_ rfl;rw[V0 t3];refine v9 (Gw.vu0 (l:=L.map pN) (d:=pN (i,j)) rfl (Z7 (cons_of rfl (cons_of rfl rfl)) (by show 2<=sizeLine;omega)) (by rw[List.length_map];omega)) ?_;rw[mf0];rfl
    ·rw[if_neg hc]
     have:(decide (i∉fs L)&&decide (j∉sn L))=false:=by
      by_cases h1:i∈fs L
      ·simp[h1]
      ·by_cases h2:j∈sn L
       ·simp[h2]
       ·exact absurd ⟨h1,h2⟩ hc
     rw[this] at t3;refine v9 (δ':=ls one other L a s4 s5 (.sh (.tup [.str "at",.int (i:Int)])) (.sh (.tup [.str "at",.int (j:Int)]))) ?_ rfl;rw[V0 hlk];refine v9 (δ':=ls one other L a s4 s5 (.sh (.tup [.str "at",.int (i:Int)])) (.sh (.tup [.str "at",.int (j:Int)]))) ?_ rfl;rw[Z0 t3];rfl
theorem ef0(hn:n<=60)(one other:D)(a:Nat)(s4 s5:Sl):∀(zs:List (D×D)) {L:List (Nat×Nat)} (s6 s7:Sl),WI n m L->(∀q∈zs,Lv n q.1/\Lv m q.2)->∃s6' s7',U5 (G6 6 7) LF (zs.map λq=>.tup [q.1,q.2]) (ls one other L a s4 s5 s6 s7)=some (.nx (ls one other (vz0 L zs) a s4 s5 s6' s7'))
 | [],L,s6,s7,_,_=>⟨s6,s7,rfl⟩
 | q::zs,L,s6,s7,h,hz=>by
  have hq:=hz q A5;obtain⟨s6',s7',e⟩:=ef0 hn one other a s4 s5 zs (.sh q.1) (.sh q.2) (ms0 h hq.1 hq.2) λx hx=>hz x (A4 _ hx)
  refine⟨s6',s7',?_⟩;rw[List.map_cons];unfold U5;show (match LF (ls one other L a s4 s5 (.sh q.1) (.sh q.2)) with|some (.nx δ')=>U5 (G6 6 7) LF _ δ'|some (.ct δ')=>U5 (G6 6 7) LF _ δ'|some (.bk δ')=>some (.nx δ')|r=>r)=_;rw[U30 hq.1 hq.2 (B7 h.len hn)];exact e
theorem w00(p:Pt)(h:p.few):j9 [p.d]=some (.lst p.vals):=Pn.Q3 p h
def LT:GB:=(ob (o2 (gv 3) (R0 (oA (z9 (gv 2) v6) Y8)) ltD))
def LB:GS:=(v7 (W8 (Y9 (ye0 (o2 (gv 2) (gv 3) ixD))) (G6 4 5))
 (v7 (m5 (gN 3) (o2 (gv 3) (gc (.int 1)) j6))
 (v7 (J0 (y80 (z9 (oA (z9 (o2 (gv 0) (gv 4) ixD) v6) j9) (z9 (oA (z9 (o2 (gv 1) (gv 5) ixD) v6) j9) v6))) (G6 6 7)
 LF)
 u5)))
theorem bi0(one other:D)(L:List (Nat×Nat))(a:Nat)(s4 s5 s6 s7:Sl):LT (ls one other L a s4 s5 s6 s7)=some (decide (a<L.length)):=by
 refine Bw.zt0 ?_;rw[o4 (x:=.int (a:Int)) (y:=.int (L.length:Int)) rfl (by
  show (if flat (D.int ((L.map pN).length:Int))=true then some (D.int ((L.map pN).length:Int)) else none)=_;rw[List.length_map];rfl)]
 show some (D.bl (decide ((a:Int)<(L.length:Int))))=_;congr 2;rw[decide_eq_decide];omega
theorem Uo0{ps qs:List Pt}(hp:Web ps)(hq:Web qs)(h:WI ps.length qs.length L){a:Nat}{p:Nat×Nat}(e:L[a]?=some p)(s4 s5 s6 s7:Sl):∃s6' s7',LB (ls (wd ps) (wd qs) L a s4 s5 s6 s7)=some (.nx (ls (wd ps) (wd qs) (vz0 L ((pa ps p.1).vals.zip (pa qs p.2).vals)) (a+1) (.sh (.int (p.1:Int))) (.sh (.int (p.2:Int))) s6' s7')):=by
 have hm:=h.inr p (D2 e);obtain⟨a1,a2⟩:=R9 hp hm.1;obtain⟨b1,b2⟩:=R9 hq hm.2;obtain⟨s6',s7',ef⟩:=ef0 hp.len.2 (wd ps) (wd qs) (a+1) (.sh (.int (p.1:Int))) (.sh (.int (p.2:Int))) ((pa ps p.1).vals.zip (pa qs p.2).vals) s6 s7 h (sq0 hp hq hm.1 hm.2);refine⟨s6',s7',v9 (δ':=ls (wd ps) (wd qs) L a (.sh (.int (p.1:Int))) (.sh (.int (p.2:Int))) s6 s7) ?_ (v9 (δ':=ls (wd ps) (wd qs) L (a+1) (.sh (.int (p.1:Int))) (.sh (.int (p.2:Int))) s6 s7) rfl (v9 (zg0 ?_ ef) rfl))⟩
 ·unfold W8 Y9
  rw[va0 (d:=pN p) (by
   show o2 (gv 2) (gv 3) ixD [.sh (wd ps),.sh (wd qs),.sh (.lst (L.map pN)),.sh (.int (a:Int)),Q9 s4,Q9 s5,Q9 s6,Q9 s7,.un,.un]=_;rw[o4 (x:=.lst (L.map pN)) (y:=.int (a:Int)) rfl rfl];exact bn0 e) rfl]
  rfl
 ·unfold y80
  rw[cons_of (d:=.lst (pa ps p.1).vals) (ds:=[.lst (pa qs p.2).vals]) (by
   rw[o5 (ds:=[(pa ps p.1).d]) (cons_of (by rw[o4 (x:=wd ps) (y:=.int (p.1:Int)) rfl rfl];exact a1) rfl)];exact w00 _ a2.f) (cons_of (by
   rw[o5 (ds:=[(pa qs p.2).d]) (cons_of (by rw[o4 (x:=wd qs) (y:=.int (p.2:Int)) rfl rfl];exact b1) rfl)];exact w00 _ b2.f) rfl)]
  rfl
theorem jv0{ps qs:List Pt}(hp:Web ps)(hq:Web qs):∀(k a f:Nat) {L:List (Nat×Nat)} (s4 s5 s6 s7:Sl),a+k=61->k<f->a<=L.length->WI ps.length qs.length L->∃a' s4' s5' s6' s7',W9 LT LB f (ls (wd ps) (wd qs) L a s4 s5 s6 s7)=some (.nx (ls (wd ps) (wd qs) (wk ps qs k a L) a' s4' s5' s6' s7'))
 | 0,a,f,L,s4,s5,s6,s7,h1,h2,h3,h=>by
  have:=h.len;have:=hp.len.2;omega
 | k+1,a,f,L,s4,s5,s6,s7,h1,h2,h3,h=>by
  obtain⟨g,rfl⟩:∃g,f=g+1:=⟨f - 1,by omega⟩;unfold wk;cases e:L[a]? with
  | none =>
   have hl:=Ar0.mp e;refine⟨a,s4,s5,s6,s7,?_⟩;unfold W9;rw[bi0,decide_eq_false (by omega)]
  | some p =>
   have hl:=(D0.mp e).1;have hm:=h.inr p (D2 e);obtain⟨s6',s7',eb⟩:=Uo0 hp hq h e s4 s5 s6 s7;obtain⟨t,et⟩:=qc0 ((pa ps p.1).vals.zip (pa qs p.2).vals) L;obtain⟨a',r4,r5,r6,r7,ew⟩:=jv0 hp hq k (a+1) g (.sh (.int (p.1:Int))) (.sh (.int (p.2:Int))) s6' s7' (by omega) (by omega) (by rw[et,List.length_append];omega) (ut0 _ h (sq0 hp hq hm.1 hm.2));refine⟨a',r4,r5,r6,r7,?_⟩;unfold W9;rw[bi0,decide_eq_true hl];dsimp only;rw[eb];exact ew
theorem ss0{ps qs:List Pt}(hp:Web ps)(hq:Web qs){d:D}(hd:Dc L d){p:Nat×Nat}(h1:p.1<ps.length)(h2:p.2<qs.length):w50 (up ps qs L p) (y50 [wd ps,wd qs,pN p,d]):=Ta.ss0 hp hq hd h1 h2
open Classical in
def upf(ps qs:List Pt)(L:List (Nat×Nat)):List (Nat×Nat):=L.filter λp=>decide (up ps qs L p)
theorem jm0(L:List (Nat×Nat))(hl:L.length<=60){g:GE}(h:g δ=some (.lst (L.map λp=>.tup [pN p,.bl true]))):∃d,Dc L d/\oA (z9 g v6) uu0 δ=some d:=by
 have zs:(2000:Nat)<=sizeLine:=by decide
 obtain⟨r,r1,r2⟩:=Ta.ov0 (.bl true) L [] [];refine⟨.dct (.inr r.1) r.2,⟨r.1,r.2,rfl,λx=>by rw[r2];simp⟩,?_⟩;rw[o5 (ds:=[.lst (L.map λp=>.tup [pN p,.bl true])]) (cons_of h rfl)];show (if (L.map λp=>D.tup [pN p,.bl true]).length<=sizeLine then (O7 [] [] (L.map λp=>D.tup [pN p,.bl true])).map (λr=>D.dct (.inr r.1) r.2) else none)=_;rw[if_pos (by rw[List.length_map];omega),r1];rfl
theorem dk0(L:List (Nat×Nat))(hl:L.length<=60)(δ:Ds)(h:gv 2 δ=some (.lst (L.map pN))):o9 1 [] (V4 (gv 2)) (gN 0) noT (m7 (z9 (gv 0) (z9 (gc (.bl true)) v6))) δ=some (.lst (L.map λp=>.tup [pN p,.bl true])):=by
 have zs:(2000:Nat)<=sizeLine:=by decide
 refine Z5 (items:=L.map pN) (by show Option.bind (gv 2 δ) v40=_;rw[h];rfl) (by rw[List.length_map];omega) ?_;rw[O1 (λd=>.tup [d,.bl true]) (λd hd=>⟨[.sh d],rfl,rfl,Z7 (cons_of rfl (cons_of rfl rfl)) (by show 2<=sizeLine;omega)⟩),List.map_map];rfl
theorem eq0(L:List (Nat×Nat))(b:D->Bool)(c:Nat×Nat->Bool)(h:∀p∈L,b (pN p)=c p):(L.map pN).filter b=(L.filter c).map pN:=by
 rw[List.filter_map];congr 1;exact Cz0 λp hp=>h p hp
def qN:D->Nat×Nat
 | .tup [.int i,.int j]=>(i.toNat,j.toNat)
 | _=>(0,0)
theorem br0(p:Nat×Nat):qN (pN p)=p:=by
 unfold qN pN;simp only[Int.toNat_natCast]
theorem lx0{f:D->Ds->Option Ds}{gt:GB}(L:List (Nat×Nat))(c:Nat×Nat->Bool)(h:∀p∈L,∃δ',f (pN p) δ=some δ'/\gt δ'=some (c p)/\gv 0 δ'=some (pN p)):Q4 f gt (gv 0) δ (L.map pN)=some ((L.filter c).map pN):=by
 rw[vw0 (λd=>c (qN d)) id (λd hd=>by
  obtain⟨p,hp,rfl⟩:=A6.mp hd;obtain⟨δ',h1,h2,h3⟩:=h p hp;exact⟨δ',h1,by rw[br0];exact h2,λ_=>h3⟩),List.map_id,eq0 L _ c λp _=>by rw[br0]]
open Classical in
theorem gy0{ps qs:List Pt}(hp:Web ps)(hq:Web qs)(h:WI ps.length qs.length L):z20 [wd ps,wd qs,.lst (L.map pN)]=some (.lst ((upf ps qs L).map pN)):=by
 have zs:(2000:Nat)<=sizeLine:=by decide
 have hl:L.length<=60:=B7 h.len hp.len.2;obtain⟨d,hd,e⟩:=jm0 L hl (dk0 L hl [.sh (wd ps),.sh (wd qs),.sh (.lst (L.map pN)),.un] rfl);refine O5 rfl (v9 (j7 (d:=d) e) (N6 (M8 (Z5 (items:=L.map pN) rfl (by rw[List.length_map];omega) ?_))));refine lx0 L (λp=>decide (up ps qs L p)) λp hm=>⟨[.sh (pN p),.sh (wd ps),.sh (wd qs),.sh d],rfl,?_,rfl⟩
 obtain⟨t1,t2⟩:=ss0 hp hq hd (h.inr p hm).1 (h.inr p hm).2;unfold ob;rw[o5 (ds:=[wd ps,wd qs,pN p,d]) rfl]
 by_cases hu:up ps qs L p
 ·rw[t1 hu,decide_eq_true hu];rfl
 ·rw[t2 hu,decide_eq_false hu];rfl
theorem Y20(ps qs:List Pt)(L:List (Nat×Nat)):∀p∈upf ps qs L,p∈L:=λp hp=>(w4.mp hp).1
theorem i30(ps qs:List Pt)(L:List (Nat×Nat)):(upf ps qs L).length<=L.length:=List.length_filter_le _ _
theorem k80{ps qs:List Pt}(h:(upf ps qs L).length=L.length):upf ps qs L=L:=D00.mpr (List.length_filter_eq_length_iff.mp h)
theorem pf0(ps qs:List Pt)(h:WI n m L):WI n m (upf ps qs L) :=
 ⟨λp hp=>h.inr p (Y20 ps qs L p hp),D10 (D20 _ D30) h.f,D10 (D20 _ D30) h.s⟩
def fx(ps qs:List Pt):Nat->List (Nat×Nat)->List (Nat×Nat)
 | 0,L=>L
 | k+1,L=>if (upf ps qs L).length<L.length then fx ps qs k (upf ps qs L) else L
theorem ba0(ps qs:List Pt):∀(k:Nat) {L:List (Nat×Nat)},WI n m L->WI n m (fx ps qs k L)
 | 0,_,h=>h
 | k+1,L,h=>by
  unfold fx;split
  ·exact ba0 ps qs k (pf0 ps qs h)
  ·exact h
def stays(ps qs:List Pt):List (Nat×Nat):=fx ps qs 61 (wkd ps qs)
theorem qa0{ps qs:List Pt}(hp:Web ps)(hq:Web qs):WI ps.length qs.length (stays ps qs):=ba0 ps qs 61 (p10 hp hq 61 0 (wi0 hp hq))
def ST:GB:=(ob (o2 (oA (z9 (gv 5) v6) Y8) (oA (z9 (gv 4) v6) Y8) ltD))
def SB:GS:=(v7 (m5 (gN 4) (gv 5))
 (v7 (m5 (gN 5) (oA (z9 (gv 2) (z9 (gv 3) (z9 (gv 4) v6))) z20))
 u5))
theorem bx0(a b c d:Sl)(L M:List (Nat×Nat)):ST [a,b,c,d,.sh (.lst (L.map pN)),.sh (.lst (M.map pN))]=some (decide (M.length<L.length)):=by
 refine Bw.zt0 ?_;rw[o4 (x:=.int (M.length:Int)) (y:=.int (L.length:Int)) (by rw[l40 (ds:=M.map pN) rfl,List.length_map]) (by rw[l40 (ds:=L.map pN) rfl,List.length_map])];show some (D.bl (decide ((M.length:Int)<(L.length:Int))))=_;congr 2;rw[decide_eq_decide];omega
theorem i80{ps qs:List Pt}(hp:Web ps)(hq:Web qs)(a b:Sl):∀(k f:Nat) {L:List (Nat×Nat)},L.length<k->k<f->WI ps.length qs.length L ->
  ∃s4,W9 ST SB f [a,b,.sh (wd ps),.sh (wd qs),.sh (.lst (L.map pN)),.sh (.lst ((upf ps qs L).map pN))]=some (.nx [a,b,.sh (wd ps),.sh (wd qs),s4,.sh (.lst ((fx ps qs k L).map pN))])
 | 0,f,L,h1,_,_=>by omega
 | k+1,f,L,h1,h2,h=>by
  obtain⟨g,rfl⟩:∃g,f=g+1:=⟨f - 1,by omega⟩;unfold fx
  by_cases hc:(upf ps qs L).length<L.length
  ·rw[if_pos hc]
   obtain⟨s4,e⟩:=i80 hp hq a b k g (L:=upf ps qs L) (by omega) (by omega) (pf0 ps qs h);refine⟨s4,?_⟩;unfold W9;rw[bx0,decide_eq_true hc];dsimp only;have eb:SB [a,b,.sh (wd ps),.sh (wd qs),.sh (.lst (L.map pN)),.sh (.lst ((upf ps qs L).map pN))]=some (.nx [a,b,.sh (wd ps),.sh (wd qs),.sh (.lst ((upf ps qs L).map pN)),.sh (.lst ((upf ps qs (upf ps qs L)).map pN))]) :=
    v9 (j7 (d:=.lst ((upf ps qs L).map pN)) rfl) (v9 (j7 (d:=.lst ((upf ps qs (upf ps qs L)).map pN)) (by
     rw[o5 (ds:=[wd ps,wd qs,.lst ((upf ps qs L).map pN)]) rfl];exact gy0 hp hq (pf0 ps qs h))) rfl)
   rw[eb];exact e
  ·rw[if_neg hc]
   have:=i30 ps qs L;rw[k80 (ps:=ps) (qs:=qs) (L:=L) (by omega)];refine⟨.sh (.lst (L.map pN)),?_⟩;unfold W9;rw[bx0,decide_eq_false (by omega)]
end Va
namespace Va
open DL W K22
open Ta (pa R9 w50 pN k2 Dc okv up)
open Ua (SL rs0 o30 rh0)
theorem kr0(p:Pt)(h:p.few):K8 [p.d]=some (Pn.hd p):=by
 cases p with
 | text w=>kernel_rfl
 | row vs=>kernel_rfl
 | table ps =>
  refine Z1 rfl (v9 (δ':=[.sh (Pt.table ps).d]) (by rw[Z0 (by kernel_rfl)];rfl) (v9 (δ':=[.sh (Pt.table ps).d]) (by rw[Z0 (by kernel_rfl)];rfl) (n6 (Y4 ?_))));rw[o4 (x:=.tup [.str "table"]) (y:=.tup [.tup ((ps.map (·.1)).map .str)]) rfl (Z7 (cons_of (by
   rw[o5 (ds:=[.lst ((ps.map (·.1)).map .str)]) (cons_of (Z5 (items:=ps.map pr) rfl (by have:(ps.map (·.2)).length<=sizeLine:=h;simpa using this) (tg0 ps)) rfl)];rfl) rfl) (by show 1<=sizeLine;decide))]
  rfl
 | rcd c ps =>
  refine Z1 rfl (v9 (δ':=[.sh (Pt.rcd c ps).d]) (by rw[Z0 (by kernel_rfl)];rfl) (v9 (δ':=[.sh (Pt.rcd c ps).d]) (by rw[Z0 (by kernel_rfl)];rfl) (n6 (Y4 ?_))));rw[o4 (x:=.tup [.str "record",.str c]) (y:=.tup [.tup ((ps.map (·.1)).map .str)]) rfl (Z7 (cons_of (by
   rw[o5 (ds:=[.lst ((ps.map (·.1)).map .str)]) (cons_of (Z5 (items:=ps.map pr) rfl (by have:(ps.map (·.2)).length<=sizeLine:=h;simpa using this) (tg0 ps)) rfl)];rfl) rfl) (by show 1<=sizeLine;decide))]
  rfl
open Classical in
theorem k90{f:D->Ds->Option Ds}{G:GS}(st:Sl->Sl->Ds)(hf:∀v w s t,f (.tup [v,w]) (st s t)=some (st (.sh v) (.sh w)))(ok:D->D->Prop):∀zs:List (D×D),(∀q∈zs,(ok q.1 q.2->G (st (.sh q.1) (.sh q.2))=some (.nx (st (.sh q.1) (.sh q.2))))/\(¬ok q.1 q.2->G (st (.sh q.1) (.sh q.2))=some (.rt (.bl false)))) ->
  ∀s t,((∀q∈zs,ok q.1 q.2)->∃s' t',U5 f G (zs.map λq=>.tup [q.1,q.2]) (st s t)=some (.nx (st s' t')))/\(¬(∀q∈zs,ok q.1 q.2)->U5 f G (zs.map λq=>.tup [q.1,q.2]) (st s t)=some (.rt (.bl false)))
 | [],_,s,t=>⟨λ_=>⟨s,t,rfl⟩,λh=>absurd (λd hd=>by cases hd) h⟩
 | d::zs,h,s,t=>by
  have hd:=h d A5;obtain⟨i1,i2⟩:=k90 st hf ok zs (λe he=>h e (A4 _ he)) (.sh d.1) (.sh d.2);have un:U5 f G ((d::zs).map λq=>.tup [q.1,q.2]) (st s t)=(match G (st (.sh d.1) (.sh d.2)) with|some (.nx δ')=>U5 f G (zs.map λq=>.tup [q.1,q.2]) δ'|some (.ct δ')=>U5 f G (zs.map λq=>.tup [q.1,q.2]) δ'|some (.bk δ')=>some (.nx δ')|r=>r):=by
   rw[List.map_cons]
   conv=>lhs;unfold U5
   rw[hf d.1 d.2 s t];rfl
  rw[un]
  by_cases hk:ok d.1 d.2
  ·rw[hd.1 hk]
   refine⟨λz=>i1 λe he=>z e (A4 _ he),λz=>i2 λq=>z λe he=>?_⟩;rcases A9.mp he with rfl|he
   ·exact hk
   ·exact q e he
  ·rw[hd.2 hk]
   exact⟨λz=>absurd (z d A5) hk,λ_=>rfl⟩
def UB:GS:=(v7 (ifD (J3 (ob (X6 isTup (gv 3))) (ob (X6 isTup (gv 4))))
 (v7 (ifD (ob (o2 (m7 (z9 (o2 (gv 3) (gc (.int 1)) ixD) (z9 (o2 (gv 4) (gc (.int 1)) ixD) v6))) (gv 2) (T4 true)))
 (v7 (o7 (gc (.bl false)))
 u5)
 u5)
 u5)
 (v7 (ifD (ob (o2 (gv 3) (gv 4) M7))
 (v7 (o7 (gc (.bl false)))
 u5)
 u5)
 u5))
 u5)
theorem hf0{d:D}(hd:Dc L d){v w:D}(hv:Lv n v)(hw:Lv m w)(a b:Sl) :
  (okv L v w->UB [a,b,.sh d,.sh v,.sh w]=some (.nx [a,b,.sh d,.sh v,.sh w]))/\(¬okv L v w->UB [a,b,.sh d,.sh v,.sh w]=some (.rt (.bl false))):=by
 have hl:J3 (ob (X6 isTup (gv 3))) (ob (X6 isTup (gv 4))) [a,b,.sh d,.sh v,.sh w]=some (isTup v&&isTup w):=o20 rfl rfl
 by_cases hb:isTup v=true/\isTup w=true
 ·rw[hb.1,hb.2] at hl
  obtain⟨i,rfl,_⟩:∃j:Nat,v=.tup [.str "at",.int (j:Int)]/\j<n:=by
   rcases hv with rfl|⟨z,rfl⟩|h
   ·exact absurd hb.1 (by simp)
   ·exact absurd hb.1 (by simp)
   ·exact h
  obtain⟨j,rfl,_⟩:∃j:Nat,w=.tup [.str "at",.int (j:Int)]/\j<m:=by
   rcases hw with rfl|⟨z,rfl⟩|h
   ·exact absurd hb.2 (by simp)
   ·exact absurd hb.2 (by simp)
   ·exact h
  have e:okv L (.tup [.str "at",.int (i:Int)]) (.tup [.str "at",.int (j:Int)])↔(i,j)∈L:=by
   unfold okv;simp only[Int.toNat_natCast]
  have ht:ob (o2 (m7 (z9 (o2 (gv 3) (gc (.int 1)) ixD) (z9 (o2 (gv 4) (gc (.int 1)) ixD) v6))) (gv 2) (T4 true)) [a,b,.sh d,.sh (.tup [.str "at",.int (i:Int)]),.sh (.tup [.str "at",.int (j:Int)])]=some (decide ((i,j)∉L)):=by
   refine Bw.zt0 ?_;rw[o4 (x:=pN (i,j)) (y:=d) (Z7 (cons_of rfl (cons_of rfl rfl)) (by show 2<=sizeLine;decide)) rfl];exact Ta.bk0 hd _
  rw[e];refine⟨λz=>?_,λz=>?_⟩
  ·rw[decide_eq_false (λq=>q z)] at ht
   refine v9 (δ':=[a,b,.sh d,.sh (.tup [.str "at",.int (i:Int)]),.sh (.tup [.str "at",.int (j:Int)])]) ?_ rfl;rw[V0 hl];refine v9 (δ':=[a,b,.sh d,.sh (.tup [.str "at",.int (i:Int)]),.sh (.tup [.str "at",.int (j:Int)])]) ?_ rfl;rw[Z0 ht];rfl
  ·rw[decide_eq_true z] at ht
   refine n6 ?_;rw[V0 hl];refine n6 ?_;rw[V0 ht];rfl
 ·have hl2:(isTup v&&isTup w)=false:=by
   cases e1:isTup v with
   | false=>rfl
   | true =>
    cases e2:isTup w with
    | false=>rfl
    | true=>exact absurd ⟨e1,e2⟩ hb
  rw[hl2] at hl;rw[Ta.fa0 hv hw hb];obtain⟨t1,t2⟩:=Ta.rz0 (g:=o2 (gv 3) (gv 4) M7) (δ:=[a,b,.sh d,.sh v,.sh w]) (p:=v≠w) (by
   rw[o4 (x:=v) (y:=w) rfl rfl];exact Ta.Ym0 hv hw)
  refine⟨λz=>?_,λz=>?_⟩
  ·refine v9 (δ':=[a,b,.sh d,.sh v,.sh w]) ?_ rfl
   rw[Z0 hl];refine v9 (δ':=[a,b,.sh d,.sh v,.sh w]) ?_ rfl;rw[Z0 (t2 λq=>q z)];rfl
  ·refine n6 ?_
   rw[Z0 hl];refine n6 ?_;rw[V0 (t1 z)];rfl
theorem fr0{P R:Pt}(hP:Pw n P)(hR:Pw m R){d:D}(hd:Dc L d):w50 (Pn.hd P=Pn.hd R/\∀q∈P.vals.zip R.vals,okv L q.1 q.2) (zx0 [P.d,R.d,d]):=by
 obtain⟨t1,t2⟩:=Ta.rz0 (g:=o2 (oA (z9 (gv 0) v6) K8) (oA (z9 (gv 1) v6) K8) M7) (δ:=[.sh P.d,.sh R.d,.sh d,.un,.un]) (p:=Pn.hd P≠Pn.hd R) (by
  rw[o4 (x:=Pn.hd P) (y:=Pn.hd R) (by rw[o5 (ds:=[P.d]) rfl];exact kr0 P hP.f) (by rw[o5 (ds:=[R.d]) rfl];exact kr0 R hR.f)];exact⟨λe=>Pn.b30 (Pn.rw0 P) (Pn.rw0 R) e,λe=>by rw[Classical.not_not.mp e];exact Pn.c70 (Pn.rw0 R).le⟩)
 by_cases hh:Pn.hd P=Pn.hd R
 ·obtain⟨f1,f2⟩:=k90 (f:=G6 3 4) (G:=UB) (λs t=>[.sh P.d,.sh R.d,.sh d,s,t]) (λ_ _ _ _=>rfl) (okv L) (P.vals.zip R.vals) (λq hq'=>hf0 hd (hP.lv _ (D7 hq').1) (hR.lv _ (D7 hq').2) _ _) .un .un
  have hz:y80 (z9 (oA (z9 (gv 0) v6) j9) (z9 (oA (z9 (gv 1) v6) j9) v6)) [.sh P.d,.sh R.d,.sh d,.un,.un]=some ((P.vals.zip R.vals).map λq=>.tup [q.1,q.2]):=by
   unfold y80;rw[cons_of (d:=.lst P.vals) (ds:=[.lst R.vals]) (by rw[o5 (ds:=[P.d]) rfl];exact w00 P hP.f) (cons_of (by rw[o5 (ds:=[R.d]) rfl];exact w00 R hR.f) rfl)];rfl
  have hn:∀rest:GS,v7 (ifD (ob (o2 (oA (z9 (gv 0) v6) K8) (oA (z9 (gv 1) v6) K8) M7)) (v7 (o7 (gc (.bl false))) u5) u5) rest [.sh P.d,.sh R.d,.sh d,.un,.un]=rest [.sh P.d,.sh R.d,.sh d,.un,.un]:=λrest=>v9 (by rw[Z0 (t2 λz=>z hh)];rfl) rfl
  refine⟨λhup=>?_,λhup=>?_⟩
  ·obtain⟨s',t',hs⟩:=f1 hup.2
   refine Z1 rfl ?_;refine(hn _).trans (v9 (zg0 hz hs) (n6 rfl))
  ·refine Z1 rfl ?_
   exact(hn _).trans (n6 (zg0 hz (f2 λz=>hup ⟨hh,z⟩)))
 ·refine⟨λz=>absurd z.1 hh,λ_=>Z1 rfl (n6 ?_)⟩
  show ifD _ _ _ [.sh P.d,.sh R.d,.sh d,.un,.un]=_;rw[V0 (t1 hh)];rfl
def BT:GB:=(ob (o2 (gv 8) (W7 v6) M7))
def BB:GS:=(v7 (m5 (gN 9) (oA (z9 (o9 1 [] (V4 (gv 2)) (gN 0) noT (m7 (z9 (gv 0) (z9 (gc (.bl true)) v6)))) v6) uu0))
 (v7 (m5 (gN 8) (o9 1 [0,1,9] (V4 (gv 2)) (gN 0) (v30 (ob (oA (z9 (o2 (gv 1) (o2 (gv 0) (gc (.int 0)) ixD) ixD) (z9 (o2 (gv 2) (o2 (gv 0) (gc (.int 1)) ixD) ixD) (z9 (gv 3) v6))) zx0))) (gv 0)))
 (v7 (m5 (gN 2) (o9 1 [8] (V4 (gv 2)) (gN 0) (ob (o2 (gv 0) (gv 1) (oh0 true))) (gv 0)))
 u5)))
theorem gk0(a b c d e f g h j:Sl)(M:List (Nat×Nat)):BT [a,b,c,d,e,f,g,h,.sh (.lst (M.map pN)),j]=some (decide (M≠[])):=by
 refine Bw.zt0 ?_;rw[o4 (x:=.lst (M.map pN)) (y:=.lst []) rfl rfl];show (if lean (.lst (M.map pN)) 50=true/\lean (.lst []) 50=true then some (D.bl (!deq (.lst (M.map pN)) (.lst []))) else none)=_;rw[if_pos ⟨by unfold lean;exact Ta.ol0 M 48,rfl⟩];cases M with
 | nil=>rfl
 | cons p M =>
  show some (D.bl (!(G4 (pN p::M.map pN) [])))=_;rw[decide_eq_true (by simp)];rfl
theorem Zi0(L:List (Nat×Nat))(p:Nat×Nat):oh0 true (pN p) (.lst (L.map pN))=some (.bl (decide (p∉L))):=by
 unfold oh0;simp only[];rw[if_pos ⟨Ta.px0 _ 49,Ta.ol0 L 49⟩];have e:((L.map pN).any λy=>deq y (pN p))=decide (p∈L):=by
  rw[Bool.eq_iff_iff,List.any_eq_true,decide_eq_true_eq];constructor
  ·rintro⟨y,hy,h⟩
   obtain⟨q,hq,rfl⟩:=A6.mp hy;rw[Ta.fi0] at h;rw[← of_decide_eq_true h];exact hq
  ·intro h
   exact⟨_,A6.mpr ⟨_,h,rfl⟩,by rw[Ta.fi0,decide_eq_true rfl]⟩
 rw[e]
 by_cases h:p∈L<;>simp[h]
open Classical in
def bad(ps qs:List Pt)(L:List (Nat×Nat)):List (Nat×Nat):=L.filter λp=>!decide (up ps qs L p)
open Classical in
theorem Yi0(ps qs:List Pt)(L:List (Nat×Nat)):L.filter (λp=>decide (p∉bad ps qs L))=upf ps qs L:=by
 unfold upf;refine Cz0 λp hp=>?_
 rw[decide_eq_decide];unfold bad;rw[List.mem_filter]
 by_cases h:up ps qs L p<;>simp[h,hp]
open Classical in
theorem is0{ps qs:List Pt}:bad ps qs L=[]↔(upf ps qs L).length=L.length:=by
 unfold bad upf;rw[List.filter_eq_nil_iff,List.length_filter_eq_length_iff];refine forall_congr' λp=>forall_congr' λhp=>?_
 cases decide (up ps qs L p)<;>simp
open Classical in
theorem Vi0{ps qs:List Pt}(hp:Web ps)(hq:Web qs)(h:WI ps.length qs.length L)(d e f g i s8 s9:Sl) :
  ∃s9',BB [.sh (wd ps),.sh (wd qs),.sh (.lst (L.map pN)),d,e,f,g,i,s8,s9]=some (.nx [.sh (wd ps),.sh (wd qs),.sh (.lst ((upf ps qs L).map pN)),d,e,f,g,i,.sh (.lst ((bad ps qs L).map pN)),s9']):=by
 have zs:(2000:Nat)<=sizeLine:=by decide
 have hl:L.length<=60:=B7 h.len hp.len.2;obtain⟨D',hd,ed⟩:=jm0 L hl (dk0 L hl [.sh (wd ps),.sh (wd qs),.sh (.lst (L.map pN)),d,e,f,g,i,s8,s9] rfl);refine⟨.sh D',v9 (j7 (d:=D') ed) (v9 (j7 (d:=.lst ((bad ps qs L).map pN)) (Z5 (items:=L.map pN) rfl (by rw[List.length_map];omega) ?_)) (v9 (j7 (d:=.lst ((upf ps qs L).map pN)) (Z5 (items:=L.map pN) rfl (by rw[List.length_map];omega) ?_)) rfl))⟩
 ·refine lx0 L (λp=>!decide (up ps qs L p)) λp hm=>⟨[.sh (pN p),.sh (wd ps),.sh (wd qs),.sh D'],rfl,?_,rfl⟩
  obtain⟨a1,a2⟩:=R9 hp (h.inr p hm).1;obtain⟨b1,b2⟩:=R9 hq (h.inr p hm).2;obtain⟨t1,t2⟩:=fr0 a2 b2 hd;unfold v30 ob;rw[o5 (ds:=[(pa ps p.1).d,(pa qs p.2).d,D']) (cons_of (by rw[o4 (x:=wd ps) (y:=.int (p.1:Int)) rfl rfl];exact a1) (cons_of (by rw[o4 (x:=wd qs) (y:=.int (p.2:Int)) rfl rfl];exact b1) rfl))]
  by_cases hu:up ps qs L p
  ·rw[t1 hu,decide_eq_true hu];rfl
  ·rw[t2 hu,decide_eq_false hu];rfl
 ·rw[← Yi0]
  refine lx0 L (λp=>decide (p∉bad ps qs L)) λp hm=>⟨[.sh (pN p),.sh (.lst ((bad ps qs L).map pN))],rfl,Bw.zt0 ?_,rfl⟩
  rw[o4 (x:=pN p) (y:=.lst ((bad ps qs L).map pN)) rfl rfl];exact Zi0 _ _
theorem jt0{ps qs:List Pt}(hp:Web ps)(hq:Web qs)(d e f' g' i:Sl):∀(k f:Nat) {L M:List (Nat×Nat)} (s9:Sl),L.length<k->k+1<f->M≠[]->WI ps.length qs.length L ->
  ∃s8' s9',W9 BT BB f [.sh (wd ps),.sh (wd qs),.sh (.lst (L.map pN)),d,e,f',g',i,.sh (.lst (M.map pN)),s9]=some (.nx [.sh (wd ps),.sh (wd qs),.sh (.lst ((fx ps qs k L).map pN)),d,e,f',g',i,s8',s9'])
 | 0,f,L,M,s9,h1,_,_,_=>by omega
 | k+1,f,L,M,s9,h1,h2,hM,h=>by
  obtain⟨g,rfl⟩:∃g,f=g+2:=⟨f - 2,by omega⟩;obtain⟨s',eb⟩:=Vi0 hp hq h d e f' g' i (.sh (.lst (M.map pN))) s9;unfold fx
  by_cases hc:(upf ps qs L).length<L.length
  ·rw[if_pos hc]
   obtain⟨s8',s9',e9⟩:=jt0 hp hq d e f' g' i k (g+1) (L:=upf ps qs L) (M:=bad ps qs L) s' (by omega) (by omega) (λz=>by have:=is0.mp z;omega) (pf0 ps qs h);refine⟨s8',s9',?_⟩;unfold W9;rw[gk0,decide_eq_true hM];dsimp only;rw[eb];exact e9
  ·rw[if_neg hc]
   have:=i30 ps qs L;have hs:(upf ps qs L).length=L.length:=by omega
   rw[k80 hs,is0.mpr hs] at eb;refine⟨.sh (.lst (([]:List (Nat×Nat)).map pN)),s',?_⟩;unfold W9;rw[gk0,decide_eq_true hM];dsimp only;rw[eb];dsimp only;unfold W9;rw[gk0 (M:=[]),decide_eq_false (by simp)]
theorem b70{ps qs:List Pt}(hp:Web ps)(hq:Web qs):wj0 [wd ps,wd qs]=some (.lst ((SL (stays ps qs)).map pN)):=by
 have hw:=p10 hp hq 61 0 (wi0 hp hq);have hl:=B7 hw.len hp.len.2;have hs:=qa0 hp hq;obtain⟨a',s4,s5,s6,s7,e⟩:=jv0 hp hq 61 0 100000 (L:=[(0,0)]) .un .un .un .un rfl (by decide) (by decide) (wi0 hp hq);obtain⟨s8,s9,e2⟩:=jt0 hp hq (.sh (.int (a':Int))) s4 s5 s6 s7 61 100000 (L:=wkd ps qs) (M:=[(0,0)]) .un (by unfold wkd;omega) (by decide) (by simp) hw;refine O5 rfl (v9 (δ':=[.sh (wd ps),.sh (wd qs),.ow (.lst [pN (0,0)]),.un,.un,.un,.un,.un,.un,.un]) rfl (v9 (δ':=ls (wd ps) (wd qs) [(0,0)] 0 .un .un .un .un) rfl (v9 e (v9 (δ':=[.sh (wd ps),.sh (wd qs),.sh (.lst ((wkd ps qs).map pN)),.sh (.int (a':Int)),s4,s5,s6,s7,.sh (.lst ([(0,0)].map pN)),.un]) rfl (v9 e2 (N6 (M8 ?_)))))));rw[o5 (ds:=[.lst ((stays ps qs).map pN)]) rfl];exact rh0 hs.nd (by have:=hs.len;have:=hp.len.2;omega)
end Va
namespace Va
open DL W K22
open Ta (pa R9 w50 pN k2 Dc okv up)
open Ua (SL rs0 o30 rh0 Met dr yw0 d80 i10)
open Km (Wb)
theorem p90{ps:List Pt}(hw:Wb ps):Web ps:=⟨hw.len,λp hp=>⟨(hw.it p hp).few,λv hv=>Km.m50 ((hw.it p hp).vals v hv) (hw.lk p hp v hv)⟩⟩
theorem d70(a:Nat):∀L:List Nat,Km.ix L a=L.idxOf a
 | []=>rfl
 | b::l=>by
  unfold Km.ix;rw[List.idxOf_cons,d70 a l]
  by_cases e:b=a
  ·rw[if_pos e,e];simp
  ·rw[if_neg e,beq_false_of_ne e];rfl
theorem Zb0(ps:List Pt)(r:List Nat):Km.laid ps r=dr ps r:=by
 unfold Km.laid dr;rw[show Km.ix r=λj=>r.idxOf j from funext λa=>d70 a r];rfl
theorem ab0{ps:List Pt}(hw:Wb ps)(m:Met ps r):Km.S7 [Bw.web ps,.int ((0:Nat):Int),.lst []]=some (nd r):=by
 have h60:=hw.len;obtain⟨c,h1,h2⟩:=m.ex;have ea:∀i∈r,Km.yr0 (Bw.web ps) i=(ys0 (wd ps) i).map id:=λi hi=>by
  rw[List.map_id,hw.adj (m.lt i hi),Ua.u70 (p90 hw) (m.lt i hi)];rfl
 have d:=Ua.ii0 (adj':=Km.yr0 (Bw.web ps)) id h1 (λa _ b _ e=>e) ea;rw[List.map_id,List.map_id,List.map_id] at d;have hv:=V80 (Km.p50 hw.good) d h60.1 62 (by omega);show Km.j8 62 [Bw.web ps,.int ((0:Nat):Int),.lst (nd [])]=_;rw[Km.gp0 hw.good [] 62 0 h60.1 P6 (λx hx=>by cases hx),hv];rfl
theorem na0{ps:List Pt}(hw:Wb ps)(m:Met ps r):J2 [wd ps,.int 0]=some (wd (dr ps r)):=by
 have h:=Km.dv0 hw (a:=0) m.nd m.lt (λk hk i hi=>m.tg (p90 hw) hk hi) (ab0 hw m);rw[Zb0] at h;exact h
theorem tq0{ps:List Pt}(h:Web ps)(m:Met ps r):yf0 [wd ps,.int 0]=some (wd (dr ps r)):=Ua.tq0 h m
theorem io0{ps qs:List Pt}(hp:Web ps)(hq:Web qs){s:List Nat}(mp:Met ps r)(mq:Met qs s):t70 [wd ps,wd qs]=some (.lst ((SL (stays (dr ps r) (dr qs s))).map pN)):=by
 have wp:=(yw0 hp mp).1;have wq:=(yw0 hq mq).1;have hw:=p10 wp wq 61 0 (wi0 wp wq);have hl:=B7 hw.len wp.len.2;have hs:=qa0 wp wq;obtain⟨s4,e⟩:=i80 wp wq (.sh (wd ps)) (.sh (wd qs)) 61 100000 (L:=wkd (dr ps r) (dr qs s)) (by unfold wkd;omega) (by decide) hw;refine O5 rfl (v9 (j7 (d:=wd (dr ps r)) ?_) (v9 (j7 (d:=wd (dr qs s)) ?_) (v9 (j7 (d:=.lst ((wkd (dr ps r) (dr qs s)).map pN)) ?_) (v9 (j7 (d:=.lst ((upf (dr ps r) (dr qs s) (wkd (dr ps r) (dr qs s))).map pN)) ?_) (v9 e (N6 (M8 ?_)))))))
 ·rw[o5 (ds:=[wd ps]) rfl];exact tq0 hp mp
 ·rw[o5 (ds:=[wd qs]) rfl];exact tq0 hq mq
 ·rw[o5 (ds:=[wd (dr ps r),wd (dr qs s)]) rfl];exact ej0 wp wq
 ·rw[o5 (ds:=[wd (dr ps r),wd (dr qs s),.lst ((wkd (dr ps r) (dr qs s)).map pN)]) rfl];exact gy0 wp wq hw
 ·rw[o5 (ds:=[.lst ((stays (dr ps r) (dr qs s)).map pN)]) rfl]
  exact rh0 hs.nd (by have:=hs.len;have:=wp.len.2;omega)
def dg(l:List Nat):List (Nat×Nat):=l.map λk=>(k,k)
theorem bh0(l:List Nat):fs (dg l)=l:=by unfold fs dg;rw[List.map_map];exact r9 l
theorem Vr0(l:List Nat):sn (dg l)=l:=by unfold sn dg;rw[List.map_map];exact r9 l
theorem Wr0(a b:List Nat):dg (a++b)=dg a++dg b:=by unfold dg;rw[List.map_append]
theorem mn0{l:List Nat}{k:Nat}(h:k∈l):(k,k)∈dg l:=A6.mpr ⟨k,h,rfl⟩
theorem X70(l:List Nat){v:D}(h:Lv n v):∃t,wst (dg l) v v=dg (l++t)/\∀j,v=.tup [.str "at",.int ((j:Nat):Int)]->j∈l++t:=by
 rcases h with rfl|⟨z,rfl⟩|⟨i,rfl,hi⟩
 ·exact⟨[],by rw[List.append_nil];rfl,λj e=>by cases e⟩
 ·exact⟨[],by rw[List.append_nil];rfl,λj e=>by cases e⟩
 ·have inj:∀j:Nat,D.tup [.str "at",.int (i:Int)]=.tup [.str "at",.int (j:Int)]->j=i:=λj e=>by
   injection e with e
   injection e with _ e
   injection e with e _
   injection e with e
   omega
  rw[pa0,bh0,Vr0]
  by_cases hc:i∈l
  ·rw[if_neg (λz=>z.1 hc)]
   exact⟨[],by rw[List.append_nil],λj e=>by rw[inj j e,List.append_nil];exact hc⟩
  ·rw[if_pos ⟨hc,hc⟩]
   exact⟨[i],by rw[Wr0];rfl,λj e=>by rw[inj j e];simp⟩
theorem jl0:∀(vs:List D) (l:List Nat),(∀v∈vs,Lv n v)->∃t,vz0 (dg l) (vs.zip vs)=dg (l++t)/\∀j∈tgs vs,j∈l++t
 | [],l,_=>⟨[],by rw[List.append_nil];rfl,λj hj=>by cases hj⟩
 | v::vs,l,h=>by
  obtain⟨t,e,ht⟩:=X70 l (h v A5);obtain⟨t2,e2,ht2⟩:=jl0 vs (l++t) λu hu=>h u (A4 _ hu)
  refine⟨t++t2,?_,λj hj=>?_⟩
  ·show vz0 (wst (dg l) v v) (vs.zip vs)=_
   rw[e,e2,List.append_assoc]
  ·rw[← List.append_assoc]
   rcases h v A5 with rfl|⟨z,rfl⟩|⟨i,rfl,hi⟩
   ·rw[Ta.t20 _ (.inl rfl)] at hj;exact ht2 j hj
   ·rw[Ta.t20 _ (.inr ⟨z,rfl⟩)] at hj;exact ht2 j hj
   ·rw[p30] at hj
    rcases A9.mp hj with rfl|hj
    ·exact G0 _ (ht j rfl)
    ·exact ht2 j hj
theorem bt0{qs:List Pt}(hq:Web qs):∀(k a:Nat) (l:List Nat),a+k=61->a<=l.length->WI qs.length qs.length (dg l)->(∀x,x<a->∀y,l[x]?=some y->∀j∈tgs (pa qs y).vals,j∈l) ->
  ∃t,wk qs qs k a (dg l)=dg (l++t)/\∀y∈l++t,∀j∈tgs (pa qs y).vals,j∈l++t
 | 0,a,l,h1,h2,h,_=>by
  have:=h.len;have:=hq.len.2;unfold dg at *;rw[List.length_map] at *;omega
 | k+1,a,l,h1,h2,h,hc=>by
  unfold wk;rw[show (dg l)[a]?=(l[a]?).map λk=>(k,k) from by unfold dg;rw[List.getElem?_map]];cases e:l[a]? with
  | none =>
   have hl:=Ar0.mp e;refine⟨[],by rw[List.append_nil];rfl,λy hy j hj=>?_⟩;rw[List.append_nil] at hy ⊢;obtain⟨x,hx,ex⟩:=I0.mp hy;exact hc x (by omega) y (by rw[List.getElem?_eq_getElem hx,ex]) j hj
  | some y =>
   have hl:=(D0.mp e).1;have hm:(y,y)∈dg l:=mn0 (D2 e);have hy:=(h.inr _ hm).1;have lv:=(R9 hq hy).2.lv;obtain⟨t,et,ht⟩:=jl0 (pa qs y).vals l lv;have hw:=ut0 ((pa qs y).vals.zip (pa qs y).vals) h λq hq'=>⟨lv _ (D7 hq').1,lv _ (D7 hq').2⟩
   rw[et] at hw;obtain⟨t2,e2,h3⟩:=bt0 hq k (a+1) (l++t) (by omega) (by rw[List.length_append];omega) hw (λx hx z hz j hj=>by
    by_cases hxa:x<a
    ·rw[List.getElem?_append_left (by omega)] at hz
     exact G0 _ (hc x hxa z hz j hj)
    ·have:x=a:=by omega
     subst this;rw[List.getElem?_append_left hl,e] at hz;cases hz;exact ht j hj)
   refine⟨t++t2,?_,?_⟩
   ·show wk qs qs k (a+1) (vz0 (dg l) ((pa qs y).vals.zip (pa qs y).vals))=_
    rw[et,e2,List.append_assoc]
   ·rw[← List.append_assoc];exact h3
theorem Vd0{adj:Nat->List Nat}(hS:∀i∈S,∀j∈adj i,j∈S){c:Nat}{o:List Nat}(h:Dfs adj [] c o T r):(∀x∈o,x∈S)->(∀x∈T,x∈S)->∀x∈r,x∈S:=by
 induction h with
 | nil o=>intro h1 _;exact h1
 | skip _ _ ih=>intro h1 h2;exact ih h1 λx hx=>h2 x (A4 _ hx)
 | @visit c o T r x _ _ _ _ ih =>
  intro h1 h2;have hx:=h2 x A5;refine ih (λy hy=>?_) (λy hy=>?_)
  ·rcases B8.mp hy with q|q
   ·exact h1 y q
   ·rw[List.mem_singleton.mp q];exact hx
  ·rcases B8.mp hy with q|q
   ·exact hS x hx y q
   ·exact h2 y (A4 _ q)
theorem Yh0{ps:List Pt}(hp:Web ps)(m:Met ps r):Met (dr ps r) (List.range (dr ps r).length):=by
 obtain⟨hw,hl⟩:=yw0 hp m;have h:=(i10 hp hw m (d80 hp m)).1;have e:r.map (λj=>r.idxOf j)=List.range r.length:=by
  refine List.ext_getElem (by simp) λi h1 h2=>?_
  rw[List.length_map] at h1;rw[List.getElem_map,List.getElem_range];exact Ua.Wk0 m.nd h1
 rw[hl,← e];exact h
open Classical in
theorem g00{qs:List Pt}(hq:Web qs)(m:Met qs (List.range qs.length)):SL (stays qs qs)=dg (List.range qs.length):=by
 obtain⟨t,e,hc⟩:=bt0 hq 61 0 [0] rfl (by simp) (wi0 hq hq) (λx hx=>by omega);have hwi:WI qs.length qs.length (dg ([0]++t)):=by rw[← e];exact p10 hq hq 61 0 (wi0 hq hq)
 generalize hl:[0]++t=l at e hc hwi;have h0:0∈l:=by rw[← hl];simp
 have lt:∀y∈l,y<qs.length:=λy hy=>(hwi.inr _ (mn0 hy)).1
 have all:∀y∈List.range qs.length,y∈l:=by
  obtain⟨c,h1,_⟩:=m.ex;exact Vd0 (S:=l) (λi hi j hj=>hc i hi j (by rw[Ua.u70 hq (lt i hi)] at hj;exact hj)) h1 (λx hx=>by cases hx) (λx hx=>by rw[List.mem_singleton.mp hx];exact h0)
 have nd':l.Nodup:=by have:=hwi.f;rwa [bh0] at this
 have pm:l.Perm (List.range qs.length):=(List.perm_ext_iff_of_nodup nd' Cx0).mpr λy=>⟨λh=>C3.mpr (lt y h),all y⟩
 have hu:upf qs qs (dg l)=dg l:=by
  refine D00.mpr λp hp=>L1 ?_
  obtain⟨y,hy,rfl⟩:=A6.mp hp;refine⟨rfl,λq hq'=>?_⟩;have lv:=(R9 hq (lt y hy)).2.lv;obtain⟨i,hi1,ei⟩:=I0.mp hq';rw[List.getElem_zip] at ei;obtain⟨q1,q2⟩:=q;have e12:q1=q2:=by injection ei with a b;rw[← a,← b]
  subst e12;have hv:=(D7 hq').1;show okv (dg l) q1 q1;rcases lv q1 hv with rfl|⟨z,rfl⟩|⟨j,rfl,hj⟩
  ·rfl
  ·rfl
  ·unfold okv
   simp only[Int.toNat_natCast];exact mn0 (hc y hy j (wm0 hv))
 have hs:stays qs qs=dg l:=by
  unfold stays wkd;rw[show[((0:Nat),(0:Nat))]=dg [0] from rfl,e];unfold fx;rw[hu,if_neg (by omega)]
 rw[hs,o30 (show (dg l).Perm (dg (List.range qs.length)) from pm.map _)];unfold SL;have hsort:(dg (List.range qs.length)).map Ta.zz=SoT.srt ((dg (List.range qs.length)).map Ta.zz):=SoT.fs0 (List.Perm.refl _) (by
  unfold dg;rw[List.map_map,List.pairwise_map];refine List.pairwise_lt_range.imp λ{a b} h=>?_
  rw[SoT.up0];show (a:Int)<(b:Int)∨_;left;omega)
 rw[← hsort,List.map_map];refine(N0 λp _=>?_).trans (r9 _);show (((p.1:Int)).toNat,((p.2:Int)).toNat)=p;rw[Int.toNat_natCast,Int.toNat_natCast]
theorem qy0(k:Nat)(z:Int):Z4 (k+1) [.int z,.int z]=some (.bl true):=Bw.qy0 k z
theorem jp0(m:Nat){X:D}(hX:X=.tup ds∨X=.lst ds)(hl:ds.length<=1000)(h:∀d∈ds,Z4 m [d,d]=some (.bl true)):Z4 (m+1) [X,X]=some (.bl true):=by
 have z:(10000000:Nat)<=sizeLine:=by decide
 refine Z1 rfl (v9 (δ':=[.sh X,.sh X]) (by rcases hX with rfl|rfl<;>rfl) (v9 (δ':=[.sh X,.sh X]) (by rcases hX with rfl|rfl<;>rfl) (v9 (δ':=[.sh X,.sh X]) (by rcases hX with rfl|rfl<;>rfl) (v9 (δ':=[.sh X,.sh X]) (by rcases hX with rfl|rfl<;>rfl) (n6 (Y4 ?_))))));have ln:∀(g:GE) (δ:Ds),g δ=some X->oA (z9 g v6) Y8 δ=some (.int (ds.length:Int)):=λg δ hg=>by rw[o5 (ds:=[X]) (cons_of hg rfl)];rcases hX with rfl|rfl<;>rfl
 have ix:∀k:Nat,(hk:k<ds.length)->ixD X (.int (k:Int))=some ds[k]:=λk hk=>by
  have e:atI ds (k:Int)=some ds[k]:=by
   rw[yb0 (by omega) (by omega) .non];simp[List.getD_eq_getElem?_getD,hk]
  rcases hX with rfl|rfl<;>exact e
 unfold xu0;rw[Bw.zt0 (b:=true) (by
  rw[o4 (x:=.int (ds.length:Int)) (y:=.int (ds.length:Int)) (ln _ _ rfl) (ln _ _ rfl)];show some (D.bl (decide ((ds.length:Int)=(ds.length:Int))))=_;rw[decide_eq_true rfl]),Option.bind_some,if_pos rfl]
 rw[o5 (ds:=[.lst ((List.range ds.length).map λ_=>.bl true)]) (cons_of (Z5 (items:=R7 0 (ds.length:Int)) (xi0 (cons_of (ln _ _ rfl) rfl) (by omega) (by omega)) (by rw[ym0];omega) (by
  have q:=yd0 (gt:=noT) (ge:=oA (z9 (o2 (gv 1) (gv 0) ixD) (z9 (o2 (gv 2) (gv 0) ixD) v6)) (Z4 m)) (δ:=[.un,.sh X,.sh X]) (n:=(ds.length:Int)) (λ_=>.bl true) (λk hk=>⟨[.sh (.int (k:Int)),.sh X,.sh X],rfl,rfl,by
   have hk':k<ds.length:=by omega
   rw[o5 (ds:=[ds[k],ds[k]]) (cons_of (by rw[o4 (x:=X) (y:=.int (k:Int)) rfl rfl];exact ix k hk') (cons_of (by rw[o4 (x:=X) (y:=.int (k:Int)) rfl rfl];exact ix k hk') rfl))];exact h _ (E5 hk')⟩)
  rw[Int.toNat_natCast] at q;exact q)) rfl)]
 simp only[k20];rw[oq0 (λ_=>true)];simp
theorem bs0(L:List (Nat×Nat))(hl:L.length<=1000):T7 [.lst (L.map pN),.lst (L.map pN)]=some (.bl true) :=
 jp0 7 (.inr rfl) (by rw[List.length_map];exact hl) λd hd=>by
  obtain⟨p,_,rfl⟩:=A6.mp hd;exact jp0 6 (.inl rfl) (by simp) λe he=>by
   rcases A9.mp he with rfl|he
   ·exact qy0 5 _
   ·rw[List.mem_singleton.mp he];exact qy0 5 _
end Va
namespace Va
open DL W K22
open Km (Wb lkd)
open Bw (Vb Gq cnt Lk)
theorem mu0(xs:List D)(k:Int)(h:0<=k):cutD xs none (some k)=xs.take k.toNat:=by
 unfold cutD sIx;simp only[];rw[if_neg (by omega),List.drop_zero,Nat.sub_zero]
 by_cases q:k.toNat<=xs.length
 ·rw[Nat.min_eq_left q]
 ·rw[Nat.min_eq_right (by omega),List.take_length,List.take_of_length_le (by omega)]
theorem l70{p:Pt}(h:Gq p):tree p.d=true:=by
 have tv:∀{v:D},Vb v->tree v=true:=λ{v} hv=>by cases hv<;>rfl
 have tl:∀l:List D,(∀v∈l,Vb v)->trees l=true:=by
  intro l
  induction l with
  | nil=>intro _;rfl
  | cons v l ih=>intro hl;rw[trees,tv (hl v A5),ih λu hu=>hl u (A4 _ hu)];rfl
 have tp:∀l:List (Str×D),(∀v∈l.map (·.2),Vb v)->trees (l.map pr)=true:=by
  intro l
  induction l with
  | nil=>intro _;rfl
  | cons v l ih =>
   intro hl;have e:tree (pr v)=true:=by
    show (tree (.str v.1)&&(tree v.2&&true))=true;rw[tv (hl v.2 A5)];rfl
   rw[List.map_cons,trees,e,ih λu hu=>hl u (A4 _ hu)];rfl
 cases p with
 | text w=>rfl
 | row vs=>show (true&&(trees vs&&true))=true;rw[tl vs h.vals];rfl
 | table ps=>show (true&&(trees (ps.map pr)&&true))=true;rw[tp ps h.vals];rfl
 | rcd c ps=>show (true&&(true&&(trees (ps.map pr)&&true)))=true;rw[tp ps h.vals];rfl
theorem Wq0{p:Pt}(h:Gq p){vs:List D}(hl:vs.length=p.vals.length)(hv:∀v∈vs,Vb v):Gq (Pn.put p vs)/\(Pn.put p vs).vals=vs:=by
 have e:=vp0 p vs hl;have hf:=h.few;refine⟨⟨?_,by rw[e];exact hv,?_,by rw[e,hl];exact hf⟩,e⟩
 ·cases p with
  | text w=>exact h.cnt
  | row us=>show vs.length<=20;omega
  | table ps=>show ((ps.map (·.1)).zip vs).length<=20;rw[List.length_zip];omega
  | rcd c ps=>show ((ps.map (·.1)).zip vs).length<=20;rw[List.length_zip];omega
 ·have hn:=h.names
  cases p with
  | text w=>exact hn
  | row us=>exact hn
  | table ps =>
   intro s hs;refine hn s ?_;have hs:s∈((ps.map (·.1)).zip vs).map (·.1)++[]:=hs;show s∈ps.map (·.1)++[];rw[Ua.u50 _ _ (by rw[List.length_map];have:vs.length=(ps.map (·.2)).length:=hl;rw[this,List.length_map])] at hs;exact hs
  | rcd c ps =>
   intro s hs;refine hn s ?_;have hs:s∈((ps.map (·.1)).zip vs).map (·.1)++[c]:=hs;show s∈ps.map (·.1)++[c];rw[Ua.u50 _ _ (by rw[List.length_map];have:vs.length=(ps.map (·.2)).length:=hl;rw[this,List.length_map])] at hs;exact hs
theorem U6(c k:Int)(h0:0<=k)(h1:k<=1000000):∃x,0<=x/\x<2147483647/\t7 [.int c,.int k]=some (.int x):=Bw.U6 c k h0 h1
theorem te0(c k m:Int)(hc:c.natAbs.log2<=1048576)(hk:0<=k/\k<=100)(hm:0<m/\m<=1000):∃v,Z2 [.int c,.int k,.int m]=some v/\Vb v/\Lk m.toNat v:=Bw.te0 c k m hc hk hm
theorem rl0(c:Int):∃nm,Q7 [.int c,.int 12]=some (.lst (nm.map .str))/\Bw.Pool nm:=Bw.rl0 c
theorem wl0(ns:List Int)(hb:∀z∈ns,z.natAbs.log2<=1048576)(k:Int)(h0:0<=k)(h1:k<=1000):∃z,d9 [.lst (ns.map .int),.int k]=some (.int z)/\z.natAbs.log2<=1048576:=Bw.wl0 ns hb k h0 h1
theorem xy0(ns:List Int)(hb:∀z∈ns,z.natAbs.log2<=1048576)(a:Int)(ha:0<=a/\a<=100)(most:Int)(hm:0<most/\most<=60):∃ps:List Pt,T3 [.lst (ns.map .int),.int a,.int most]=some (wd ps)/\Wb ps:=Km.xy0 ns hb a ha most hm
theorem v90(p:Pt)(h:p.vals.length<=20)(vs:List D)(hl:vs.length=p.vals.length):U3 [p.d,.lst vs]=some (Pn.put p vs).d:=Km.v90 p h vs hl
theorem Us0(a b:Str):(a++b).length=a.length+b.length:=by
 show (a.cps++b.cps).size=a.cps.size+b.cps.size;rw[Array.size_append]
theorem Y30(z:Str):(Txt.slice z none (some 20)).length<=20:=by
 by_cases h:z.length<=20
 ·exact B7 (Txt.slice_le z _ _) h
 ·have hz:(strOf z.cps.toList).length=z.cps.toList.length:=zr0 _
  have e:=Gw.ff0 z.cps.toList 20 (by decide) (by rw[ki0] at hz;rw[← hz];omega);rw[ki0] at e;rw[e,zr0,List.length_take];omega
theorem ep0{p:Pt}(h:Gq p)(hk:∀v∈p.vals,Lk n v)(hp:Bw.Pool nm)(c:Int):∃p',zy0 [p.d,.int c,.lst (nm.map .str)]=some p'.d/\Gq p'/\∀v∈p'.vals,Lk n v:=by
 have z:(1000:Nat)<=sizeLine:=by decide
 obtain⟨x,x0,x1,x2⟩:=U6 c 5 (by decide) (by decide);obtain⟨y,y0,y1,y2⟩:=U6 c 6 (by decide) (by decide);obtain⟨a1,a2⟩:=Bw.m80 nm hp (x%12) (by omega) (by omega);generalize nm.getD (x%12).toNat ""=nam at a1 a2;have short:nam.length<=20:=by have:=qu0 (hp.names nam a2);omega
 have s3:∀s:Sl,m5 (gN 3) (o2 (gv 2) (o2 (oA (z9 (gv 1) (z9 (gc (.int 5)) v6)) t7) (gc (.int 12)) j5) ixD) [.sh p.d,.sh (.int c),.sh (.lst (nm.map .str)),s]=some (.nx [.sh p.d,.sh (.int c),.sh (.lst (nm.map .str)),.sh (.str nam)]):=λs=>by
  refine j7 (i:=3) (d:=.str nam) ?_;rw[o4 (x:=.lst (nm.map .str)) (y:=.int (x%12)) rfl (by
   rw[o4 (x:=.int x) (y:=.int 12) (by rw[o5 (ds:=[.int c,.int 5]) rfl];exact x2) rfl];rfl)]
  exact a1
 have md:∀(m:Int),0<m->∀d0 d2 d3:Sl,o2 (oA (z9 (gv 1) (z9 (gc (.int 6)) v6)) t7) (gc (.int m)) j5 [d0,.sh (.int c),d2,d3]=some (.int (y%m)):=λm hm d0 d2 d3=>by
  rw[o4 (x:=.int y) (y:=.int m) (by rw[o5 (ds:=[.int c,.int 6]) rfl];exact y2) rfl];exact Gw.wg0 _ _ hm
 cases p with
 | text w =>
  have hw:w.length<=20:=h.cnt;have e5:("a b 9" : Str).length=5:=by decide +kernel
  have l1:(w++("a b 9" : Str)).length<=25:=by rw[Us0,e5];omega
  have l2:(Txt.slice (w++("a b 9" : Str)) (some (y%4)) none).length<=25:=B7 (Txt.slice_le _ _ _) l1;refine⟨.text (Txt.slice (Txt.slice (w++("a b 9" : Str)) (some (y%4)) none) none (some 20)),Z1 rfl (v9 (s3 _) (n6 ?_)),⟨Y30 _,λv hv=>(by cases hv),λs hs=>(by cases hs),C5 _⟩,λv hv=>(by cases hv)⟩;rw[V0 (by kernel_rfl)];refine n6 (Y4 (Z7 (cons_of rfl (cons_of (d:=.str (Txt.slice (Txt.slice (w++("a b 9" : Str)) (some (y%4)) none) none (some 20))) ?_ rfl)) (by show 2<=sizeLine;omega)));have e1:o2 (o2 (gv 0) (gc (.int 1)) ixD) (gc (.str "a b 9")) j6 [.sh (Pt.text w).d,.sh (.int c),.sh (.lst (nm.map .str)),.sh (.str nam)]=some (.str (w++("a b 9" : Str))):=by
   rw[o4 (x:=.str w) (y:=.str "a b 9") rfl rfl];simp only[j6];rw[if_pos (by rw[e5];omega)]
  have e2:J7 (o2 (o2 (gv 0) (gc (.int 1)) ixD) (gc (.str "a b 9")) j6) (someO (o2 (oA (z9 (gv 1) (z9 (gc (.int 6)) v6)) t7) (gc (.int 4)) j5)) O6 [.sh (Pt.text w).d,.sh (.int c),.sh (.lst (nm.map .str)),.sh (.str nam)]=some (.str (Txt.slice (w++("a b 9" : Str)) (some (y%4)) none)):=by
   unfold J7 someO O6;rw[e1,md 4 (by decide),Option.bind_some];show slA (.str (w++("a b 9" : Str))) (some (y%4)) none=_;simp only[slA];rw[if_pos (by omega)]
  show Option.bind (J7 _ _ _ [.sh (Pt.text w).d,.sh (.int c),.sh (.lst (nm.map .str)),.sh (.str nam)]) _=_;rw[e2];show slA (.str (Txt.slice (w++("a b 9" : Str)) (some (y%4)) none)) none (some 20)=_;simp only[slA];rw[if_pos (by omega)]
 | row vs =>
  have hv:vs.length<=12:=h.few;refine⟨.row ((vs++[D.non,.int 3]).take (y%12).toNat),Z1 rfl (v9 (s3 _) (v9 (δ':=[.sh (Pt.row vs).d,.sh (.int c),.sh (.lst (nm.map .str)),.sh (.str nam)]) (by rw[Z0 (by kernel_rfl)];rfl) (n6 ?_))),⟨?_,λv hv=>?_,λs hs=>(by cases hs),?_⟩,λv hv=>?_⟩
  ·rw[V0 (by kernel_rfl)]
   refine n6 (Y4 (Z7 (cons_of rfl (cons_of (d:=.tup ((vs++[D.non,.int 3]).take (y%12).toNat)) ?_ rfl)) (by show 2<=sizeLine;omega)));have e1:o2 (o2 (gv 0) (gc (.int 1)) ixD) (m7 (z9 (gc .non) (z9 (gc (.int 3)) v6))) j6 [.sh (Pt.row vs).d,.sh (.int c),.sh (.lst (nm.map .str)),.sh (.str nam)]=some (.tup (vs++[D.non,.int 3])):=by
    rw[o4 (x:=.tup vs) (y:=.tup [.non,.int 3]) rfl (Z7 (cons_of rfl (cons_of rfl rfl)) (by show 2<=sizeLine;omega))];simp only[j6];rw[if_pos (by simp only[List.length_cons,List.length_nil];omega)]
   unfold J7 someO O6;rw[e1,md 12 (by decide),Option.bind_some];show some (D.tup (cutD (vs++[D.non,.int 3]) none (some (y%12))))=_;rw[mu0 _ _ (by omega)]
  ·show ((vs++[D.non,.int 3]).take (y%12).toNat).length<=20
   rw[List.length_take];omega
  ·rcases B8.mp (S4 hv) with q|q
   ·exact h.vals v q
   ·rcases A9.mp q with rfl|q
    ·exact .non
    ·rw[List.mem_singleton.mp q];exact .int 3 (by decide)
  ·show ((vs++[D.non,.int 3]).take (y%12).toNat).length<=12
   rw[List.length_take];omega
  ·rcases B8.mp (S4 hv) with q|q
   ·exact hk v q
   ·rcases A9.mp q with rfl|q
    ·exact λj e=>nomatch e
    ·rw[List.mem_singleton.mp q];exact λj e=>nomatch e
 | table ps =>
  refine⟨.rcd nam ps,Z1 rfl (v9 (s3 _) (v9 (δ':=[.sh (Pt.table ps).d,.sh (.int c),.sh (.lst (nm.map .str)),.sh (.str nam)]) (by rw[Z0 (by kernel_rfl)];rfl) (v9 (δ':=[.sh (Pt.table ps).d,.sh (.int c),.sh (.lst (nm.map .str)),.sh (.str nam)]) (by rw[Z0 (by kernel_rfl)];rfl) (n6 ?_)))),⟨h.cnt,h.vals,λs hs=>?_,h.few⟩,hk⟩
  ·rw[V0 (by kernel_rfl)]
   exact n6 (Y4 (Z7 (cons_of rfl (cons_of rfl (cons_of rfl rfl))) (by show 3<=sizeLine;omega)))
  ·have hs:s∈ps.map (·.1)++[nam]:=hs
   rcases B8.mp hs with q|q
   ·exact h.names s (by show s∈ps.map (·.1)++[];rw[List.append_nil];exact q)
   ·rw[List.mem_singleton.mp q];exact short
 | rcd cl ps =>
  have hf:(ps.map (·.2)).length<=12:=h.few;rw[List.length_map] at hf;refine⟨.rcd nam (ps.take (y%13).toNat),Z1 rfl (v9 (s3 _) (v9 (δ':=[.sh (Pt.rcd cl ps).d,.sh (.int c),.sh (.lst (nm.map .str)),.sh (.str nam)]) (by rw[Z0 (by kernel_rfl)];rfl) (v9 (δ':=[.sh (Pt.rcd cl ps).d,.sh (.int c),.sh (.lst (nm.map .str)),.sh (.str nam)]) (by rw[Z0 (by kernel_rfl)];rfl) (v9 (δ':=[.sh (Pt.rcd cl ps).d,.sh (.int c),.sh (.lst (nm.map .str)),.sh (.str nam)]) (by rw[Z0 (by kernel_rfl)];rfl) (n6 (Y4 ?_)))))),⟨?_,λv hv=>?_,λs hs=>?_,?_⟩,λv hv=>?_⟩
  ·refine Z7 (cons_of rfl (cons_of rfl (cons_of (d:=.tup ((ps.take (y%13).toNat).map pr)) ?_ rfl))) (by show 3<=sizeLine;omega)
   unfold J7 someO O6;rw[show o2 (gv 0) (gc (.int 2)) ixD [.sh (Pt.rcd cl ps).d,.sh (.int c),.sh (.lst (nm.map .str)),.sh (.str nam)]=some (.tup (ps.map pr)) from rfl,md 13 (by decide),Option.bind_some];show some (D.tup (cutD (ps.map pr) none (some (y%13))))=_;rw[mu0 _ _ (by omega),List.map_take]
  ·show (ps.take (y%13).toNat).length<=20
   rw[List.length_take];omega
  ·have hv:v∈(ps.take (y%13).toNat).map (·.2):=hv
   rw[List.map_take] at hv;exact h.vals v (S4 hv)
  ·have hs:s∈(ps.take (y%13).toNat).map (·.1)++[nam]:=hs
   rcases B8.mp hs with q|q
   ·rw[List.map_take] at q
    exact h.names s (G0 _ (S4 q))
   ·rw[List.mem_singleton.mp q];exact short
  ·show ((ps.take (y%13).toNat).map (·.2)).length<=12
   rw[List.length_map,List.length_take];omega
  ·have hv:v∈(ps.take (y%13).toNat).map (·.2):=hv
   rw[List.map_take] at hv;exact hk v (S4 hv)
end Va
namespace Va
open DL W K22
open Km (Wb lkd y20)
open Bw (Vb Gq cnt Lk)
open Ta (pN)
open Ua (SL rs0 Met dr yw0 km0)
theorem jj0(h:n<=m){v:D}(x:Lk n v):Lk m v:=λj e=>B1 (x j e) h
theorem eo0{qs:List Pt}(hw:Wb qs){p:Pt}(hp:Gq p)(hk:∀v∈p.vals,Lk qs.length v):Wb (qs.set i p):=by
 have hl:(qs.set i p).length=qs.length:=As0;refine⟨by rw[hl];exact hw.len,λq hq=>?_,λq hq=>?_⟩
 ·rcases t4 hq with z|rfl
  ·exact hw.it q z
  ·exact hp
 ·rw[hl]
  rcases t4 hq with z|rfl
  ·exact hw.lk q z
  ·exact hk
theorem Xb0{qs:List Pt}(hw:Wb qs)(h:qs.length<60){p:Pt}(hp:Gq p)(hk:∀v∈p.vals,Lk (qs.length+1) v):Wb (qs++[p]):=by
 have hl:(qs++[p]).length=qs.length+1:=by simp
 refine⟨by rw[hl];omega,λq hq=>?_,λq hq v hv=>?_⟩
 ·rcases B8.mp hq with z|z
  ·exact hw.it q z
  ·rw[List.mem_singleton.mp z];exact hp
 ·rw[hl]
  rcases B8.mp hq with z|z
  ·exact jj0 (k6 _) (hw.lk q z v hv)
  ·rw[List.mem_singleton.mp z] at hv;exact hk v hv
theorem pe0{v:D}{k:Nat}{g gk:GE}(h1:owL i δ=some l)(h2:g δ=some v)(h3:gk δ=some (.int (k:Int)))(h4:k<l.length):W8 (Y9 g) (setAt i gk) δ=some (.nx (δ.set i (.ow (.lst (l.set k v))))):=by
 have e:ixN l.length (k:Int)=some k:=by
  unfold ixN;rw[if_pos (by omega),if_pos (by omega),Int.toNat_natCast]
 unfold W8 Y9;rw[h2,Option.map_some,Option.bind_some];unfold setAt;rw[h1,Option.bind_some,h3,Option.bind_some];simp only[];rw[e];rfl
theorem l30(a b:Int):ue0 (.int a) (.int b)=some (.bl (decide (a=b))):=by
 unfold ue0;rw[if_pos ⟨by simp[lean],by simp[lean]⟩];rw[deq];rfl
theorem t30(h:gv i (frz δ)=some (.lst l)):R0 (oA (z9 (gv i) v6) Y8) δ=some (.int (l.length:Int)):=by
 unfold R0;rw[l40 h];rfl
theorem fd(x m:Int)(h0:0<m)(h1:m<1073741824):zh0 (.int x) (.int m)=some (.int (x/m)):=by
 simp only[zh0,ii];rw[if_pos ⟨h0,h1⟩]
theorem dm{x:Int}(h:gv i δ=some (.int x))(a m:Int)(ha:0<a/\a<1073741824)(hm:0<m):o2 (o2 (gv i) (gc (.int a)) zh0) (gc (.int m)) j5 δ=some (.int (x/a%m)):=by
 rw[o4 (x:=.int (x/a)) (y:=.int m) (by rw[o4 (x:=.int x) (y:=.int a) h rfl];exact fd x a ha.1 ha.2) rfl];exact Gw.wg0 _ _ hm
def CA:GS:=(v7 (W8 (Y9 (oA (z9 (ye0 (o2 (gv 3) (gv 6) ixD)) (z9 (gv 5) (z9 (gv 2) v6))) zy0)) (setAt 3 (gv 6)))
 u5)
def CI:GE:=(o2 (o2 (gv 5) (gc (.int 2400)) zh0) (R0 (oA (z9 (gv 7) v6) Y8)) j5)
def CP:GE:=(o2 (W7 (z9 (m7 (z9 (gc (.str "text")) (z9 (gc (.str "new")) v6))) (z9 (m7 (z9 (gc (.str "row")) (z9 (m7 (z9 (m7 (z9 (gc (.str "at")) (z9 (gv 6) v6))) (z9 (gc .non) v6))) v6))) v6))) (o2 (o2 (gv 5) (gc (.int 1200)) zh0) (gc (.int 2)) j5) ixD)
def CN:GS:=(v7 (V1 (zm0 3 CP))
 (v7 (W8 (Y9 (m7 (z9 (gc (.str "at")) (z9 (o2 (R0 (oA (z9 (gv 3) v6) Y8)) (gc (.int 1)) tt0) v6)))) (setAt 7 CI))
 u5))
def CV:GS:=(v7 (W8 (Y9 (oA (z9 (gv 5) (z9 (gc (.int 4)) (z9 (R0 (oA (z9 (gv 3) v6) Y8)) v6))) Z2)) (setAt 7 CI))
 u5)
def CT:GB:=(J3 (ob (o2 (o2 (o2 (gv 5) (gc (.int 300)) zh0) (gc (.int 4)) j5) (gc (.int 0)) ue0)) (ob (o2 (R0 (oA (z9 (gv 3) v6) Y8)) (gc (.int 60)) ltD)))
def CW:GS:=(v7 (ifD CT
 CN
 CV)
 (v7 (W8 (Y9 (ye0 (oA (z9 (o2 (gv 3) (gv 6) ixD) (z9 (gv 7) v6)) U3))) (setAt 3 (gv 6)))
 u5))
def CE:GS:=(v7 (ifD (z50 (ob (o2 (gv 7) (W7 v6) M7)))
 CW
 u5)
 u5)
def CB:GS:=(v7 (m5 (gN 5) (oA (z9 (gv 1) (z9 (o2 (gc (.int 8)) (gv 4) j6) v6)) t7))
 (v7 (m5 (gN 6) (o2 (gv 5) (R0 (oA (z9 (gv 3) v6) Y8)) j5))
 (v7 (wt0 7 (R5 7 (oA (z9 (ye0 (o2 (gv 3) (gv 6) ixD)) v6) j9)))
 (v7 (ifD (ob (o2 (o2 (o2 (gv 5) (gc (.int 60)) zh0) (gc (.int 5)) j5) (gc (.int 0)) ue0))
 CA
 CE)
 u5))))
def cs(W NM:D)(c:Int)(l:List D)(j x:Int)(a:Nat)(s7:Sl):Ds:=[.sh W,.sh (.int c),.sh NM,.ow (.lst l),.sh (.int j),.sh (.int x),.sh (.int (a:Int)),s7]
theorem ic0(qs:List Pt)(i:Nat)(p:Pt):(qs.map Pt.d).set i p.d=(qs.set i p).map Pt.d:=by rw[List.map_set]
theorem ee0{qs:List Pt}(hw:Wb qs){a:Nat}(ha:a<qs.length){p:Pt}(hp:qs.getD a (.row [])=p){vs:List D}(hl:vs.length=p.vals.length)(hv:∀v∈vs,Vb v)(hk:∀v∈vs,Lk qs.length v)(W NM:D)(c j x:Int) :
  ∃qs',Wb qs'/\W8 (Y9 (ye0 (oA (z9 (o2 (gv 3) (gv 6) ixD) (z9 (gv 7) v6)) U3))) (setAt 3 (gv 6)) (cs W NM c (qs.map Pt.d) j x a (.ow (.lst vs)))=some (.nx (cs W NM c (qs'.map Pt.d) j x a (.ow (.lst vs)))):=by
 obtain⟨w1,w2⟩:=y20 ha;rw[hp] at w1 w2;obtain⟨g1,g2⟩:=Wq0 (hw.it _ w2) hl hv;have hf:=(hw.it _ w2).few;refine⟨qs.set a (Pn.put p vs),eo0 hw g1 (by rw[g2];exact hk),?_⟩;rw[pe0 (l:=qs.map Pt.d) (v:=(Pn.put p vs).d) (k:=a) rfl (va0 (by
  show oA (z9 (o2 (gv 3) (gv 6) ixD) (z9 (gv 7) v6)) U3 [.sh W,.sh (.int c),.sh NM,.sh (.lst (qs.map Pt.d)),.sh (.int j),.sh (.int x),.sh (.int (a:Int)),.sh (.lst vs)]=_;rw[o5 (ds:=[p.d,.lst vs]) (cons_of (by rw[o4 (x:=.lst (qs.map Pt.d)) (y:=.int (a:Int)) rfl rfl];exact w1) rfl)];exact v90 p (by omega) vs hl) (l70 g1)) rfl (by rw[List.length_map];exact ha),ic0]
 rfl
theorem Uk0(W NM:D)(c j x:Int)(l:List D)(a:Nat){vs:List D}(h:0<vs.length):∃i,i<vs.length/\CI (cs W NM c l j x a (.ow (.lst vs)))=some (.int ((i:Nat):Int)):=by
 have e0:0<=x/2400%(vs.length:Int):=L3 _ (by omega);have e1:x/2400%(vs.length:Int)<(vs.length:Int):=L4 _ (by omega);refine⟨(x/2400%(vs.length:Int)).toNat,by omega,?_⟩;unfold CI;rw[o4 (x:=.int (x/2400)) (y:=.int (vs.length:Int)) (by rw[o4 (x:=.int x) (y:=.int 2400) rfl rfl];exact fd _ _ (by decide) (by decide)) (t30 rfl),Gw.wg0 _ _ (by omega),Int.toNat_of_nonneg e0]
theorem Vu0{qs:List Pt}(hw:Wb qs){a:Nat}(ha:a<qs.length){p:Pt}(hp:qs.getD a (.row [])=p)(hne:0<p.vals.length)(W NM:D)(c j x:Int)(hx:0<=x/\x<2147483647) :
  ∃qs' s7,Wb qs'/\CW (cs W NM c (qs.map Pt.d) j x a (.ow (.lst p.vals)))=some (.nx (cs W NM c (qs'.map Pt.d) j x a s7)):=by
 have zs:(2000:Nat)<=sizeLine:=by decide
 obtain⟨w1,w2⟩:=y20 ha;rw[hp] at w1 w2;have hq:=hw.it _ w2;have hlk:=hw.lk _ w2;have h60:=hw.len;have t:CT (cs W NM c (qs.map Pt.d) j x a (.ow (.lst p.vals)))=some (decide (x/300%4=0)&&decide (qs.length<60)):=by
  refine o20 (Bw.zt0 ?_) (Bw.zt0 ?_)
  ·rw[o4 (x:=.int (x/300%4)) (y:=.int 0) (dm rfl 300 4 (by decide) (by decide)) rfl]
   exact l30 _ _
  ·rw[o4 (x:=.int ((qs.map Pt.d).length:Int)) (y:=.int 60) (t30 rfl) rfl]
   show some (D.bl (decide (((qs.map Pt.d).length:Int)<60)))=_;rw[List.length_map];congr 2;rw[decide_eq_decide];omega
 obtain⟨i,hi,ei⟩:=Uk0 W NM c j x (qs.map Pt.d) a hne;have gset:∀{v:D} {n:Nat},Vb v->Lk n v->(∀u∈p.vals,Lk n u)->(∀u∈p.vals.set i v,Vb u)/\∀u∈p.vals.set i v,Lk n u:=λhv hk hall =>
  ⟨λu hu=>(t4 hu).elim (hq.vals u) λe=>e▸hv,λu hu=>(t4 hu).elim (hall u) λe=>e▸hk⟩
 by_cases hc:x/300%4=0/\qs.length<60
 ·rw[decide_eq_true hc.1,decide_eq_true hc.2] at t
  obtain⟨np,hnp,hnk,enp⟩:∃np:Pt,Gq np/\(∀v∈np.vals,Lk (qs.length+1) v)/\CP (cs W NM c (qs.map Pt.d) j x a (.ow (.lst p.vals)))=some np.d:=by
   have e2:x/1200%2=0∨x/1200%2=1:=by omega
   have el:W7 (z9 (m7 (z9 (gc (.str "text")) (z9 (gc (.str "new")) v6))) (z9 (m7 (z9 (gc (.str "row")) (z9 (m7 (z9 (m7 (z9 (gc (.str "at")) (z9 (gv 6) v6))) (z9 (gc .non) v6))) v6))) v6)) (cs W NM c (qs.map Pt.d) j x a (.ow (.lst p.vals)))=some (.lst [(Pt.text "new").d,(Pt.row [lkd a,.non]).d]):=lk0 (cons_of (Z7 (cons_of rfl (cons_of rfl rfl)) (by show 2<=sizeLine;omega)) (cons_of (Z7 (cons_of rfl (cons_of (Z7 (cons_of (Z7 (cons_of rfl (cons_of rfl rfl)) (by show 2<=sizeLine;omega)) (cons_of rfl rfl)) (by show 2<=sizeLine;omega)) rfl)) (by show 2<=sizeLine;omega)) rfl)) (by show 2<=sizeLine;omega);have ec:∀b:Int,x/1200%2=b->CP (cs W NM c (qs.map Pt.d) j x a (.ow (.lst p.vals)))=ixD (.lst [(Pt.text "new").d,(Pt.row [lkd a,.non]).d]) (.int b):=λb hb=>by
    unfold CP;rw[o4 (x:=.lst [(Pt.text "new").d,(Pt.row [lkd a,.non]).d]) (y:=.int b) el (by rw[← hb];exact dm rfl 1200 2 (by decide) (by decide))]
   rcases e2 with q|q
   ·exact⟨.text "new",⟨by decide +kernel,λv hv=>(by cases hv),λs hs=>(by cases hs),C5 _⟩,λv hv=>(by cases hv),ec 0 q⟩
   ·refine⟨.row [lkd a,.non],⟨by show 2<=20;decide,λv hv=>?_,λs hs=>(by cases hs),by show 2<=12;decide⟩,λv hv=>?_,ec 1 q⟩
    ·rcases A9.mp hv with rfl|hv
     ·exact .lk a (by omega)
     ·rw[List.mem_singleton.mp hv];exact .non
    ·rcases A9.mp hv with rfl|hv
     ·exact Bw.m40 (by omega)
     ·rw[List.mem_singleton.mp hv];exact λj e=>nomatch e
  have hw1:=Xb0 hw hc.2 hnp hnk;have hl1:(qs++[np]).length=qs.length+1:=by simp
  obtain⟨s1,s2⟩:=gset (v:=lkd qs.length) (n:=(qs++[np]).length) (.lk _ (by omega)) (Bw.m40 (by omega)) λu hu=>jj0 (by omega) (hlk u hu)
  obtain⟨qs',hq',e'⟩:=ee0 hw1 (a:=a) (by omega) (p:=p) (by rw[← hp];simp[List.getD_eq_getElem?_getD,List.getElem?_append_left ha]) (vs:=p.vals.set i (lkd qs.length)) As0 s1 s2 W NM c j x;refine⟨qs',_,hq',v9 (δ':=cs W NM c ((qs++[np]).map Pt.d) j x a (.ow (.lst (p.vals.set i (lkd qs.length))))) ?_ (v9 e' rfl)⟩;rw[V0 t];obtain⟨i',hi',ei'⟩:∃i',i'=i/\CI (cs W NM c ((qs++[np]).map Pt.d) j x a (.ow (.lst p.vals)))=some (.int ((i':Nat):Int)):=⟨i,rfl,ei⟩;subst hi';refine v9 (δ':=cs W NM c ((qs++[np]).map Pt.d) j x a (.ow (.lst p.vals))) ?_ (v9 (pe0 (l:=p.vals) (v:=lkd qs.length) (k:=i') rfl ?_ ei' hi) rfl)
  ·rw[Gw.vu0 (l:=qs.map Pt.d) (d:=np.d) rfl enp (by rw[List.length_map];omega)]
   rw[List.map_append];rfl
  ·refine Z7 (cons_of rfl (cons_of (d:=.int (qs.length:Int)) ?_ rfl)) (by show 2<=sizeLine;omega)
   rw[o4 (x:=.int (((qs++[np]).map Pt.d).length:Int)) (y:=.int 1) (t30 rfl) rfl];show some (D.int ((((qs++[np]).map Pt.d).length:Int) - 1))=_;rw[List.length_map,hl1];congr 2;omega
 ·have t':CT (cs W NM c (qs.map Pt.d) j x a (.ow (.lst p.vals)))=some false:=by
   rw[t]
   by_cases h1:x/300%4=0
   ·have h2:¬qs.length<60:=λz=>hc ⟨h1,z⟩
    simp[h2]
   ·simp[h1]
  obtain⟨v,v1,v2,v3⟩:=te0 x 4 (qs.length:Int) (by
   have:x.natAbs<2 ^ 32:=by omega
   have h2:=Aq0 (n:=x.natAbs) (k:=32)
   by_cases h0:x.natAbs=0
   ·rw[h0];decide
   ·have:=(h2 h0).mpr this
    omega) (by decide) (by omega)
  rw[Int.toNat_natCast] at v3;obtain⟨s1,s2⟩:=gset v2 v3 hlk;obtain⟨qs',hq',e'⟩:=ee0 hw ha hp (vs:=p.vals.set i v) As0 s1 s2 W NM c j x;refine⟨qs',_,hq',v9 (δ':=cs W NM c (qs.map Pt.d) j x a (.ow (.lst (p.vals.set i v)))) ?_ (v9 e' rfl)⟩;rw[Z0 t'];refine v9 (pe0 (l:=p.vals) (v:=v) (k:=i) rfl ?_ ei hi) rfl;rw[o5 (ds:=[.int x,.int 4,.int (qs.length:Int)]) (cons_of rfl (cons_of rfl (cons_of (by rw[t30 (l:=qs.map Pt.d) rfl,List.length_map]) rfl)))];exact v1
theorem Ua0{qs:List Pt}(hw:Wb qs)(hp:Bw.Pool nm)(W:D)(c:Int)(j:Nat)(hj:j<=100)(s5 s6 s7:Sl) :
  ∃qs' s5' s6' s7',Wb qs'/\CB [.sh W,.sh (.int c),.sh (.lst (nm.map .str)),.ow (.lst (qs.map Pt.d)),.sh (.int (j:Int)),s5,s6,s7]=some (.nx [.sh W,.sh (.int c),.sh (.lst (nm.map .str)),.ow (.lst (qs'.map Pt.d)),.sh (.int (j:Int)),s5',s6',s7']):=by
 obtain⟨x,x0,x1,x2⟩:=U6 c (8+(j:Int)) (by omega) (by omega);have h60:=hw.len;have e0:0<=x%(qs.length:Int):=L3 _ (by omega);have e1:x%(qs.length:Int)<(qs.length:Int):=L4 _ (by omega);obtain⟨a,ea⟩:∃a:Nat,(a:Int)=x%(qs.length:Int):=⟨(x%(qs.length:Int)).toNat,by omega⟩;have ha:a<qs.length:=by omega
 obtain⟨w1,w2⟩:=y20 ha;obtain⟨p,hpe⟩:∃p,qs.getD a (.row [])=p:=⟨_,rfl⟩;have w1:ixD (.lst (qs.map Pt.d)) (.int (a:Int))=some (qs.getD a (.row [])).d:=w1;rw[hpe] at w1 w2;have hq:=hw.it _ w2;have hlk:=hw.lk _ w2;have hfew:p.few:=(Km.sy0 hq).1;obtain⟨qs',s7',hq',e'⟩:∃qs' s7',Wb qs'/\ifD (ob (o2 (o2 (o2 (gv 5) (gc (.int 60)) zh0) (gc (.int 5)) j5) (gc (.int 0)) ue0)) CA CE (cs W (.lst (nm.map .str)) c (qs.map Pt.d) (j:Int) x a (.ow (.lst p.vals)))=some (.nx (cs W (.lst (nm.map .str)) c (qs'.map Pt.d) (j:Int) x a s7')):=by
  have t:ob (o2 (o2 (o2 (gv 5) (gc (.int 60)) zh0) (gc (.int 5)) j5) (gc (.int 0)) ue0) (cs W (.lst (nm.map .str)) c (qs.map Pt.d) (j:Int) x a (.ow (.lst p.vals)))=some (decide (x/60%5=0)):=Bw.zt0 (by
   rw[o4 (x:=.int (x/60%5)) (y:=.int 0) (dm rfl 60 5 (by decide) (by decide)) rfl];exact l30 _ _)
  by_cases hc:x/60%5=0
  ·rw[decide_eq_true hc] at t
   obtain⟨p',h1,h2,h3⟩:=ep0 hq hlk hp x;refine⟨qs.set a p',.ow (.lst p.vals),eo0 hw h2 h3,?_⟩;rw[V0 t];refine v9 (pe0 (l:=qs.map Pt.d) (v:=p'.d) (k:=a) rfl ?_ rfl (by rw[List.length_map];exact ha)) ?_
   ·rw[o5 (ds:=[p.d,.int x,.lst (nm.map .str)]) (cons_of (va0 (by
     show o2 (gv 3) (gv 6) ixD [.sh W,.sh (.int c),.sh (.lst (nm.map .str)),.sh (.lst (qs.map Pt.d)),.sh (.int (j:Int)),.sh (.int x),.sh (.int (a:Int)),.sh (.lst p.vals)]=_;rw[o4 (x:=.lst (qs.map Pt.d)) (y:=.int (a:Int)) rfl rfl];exact w1) (l70 hq)) rfl)]
    exact h1
   ·rw[ic0];rfl
  ·rw[decide_eq_false hc] at t
   rw[Z0 t];have tn:z50 (ob (o2 (gv 7) (W7 v6) M7)) (cs W (.lst (nm.map .str)) c (qs.map Pt.d) (j:Int) x a (.ow (.lst p.vals)))=some (decide (0<p.vals.length)):=by
    show ob (o2 (gv 7) (W7 v6) M7) [.sh W,.sh (.int c),.sh (.lst (nm.map .str)),.sh (.lst (qs.map Pt.d)),.sh (.int (j:Int)),.sh (.int x),.sh (.int (a:Int)),.sh (.lst p.vals)]=_;refine Bw.zt0 ?_;rw[o4 (x:=.lst p.vals) (y:=.lst []) rfl rfl];show (if lean (.lst p.vals) 50=true/\lean (.lst []) 50=true then some (D.bl (!deq (.lst p.vals) (.lst []))) else none)=_;rw[if_pos ⟨by unfold lean;exact ox0 λv hv=>e80 (Km.m50 (hq.vals v hv) (hlk v hv)) 48,by simp[lean,leans]⟩];cases p.vals with
    | nil=>simp[deq,G4]
    | cons v vs=>simp[deq,G4]
   by_cases hne:0<p.vals.length
   ·rw[decide_eq_true hne] at tn
    obtain⟨qs',s7',hq',e'⟩:=Vu0 hw ha hpe hne W (.lst (nm.map .str)) c (j:Int) x ⟨x0,x1⟩;refine⟨qs',s7',hq',v9 (δ':=cs W (.lst (nm.map .str)) c (qs'.map Pt.d) (j:Int) x a s7') ?_ rfl⟩;rw[V0 tn];exact e'
   ·rw[decide_eq_false hne] at tn
    refine⟨qs,.ow (.lst p.vals),hw,v9 (δ':=cs W (.lst (nm.map .str)) c (qs.map Pt.d) (j:Int) x a (.ow (.lst p.vals))) ?_ rfl⟩;rw[Z0 tn];rfl
 refine⟨qs',.sh (.int x),.sh (.int (a:Int)),s7',hq',v9 (j7 (d:=.int x) ?_) (v9 (j7 (d:=.int (a:Int)) ?_) (v9 (δ':=cs W (.lst (nm.map .str)) c (qs.map Pt.d) (j:Int) x a (.ow (.lst p.vals))) ?_ (v9 e' rfl)))⟩
 ·rw[o5 (ds:=[.int c,.int (8+(j:Int))]) rfl]
  exact x2
 ·rw[o4 (x:=.int x) (y:=.int (qs.length:Int)) rfl (by
   rw[t30 (l:=qs.map Pt.d) rfl,List.length_map]),Gw.wg0 _ _ (by omega),ea]
 ·show R5 7 (oA (z9 (ye0 (o2 (gv 3) (gv 6) ixD)) v6) j9) [.sh W,.sh (.int c),.sh (.lst (nm.map .str)),.ow (.lst (qs.map Pt.d)),.sh (.int (j:Int)),.sh (.int x),.sh (.int (a:Int)),Q9 s7]=_
  unfold R5;rw[o5 (ds:=[p.d]) (cons_of (va0 (by
   show o2 (gv 3) (gv 6) ixD [.sh W,.sh (.int c),.sh (.lst (nm.map .str)),.sh (.lst (qs.map Pt.d)),.sh (.int (j:Int)),.sh (.int x),.sh (.int (a:Int)),Q9 (Q9 s7)]=_;rw[o4 (x:=.lst (qs.map Pt.d)) (y:=.int (a:Int)) rfl rfl];exact w1) (l70 hq)) rfl),w00 p hfew]
  rfl
theorem gi0{ps:List Pt}(hw:Wb ps)(hp:Bw.Pool nm)(c:Int):∃qs,yp0 [wd ps,.int c,.lst (nm.map .str)]=some (wd qs)/\Wb qs:=by
 obtain⟨x,x0,x1,x2⟩:=U6 c 7 (by decide) (by decide);obtain⟨δ',l1,qs,s4,s5,s6,s7,hq,rfl⟩:=ya0 (f:=gN 4) (G:=CB) (λi δ=>∃(qs:List Pt) (s4 s5 s6 s7:Sl),Wb qs/\δ=[.sh (wd ps),.sh (.int c),.sh (.lst (nm.map .str)),.ow (.lst (qs.map Pt.d)),s4,s5,s6,s7]) (R7 0 (x%4)) 0 [.sh (wd ps),.sh (.int c),.sh (.lst (nm.map .str)),.ow (.lst (ps.map Pt.d)),.un,.un,.un,.un] (by
  rintro j d δ hj ⟨qs,s4,s5,s6,s7,hq,rfl⟩;obtain⟨hj',rfl⟩:=Zg0 hj;obtain⟨qs',s5',s6',s7',hq',e⟩:=Ua0 hq hp (wd ps) c j (by omega) s5 s6 s7;exact⟨_,_,rfl,e,qs',.sh (.int (j:Int)),s5',s6',s7',hq',rfl⟩) ⟨ps,.un,.un,.un,.un,hw,rfl⟩
 refine⟨qs,Z1 rfl (v9 (δ':=[.sh (wd ps),.sh (.int c),.sh (.lst (nm.map .str)),.ow (.lst (ps.map Pt.d)),.un,.un,.un,.un]) rfl (v9 (zg0 (items:=R7 0 (x%4)) (xi0 (cons_of ?_ rfl) (by omega) (by omega)) l1) (n6 (Y4 ?_)))),hq⟩
 ·rw[o4 (x:=.int x) (y:=.int 4) (by rw[o5 (ds:=[.int c,.int 7]) rfl];exact x2) rfl]
  rfl
 ·show oA (z9 (gv 3) v6) Z8 [.sh (wd ps),.sh (.int c),.sh (.lst (nm.map .str)),.sh (.lst (qs.map Pt.d)),Q9 s4,Q9 s5,Q9 s6,Q9 s7]=_
  rw[o5 (ds:=[.lst (qs.map Pt.d)]) rfl];rfl
theorem mj0{ps:List Pt}(hw:Wb ps)(c:Int):∃qs,R6 [wd ps,.int c]=some (wd qs)/\Wb qs:=by
 obtain⟨L,h1,h2,h3,h4,h5⟩:=Km.mj0 hw c;exact⟨Km.laid ps L,h5,Km.Y70 hw (by rw[h1];exact hw.len) h2 h3⟩
theorem X80(ns:List Int)(hb:∀z∈ns,z.natAbs.log2<=1048576):∃ps qs,v60 [.lst (ns.map .int)]=some (.tup [wd ps,wd qs])/\Wb ps/\Wb qs:=by
 have zs:(2000:Nat)<=sizeLine:=by decide
 obtain⟨c0,e0,_⟩:=wl0 ns hb 0 (by decide) (by decide);obtain⟨c2,e2,_⟩:=wl0 ns hb 2 (by decide) (by decide);obtain⟨c,e4,_⟩:=wl0 ns hb 40 (by decide) (by decide);obtain⟨most,hm,hme⟩:∃most:Int,(0<most/\most<=60)/\∀δ:Ds,o2 (W7 (z9 (gc (.int 16)) (z9 (gc (.int 60)) v6))) (oA (z9 (o2 (o2 (oA (z9 (gv 0) (z9 (gc (.int 0)) v6)) d9) (gc (.int 8)) j5) (gc (.int 5)) eqD) v6) intOfD) ixD (.sh (.lst (ns.map .int))::δ)=some (.int most):=by
  have t:∀δ:Ds,oA (z9 (o2 (o2 (oA (z9 (gv 0) (z9 (gc (.int 0)) v6)) d9) (gc (.int 8)) j5) (gc (.int 5)) eqD) v6) intOfD (.sh (.lst (ns.map .int))::δ)=some (.int (if decide (c0%8=5) then 1 else 0)):=fun δ=>by
   rw[o5 (ds:=[.bl (decide (c0%8=5))]) (cons_of (by
    rw[o4 (x:=.int (c0%8)) (y:=.int 5) (by
     rw[o4 (x:=.int c0) (y:=.int 8) (by rw[o5 (ds:=[.lst (ns.map .int),.int 0]) rfl];exact e0) rfl];rfl) rfl]
    rfl) rfl)]
   rfl
  have el:∀δ:Ds,W7 (z9 (gc (.int 16)) (z9 (gc (.int 60)) v6)) δ=some (.lst [.int 16,.int 60]):=fun δ=>lk0 rfl (by show 2<=sizeLine;omega)
  by_cases h:c0%8=5
  ·refine⟨60,by decide,fun δ=>?_⟩
   rw[o4 (x:=.lst [.int 16,.int 60]) (y:=.int 1) (el _) (by rw[t,decide_eq_true h];rfl)];rfl
  ·refine⟨16,by decide,fun δ=>?_⟩
   rw[o4 (x:=.lst [.int 16,.int 60]) (y:=.int 0) (el _) (by rw[t,decide_eq_false h];rfl)];rfl
 obtain⟨ps,hps,wps⟩:=xy0 ns hb 1 (by decide) most hm;obtain⟨nm,hn,hp⟩:=rl0 c2;obtain⟨q0,hq0,wq0⟩:=gi0 wps hp c;obtain⟨x1,_,_,hx1⟩:=U6 c 1 (by decide) (by decide);obtain⟨x2,_,_,hx2⟩:=U6 c 2 (by decide) (by decide);obtain⟨b0,hb0,wb0⟩:=xy0 ns hb 20 (by decide) 12 (by decide);have i1:∃q1,Wb q1/\ifD (ob (o2 (o2 (oA (z9 (gv 3) (z9 (gc (.int 1)) v6)) t7) (gc (.int 8)) j5) (gc (.int 3)) eqD)) (v7 (m5 (gN 4) (oA (z9 (gv 0) (z9 (gc (.int 20)) (z9 (gc (.int 12)) v6))) T3)) u5) u5 [.sh (.lst (ns.map .int)),.sh (wd ps),.sh (.lst (nm.map .str)),.sh (.int c),.sh (wd q0)]=some (.nx [.sh (.lst (ns.map .int)),.sh (wd ps),.sh (.lst (nm.map .str)),.sh (.int c),.sh (wd q1)]):=by
  have t:ob (o2 (o2 (oA (z9 (gv 3) (z9 (gc (.int 1)) v6)) t7) (gc (.int 8)) j5) (gc (.int 3)) eqD) [.sh (.lst (ns.map .int)),.sh (wd ps),.sh (.lst (nm.map .str)),.sh (.int c),.sh (wd q0)]=some (decide (x1%8=3)):=Bw.zt0 (by
   rw[o4 (x:=.int (x1%8)) (y:=.int 3) (by
    rw[o4 (x:=.int x1) (y:=.int 8) (by rw[o5 (ds:=[.int c,.int 1]) rfl];exact hx1) rfl];rfl) rfl]
   rfl)
  by_cases h:x1%8=3
  ·refine⟨b0,wb0,?_⟩
   rw[V0 (by rw[t,decide_eq_true h])];exact v9 (j7 (d:=wd b0) (by rw[o5 (ds:=[.lst (ns.map .int),.int 20,.int 12]) rfl];exact hb0)) rfl
  ·refine⟨q0,wq0,?_⟩
   rw[Z0 (by rw[t,decide_eq_false h])];rfl
 obtain⟨q1,wq1,i1⟩:=i1;obtain⟨r0,hr0,wr0⟩:=mj0 wq1 c;have i2:∃q2,Wb q2/\ifD (ob (o2 (o2 (oA (z9 (gv 3) (z9 (gc (.int 2)) v6)) t7) (gc (.int 2)) j5) (gc (.int 1)) eqD)) (v7 (m5 (gN 4) (oA (z9 (gv 4) (z9 (gv 3) v6)) R6)) u5) u5 [.sh (.lst (ns.map .int)),.sh (wd ps),.sh (.lst (nm.map .str)),.sh (.int c),.sh (wd q1)]=some (.nx [.sh (.lst (ns.map .int)),.sh (wd ps),.sh (.lst (nm.map .str)),.sh (.int c),.sh (wd q2)]):=by
  have t:ob (o2 (o2 (oA (z9 (gv 3) (z9 (gc (.int 2)) v6)) t7) (gc (.int 2)) j5) (gc (.int 1)) eqD) [.sh (.lst (ns.map .int)),.sh (wd ps),.sh (.lst (nm.map .str)),.sh (.int c),.sh (wd q1)]=some (decide (x2%2=1)):=Bw.zt0 (by
   rw[o4 (x:=.int (x2%2)) (y:=.int 1) (by
    rw[o4 (x:=.int x2) (y:=.int 2) (by rw[o5 (ds:=[.int c,.int 2]) rfl];exact hx2) rfl];rfl) rfl]
   rfl)
  by_cases h:x2%2=1
  ·refine⟨r0,wr0,?_⟩
   rw[V0 (by rw[t,decide_eq_true h])];exact v9 (j7 (d:=wd r0) (by rw[o5 (ds:=[wd q1,.int c]) rfl];exact hr0)) rfl
  ·refine⟨q1,wq1,?_⟩
   rw[Z0 (by rw[t,decide_eq_false h])];rfl
 obtain⟨q2,wq2,i2⟩:=i2;refine⟨ps,q2,Z1 rfl (v9 (j7 (d:=wd ps) ?_) (v9 (j7 (d:=.lst (nm.map .str)) ?_) (v9 (j7 (d:=.int c) ?_) (v9 (j7 (d:=wd q0) ?_) (v9 i1 (v9 i2 (n6 (Y4 (Z7 (cons_of rfl (cons_of rfl rfl)) (by show 2<=sizeLine;omega)))))))))),wps,wq2⟩
 ·change oA _ _ (.sh (.lst (ns.map .int))::[.un,.un,.un,.un])=_
  rw[o5 (ds:=[.lst (ns.map .int),.int 1,.int most]) (cons_of rfl (cons_of rfl (cons_of (hme _) rfl)))];exact hps
 ·rw[o5 (ds:=[.int c2,.int 12]) (cons_of (by rw[o5 (ds:=[.lst (ns.map .int),.int 2]) rfl];exact e2) rfl)]
  exact hn
 ·rw[o5 (ds:=[.lst (ns.map .int),.int 40]) rfl]
  exact e4
 ·rw[o5 (ds:=[wd ps,.int c,.lst (nm.map .str)]) rfl]
  exact hq0
theorem cw0(ns:List Int)(hl:ns.length<=63)(hb:∀z∈ns,z.natAbs.log2<=1048576):re0 [.lst (ns.map .int)]=some (.bl true):=by
 have zs:(2000:Nat)<=sizeLine:=by decide
 obtain⟨ps,qs,h2,wp,wq⟩:=X80 ns hb;have Wp:=p90 wp;have Wq:=p90 wq;obtain⟨r,mp⟩:=km0 Wp;obtain⟨s,mq⟩:=km0 Wq;have dp:=(yw0 Wp mp).1;have dq:=(yw0 Wq mq).1;have hst:=io0 Wp Wq mp mq;have hss:=io0 Wp Wp mp mp;have hls:=b70 dp dq;have hdp:=na0 wp mp;have hdq:=na0 wq mq;have hle:(SL (stays (dr ps r) (dr qs s))).length<=60:=by
  have:=(qa0 dp dq).len;have:=dp.len.2;rw[(rs0 _).length_eq];omega
 rw[g00 dp (Yh0 Wp mp)] at hss;have hd60:=dp.len.2;generalize SL (stays (dr ps r) (dr qs s))=L at hst hls hle;have hal:=bs0 L (by omega);have hal2:=bs0 (dg (List.range (dr ps r).length)) (by unfold dg;rw[List.length_map,List.length_range];omega);have hrng:o9 1 [] (O2 (z9 (oA (z9 (gv 5) v6) Y8) v6)) (gN 0) noT (m7 (z9 (gv 0) (z9 (gv 0) v6))) [.sh (.lst (ns.map .int)),.sh (wd ps),.sh (wd qs),.sh (.lst (L.map pN)),.ow (.lst (L.map pN++[pN (0,0)])),.sh (wd (dr ps r))]=some (.lst ((dg (List.range (dr ps r).length)).map pN)):=by
  refine Z5 (items:=R7 0 ((dr ps r).length:Int)) (xi0 (cons_of (Ta.dl0 _ _ rfl) rfl) (by omega) (by omega)) (by rw[ym0];omega) ?_;have q:=yd0 (gt:=noT) (ge:=m7 (z9 (gv 0) (z9 (gv 0) v6))) (δ:=[.un]) (n:=((dr ps r).length:Int)) (λk=>pN (k,k)) (λk hk=>⟨[.sh (.int (k:Int))],rfl,rfl,Z7 (cons_of rfl (cons_of rfl rfl)) (by show 2<=sizeLine;omega)⟩);rw[Int.toNat_natCast] at q;refine q.trans ?_;unfold dg;rw[List.map_map];rfl
 refine Z1 rfl (v9 (δ':=[.sh (.lst (ns.map .int)),.sh (wd ps),.sh (wd qs),.un,.un,.un]) ?_ (v9 (j7 (d:=.lst (L.map pN)) ?_) (v9 (δ':=[.sh (.lst (ns.map .int)),.sh (wd ps),.sh (wd qs),.sh (.lst (L.map pN)),.ow (.lst (L.map pN)),.un]) ?_ (v9 (δ':=[.sh (.lst (ns.map .int)),.sh (wd ps),.sh (wd qs),.sh (.lst (L.map pN)),.ow (.lst (L.map pN)),.un]) ?_ (v9 (Gw.vu0 (l:=L.map pN) (d:=pN (0,0)) rfl (Z7 (cons_of rfl (cons_of rfl rfl)) (by show 2<=sizeLine;omega)) (by rw[List.length_map];omega)) (v9 (δ':=[.sh (.lst (ns.map .int)),.sh (wd ps),.sh (wd qs),.sh (.lst (L.map pN)),.ow (.lst (L.map pN++[pN (0,0)])),.un]) ?_ (v9 (δ':=[.sh (.lst (ns.map .int)),.sh (wd ps),.sh (wd qs),.sh (.lst (L.map pN)),.ow (.lst (L.map pN++[pN (0,0)])),.sh (wd (dr ps r))]) (j7 (d:=wd (dr ps r)) ?_) (n6 (Y4 ?_)))))))))
 ·unfold W8 Y9
  rw[o5 (ds:=[.lst (ns.map .int)]) rfl,h2];rfl
 ·rw[o5 (ds:=[wd (dr ps r),wd (dr qs s)]) (cons_of (by rw[o5 (ds:=[wd ps,.int 0]) rfl];exact hdp) (cons_of (by rw[o5 (ds:=[wd qs,.int 0]) rfl];exact hdq) rfl))]
  exact hls
 ·unfold R5
  rw[o5 (ds:=[wd ps,wd qs]) rfl,hst];rfl
 ·rw[Z0 (by
   unfold v30;rw[Bw.zt0 (b:=true) (va0 (by
    show oA (z9 (gv 4) (z9 (gv 3) v6)) T7 [.sh (.lst (ns.map .int)),.sh (wd ps),.sh (wd qs),.sh (.lst (L.map pN)),.sh (.lst (L.map pN)),.un]=_;rw[o5 (ds:=[.lst (L.map pN),.lst (L.map pN)]) rfl];exact hal) rfl)]
   rfl)]
  rfl
 ·show ifD _ _ _ [.sh (.lst (ns.map .int)),.sh (wd ps),.sh (wd qs),.sh (.lst (L.map pN)),.ow (.lst (L.map pN++[pN (0,0)])),.un]=_
  rw[Z0 (by
   unfold v30;rw[Bw.zt0 (b:=true) (by
    rw[o5 (ds:=[.lst (L.map pN),.lst (L.map pN)]) (cons_of (by rw[o5 (ds:=[wd ps,wd qs]) rfl];exact hst) rfl)];exact hal)]
   rfl)]
  rfl
 ·rw[o5 (ds:=[wd ps,.int 0]) rfl]
  exact hdp
 ·rw[o5 (ds:=[.lst ((dg (List.range (dr ps r).length)).map pN),.lst ((dg (List.range (dr ps r).length)).map pN)]) (cons_of (by rw[o5 (ds:=[wd ps,wd ps]) rfl];exact hss) (cons_of hrng rfl))]
  exact hal2
end Va
namespace Va
open DL W K22
theorem wu0(q:Nat):∀ds l l',j8 (q+1) (ds++[.lst l])=some l'->(ds++[D.lst l]).length=3/\∀p,(false=true/\K9 (j8 q) (z30 zj0 ds p l)=some (.rf (lent p l')))∨(false=false/\∃δ',K9 (j8 q) (z30 zj0 ds p l)=some (.nx δ')/\δ'[ds.length]?=some (.ow (lent p l'))):=Km.wu0 q
theorem xw0(ds:List D):j8 0 ds=none:=Km.xw0 ds
end Va
namespace Va
open L2 DL W
def top(i:Nat):Stmt:=PySem.Challenge.pw_graphpack_k44_what_stays.main.body.getD i (.Pass ⟨0,0,0,0⟩)
theorem b_all:bootBuiltins "all"=some (.builtin "all"):=by decide +kernel
theorem b_bool:bootBuiltins "bool"=some (.type "bool"):=by decide +kernel
theorem b_dict:bootBuiltins "dict"=some (.type "dict"):=by decide +kernel
theorem b_int:bootBuiltins "int"=some (.type "int"):=by decide +kernel
theorem b_list:bootBuiltins "list"=some (.type "list"):=by decide +kernel
theorem b_sorted:bootBuiltins "sorted"=some (.builtin "sorted"):=by decide +kernel
theorem b_str:bootBuiltins "str"=some (.type "str"):=by decide +kernel
theorem b_tuple:bootBuiltins "tuple"=some (.type "tuple"):=by decide +kernel
theorem b_zip:bootBuiltins "zip"=some (.type "zip"):=by decide +kernel
structure Txt(mg:Str->Option Value):Prop where
 b_all:mg "all"=none
 b_bool:mg "bool"=none
 b_dict:mg "dict"=none
 b_enumerate:mg "enumerate"=none
 b_int:mg "int"=none
 b_isinstance:mg "isinstance"=none
 b_len:mg "len"=none
 b_list:mg "list"=none
 b_range:mg "range"=none
 b_reversed:mg "reversed"=none
 b_sorted:mg "sorted"=none
 b_str:mg "str"=none
 b_tuple:mg "tuple"=none
 b_zip:mg "zip"=none
section
variable{P:Program}{w:World}
theorem m20:FnScope ["part"] ["part"] (t6 (top 1)):=⟨rfl,rfl,rfl,by decide +kernel,rfl,by decide +kernel,by decide +kernel⟩
theorem nu0{fd:FuncData}(F:Fun K "pair_names" "pair_names" (top 1) fa fd)(T:Txt mg)  : FnOk P w K mg base CX0 1 fa fd ["part"] (spN K Y5) :=
 okN (k:=0) (G:=Q8) F m20 (λcdv A outer s H E hr=>(v5 (d7 (PWD.pt (ez0 (j4 V7 X7 (p6 (v4 0) u6) d8) (ia0 (j4 V7 X7 (p6 (v4 0) u6) d8))))
   (v5 (R8 (zd0 v8))
   u9)
   u9)
   (v5 (R8 (xb0 (sc:=t6 (top 1)) (N:=["part"]) (N':=["pair"]) (n:=1) (caps:=[]) ⟨rfl,by decide +kernel,by decide +kernel,by decide +kernel,by decide +kernel,rfl,by decide +kernel⟩ (by decide) (xd0 (p6 (v4 0) (y90 u6))) (λcl s H ex=>p7 0 (by decide +kernel:(["pair"]:List Str).Nodup)) (λcl s H ex=>V5) (λcl s H ex=>(p6 (v4 0) u6))))
   u9))) (λds d h=>y00 h)
theorem Zj0:FnScope ["part"] ["part"] (t6 (top 2)):=⟨rfl,rfl,rfl,by decide +kernel,rfl,by decide +kernel,by decide +kernel⟩
theorem Zf0{fd:FuncData}(F:Fun K "head" "head" (top 2) fa fd)(T:Txt mg)(C_pair_names:FnN P w K mg base "pair_names" 1 ["part"] Y5):FnOk P w K mg base CX0 2 fa fd ["part"] (spD K z60) :=
 okD (k:=1) (G:=un0) F Zj0 (λcdv A outer s H E hr=>(v5 (d7 (j4 V7 X7 (p6 (v4 0) u6) d8)
   (v5 (m8 (Z3 (w6 d8 (w6 (p6 (v4 0) u6) v8))))
   u9)
   u9)
   (v5 (d7 (j4 V7 X7 (p6 (v4 0) u6) d8)
   (v5 (m8 (Z3 (w6 d8 (w6 (Q5 T.b_len (w6 (p6 (v4 0) u6) v8)) v8))))
   u9)
   u9)
   (v5 (d7 (j4 V7 X7 (p6 (v4 0) u6) d8)
   (v5 (m8 (Z3 (w6 d8 (w6 (U4 Y7 z40 T.b_tuple b_tuple (w6 (U7 C_pair_names hr (by decide) (w6 (v4 0) v8)) v8)) v8))))
   u9)
   u9)
   (v5 (m8 (Z3 (w6 d8 (w6 (p6 (v4 0) u6) (w6 (U4 Y7 z40 T.b_tuple b_tuple (w6 (U7 C_pair_names hr (by decide) (w6 (v4 0) v8)) v8)) v8)))))
   u9))))) (λds d h=>T6 h)
theorem d10:FnScope ["part"] ["part"] (t6 (top 3)):=⟨rfl,rfl,rfl,by decide +kernel,rfl,by decide +kernel,by decide +kernel⟩
theorem eb0{fd:FuncData}(F:Fun K "values" "values" (top 3) fa fd)(T:Txt mg)  : FnOk P w K mg base CX0 1 fa fd ["part"] (spN K m_values) :=
 okN (k:=0) (G:=zk0) F d10 (λcdv A outer s H E hr=>(v5 (d7 (j4 V7 X7 (p6 (v4 0) u6) d8)
   (v5 (R8 (zd0 v8))
   u9)
   u9)
   (v5 (d7 (j4 V7 X7 (p6 (v4 0) u6) d8)
   (v5 (R8 (q60 T.b_list b_list (p6 (v4 0) u6)))
   u9)
   u9)
   (v5 (R8 (xb0 (sc:=t6 (top 3)) (N:=["part"]) (N':=["pair"]) (n:=1) (caps:=[]) ⟨rfl,by decide +kernel,by decide +kernel,by decide +kernel,by decide +kernel,rfl,by decide +kernel⟩ (by decide) (xd0 (p6 (v4 0) (y90 u6))) (λcl s H ex=>p7 0 (by decide +kernel:(["pair"]:List Str).Nodup)) (λcl s H ex=>V5) (λcl s H ex=>(p6 (v4 0) u6))))
   u9)))) (λds d h=>y00 h)
theorem t10:FnScope ["part", "some", "pairs"] ["part", "some"] (t6 (top 4)):=⟨rfl,rfl,rfl,by decide +kernel,rfl,by decide +kernel,by decide +kernel⟩
theorem ps0{fd:FuncData}(F:Fun K "with_values" "with_values" (top 4) fa fd)(T:Txt mg)(C_pair_names:FnN P w K mg base "pair_names" 1 ["part"] Y5):FnOk P w K mg base CX0 2 fa fd ["part", "some"] (spD K V9) :=
 okD (k:=1) (G:=M5) F t10 (λcdv A outer s H E hr=>(v5 (d7 (j4 V7 X7 (p6 (v4 0) u6) d8)
   (v5 (m8 (v4 0))
   u9)
   u9)
   (v5 (d7 (j4 V7 X7 (p6 (v4 0) u6) d8)
   (v5 (m8 (Z3 (w6 d8 (w6 (U4 Y7 z40 T.b_tuple b_tuple (w6 (v4 1) v8)) v8))))
   u9)
   u9)
   (v5 (b7 (e50 oj0 dj0 T.b_tuple T.b_zip b_tuple b_zip (w6 (U7 C_pair_names hr (by decide) (w6 (v4 0) v8)) (w6 (v4 1) v8))) (p7 2 t10.nd))
   (v5 (d7 (j4 V7 X7 (p6 (v4 0) u6) d8)
   (v5 (m8 (Z3 (w6 d8 (w6 (v4 2) v8))))
   u9)
   u9)
   (v5 (m8 (Z3 (w6 d8 (w6 (p6 (v4 0) u6) (w6 (v4 2) v8)))))
   u9)))))) (λds d h=>T6 h)
theorem cg0:FnScope ["part"] ["part"] (t6 (top 5)):=⟨rfl,rfl,rfl,by decide +kernel,rfl,by decide +kernel,by decide +kernel⟩
theorem cq0{fd:FuncData}(F:Fun K "links" "links" (top 5) fa fd)(T:Txt mg)(C_values:FnN P w K mg base "values" 1 ["part"] m_values):FnOk P w K mg base CX0 2 fa fd ["part"] (spN K zc0) :=
 okN (k:=1) (G:=vb0) F cg0 (λcdv A outer s H E hr=>(v5 (R8 (xb0 (sc:=t6 (top 5)) (N:=["part"]) (N':=["value"]) (n:=1) (caps:=[]) ⟨rfl,by decide +kernel,by decide +kernel,by decide +kernel,by decide +kernel,rfl,by decide +kernel⟩ (by decide) (U9 (U7 C_values hr (by decide) (w6 (v4 0) v8))) (λcl s H ex=>p7 0 (by decide +kernel:(["value"]:List Str).Nodup)) (λcl s H ex=>(ur0 (M3 (O4 M6 b_tuple T.b_isinstance T.b_tuple (v4 0))))) (λcl s H ex=>(p6 (v4 0) u6))))
   u9)) (λds d h=>y00 h)
theorem X60:FnScope ["web", "k"] ["web", "k"] (t6 (top 6)):=⟨rfl,rfl,rfl,by decide +kernel,rfl,by decide +kernel,by decide +kernel⟩
theorem fp0{fd:FuncData}(F:FunV K "met" "met" (top 6) fa fd dV)(T:Txt mg)(C_met_but:FnN P w K mg base "met_but" 3 ["web", "k", "left"] ze0):FnOk P w K mg base CX0 4 fa fd ["web", "k"] (spN K v20) :=
 T10 (k:=3) (G:=mb0) F X60 (λcdv A outer s H E hr=>(v5 (R8 (sr0 C_met_but hr (by decide) (w6 (v4 0) (w6 (v4 1) (w6 c50 v8)))))
   u9)) (λds d h=>y00 h)
theorem xj0:FnScope ["web", "k", "left", "order", "seen", "waiting", "part"] ["web", "k", "left"] (t6 (top 7)):=⟨rfl,rfl,rfl,by decide +kernel,rfl,by decide +kernel,by decide +kernel⟩
theorem gh0{fd:FuncData}(F:Fun K "met_but" "met_but" (top 7) fa fd)(T:Txt mg)(C_links:FnN P w K mg base "links" 2 ["part"] zc0):FnOk P w K mg base CX0 3 fa fd ["web", "k", "left"] (spN K ze0) :=
 okN (k:=2) (G:=xg0) F xj0 (λcdv A outer s H E hr=>(v5 (P0 3 (zd0 v8) xj0.nd)
   (v5 (P0 4 (g70 T.b_dict b_dict (v4 2)) xj0.nd)
   (v5 (P0 5 (zd0 (w6 (v4 1) v8)) xj0.nd)
   (v5 (wo0 100000 C8 (j4 Vq0 Xi0 (y30 (Q5 T.b_len (w6 (v4 5) v8))) u6)
   (v5 (K4 (X10 5) (lz0 (p7 6 xj0.nd)))
   (v5 (d7 (w60 (vq0 (yh0 hr) (v4 6) (v4 4)))
   (v5 (K4 (zb0 z90) (vg0 4 (yh0 hr) (v4 6)))
   (v5 (z00 (vs0 3 (v4 6)))
   (v5 (z00 (Yp0 5 (PDF.pd (dp0 T.b_list T.b_reversed (U7 C_links hr (by decide) (w6 (p6 (v4 0) (v4 6)) v8))))))
   u9)))
   u9)
   u9)))
   (v5 (ku0 3)
   u9)))))) (λds d h=>y00 h)
theorem q30:FnScope ["part", "numbers", "some"] ["part", "numbers"] (t6 (top 8)):=⟨rfl,rfl,rfl,by decide +kernel,rfl,by decide +kernel,by decide +kernel⟩
theorem j90{fd:FuncData}(F:Fun K "relinked" "relinked" (top 8) fa fd)(T:Txt mg)(C_values:FnN P w K mg base "values" 1 ["part"] m_values)(C_with_values:FnD P w K mg base "with_values" 2 ["part", "some"] V9):FnOk P w K mg base CX0 3 fa fd ["part", "numbers"] (spD K G7) :=
 okD (k:=2) (G:=yi0) F q30 (λcdv A outer s H E hr=>(v5 (u00 2 q30.nd (sc:=t6 (top 8)) (N:=["part", "numbers", "some"]) (N':=["value", "numbers"]) (n:=1) (caps:=[1]) ⟨rfl,by decide +kernel,by decide +kernel,by decide +kernel,by decide +kernel,rfl,by decide +kernel⟩ (by decide) (U9 (U7 C_values hr (by decide) (w6 (v4 0) v8))) (λcl s H ex=>p7 0 (by decide +kernel:(["value", "numbers"]:List Str).Nodup)) (λcl s H ex=>V5) (λcl s H ex=>(Ug0 (M3 (O4 M6 b_tuple T.b_isinstance T.b_tuple (v4 0))) (Z3 (w6 d8 (w6 (jz0 (yh0 hr) (v4 1) (p6 (v4 0) u6)) v8))) (v4 0))))
   (v5 (m8 (c7 C_with_values hr (by decide) (w6 (v4 0) (w6 (v4 2) v8))))
   u9))) (λds d h=>T6 h)
theorem tm0:FnScope ["web", "k", "order", "numbers", "number", "part"] ["web", "k"] (t6 (top 9)):=⟨rfl,rfl,rfl,by decide +kernel,rfl,by decide +kernel,by decide +kernel⟩
theorem l80{fd:FuncData}(F:FunV K "drawn" "drawn" (top 9) fa fd dV)(T:Txt mg)(C_met:FnN P w K mg base "met" 4 ["web", "k"] v20)(C_relinked:FnD P w K mg base "relinked" 3 ["part", "numbers"] G7):FnOk P w K mg base CX0 5 fa fd ["web", "k"] (spD K yf0) :=
 Tn0 (k:=4) (G:=rq0) F tm0 (λcdv A outer s H E hr=>(v5 (b7 (dq0 (sr0 C_met hr (by decide) (w6 (v4 0) (w6 (v4 1) v8)))).pd (p7 2 tm0.nd))
   (v5 (P0 3 sg0 tm0.nd)
   (v5 (za0 C8 rfl (cp0 T.b_enumerate (w6 (v4 2) v8)) (xa0 4 5 tm0.nd (by decide))
   (v5 (K4 (zb0 (v4 4)) (vg0 3 (yh0 hr) (v4 5)))
   u9))
   (v5 (tc0 (U4 Y7 z40 T.b_tuple b_tuple (w6 (N8 (sc:=t6 (top 9)) (N:=["web", "k", "order", "numbers", "number", "part"]) (N':=["part", "web", "numbers"]) (n:=1) (caps:=[0,3]) ⟨rfl,by decide +kernel,by decide +kernel,by decide +kernel,by decide +kernel,rfl,by decide +kernel⟩ (by decide) (U9 (v4 2)) (λcl s H ex=>p7 0 (by decide +kernel:(["part", "web", "numbers"]:List Str).Nodup)) (λcl s H ex=>V5) (λcl s H ex=>(c7 C_relinked hr (by decide) (w6 (p6 (v4 1) (v4 0)) (w6 (v4 2) v8))))) v8)))
   u9))))) (λds d h=>T6 h)
theorem mi0:FnScope ["both"] ["both"] (t6 (top 11)):=⟨rfl,rfl,rfl,by decide +kernel,rfl,by decide +kernel,by decide +kernel⟩
theorem le0{fd:FuncData}(F:Fun K "are_links" "are_links" (top 11) fa fd)(T:Txt mg)  : FnOk P w K mg base CX0 1 fa fd ["both"] (spD K U0) :=
 okD (k:=0) (G:=wh0) F mi0 (λcdv A outer s H E hr=>(v5 (m8 (sv0 (O4 M6 b_tuple T.b_isinstance T.b_tuple (p6 (v4 0) u6)) (qr0 (O4 M6 b_tuple T.b_isinstance T.b_tuple (p6 (v4 0) u6)))))
   u9)) (λds d h=>T6 h)
theorem og0:FnScope ["both"] ["both"] (t6 (top 12)):=⟨rfl,rfl,rfl,by decide +kernel,rfl,by decide +kernel,by decide +kernel⟩
theorem o50{fd:FuncData}(F:Fun K "linked_pair" "linked_pair" (top 12) fa fd)(T:Txt mg)  : FnOk P w K mg base CX0 1 fa fd ["both"] (spD K V3) :=
 okD (k:=0) (G:=yy0) F og0 (λcdv A outer s H E hr=>(v5 (m8 (Z3 (w6 (p6 (p6 (v4 0) u6) u6) (w6 (p6 (p6 (v4 0) u6) u6) v8))))
   u9)) (λds d h=>T6 h)
theorem s50:FnScope ["one", "other", "pair", "listed", "both"] ["one", "other", "pair", "listed"] (t6 (top 13)):=⟨rfl,rfl,rfl,by decide +kernel,rfl,by decide +kernel,by decide +kernel⟩
theorem ka0{fd:FuncData}(F:Fun K "is_upheld" "is_upheld" (top 13) fa fd)(T:Txt mg)(C_are_links:FnD P w K mg base "are_links" 1 ["both"] U0)(C_head:FnD P w K mg base "head" 2 ["part"] z60)(C_linked_pair:FnD P w K mg base "linked_pair" 1 ["both"] V3)(C_values:FnN P w K mg base "values" 1 ["part"] m_values):FnOk P w K mg base CX0 3 fa fd ["one", "other", "pair", "listed"] (spD K y50) :=
 okD (k:=2) (G:=wf0) F s50 (λcdv A outer s H E hr=>(v5 (d7 (j4 (uy0 hr.units) ve0 (c7 C_head hr (by decide) (w6 (p6 (v4 0) (p6 (v4 2) u6)) v8)) (c7 C_head hr (by decide) (w6 (p6 (v4 1) (p6 (v4 2) u6)) v8)))
   (v5 (m8 z90)
   u9)
   u9)
   (v5 (za0 C8 rfl (k40 T.b_zip (w6 (U7 C_values hr (by decide) (w6 (p6 (v4 0) (p6 (v4 2) u6)) v8)) (w6 (U7 C_values hr (by decide) (w6 (p6 (v4 1) (p6 (v4 2) u6)) v8)) v8))) (p7 4 s50.nd)
   (v5 (d7 (M3 (c7 C_are_links hr (by decide) (w6 (v4 4) v8)))
   (v5 (d7 (vq0 (yh0 hr) (c7 C_linked_pair hr (by decide) (w6 (v4 4) v8)) (v4 3))
   (v5 (m8 z90)
   u9)
   u9)
   u9)
   (v5 (d7 (j4 (uy0 hr.units) ve0 (p6 (v4 4) u6) (p6 (v4 4) u6))
   (v5 (m8 z90)
   u9)
   u9)
   u9))
   u9))
   (v5 (m8 z90)
   u9)))) (λds d h=>T6 h)
theorem xx0:FnScope ["old", "new", "one", "other", "pairs", "rest"] ["old", "new"] (t6 (top 15)):=⟨rfl,rfl,rfl,by decide +kernel,rfl,by decide +kernel,by decide +kernel⟩
theorem Zw0{fd:FuncData}(F:Fun K "stay" "stay" (top 15) fa fd)(T:Txt mg)(C_upheld_pairs:FnN P w K mg base "upheld_pairs" 4 ["one", "other", "pairs"] z20)(C_walked_pairs:FnN P w K mg base "walked_pairs" 2 ["one", "other"] yn0)(Cd_drawn:cd0 P w K mg base "drawn" 5 ["web", "k"] yf0 [(.int 0)]):FnOk P w K mg base CX0 6 fa fd ["old", "new"] (spN K t70) :=
 okN (k:=5) (G:=fc0) F xx0 (λcdv A outer s H E hr=>(v5 (b7 (fb0 Cd_drawn hr (by decide) (w6 (v4 0) v8)) (p7 2 xx0.nd))
   (v5 (b7 (fb0 Cd_drawn hr (by decide) (w6 (v4 1) v8)) (p7 3 xx0.nd))
   (v5 (b7 (U7 C_walked_pairs hr (by decide) (w6 (v4 2) (w6 (v4 3) v8))) (p7 4 xx0.nd))
   (v5 (b7 (U7 C_upheld_pairs hr (by decide) (w6 (v4 2) (w6 (v4 3) (w6 (v4 4) v8)))) (p7 5 xx0.nd))
   (v5 (wo0 100000 C8 (j4 rd0 t50 (Q5 T.b_len (w6 (v4 5) v8)) (Q5 T.b_len (w6 (v4 4) v8)))
   (v5 (b7 (v4 5) (p7 4 xx0.nd))
   (v5 (b7 (U7 C_upheld_pairs hr (by decide) (w6 (v4 2) (w6 (v4 3) (w6 (v4 4) v8)))) (p7 5 xx0.nd))
   u9)))
   (v5 (R8 (ot0 T.b_sorted b_sorted (v4 5)))
   u9))))))) (λds d h=>y00 h)
theorem Q0:FnScope ["one", "other", "pairs", "mine", "yours", "number", "pair", "both"] ["one", "other"] (t6 (top 16)):=⟨rfl,rfl,rfl,by decide +kernel,rfl,by decide +kernel,by decide +kernel⟩
theorem qw0{fd:FuncData}(F:Fun K "walked_pairs" "walked_pairs" (top 16) fa fd)(T:Txt mg)(C_are_links:FnD P w K mg base "are_links" 1 ["both"] U0)(C_linked_pair:FnD P w K mg base "linked_pair" 1 ["both"] V3)(C_values:FnN P w K mg base "values" 1 ["part"] m_values):FnOk P w K mg base CX0 2 fa fd ["one", "other"] (spN K yn0) :=
 okN (k:=1) (G:=uo0) F Q0 (λcdv A outer s H E hr=>(v5 (P0 2 (zd0 (w6 (Z3 (w6 u6 (w6 u6 v8))) v8)) Q0.nd)
   (v5 (P0 3 (pq0 u6 z90) Q0.nd)
   (v5 (P0 4 (pq0 u6 z90) Q0.nd)
   (v5 (b7 u6 (p7 5 Q0.nd))
   (v5 (wo0 100000 C8 (j4 rd0 t50 (v4 5) (y30 (Q5 T.b_len (w6 (v4 2) v8))))
   (v5 (b7 (vf0 (p6 (v4 2) (v4 5))) (p7 6 Q0.nd))
   (v5 (Z30 5 Q0.nd u6)
   (v5 (za0 C8 rfl (k40 T.b_zip (w6 (U7 C_values hr (by decide) (w6 (p6 (v4 0) (p6 (v4 6) u6)) v8)) (w6 (U7 C_values hr (by decide) (w6 (p6 (v4 1) (p6 (v4 6) u6)) v8)) v8))) (p7 7 Q0.nd)
   (v5 (d7 (PWD.pt (vh0 (M3 (c7 C_are_links hr (by decide) (w6 (v4 7) v8))) (vh0 (w60 (vq0 (yh0 hr) (p6 (p6 (v4 7) u6) u6) (v4 3))) (u30 (w60 (vq0 (yh0 hr) (p6 (p6 (v4 7) u6) u6) (v4 4)))))))
   (v5 (K4 (zb0 z90) (vg0 3 (yh0 hr) (p6 (p6 (v4 7) u6) u6)))
   (v5 (K4 (zb0 z90) (vg0 4 (yh0 hr) (p6 (p6 (v4 7) u6) u6)))
   (v5 (z00 (vs0 2 (c7 C_linked_pair hr (by decide) (w6 (v4 7) v8))))
   u9)))
   u9)
   u9))
   u9))))
   (v5 (ku0 2)
   u9))))))) (λds d h=>y00 h)
theorem ua0:FnScope ["one", "other", "pairs", "listed"] ["one", "other", "pairs"] (t6 (top 17)):=⟨rfl,rfl,rfl,by decide +kernel,rfl,by decide +kernel,by decide +kernel⟩
theorem pn0{fd:FuncData}(F:Fun K "upheld_pairs" "upheld_pairs" (top 17) fa fd)(T:Txt mg)(C_is_upheld:FnD P w K mg base "is_upheld" 3 ["one", "other", "pair", "listed"] y50):FnOk P w K mg base CX0 4 fa fd ["one", "other", "pairs"] (spN K z20) :=
 okN (k:=3) (G:=us0) F ua0 (λcdv A outer s H E hr=>(v5 (b7 (PDF.pd (nq0 (U2 (Ab0 (by decide:2<=64) _) hr.units) rfl T.b_dict b_dict (N8 (sc:=t6 (top 17)) (N:=["one", "other", "pairs", "listed"]) (N':=["pair"]) (n:=1) (caps:=[]) ⟨rfl,by decide +kernel,by decide +kernel,by decide +kernel,by decide +kernel,rfl,by decide +kernel⟩ (by decide) (U9 (v4 2)) (λcl s H ex=>p7 0 (by decide +kernel:(["pair"]:List Str).Nodup)) (λcl s H ex=>V5) (λcl s H ex=>(Z3 (w6 (v4 0) (w6 z90 v8))))))) (p7 3 ua0.nd))
   (v5 (R8 (xb0 (sc:=t6 (top 17)) (N:=["one", "other", "pairs", "listed"]) (N':=["pair", "one", "other", "listed"]) (n:=1) (caps:=[0,1,3]) ⟨rfl,by decide +kernel,by decide +kernel,by decide +kernel,by decide +kernel,rfl,by decide +kernel⟩ (by decide) (U9 (v4 2)) (λcl s H ex=>p7 0 (by decide +kernel:(["pair", "one", "other", "listed"]:List Str).Nodup)) (λcl s H ex=>(ur0 (M3 (c7 C_is_upheld hr (by decide) (w6 (v4 1) (w6 (v4 2) (w6 (v4 0) (w6 (v4 3) v8)))))))) (λcl s H ex=>(v4 0))))
   u9))) (λds d h=>y00 h)
theorem po0:FnScope ["_law_script", "_law_k"] ["_law_script", "_law_k"] (t6 (top 19)):=⟨rfl,rfl,rfl,by decide +kernel,rfl,by decide +kernel,by decide +kernel⟩
theorem qz0{fd:FuncData}(F:Fun K "_law_cell_at" "_law_cell_at" (top 19) fa fd)(T:Txt mg)  : FnOk P w K mg base CX0 1 fa fd ["_law_script", "_law_k"] (spD K d9) :=
 okD (k:=0) (G:=z10) F po0 (λcdv A outer s H E hr=>(v5 (d7 (j4 rd0 t50 (v4 1) (Q5 T.b_len (w6 (v4 0) v8)))
   (v5 (m8 (p6 (v4 0) (v4 1)))
   u9)
   u9)
   (v5 (m8 (yj0 (Y0 (yj0 (v4 1) u6) u6) (Y0 (v4 1) u6)))
   u9))) (λds d h=>T6 h)
theorem kz0:FnScope ["_law_cell", "_law_k"] ["_law_cell", "_law_k"] (t6 (top 20)):=⟨rfl,rfl,rfl,by decide +kernel,rfl,by decide +kernel,by decide +kernel⟩
theorem j20{fd:FuncData}(F:Fun K "_law_mix" "_law_mix" (top 20) fa fd)(T:Txt mg)  : FnOk P w K mg base CX0 1 fa fd ["_law_cell", "_law_k"] (spD K t7) :=
 okD (k:=0) (G:=yg0) F kz0 (λcdv A outer s H E hr=>(v5 (m8 (vd0 (X4 (Y0 (yj0 (Y0 (X4 (v4 0) u6) u6) (Y0 (Y0 u6 (yj0 u6 (v4 1))) (yj0 (yj0 u6 (v4 1)) (v4 1)))) (v4 1)) u6) u6))
   u9)) (λds d h=>T6 h)
theorem xt0:FnScope ["_law_cell", "_law_many", "_law_signs", "_law_base", "_law_at"] ["_law_cell", "_law_many"] (t6 (top 21)):=⟨rfl,rfl,rfl,by decide +kernel,rfl,by decide +kernel,by decide +kernel⟩
theorem mx0{fd:FuncData}(F:Fun K "_law_pool" "_law_pool" (top 21) fa fd)(T:Txt mg)(C__law_mix:FnD P w K mg base "_law_mix" 1 ["_law_cell", "_law_k"] t7):FnOk P w K mg base CX0 2 fa fd ["_law_cell", "_law_many"] (spN K Q7) :=
 okN (k:=1) (G:=y60) F xt0 (λcdv A outer s H E hr=>(v5 (b7 d8 (p7 2 xt0.nd))
   (v5 (b7 (jw0 d8 (w6 (N8 (sc:=t6 (top 21)) (N:=["_law_cell", "_law_many", "_law_signs", "_law_base", "_law_at"]) (N':=["_law_j", "_law_cell", "_law_signs"]) (n:=1) (caps:=[0,2]) ⟨rfl,by decide +kernel,by decide +kernel,by decide +kernel,by decide +kernel,rfl,by decide +kernel⟩ (by decide) (G8 T.b_range (w6 (X4 (c7 C__law_mix hr (by decide) (w6 (v4 0) (w6 u6 v8))) u6) v8)) (λcl s H ex=>p7 0 (by decide +kernel:(["_law_j", "_law_cell", "_law_signs"]:List Str).Nodup)) (λcl s H ex=>V5) (λcl s H ex=>(p6 (v4 2) (X4 (c7 C__law_mix hr (by decide) (w6 (v4 1) (w6 (v4 0) v8))) u6)))) v8)) (p7 3 xt0.nd))
   (v5 (b7 (X4 (c7 C__law_mix hr (by decide) (w6 (v4 0) (w6 u6 v8))) (Y0 (Q5 T.b_len (w6 (v4 3) v8)) u6)) (p7 4 xt0.nd))
   (v5 (R8 (xb0 (sc:=t6 (top 21)) (N:=["_law_cell", "_law_many", "_law_signs", "_law_base", "_law_at"]) (N':=["_law_k", "_law_cell", "_law_signs", "_law_base", "_law_at"]) (n:=1) (caps:=[0,2,3,4]) ⟨rfl,by decide +kernel,by decide +kernel,by decide +kernel,by decide +kernel,rfl,by decide +kernel⟩ (by decide) (G8 T.b_range (w6 (v4 1) v8)) (λcl s H ex=>p7 0 (by decide +kernel:(["_law_k", "_law_cell", "_law_signs", "_law_base", "_law_at"]:List Str).Nodup)) (λcl s H ex=>V5) (λcl s H ex=>(Y0 (Y0 (zf0 (v4 3) zw0 (zu0 (v4 4))) (p6 (v4 2) (X4 (Y0 (yj0 u6 (v4 0)) (v4 1)) u6))) (zf0 (v4 3) (zu0 (v4 4)) zw0)))))
   u9))))) (λds d h=>y00 h)
theorem v00:FnScope ["_law_cell", "_law_k", "_law_many", "_law_way"] ["_law_cell", "_law_k", "_law_many"] (t6 (top 22)):=⟨rfl,rfl,rfl,by decide +kernel,rfl,by decide +kernel,by decide +kernel⟩
theorem q10{fd:FuncData}(F:Fun K "_law_one_value" "_law_one_value" (top 22) fa fd)(T:Txt mg)(C__law_mix:FnD P w K mg base "_law_mix" 1 ["_law_cell", "_law_k"] t7):FnOk P w K mg base CX0 2 fa fd ["_law_cell", "_law_k", "_law_many"] (spD K Z2) :=
 okD (k:=1) (G:=K1) F v00 (λcdv A outer s H E hr=>(v5 (b7 (X4 (c7 C__law_mix hr (by decide) (w6 (v4 0) (w6 (v4 1) v8))) u6) (p7 3 v00.nd))
   (v5 (d7 (j4 V7 X7 (v4 3) u6)
   (v5 (m8 sw0)
   u9)
   u9)
   (v5 (d7 (j4 rd0 t50 (v4 3) u6)
   (v5 (m8 (Z3 (w6 d8 (w6 (X4 (c7 C__law_mix hr (by decide) (w6 (v4 0) (w6 (Y0 u6 (v4 1)) v8))) (v4 2)) v8))))
   u9)
   u9)
   (v5 (d7 (j4 V7 X7 (v4 3) u6)
   (v5 (m8 (qo0 (X4 (c7 C__law_mix hr (by decide) (w6 (v4 0) (w6 (Y0 u6 (v4 1)) v8))) u6) u6))
   u9)
   u9)
   (v5 (m8 (qo0 (Y0 (X4 (aj0 (yj0 (Y0 (v4 0) u6) (Y0 (v4 1) u6)) (mv0 u6 u6)) (qo0 (yj0 u6 (mv0 u6 u6)) u6)) u6) (mv0 u6 u6)))
   u9)))))) (λds d h=>T6 h)
theorem T9:FnScope ["_law_cell", "_law_names", "_law_many", "_law_kind", "_law_size", "_law_signs", "_law_some", "_law_turn", "_law_pairs"] ["_law_cell", "_law_names", "_law_many"] (t6 (top 23)):=⟨rfl,rfl,rfl,by decide +kernel,rfl,by decide +kernel,by decide +kernel⟩
theorem tz0{fd:FuncData}(F:Fun K "_law_drawn_part" "_law_drawn_part" (top 23) fa fd)(T:Txt mg)(C__law_mix:FnD P w K mg base "_law_mix" 1 ["_law_cell", "_law_k"] t7)(C__law_one_value:FnD P w K mg base "_law_one_value" 2 ["_law_cell", "_law_k", "_law_many"] Z2):FnOk P w K mg base CX0 3 fa fd ["_law_cell", "_law_names", "_law_many"] (spD K X3) :=
 okD (k:=2) (G:=N7) F T9 (λcdv A outer s H E hr=>(v5 (b7 (X4 (c7 C__law_mix hr (by decide) (w6 (v4 0) (w6 u6 v8))) u6) (p7 3 T9.nd))
   (v5 (b7 (p6 (t40 (w6 u6 (w6 u6 (w6 u6 (w6 u6 (w6 u6 (w6 u6 (w6 u6 (w6 u6 v8))))))))) (X4 (c7 C__law_mix hr (by decide) (w6 (v4 0) (w6 u6 v8))) u6)) (p7 4 T9.nd))
   (v5 (d7 (j4 V7 X7 (v4 3) u6)
   (v5 (b7 d8 (p7 5 T9.nd))
   (v5 (m8 (Z3 (w6 d8 (w6 (jw0 d8 (w6 (N8 (sc:=t6 (top 23)) (N:=["_law_cell", "_law_names", "_law_many", "_law_kind", "_law_size", "_law_signs", "_law_some", "_law_turn", "_law_pairs"]) (N':=["_law_j", "_law_cell", "_law_signs"]) (n:=1) (caps:=[0,5]) ⟨rfl,by decide +kernel,by decide +kernel,by decide +kernel,by decide +kernel,rfl,by decide +kernel⟩ (by decide) (G8 T.b_range (w6 (X4 (c7 C__law_mix hr (by decide) (w6 (v4 0) (w6 u6 v8))) u6) v8)) (λcl s H ex=>p7 0 (by decide +kernel:(["_law_j", "_law_cell", "_law_signs"]:List Str).Nodup)) (λcl s H ex=>V5) (λcl s H ex=>(p6 (v4 2) (X4 (c7 C__law_mix hr (by decide) (w6 (v4 1) (w6 (Y0 u6 (v4 0)) v8))) u6)))) v8)) v8))))
   u9))
   u9)
   (v5 (b7 (N8 (sc:=t6 (top 23)) (N:=["_law_cell", "_law_names", "_law_many", "_law_kind", "_law_size", "_law_signs", "_law_some", "_law_turn", "_law_pairs"]) (N':=["_law_k", "_law_cell", "_law_many"]) (n:=1) (caps:=[0,2]) ⟨rfl,by decide +kernel,by decide +kernel,by decide +kernel,by decide +kernel,rfl,by decide +kernel⟩ (by decide) (G8 T.b_range (w6 (v4 4) v8)) (λcl s H ex=>p7 0 (by decide +kernel:(["_law_k", "_law_cell", "_law_many"]:List Str).Nodup)) (λcl s H ex=>V5) (λcl s H ex=>(c7 C__law_one_value hr (by decide) (w6 (v4 1) (w6 (Y0 u6 (v4 0)) (w6 (v4 2) v8)))))) (p7 6 T9.nd))
   (v5 (d7 (j4 V7 X7 (v4 3) u6)
   (v5 (m8 (Z3 (w6 d8 (w6 (U4 Y7 z40 T.b_tuple b_tuple (w6 (v4 6) v8)) v8))))
   u9)
   u9)
   (v5 (b7 (X4 (c7 C__law_mix hr (by decide) (w6 (v4 0) (w6 u6 v8))) u6) (p7 7 T9.nd))
   (v5 (b7 (U4 Y7 z40 T.b_tuple b_tuple (w6 (N8 (sc:=t6 (top 23)) (N:=["_law_cell", "_law_names", "_law_many", "_law_kind", "_law_size", "_law_signs", "_law_some", "_law_turn", "_law_pairs"]) (N':=["_law_k", "_law_names", "_law_some", "_law_turn"]) (n:=1) (caps:=[1,6,7]) ⟨rfl,by decide +kernel,by decide +kernel,by decide +kernel,by decide +kernel,rfl,by decide +kernel⟩ (by decide) (G8 T.b_range (w6 (v4 4) v8)) (λcl s H ex=>p7 0 (by decide +kernel:(["_law_k", "_law_names", "_law_some", "_law_turn"]:List Str).Nodup)) (λcl s H ex=>V5) (λcl s H ex=>(Z3 (w6 (p6 (v4 1) (X4 (Y0 (v4 3) (v4 0)) u6)) (w6 (p6 (v4 2) (v4 0)) v8))))) v8)) (p7 8 T9.nd))
   (v5 (d7 (j4 V7 X7 (v4 3) u6)
   (v5 (m8 (Z3 (w6 d8 (w6 (v4 8) v8))))
   u9)
   u9)
   (v5 (m8 (Z3 (w6 d8 (w6 (p6 (v4 1) (X4 (c7 C__law_mix hr (by decide) (w6 (v4 0) (w6 u6 v8))) u6)) (w6 (v4 8) v8)))))
   u9)))))))))) (λds d h=>T6 h)
theorem wv0:FnScope ["_law_script", "_law_start", "_law_most", "_law_many", "_law_names"] ["_law_script", "_law_start", "_law_most"] (t6 (top 24)):=⟨rfl,rfl,rfl,by decide +kernel,rfl,by decide +kernel,by decide +kernel⟩
theorem nt0{fd:FuncData}(F:Fun K "_law_built" "_law_built" (top 24) fa fd)(T:Txt mg)(C__law_cell_at:FnD P w K mg base "_law_cell_at" 1 ["_law_script", "_law_k"] d9)(C__law_drawn_part:FnD P w K mg base "_law_drawn_part" 3 ["_law_cell", "_law_names", "_law_many"] X3)(C__law_mix:FnD P w K mg base "_law_mix" 1 ["_law_cell", "_law_k"] t7)(C__law_pool:FnN P w K mg base "_law_pool" 2 ["_law_cell", "_law_many"] Q7):FnOk P w K mg base CX0 4 fa fd ["_law_script", "_law_start", "_law_most"] (spD K T3) :=
 okD (k:=3) (G:=zp0) F wv0 (λcdv A outer s H E hr=>(v5 (b7 (Y0 u6 (X4 (c7 C__law_mix hr (by decide) (w6 (c7 C__law_cell_at hr (by decide) (w6 (v4 0) (w6 (v4 1) v8))) (w6 u6 v8))) (v4 2))) (p7 3 wv0.nd))
   (v5 (b7 (U7 C__law_pool hr (by decide) (w6 (c7 C__law_cell_at hr (by decide) (w6 (v4 0) (w6 (Y0 (v4 1) u6) v8))) (w6 u6 v8))) (p7 4 wv0.nd))
   (v5 (m8 (U4 Y7 z40 T.b_tuple b_tuple (w6 (N8 (sc:=t6 (top 24)) (N:=["_law_script", "_law_start", "_law_most", "_law_many", "_law_names"]) (N':=["_law_k", "_law_script", "_law_start", "_law_many", "_law_names"]) (n:=1) (caps:=[0,1,3,4]) ⟨rfl,by decide +kernel,by decide +kernel,by decide +kernel,by decide +kernel,rfl,by decide +kernel⟩ (by decide) (G8 T.b_range (w6 (v4 3) v8)) (λcl s H ex=>p7 0 (by decide +kernel:(["_law_k", "_law_script", "_law_start", "_law_many", "_law_names"]:List Str).Nodup)) (λcl s H ex=>V5) (λcl s H ex=>(c7 C__law_drawn_part hr (by decide) (w6 (c7 C__law_cell_at hr (by decide) (w6 (v4 1) (w6 (Y0 (Y0 (v4 2) u6) (v4 0)) v8))) (w6 (v4 4) (w6 (v4 3) v8)))))) v8)))
   u9)))) (λds d h=>T6 h)
theorem wy0:FnScope ["_law_part", "_law_some"] ["_law_part"] (t6 (top 25)):=⟨rfl,rfl,rfl,by decide +kernel,rfl,by decide +kernel,by decide +kernel⟩
theorem ny0{fd:FuncData}(F:Fun K "_law_links" "_law_links" (top 25) fa fd)(T:Txt mg)  : FnOk P w K mg base CX0 1 fa fd ["_law_part"] (spN K S6) :=
 okN (k:=0) (G:=xm0) F wy0 (λcdv A outer s H E hr=>(v5 (d7 (j4 V7 X7 (p6 (v4 0) u6) d8)
   (v5 (R8 (zd0 v8))
   u9)
   u9)
   (v5 (b7 (p6 (v4 0) (y90 u6)) (p7 1 wy0.nd))
   (v5 (d7 (j4 m70 qs0 (p6 (v4 0) u6) d8)
   (v5 (u00 1 wy0.nd (sc:=t6 (top 25)) (N:=["_law_part", "_law_some"]) (N':=["_law_pair"]) (n:=1) (caps:=[]) ⟨rfl,by decide +kernel,by decide +kernel,by decide +kernel,by decide +kernel,rfl,by decide +kernel⟩ (by decide) (xd0 (p6 (v4 0) (y90 u6))) (λcl s H ex=>p7 0 (by decide +kernel:(["_law_pair"]:List Str).Nodup)) (λcl s H ex=>V5) (λcl s H ex=>(p6 (v4 0) u6)))
   u9)
   u9)
   (v5 (R8 (xb0 (sc:=t6 (top 25)) (N:=["_law_part", "_law_some"]) (N':=["_law_value"]) (n:=1) (caps:=[]) ⟨rfl,by decide +kernel,by decide +kernel,by decide +kernel,by decide +kernel,rfl,by decide +kernel⟩ (by decide) (Yc0 (v4 1)) (λcl s H ex=>p7 0 (by decide +kernel:(["_law_value"]:List Str).Nodup)) (λcl s H ex=>(ur0 (M3 (O4 M6 b_tuple T.b_isinstance T.b_tuple (v4 0))))) (λcl s H ex=>(p6 (v4 0) u6))))
   u9))))) (λds d h=>y00 h)
theorem sh0:FnScope ["_law_web", "_law_at", "_law_found", "_law_other"] ["_law_web", "_law_at", "_law_found"] (t6 (top 26)):=⟨rfl,rfl,rfl,by decide +kernel,rfl,by decide +kernel,by decide +kernel⟩
theorem mh0{fd:FuncData}(F:Fun K "_law_come" "_law_come" (top 26) fa fd)(T:Txt mg)(mp mq:List D->Option (List D))(kk:Nat)(hkk:1<=kk)(C__law_come:FnM P w K mg base "_law_come" kk ["_law_web", "_law_at", "_law_found"] false mp)(C__law_links:FnN P w K mg base "_law_links" 1 ["_law_part"] S6)
  (hf:∀ds l l',mq (ds++[.lst l])=some l'->(ds++[D.lst l]).length=3/\∀p,(false=true/\K9 mp (z30 zj0 ds p l)=some (.rf (lent p l')))∨(false=false/\∃δ',K9 mp (z30 zj0 ds p l)=some (.nx δ')/\δ'[ds.length]?=some (.ow (lent p l')))):FnOk P w K mg base CX0 (kk+1) fa fd ["_law_web", "_law_at", "_law_found"] (spM K false mq) :=
 okM (k:=kk) (G:=K9 mp) F sh0 (λcdv A outer s H E hr=>(v5 (d7 (w60 (j4 vn0 (sm0 true) (v4 1) (v4 2)))
   (v5 (z00 (ay0 2 (v4 1)))
   (v5 (za0 C8 rfl (U9 (U7 C__law_links hr (B7 (by decide:1<=1) hkk) (w6 (p6 (v4 0) (v4 1)) v8))) (p7 3 sh0.nd)
   (v5 (n90 2 C__law_come hr (A2 _) (ti0 (v4 0) (ti0 (v4 3) (in0 2))))
   u9))
   u9))
   u9)
   u9)) hf
theorem j00:FnScope ["_law_value", "_law_numbers"] ["_law_value", "_law_numbers"] (t6 (top 27)):=⟨rfl,rfl,rfl,by decide +kernel,rfl,by decide +kernel,by decide +kernel⟩
theorem jb0{fd:FuncData}(F:Fun K "_law_led" "_law_led" (top 27) fa fd)(T:Txt mg)  : FnOk P w K mg base CX0 1 fa fd ["_law_value", "_law_numbers"] (spD K W5) :=
 okD (k:=0) (G:=v50) F j00 (λcdv A outer s H E hr=>(v5 (d7 (M3 (O4 M6 b_tuple T.b_isinstance T.b_tuple (v4 0)))
   (v5 (m8 (Z3 (w6 d8 (w6 (jz0 (yh0 hr) (v4 1) (p6 (v4 0) u6)) v8))))
   u9)
   u9)
   (v5 (m8 (v4 0))
   u9))) (λds d h=>T6 h)
theorem S8:FnScope ["_law_web", "_law_at", "_law_found", "_law_numbers", "_law_k", "_law_parts", "_law_part", "_law_pairs"] ["_law_web", "_law_at"] (t6 (top 28)):=⟨rfl,rfl,rfl,by decide +kernel,rfl,by decide +kernel,by decide +kernel⟩
theorem ns0{fd:FuncData}(F:Fun K "_law_drawn" "_law_drawn" (top 28) fa fd)(T:Txt mg)(C__law_come:FnM P w K mg base "_law_come" 63 ["_law_web", "_law_at", "_law_found"] false S7)(C__law_led:FnD P w K mg base "_law_led" 1 ["_law_value", "_law_numbers"] W5):FnOk P w K mg base CX0 64 fa fd ["_law_web", "_law_at"] (spD K J2) :=
 okD (k:=63) (G:=xq0) F S8 (λcdv A outer s H E hr=>(v5 (P0 2 (zd0 v8) S8.nd)
   (v5 (n90 2 C__law_come hr (by decide) (ti0 (v4 0) (ti0 (v4 1) (in0 2))))
   (v5 (w40 2 (P0 3 sg0 S8.nd))
   (v5 (za0 C8 rfl (U9 (v4 2)) (p7 4 S8.nd)
   (v5 (K4 (zb0 (y30 (tj0 op0 jd0 T.b_len Ad0 (w6 (v4 3) v8)))) (vg0 3 (yh0 hr) (v4 4)))
   u9))
   (v5 (w40 3 (P0 5 (zd0 v8) S8.nd))
   (v5 (za0 C8 rfl (U9 (v4 2)) (p7 4 S8.nd)
   (v5 (b7 (p6 (v4 0) (v4 4)) (p7 6 S8.nd))
   (v5 (d7 (j4 V7 X7 (p6 (v4 6) u6) d8)
   (v5 (b7 (Z3 (w6 d8 (w6 (U4 Y7 z40 T.b_tuple b_tuple (w6 (N8 (sc:=t6 (top 28)) (N:=["_law_web", "_law_at", "_law_found", "_law_numbers", "_law_k", "_law_parts", "_law_part", "_law_pairs"]) (N':=["_law_value", "_law_numbers"]) (n:=1) (caps:=[3]) ⟨rfl,by decide +kernel,by decide +kernel,by decide +kernel,by decide +kernel,rfl,by decide +kernel⟩ (by decide) (xd0 (p6 (v4 6) u6)) (λcl s H ex=>p7 0 (by decide +kernel:(["_law_value", "_law_numbers"]:List Str).Nodup)) (λcl s H ex=>V5) (λcl s H ex=>(c7 C__law_led hr (by decide) (w6 (v4 0) (w6 (v4 1) v8))))) v8)) v8))) (p7 6 S8.nd))
   u9)
   (v5 (d7 (j4 m70 qs0 (p6 (v4 6) u6) d8)
   (v5 (u00 7 S8.nd (sc:=t6 (top 28)) (N:=["_law_web", "_law_at", "_law_found", "_law_numbers", "_law_k", "_law_parts", "_law_part", "_law_pairs"]) (N':=["_law_name", "_law_value", "_law_numbers"]) (n:=2) (caps:=[3]) ⟨rfl,by decide +kernel,by decide +kernel,by decide +kernel,by decide +kernel,rfl,by decide +kernel⟩ (by decide) (xd0 (p6 (v4 6) (y90 u6))) (λcl s H ex=>xa0 0 1 (by decide +kernel:(["_law_name", "_law_value", "_law_numbers"]:List Str).Nodup) (by decide)) (λcl s H ex=>V5) (λcl s H ex=>(Z3 (w6 (v4 0) (w6 (c7 C__law_led hr (by decide) (w6 (v4 1) (w6 (v4 2) v8))) v8)))))
   (v5 (b7 (Y0 (zf0 (v4 6) zw0 (zu0 (y90 u6))) (Z3 (w6 (U4 Y7 z40 T.b_tuple b_tuple (w6 (v4 7) v8)) v8))) (p7 6 S8.nd))
   u9))
   u9)
   u9))
   (v5 (z00 (vs0 5 (v4 6)))
   u9))))
   (v5 (tc0 (U4 Y7 z40 T.b_tuple b_tuple (w6 (v4 5) v8)))
   u9)))))))) (λds d h=>T6 h)
theorem qv0:FnScope ["_law_part"] ["_law_part"] (t6 (top 29)):=⟨rfl,rfl,rfl,by decide +kernel,rfl,by decide +kernel,by decide +kernel⟩
theorem qp0{fd:FuncData}(F:Fun K "_law_some_of" "_law_some_of" (top 29) fa fd)(T:Txt mg)  : FnOk P w K mg base CX0 1 fa fd ["_law_part"] (spN K j9) :=
 okN (k:=0) (G:=yl0) F qv0 (λcdv A outer s H E hr=>(v5 (d7 (j4 V7 X7 (p6 (v4 0) u6) d8)
   (v5 (R8 (zd0 v8))
   u9)
   u9)
   (v5 (d7 (j4 V7 X7 (p6 (v4 0) u6) d8)
   (v5 (R8 (q60 T.b_list b_list (p6 (v4 0) u6)))
   u9)
   u9)
   (v5 (R8 (xb0 (sc:=t6 (top 29)) (N:=["_law_part"]) (N':=["_law_pair"]) (n:=1) (caps:=[]) ⟨rfl,by decide +kernel,by decide +kernel,by decide +kernel,by decide +kernel,rfl,by decide +kernel⟩ (by decide) (xd0 (p6 (v4 0) (y90 u6))) (λcl s H ex=>p7 0 (by decide +kernel:(["_law_pair"]:List Str).Nodup)) (λcl s H ex=>V5) (λcl s H ex=>(p6 (v4 0) u6))))
   u9)))) (λds d h=>y00 h)
theorem s70:FnScope ["_law_part", "_law_some", "_law_pairs"] ["_law_part", "_law_some"] (t6 (top 30)):=⟨rfl,rfl,rfl,by decide +kernel,rfl,by decide +kernel,by decide +kernel⟩
theorem mw0{fd:FuncData}(F:Fun K "_law_with" "_law_with" (top 30) fa fd)(T:Txt mg)  : FnOk P w K mg base CX0 1 fa fd ["_law_part", "_law_some"] (spD K U3) :=
 okD (k:=0) (G:=w90) F s70 (λcdv A outer s H E hr=>(v5 (d7 (j4 V7 X7 (p6 (v4 0) u6) d8)
   (v5 (m8 (Z3 (w6 d8 (w6 (U4 Y7 z40 T.b_tuple b_tuple (w6 (v4 1) v8)) v8))))
   u9)
   u9)
   (v5 (d7 (j4 V7 X7 (p6 (v4 0) u6) d8)
   (v5 (m8 (v4 0))
   u9)
   u9)
   (v5 (u00 2 s70.nd (sc:=t6 (top 30)) (N:=["_law_part", "_law_some", "_law_pairs"]) (N':=["_law_pair", "_law_value"]) (n:=2) (caps:=[]) ⟨rfl,by decide +kernel,by decide +kernel,by decide +kernel,by decide +kernel,rfl,by decide +kernel⟩ (by decide) (b00 T.b_zip (w6 (p6 (v4 0) (y90 u6)) (w6 (v4 1) v8))) (λcl s H ex=>xa0 0 1 (by decide +kernel:(["_law_pair", "_law_value"]:List Str).Nodup) (by decide)) (λcl s H ex=>V5) (λcl s H ex=>(Z3 (w6 (p6 (v4 0) u6) (w6 (v4 1) v8)))))
   (v5 (m8 (Y0 (zf0 (v4 0) zw0 (zu0 (y90 u6))) (Z3 (w6 (U4 Y7 z40 T.b_tuple b_tuple (w6 (v4 2) v8)) v8))))
   u9))))) (λds d h=>T6 h)
theorem uv0:FnScope ["_law_part", "_law_cell", "_law_names", "_law_name"] ["_law_part", "_law_cell", "_law_names"] (t6 (top 31)):=⟨rfl,rfl,rfl,by decide +kernel,rfl,by decide +kernel,by decide +kernel⟩
theorem pz0{fd:FuncData}(F:Fun K "_law_headed" "_law_headed" (top 31) fa fd)(T:Txt mg)(C__law_mix:FnD P w K mg base "_law_mix" 1 ["_law_cell", "_law_k"] t7):FnOk P w K mg base CX0 2 fa fd ["_law_part", "_law_cell", "_law_names"] (spD K zy0) :=
 okD (k:=1) (G:=tu0) F uv0 (λcdv A outer s H E hr=>(v5 (b7 (p6 (v4 2) (X4 (c7 C__law_mix hr (by decide) (w6 (v4 1) (w6 u6 v8))) u6)) (p7 3 uv0.nd))
   (v5 (d7 (j4 V7 X7 (p6 (v4 0) u6) d8)
   (v5 (m8 (Z3 (w6 d8 (w6 (zf0 (zf0 (Y0 (p6 (v4 0) u6) d8) (zu0 (X4 (c7 C__law_mix hr (by decide) (w6 (v4 1) (w6 u6 v8))) u6)) zw0) zw0 (zu0 u6)) v8))))
   u9)
   u9)
   (v5 (d7 (j4 V7 X7 (p6 (v4 0) u6) d8)
   (v5 (m8 (Z3 (w6 d8 (w6 (zf0 (Y0 (p6 (v4 0) u6) (Z3 (w6 sw0 (w6 u6 v8)))) zw0 (zu0 (X4 (c7 C__law_mix hr (by decide) (w6 (v4 1) (w6 u6 v8))) u6))) v8))))
   u9)
   u9)
   (v5 (d7 (j4 V7 X7 (p6 (v4 0) u6) d8)
   (v5 (m8 (Z3 (w6 d8 (w6 (v4 3) (w6 (p6 (v4 0) u6) v8)))))
   u9)
   u9)
   (v5 (m8 (Z3 (w6 d8 (w6 (v4 3) (w6 (zf0 (p6 (v4 0) u6) zw0 (zu0 (X4 (c7 C__law_mix hr (by decide) (w6 (v4 1) (w6 u6 v8))) u6))) v8)))))
   u9)))))) (λds d h=>T6 h)
theorem J6:FnScope ["_law_web", "_law_cell", "_law_names", "_law_parts", "_law_j", "_law_more", "_law_at", "_law_some"] ["_law_web", "_law_cell", "_law_names"] (t6 (top 32)):=⟨rfl,rfl,rfl,by decide +kernel,rfl,by decide +kernel,by decide +kernel⟩
theorem p60{fd:FuncData}(F:Fun K "_law_changed" "_law_changed" (top 32) fa fd)(T:Txt mg)(C__law_headed:FnD P w K mg base "_law_headed" 2 ["_law_part", "_law_cell", "_law_names"] zy0)(C__law_mix:FnD P w K mg base "_law_mix" 1 ["_law_cell", "_law_k"] t7)(C__law_one_value:FnD P w K mg base "_law_one_value" 2 ["_law_cell", "_law_k", "_law_many"] Z2)(C__law_some_of:FnN P w K mg base "_law_some_of" 1 ["_law_part"] j9)(C__law_with:FnD P w K mg base "_law_with" 1 ["_law_part", "_law_some"] U3):FnOk P w K mg base CX0 3 fa fd ["_law_web", "_law_cell", "_law_names"] (spD K yp0) :=
 okD (k:=2) (G:=ux0) F J6 (λcdv A outer s H E hr=>(v5 (P0 3 (q60 T.b_list b_list (v4 0)) J6.nd)
   (v5 (za0 C8 rfl (G8 T.b_range (w6 (X4 (c7 C__law_mix hr (by decide) (w6 (v4 1) (w6 u6 v8))) u6) v8)) (p7 4 J6.nd)
   (v5 (b7 (c7 C__law_mix hr (by decide) (w6 (v4 1) (w6 (Y0 u6 (v4 4)) v8))) (p7 5 J6.nd))
   (v5 (b7 (X4 (v4 5) (y30 (Q5 T.b_len (w6 (v4 3) v8)))) (p7 6 J6.nd))
   (v5 (w40 7 (P0 7 (sr0 C__law_some_of hr (by decide) (w6 (vf0 (p6 (v4 3) (v4 6))) v8)) J6.nd))
   (v5 (d7 (j4 (e60 hr.units) iq0 (X4 (vd0 (v4 5) u6) u6) u6)
   (v5 (K4 (zb0 (c7 C__law_headed hr (by decide) (w6 (vf0 (p6 (v4 3) (v4 6))) (w6 (v4 5) (w6 (v4 2) v8))))) (ri0 3 (v4 6)))
   u9)
   (v5 (d7 (w60 (j4 (uy0 hr.units) ve0 (v4 7) (t40 v8)))
   (v5 (d7 (PWD.pt (vh0 (j4 (e60 hr.units) iq0 (X4 (vd0 (v4 5) u6) u6) u6) (u30 (j4 rd0 t50 (y30 (Q5 T.b_len (w6 (v4 3) v8))) u6))))
   (v5 (z00 (vs0 3 (p6 (t40 (w6 (Z3 (w6 d8 (w6 d8 v8))) (w6 (Z3 (w6 d8 (w6 (Z3 (w6 (Z3 (w6 d8 (w6 (v4 6) v8))) (w6 sw0 v8))) v8))) v8))) (X4 (vd0 (v4 5) u6) u6))))
   (v5 (K4 (zb0 (Z3 (w6 d8 (w6 (qo0 (y30 (Q5 T.b_len (w6 (v4 3) v8))) u6) v8)))) (ri0 7 (X4 (vd0 (v4 5) u6) (y30 (Q5 T.b_len (w6 (v4 7) v8))))))
   u9))
   (v5 (K4 (zb0 (c7 C__law_one_value hr (by decide) (w6 (v4 5) (w6 u6 (w6 (y30 (Q5 T.b_len (w6 (v4 3) v8))) v8))))) (ri0 7 (X4 (vd0 (v4 5) u6) (y30 (Q5 T.b_len (w6 (v4 7) v8))))))
   u9))
   (v5 (K4 (zb0 (vf0 (c7 C__law_with hr (by decide) (w6 (p6 (v4 3) (v4 6)) (w6 (v4 7) v8))))) (ri0 3 (v4 6)))
   u9))
   u9)
   u9))
   u9)))))
   (v5 (tc0 (U4 Y7 z40 T.b_tuple b_tuple (w6 (v4 3) v8)))
   u9)))) (λds d h=>T6 h)
theorem S5:FnScope ["_law_web", "_law_cell", "_law_order", "_law_k", "_law_numbers", "_law_parts"] ["_law_web", "_law_cell"] (t6 (top 33)):=⟨rfl,rfl,rfl,by decide +kernel,rfl,by decide +kernel,by decide +kernel⟩
theorem sk0{fd:FuncData}(F:Fun K "_law_renumbered" "_law_renumbered" (top 33) fa fd)(T:Txt mg)(C__law_led:FnD P w K mg base "_law_led" 1 ["_law_value", "_law_numbers"] W5)(C__law_mix:FnD P w K mg base "_law_mix" 1 ["_law_cell", "_law_k"] t7)(C__law_some_of:FnN P w K mg base "_law_some_of" 1 ["_law_part"] j9)(C__law_with:FnD P w K mg base "_law_with" 1 ["_law_part", "_law_some"] U3):FnOk P w K mg base CX0 2 fa fd ["_law_web", "_law_cell"] (spD K R6) :=
 okD (k:=1) (G:=zn0) F S5 (λcdv A outer s H E hr=>(v5 (P0 2 (zd0 (w6 u6 v8)) S5.nd)
   (v5 (za0 C8 rfl (ix0 T.b_range (w6 u6 (w6 (Q5 T.b_len (w6 (v4 0) v8)) v8))) (p7 3 S5.nd)
   (v5 (z00 (Wo0 2 (Y0 u6 (X4 (c7 C__law_mix hr (by decide) (w6 (v4 1) (w6 (Y0 u6 (v4 3)) v8))) (y30 (Q5 T.b_len (w6 (v4 2) v8))))) (v4 3)))
   u9))
   (v5 (w40 2 (P0 4 sg0 S5.nd))
   (v5 (za0 C8 rfl (U9 (v4 2)) (p7 3 S5.nd)
   (v5 (K4 (zb0 (y30 (tj0 op0 jd0 T.b_len Ad0 (w6 (v4 4) v8)))) (vg0 4 (yh0 hr) (v4 3)))
   u9))
   (v5 (w40 4 (P0 5 (zd0 v8) S5.nd))
   (v5 (za0 C8 rfl (U9 (v4 2)) (p7 3 S5.nd)
   (v5 (z00 (vs0 5 (c7 C__law_with hr (by decide) (w6 (p6 (v4 0) (v4 3)) (w6 (N8 (sc:=t6 (top 33)) (N:=["_law_web", "_law_cell", "_law_order", "_law_k", "_law_numbers", "_law_parts"]) (N':=["_law_value", "_law_numbers"]) (n:=1) (caps:=[4]) ⟨rfl,by decide +kernel,by decide +kernel,by decide +kernel,by decide +kernel,rfl,by decide +kernel⟩ (by decide) (U9 (U7 C__law_some_of hr (by decide) (w6 (p6 (v4 0) (v4 3)) v8))) (λcl s H ex=>p7 0 (by decide +kernel:(["_law_value", "_law_numbers"]:List Str).Nodup)) (λcl s H ex=>V5) (λcl s H ex=>(c7 C__law_led hr (by decide) (w6 (v4 0) (w6 (v4 1) v8))))) v8)))))
   u9))
   (v5 (tc0 (U4 Y7 z40 T.b_tuple b_tuple (w6 (v4 5) v8)))
   u9)))))))) (λds d h=>T6 h)
theorem zl0:FnScope ["_law_script", "_law_old", "_law_names", "_law_cell", "_law_new"] ["_law_script"] (t6 (top 34)):=⟨rfl,rfl,rfl,by decide +kernel,rfl,by decide +kernel,by decide +kernel⟩
theorem kx0{fd:FuncData}(F:Fun K "_law_two" "_law_two" (top 34) fa fd)(T:Txt mg)(C__law_built:FnD P w K mg base "_law_built" 4 ["_law_script", "_law_start", "_law_most"] T3)(C__law_cell_at:FnD P w K mg base "_law_cell_at" 1 ["_law_script", "_law_k"] d9)(C__law_changed:FnD P w K mg base "_law_changed" 3 ["_law_web", "_law_cell", "_law_names"] yp0)(C__law_mix:FnD P w K mg base "_law_mix" 1 ["_law_cell", "_law_k"] t7)(C__law_pool:FnN P w K mg base "_law_pool" 2 ["_law_cell", "_law_many"] Q7)(C__law_renumbered:FnD P w K mg base "_law_renumbered" 2 ["_law_web", "_law_cell"] R6):FnOk P w K mg base CX0 5 fa fd ["_law_script"] (spD K v60) :=
 okD (k:=4) (G:=pc0) F zl0 (λcdv A outer s H E hr=>(v5 (b7 (c7 C__law_built hr (by decide) (w6 (v4 0) (w6 u6 (w6 (p6 (t40 (w6 u6 (w6 u6 v8))) (U4 e00 Yl0 T.b_int b_int (w6 (s20 V7 X7 (X4 (c7 C__law_cell_at hr (by decide) (w6 (v4 0) (w6 u6 v8))) u6) u6) v8))) v8)))) (p7 1 zl0.nd))
   (v5 (b7 (U7 C__law_pool hr (by decide) (w6 (c7 C__law_cell_at hr (by decide) (w6 (v4 0) (w6 u6 v8))) (w6 u6 v8))) (p7 2 zl0.nd))
   (v5 (b7 (c7 C__law_cell_at hr (by decide) (w6 (v4 0) (w6 u6 v8))) (p7 3 zl0.nd))
   (v5 (b7 (c7 C__law_changed hr (by decide) (w6 (v4 1) (w6 (v4 3) (w6 (v4 2) v8)))) (p7 4 zl0.nd))
   (v5 (d7 (j4 V7 X7 (X4 (c7 C__law_mix hr (by decide) (w6 (v4 3) (w6 u6 v8))) u6) u6)
   (v5 (b7 (c7 C__law_built hr (by decide) (w6 (v4 0) (w6 u6 (w6 u6 v8)))) (p7 4 zl0.nd))
   u9)
   u9)
   (v5 (d7 (j4 V7 X7 (X4 (c7 C__law_mix hr (by decide) (w6 (v4 3) (w6 u6 v8))) u6) u6)
   (v5 (b7 (c7 C__law_renumbered hr (by decide) (w6 (v4 4) (w6 (v4 3) v8))) (p7 4 zl0.nd))
   u9)
   u9)
   (v5 (m8 (Z3 (w6 (v4 1) (w6 (v4 4) v8))))
   u9)))))))) (λds d h=>T6 h)
theorem mk0:FnScope ["_law_part"] ["_law_part"] (t6 (top 35)):=⟨rfl,rfl,rfl,by decide +kernel,rfl,by decide +kernel,by decide +kernel⟩
theorem me0{fd:FuncData}(F:Fun K "_law_head" "_law_head" (top 35) fa fd)(T:Txt mg)  : FnOk P w K mg base CX0 1 fa fd ["_law_part"] (spD K K8) :=
 okD (k:=0) (G:=q50) F mk0 (λcdv A outer s H E hr=>(v5 (d7 (j4 V7 X7 (p6 (v4 0) u6) d8)
   (v5 (m8 (v4 0))
   u9)
   u9)
   (v5 (d7 (j4 V7 X7 (p6 (v4 0) u6) d8)
   (v5 (m8 (Z3 (w6 d8 (w6 (Q5 T.b_len (w6 (p6 (v4 0) u6) v8)) v8))))
   u9)
   u9)
   (v5 (m8 (Y0 (zf0 (v4 0) zw0 (zu0 (y90 u6))) (Z3 (w6 (U4 Y7 z40 T.b_tuple b_tuple (w6 (N8 (sc:=t6 (top 35)) (N:=["_law_part"]) (N':=["_law_pair"]) (n:=1) (caps:=[]) ⟨rfl,by decide +kernel,by decide +kernel,by decide +kernel,by decide +kernel,rfl,by decide +kernel⟩ (by decide) (xd0 (p6 (v4 0) (y90 u6))) (λcl s H ex=>p7 0 (by decide +kernel:(["_law_pair"]:List Str).Nodup)) (λcl s H ex=>V5) (λcl s H ex=>(p6 (v4 0) u6))) v8)) v8))))
   u9)))) (λds d h=>T6 h)
theorem t00:FnScope ["_law_one", "_law_other", "_law_there", "_law_here", "_law_beside"] ["_law_one", "_law_other", "_law_there"] (t6 (top 36)):=⟨rfl,rfl,rfl,by decide +kernel,rfl,by decide +kernel,by decide +kernel⟩
theorem oe0{fd:FuncData}(F:Fun K "_law_stands" "_law_stands" (top 36) fa fd)(T:Txt mg)(C__law_head:FnD P w K mg base "_law_head" 1 ["_law_part"] K8)(C__law_some_of:FnN P w K mg base "_law_some_of" 1 ["_law_part"] j9):FnOk P w K mg base CX0 2 fa fd ["_law_one", "_law_other", "_law_there"] (spD K zx0) :=
 okD (k:=1) (G:=tv0) F t00 (λcdv A outer s H E hr=>(v5 (d7 (j4 (uy0 hr.units) ve0 (c7 C__law_head hr (by decide) (w6 (v4 0) v8)) (c7 C__law_head hr (by decide) (w6 (v4 1) v8)))
   (v5 (m8 z90)
   u9)
   u9)
   (v5 (za0 C8 rfl (ip0 T.b_zip (w6 (U7 C__law_some_of hr (by decide) (w6 (v4 0) v8)) (w6 (U7 C__law_some_of hr (by decide) (w6 (v4 1) v8)) v8))) (xa0 3 4 t00.nd (by decide))
   (v5 (d7 (PWD.pt (vh0 (M3 (O4 M6 b_tuple T.b_isinstance T.b_tuple (v4 3))) (u30 (M3 (O4 M6 b_tuple T.b_isinstance T.b_tuple (v4 4))))))
   (v5 (d7 (vq0 (yh0 hr) (Z3 (w6 (p6 (v4 3) u6) (w6 (p6 (v4 4) u6) v8))) (v4 2))
   (v5 (m8 z90)
   u9)
   u9)
   u9)
   (v5 (d7 (j4 (uy0 hr.units) ve0 (v4 3) (v4 4))
   (v5 (m8 z90)
   u9)
   u9)
   u9))
   u9))
   (v5 (m8 z90)
   u9)))) (λds d h=>T6 h)
theorem Q6:FnScope ["_law_old", "_law_new", "_law_pairs", "_law_at", "_law_k", "_law_j", "_law_here", "_law_beside", "_law_bad", "_law_there"] ["_law_old", "_law_new"] (t6 (top 37)):=⟨rfl,rfl,rfl,by decide +kernel,rfl,by decide +kernel,by decide +kernel⟩
theorem lv0{fd:FuncData}(F:Fun K "_law_stay" "_law_stay" (top 37) fa fd)(T:Txt mg)(C__law_some_of:FnN P w K mg base "_law_some_of" 1 ["_law_part"] j9)(C__law_stands:FnD P w K mg base "_law_stands" 2 ["_law_one", "_law_other", "_law_there"] zx0):FnOk P w K mg base CX0 3 fa fd ["_law_old", "_law_new"] (spN K wj0) :=
 okN (k:=2) (G:=q20) F Q6 (λcdv A outer s H E hr=>(v5 (P0 2 (zd0 (w6 (Z3 (w6 u6 (w6 u6 v8))) v8)) Q6.nd)
   (v5 (b7 u6 (p7 3 Q6.nd))
   (v5 (wo0 100000 C8 (j4 rd0 t50 (v4 3) (y30 (Q5 T.b_len (w6 (v4 2) v8))))
   (v5 (K4 (zb0 (vf0 (p6 (v4 2) (v4 3)))) (lz0 (xa0 4 5 Q6.nd (by decide))))
   (v5 (b7 (Y0 (v4 3) u6) (p7 3 Q6.nd))
   (v5 (za0 C8 rfl (ip0 T.b_zip (w6 (U7 C__law_some_of hr (by decide) (w6 (p6 (v4 0) (v4 4)) v8)) (w6 (U7 C__law_some_of hr (by decide) (w6 (p6 (v4 1) (v4 5)) v8)) v8))) (xa0 6 7 Q6.nd (by decide))
   (v5 (d7 (PWD.pt (vh0 (M3 (O4 M6 b_tuple T.b_isinstance T.b_tuple (v4 6))) (u30 (M3 (O4 M6 b_tuple T.b_isinstance T.b_tuple (v4 7))))))
   (v5 (d7 (PWD.pt (vh0 (w60 (j4 vn0 (sm0 true) (p6 (v4 6) u6) (N8 (sc:=t6 (top 37)) (N:=["_law_old", "_law_new", "_law_pairs", "_law_at", "_law_k", "_law_j", "_law_here", "_law_beside", "_law_bad", "_law_there"]) (N':=["_law_one"]) (n:=1) (caps:=[]) ⟨rfl,by decide +kernel,by decide +kernel,by decide +kernel,by decide +kernel,rfl,by decide +kernel⟩ (by decide) (U9 (v4 2)) (λcl s H ex=>p7 0 (by decide +kernel:(["_law_one"]:List Str).Nodup)) (λcl s H ex=>V5) (λcl s H ex=>(p6 (v4 0) u6))))) (u30 (w60 (j4 vn0 (sm0 true) (p6 (v4 7) u6) (N8 (sc:=t6 (top 37)) (N:=["_law_old", "_law_new", "_law_pairs", "_law_at", "_law_k", "_law_j", "_law_here", "_law_beside", "_law_bad", "_law_there"]) (N':=["_law_one"]) (n:=1) (caps:=[]) ⟨rfl,by decide +kernel,by decide +kernel,by decide +kernel,by decide +kernel,rfl,by decide +kernel⟩ (by decide) (U9 (v4 2)) (λcl s H ex=>p7 0 (by decide +kernel:(["_law_one"]:List Str).Nodup)) (λcl s H ex=>V5) (λcl s H ex=>(p6 (v4 0) u6))))))))
   (v5 (z00 (vs0 2 (Z3 (w6 (p6 (v4 6) u6) (w6 (p6 (v4 7) u6) v8)))))
   u9)
   u9)
   u9)
   u9)
   u9))
   u9))))
   (v5 (w40 2 (b7 (t40 (w6 (Z3 (w6 u6 (w6 u6 v8))) v8)) (p7 8 Q6.nd)))
   (v5 (wo0 100000 C8 (j4 (uy0 hr.units) ve0 (v4 8) (t40 v8))
   (v5 (b7 (PDF.pd (nq0 (U2 (Ab0 (by decide:2<=64) _) hr.units) rfl T.b_dict b_dict (N8 (sc:=t6 (top 37)) (N:=["_law_old", "_law_new", "_law_pairs", "_law_at", "_law_k", "_law_j", "_law_here", "_law_beside", "_law_bad", "_law_there"]) (N':=["_law_one"]) (n:=1) (caps:=[]) ⟨rfl,by decide +kernel,by decide +kernel,by decide +kernel,by decide +kernel,rfl,by decide +kernel⟩ (by decide) (U9 (v4 2)) (λcl s H ex=>p7 0 (by decide +kernel:(["_law_one"]:List Str).Nodup)) (λcl s H ex=>V5) (λcl s H ex=>(Z3 (w6 (v4 0) (w6 z90 v8))))))) (p7 9 Q6.nd))
   (v5 (b7 (N8 (sc:=t6 (top 37)) (N:=["_law_old", "_law_new", "_law_pairs", "_law_at", "_law_k", "_law_j", "_law_here", "_law_beside", "_law_bad", "_law_there"]) (N':=["_law_one", "_law_old", "_law_new", "_law_there"]) (n:=1) (caps:=[0,1,9]) ⟨rfl,by decide +kernel,by decide +kernel,by decide +kernel,by decide +kernel,rfl,by decide +kernel⟩ (by decide) (U9 (v4 2)) (λcl s H ex=>p7 0 (by decide +kernel:(["_law_one", "_law_old", "_law_new", "_law_there"]:List Str).Nodup)) (λcl s H ex=>(ur0 (ob0 (M3 (c7 C__law_stands hr (by decide) (w6 (p6 (v4 1) (p6 (v4 0) u6)) (w6 (p6 (v4 2) (p6 (v4 0) u6)) (w6 (v4 3) v8)))))))) (λcl s H ex=>(v4 0))) (p7 8 Q6.nd))
   (v5 (u00 2 Q6.nd (sc:=t6 (top 37)) (N:=["_law_old", "_law_new", "_law_pairs", "_law_at", "_law_k", "_law_j", "_law_here", "_law_beside", "_law_bad", "_law_there"]) (N':=["_law_one", "_law_bad"]) (n:=1) (caps:=[8]) ⟨rfl,by decide +kernel,by decide +kernel,by decide +kernel,by decide +kernel,rfl,by decide +kernel⟩ (by decide) (U9 (v4 2)) (λcl s H ex=>p7 0 (by decide +kernel:(["_law_one", "_law_bad"]:List Str).Nodup)) (λcl s H ex=>(ur0 (j4 (ac0 hr.units) (Yd0 true) (v4 0) (v4 1)))) (λcl s H ex=>(v4 0)))
   u9))))
   (v5 (R8 (ot0 T.b_sorted b_sorted (v4 2)))
   u9))))))) (λds d h=>y00 h)
theorem nw0:FnScope ["_law_found", "_law_due"] ["_law_found", "_law_due"] (t6 (top 38)):=⟨rfl,rfl,rfl,by decide +kernel,rfl,by decide +kernel,by decide +kernel⟩
theorem M4{fd:FuncData}(F:Fun K "_law_alike" "_law_alike" (top 38) fa fd)(T:Txt mg)(mp:List D->Option D)(kk:Nat)(C__law_alike:FnD P w K mg base "_law_alike" kk ["_law_found", "_law_due"] mp)  : FnOk P w K mg base CX0 (kk+1) fa fd ["_law_found", "_law_due"] (spD K (mkF 2 xv0 (zz0 mp))) :=
 okD (k:=kk) (G:=zz0 mp) F nw0 (λcdv A outer s H E hr=>(v5 (d7 (j4 fg0 je0 (v4 1) sw0)
   (v5 (m8 (s20 fg0 je0 (v4 0) sw0))
   u9)
   u9)
   (v5 (d7 (M3 (O4 if0 b_str T.b_isinstance T.b_str (v4 1)))
   (v5 (m8 (sv0 (O4 if0 b_str T.b_isinstance T.b_str (v4 0)) (qr0 (s20 V7 X7 (v4 0) (v4 1)))))
   u9)
   u9)
   (v5 (d7 (M3 (O4 ij0 b_int T.b_isinstance T.b_int (v4 1)))
   (v5 (m8 (sv0 (O4 ij0 b_int T.b_isinstance T.b_int (v4 0)) (sv0 (W00 (O4 cx0 b_bool T.b_isinstance T.b_bool (v4 0))) (qr0 (s20 V7 X7 (v4 0) (v4 1))))))
   u9)
   u9)
   (v5 (d7 (PWD.pt (ez0 (j4 m70 qs0 (O4 M6 b_tuple T.b_isinstance T.b_tuple (v4 0)) (O4 M6 b_tuple T.b_isinstance T.b_tuple (v4 1))) (ia0 (j4 m70 qs0 (O4 k50 b_list T.b_isinstance T.b_list (v4 0)) (O4 k50 b_list T.b_isinstance T.b_list (v4 1))))))
   (v5 (m8 z90)
   u9)
   u9)
   (v5 (m8 (sv0 (s20 V7 X7 (Q5 T.b_len (w6 (v4 0) v8)) (Q5 T.b_len (w6 (v4 1) v8))) (qr0 (tj0 (cn0 rfl) V50 T.b_all b_all (w6 (N8 (sc:=t6 (top 38)) (N:=["_law_found", "_law_due"]) (N':=["_law_k", "_law_found", "_law_due"]) (n:=1) (caps:=[0,1]) ⟨rfl,by decide +kernel,by decide +kernel,by decide +kernel,by decide +kernel,rfl,by decide +kernel⟩ (by decide) (G8 T.b_range (w6 (Q5 T.b_len (w6 (v4 1) v8)) v8)) (λcl s H ex=>p7 0 (by decide +kernel:(["_law_k", "_law_found", "_law_due"]:List Str).Nodup)) (λcl s H ex=>V5) (λcl s H ex=>(c7 C__law_alike hr (A2 _) (w6 (p6 (v4 1) (v4 0)) (w6 (p6 (v4 2) (v4 0)) v8))))) v8)))))
   u9)))))) (λds d h=>T6 h)
theorem ty0:FnScope ["_law_script", "_law_old", "_law_new", "_law_due", "_law_found", "_law_whole"] ["_law_script"] (t6 (top 39)):=⟨rfl,rfl,rfl,by decide +kernel,rfl,by decide +kernel,by decide +kernel⟩
theorem Wh0{fd:FuncData}(F:Fun K "law" "law" (top 39) fa fd)(T:Txt mg)(C__law_alike:FnD P w K mg base "_law_alike" 8 ["_law_found", "_law_due"] T7)(C__law_drawn:FnD P w K mg base "_law_drawn" 64 ["_law_web", "_law_at"] J2)(C__law_stay:FnN P w K mg base "_law_stay" 3 ["_law_old", "_law_new"] wj0)(C__law_two:FnD P w K mg base "_law_two" 5 ["_law_script"] v60)(C_stay:FnN P w K mg base "stay" 6 ["old", "new"] t70):FnOk P w K mg base CX0 65 fa fd ["_law_script"] (spD K re0) :=
 okD (k:=64) (G:=bm0) F ty0 (λcdv A outer s H E hr=>(v5 (K4 (zb0 (c7 C__law_two hr (by decide) (w6 (v4 0) v8))) (lz0 (xa0 1 2 ty0.nd (by decide))))
   (v5 (b7 (U7 C__law_stay hr (by decide) (w6 (c7 C__law_drawn hr (by decide) (w6 (v4 1) (w6 u6 v8))) (w6 (c7 C__law_drawn hr (by decide) (w6 (v4 2) (w6 u6 v8))) v8))) (p7 3 ty0.nd))
   (v5 (P0 4 (sr0 C_stay hr (by decide) (w6 (v4 1) (w6 (v4 2) v8))) ty0.nd)
   (v5 (d7 (ob0 (M3 (vf0 (c7 C__law_alike hr (by decide) (w6 (v4 4) (w6 (v4 3) v8))))))
   (v5 (m8 z90)
   u9)
   u9)
   (v5 (z00 (vs0 4 (Z3 (w6 u6 (w6 u6 v8)))))
   (v5 (d7 (ob0 (M3 (c7 C__law_alike hr (by decide) (w6 (U7 C_stay hr (by decide) (w6 (v4 1) (w6 (v4 2) v8))) (w6 (v4 3) v8)))))
   (v5 (m8 z90)
   u9)
   u9)
   (v5 (b7 (c7 C__law_drawn hr (by decide) (w6 (v4 1) (w6 u6 v8))) (p7 5 ty0.nd))
   (v5 (m8 (c7 C__law_alike hr (by decide) (w6 (U7 C_stay hr (by decide) (w6 (v4 1) (w6 (v4 1) v8))) (w6 (N8 (sc:=t6 (top 39)) (N:=["_law_script", "_law_old", "_law_new", "_law_due", "_law_found", "_law_whole"]) (N':=["_law_k"]) (n:=1) (caps:=[]) ⟨rfl,by decide +kernel,by decide +kernel,by decide +kernel,by decide +kernel,rfl,by decide +kernel⟩ (by decide) (G8 T.b_range (w6 (Q5 T.b_len (w6 (v4 5) v8)) v8)) (λcl s H ex=>p7 0 (by decide +kernel:(["_law_k"]:List Str).Nodup)) (λcl s H ex=>V5) (λcl s H ex=>(Z3 (w6 (v4 0) (w6 (v4 0) v8))))) v8))))
   u9))))))))) (λds d h=>T6 h)
end
theorem us1:∀{us:List α},us.length=1->∃a,us=[a]
 | [a],_=>⟨a,rfl⟩
theorem us2:∀{us:List α},us.length=2->∃a b,us=[a,b]
 | [a,b],_=>⟨a,b,rfl⟩
theorem us3:∀{us:List α},us.length=3->∃a b c,us=[a,b,c]
 | [a,b,c],_=>⟨a,b,c,rfl⟩
theorem us4:∀{us:List α},us.length=4->∃a b c d,us=[a,b,c,d]
 | [a,b,c,d],_=>⟨a,b,c,d,rfl⟩
def Hd(K:W.Frag)(x:Str)(st:Stmt):Prop:=∃f fd,Fun K x x st f fd/\W.nsIn K mainGlobals x=some (some (.ref f))
theorem V2{f:Addr}{kV:Value}(a:W.nsIn K mainGlobals x=some (some (.ref f)))(l:K.lookup f=some ⟨oc,od,.func (W.fnOf x x (S9 st) (W6 st) (t6 st) .none kV doc pm an cdv ct),osl⟩)(c:W.codeIn K cdv x=true)(k:W.keepIn K (.ref f)=true):Hd K x st:=⟨f,_,ev0 l c k,a⟩
section
variable(P9:Program)(w9:World)(b9:Heap){h:Heap}{f:Addr}{fd:FuncData}{m:List D->Option D}(X9:K.In h)(G9:h.Ns mainGlobals mg)(F9:Fun K x x st f fd)(a9:W.nsIn K mainGlobals x=some (some (.ref f)))
include X9 G9 F9 a9
theorem cD1(o:FnOk P9 w9 K mg b9 CX0 n f fd ps (spD K m))(hl:ps.length=1)(b:∀(kV doc pm:Value) (an:Option Addr) (cdv ct u:Value),bindArgs (W.fnOf x x (S9 st) (W6 st) (t6 st) .none kV doc pm an cdv ct) ⟨[u],[]⟩=pure (ps.zip [u])):FnD P9 w9 K mg b9 x n ps m:=⟨f,fd,o,C2 X9 G9 a9,F9.kp,F9.binds λ_ _ _ _ _ _ us h=>by obtain⟨u,rfl⟩:=us1 (h.trans hl);exact b _ _ _ _ _ _ _⟩
theorem cD2(o:FnOk P9 w9 K mg b9 CX0 n f fd ps (spD K m))(hl:ps.length=2)(b:∀(kV doc pm:Value) (an:Option Addr) (cdv ct u v:Value),bindArgs (W.fnOf x x (S9 st) (W6 st) (t6 st) .none kV doc pm an cdv ct) ⟨[u,v],[]⟩=pure (ps.zip [u,v])):FnD P9 w9 K mg b9 x n ps m:=⟨f,fd,o,C2 X9 G9 a9,F9.kp,F9.binds λ_ _ _ _ _ _ us h=>by obtain⟨u,v,rfl⟩:=us2 (h.trans hl);exact b _ _ _ _ _ _ _ _⟩
theorem cD3(o:FnOk P9 w9 K mg b9 CX0 n f fd ps (spD K m))(hl:ps.length=3)(b:∀(kV doc pm:Value) (an:Option Addr) (cdv ct u v w:Value),bindArgs (W.fnOf x x (S9 st) (W6 st) (t6 st) .none kV doc pm an cdv ct) ⟨[u,v,w],[]⟩=pure (ps.zip [u,v,w])):FnD P9 w9 K mg b9 x n ps m:=⟨f,fd,o,C2 X9 G9 a9,F9.kp,F9.binds λ_ _ _ _ _ _ us h=>by obtain⟨u,v,w,rfl⟩:=us3 (h.trans hl);exact b _ _ _ _ _ _ _ _ _⟩
theorem cD4(o:FnOk P9 w9 K mg b9 CX0 n f fd ps (spD K m))(hl:ps.length=4)(b:∀(kV doc pm:Value) (an:Option Addr) (cdv ct u v w y:Value),bindArgs (W.fnOf x x (S9 st) (W6 st) (t6 st) .none kV doc pm an cdv ct) ⟨[u,v,w,y],[]⟩=pure (ps.zip [u,v,w,y])):FnD P9 w9 K mg b9 x n ps m:=⟨f,fd,o,C2 X9 G9 a9,F9.kp,F9.binds λ_ _ _ _ _ _ us h=>by obtain⟨u,v,w,y,rfl⟩:=us4 (h.trans hl);exact b _ _ _ _ _ _ _ _ _ _⟩
theorem cN1(o:FnOk P9 w9 K mg b9 CX0 n f fd ps (spN K m))(hl:ps.length=1)(b:∀(kV doc pm:Value) (an:Option Addr) (cdv ct u:Value),bindArgs (W.fnOf x x (S9 st) (W6 st) (t6 st) .none kV doc pm an cdv ct) ⟨[u],[]⟩=pure (ps.zip [u])):FnN P9 w9 K mg b9 x n ps m:=⟨f,fd,o,C2 X9 G9 a9,F9.kp,F9.binds λ_ _ _ _ _ _ us h=>by obtain⟨u,rfl⟩:=us1 (h.trans hl);exact b _ _ _ _ _ _ _⟩
theorem cN2(o:FnOk P9 w9 K mg b9 CX0 n f fd ps (spN K m))(hl:ps.length=2)(b:∀(kV doc pm:Value) (an:Option Addr) (cdv ct u v:Value),bindArgs (W.fnOf x x (S9 st) (W6 st) (t6 st) .none kV doc pm an cdv ct) ⟨[u,v],[]⟩=pure (ps.zip [u,v])):FnN P9 w9 K mg b9 x n ps m:=⟨f,fd,o,C2 X9 G9 a9,F9.kp,F9.binds λ_ _ _ _ _ _ us h=>by obtain⟨u,v,rfl⟩:=us2 (h.trans hl);exact b _ _ _ _ _ _ _ _⟩
theorem cN3(o:FnOk P9 w9 K mg b9 CX0 n f fd ps (spN K m))(hl:ps.length=3)(b:∀(kV doc pm:Value) (an:Option Addr) (cdv ct u v w:Value),bindArgs (W.fnOf x x (S9 st) (W6 st) (t6 st) .none kV doc pm an cdv ct) ⟨[u,v,w],[]⟩=pure (ps.zip [u,v,w])):FnN P9 w9 K mg b9 x n ps m:=⟨f,fd,o,C2 X9 G9 a9,F9.kp,F9.binds λ_ _ _ _ _ _ us h=>by obtain⟨u,v,w,rfl⟩:=us3 (h.trans hl);exact b _ _ _ _ _ _ _ _ _⟩
end
theorem all_mk{l:W.OpenLaw}{w:World}{h:Heap}(X:K.In h)(G:h.Ns mainGlobals mg)(hfa:mg "law"=some (.ref fa))
  {f5 f8 f35:Addr}
  {od5 an5 od8 an8 od35 an35:Option Addr} {sl5 sl8 sl35:Array (Option Value)} {oc5 kV5 dc5 pm5 cd5 ct5 oc8 kV8 dc8 pm8 cd8 ct8 oc35 kV35 dc35 pm35 cd35 ct35:Value}
  (h0:Hd K "pair_names" (top 1))
  (h1:Hd K "head" (top 2))
  (h2:Hd K "values" (top 3))
  (h3:Hd K "with_values" (top 4))
  (h4:Hd K "links" (top 5))
  {T5:Addr} {tc5:Value} {td5:Option Addr} {tn5:Nat} {ts5:Array (Option Value)} {tt5_0:Tok}
  (a5:W.nsIn K mainGlobals "met"=some (some (.ref f5))) (l5:K.lookup f5=some ⟨oc5,od5,.func (W.fnOf "met" "met" (S9 (top 6)) (W6 (top 6)) (t6 (top 6)) (.ref T5) kV5 dc5 pm5 an5 cd5 ct5),sl5⟩) (c5:W.codeIn K cd5 "met"=true) (k5:W.keepIn K (.ref f5)=true)
  (t5:K.lookup T5=some ⟨tc5,td5,.seq #[.int 0 tt5_0] tn5,ts5⟩)
  (h6:Hd K "met_but" (top 7))
  (h7:Hd K "relinked" (top 8))
  {T8:Addr} {tc8:Value} {td8:Option Addr} {tn8:Nat} {ts8:Array (Option Value)} {tt8_0:Tok}
  (a8:W.nsIn K mainGlobals "drawn"=some (some (.ref f8))) (l8:K.lookup f8=some ⟨oc8,od8,.func (W.fnOf "drawn" "drawn" (S9 (top 9)) (W6 (top 9)) (t6 (top 9)) (.ref T8) kV8 dc8 pm8 an8 cd8 ct8),sl8⟩) (c8:W.codeIn K cd8 "drawn"=true) (k8:W.keepIn K (.ref f8)=true)
  (t8:K.lookup T8=some ⟨tc8,td8,.seq #[.int 0 tt8_0] tn8,ts8⟩)
  (h9:Hd K "are_links" (top 11))
  (h10:Hd K "linked_pair" (top 12))
  (h11:Hd K "is_upheld" (top 13))
  (h12:Hd K "stay" (top 15))
  (h13:Hd K "walked_pairs" (top 16))
  (h14:Hd K "upheld_pairs" (top 17))
  (h15:Hd K "_law_cell_at" (top 19))
  (h16:Hd K "_law_mix" (top 20))
  (h17:Hd K "_law_pool" (top 21))
  (h18:Hd K "_law_one_value" (top 22))
  (h19:Hd K "_law_drawn_part" (top 23))
  (h20:Hd K "_law_built" (top 24))
  (h21:Hd K "_law_links" (top 25))
  (h22:Hd K "_law_come" (top 26))
  (h23:Hd K "_law_led" (top 27))
  (h24:Hd K "_law_drawn" (top 28))
  (h25:Hd K "_law_some_of" (top 29))
  (h26:Hd K "_law_with" (top 30))
  (h27:Hd K "_law_headed" (top 31))
  (h28:Hd K "_law_changed" (top 32))
  (h29:Hd K "_law_renumbered" (top 33))
  (h30:Hd K "_law_two" (top 34))
  (h31:Hd K "_law_head" (top 35))
  (h32:Hd K "_law_stands" (top 36))
  (h33:Hd K "_law_stay" (top 37))
  (h34:Hd K "_law_alike" (top 38))
  (a35:W.nsIn K mainGlobals "law"=some (some (.ref f35))) (l35:K.lookup f35=some ⟨oc35,od35,.func (W.fnOf "law" "law" (S9 (top 39)) (W6 (top 39)) (t6 (top 39)) .none kV35 dc35 pm35 an35 cd35 ct35),sl35⟩) (c35:W.codeIn K cd35 "law"=true) (k35:W.keepIn K (.ref f35)=true)
  (z_all:W.nsIn K mainGlobals "all"=some none)
  (z_bool:W.nsIn K mainGlobals "bool"=some none)
  (z_dict:W.nsIn K mainGlobals "dict"=some none)
  (z_enumerate:W.nsIn K mainGlobals "enumerate"=some none)
  (z_int:W.nsIn K mainGlobals "int"=some none)
  (z_isinstance:W.nsIn K mainGlobals "isinstance"=some none)
  (z_len:W.nsIn K mainGlobals "len"=some none)
  (z_list:W.nsIn K mainGlobals "list"=some none)
  (z_range:W.nsIn K mainGlobals "range"=some none)
  (z_reversed:W.nsIn K mainGlobals "reversed"=some none)
  (z_sorted:W.nsIn K mainGlobals "sorted"=some none)
  (z_str:W.nsIn K mainGlobals "str"=some none)
  (z_tuple:W.nsIn K mainGlobals "tuple"=some none)
  (z_zip:W.nsIn K mainGlobals "zip"=some none)
  : ∃fd:FuncData,(∀(s:Shared) (v:Value),BindsTo s fd ⟨[v],[]⟩ [("_law_script",v)])/\∀base:Heap,K.In base->base.Ns mainGlobals mg->FnOk l.prog w K mg base CX0 65 fa fd ["_law_script"] (spD K re0):=by
 have e:=hfa.symm.trans (C2 X G a35);cases e;have T:Txt mg:=⟨D3 X G z_all,D3 X G z_bool,D3 X G z_dict,D3 X G z_enumerate,D3 X G z_int,D3 X G z_isinstance,D3 X G z_len,D3 X G z_list,D3 X G z_range,D3 X G z_reversed,D3 X G z_sorted,D3 X G z_str,D3 X G z_tuple,D3 X G z_zip⟩;obtain⟨f0,g0,F0,a0⟩:=h0;obtain⟨f1,g1,F1,a1⟩:=h1;obtain⟨f2,g2,F2,a2⟩:=h2;obtain⟨f3,g3,F3,a3⟩:=h3;obtain⟨f4,g4,F4,a4⟩:=h4;have F5:=jo0 (st:=top 6) l5 c5 k5;obtain⟨f6,g6,F6,a6⟩:=h6;obtain⟨f7,g7,F7,a7⟩:=h7;have F8:=jo0 (st:=top 9) l8 c8 k8;obtain⟨f9,g9,F9,a9⟩:=h9;obtain⟨f10,g10,F10,a10⟩:=h10;obtain⟨f11,g11,F11,a11⟩:=h11;obtain⟨f12,g12,F12,a12⟩:=h12;obtain⟨f13,g13,F13,a13⟩:=h13;obtain⟨f14,g14,F14,a14⟩:=h14;obtain⟨f15,g15,F15,a15⟩:=h15;obtain⟨f16,g16,F16,a16⟩:=h16;obtain⟨f17,g17,F17,a17⟩:=h17;obtain⟨f18,g18,F18,a18⟩:=h18;obtain⟨f19,g19,F19,a19⟩:=h19;obtain⟨f20,g20,F20,a20⟩:=h20;obtain⟨f21,g21,F21,a21⟩:=h21;obtain⟨f22,g22,F22,a22⟩:=h22;obtain⟨f23,g23,F23,a23⟩:=h23;obtain⟨f24,g24,F24,a24⟩:=h24;obtain⟨f25,g25,F25,a25⟩:=h25;obtain⟨f26,g26,F26,a26⟩:=h26;obtain⟨f27,g27,F27,a27⟩:=h27;obtain⟨f28,g28,F28,a28⟩:=h28;obtain⟨f29,g29,F29,a29⟩:=h29;obtain⟨f30,g30,F30,a30⟩:=h30;obtain⟨f31,g31,F31,a31⟩:=h31;obtain⟨f32,g32,F32,a32⟩:=h32;obtain⟨f33,g33,F33,a33⟩:=h33;obtain⟨f34,g34,F34,a34⟩:=h34;have F35:=ev0 (st:=top 39) l35 c35 k35;refine⟨W.fnOf "law" "law" (S9 (top 39)) (W6 (top 39)) (t6 (top 39)) .none kV35 dc35 pm35 an35 cd35 ct35,λs v=>.of_eq rfl,λbase _ _=>?_⟩;have C_pair_names:=cN1 l.prog w base X G F0 a0 (nu0 F0 T) rfl (by intros;rfl);have C_values:=cN1 l.prog w base X G F2 a2 (eb0 F2 T) rfl (by intros;rfl);have C_are_links:=cD1 l.prog w base X G F9 a9 (le0 F9 T) rfl (by intros;rfl);have C_linked_pair:=cD1 l.prog w base X G F10 a10 (o50 F10 T) rfl (by intros;rfl);have C__law_cell_at:=cD2 l.prog w base X G F15 a15 (qz0 F15 T) rfl (by intros;rfl);have C__law_mix:=cD2 l.prog w base X G F16 a16 (j20 F16 T) rfl (by intros;rfl);have C__law_links:=cN1 l.prog w base X G F21 a21 (ny0 F21 T) rfl (by intros;rfl);have C__law_led:=cD2 l.prog w base X G F23 a23 (jb0 F23 T) rfl (by intros;rfl);have C__law_some_of:=cN1 l.prog w base X G F25 a25 (qp0 F25 T) rfl (by intros;rfl);have C__law_with:=cD2 l.prog w base X G F26 a26 (mw0 F26 T) rfl (by intros;rfl);have C__law_head:=cD1 l.prog w base X G F31 a31 (me0 F31 T) rfl (by intros;rfl);have C_head:=cD1 l.prog w base X G F1 a1 (Zf0 F1 T C_pair_names) rfl (by intros;rfl);have C_with_values:=cD2 l.prog w base X G F3 a3 (ps0 F3 T C_pair_names) rfl (by intros;rfl);have C_links:=cN1 l.prog w base X G F4 a4 (cq0 F4 T C_values) rfl (by intros;rfl);have C_walked_pairs:=cN2 l.prog w base X G F13 a13 (qw0 F13 T C_are_links C_linked_pair C_values) rfl (by intros;rfl);have C__law_pool:=cN2 l.prog w base X G F17 a17 (mx0 F17 T C__law_mix) rfl (by intros;rfl);have C__law_one_value:=cD3 l.prog w base X G F18 a18 (q10 F18 T C__law_mix) rfl (by intros;rfl);have C__law_headed:=cD3 l.prog w base X G F27 a27 (pz0 F27 T C__law_mix) rfl (by intros;rfl);have C__law_renumbered:=cD2 l.prog w base X G F29 a29 (sk0 F29 T C__law_led C__law_mix C__law_some_of C__law_with) rfl (by intros;rfl);have C__law_stands:=cD3 l.prog w base X G F32 a32 (oe0 F32 T C__law_head C__law_some_of) rfl (by intros;rfl);have C_met_but:=cN3 l.prog w base X G F6 a6 (gh0 F6 T C_links) rfl (by intros;rfl);have C_relinked:=cD2 l.prog w base X G F7 a7 (j90 F7 T C_values C_with_values) rfl (by intros;rfl);have C_is_upheld:=cD4 l.prog w base X G F11 a11 (ka0 F11 T C_are_links C_head C_linked_pair C_values) rfl (by intros;rfl);have C__law_drawn_part:=cD3 l.prog w base X G F19 a19 (tz0 F19 T C__law_mix C__law_one_value) rfl (by intros;rfl);have C__law_changed:=cD3 l.prog w base X G F28 a28 (p60 F28 T C__law_headed C__law_mix C__law_one_value C__law_some_of C__law_with) rfl (by intros;rfl);have C__law_stay:=cN2 l.prog w base X G F33 a33 (lv0 F33 T C__law_some_of C__law_stands) rfl (by intros;rfl);have C_met:FnN l.prog w K mg base "met" 4 ["web", "k"] v20:=⟨f5,_,fp0 F5 T C_met_but,C2 X G a5,k5,λs us X hl=>match us,hl with|[_,_],_=>t9 X rfl t5 rfl rfl rfl⟩;have Cd_met:Te0 l.prog w K mg base "met" 4 ["web", "k"] v20 [(.int 0)]:=⟨f5,_,[.int 0 tt5_0],[.int 0],fp0 F5 T C_met_but,C2 X G a5,k5,λs us X hl=>by obtain⟨u0,rfl⟩:=us1 (show us.length=1 by rw[List.length_append] at hl;simpa using hl);exact t9 X rfl t5 rfl rfl rfl,by repeat (first|exact .nil|refine .cons (by first|exact⟨_,rfl⟩|rfl) ?_),λH B=>by simp[o6,o8,m9,V6]⟩;have C_upheld_pairs:=cN3 l.prog w base X G F14 a14 (pn0 F14 T C_is_upheld) rfl (by intros;rfl);have C__law_built:=cD3 l.prog w base X G F20 a20 (nt0 F20 T C__law_cell_at C__law_drawn_part C__law_mix C__law_pool) rfl (by intros;rfl);have C_drawn:FnD l.prog w K mg base "drawn" 5 ["web", "k"] yf0:=⟨f8,_,l80 F8 T C_met C_relinked,C2 X G a8,k8,λs us X hl=>match us,hl with|[_,_],_=>t9 X rfl t8 rfl rfl rfl⟩;have Cd_drawn:cd0 l.prog w K mg base "drawn" 5 ["web", "k"] yf0 [(.int 0)]:=⟨f8,_,[.int 0 tt8_0],[.int 0],l80 F8 T C_met C_relinked,C2 X G a8,k8,λs us X hl=>by obtain⟨u0,rfl⟩:=us1 (show us.length=1 by rw[List.length_append] at hl;simpa using hl);exact t9 X rfl t8 rfl rfl rfl,by repeat (first|exact .nil|refine .cons (by first|exact⟨_,rfl⟩|rfl) ?_),λH B=>by simp[o6,o8,m9,V6]⟩;have C__law_two:=cD1 l.prog w base X G F30 a30 (kx0 F30 T C__law_built C__law_cell_at C__law_changed C__law_mix C__law_pool C__law_renumbered) rfl (by intros;rfl);have C_stay:=cN2 l.prog w base X G F12 a12 (Zw0 F12 T C_upheld_pairs C_walked_pairs Cd_drawn) rfl (by intros;rfl);have C__law_alike_0:FnD l.prog w K mg base "_law_alike" 0 ["_law_found", "_law_due"] (Z4 0):=⟨f34,g34,gm0,C2 X G a34,F34.kp,F34.binds (ps:=["_law_found", "_law_due"]) λ_ _ _ _ _ _ us hl=>by obtain⟨_,_,rfl⟩:=us2 hl;rfl⟩;have C__law_alike_1:FnD l.prog w K mg base "_law_alike" 1 ["_law_found", "_law_due"] (Z4 1):=⟨f34,_,M4 F34 T _ 0 C__law_alike_0 ,C2 X G a34,F34.kp,F34.binds (ps:=["_law_found", "_law_due"]) λ_ _ _ _ _ _ us hl=>by obtain⟨_,_,rfl⟩:=us2 hl;rfl⟩;have C__law_alike_2:FnD l.prog w K mg base "_law_alike" 2 ["_law_found", "_law_due"] (Z4 2):=⟨f34,_,M4 F34 T _ 1 C__law_alike_1 ,C2 X G a34,F34.kp,F34.binds (ps:=["_law_found", "_law_due"]) λ_ _ _ _ _ _ us hl=>by obtain⟨_,_,rfl⟩:=us2 hl;rfl⟩;have C__law_alike_3:FnD l.prog w K mg base "_law_alike" 3 ["_law_found", "_law_due"] (Z4 3):=⟨f34,_,M4 F34 T _ 2 C__law_alike_2 ,C2 X G a34,F34.kp,F34.binds (ps:=["_law_found", "_law_due"]) λ_ _ _ _ _ _ us hl=>by obtain⟨_,_,rfl⟩:=us2 hl;rfl⟩;have C__law_alike_4:FnD l.prog w K mg base "_law_alike" 4 ["_law_found", "_law_due"] (Z4 4):=⟨f34,_,M4 F34 T _ 3 C__law_alike_3 ,C2 X G a34,F34.kp,F34.binds (ps:=["_law_found", "_law_due"]) λ_ _ _ _ _ _ us hl=>by obtain⟨_,_,rfl⟩:=us2 hl;rfl⟩;have C__law_alike_5:FnD l.prog w K mg base "_law_alike" 5 ["_law_found", "_law_due"] (Z4 5):=⟨f34,_,M4 F34 T _ 4 C__law_alike_4 ,C2 X G a34,F34.kp,F34.binds (ps:=["_law_found", "_law_due"]) λ_ _ _ _ _ _ us hl=>by obtain⟨_,_,rfl⟩:=us2 hl;rfl⟩;have C__law_alike_6:FnD l.prog w K mg base "_law_alike" 6 ["_law_found", "_law_due"] (Z4 6):=⟨f34,_,M4 F34 T _ 5 C__law_alike_5 ,C2 X G a34,F34.kp,F34.binds (ps:=["_law_found", "_law_due"]) λ_ _ _ _ _ _ us hl=>by obtain⟨_,_,rfl⟩:=us2 hl;rfl⟩;have C__law_alike_7:FnD l.prog w K mg base "_law_alike" 7 ["_law_found", "_law_due"] (Z4 7):=⟨f34,_,M4 F34 T _ 6 C__law_alike_6 ,C2 X G a34,F34.kp,F34.binds (ps:=["_law_found", "_law_due"]) λ_ _ _ _ _ _ us hl=>by obtain⟨_,_,rfl⟩:=us2 hl;rfl⟩;have C__law_alike_8:FnD l.prog w K mg base "_law_alike" 8 ["_law_found", "_law_due"] (Z4 8):=⟨f34,_,M4 F34 T _ 7 C__law_alike_7 ,C2 X G a34,F34.kp,F34.binds (ps:=["_law_found", "_law_due"]) λ_ _ _ _ _ _ us hl=>by obtain⟨_,_,rfl⟩:=us2 hl;rfl⟩;have C__law_alike:FnD l.prog w K mg base "_law_alike" 8 ["_law_found", "_law_due"] T7:=C__law_alike_8;have CM__law_come:∀q,FnM l.prog w K mg base "_law_come" (1+q) ["_law_web", "_law_at", "_law_found"] false (j8 q):=by
  intro q
  induction q with
  | zero=>exact⟨f22,g22,ja0 xw0,C2 X G a22,F22.kp,F22.binds (ps:=["_law_web", "_law_at", "_law_found"]) λ_ _ _ _ _ _ us hl=>by obtain⟨_,_,_,rfl⟩:=us3 hl;rfl⟩
  | succ q ih=>exact⟨f22,_,mh0 F22 T _ _ (1+q) (B2 _ _) ih C__law_links (wu0 q),C2 X G a22,F22.kp,F22.binds (ps:=["_law_web", "_law_at", "_law_found"]) λ_ _ _ _ _ _ us hl=>by obtain⟨_,_,_,rfl⟩:=us3 hl;rfl⟩
 have C__law_come:FnM l.prog w K mg base "_law_come" 63 ["_law_web", "_law_at", "_law_found"] false S7:=CM__law_come 62;have C__law_drawn:=cD2 l.prog w base X G F24 a24 (ns0 F24 T C__law_come C__law_led) rfl (by intros;rfl);exact Wh0 F35 T C__law_alike C__law_drawn C__law_stay C__law_two C_stay
theorem lp0:∀ns:List Int,Rps K H B (ns.map D.int) (ns.map V.int)
 | []=>by rw[List.map_nil,List.map_nil,o8]
 | n::ns=>by
  rw[List.map_cons,List.map_cons,o6];exact⟨_,_,rfl,by rw[m9],lp0 ns⟩
theorem da0{ns:List Int}(hS:SqL K H a (ns.map V.int))(hm:re0 [.lst (ns.map .int)]=some (.bl true)):spD K re0 [.ref a] H (λv _=>v=.bl true) λ_ _ _=>False:=by
 refine⟨λ_=>False,[.lst (ns.map .int)],.bl true,λ_ z=>z.elim,?_,hm,λv H' _ r=>by rw[X5] at r;exact r⟩;rw[o6];refine⟨_,[],rfl,?_,by rw[o8]⟩;rw[Y6];refine⟨a,ns.map V.int,rfl,?_,lp0 ns⟩;rcases hS with h|h
 ·exact .inl ⟨λz=>z,h⟩
 ·exact .inr (.inr h)
end Va
open PySem.W PyProof.Rows
theorem PySem.W.Fast.tw1351929100518393925:True:=trivial
theorem PySem.W.Fast.tw1037332508192559049:True:=trivial
theorem PySem.W.Fast.tw2509128569429417920:True:=trivial
theorem PySem.W.Fast.tw10373827031790731638:True:=trivial
theorem PySem.W.Fast.tw8919340846698747457:True:=trivial
theorem PySem.W.Fast.tw16635236252754307771:True:=trivial
theorem PySem.W.Fast.tw4168732258385184042:True:=trivial
theorem PySem.W.Fast.tw3357507936094386715:True:=trivial
theorem PySem.W.Fast.tw18410591305613493252:True:=trivial
theorem PySem.W.Fast.tw3501568846590772086:True:=trivial
theorem PySem.W.Fast.tw9083390798444156375:True:=trivial
theorem PySem.W.Fast.tw6958631174960568422:True:=trivial
theorem PySem.W.Fast.tw6663946973154648635:True:=trivial
theorem PySem.W.Fast.tw15127931117445320564:True:=trivial
theorem PySem.W.Fast.tw6131859692280431235:True:=trivial
theorem PySem.W.Fast.tw10635837848558131146:True:=trivial
theorem PySem.W.Fast.tw4903753724701603043:True:=trivial
theorem PySem.W.Fast.tw12105223097222934435:True:=trivial
theorem PySem.W.Fast.tw5666348561265005848:True:=trivial
theorem PySem.W.Fast.tw5359242765588440803:True:=trivial
theorem PySem.W.Fast.tw17847435102794446896:True:=trivial
theorem PySem.W.Fast.tw9649454248260005202:True:=trivial
theorem PySem.W.Fast.tw13701291664417054659:True:=trivial
theorem PySem.W.Fast.tw16884603634724067631:True:=trivial
theorem PySem.W.Fast.tw8237899481931877424:True:=trivial
theorem PySem.W.Fast.tw2313281538242072441:True:=trivial
theorem PySem.W.Fast.tw7431661487351569152:True:=trivial
theorem PySem.W.Fast.tw5939598278295033325:True:=trivial
theorem PySem.W.Fast.tw8416700948236479468:True:=trivial
theorem PySem.W.Fast.tw12173782579035571960:True:=trivial
set_option maxRecDepth 100000 in
theorem PySem.Challenge.cw_graphpack_k44_what_stays_holds : PySem.Challenge.rw_graphpack_k44_what_stays.Holds := by
 w_on;o_law;k_head;(case hw=>w_witness2)
 k_fill
 refine L2.b20 (l:=PySem.Challenge.rw_graphpack_k44_what_stays) (n:=63) (k:=65) (x := "_law_script") (CX:=L2.CX0) (sp:=λK=>DL.spD K Va.re0) rfl (by decide) rfl ⟨rfl,by decide,by decide⟩ (λw h Y=>W.kIn_of Y) ?F ?S ?C
 case F =>
  intro w mg fa h KX G hmg;refine' Va.all_mk KX G hmg ?h0 ?h1 ?h2 ?h3 ?h4 ?a5 ?l5 ?c5 ?k5 ?t5 ?h6 ?h7 ?a8 ?l8 ?c8 ?k8 ?t8 ?h9 ?h10 ?h11 ?h12 ?h13 ?h14 ?h15 ?h16 ?h17 ?h18 ?h19 ?h20 ?h21 ?h22 ?h23 ?h24 ?h25 ?h26 ?h27 ?h28 ?h29 ?h30 ?h31 ?h32 ?h33 ?h34 ?a35 ?l35 ?c35 ?k35 ?z_all ?z_bool ?z_dict ?z_enumerate ?z_int ?z_isinstance ?z_len ?z_list ?z_range ?z_reversed ?z_sorted ?z_str ?z_tuple ?z_zip
  (case h0=>exact Va.V2 (by k_is) (by k_is) (by k_is) (by k_is))
  (case h1=>exact Va.V2 (by k_is) (by k_is) (by k_is) (by k_is))
  (case h2=>exact Va.V2 (by k_is) (by k_is) (by k_is) (by k_is))
  (case h3=>exact Va.V2 (by k_is) (by k_is) (by k_is) (by k_is))
  (case h4=>exact Va.V2 (by k_is) (by k_is) (by k_is) (by k_is))
  (case a5=>k_is)
  (case l5=>k_is)
  (case c5=>k_is)
  (case k5=>k_is)
  (case t5=>k_is)
  (case h6=>exact Va.V2 (by k_is) (by k_is) (by k_is) (by k_is))
  (case h7=>exact Va.V2 (by k_is) (by k_is) (by k_is) (by k_is))
  (case a8=>k_is)
  (case l8=>k_is)
  (case c8=>k_is)
  (case k8=>k_is)
  (case t8=>k_is)
  (case h9=>exact Va.V2 (by k_is) (by k_is) (by k_is) (by k_is))
  (case h10=>exact Va.V2 (by k_is) (by k_is) (by k_is) (by k_is))
  (case h11=>exact Va.V2 (by k_is) (by k_is) (by k_is) (by k_is))
  (case h12=>exact Va.V2 (by k_is) (by k_is) (by k_is) (by k_is))
  (case h13=>exact Va.V2 (by k_is) (by k_is) (by k_is) (by k_is))
  (case h14=>exact Va.V2 (by k_is) (by k_is) (by k_is) (by k_is))
  (case h15=>exact Va.V2 (by k_is) (by k_is) (by k_is) (by k_is))
  (case h16=>exact Va.V2 (by k_is) (by k_is) (by k_is) (by k_is))
  (case h17=>exact Va.V2 (by k_is) (by k_is) (by k_is) (by k_is))
  (case h18=>exact Va.V2 (by k_is) (by k_is) (by k_is) (by k_is))
  (case h19=>exact Va.V2 (by k_is) (by k_is) (by k_is) (by k_is))
  (case h20=>exact Va.V2 (by k_is) (by k_is) (by k_is) (by k_is))
  (case h21=>exact Va.V2 (by k_is) (by k_is) (by k_is) (by k_is))
  (case h22=>exact Va.V2 (by k_is) (by k_is) (by k_is) (by k_is))
  (case h23=>exact Va.V2 (by k_is) (by k_is) (by k_is) (by k_is))
  (case h24=>exact Va.V2 (by k_is) (by k_is) (by k_is) (by k_is))
  (case h25=>exact Va.V2 (by k_is) (by k_is) (by k_is) (by k_is))
  (case h26=>exact Va.V2 (by k_is) (by k_is) (by k_is) (by k_is))
  (case h27=>exact Va.V2 (by k_is) (by k_is) (by k_is) (by k_is))
  (case h28=>exact Va.V2 (by k_is) (by k_is) (by k_is) (by k_is))
  (case h29=>exact Va.V2 (by k_is) (by k_is) (by k_is) (by k_is))
  (case h30=>exact Va.V2 (by k_is) (by k_is) (by k_is) (by k_is))
  (case h31=>exact Va.V2 (by k_is) (by k_is) (by k_is) (by k_is))
  (case h32=>exact Va.V2 (by k_is) (by k_is) (by k_is) (by k_is))
  (case h33=>exact Va.V2 (by k_is) (by k_is) (by k_is) (by k_is))
  (case h34=>exact Va.V2 (by k_is) (by k_is) (by k_is) (by k_is))
  (case a35=>k_is)
  (case l35=>k_is)
  (case c35=>k_is)
  (case k35=>k_is)
  (case z_all=>k_is)
  (case z_bool=>k_is)
  (case z_dict=>k_is)
  (case z_enumerate=>k_is)
  (case z_int=>k_is)
  (case z_isinstance=>k_is)
  (case z_len=>k_is)
  (case z_list=>k_is)
  (case z_range=>k_is)
  (case z_reversed=>k_is)
  (case z_sorted=>k_is)
  (case z_str=>k_is)
  (case z_tuple=>k_is)
  (case z_zip=>k_is)
 case S=>exact λK H a ns hl hb hO hS=>Va.da0 hS (Va.cw0 ns hl hb)
 case C=>exact λ_ _ _ _ z=>z
#print axioms PySem.Challenge.cw_graphpack_k44_what_stays_holds
