import PyProof.Rows.All
import Wide.All
import OpenK.AllK
import Wide.FinOn
import Lean
import PyProof.EqAt
import PyProof.EqKinds
import PyProof.TupleCall
import PyProof.NeKinds
import PyProof.Rows.SetFrom
import KE.KRevIter
import PyProof.ZipIter
import PyProof.TupleOfGen
import PyProof.Rows.ZipGen
import PyProof.EnumMake
import PyProof.EnumFor
import PyProof.ListRange
import PyProof.LayNew
import KE.KDictOf
import KE.KIntText
import KE.IntTextLaws
import PyProof.StrCalls2
import PyProof.Rows.StrNews2
import PyProof.StrLawsTight
import PyProof.ExcArgsOwn
import PyProof.ExcAttrAll.ValueError
import PyProof.IsInstanceT
import PyProof.RulesAs
import PyProof.Rows.Tup
import OpenK.KOwn
import PyProof.ExcInit
import OpenK.KCls
import OpenK.KMake
import PyProof.InstStoreFacts
import PyProof.FactsAll.object
import PyProof.IsiStr
import KE.KIsAll
import PyProof.ListMulRight
import PyProof.AttrMissHeap
import PyProof.RaisesMany
import PyProof.RulesTry
import PyProof.NsDelKeeps
import PyProof.Rows.FStr
import OpenK.KWalk
import PyProof.AutoListH
import PyProof.CallFns
import PyProof.Rows.SortStr
import KE.KDictSum
import PyProof.Draws
import PyProof.Rows.CallKwBuiltin
import PyProof.SumWalkG
import KE.KDictLaws
import PyProof.DictTruth
import PyProof.Rows.SortShellK
import PyProof.Rows.SortWalk
import KE.KDictList
import PySem.Challenge.RW_graphpack_k15_least_webs
set_option maxHeartbeats 0
noncomputable section
open PySem
def A0:=@PySem.wpAny_bind
def A1:=@PySem.wpAny_pure
def A2:=@Nat.le_refl
def A3:=@List.mem_cons_of_mem
def A4:=@List.mem_cons
def A5:=@List.mem_cons_self
def A6:=@PySem.Heap.lt_size
def A7:=@List.mem_map
def A8:=@Option.some.inj
def A9:=@Nat.ne_of_lt
def B0:=@PySem.Heap.get?_push_of_some
def B1:=@List.mem_append
def B3:=@Bool.false_ne_true
def B4:=@PyProof.Rows.wpS_bind
def B5:=@Nat.lt_of_lt_of_le
def B6:=@Ne.symm
def B7:=@List.getElem_mem
def B8:=@PySem.PassesOwn.never
def B9:=@PySem.wpAny_holding
def C0:=@Nat.le_trans
def C1:=@PySem.Heap.get?_push_size
def C2:=@PyProof.Rows.wpS_pure
def C3:=@List.mem_range
def C4:=@Nat.zero_le
def C5:=@Nat.ne_of_gt
def C6:=@Option.map_eq_some_iff
def C7:=@Nat.lt_irrefl
def C8:=@List.getElem?_eq_getElem
def C9:=@Nat.le_add_right
def D0:=@List.getElem?_eq_some_iff
def D1:=@PySem.wpAny_mono
def D2:=@List.mem_append_right
def D3:=@PySem.W.mg_none_of
def D4:=@PySem.wpAny_call_entry
def D5:=@congrArg
def D6:=@PySem.wpAny_newObj_type
def D7:=@PySem.W.mg_of
def D8:=@PySem.wpAny_specialOf
def D9:=@PySem.wpAny_rule
def E1:=@List.mem_append_left
def E2:=@PyProof.Rows.callWith_type1
def E3:=@List.nodup_cons
def E4:=@Nat.lt_trans
def E5:=@PySem.Heap.SameBut.update
def E6:=@Int.emod_nonneg
def E7:=@Int.emod_lt_of_pos
def E8:=@PySem.mem_of_lookup
def E9:=@PySem.wpAny_field
def G0:=@PySem.W.kia_one
def H0:=@List.pairwise_iff_getElem
def I0:=@PySem.wpAny_dictEntries
def K0:=@Nat.le_of_lt
def K2:=@PySem.Calls.spliced_cons
def L1:=@Prod.ext
def L3:=@PySem.wpAny_callSpecial?_slot
def L4:=@PySem.Heap.get?_update_self
def L5:=@List.map_congr_left
def L6:=@List.mem_map_of_mem
def L7:=@PySem.SeqAt.EqAt.same
def L8:=@decide_eq_false
def L9:=@PySem.wpAny_passesOwn
def M0:=@PySem.wpAny_Call_Name_kw
def M1:=@PySem.wpAny_typeOf
def N0:=@LawfulBEq.eq_of_beq
def N1:=@PySem.typeIs_int
def N2:=@PySem.codeAny_builtin
def N3:=@decide_eq_true
def N4:=@beq_eq_false_iff_ne
def N9:=@PySem.Calls.spliced_nil
def O0:=@List.mem_of_getElem?
def P1:=@PyProof.Rows.slot_tuple_getitem
def P2:=@PySem.typeIs_str
def P3:=@PySem.Heap.get?_update_other
def P4:=@Nat.lt_of_le_of_lt
def P5:=@PyProof.Rows.wpS_forRange
def P6:=@PyProof.Rows.wpS_get
def P7:=@List.ext_getElem
def P8:=@PySem.SeqAt.EqAt.int_int
def Q1:=@PySem.SeqAt.EqAt.int_str
def Q2:=@PySem.SeqAt.EqAt.str_int
def R1:=@PySem.wpAny_isInstance
def S0:=@PySem.Paired.length
def S1:=@PySem.wpAny_truthy_bool
def S2:=@List.mem_filterMap
def S3:=@PySem.call_meets
def S4:=@Nat.le_of_eq
def T0:=@List.nodup_nil
def U1:=@PySem.wpAny_updateSeq
def U2:=@List.length_eq_zero_iff
def W1:=@PySem.plainId_quiet
def X0:=@Array.getElem?_eq_getElem
def X1:=@PySem.wpAny_attempt
def X2:=@List.mem_iff_getElem
def Y1:=@PySem.wpAny_dictEpoch
def Y2:=@PySem.F.slot_dict_keyiterator_next
def Y3:=@List.mem_of_mem_take
def b4:=@List.pairwise_map
def b5:=@List.append_nil
def b6:=@List.idxOf_lt_length_of_mem
def c9:=@PySem.F.slot_NoneType_hash
def d3:=@PySem.F.slot_tuple_hash
def d4:=@of_decide_eq_true
def d5:=@PySem.SeqAt.EqAt.none_int
def d6:=@PySem.SeqAt.EqAt.none_str
def e8:=@PySem.SeqAt.EqAt.int_none
def e9:=@PySem.SeqAt.EqAt.str_none
def i0:=@PySem.SeqAt.EqAt.str_str
def i4:=@PySem.wpAny_seqItems
def i5:=@List.getElem_inj
def i6:=@PySem.wpAny_standAt
def i7:=@List.of_mem_zip
def i8:=@PySem.concat_meets
def i9:=@PySem.Calls.callWith_builtin
def j0:=@PySem.boot_len
def j3:=@PySem.Obj.data_mapDictKeys
def k0:=@PySem.wpAny_notOrdered_dict
def k3:=@PySem.F.slot_zip_next
def k4:=@PySem.F.plain_extend_loop
def k6:=@PySem.F.slot_dict_setdefault
def k7:=@getElem?_pos
def k9:=@Array.perm_iff_toList_perm
def l4:=@PyProof.Rows.listItems_at
def l6:=@List.map_snd_zip
def l7:=@PySem.wpAny_typeNameOfWhole_keyiter
def m3:=@List.mem_singleton
def m4:=@List.nodup_append
def n5:=@Int.ofNat_inj
def n9:=@PySem.W.binds_K
def o3:=@PySem.F.typeOf_object_class
def p5:=@PySem.wpAny_ret_mkInt
def p9:=@PySem.wpAny_pyHash_int
def q0:=@PySem.wpAny_pyHash_str
def q5:=@PySem.wpAny_forIn_list
def r0:=@List.getD_eq_getElem?_getD
def r8:=@PySem.SeqAt.EqAt.none_tuple
def r9:=@PySem.SeqAt.EqAt.int_tuple
def t0:=@PySem.SeqAt.EqAt.str_tuple
def t9:=@PySem.SeqAt.EqAt.of_refs
def v0:=@PySem.SeqAt.RcAt.tuples
def v3:=@PySem.wpAny_eqBool_int
def w8:=@PySem.wpAny_execs_nil
def x0:=@PySem.codeAny_mono
def x3:=@PySem.noFill_tuple_add
def x4:=@PySem.seq_tuple_add
def x5:=@PySem.F.slot_tuple_add
def x8:=@PySem.F.entry_tuple_add
def x9:=@PySem.F.args_tuple_add_2
def y0:=@PySem.wpAny_sequenceKey
def y6:=@PySem.SeqAt.EqAt.none_bool
def y8:=@PySem.SeqAt.EqAt.bool_none
def y9:=@PySem.SeqAt.EqAt.bool_bool
def z0:=@PySem.SeqAt.EqAt.bool_int
def A00:=@PySem.SeqAt.EqAt.bool_str
def A10:=@PySem.SeqAt.EqAt.int_bool
def A20:=@PySem.SeqAt.EqAt.str_bool
def A30:=@PySem.Calls.evalArgs_plain
def A40:=@Nat.add_le_add_left
def A50:=@PySem.wpAny_Dict_empty
def A60:=@PySem.Obj.isFreed_of_dict
def A80:=@PySem.tupleKind_room_in1
def A90:=@PySem.F.plainAttrs_list
def Aa0:=@Nat.lt_succ_self
def Ab0:=@Nat.lt_succ_of_lt
def Ac0:=@Nat.le_succ
def Ad0:=@PySem.wpAny_nextOf_list_item
def Ae0:=@PySem.wpAny_pyIter_zip
def Af0:=@List.getElem?_zip_eq_some
def Ah0:=@Array.getElem?_eq_some_iff
def Al0:=@List.nodup_iff_pairwise_ne
def Am0:=@List.Pairwise.imp_of_mem
def An0:=@List.nodup_range
def Ao0:=@List.length_range
def Ap0:=@List.length_pos_of_mem
def Aq0:=@exists_congr
def Ar0:=@and_congr_right
def As0:=@Classical.byContradiction
def At0:=@List.length_map
def Au0:=@Classical.axiomOfChoice
def Aw0:=@PySem.wpAny_callSpecialIfBoundUnlessNone?_slot
def B10:=@PySem.Calls.Name_function_global
def Ba0:=@Nat.min_le_right
def Bi0:=@PySem.wpAny_comprehension_free
def Bl0:=@Bool.eq_false_iff
def Bx0:=@Int.le_ediv_iff_mul_le
def By0:=@Array.eq_empty_of_size_eq_zero
def Bz0:=@PySem.F.slot_tuple_mul
def C00:=@PySem.F.slot_tuple_rmul
def C80:=@PySem.SeqAt.RcAt.lists_lengths
def Cj0:=@Array.getElem?_eq_none
def Cl0:=@List.pairwise_append
def Cm0:=@List.pairwise_singleton
def Cn0:=@Nat.lt_trichotomy
def Cu0:=@PySem.F.slot_int_mul
def Cw0:=@PySem.F.entry_dict_setdefault
def Cx0:=@PySem.F.args_dict_setdefault_3
def Cz0:=@PySem.F.plainAttrs_dict
def D00:=@PySem.F.type_dict_setdefault
def D20:=@PySem.Calls.call_function_entry
def D30:=@List.rel_of_pairwise_cons
def D40:=@List.pairwise_cons
def D60:=@PySem.F.entry_dict_keyiterator_next
def D70:=@PySem.F.args_dict_keyiterator_next_1
def De0:=@PySem.F.slot_dict_ne
def Df0:=@PySem.F.slot_dict_len
def Dg0:=@List.length_filterMap_le
def Di0:=@List.mem_or_eq_of_mem_set
def Dj0:=@Nat.mul_le_mul_right
def Dl0:=@Nat.zero_lt_succ
set_option Elab.async false
set_option linter.all false
set_option maxRecDepth 100000
variable{prog:Program}{E Q:Value->Shared->Prop}{a it dx fa I z i1 i2 l1 l2:Addr}{o e b c iter value elt:Expr}{od an:Option Addr}{x name qual x2 root:Str}{r caps idx F:List Nat}{R:Result->Shared->Prop}{K:W.Frag}{h' base:Heap}{v u dV doc pm cdv ct oc vl vu:Value}{i m t' j n k1 x1:Nat}{vs us its:List Value}{items ys:Array Value}{α β κ:Type}{pins:List (Addr×Obj)}{ch fp:List Addr}{N loose N' cs rs:List Str}{s':Shared}{pos p pos' tpos apos p2 cpos py spos px pos2 np p0:Pos}{rest body:List Stmt}{st:Stmt}{es ifs elts:List Expr}{lo hi:Option Int}{fd:FuncData}{sc scope:Scope}{mg:Str->Option Value}{q:Int×Int}{XP:(Str->Option Value)->Heap->Prop}{YP:World->Heap->Prop}{osl:Array (Option Value)}{oa:Obj}{S:Nat->Nat->Prop}
namespace KfT
theorem sl:Slot "function" "__getattribute__" "object.__getattribute__" := by
 refine .of (owner := "object") (n := "__getattribute__") ?_ (by decide +kernel) (by decide +kernel) (by decide +kernel) ?_ ?_
 ·rw[typeLookup_type,builtinLookup_eq_fast];kernel_rfl
 ·first|exact .inl (by decide +kernel)|exact .inr (by decide +kernel)
 ·rw[isSubtype_type];kernel_rfl
theorem lk:typeLookup (.type "function") "__class__"=pure (some (.builtin "object.__class__")):=by
 rw[typeLookup_type,builtinLookup_eq_fast];kernel_rfl
theorem ow:isSubtype (.type "function") (.type (".".intercalate ("object.__class__".cutAt '.').dropLast))=pure true:=by
 rw[F.owner_object_class,isSubtype_type];kernel_rfl
section
variable{P:Program}{W:World}{A:Around}{X:Value->Shared->Prop}{s:Shared}{f:Addr}{y:Obj}
theorem gs(e:s.heap.get? f=some y)(c:y.cls=.type "function")(q:R (.ok (.ret (.type "function"))) s) :
  codeAny (model P W) A (.call (.builtin "getset_descriptor.__get__") ⟨[.builtin "object.__class__",.ref f,.type "function"],[]⟩) R s:=by
 obtain⟨hh,gg,dd,tt,oo⟩:=s;have z1:(⟨hh,gg,dd,tt,oo⟩:Shared).TypeIs (.ref f) "function" := ⟨_,e,c⟩;have z2:=ow;refine codeAny_call_builtin F.slot_gs_get.plain F.entry_gs_get (F.slot_gs_get.check _ _ _ _ _ _ _ _ o3 (F.args_gs_get _ _ _) ?_)
 repeat (any_goals (first|assumption|wp_step))
 refine⟨Code.quiet_builtin _ (by decide +kernel),N2 F.entry_object_class ?_⟩
 repeat (any_goals (first|assumption|wp_step))
theorem ga{tk:Tok}{R:Fin->Shared->Prop}(e:s.heap.get? f=some y)(c:y.cls=.type "function")(q:R (.done (.ret (.type "function"))) s) :
  wpAny (model P W) A (Builtin.«object.__getattribute__» ⟨[.ref f,.str "__class__" tk],[]⟩) R X s:=by
 obtain⟨hh,gg,dd,tt,oo⟩:=s;have z1:(⟨hh,gg,dd,tt,oo⟩:Shared).TypeIs (.ref f) "function" := ⟨_,e,c⟩;have z2:(⟨hh,gg,dd,tt,oo⟩:Shared).TypeIs (.builtin "object.__class__") "getset_descriptor" := o3;have z3:=lk;have z4:=o3;have z5:=F.slot_gs_get.lookup;have z6:=F.slot_gs_set.lookup
 repeat (any_goals (first|assumption|wp_step))
 refine gs e c ?_
 repeat (any_goals (first|assumption|wp_step))
variable{hh:Heap}{gg:Array GenState}{dd:Drawn}{tt:Nat}{oo:OsState}
theorem by'{tk:Tok}{R:Value->Shared->Prop}(e:hh.get? f=some y)(c:y.cls=.type "function")(q:R (.type "function") ⟨hh,gg,dd,tt,oo⟩):wpAny (model P W) A (getAttrBy (.ref f) (.str "__class__" tk) false) R X ⟨hh,gg,dd,tt,oo⟩:=by
 have z1:(⟨hh,gg,dd,tt,oo⟩:Shared).TypeIs (.ref f) "function" := ⟨_,e,c⟩;have z2:=sl.lookup;have z3:=sl.bind (.ref f)
 repeat (any_goals (first|assumption|wp_step))
 refine codeAny_call_builtin sl.plain F.entry_object_getattribute (sl.check _ _ _ _ _ _ _ _ z1 (F.args_object_getattribute_2 _ _) (ga e c ?_))
 repeat (any_goals (first|assumption|wp_step))
theorem at'{R:Option Value->Shared->Prop}(e:hh.get? f=some y)(c:y.cls=.type "function")(q:R (some (.type "function")) ⟨hh,gg,dd,tt+1,oo⟩):wpAny (model P W) A (getAttr? (.ref f) "__class__") R X ⟨hh,gg,dd,tt,oo⟩:=by
 unfold getAttr? getAttrBy?
 repeat (any_goals (first|assumption|with_reducible apply by' e c|wp_step))
end
theorem kit{f:Addr}:W.KitX K (.ref f) (.type "function") (W.KitAt f "function"):=W.kitx_of W.kitAt_ty λ{_ _ _ _ _ s} p k=>by
 obtain⟨hh,gg,dd,tt,oo⟩:=s;obtain⟨_,e,c⟩:=p;exact at' e c k
end KfT
namespace TrK
open Spec PyProof.Rows
inductive T where
 | non
 | int (i:Int)
 | str (x:Str)
 | tup (l:List T)
instance:DecidableEq T:=λa b=>Classical.propDecidable (a=b)
mutual
def Is(h:Heap):T->Value->Prop
 | .non,v=>v=.none
 | .int i,v=>∃t,v=.int i t
 | .str x,v=>∃t,v=.str x t
 | .tup l,v=>∃(a:Addr) (o:Obj) (items:Array Value) (n:Nat),v=.ref a/\h.get? a=some o/\o.cls=.type "tuple"/\o.data=.seq items n/\Iss h l items.toList
def Iss(h:Heap):List T->List Value->Prop
 | [],vs=>vs=[]
 | x::l,vs=>∃v r,vs=v::r/\Is h x v/\Iss h l r
end
mutual
def hs(w:World):T->Int
 | .non=>0xFCA86420
 | .int i=>hashInt i
 | .str x=>hashStr w x
 | .tup l=>reduceHash (Builtin.Tuple.tupleHashOf (hss w l))
def hss(w:World):List T->List Int
 | []=>[]
 | x::l=>hs w x::hss w l
end
mutual
def dr:T->Nat
 | .tup l=>drs l+1
 | _=>1
def drs:List T->Nat
 | []=>0
 | x::l=>dr x+drs l
end
mutual
def dep:T->Nat
 | .tup l=>uy0 l+1
 | _=>0
def uy0:List T->Nat
 | []=>0
 | x::l=>max (dep x) (uy0 l)
end
section
variable{h:Heap}
theorem M3:Is h .non v=(v=.none):=by unfold Is;rfl
theorem O4{i:Int}:Is h (.int i) v=∃t,v=.int i t:=by unfold Is;rfl
theorem O3:Is h (.str x) v=∃t,v=.str x t:=by unfold Is;rfl
theorem is_tup{l:List T}:Is h (.tup l) v=∃(a:Addr) (o:Obj) (items:Array Value) (n:Nat),v=.ref a/\h.get? a=some o/\o.cls=.type "tuple"/\o.data=.seq items n/\Iss h l items.toList:=by conv=>lhs;unfold Is
theorem xl0:Iss h [] vs=(vs=[]):=by unfold Iss;rfl
theorem J0{x:T}{l:List T}:Iss h (x::l) vs=∃v r,vs=v::r/\Is h x v/\Iss h l r:=by conv=>lhs;unfold Iss
mutual
theorem Is.mono(k:∀a o items n,h.get? a=some o->o.data=.seq items n->h'.get? a=some o):∀(t:T) (v:Value),Is h t v->Is h' t v
 | .non,v,x=>by rw[M3] at x ⊢;exact x
 | .int i,v,x=>by rw[O4] at x ⊢;exact x
 | .str s,v,x=>by rw[O3] at x ⊢;exact x
 | .tup l,v,x=>by
  rw[is_tup] at x ⊢;obtain⟨a,o,its,n,e,g,c,d,r⟩:=x;exact⟨a,o,its,n,e,k a o its n g d,c,d,Iss.mono k l _ r⟩
theorem Iss.mono(k:∀a o items n,h.get? a=some o->o.data=.seq items n->h'.get? a=some o):∀(l:List T) (vs:List Value),Iss h l vs->Iss h' l vs
 | [],vs,x=>by rw[xl0] at x ⊢;exact x
 | t::l,vs,x=>by
  rw[J0] at x ⊢;obtain⟨v,r,e,x1,x2⟩:=x;exact⟨v,r,e,Is.mono k t v x1,Iss.mono k l r x2⟩
end
mutual
theorem Is.inj:∀(t u:T) (v:Value),Is h t v->Is h u v->t=u
 | .non,u,v,x,y=>by
  rw[M3] at x;subst x;cases u with
  | non=>rfl
  | int i=>rw[O4] at y;obtain⟨t,e⟩:=y;cases e
  | str s=>rw[O3] at y;obtain⟨t,e⟩:=y;cases e
  | tup l=>rw[is_tup] at y;obtain⟨a,o,its,n,e,_⟩:=y;cases e
 | .int i,u,v,x,y=>by
  rw[O4] at x;obtain⟨t,rfl⟩:=x;cases u with
  | non=>rw[M3] at y;cases y
  | int j=>rw[O4] at y;obtain⟨t,e⟩:=y;cases e;rfl
  | str s=>rw[O3] at y;obtain⟨t,e⟩:=y;cases e
  | tup l=>rw[is_tup] at y;obtain⟨a,o,its,n,e,_⟩:=y;cases e
 | .str s,u,v,x,y=>by
  rw[O3] at x;obtain⟨t,rfl⟩:=x;cases u with
  | non=>rw[M3] at y;cases y
  | int j=>rw[O4] at y;obtain⟨t,e⟩:=y;cases e
  | str s=>rw[O3] at y;obtain⟨t,e⟩:=y;cases e;rfl
  | tup l=>rw[is_tup] at y;obtain⟨a,o,its,n,e,_⟩:=y;cases e
 | .tup l,u,v,x,y=>by
  rw[is_tup] at x;obtain⟨a,o,its,n,rfl,g,c,d,r⟩:=x;cases u with
  | non=>rw[M3] at y;cases y
  | int j=>rw[O4] at y;obtain⟨t,e⟩:=y;cases e
  | str s=>rw[O3] at y;obtain⟨t,e⟩:=y;cases e
  | tup m =>
   rw[is_tup] at y;obtain⟨a',o',J,n',e,g',c',d',r'⟩:=y;cases e;rw[g] at g';cases g';rw[d] at d';cases d';rw[Iss.inj l m _ r r']
theorem Iss.inj:∀(l m:List T) (vs:List Value),Iss h l vs->Iss h m vs->l=m
 | [],m,vs,x,y=>by
  rw[xl0] at x;subst x;cases m with
  | nil=>rfl
  | cons t m=>rw[J0] at y;obtain⟨v,r,e,_⟩:=y;cases e
 | t::l,m,vs,x,y=>by
  rw[J0] at x;obtain⟨v,r,rfl,x1,x2⟩:=x;cases m with
  | nil=>rw[xl0] at y;cases y
  | cons u m =>
   rw[J0] at y;obtain⟨v',r',e,y1,y2⟩:=y;cases e;rw[Is.inj t u v x1 y1,Iss.inj l m r x2 y2]
end
theorem Iss.length:∀{l:List T} {vs:List Value},Iss h l vs->vs.length=l.length
 | [],vs,x=>by rw[xl0] at x;subst x;rfl
 | t::l,vs,x=>by
  rw[J0] at x;obtain⟨v,r,rfl,x1,x2⟩:=x;rw[List.length_cons,List.length_cons,x2.length]
theorem Iss.get:∀{l:List T} {vs:List Value},Iss h l vs->∀(j:Nat) (h1:j<l.length) (h2:j<vs.length),Is h l[j] vs[j]
 | [],vs,x,j,h1,_=>by simp at h1
 | t::l,vs,x,j,h1,h2=>by
  rw[J0] at x;obtain⟨v,r,rfl,x1,x2⟩:=x;cases j with
  | zero=>exact x1
  | succ j=>exact x2.get j (by simpa using h1) (by simpa using h2)
theorem ro0:∀{l:List T} {j:Nat} (h1:j<l.length),dep l[j]<=uy0 l
 | [],j,h1=>by simp at h1
 | t::l,j,h1=>by
  unfold uy0;cases j with
  | zero=>exact Nat.le_max_left _ _
  | succ j=>exact C0 (ro0 (l:=l) (j:=j) (by simpa using h1)) (Nat.le_max_right _ _)
end
section
variable{w:World}
theorem ou0{A:Around}{s:Shared}{Q:Int->Shared->Prop}(h:Q 0xFCA86420 { s with toks:=s.toks+1 }):wpAny (model prog w) A (pyHash .none) Q E s:=by
 have hT:s.TypeIs .none "NoneType" := typeIs_none s;unfold pyHash pyHashByItsType;have hv:[Value.none].any Value.onHeap=false:=rfl;refine A0 ?_;rw[cRoomFor,if_neg (by rw[hv];exact B3)];refine A1 ?_;refine A0 (D8 hT c9.lookup ?_);show wpAny _ _ (if (some (Value.builtin "NoneType.__hash__")==some Value.none)=true then _ else _) Q E s;rw[if_neg (by rw[beq_builtin_none];exact B3)];refine A0 (D8 hT c9.lookup ?_);show wpAny _ _ (callSpecialIfBoundUnlessNone? .none "__hash__" _>>=_) Q E s;refine A0 (Aw0 hT c9 (D4 c9 hT F.entry_NoneType_hash ?_ (F.args_NoneType_hash_1 _)));show wpAny _ _ (retInt 0xFCA86420) _ _ _;refine p5 ?_;exact A1 h
theorem j80:∀a b:List T,hss w (a++b)=hss w a++hss w b
 | [],b=>by
  rw[List.nil_append]
  conv=>rhs;lhs;unfold hss
  rw[List.nil_append]
 | x::a,b=>by
  rw[List.cons_append]
  conv=>lhs;unfold hss
  conv=>rhs;lhs;unfold hss
  rw[j80 a b,List.cons_append]
theorem jb0:∀a b:List T,drs (a++b)=drs a+drs b
 | [],b=>by
  rw[List.nil_append]
  conv=>rhs;lhs;unfold drs
  omega
 | x::a,b=>by
  rw[List.cons_append]
  conv=>lhs;unfold drs
  conv=>rhs;lhs;unfold drs
  rw[jb0 a b];omega
theorem ax0(x:T):hss w [x]=[hs w x]:=by unfold hss;unfold hss;rfl
theorem Yb0(x:T):drs [x]=dr x:=by unfold drs;unfold drs;rfl
theorem Zo0:∀(n:Nat) (t:T) {A:Around} {E:Value->Shared->Prop} {s:Shared} {v:Value} {Q:Int->Shared->Prop},dep t<=n->A.units+n<cLine->Is s.heap t v->Q (hs w t) { s with toks:=s.toks+dr t }->wpAny (model prog w) A (pyHash v) Q E s:=by
 intro n
 induction n with
 | zero =>
  intro t A E s v Q hd hu hi h;cases t with
  | non=>rw[M3] at hi;subst hi;exact ou0 h
  | int i=>rw[O4] at hi;obtain⟨t,rfl⟩:=hi;exact p9 h
  | str x=>rw[O3] at hi;obtain⟨t,rfl⟩:=hi;exact q0 h
  | tup l=>unfold dep at hd;omega
 | succ n ih =>
  intro t A E s v Q hd hu hi h;cases t with
  | non=>rw[M3] at hi;subst hi;exact ou0 h
  | int i=>rw[O4] at hi;obtain⟨t,rfl⟩:=hi;exact p9 h
  | str x=>rw[O3] at hi;obtain⟨t,rfl⟩:=hi;exact q0 h
  | tup l =>
   rw[is_tup] at hi;obtain⟨a,o,items,nn,rfl,ho,hc,O,hi⟩:=hi;have hT:s.TypeIs (.ref a) "tuple" := ⟨o,ho,hc⟩;unfold dep at hd;unfold pyHash pyHashByItsType;refine A0 (wpAny_cRoomFor_or (.inr (by omega)) ?_);refine A0 (D8 hT d3.lookup ?_);show wpAny _ _ (if (some (Value.builtin "tuple.__hash__")==some Value.none)=true then _ else _) Q E s;rw[if_neg (by rw[beq_builtin_none];exact B3)];refine A0 (D8 hT d3.lookup ?_);show wpAny _ _ (callSpecialIfBoundUnlessNone? (.ref a) "__hash__" _>>=_) Q E s;refine A0 (Aw0 hT d3 (D4 d3 hT F.entry_tuple_hash ?_ (F.args_tuple_hash_1 _)));show wpAny _ _ (Builtin.Tuple.tupleItemsOf (.ref a)>>=_) _ _ s;refine A0 (wpAny_tupleItemsOf ho O ?_);refine A0 ?_;rw[← Array.forIn_toList];refine q5 _ (λrest (b:Array Int) s'=>∃done J,l=done++J/\Iss s.heap J rest/\b.toList=hss w done/\s'={ s with toks:=s.toks+drs done }) _ ?_ ?_ _ _ ⟨[],l,rfl,hi,by unfold hss;rfl,by unfold drs;rfl⟩
   ·rintro x rest b s' ⟨done,J,hl,hs,hb,rfl⟩
    cases J with
    | nil=>rw[xl0] at hs;cases hs
    | cons k J =>
     rw[J0] at hs;obtain⟨v,r,e,h1,h2⟩:=hs;cases e;have hk:dep k<=n:=by
      have:=ro0 (l:=l) (j:=done.length) (by rw[hl];simp);simp only[hl,List.getElem_append_right (A2 _),Nat.sub_self,List.getElem_cons_zero] at this;rw[← hl] at this;omega
     refine A0 (ih k hk (by show A.units+1+n<cLine;omega) (s:={ s with toks:=s.toks+drs done }) h1 ?_);have M:∃done' left',l=done'++left'/\Iss s.heap left' rest/\(b.push (hs w k)).toList=hss w done'/\({ s with toks:=s.toks+drs done+dr k }:Shared)={ s with toks:=s.toks+drs done' } :=
      ⟨done++[k],J,by rw[hl];simp,h2,by rw[j80,ax0,← hb];simp,by rw[jb0,Yb0,Nat.add_assoc]⟩
     first
      | exact A1 M
      | exact A0 (A1 (A1 M))
   ·rintro b s' ⟨done,J,hl,hs,hb,rfl⟩
    cases J with
    | cons k J=>rw[J0] at hs;obtain⟨v,r,e,_⟩:=hs;cases e
    | nil =>
     rw[List.append_nil] at hl;subst hl;show wpAny _ _ (retInt (Builtin.Tuple.tupleHashOf b.toList)) _ _ _;rw[hb];refine p5 ?_;unfold TrK.hs dr at h;show wpAny _ _ (if (decide (-(2:Int) ^ 63<=Builtin.Tuple.tupleHashOf (hss w l))&&decide (Builtin.Tuple.tupleHashOf (hss w l)<2 ^ 63))=true then _ else _) Q E _;unfold reduceHash at h
     by_cases hr:(decide (-(2:Int) ^ 63<=Builtin.Tuple.tupleHashOf (hss w l))&&decide (Builtin.Tuple.tupleHashOf (hss w l)<2 ^ 63))=true
     ·rw[if_pos hr]
      rw[if_pos hr] at h;exact A1 (by simpa [Nat.add_assoc] using h)
     ·rw[if_neg hr]
      rw[if_neg hr] at h;exact A0 (D9 (A1 (by simpa [Nat.add_assoc] using h)))
theorem all_eq{l m:List T}:((List.range (min l.length m.length)).all (λj=>decide (l.getD j .non=m.getD j .non))&&l.length==m.length)=decide (l=m):=by
 rw[Bool.eq_iff_iff,Bool.and_eq_true,List.all_eq_true,decide_eq_true_iff,beq_iff_eq];constructor
 ·rintro⟨h1,h2⟩
  refine P7 h2 λi a b=>?_
  have:=d4 (h1 i (C3.mpr (by omega)))
  simpa [r0,a,b] using this
 ·rintro rfl
  exact⟨λj _=>N3 rfl,rfl⟩
theorem Vl0:∀(n:Nat) (t u:T) {A:Around} {s:Shared} {v v':Value},dep t<=n->A.units+n<cLine->Is s.heap t v->Is s.heap u v'->SeqAt.EqAt A s v v' (decide (t=u)):=by
 intro n;have J:∀(t u:T) {A:Around} {s:Shared} {v v':Value},dep t=0->A.units<cLine->Is s.heap t v->Is s.heap u v'->SeqAt.EqAt A s v v' (decide (t=u)):=by
  intro t u A s v v' hd hu hi hj;have tp:∀{l:List T} {v:Value},Is s.heap (.tup l) v->∃a items,v=.ref a/\s.heap.IsTuple a items:=λ{l v} x=>by
   rw[is_tup] at x;obtain⟨a,o,its,nn,e,g,c,d,_⟩:=x;exact⟨a,its,e,o,g,c,nn,d⟩
  cases t with
  | tup l=>unfold dep at hd;omega
  | non =>
   rw[M3] at hi;subst hi;cases u with
   | non=>rw[M3] at hj;subst hj;rw[decide_eq_true rfl];exact L7 _
   | int j=>rw[O4] at hj;obtain⟨_,rfl⟩:=hj;rw[decide_eq_false (λz=>nomatch z)];exact d5 _ _
   | str y=>rw[O3] at hj;obtain⟨_,rfl⟩:=hj;rw[decide_eq_false (λz=>nomatch z)];exact d6 _ _
   | tup m=>obtain⟨a,its,rfl,p⟩:=tp hj;rw[decide_eq_false (λz=>nomatch z)];exact r8 p hu
  | int i =>
   rw[O4] at hi;obtain⟨_,rfl⟩:=hi;cases u with
   | non=>rw[M3] at hj;subst hj;rw[decide_eq_false (λz=>nomatch z)];exact e8 _ _
   | int j =>
    rw[O4] at hj;obtain⟨_,rfl⟩:=hj;rw[show decide (T.int i=T.int j)=(i==j) from by rw[Bool.eq_iff_iff,decide_eq_true_iff,beq_iff_eq];exact⟨λz=>by cases z;rfl,λz=>by rw[z]⟩];exact P8 _ _ _ _
   | str y=>rw[O3] at hj;obtain⟨_,rfl⟩:=hj;rw[decide_eq_false (λz=>nomatch z)];exact Q1 _ _ _ _
   | tup m=>obtain⟨a,its,rfl,p⟩:=tp hj;rw[decide_eq_false (λz=>nomatch z)];exact r9 _ _ p hu
  | str x =>
   rw[O3] at hi;obtain⟨_,rfl⟩:=hi;cases u with
   | non=>rw[M3] at hj;subst hj;rw[decide_eq_false (λz=>nomatch z)];exact e9 _ _
   | int j=>rw[O4] at hj;obtain⟨_,rfl⟩:=hj;rw[decide_eq_false (λz=>nomatch z)];exact Q2 _ _ _ _
   | str y =>
    rw[O3] at hj;obtain⟨_,rfl⟩:=hj;rw[show decide (T.str x=T.str y)=(x==y) from by rw[Bool.eq_iff_iff,decide_eq_true_iff,beq_iff_eq];exact⟨λz=>by cases z;rfl,λz=>by rw[z]⟩];exact i0 _ _ _ _
   | tup m=>obtain⟨a,its,rfl,p⟩:=tp hj;rw[decide_eq_false (λz=>nomatch z)];exact t0 _ _ p hu
 induction n with
 | zero=>intro t u A s v v' hd hu hi hj;exact J t u (by omega) (by omega) hi hj
 | succ n ih =>
  intro t u A s v v' hd hu hi hj;cases t with
  | non=>exact J _ u rfl (by omega) hi hj
  | int i=>exact J _ u rfl (by omega) hi hj
  | str x=>exact J _ u rfl (by omega) hi hj
  | tup l =>
   unfold dep at hd;have Z:=hi;rw[is_tup] at hi;obtain⟨a,o,its,nn,rfl,g,c,d,r⟩:=hi;have p:s.heap.IsTuple a its:=⟨o,g,c,nn,d⟩;cases u with
   | non=>rw[M3] at hj;subst hj;rw[decide_eq_false (λz=>nomatch z)];exact SeqAt.EqAt.tuple_none p (by omega)
   | int j=>rw[O4] at hj;obtain⟨_,rfl⟩:=hj;rw[decide_eq_false (λz=>nomatch z)];exact SeqAt.EqAt.tuple_int _ _ p (by omega)
   | str y=>rw[O3] at hj;obtain⟨_,rfl⟩:=hj;rw[decide_eq_false (λz=>nomatch z)];exact SeqAt.EqAt.tuple_str _ _ p (by omega)
   | tup m =>
    have a0:=hj;rw[is_tup] at hj;obtain⟨a',o',M,O,rfl,g',c',d',r'⟩:=hj;have p':s.heap.IsTuple a' M:=⟨o',g',c',O,d'⟩
    by_cases hab:a=a'
    ·subst hab
     rw[Is.inj _ _ _ Z a0,decide_eq_true rfl];exact L7 _
    ·refine t9 hab ?_
     have l1:its.size=l.length:=by rw[← Array.length_toList,r.length]
     have l2:M.size=m.length:=by rw[← Array.length_toList,r'.length]
     have:=v0 (A:=A) (e:=λj=>decide (l.getD j .non=m.getD j .non)) p p' (by omega) λj j1 j2=>by
      have q1:=r.get j (by omega) (by rw[Array.length_toList];exact j1);have q2:=r'.get j (by omega) (by rw[Array.length_toList];exact j2);have:=ih l[j] m[j] (A:=A.in1) (C0 (ro0 _) (by omega)) (by show A.units+1+n<cLine;omega) q1 q2
      simpa [r0,show j<l.length by omega,show j<m.length by omega] using this
     rw[l1,l2,all_eq] at this;rw[show decide (T.tup l=T.tup m)=decide (l=m) from by rw[Bool.eq_iff_iff,decide_eq_true_iff,decide_eq_true_iff];exact⟨λz=>by cases z;rfl,λz=>by rw[z]⟩];exact this
theorem ez0:∀(n:Nat) (t:T) {A:Around} {E:Value->Shared->Prop} {s:Shared} {v:Value} {Q:Bool->Shared->Prop},dep t<=n->Is s.heap t v->Q true s->wpAny (model prog w) A (eqIsQuiet n v) Q E s:=by
 intro n
 induction n with
 | zero =>
  intro t A E s v Q hd hi h;cases t with
  | tup l=>unfold dep at hd;omega
  | non=>rw[M3] at hi;subst hi;unfold eqIsQuiet;exact A1 h
  | int i=>rw[O4] at hi;obtain⟨_,rfl⟩:=hi;unfold eqIsQuiet;exact A1 h
  | str x=>rw[O3] at hi;obtain⟨_,rfl⟩:=hi;unfold eqIsQuiet;exact A1 h
 | succ n ih =>
  intro t A E s v Q hd hi h;cases t with
  | non=>rw[M3] at hi;subst hi;unfold eqIsQuiet;exact A1 h
  | int i=>rw[O4] at hi;obtain⟨_,rfl⟩:=hi;unfold eqIsQuiet;exact A1 h
  | str x=>rw[O3] at hi;obtain⟨_,rfl⟩:=hi;unfold eqIsQuiet;exact A1 h
  | tup l =>
   unfold dep at hd;rw[is_tup] at hi;obtain⟨a,o,items,nn,rfl,ho,hc,M,hi⟩:=hi;have hT:s.TypeIs (.ref a) "tuple" := ⟨o,ho,hc⟩;unfold eqIsQuiet;refine A0 (D8 hT F.slot_tuple_eq.lookup ?_);show wpAny _ _ (isInstance (.ref a) (.type "tuple")>>=_) _ _ s;refine A0 (R1 hT isSubtype_tuple_tuple ?_);simp only[Bool.not_true,Bool.false_eq_true,if_false];refine A0 (i4 ho M ?_);refine A0 ?_;show wpAny _ _ (forIn items _ _) _ _ s;rw[← Array.forIn_toList];refine q5 _ (λrest r s'=>r.1=none/\s'=s/\∃J,Iss s.heap J rest/\uy0 J<=n) _ ?_ ?_ _ _ ⟨rfl,rfl,l,hi,by omega⟩
   ·rintro v rest r s' ⟨hr,rfl,J,hs,hn⟩
    cases J with
    | nil=>rw[xl0] at hs;cases hs
    | cons k J =>
     rw[J0] at hs;obtain⟨v',r',e,h1,h2⟩:=hs;cases e;unfold uy0 at hn;refine A0 (ih k (by omega) h1 ?_);simp only[Bool.not_true,Bool.false_eq_true,if_false];exact A1 ⟨rfl,rfl,J,h2,by omega⟩
   ·rintro⟨r1,r2⟩ s' ⟨hr,rfl,_⟩
    simp only at hr;subst hr;exact A1 h
def kind(prog:Program)(w:World):HeapKind prog w T where
 is:=λh t a=>Is h t (.ref a)/\dep t<=8
 hash:=hs w
 draws:=dr
 room:=λA=>A.units+8<cLine
 inj:=λhx hy=>Is.inj _ _ _ hx.1 hy.1
 keeps:=λ{h h' k a d o es ep} x ho hd hs=>⟨Is.mono (λb u items n g e=>by
  have ne:b≠d:=λz=>by subst z;rw[ho] at g;cases g;rw[hd] at e;cases e
  rw[hs.2 b ne];exact g) _ _ x.1,x.2⟩
 pyHash:=λhu hk h=>Zo0 8 _ hk.2 hu hk.1 h
 eqBool:=λhu hx hy h=>Vl0 8 _ _ hx.2 hu hx.1 hy.1 _ _ _ _ h
 quiet:=λhk h=>ez0 8 _ hk.2 hk.1 h
end
end TrK
namespace L2
open Spec PyProof.Rows
abbrev Key:=Sum Int Str
def su0:Key->Value->Bool
 | .inl k,v=>Value.isInt k v
 | .inr x,v=>Value.isStrOf x v
variable{ks:List L2.Key}
def Tf0(w:World):Key->Int
 | .inl k=>hashInt k
 | .inr x=>hashStr w x
theorem Q4:∀{k:Key} {v:Value},su0 k v=true->(∃i t,k=Sum.inl i/\v=Value.int i t)∨(∃x t,k=Sum.inr x/\v=Value.str x t)
 | .inl i,v,h=>by
  obtain⟨t,e⟩:=Value.isInt_shape (k:=i) (v:=v) h;exact .inl ⟨i,t,rfl,e⟩
 | .inr x,v,h=>by
  obtain⟨t,e⟩:=Value.isStrOf_shape (x:=x) (v:=v) h;exact .inr ⟨x,t,rfl,e⟩
theorem fr0(i:Int)(t:Tok):su0 (.inl i) (.int i t)=true:=by simp[su0,Value.isInt]
theorem gq0(x:Str)(t:Tok):su0 (.inr x) (.str x t)=true:=by simp[su0,Value.isStrOf]
theorem Yz0(a b:Int):decide ((Sum.inl a:Key)=Sum.inl b)=(a==b):=by
 by_cases e:a=b
 ·subst e;simp
 ·have h:¬(Sum.inl a:Key)=Sum.inl b:=λq=>e (Sum.inl.inj q)
  rw[decide_eq_false h];exact(N4.mpr e).symm
theorem Wr0(a b:Str):decide ((Sum.inr a:Key)=Sum.inr b)=decide (a=b):=by
 by_cases e:a=b
 ·subst e;simp
 ·have h:¬(Sum.inr a:Key)=Sum.inr b:=λq=>e (Sum.inr.inj q)
  rw[decide_eq_false h,decide_eq_false e]
theorem V60(a:Int)(b:Str):decide ((Sum.inl a:Key)=Sum.inr b)=false:=L8 (λq=>nomatch q)
theorem Xi0(a:Str)(b:Int):decide ((Sum.inr a:Key)=Sum.inl b)=false:=L8 (λq=>nomatch q)
def Y9(prog:Program)(w:World):PySem.KeyKind prog w Key where
 is:=su0
 hash:=Tf0 w
 inj:=λv a b ha hb=>by
  rcases Q4 ha with⟨i,t,rfl,rfl⟩|⟨x,t,rfl,rfl⟩
  ·rcases Q4 hb with⟨j,u,rfl,e⟩|⟨y,u,rfl,e⟩
   ·injection e with e1 _;rw[e1]
   ·exact nomatch e
  ·rcases Q4 hb with⟨j,u,rfl,e⟩|⟨y,u,rfl,e⟩
   ·exact nomatch e
   ·injection e with e1 _;rw[e1]
 byValue:=λk v h=>by
  rcases Q4 h with⟨i,t,rfl,rfl⟩|⟨x,t,rfl,rfl⟩<;>rfl
 pyHash:=λhv h=>by
  rcases Q4 hv with⟨i,t,rfl,rfl⟩|⟨x,t,rfl,rfl⟩
  ·exact p9 h
  ·exact q0 h
 eqBool:=λhu hv h=>by
  rcases Q4 hu with⟨i,t,rfl,rfl⟩|⟨x,t,rfl,rfl⟩
  ·rcases Q4 hv with⟨j,u,rfl,rfl⟩|⟨y,u,rfl,rfl⟩
   ·rw[Yz0] at h;exact v3 h
   ·rw[V60] at h;exact Q1 i t y u _ _ _ _ h
  ·rcases Q4 hv with⟨j,u,rfl,rfl⟩|⟨y,u,rfl,rfl⟩
   ·rw[Xi0] at h;exact Q2 x t j u _ _ _ _ h
   ·rw[Wr0] at h;exact wpAny_eqBool_str h
 «strs»:=λk x t v h=>by
  rcases Q4 h with⟨i,u,rfl,e⟩|⟨y,u,rfl,e⟩
  ·exact nomatch e
  ·injection e with e1 _
   subst e1;cases v<;>rfl
theorem kx0(prog:Program)(w:World)(i:Int)(t:Tok):(Y9 prog w).is (.inl i) (.int i t)=true:=fr0 i t
theorem kl0(prog:Program)(w:World)(x:Str)(t:Tok):(Y9 prog w).is (.inr x) (.str x t)=true:=gq0 x t
inductive V where
 | non|bl (b:Bool)|int (i:Int)|str (x:Str)|byt (b:Array UInt8)|flt (b:UInt64)|ref (a:Addr)|ty (n:String)
 deriving DecidableEq
variable{y:L2.V}{xs:List L2.V}{σ:List (Option L2.V)}{kvs:List (List L2.Key×L2.V)}
def RelV:V->Value->Prop
 | .non,u=>u=Value.none
 | .bl b,u=>u=Value.bool b
 | .int i,u=>∃t,u=Value.int i t
 | .str x,u=>∃t,u=Value.str x t
 | .byt b,u=>∃t,u=Value.bytes b t
 | .flt b,u=>∃t,u=Value.float b t
 | .ref a,u=>u=Value.ref a
 | .ty n,u=>u=Value.type n
abbrev Vals:List V->List Value->Prop:=Paired RelV
theorem Vals.length(r:Vals xs us):xs.length=us.length:=S0 r
theorem Vals.get:∀{xs:List V} {us:List Value} {i:Nat} {x:V},Vals xs us->xs[i]?=some x->∃u,us[i]?=some u/\RelV x u
 | _,_,_,_,.nil,e=>by simp at e
 | _,_,0,_,.cons r _,e=>by simp at e;subst e;exact⟨_,rfl,r⟩
 | _,_,i+1,x,.cons _ t,e=>by
  obtain⟨u,h1,h2⟩:=Vals.get (i:=i) (x:=x) t (by simpa using e);exact⟨u,by simpa using h1,h2⟩
theorem Vals.set{x:V}(r:RelV x u):∀{xs:List V} {us:List Value} (i:Nat),Vals xs us->Vals (xs.set i x) (us.set i u)
 | _,_,_,.nil=>.nil
 | _,_,0,.cons _ t=>.cons r t
 | _,_,i+1,.cons q t=>.cons q (Vals.set r i t)
theorem Vals.append:∀{xs ys:List V} {us ws:List Value},Vals xs us->Vals ys ws->Vals (xs++ys) (us++ws)
 | _,_,_,_,.nil,s=>s
 | _,_,_,_,.cons r t,s=>.cons r (Vals.append t s)
theorem Vals.take:∀{xs:List V} {us:List Value} (n:Nat),Vals xs us->Vals (xs.take n) (us.take n)
 | _,_,0,_=>.nil
 | _,_,_+1,.nil=>.nil
 | _,_,n+1,.cons r t=>.cons r (Vals.take n t)
theorem Vals.drop:∀{xs:List V} {us:List Value} (n:Nat),Vals xs us->Vals (xs.drop n) (us.drop n)
 | _,_,0,r=>r
 | _,_,_+1,.nil=>.nil
 | _,_,n+1,.cons _ t=>Vals.drop n t
def RelO:Option V->Option Value->Prop
 | some v,some u=>RelV v u
 | none,none=>True
 | _,_=>False
def KV{κ:Type}:List (κ×V)->List (κ×Value)->Prop:=Paired λ(p:κ×V) (q:κ×Value)=>p.1=q.1/\RelV p.2 q.2
def kV:Key->V
 | .inl i=>.int i
 | .inr x=>.str x
inductive HO where
 | lst (xs:List V)
 | tup (xs:List V)
 | dK (kvs:List (Key×V))|dT (kvs:List (List Key×V))|dX (kvs:List (TrK.T×V))
 | set (S:Int->Bool) (n:Nat)
 | ins (C dx:Addr) (fs:List (Str×V))
 | own (x:Addr)
 | xd (fs:List (Str×V))
 | met (f x:Addr)
 | rng (lo hi:Int)
 | frz (o:Obj) (u:HO)
 | tbl (ps:Array Value)
 | ext (φ:Heap->Prop)
abbrev Hp:=Addr->Option HO
def upd(H:Hp)(a:Addr)(o:HO):Hp:=λb=>if b=a then some o else H b
variable{H H' H2 H₀:L2.Hp}
theorem m8{o:HO}:upd H a o a=some o:=by unfold upd;rw[if_pos rfl]
theorem j7{b:Addr}{o:HO}(h:b≠a):upd H a o b=H b:=by unfold upd;rw[if_neg h]
theorem ik0{b:Addr}{o u:HO}(h:H a=some o)(h':H b=some u)(d:o≠u):a≠b:=by
 intro e;subst e;rw[h] at h';exact d (A8 h')
theorem T4{b:Addr}{o:HO}(h:H a=some o)(h':H b=none):a≠b:=by
 intro e;subst e;rw[h] at h';cases h'
def IsTupN(h:Heap)(a:Addr)(items:Array Value):Prop:=∃o,h.get? a=some o/\o.cls=.type "tuple"/\∃n,o.data=.seq items n/\o.dict=none
theorem IsTupN.tup{h:Heap}(x:IsTupN h a items):IsTup h a items:=let ⟨o,e,c,n,d,_⟩:=x;⟨o,e,c,n,d⟩
theorem IsTupN.new(h:Heap)(items:Array Value):IsTupN (h.push { cls:=.type "tuple",data:=.seq items }) h.objs.size items:=⟨_,C1 _ rfl,rfl,_,rfl,rfl⟩
mutual
def TrH(H:Hp):TrK.T->V->Prop
 | .non,v=>v=.non
 | .int i,v=>v=.int i
 | .str x,v=>v=.str x
 | .tup l,v=>∃a xs,v=.ref a/\H a=some (.tup xs)/\TrHs H l xs
def TrHs(H:Hp):List TrK.T->List V->Prop
 | [],xs=>xs=[]
 | t::l,xs=>∃x r,xs=x::r/\TrH H t x/\TrHs H l r
end
mutual
theorem TrH.mono(k:∀b xs,H b=some (.tup xs)->H' b=some (.tup xs)):∀(t:TrK.T) (v:V),TrH H t v->TrH H' t v
 | .non,v,h=>by unfold TrH at h ⊢;exact h
 | .int i,v,h=>by unfold TrH at h ⊢;exact h
 | .str x,v,h=>by unfold TrH at h ⊢;exact h
 | .tup l,v,h=>by
  unfold TrH at h ⊢;obtain⟨a,xs,e,q,r⟩:=h;exact⟨a,xs,e,k a xs q,TrHs.mono k l xs r⟩
theorem TrHs.mono(k:∀b xs,H b=some (.tup xs)->H' b=some (.tup xs)):∀(l:List TrK.T) (xs:List V),TrHs H l xs->TrHs H' l xs
 | [],xs,h=>by unfold TrHs at h ⊢;exact h
 | t::l,xs,h=>by
  unfold TrHs at h ⊢;obtain⟨x,r,e,h1,h2⟩:=h;exact⟨x,r,e,TrH.mono k t x h1,TrHs.mono k l r h2⟩
end
def qOf(ps:Array Value):Str:=match (ps[0]?:Option Value) with
 | some (.str q _)=>q
 | _ => ""
def TabOk(H:Hp)(h:Heap)(a:Addr)(q:Str):Prop:=∃cont:Array Value,h.get? a=some { cls:=.none,data:=.fields cont }/\TriplesOk cont.toList /\
 ∀pos cv,codeAmong pos cont.toList=some cv->∃c oc vs tq,cv=.ref c/\H c=some (.frz oc (.own c))/\oc.data=.fields vs/\vs[1]?=some (.str q tq)
section
variable(P:Program)(w:World)
def ObjOk(H:Hp)(h:Heap)(a:Addr):HO->Prop
 | .lst xs=>xs.length<=sizeLine/\∃(its:List Value) (n:Nat),Vals xs its/\h.get? a=some { cls:=.type "list",data:=.seq its.toArray n }
 | .tup xs=>xs.length<=sizeLine/\∃its:List Value,Vals xs its/\IsTupN h a its.toArray
 | .dK kvs=>kvs.length<=sizeLine/\(a==sysModules)=false/\∃vs,KV kvs vs/\h.DictOf (Y9 P w) a vs
 | .dT kvs=>kvs.length<=sizeLine/\(a==sysModules)=false/\∃xs:List (List Key×Addr×Value),
   Paired (λ(p:List Key×V) (q:List Key×Addr×Value)=>p.1=q.1/\H q.2.1=some (.tup (p.1.map kV))/\RelV p.2 q.2.2) kvs xs /\
   ∃o es ep,h.get? a=some o/\o.ExactDict/\o.data=.dict es ep/\es.toList=xs.map (entryOfKey (tupleKind (Y9 P w)))/\(xs.map (·.1)).Nodup/\ep=es.size
 | .dX kvs=>kvs.length<=sizeLine/\(a==sysModules)=false/\∃xs:List (TrK.T×Addr×Value),
   Paired (λ(p:TrK.T×V) (q:TrK.T×Addr×Value)=>p.1=q.1/\TrH H p.1 (.ref q.2.1)/\TrK.dep p.1<=8/\RelV p.2 q.2.2) kvs xs /\
   ∃o es ep,h.get? a=some o/\o.ExactDict/\o.data=.dict es ep/\es.toList=xs.map (entryOfKey (TrK.kind P w))/\(xs.map (·.1)).Nodup
 | .set S n=>h.SetOf (intKind P w) a S n
 | .ins C dx fs=>H dx=some (.own a)/\fs.length<=1000/\dx≠a/\h.get? a=some (W.instObj C dx) /\
   ∃mA,h.Ns1 dx mA/\(∀f,RelO (fs.lookup f) (mA f))/\PySem.Within mA (fs.map (·.1))
 | .own _=>∃o,h.get? a=some o
 | .xd fs=>∃mA,h.Ns1 a mA/\∀f,RelO (fs.lookup f) (mA f)
 | .rng lo hi=>∃t u v,h.get? a=some { cls:=.type "range",data:=.fields #[.int lo t,.int hi u,.int 1 v] }
 | .frz o u=>h.get? a=some o/\ObjOk H h a u
 | .tbl ps=>TabOk H h a (qOf ps)
 | .met f x=>h.get? a=some (W.methodObj (.ref f) (.ref x))
 | .ext φ=>φ h/\(∃o,h.get? a=some o)/\∀h1 h2:Heap,φ h1->(∀o,h1.get? a=some o->h2.get? a=some o)->φ h2
def HOk(H:Hp)(h:Heap):Prop:=∀a o,H a=some o->ObjOk P w H h a o
end
section
variable{P:Program}{w:World}{h:Heap}{o:HO}
theorem ObjOk.lt(x:ObjOk P w H h a o):a<h.objs.size:=by
 cases o with
 | lst xs=>obtain⟨_,_,_,_,e⟩:=x;exact A6 e
 | tup xs=>obtain⟨_,_,_,p⟩:=x;exact p.tup.lt
 | dK kvs=>obtain⟨_,_,_,_,o,_,_,e,_⟩:=x;exact A6 e
 | dT kvs=>obtain⟨_,_,_,_,o,_,_,e,_⟩:=x;exact A6 e
 | dX kvs=>obtain⟨_,_,_,_,o,_,_,e,_⟩:=x;exact A6 e
 | set S n=>obtain⟨o,_,_,_,e,_⟩:=x;exact A6 e
 | ins C dx fs=>obtain⟨_,_,_,e,_⟩:=x;exact A6 e
 | own y=>obtain⟨_,e⟩:=x;exact A6 e
 | xd fs=>obtain⟨_,⟨_,_,_,e,_⟩,_⟩:=x;exact A6 e
 | rng lo hi=>obtain⟨_,_,_,e⟩:=x;exact A6 e
 | frz ob u=>obtain⟨e,_⟩:=x;exact A6 e
 | tbl ps=>obtain⟨_,e,_⟩:=(show TabOk H h a (qOf ps) from x);exact A6 e
 | met f y=>exact A6 (show h.get? a=some _ from x)
 | ext φ=>obtain⟨_,⟨_,e⟩,_⟩:=x;exact A6 e
theorem Paired.mapP{F G:α->β->Prop}:∀{l₁:List α} {l₂:List β},Paired F l₁ l₂->(∀a b,F a b->G a b)->Paired G l₁ l₂
 | _,_,.nil,_=>.nil
 | _,_,.cons r t,f=>.cons (f _ _ r) (Paired.mapP t f)
theorem ObjOk.stay(x:ObjOk P w H h a o)(k:∀b u,(b=a∨H b=some (.own a))->h.get? b=some u->h'.get? b=some u)
  (ho:∀b,H b=some (.own a)->H' b=some (.own a)) (ht:∀b xs,H b=some (.tup xs)->H' b=some (.tup xs)) (hf:∀b ob u,H b=some (.frz ob u)->H' b=some (.frz ob u)):ObjOk P w H' h' a o:=by
 induction o with
 | lst xs=>obtain⟨z,its,n,r,e⟩:=x;exact⟨z,its,n,r,k _ _ (.inl rfl) e⟩
 | tup xs=>obtain⟨z,its,r,ob,e,c⟩:=x;exact⟨z,its,r,ob,k _ _ (.inl rfl) e,c⟩
 | dK kvs=>obtain⟨z,y,vs,r,ob,es,ep,e,c⟩:=x;exact⟨z,y,vs,r,ob,es,ep,k _ _ (.inl rfl) e,c⟩
 | dT kvs =>
  obtain⟨z,y,xs,r,ob,es,ep,e,c⟩:=x;exact⟨z,y,xs,Paired.mapP r λp q z=>⟨z.1,ht _ _ z.2.1,z.2.2⟩,ob,es,ep,k _ _ (.inl rfl) e,c⟩
 | dX kvs =>
  obtain⟨z,y,xs,r,ob,es,ep,e,c⟩:=x;exact⟨z,y,xs,Paired.mapP r λp q z=>⟨z.1,TrH.mono ht _ _ z.2.1,z.2.2⟩,ob,es,ep,k _ _ (.inl rfl) e,c⟩
 | set S n=>obtain⟨ob,es,ep,t,e,c⟩:=x;exact⟨ob,es,ep,t,k _ _ (.inl rfl) e,c⟩
 | ins C dx fs =>
  obtain⟨d,z,ne,e,mA,⟨od,es,ep,e2,c⟩,r⟩:=x;exact⟨ho _ d,z,ne,k _ _ (.inl rfl) e,mA,⟨od,es,ep,k _ _ (.inr d) e2,c⟩,r⟩
 | own y=>obtain⟨ob,e⟩:=x;exact⟨ob,k _ _ (.inl rfl) e⟩
 | xd fs=>obtain⟨mA,⟨od,es,ep,e,c⟩,r⟩:=x;exact⟨mA,⟨od,es,ep,k _ _ (.inl rfl) e,c⟩,r⟩
 | rng lo hi=>obtain⟨t,u,v,e⟩:=x;exact⟨t,u,v,k _ _ (.inl rfl) e⟩
 | frz ob u ih=>obtain⟨e,q⟩:=x;exact⟨k _ _ (.inl rfl) e,ih q⟩
 | tbl ps =>
  obtain⟨cont,e,t,c⟩:=(show TabOk H h a (qOf ps) from x);exact⟨cont,k a _ (.inl rfl) e,t,λpos cv q=>let ⟨c',oc,vs,tq,z1,z2,z3⟩:=c pos cv q;⟨c',oc,vs,tq,z1,hf _ _ _ z2,z3⟩⟩
 | met f y =>
  have e:h.get? a=some (W.methodObj (.ref f) (.ref y)):=x;show h'.get? a=some (W.methodObj (.ref f) (.ref y));exact k a _ (.inl rfl) e
 | ext φ=>obtain⟨p,⟨o,e⟩,st⟩:=x;exact⟨st _ _ p λo q=>k _ _ (.inl rfl) q,⟨o,k _ _ (.inl rfl) e⟩,st⟩
theorem HOk.lt(x:HOk P w H h)(e:H a=some o):a<h.objs.size:=(x a o e).lt
theorem HOk.fresh(x:HOk P w H h)(e:h.objs.size<=a):H a=none:=by
 cases q:H a with
 | none=>rfl
 | some u=>exact absurd (B5 (x.lt q) e) (C7 _)
theorem HOk.kept(x:HOk P w H h)(k:∀b u,h.get? b=some u->h'.get? b=some u):HOk P w H h':=λa o e =>
 (x a o e).stay (λb u _ q=>k b u q) (λ_ q=>q) (λ_ _ q=>q) λ_ _ _ q=>q
theorem HOk.laid(x:HOk P w H h)(k:∀b u,h.get? b=some u->h'.get? b=some u)(hp:h.objs.size<=a)(new:ObjOk P w (upd H a o) h' a o):HOk P w (upd H a o) h':=λb u e=>by
 have hn:=x.fresh hp
 by_cases hb:b=a
 ·subst hb;rw[m8] at e;cases e;exact new
 ·rw[j7 hb] at e
  exact(x b u e).stay (λc v _ q=>k c v q) (λc q=>by rw[j7 (T4 q hn)];exact q) (λc xs q=>by rw[j7 (T4 q hn)];exact q) λc ob u' q=>by rw[j7 (T4 q hn)];exact q
end
def Rd(H:Hp)(a:Addr)(u:HO):Prop:=H a=some u∨∃o,H a=some (.frz o u)
theorem Rd.ok{P:Program}{w:World}{h:Heap}{u:HO}(r:Rd H a u)(x:HOk P w H h):ObjOk P w H h a u:=by
 rcases r with r|⟨o,r⟩
 ·exact x a u r
 ·obtain⟨_,q⟩:=x a _ r
  exact q
def Mut:Option HO->Prop
 | some (.lst _)=>True
 | some (.dK _)=>True
 | some (.dT _)=>True
 | some (.dX _)=>True
 | some (.set _ _)=>True
 | some (.ins _ _ _)=>True
 | some (.ext _)=>True
 | _=>False
section
variable{P:Program}{w:World}{h:Heap}{x e:Addr}{o':HO}
theorem HOk.write(ok:HOk P w H h)(mu:Mut (H x))(he:e=x∨H e=some (.own x))(k:∀b u,b≠e->h.get? b=some u->h'.get? b=some u)(heo:∃u,h'.get? e=some u)
  (new:ObjOk P w (upd H x o') h' x o'):HOk P w (upd H x o') h':=λb u q=>by
 have J:∀c y,H c=some (.own y)->c≠x:=λc y r z=>by subst z;rw[r] at mu;exact mu
 have O:∀c xs,H c=some (.tup xs)->c≠x:=λc xs r z=>by subst z;rw[r] at mu;exact mu
 have M:∀c ob u',H c=some (.frz ob u')->c≠x:=λc ob u' r z=>by subst z;rw[r] at mu;exact mu
 by_cases hb:b=x
 ·subst hb;rw[m8] at q;cases q;exact new
 ·rw[j7 hb] at q
  by_cases hbe:b=e
  ·have q':H b=some (.own x):=by
    rcases he with z|z
    ·exact absurd (hbe.trans z) hb
    ·rw[hbe];exact z
   rw[q] at q';cases q';obtain⟨v,hv⟩:=heo;exact⟨v,by rw[hbe];exact hv⟩
  ·refine(ok b u q).stay (λc v hc r=>k c v ?_ r) (λc r=>by rw[j7 (J c b r)];exact r) (λc xs r=>by rw[j7 (O c xs r)];exact r) λc ob u' r=>by rw[j7 (M c ob u' r)];exact r
   rcases hc with rfl|hc
   ·exact hbe
   ·rintro rfl
    rcases he with z|z
    ·exact J c b hc z
    ·rw[hc] at z;cases z;exact hb rfl
end
structure Un(fs ex:List Addr)(H H':Hp)(h h':Heap):Prop where
 keep:∀b o,h.get? b=some o->H b=none->b∉fs->b∉ex->h'.get? b=some o
 slot:∀b o,h.get? b=some o->H b=none->b∈fs->b∉ex->∃sl,h'.get? b=some { o with slots:=sl }
 free:∀b o,h.get? b=some o->H b=none->b∉ex->H' b=none
 there:∀b o,h.get? b=some o->b∉ex->∃o',h'.get? b=some o'
 tups:∀b xs,H b=some (.tup xs)->H' b=some (.tup xs)
 frzs:∀b o u,H b=some (.frz o u)->H' b=some (.frz o u)
 tbls:∀b ps,H b=some (.tbl ps)->∃more,H' b=some (.tbl (ps++more))
section
variable{fs fs' ex ex':List Addr}{H1:Hp}{h h1 h2:Heap}{x e:Addr}{o:HO}
theorem Un.any(u:Un fs ex H H1 h h1){b:Addr}{ob:Obj}(q:h.get? b=some ob)(n:H b=none)(hx:b∉ex):∃sl,h1.get? b=some { ob with slots:=sl }:=by
 by_cases hb:b∈fs
 ·exact u.slot b ob q n hb hx
 ·exact⟨ob.slots,u.keep b ob q n hb hx⟩
theorem Un.kept(k:∀b u,h.get? b=some u->h'.get? b=some u):Un fs ex H H h h' :=
 ⟨λb ob q _ _ _=>k b ob q,λb ob q _ _ _=>⟨ob.slots,k b ob q⟩,λ_ _ _ n _=>n,λb ob q _=>⟨ob,k b ob q⟩,λ_ _ q=>q,λ_ _ _ q=>q,λ_ ps q=>⟨#[],by rw[q];simp⟩⟩
theorem Un.refl:Un fs ex H H h h:=Un.kept λ_ _ q=>q
theorem Un.laid(k:∀b u,h.get? b=some u->h'.get? b=some u)(hp:h.objs.size<=a)(hn:H a=none):Un fs ex H (upd H a o) h h' where
 keep:=λb u q _ _ _=>k b u q
 slot:=λb u q _ _ _=>⟨u.slots,k b u q⟩
 free:=λb u q n _=>by rw[j7 (A9 (B5 (A6 q) hp))];exact n
 there:=λb u q _=>⟨u,k b u q⟩
 tups:=λb xs q=>by rw[j7 (T4 q hn)];exact q
 frzs:=λb u xs q=>by rw[j7 (T4 q hn)];exact q
 tbls:=λb ps q=>⟨#[],by rw[j7 (T4 q hn),q];simp⟩
theorem Un.write(mu:Mut (H x))(he:e=x∨H e=some (.own x))(k:∀b u,b≠e->h.get? b=some u->h'.get? b=some u)(heo:∃u,h'.get? e=some u):Un fs ex H (upd H x o) h h':=by
 have hx:∀b,H b=none->b≠x:=λb n z=>by subst z;rw[n] at mu;exact mu
 have hb:∀b,H b=none->b≠e:=λb n z=>by
  subst z;rcases he with r|r
  ·exact hx b n r
  ·rw[n] at r;cases r
 have hm:∀b u,H b=some u->¬Mut (some u)->b≠x:=λb u q nm z=>by subst z;rw[q] at mu;exact nm mu
 refine⟨λb u q n _ _=>k b u (hb b n) q,λb u q n _ _=>⟨u.slots,k b u (hb b n) q⟩,λb u q n _=>by rw[j7 (hx b n)];exact n,λb u q _=>?_,
  λb xs q=>by rw[j7 (hm b _ q λz=>z)];exact q,λb u xs q=>by rw[j7 (hm b _ q λz=>z)];exact q,λb ps q=>⟨#[],by rw[j7 (hm b _ q λz=>z),q];simp⟩⟩
 by_cases hbe:b=e
 ·subst hbe;exact heo
 ·exact⟨u,k b u hbe q⟩
end
def trk(h:Heap)(H:Hp):List Addr:=(List.range h.objs.size).filter λa=>(H a).isSome
def un0(h:Heap)(H:Hp):Heap:=W.hideAll h (trk h H)
theorem fk0(h:Heap)(H:Hp):(un0 h H).objs.size=h.objs.size:=W.hideAll_size _ _
theorem cr0{h:Heap}{b:Addr}{o:Obj}(e:h.get? b=some o)(n:H b=none):(un0 h H).get? b=some o :=
 W.hideAll_get _ e λhm=>by
  have q:(H b).isSome=true:=(List.mem_filter.mp hm).2;rw[n] at q;simp at q
theorem Zk0{h:Heap}{b:Addr}{o:Obj}(e:(un0 h H).get? b=some o):h.get? b=some o/\H b=none:=by
 have e':h.get? b=some o:=W.of_hideAll (trk h H) e;refine⟨e',?_⟩;cases q:H b with
 | none=>rfl
 | some x =>
  have hm:b∈trk h H:=List.mem_filter.mpr ⟨C3.mpr (A6 e'),by simp[q]⟩;have z:(un0 h H).get? b=none:=W.hideAll_none (trk h H) hm;rw[z] at e;cases e
end L2
variable{y:L2.V}{xs:List L2.V}{H H' H2 H₀:L2.Hp}{σ:List (Option L2.V)}{ks:List L2.Key}{kvs:List (List L2.Key×L2.V)}
namespace L2
open Spec PyProof.Rows
structure Mod(K:W.Frag)(mg:Str->Option Value)(base:Heap):Prop where
 kin:K.In base
 glob:base.Ns mainGlobals mg
 blt:∃mb,base.Ns builtinsNs mb/\∀x:Str,x ≠"__name__"->mb x=bootBuiltins x
 nolimit:base.NoLimit
structure Cx where
 prog:Program
 w:World
 K:W.Frag
 mg:Str->Option Value
 base:Heap
 A:Around
 N:List Str
 s₀:Shared
 H₀:Hp
 env:Env
 outer:List Env
 stack:List Env
 ex:List Addr
 fn:Str->Bool
 calm:Bool
 pn:List (Addr×Obj)
 xe:Value->Shared->Prop
variable{X:L2.Cx}
def frs(l:List Env):List Addr:=l.filterMap (·.frame)
abbrev Cx.fs(X:Cx):List Addr:=frs X.outer
def Vis(sc:Scope)(x:Str):Prop:=sc.names.lookup x=some .local∨sc.names.lookup x=some .cell∨sc.names.lookup x=some .free
def Loc(sc:Scope)(x:Str):Prop:=sc.names.lookup x=some .local∨sc.names.lookup x=some .cell
def Look(env:Env)(h:Heap)(m:Str->Option Value)(x:Str)(u:Value):Prop :=
 (env.kindOf x=some .local/\m x=some u)∨((env.kindOf x=some .cell∨env.kindOf x=some .free)/\∃c,env.cells.lookup x=some c/\h.IsCell c (some u))
structure Cx.Ok(X:Cx):Prop where
 mod:Mod X.K X.mg X.base
 kind:X.env.scope.kind=.function
 glob:X.env.globals=mainGlobals
 blt:X.env.builtins=builtinsNs
 above:X.s₀.heap.objs.size<=X.env.locals
 inj:∀x y c,X.env.cells.lookup x=some c->X.env.cells.lookup y=some c->x=y
 has:∀x,(X.env.kindOf x=some .cell∨X.env.kindOf x=some .free)->∃c,X.env.cells.lookup x=some c
 cab:∀x c,X.fn x=true->X.env.cells.lookup x=some c->X.s₀.heap.objs.size<=c
 hd:X.calm=true->X.A.handled=none
 frames:X.A.frames=some X.stack
 stk:X.stack=X.outer∨(X.stack=X.env::X.outer/\X.env.frame=some X.env.locals)
 exf:∀b∈X.ex,b≠X.env.locals/\∀x c,X.env.cells.lookup x=some c->c≠b
 bs:∀b o,X.base.get? b=some o->X.s₀.heap.get? b=some o/\X.H₀ b=none
 bsz:X.base.objs.size<=X.s₀.heap.objs.size
 noex:∀b o,X.base.get? b=some o->b∉X.ex
 exfs:∀b∈X.ex,b∉X.fs
 funs:X.s₀.heap.FunFrames X.base X.outer
 frf:∀b∈X.fs,X.H₀ b=none
structure Inv(X:Cx)(pins:List (Addr×Obj))(σ:List (Option V))(H:Hp)(s:Shared):Prop where
 ok:X.Ok
 os:s.os=X.s₀.os
 bare:AllBare s.gens
 base:Un X.fs X.ex X.H₀ H X.s₀.heap s.heap
 loc:∃m,s.heap.Ns X.env.locals m/\∀(i:Nat) (x:Str) (v:V),X.N[i]?=some x->σ[i]?=some (some v)->Vis X.env.scope x->∃u,RelV v u/\Look X.env s.heap m x u
 cell:∀x c,X.env.cells.lookup x=some c->∃v,s.heap.IsCell c v
 free:H X.env.locals=none
 freeC:∀x c,X.env.cells.lookup x=some c->H c=none
 pin:∀p∈X.pn++pins,s.heap.get? p.1=some p.2/\H p.1=none/\p.1≠X.env.locals/\p.1∉X.fs/\∀v,p.2.data≠.cell v
 hok:HOk X.prog X.w H s.heap
 len:σ.length=X.N.length
section
variable{s:Shared}
theorem Cx.Ok.nofr(ok:X.Ok){b:Addr}{o:Obj}(e:X.base.get? b=some o):b∉X.fs:=λhb=>by
 have:=(ok.funs.mem hb).1;rw[e] at this;cases this
theorem Inv.bs(I:Inv X pins σ H s):∀b o,X.base.get? b=some o->s.heap.get? b=some o/\H b=none:=λb o e =>
 ⟨I.base.keep b o (I.ok.bs b o e).1 (I.ok.bs b o e).2 (I.ok.nofr e) (I.ok.noex b o e),I.base.free b o (I.ok.bs b o e).1 (I.ok.bs b o e).2 (I.ok.noex b o e)⟩
theorem Inv.bk(I:Inv X pins σ H s):∀b o,X.base.get? b=some o->s.heap.get? b=some o:=λb o e=>(I.bs b o e).1
theorem Inv.mod(I:Inv X pins σ H s):Mod X.K X.mg X.base:=I.ok.mod
theorem Inv.kIn(I:Inv X pins σ H s):X.K.In s.heap:=I.ok.mod.kin.keeps I.bk
theorem Inv.lt(I:Inv X pins σ H s):X.env.locals<s.heap.objs.size:=let ⟨_,hn,_⟩:=I.loc;hn.lt
theorem Inv.sz(I:Inv X pins σ H s):X.s₀.heap.objs.size<=s.heap.objs.size:=C0 I.ok.above (K0 I.lt)
theorem Inv.nofs(I:Inv X pins σ H s)(h:s.heap.objs.size<=a):a∉X.fs:=λhb=>by
 obtain⟨_,o,ho,_⟩:=I.ok.funs.mem hb;exact absurd (B5 (A6 ho) (C0 I.sz h)) (C7 _)
theorem Inv.cne(I:Inv X pins σ H s):∀x c,X.env.cells.lookup x=some c->c≠X.env.locals:=λx c e z=>by
 obtain⟨v,o,ho,hd⟩:=I.cell x c e;obtain⟨m,⟨o',es,ep,M,J,_⟩,_⟩:=I.loc;rw[z,M] at ho;cases ho;rw[J] at hd;cases hd
theorem Inv.funs(I:Inv X pins σ H s):s.heap.FunFrames X.base X.outer:=by
 have all:∀(l:List Env),(∀b∈frs l,b∈X.fs)->X.s₀.heap.FunFrames X.base l->s.heap.FunFrames X.base l:=by
  intro l
  induction l with
  | nil=>intro _ _;trivial
  | cons env r ih =>
   intro hs hl;obtain⟨hk,⟨L,o,hf,hn,ho,hd⟩,hr⟩:=hl;have hL:L∈X.fs:=hs L (by unfold frs;rw[List.filterMap_cons,hf];exact A5);obtain⟨sl,e⟩:=I.base.slot L o ho (I.ok.frf L hL) hL λz=>I.ok.exfs L z hL
   exact⟨hk,⟨L,_,hf,hn,e,hd⟩,ih (λb hb=>hs b (by unfold frs;rw[List.filterMap_cons,hf];exact A3 _ hb)) hr⟩
 exact all X.outer (λ_ hb=>hb) I.ok.funs
theorem Inv.stack(I:Inv X pins σ H s):s.heap.FunFrames X.base X.stack:=by
 rcases I.ok.stk with e|⟨e,hf⟩
 ·rw[e];exact I.funs
 ·rw[e]
  obtain⟨m,hn,_⟩:=I.loc;refine .cons (by rw[I.ok.kind];decide) hf hn ?_ I.funs;exact Heap.get?_none_of_le (C0 I.ok.bsz I.ok.above)
theorem Inv.stkSub(I:Inv X pins σ H s):∀b∈frs X.stack,b∈X.env.locals::X.fs:=λb hb=>by
 rcases I.ok.stk with e|⟨e,hf⟩
 ·rw[e] at hb;exact A3 _ hb
 ·rw[e] at hb
  unfold frs at hb;rw[List.filterMap_cons,hf] at hb;exact hb
theorem Inv.stkFree(I:Inv X pins σ H s):∀b∈frs X.stack,H b=none:=λb hb=>by
 rcases A4.mp (I.stkSub b hb) with e|hb
 ·rw[e];exact I.free
 ·obtain⟨_,o,ho,_⟩:=I.ok.funs.mem hb
  exact I.base.free b o ho (I.ok.frf b hb) λz=>I.ok.exfs b z hb
theorem Inv.step{g':Array GenState}{t':Nat}{d':Drawn}{ch:List Addr}(I:Inv X pins σ H s)
  (hch:∀b∈ch,(b∈X.ex∨X.s₀.heap.objs.size<=b)/\b≠X.env.locals/\(∀x c,X.env.cells.lookup x=some c->c≠b)/\∀p∈X.pn++pins,p.1≠b)
  (keep:∀b o,b≠X.env.locals->b∉X.fs->b∉ch->s.heap.get? b=some o->H b=none->h'.get? b=some o)
  (slot:∀b o,b≠X.env.locals->b∈X.fs->b∉ch->s.heap.get? b=some o->H b=none->∃sl,h'.get? b=some { o with slots:=sl }) (free:∀b o,b∉ch->s.heap.get? b=some o->H b=none->H' b=none)
  (there:∀b o,b∉ch->s.heap.get? b=some o->∃o',h'.get? b=some o')
  (tups:∀b xs,H b=some (.tup xs)->H' b=some (.tup xs)) (frzs:∀b o u,H b=some (.frz o u)->H' b=some (.frz o u)) (tbls:∀b ps,H b=some (.tbl ps)->∃more,H' b=some (.tbl (ps++more)))
  (ns:∀m,s.heap.Ns X.env.locals m->h'.Ns X.env.locals m) (hok:HOk X.prog X.w H' h') (hg:AllBare g') :
  Inv X pins σ H' { s with heap:=h',gens:=g',drawn:=d',toks:=t' }:=by
 have Z:∀b o,X.s₀.heap.get? b=some o->b≠X.env.locals:=λb o e=>A9 (B5 (A6 e) I.ok.above)
 have O:∀b o,X.s₀.heap.get? b=some o->b∉X.ex->b∉ch:=λb o e hx hb=>by
  rcases (hch b hb).1 with z|z
  ·exact hx z
  ·exact absurd (B5 (A6 e) z) (C7 _)
 have M:∀x c,X.env.cells.lookup x=some c->∀v,s.heap.IsCell c v->h'.IsCell c v:=λx c e v ⟨o,ho,hd⟩=>by
  have J:c∉ch:=λz=>(hch c z).2.2.1 x c e rfl
  by_cases hc:c∈X.fs
  ·obtain⟨sl,q⟩:=slot c o (I.cne x c e) hc J ho (I.freeC x c e)
   exact⟨_,q,hd⟩
  ·exact⟨o,keep c o (I.cne x c e) hc J ho (I.freeC x c e),hd⟩
 refine⟨I.ok,I.os,hg,⟨λb o e n hb hx=>?_,λb o e n hb hx=>?_,λb o e n hx=>?_,λb o e hx=>?_,λb xs e=>tups b xs (I.base.tups b xs e),λb o xs e=>frzs b o xs (I.base.frzs b o xs e),λb ps e=>?_⟩,?_,λx c e=>?_,?_,λx c e=>?_,λp hp=>?_,hok,I.len⟩
 ·exact keep b o (Z b o e) hb (O b o e hx) (I.base.keep b o e n hb hx) (I.base.free b o e n hx)
 ·obtain⟨sl,e1⟩:=I.base.slot b o e n hb hx
  obtain⟨a0,e2⟩:=slot b _ (Z b o e) hb (O b o e hx) e1 (I.base.free b o e n hx);exact⟨a0,e2⟩
 ·obtain⟨o',e1⟩:=I.base.there b o e hx
  exact free b o' (O b o e hx) e1 (I.base.free b o e n hx)
 ·obtain⟨o',e1⟩:=I.base.there b o e hx
  exact there b o' (O b o e hx) e1
 ·obtain⟨m1,e1⟩:=I.base.tbls b ps e
  obtain⟨m2,e2⟩:=tbls b _ e1;exact⟨m1++m2,by rw[e2,Array.append_assoc]⟩
 ·obtain⟨m,hn,hl⟩:=I.loc
  refine⟨m,ns m hn,λi x v e1 e2 e3=>?_⟩;obtain⟨u,r,l⟩:=hl i x v e1 e2 e3;refine⟨u,r,?_⟩;rcases l with l|⟨k,c,e,z⟩
  ·exact .inl l
  ·exact .inr ⟨k,c,e,M x c e _ z⟩
 ·obtain⟨v,z⟩:=I.cell x c e
  exact⟨v,M x c e v z⟩
 ·obtain⟨m,⟨o,_,_,ho,_⟩,_⟩:=I.loc
  exact free _ o (λz=>(hch _ z).2.1 rfl) ho I.free
 ·obtain⟨v,o,ho,hd⟩:=I.cell x c e
  exact free c o (λz=>(hch c z).2.2.1 x c e rfl) ho (I.freeC x c e)
 ·obtain⟨e,n,ne,nf,d⟩:=I.pin p hp
  have J:p.1∉ch:=λz=>(hch p.1 z).2.2.2 p hp rfl
  exact⟨keep p.1 p.2 ne nf J e n,free p.1 p.2 J e n,ne,nf,d⟩
theorem Inv.un(I:Inv X pins σ H s)(u:Un X.fs [] H H' s.heap h')(hok:HOk X.prog X.w H' h'):Inv X pins σ H' { s with heap:=h',toks:=t' }:=by
 obtain⟨m,⟨o,es,ep,ho,r⟩,_⟩:=id I.loc;obtain⟨sl,hL⟩:=u.any ho I.free (by simp);exact I.step (g':=s.gens) (d':=s.drawn) (ch:=[]) (λ_ z=>nomatch z) (λb o _ hb _ e n=>u.keep b o e n hb (by simp)) (λb o _ hb _ e n=>u.slot b o e n hb (by simp)) (λb o _ e n=>u.free b o e n (by simp)) (λb o _ e=>u.there b o e (by simp)) u.tups u.frzs u.tbls (λm' hm=>by
  obtain⟨o',O,M,J,r'⟩:=hm;rw[ho] at J;cases J;exact⟨_,O,M,hL,r'⟩) hok I.bare
theorem Inv.call{g':Array GenState}{t':Nat}{d':Drawn}(I:Inv X pins σ H s)(u:Un (frs X.stack) ch H H' s.heap h')(hok:HOk X.prog X.w H' h')(hg:AllBare g')
  (hch:∀b∈ch,(b∈X.ex∨X.s₀.heap.objs.size<=b)/\b≠X.env.locals/\(∀x c,X.env.cells.lookup x=some c->c≠b)/\∀p∈X.pn++pins,p.1≠b) :
  Inv X pins σ H' { s with heap:=h',gens:=g',drawn:=d',toks:=t' }:=by
 obtain⟨m,⟨o,es,ep,ho,r⟩,_⟩:=id I.loc;obtain⟨sl,hL⟩:=u.any ho I.free λz=>(hch _ z).2.1 rfl
 exact I.step (ch:=ch) hch (λb o hL hb hc e n=>u.keep b o e n (λz=>(A4.mp (I.stkSub b z)).elim hL hb) hc) (λb o _ _ hc e n=>u.any e n hc) (λb o hc e n=>u.free b o e n hc) (λb o hc e=>u.there b o e hc) u.tups u.frzs u.tbls (λm' hm=>by
  obtain⟨o',O,M,J,r'⟩:=hm;rw[ho] at J;cases J;exact⟨_,O,M,hL,r'⟩) hok hg
theorem Inv.turned{t':Nat}(I:Inv X pins σ H s)(k:∀b o,b≠it->s.heap.get? b=some o->h'.get? b=some o)(hn:H it=none)(hL:it≠X.env.locals)
  (h1:it∈X.ex∨X.s₀.heap.objs.size<=it) (h2:∀x c,X.env.cells.lookup x=some c->c≠it) (h3:∀p∈X.pn++pins,p.1≠it):Inv X pins σ H { s with heap:=h',toks:=t' }:=by
 have J:∀b u,H b=some u->b≠it:=λb u e z=>by rw[z,hn] at e;cases e
 refine I.step (g':=s.gens) (d':=s.drawn) (ch:=[it]) (λb hb=>?_) (λb o _ _ hc e _=>k b o (λz=>hc (by simp[z])) e) (λb o _ _ hc e _=>⟨o.slots,k b o (λz=>hc (by simp[z])) e⟩) (λ_ _ _ _ n=>n)
  (λb o hc e=>⟨o,k b o (λz=>hc (by simp[z])) e⟩) (λ_ _ e=>e) (λ_ _ _ e=>e) (λb ps e=>⟨#[],by rw[e];simp⟩) (λm hm=>?_) (λb u e=>?_) I.bare
 ·have e:b=it:=by simpa using hb
  subst e;exact⟨h1,hL,h2,h3⟩
 ·obtain⟨o,es,ep,ho,r⟩:=hm
  exact⟨o,es,ep,k _ o (B6 hL) ho,r⟩
 ·refine(I.hok b u e).stay (λc v hc q=>k c v ?_ q) (λ_ q=>q) (λ_ _ q=>q) λ_ _ _ q=>q
  rcases hc with z|z
  ·rw[z];exact J b u e
  ·exact J c _ z
theorem Inv.tok(I:Inv X pins σ H s)(t:Nat):Inv X pins σ H { s with toks:=t }:=I.un (h':=s.heap) (t':=t) Un.refl I.hok
theorem Inv.kept(I:Inv X pins σ H s)(k:∀b u,s.heap.get? b=some u->h'.get? b=some u):Inv X pins σ H { s with heap:=h',toks:=t' }:=I.un (Un.kept k) (I.hok.kept k)
theorem Inv.laid{o:HO}{t':Nat}(I:Inv X pins σ H s)(k:∀b u,s.heap.get? b=some u->h'.get? b=some u)(hp:s.heap.objs.size<=a)(new:ObjOk X.prog X.w (upd H a o) h' a o) :
  Inv X pins σ (upd H a o) { s with heap:=h',toks:=t' }:=I.un (Un.laid k hp (I.hok.fresh hp)) (I.hok.laid k hp new)
theorem Inv.write{x e:Addr}{o:HO}{t':Nat}(I:Inv X pins σ H s)(mu:Mut (H x))(he:e=x∨H e=some (.own x))(k:∀b u,b≠e->s.heap.get? b=some u->h'.get? b=some u)(heo:∃u,h'.get? e=some u)
  (new:ObjOk X.prog X.w (upd H x o) h' x o):Inv X pins σ (upd H x o) { s with heap:=h',toks:=t' }:=I.un (Un.write mu he k heo) (I.hok.write mu he k heo new)
theorem Inv.weak{σ':List (Option V)}(I:Inv X pins σ H s)(hl:σ'.length=σ.length)(w:∀(i:Nat) v,σ'[i]?=some (some v)->σ[i]?=some (some v)):Inv X pins σ' H s :=
 ⟨I.ok,I.os,I.bare,I.base,let ⟨m,hn,hl'⟩:=I.loc;⟨m,hn,λi x v e1 e2 e3=>hl' i x v e1 (w i v e2) e3⟩,I.cell,I.free,I.freeC,I.pin,I.hok,hl.trans I.len⟩
theorem Inv.pins_of{pins':List (Addr×Obj)}(I:Inv X pins σ H s)(h:∀p∈pins',s.heap.get? p.1=some p.2/\H p.1=none/\p.1≠X.env.locals/\p.1∉X.fs/\∀v,p.2.data≠.cell v):Inv X pins' σ H s :=
 ⟨I.ok,I.os,I.bare,I.base,I.loc,I.cell,I.free,I.freeC,λp hp=>(B1.mp hp).elim (λz=>I.pin p (E1 _ z)) (h p),I.hok,I.len⟩
theorem ly0(hN:N.Nodup)(a:N[i]?=some x)(b:N[j]?=some x):i=j:=by
 obtain⟨h1,e1⟩:=D0.mp a;obtain⟨h2,e2⟩:=D0.mp b;exact(i5 hN).mp (e1.trans e2.symm)
theorem ox0{M:Model}{A:Around}{E:Value->Shared->Prop}{v:V}{Q:Unit->Shared->Prop}(I:Inv X pins σ H s)(hN:X.N.Nodup)(hi:X.N[i]?=some x)(hx:Loc X.env.scope x)(r:RelV v u)
  (h:∀s',Inv X pins (σ.set i (some v)) H s'->(∃a,Heap.SameBut a s.heap s'.heap/\(a=X.env.locals∨X.env.cells.lookup x=some a))->Q () s') (hf:X.fn x=true∨X.env.scope.names.lookup x=some .local:=by first|exact .inl rfl|exact .inr rfl|assumption):wpAny M A (storeName X.env x u) Q E s:=by
 obtain⟨m,hn,hl⟩:=id I.loc;have a2:(X.env.scope.kind==.class||(X.env.scope.kind==.module&&X.env.locals != X.env.globals))=false:=by rw[I.ok.kind];rfl
 have hiσ:i<σ.length:=by rw[I.len];exact(D0.mp hi).1
 have cne:=I.cne;have J:∀{a:Addr} {h':Heap},(∃o,s.heap.get? a=some o/\H a=none)->Heap.SameBut a s.heap h'->HOk X.prog X.w H h':=λ{a h'} ha hs b ob e=>by
  obtain⟨_,_,O⟩:=ha;refine(I.hok b ob e).stay (λc w' hc q=>(hs.2 c ?_).trans q) (λ_ q=>q) (λ_ _ q=>q) λ_ _ _ q=>q
  rintro rfl;rcases hc with rfl|hc
  ·rw[O] at e;cases e
  ·rw[O] at hc;cases hc
 rcases hx with hk|hk
 ·refine wpAny_storeName_local hk hn (λh' a5 hs=>?_) a2
  obtain⟨oL,_,_,a4,_⟩:=id hn;refine h _ ⟨I.ok,I.os,I.bare,⟨λb o e n hb hx=>?_,λb o e n hb hx=>?_,I.base.free,λb o e hx=>?_,I.base.tups,I.base.frzs,I.base.tbls⟩,⟨_,a5,λj y v' e1 e2 e3=>?_⟩,λy c e=>?_,I.free,I.freeC,λp hp=>?_,J ⟨oL,a4,I.free⟩ hs,by simpa using I.len⟩ ⟨_,hs,.inl rfl⟩
  ·exact(hs.2 b (A9 (B5 (A6 e) I.ok.above))).trans (I.base.keep b o e n hb hx)
  ·obtain⟨sl,e1⟩:=I.base.slot b o e n hb hx
   exact⟨sl,(hs.2 b (A9 (B5 (A6 e) I.ok.above))).trans e1⟩
  ·obtain⟨o',e1⟩:=I.base.there b o e hx
   exact⟨o',(hs.2 b (A9 (B5 (A6 e) I.ok.above))).trans e1⟩
  ·by_cases hj:j=i
   ·subst hj
    rw[hi] at e1;cases e1;rw[List.getElem?_set_self hiσ] at e2;cases e2;exact⟨u,r,.inl ⟨hk,by simp⟩⟩
   ·rw[List.getElem?_set_ne (B6 hj)] at e2
    obtain⟨u',r',q⟩:=hl j y v' e1 e2 e3;refine⟨u',r',?_⟩;rcases q with⟨k,e⟩|⟨k,c,e,z⟩
    ·refine .inl ⟨k,?_⟩
     have:y≠x:=λe=>hj (ly0 hN e1 (e▸hi))
     simp[this,e]
    ·exact .inr ⟨k,c,e,z.sameBut hs (cne y c e)⟩
  ·obtain⟨w',z⟩:=I.cell y c e
   exact⟨w',z.sameBut hs (cne y c e)⟩
  ·obtain⟨e,n,ne,nf,d⟩:=I.pin p hp
   exact⟨(hs.2 p.1 ne).trans e,n,ne,nf,d⟩
 ·have Z:X.fn x=true:=by
   rcases hf with z|z
   ·exact z
   ·rw[z] at hk;cases hk
  obtain⟨c,hc⟩:=I.ok.has x (.inl hk);obtain⟨w',z⟩:=I.cell x c hc;refine wpAny_storeName_cell I.ok.kind hk hc z (λh' a1 hs=>?_);obtain⟨oc,a0,a3⟩:=id z;refine h { s with heap:=h' } ⟨I.ok,I.os,I.bare,⟨λb o e n hb hx=>?_,λb o e n hb hx=>?_,I.base.free,λb o e hx=>?_,I.base.tups,I.base.frzs,I.base.tbls⟩,⟨m,hn.sameBut hs (B6 (cne x c hc)),λj y v' e1 e2 e3=>?_⟩,λy c' e=>?_,I.free,I.freeC,λp hp=>?_,J ⟨oc,a0,I.freeC x c hc⟩ hs,by simpa using I.len⟩ ⟨c,hs,.inr hc⟩
  ·exact(hs.2 b (A9 (B5 (A6 e) (I.ok.cab x c Z hc)))).trans (I.base.keep b o e n hb hx)
  ·obtain⟨sl,e1⟩:=I.base.slot b o e n hb hx
   exact⟨sl,(hs.2 b (A9 (B5 (A6 e) (I.ok.cab x c Z hc)))).trans e1⟩
  ·obtain⟨o',e1⟩:=I.base.there b o e hx
   exact⟨o',(hs.2 b (A9 (B5 (A6 e) (I.ok.cab x c Z hc)))).trans e1⟩
  ·by_cases hj:j=i
   ·subst hj
    rw[hi] at e1;cases e1;rw[List.getElem?_set_self hiσ] at e2;cases e2;exact⟨u,r,.inr ⟨.inl hk,c,hc,a1⟩⟩
   ·rw[List.getElem?_set_ne (B6 hj)] at e2
    obtain⟨u',r',q⟩:=hl j y v' e1 e2 e3;refine⟨u',r',?_⟩;rcases q with q|⟨k,c',e,z'⟩
    ·exact .inl q
    ·refine .inr ⟨k,c',e,z'.sameBut hs ?_⟩
     rintro rfl;exact hj (ly0 hN e1 (I.ok.inj _ _ _ e hc▸hi))
  ·by_cases hcc:c'=c
   ·subst hcc;exact⟨_,a1⟩
   ·obtain⟨w2,z2⟩:=I.cell y c' e
    exact⟨w2,z2.sameBut hs hcc⟩
  ·obtain⟨e,n,ne,nf,d⟩:=I.pin p hp
   refine⟨(hs.2 p.1 ?_).trans e,n,ne,nf,d⟩;intro q;rw[q,a0] at e;have q':oc=p.2:=A8 e;exact d w' (by rw[← q'];exact a3)
theorem c10{M:Model}{A:Around}{E:Value->Shared->Prop}{v:V}{Q:Unit->Shared->Prop}(I:Inv X pins σ H s)(hN:X.N.Nodup)(hi:X.N[i]?=some x)(hx:Loc X.env.scope x)(r:RelV v u)
  (h:∀s',Inv X pins (σ.set i (some v)) H s'->Q () s') (hf:X.fn x=true∨X.env.scope.names.lookup x=some .local:=by first|exact .inl rfl|exact .inr rfl|assumption):wpAny M A (storeName X.env x u) Q E s :=
 ox0 I hN hi hx r (λs' I' _=>h s' I') hf
theorem Inv.call'(I:Inv X pins σ H s)(ho:s'.os=s.os)(u:Un (frs X.stack) ch H H' s.heap s'.heap)(hok:HOk X.prog X.w H' s'.heap)(hg:AllBare s'.gens)
  (hch:∀b∈ch,(b∈X.ex∨X.s₀.heap.objs.size<=b)/\b≠X.env.locals/\(∀x c,X.env.cells.lookup x=some c->c≠b)/\∀p∈X.pn++pins,p.1≠b):Inv X pins σ H' s':=by
 obtain⟨h',g',d',t',o'⟩:=s';have e:o'=s.os:=ho;subst e;exact I.call (g':=g') (t':=t') (d':=d') u hok hg hch
end
abbrev XK:=Value->Option Addr->Hp->Prop
abbrev St:=List (Option V)
abbrev VK:=V->Hp->Prop
abbrev TE:=St->Hp->VK->Prop
abbrev TT:=St->Hp->(Bool->Hp->Prop)->Prop
variable{ta tb te tv tx:L2.TE}
abbrev TA:=St->Hp->(List V->Hp->Prop)->Prop
structure Ends where
 nx:St->Hp->Prop
 rt:VK
 bk:St->Hp->Prop:=λ_ _=>False
 ct:St->Hp->Prop:=λ_ _=>False
abbrev TS:=Ends->St->Hp->Prop
def EP(X:Cx)(pins:List (Addr×Obj))(σ:St)(Q:VK)(u:Value)(s':Shared):Prop:=∃v H',Inv X pins σ H' s'/\RelV v u/\Q v H'
def TP(X:Cx)(pins:List (Addr×Obj))(σ:St)(Q:Bool->Hp->Prop)(b:Bool)(s':Shared):Prop:=∃H',Inv X pins σ H' s'/\Q b H'
def AP(X:Cx)(pins:List (Addr×Obj))(σ:St)(Q:List V->Hp->Prop)(us:List Value)(s':Shared):Prop:=∃vs H',Inv X pins σ H' s'/\Vals vs us/\Q vs H'
def SP(X:Cx)(pins:List (Addr×Obj))(D:Ends)(f:Flow)(s':Shared):Prop :=
 match f with
 | .next=>∃σ' H',Inv X pins σ' H' s'/\D.nx σ' H'
 | .brk=>∃σ' H',Inv X pins σ' H' s'/\D.bk σ' H'
 | .cont=>∃σ' H',Inv X pins σ' H' s'/\D.ct σ' H'
 | .ret u=>∃v σ' H',Inv X pins σ' H' s'/\RelV v u/\D.rt v H'
def PE(X:Cx)(e:Expr)(t:TE):Prop :=
 ∀(pins:List (Addr×Obj)) (s:Shared) (σ:St) (H:Hp) (Q:VK),Inv X pins σ H s->t σ H Q->wpAny (model X.prog X.w) X.A (eval e X.env) (EP X pins σ Q) X.xe s
def PT(X:Cx)(e:Expr)(t:TT):Prop :=
 ∀(pins:List (Addr×Obj)) (s:Shared) (σ:St) (H:Hp) (Q:Bool->Hp->Prop),Inv X pins σ H s->t σ H Q->wpAny (model X.prog X.w) X.A (isTrue e X.env (eval e X.env)) (TP X pins σ Q) X.xe s
def PW(X:Cx)(e:Expr)(t:TT):Prop :=
 ∀(whole:Sem Value) (pins:List (Addr×Obj)) (s:Shared) (σ:St) (H:Hp) (Q:Bool->Hp->Prop),Inv X pins σ H s->t σ H Q->wpAny (model X.prog X.w) X.A (isTrue e X.env whole) (TP X pins σ Q) X.xe s
theorem PW.pt{t:TT}(h:PW X e t):PT X e t:=h _
def PA(X:Cx)(es:List Expr)(t:TA):Prop :=
 ∀(pos:Pos) (pins:List (Addr×Obj)) (s:Shared) (σ:St) (H:Hp) (Q:List V->Hp->Prop),Inv X pins σ H s->t σ H Q->wpAny (model X.prog X.w) X.A (spliced (backTo pos (starEach es X.env))) (AP X pins σ Q) X.xe s
def PS(X:Cx)(st:Stmt)(t:TS):Prop :=
 ∀(pins:List (Addr×Obj)) (s:Shared) (σ:St) (H:Hp) (D:Ends),Inv X pins σ H s->t D σ H->wpAny (model X.prog X.w) X.A (exec st X.env) (SP X pins D) X.xe s
def PSs(X:Cx)(st:List Stmt)(t:TS):Prop :=
 ∀(pins:List (Addr×Obj)) (s:Shared) (σ:St) (H:Hp) (D:Ends),Inv X pins σ H s->t D σ H->wpAny (model X.prog X.w) X.A (execs st X.env) (SP X pins D) X.xe s
theorem thn{t:Sem α}{Q Q':α->Shared->Prop}{M:Model}{A:Around}{s:Shared}(h:wpAny M A t Q E s)(hQ:∀a s,Q a s->Q' a s):wpAny M A t Q' E s:=D1 h hQ λ_ _ x=>x
section
def Th0(i:Nat):TE:=fun σ H Q=>∃v,σ[i]?=some (some v)/\Q v H
def tC(v:V):TE:=λ_ H Q=>Q v H
theorem G8(hN:X.N[i]?=some x)(hv:Vis X.env.scope x)(hd:(x==("__debug__" : Str))=false:=by decide)(hcd:(x==("__classdict__" : Str))=false:=by decide):PE X (.Name x pos) (Th0 i):=by
 intro pins s σ H Q I h;obtain⟨v,e,h⟩:=h;obtain⟨m,hn,hl⟩:=I.loc;obtain⟨u,r,l⟩:=hl i x v hN e hv;have M:EP X pins σ Q u s:=⟨v,H,I,r,h⟩;rcases l with⟨hk,hm⟩|⟨hk,c,hc,J⟩
 ·exact wpAny_Name (wpAny_loadName_local I.ok.kind hk hn hm M) hd
 ·rcases hk with hk|hk
  ·exact wpAny_Name (wpAny_loadName_cell I.ok.kind hk hc J M) hd
  ·exact wpAny_Name (wpAny_loadName_free I.ok.kind hk hc J M hcd) hd
theorem Xa0{i j pos}:PE X (.Constant (.int i) j pos) (tC (.int i)):=λ_ _ _ H _ I h=>wpAny_Constant_int ⟨.int i,H,I.tok _,⟨_,rfl⟩,h⟩
theorem Um0{b j pos}:PE X (.Constant (.bool b) j pos) (tC (.bl b)):=λ_ _ _ H _ I h=>Constant_bool ⟨.bl b,H,I,rfl,h⟩
theorem W20{j pos}:PE X (.Constant .none j pos) (tC .non):=λ_ _ _ H _ I h=>Constant_none ⟨.non,H,I,rfl,h⟩
theorem W50{x j pos}:PE X (.Constant (.str x) j pos) (tC (.str x)):=λ_ _ _ H _ I h=>Calls.Constant_str ⟨.str x,H,I.tok _,⟨_,rfl⟩,h⟩
def Gl(X:Cx)(x:Str):Prop:=X.env.kindOf x=some .globalImplicit
theorem bw0{E:Value->Shared->Prop}{s:Shared}{σ:St}{pos:Pos}(I:Inv X pins σ H s)(hg:Gl X x)(hm:X.mg x=some u)(h:Q u s)
  (hd:(x==("__debug__" : Str))=false:=by decide):wpAny (model X.prog X.w) X.A (eval (.Name x pos) X.env) Q E s :=
 B10 I.ok.kind hg (Calls.loadGlobal_global (by rw[I.ok.glob];exact I.mod.glob.keeps I.bk) hm h) hd
theorem zf0{E:Value->Shared->Prop}{s:Shared}{σ:St}{pos:Pos}(I:Inv X pins σ H s)(hg:Gl X x)(hm:X.mg x=none)(hv:bootBuiltins x=some u)(h:Q u s)
  (hn:x ≠"__name__" := by decide) (hd:(x==("__debug__" : Str))=false:=by decide):wpAny (model X.prog X.w) X.A (eval (.Name x pos) X.env) Q E s:=by
 obtain⟨mb,h1,h2⟩:=I.mod.blt;exact B10 I.ok.kind hg (Calls.loadGlobal_builtin (by rw[I.ok.glob];exact I.mod.glob.keeps I.bk) hm (by rw[I.ok.blt];exact h1.keeps I.bk) ((h2 x hn).trans hv) h) hd
theorem Y60{v:V}(hg:Gl X x)(hm:X.mg x=none)(hv:bootBuiltins x=some u)(r:RelV v u)(hn:x ≠"__name__" := by decide)(hd:(x==("__debug__" : Str))=false:=by decide):PE X (.Name x pos) (tC v) :=
 λ_ _ _ H _ I h=>zf0 I hg hm hv ⟨v,H,I,r,h⟩ hn hd
variable{a:Expr}
def PC(X:Cx)(op:CmpOp)(a b:Expr)(t:TE):Prop :=
 ∀(pins:List (Addr×Obj)) (s:Shared) (σ:St) (H:Hp) (Q:VK),Inv X pins σ H s->t σ H Q ->
  wpAny (model X.prog X.w) X.A (eval a X.env) (λv s₁=>wpAny (model X.prog X.w) X.A (eval b X.env) (λu s₂=>wpAny (model X.prog X.w) X.A (compareOp op v u) (EP X pins σ Q) X.xe s₂) X.xe s₁) X.xe s
def tB(t:TE):TT:=fun σ H Q=>t σ H λx H1=>∃c,x=.bl c/\Q c H1
theorem Ww0{op:CmpOp}{t:TE}(h:PC X op a b t)(h1:behindInMarks op b=false:=by first|exact nobehind _ (by decide) (by decide)|rfl):PT X (.Compare a [op] [b] pos) (tB t):=by
 intro pins s σ H Q I hw;refine wpAny_isTrue_Compare1 (thn (h pins s σ H _ I hw) λv s1 h1=>thn h1 λu s2 h2=>thn h2 λc s3 ⟨x,H1,I1,r1,q1⟩=>?_) h1;obtain⟨d,rfl,q⟩:=q1;cases r1;exact S1 ⟨H1,I1,q⟩
theorem Wp0{t:TE}(h:PE X e t)(he:∀whole,isTrue e X.env whole=(do let v ← whole;standAt e.pos;holding [v] (truthy v)):=by intro _;rfl):PT X e (tB t):=by
 intro pins s σ H Q I hw;refine isTrue_plain (thn (h pins s σ H _ I hw) λv s1 ⟨x,H1,I1,r1,q1⟩=>?_) (he _);obtain⟨d,rfl,q⟩:=q1;cases r1;exact S1 ⟨H1,I1,q⟩
variable{tA tB':TT}{rest:List Expr}
def Ta0(t u:TT):TT:=fun σ H Q=>t σ H λc H1=>if c=true then u σ H1 Q else Q false H1
def tOr(t u:TT):TT:=fun σ H Q=>t σ H λc H1=>if c=true then Q true H1 else u σ H1 Q
def Td0(t:TT):TT:=fun σ H Q=>t σ H λc H1=>Q (!c) H1
theorem Zr0(ha:PT X a tA):PW X (.BoolOp .And [a] pos) tA:=by
 intro wh pins s σ H Q I h;refine isTrue_and (thn (ha pins s σ H Q I h) λc s1 e=>?_);cases c with
 | true=>exact isTrue_and_nil e
 | false=>exact e
theorem Wb0(ha:PT X a tA):PW X (.BoolOp .Or [a] pos) tA:=by
 intro wh pins s σ H Q I h;refine isTrue_or (thn (ha pins s σ H Q I h) λc s1 e=>?_);cases c with
 | false=>exact isTrue_or_nil e
 | true=>exact e
theorem Yq0(ha:PT X a tA)(hb:PW X (.BoolOp .And (b::rest) pos) tB'):PW X (.BoolOp .And (a::b::rest) pos) (Ta0 tA tB'):=by
 intro wh pins s σ H Q I h;refine isTrue_and (thn (ha pins s σ H _ I h) λc s1 ⟨H1,I1,q1⟩=>?_);cases c with
 | true=>exact hb wh pins s1 σ H1 Q I1 q1
 | false=>exact⟨H1,I1,q1⟩
theorem Vi0(ha:PT X a tA)(hb:PW X (.BoolOp .Or (b::rest) pos) tB'):PW X (.BoolOp .Or (a::b::rest) pos) (tOr tA tB'):=by
 intro wh pins s σ H Q I h;refine isTrue_or (thn (ha pins s σ H _ I h) λc s1 ⟨H1,I1,q1⟩=>?_);cases c with
 | true=>exact⟨H1,I1,q1⟩
 | false=>exact hb wh pins s1 σ H1 Q I1 q1
theorem X30(ha:PT X a tA):PT X (.UnaryOp .Not a pos) (Td0 tA):=by
 intro pins s σ H Q I h;exact isTrue_not (ha pins s σ H (λc H1=>Q (!c) H1) I h)
def Tg0(ta tb:TE):TE:=fun σ H Q=>ta σ H λx H1=>∃c,x=.bl c/\if c=true then Q (.bl true) H1 else tb σ H1 Q
theorem Xj0{op}{t:TE}(h:PE X a t):PE X (.BoolOp op [a] pos) t:=λpins s σ H Q I hw=>BoolOp_one (h pins s σ H Q I hw)
theorem Un0(ha:PE X a ta)(hb:PE X (.BoolOp .Or (b::rest) pos) tb):PE X (.BoolOp .Or (a::b::rest) pos) (Tg0 ta tb):=by
 intro pins s σ H Q I h;refine BoolOp_or (thn (ha pins s σ H _ I h) λv s1 ⟨x,H1,I1,r1,q1⟩=>?_);obtain⟨c,rfl,q1⟩:=q1;cases r1;refine S1 ?_;cases c with
 | false=>exact hb pins s1 σ H1 Q I1 q1
 | true=>exact⟨.bl true,H1,I1,rfl,q1⟩
def tIf(t:TT)(ta tb:TE):TE:=fun σ H Q=>t σ H λc H1=>if c=true then ta σ H1 Q else tb σ H1 Q
theorem ch0(hc:PT X c tA)(ha:PE X a ta)(hb:PE X b tb):PE X (.IfExp c a b pos) (tIf tA ta tb):=by
 intro pins s σ H Q I h;refine wpAny_IfExp (thn (hc pins s σ H _ I h) λd s1 ⟨H1,I1,q1⟩=>?_);cases d with
 | true=>exact ha pins s1 σ H1 Q I1 q1
 | false=>exact hb pins s1 σ H1 Q I1 q1
end
def SqL(K:W.Frag)(H:Hp)(a:Addr)(xs:List V):Prop :=
 Rd H a (.lst xs) ∨
  ∃(o:Obj) (its:Array Value) (n:Nat),K.lookup a=some o/\o.cls=.type "list"/\o.dict=none/\o.data=.seq its n/\its.size<=sizeLine/\Vals xs its.toList
def SqT(K:W.Frag)(H:Hp)(a:Addr)(xs:List V):Prop :=
 Rd H a (.tup xs) ∨
  ∃(o:Obj) (its:Array Value) (n:Nat),K.lookup a=some o/\o.cls=.type "tuple"/\o.data=.seq its n/\its.size<=sizeLine/\Vals xs its.toList
def S30:Value->Option V
 | .none=>some .non
 | .bool b=>some (.bl b)
 | .int i _=>some (.int i)
 | .str x _=>some (.str x)
 | .bytes b _=>some (.byt b)
 | .float b _=>some (.flt b)
 | .ref a=>some (.ref a)
 | .type n=>some (.ty n)
 | _=>none
theorem RelV.abs{x:V}(r:RelV x u):S30 u=some x:=by
 cases x with
 | non=>cases r;rfl
 | bl _=>cases r;rfl
 | int _=>obtain⟨t,rfl⟩:=r;rfl
 | str _=>obtain⟨t,rfl⟩:=r;rfl
 | byt _=>obtain⟨t,rfl⟩:=r;rfl
 | flt _=>obtain⟨t,rfl⟩:=r;rfl
 | ref _=>cases r;rfl
 | ty _=>cases r;rfl
theorem RelV.inj{x:V}(r:RelV x u)(q:RelV y u):x=y:=A8 (r.abs.symm.trans q.abs)
theorem Vals.inj:∀{xs ys:List V} {us:List Value},Vals xs us->Vals ys us->xs=ys
 | _,_,_,.nil,.nil=>rfl
 | _,_,_,.cons r t,.cons r' t'=>by rw[r.inj r',Vals.inj t t']
section
variable{σ:St}{s:Shared}{ys:List V}
theorem Inv.list(I:Inv X pins σ H s)(h:SqL X.K H a xs):∃its:List Value,Vals xs its/\PlainL s.heap a its.toArray/\xs.length<=sizeLine:=by
 rcases h with h|⟨o,its,n,hk,hc,hd,hs,hz,r⟩
 ·obtain⟨z,its,n,r,e⟩:=h.ok I.hok
  exact⟨its,r,⟨_,n,e,rfl,rfl,rfl⟩,z⟩
 ·refine⟨its.toList,r,⟨o,n,I.kIn a o hk,hc,hd,by simpa using hs⟩,?_⟩
  have e:=r.length;simp only[Array.length_toList] at e;omega
theorem Inv.tuple(I:Inv X pins σ H s)(h:SqT X.K H a xs):∃its:List Value,Vals xs its/\IsTup s.heap a its.toArray/\xs.length<=sizeLine:=by
 rcases h with h|⟨o,its,n,hk,hc,hs,hz,r⟩
 ·obtain⟨z,its,r,p⟩:=h.ok I.hok
  exact⟨its,r,p.tup,z⟩
 ·refine⟨its.toList,r,⟨o,I.kIn a o hk,hc,n,by simpa using hs⟩,?_⟩
  have e:=r.length;simp only[Array.length_toList] at e;omega
theorem Inv.list_inj(I:Inv X pins σ H s)(h:SqL X.K H a xs)(h':SqL X.K H a ys):xs=ys:=by
 obtain⟨its,r,⟨o,n,e,_,_,d⟩,_⟩:=I.list h;obtain⟨J,r',⟨o',n',e',_,_,d'⟩,_⟩:=I.list h';rw[e] at e';cases e';rw[d] at d';injection d' with d1 _
 have:its=J:=by simpa using D5 Array.toList d1
 subst this;exact r.inj r'
theorem Inv.tuple_inj(I:Inv X pins σ H s)(h:SqT X.K H a xs)(h':SqT X.K H a ys):xs=ys:=by
 obtain⟨its,r,⟨o,e,_,n,d⟩,_⟩:=I.tuple h;obtain⟨J,r',⟨o',e',_,n',d'⟩,_⟩:=I.tuple h';rw[e] at e';cases e';rw[d] at d';injection d' with d1 _
 have:its=J:=by simpa using D5 Array.toList d1
 subst this;exact r.inj r'
end
abbrev Cx.wish(X:Cx)(E:Value->Shared->Prop):Cx:={ X with xe:=E }
abbrev Cx.nox(X:Cx):Cx:=X.wish λ_ _=>False
theorem Cx.Ok.wish(ok:X.Ok)(E:Value->Shared->Prop):(X.wish E).Ok :=
 ⟨ok.mod,ok.kind,ok.glob,ok.blt,ok.above,ok.inj,ok.has,ok.cab,ok.hd,ok.frames,ok.stk,ok.exf,ok.bs,ok.bsz,ok.noex,ok.exfs,ok.funs,ok.frf⟩
theorem Cx.Ok.unwish(ok:(X.wish E).Ok):X.Ok :=
 ⟨ok.mod,ok.kind,ok.glob,ok.blt,ok.above,ok.inj,ok.has,ok.cab,ok.hd,ok.frames,ok.stk,ok.exf,ok.bs,ok.bsz,ok.noex,ok.exfs,ok.funs,ok.frf⟩
section
variable{σ:St}{s:Shared}
theorem Inv.wish(I:Inv X pins σ H s)(E:Value->Shared->Prop):Inv (X.wish E) pins σ H s:=⟨I.ok.wish E,I.os,I.bare,I.base,I.loc,I.cell,I.free,I.freeC,I.pin,I.hok,I.len⟩
theorem Inv.unwish(I:Inv (X.wish E) pins σ H s):Inv X pins σ H s:=⟨I.ok.unwish,I.os,I.bare,I.base,I.loc,I.cell,I.free,I.freeC,I.pin,I.hok,I.len⟩
theorem SP.unwish{D:Ends}{f:Flow}(h:SP (X.wish E) pins D f s'):SP X pins D f s':=by
 cases f with
 | next=>obtain⟨σ',H',I,q⟩:=h;exact⟨σ',H',I.unwish,q⟩
 | brk=>obtain⟨σ',H',I,q⟩:=h;exact⟨σ',H',I.unwish,q⟩
 | cont=>obtain⟨σ',H',I,q⟩:=h;exact⟨σ',H',I.unwish,q⟩
 | ret u=>obtain⟨v,σ',H',I,r,q⟩:=h;exact⟨v,σ',H',I.unwish,r,q⟩
theorem PSs.nox{st:List Stmt}{t:TS}(h:PSs X.nox st t):PSs X st t:=λpins s σ H D I hw =>
 D1 (h pins s σ H D (I.wish _) hw) (λ_ _ q=>q.unwish) λ_ _ z=>False.elim z
end
section
variable{t u:TS}
def T70:TS:=λD σ H=>D.nx σ H
def Ts0(t u:TS):TS:=λD σ H=>t { D with nx:=u D } σ H
theorem Zj0:PSs X [] T70:=λ_ _ σ H _ I h=>w8 ⟨σ,H,I,h⟩
theorem v30(h1:PS X st t)(h2:PSs X rest u):PSs X (st::rest) (Ts0 t u):=by
 intro pins s σ H D I h;refine wpAny_execs_cons (thn (h1 pins s σ H { D with nx:=u D } I h) λf s1 q=>?_);cases f with
 | next =>
  obtain⟨σ',H',I',q⟩:=q;exact h2 pins s1 σ' H' D I' q
 | ret v=>exact q
 | brk=>exact q
 | cont=>exact q
theorem Inv.quiet{σ:St}{s:Shared}(I:Inv X pins σ H s):interactive X.env=false:=by simp[interactive,I.ok.kind]
def Vf0(te:TE):TS:=λD σ H=>te σ H λ_ H1=>D.nx σ H1
theorem av0(he:PE X e te)(hs:swapsWith e none pos.line X.env=pure false:=by rfl):PS X (.Expr e pos) (Vf0 te):=by
 intro pins s σ H D I h;exact wpAny_Expr_any (thn (he pins s σ H _ I h) λv s1 ⟨x,H1,I1,r1,q1⟩=>⟨σ,H1,I1,q1⟩) I.quiet hs
def Te0(te:TE):TS:=λD σ H=>te σ H D.rt
theorem lj0(he:PE X e te):PS X (.Return (some e) pos) (Te0 te):=by
 intro pins s σ H D I h;exact wpAny_Return_some (thn (he pins s σ H _ I h) λv s1 ⟨x,H1,I1,r1,q1⟩=>⟨x,σ,H1,I1,r1,q1⟩)
def S40(c:TT)(t u:TS):TS:=λD σ H=>c σ H λb H1=>if b=true then t D σ H1 else u D σ H1
theorem Vr0{a b:List Stmt}{tc:TT}(hc:PT X c tc)(ha:PSs X a t)(hb:PSs X b u):PS X (.If c a b pos) (S40 tc t u):=by
 intro pins s σ H D I h;refine wpAny_If (thn (hc pins s σ H _ I h) λd s1 ⟨H1,I1,q1⟩=>?_);cases d with
 | true=>exact ha pins s1 σ H1 D I1 q1
 | false=>exact hb pins s1 σ H1 D I1 q1
def Yu0:TS:=λ_ _ _=>False
theorem vh0{sts:List Stmt}:PSs X sts Yu0:=λ_ _ _ _ _ _ h=>h.elim
end
abbrev TG:=V->St->Hp->(St->Hp->Prop)->Prop
abbrev TGs:=List V->St->Hp->(St->Hp->Prop)->Prop
def PG(X:Cx)(target:Expr)(t:TG):Prop :=
 ∀(pins:List (Addr×Obj)) (s:Shared) (σ:St) (H:Hp) (v:V) (u:Value) (Q:St->Hp->Prop),Inv X pins σ H s->RelV v u->t v σ H Q ->
  wpAny (model X.prog X.w) X.A (assign target X.env u) (λ_ s'=>∃σ' H',Inv X pins σ' H' s'/\Q σ' H') X.xe s
def PGs(X:Cx)(ts:List Expr)(t:TGs):Prop :=
 ∀(pins:List (Addr×Obj)) (s:Shared) (σ:St) (H:Hp) (vs:List V) (us:List Value) (Q:St->Hp->Prop),Inv X pins σ H s->Vals vs us->t vs σ H Q ->
  wpAny (model X.prog X.w) X.A (assignInOrder ((assignEach ts X.env).map (·.2)) us) (λ_ s'=>∃σ' H',Inv X pins σ' H' s'/\Q σ' H') X.xe s
abbrev dz0:=V->V->V->Hp->(Hp->Prop)->Prop
def cn0(X:Cx)(t:dz0):Prop :=
 ∀(pins:List (Addr×Obj)) (s:Shared) (σ:St) (H:Hp) (o i v:V) (ov iv u:Value) (Q:Hp->Prop),Inv X pins σ H s->RelV o ov->RelV i iv->RelV v u->t o i v H Q ->
  wpAny (model X.prog X.w) X.A (setItem ov iv u) (λ_ s'=>∃H',Inv X pins σ H' s'/\Q H') X.xe s
def Ug0(i:Nat):TG:=λv σ H Q=>Q (σ.set i (some v)) H
theorem uk0(hN:X.N.Nodup)(hi:X.N[i]?=some x)(hx:Loc X.env.scope x)(hf:X.fn x=true∨X.env.scope.names.lookup x=some .local:=by first|exact .inl rfl|exact .inr rfl|assumption):PG X (.Name x pos) (Ug0 i):=by
 intro pins s σ H v u Q I r h;exact wpAny_assign_Name (c10 I hN hi hx r (λs' I'=>⟨_,H,I',h⟩) hf)
def S70:TGs:=λvs σ H Q=>vs=[]/\Q σ H
def Uk0(t:TG)(u:TGs):TGs:=λvs σ H Q=>∃v r,vs=v::r/\t v σ H fun σ' H'=>u r σ' H' Q
theorem Zc0:PGs X [] S70:=by
 intro pins s σ H vs us Q I r h;obtain⟨e,h⟩:=h;subst e;cases r;exact assignInOrder_nil ⟨σ,H,I,h⟩
theorem k60{t:TG}{u:TGs}(h1:PG X e t)(h2:PGs X es u)
  (hs:(assignEach (e::es) X.env).map (·.2)=assign e X.env::(assignEach es X.env).map (·.2):=by rfl):PGs X (e::es) (Uk0 t u):=by
 intro pins s σ H vs us Q I r h;obtain⟨v,vr,e1,h⟩:=h;subst e1;cases r with
 | cons r rr =>
  rw[hs];refine assignInOrder_cons (thn (h1 pins s σ H _ _ _ I r h) λ_ s1 ⟨σ1,H1,I1,q1⟩=>?_);exact h2 pins s1 σ1 H1 _ _ Q I1 rr q1
def S80(K:W.Frag)(n:Nat)(t:TGs):TG:=λv σ H Q=>∃a xs,v=.ref a/\SqT K H a xs/\xs.length=n/\t xs σ H Q
theorem X10{k:Nat}{t:TGs}{n:Nat}(hc:X.calm=true)(h:PGs X es t)
  (hn:(assignEach es X.env).length=n:=by rfl) (hst:(assignEach es X.env).findIdx? (·.1)=none:=by rfl):PG X (.Tuple es k pos) (S80 X.K n t):=by
 intro pins s σ H v u Q I r hw;obtain⟨a,xs,e1,hq,hl,hw⟩:=hw;subst e1;cases r;obtain⟨its,rv,ht,hz⟩:=I.tuple hq;refine assign_Tuple_tuple (I.ok.hd hc) ht (by simp[hn,← hl,rv.length]) hst λh' hx=>?_
 have I1:Inv X pins σ H { s with heap:=h' }:=I.kept (t':=s.toks) λb o e=>hx b o (A9 (A6 e)) e
 exact h pins _ σ H xs _ Q I1 (by simpa using rv) hw
def To0(to ti:TE)(t:dz0):TG:=λv σ H Q=>to σ H λo H1=>ti σ H1 λi H2=>t o i v H2 λH3=>Q σ H3
theorem l00{i:Expr}{to ti:TE}{t:dz0}(ho:PE X o to)(hi:PE X i ti)(hs:cn0 X t)
  (ha:∀v,assign (.Subscript o i pos) X.env v=(do
   let ov ← holding [v] (eval o X.env)
   let iv ← holding [v,ov] (eval i X.env)
   standAt pos
   holding [v,ov,iv] (setItem ov iv v)
   release [v,ov,iv] []):=by intro _;rfl):PG X (.Subscript o i pos) (To0 to ti t):=by
 intro pins s σ H v u Q I r h;rw[ha];refine A0 (B9 (thn (ho pins s σ H _ I h) λov s1 ⟨x,H1,I1,r1,q1⟩=>?_));refine A0 (B9 (thn (hi pins s1 σ H1 _ I1 q1) λiv s2 ⟨y,H2,I2,r2,q2⟩=>?_));refine A0 (i6 (A0 (B9 (thn (hs pins s2 σ H2 x y v ov iv u _ I2 r1 r2 r q2) λ_ s3 ⟨H3,I3,q3⟩=>?_))));exact wpAny_release ⟨σ,H3,I3,q3⟩
def S60(te:TE)(g:TG):TS:=λD σ H=>te σ H λx H1=>g x σ H1 D.nx
theorem p20{tg:Expr}{g:TG}(he:PE X e te)(hg:PG X tg g)(hs:swapsWithSole [tg] e pos.line X.env=pure false:=by rfl)(hw:swappedStores [tg] e X.env=pure none:=by rfl)
  (h1:(assignEach [tg] X.env).map (·.2)=[assign tg X.env]:=by rfl):PS X (.Assign [tg] e pos) (S60 te g):=by
 intro pins s σ H D I h;refine wpAny_Assign_stores (thn (he pins s σ H _ I h) λv s1 ⟨x,H1,I1,r1,q1⟩=>?_) hs hw;rw[h1];exact thn (hg pins s1 σ H1 x v _ I1 r1 q1) λ_ s2 q=>q
def X50(c:TT)(tb:TS):TS:=λD σ H=>∃W:Nat->St->Hp->Prop,(∃m,W m σ H)/\∀m σ H,W m σ H ->
 c σ H λb H1=>if b=true then ∃N:St->Hp->Prop,(∀σ' H',N σ' H'->∃m',m'<m/\W m' σ' H')/\tb { D with nx:=N,ct:=N,bk:=D.nx } σ H1 else D.nx σ H1
theorem do0{tc:TT}{tb:TS}(hp:PassesOwn (model X.prog X.w) X.A X.env X.xe)(hc:PT X c tc)(hb:PSs X body tb):PS X (.While c body [] pos) (X50 tc tb):=by
 intro pins s σ H D I h;obtain⟨W,⟨m0,w0⟩,J⟩:=h;refine wpAny_While (codeAny_whileLoop (λn s'=>∃σ' H',Inv X pins σ' H' s'/\W n σ' H') ?_ m0 ⟨σ,H,I,w0⟩);rintro n s1 ⟨σ1,H1,I1,w1⟩;refine L9 hp (thn (hc pins s1 σ1 H1 _ I1 (J n σ1 H1 w1)) λb s2 ⟨H2,I2,q2⟩=>?_);cases b with
 | true =>
  obtain⟨N,hN,q2⟩:=q2;rw[if_pos rfl];refine L9 hp (thn (hb pins s2 σ1 H2 _ I2 q2) λf s3 q3=>?_);cases f with
  | next =>
   obtain⟨σ3,H3,I3,n3⟩:=q3;obtain⟨m',hm,w3⟩:=hN σ3 H3 n3;exact⟨m',hm,σ3,H3,I3,w3⟩
  | cont =>
   obtain⟨σ3,H3,I3,n3⟩:=q3;obtain⟨m',hm,w3⟩:=hN σ3 H3 n3;exact⟨m',hm,σ3,H3,I3,w3⟩
  | brk=>exact q3
  | ret v=>exact q3
 | false =>
  rw[if_neg B3];exact w8 ⟨σ1,H2,I2,q2⟩
structure It where
 go:Nat->Hp->Prop
 yld:Nat->Hp->V->Hp->Prop
 stop:Nat->Hp->Prop
def vm0(X:Cx)(pins:List (Addr×Obj))(H:Hp)(b:Addr):Prop :=
 H b=none/\b≠X.env.locals/\b∉X.fs/\(b∈X.ex∨X.s₀.heap.objs.size<=b)/\(∀x c,X.env.cells.lookup x=some c->c≠b)/\∀p∈X.pn++pins,p.1≠b
theorem Inv.fpOk{σ:St}{s:Shared}{b:Addr}(I:Inv X pins σ H s)(hb:s.heap.objs.size<=b)(hn:H' b=none):vm0 X pins H' b:=by
 refine⟨hn,C5 (B5 I.lt hb),I.nofs hb,.inr (C0 I.sz hb),λx c e z=>?_,λp hp z=>?_⟩
 ·obtain⟨v,q⟩:=I.cell x c e
  exact absurd (B5 q.lt (by rw[z];exact hb)) (C7 _)
 ·exact absurd (B5 (A6 (I.pin p hp).1) (by rw[z];exact hb)) (C7 _)
structure Turn(P:Program)(w:World)(K:W.Frag)(tg:Expr)(J:It)(fp:List Addr)(it:Addr)(tn:Nat->Heap->Prop):Prop where
 mem:it∈fp
 obj:∀i h,tn i h->∀b∈fp,∃o,h.get? b=some o/\∀v,o.data≠.cell v
 keep:∀i h h',tn i h->(∀b∈fp,∀o,h.get? b=some o->h'.get? b=some o)->tn i h'
 item:∀(X:Cx),X.prog=P->X.w=w->X.K=K->X.calm=true->∀(i:Nat) (pins:List (Addr×Obj)) (s:Shared) (σ:St) (H:Hp) (E:Value->Shared->Prop),Inv X pins σ H s->(∀b∈fp,vm0 X pins H b)->tn i s.heap->J.go i H ->
  wpAny (model P w) X.A (pyNext (.ref it)) (λr s1=>∃u,r=some u /\
   wpAny (model P w) X.A (letOwnedTupleGo tg (.ref it) u) (λ_ s2=>∃x H',Inv X pins σ H' s2/\RelV x u/\J.yld i H x H'/\tn (i+1) s2.heap/\∀b∈fp,H' b=none) E s1) E s
 done:∀(X:Cx),X.prog=P->X.w=w->X.K=K->X.calm=true->∀(i:Nat) (pins:List (Addr×Obj)) (s:Shared) (σ:St) (H:Hp) (E:Value->Shared->Prop),Inv X pins σ H s->(∀b∈fp,vm0 X pins H b)->tn i s.heap->J.stop i H ->
  wpAny (model P w) X.A (pyNext (.ref it)) (λr s1=>r=none/\Inv X pins σ H s1) E s
 self:∀(A:Around) (i:Nat) (s:Shared) (Q:Value->Shared->Prop) (E:Value->Shared->Prop),tn i s.heap->Q (.ref it) s->wpAny (model P w) A (pyIter (.ref it)) Q E s
abbrev TI:=St->Hp->(It->Hp->Prop)->Prop
def PIE(X:Cx)(pins:List (Addr×Obj))(σ:St)(tg:Expr)(R:It->Hp->Prop)(itv:Value)(s2:Shared):Prop :=
 ∃(it:Addr) (fp:List Addr) (tn:Nat->Heap->Prop) (J:It) (H':Hp),itv=.ref it/\Inv X pins σ H' s2/\Turn X.prog X.w X.K tg J fp it tn/\tn 0 s2.heap/\(∀b∈fp,vm0 X pins H' b)/\R J H'
def PI(X:Cx)(tg iter:Expr)(wi:TI):Prop :=
 ∀(pins:List (Addr×Obj)) (s:Shared) (σ:St) (H:Hp) (R:It->Hp->Prop),Inv X pins σ H s->wi σ H R ->
  wpAny (model X.prog X.w) X.A (eval iter X.env) (λv s1=>wpAny (model X.prog X.w) X.A (pyIter v) (PIE X pins σ tg R) X.xe s1) X.xe s
theorem m10{M:Model}{A:Around}{E:Value->Shared->Prop}{s:Shared}{tg:Expr}{u:Value}{o:Obj}{n:String}{vs:Array Value}{Q:Unit->Shared->Prop}(ho:s.heap.get? it=some o)(hc:o.cls=.type n)(hd:o.data=.fields vs)
  (hn:["enumerate", "zip", "dict_itemiterator", "dict_reverseitemiterator", "odict_iterator", "itertools.zip_longest", "itertools.pairwise"].contains n=false) (hQ:Q () s):wpAny M A (letOwnedTupleGo tg (.ref it) u) Q E s:=by
 unfold letOwnedTupleGo;cases tg<;>first
  | exact A1 hQ
  | (cases u<;>first
    | exact A1 hQ
    | (refine A0 (wpAny_load ho ?_)
       rw[hc,hd];show wpAny M A (if (["enumerate", "zip", "dict_itemiterator", "dict_reverseitemiterator", "odict_iterator", "itertools.zip_longest", "itertools.pairwise"].contains n&&vs[0]?==some (rawInt _))=true then _ else _) Q E s;rw[if_neg (by intro h;rw[hn,Bool.false_and] at h;cases h)];exact A1 hQ))
def Itl(K:W.Frag)(a:Addr):It :=
 ⟨λi H=>∃xs x,SqL K H a xs/\xs[i]?=some x,λi H x H'=>H'=H/\∀xs,SqL K H a xs->xs[i]?=some x,λi H=>∃xs,SqL K H a xs/\xs.length<=i⟩
def Itt(K:W.Frag)(a:Addr):It :=
 ⟨λi H=>∃xs x,SqT K H a xs/\xs[i]?=some x,λi H x H'=>H'=H/\∀xs,SqT K H a xs->xs[i]?=some x,λi H=>∃xs,SqT K H a xs/\xs.length<=i⟩
def Itr(lo:Int)(n:Nat):It:=⟨λi _=>i<n,λi H x H'=>H'=H/\x=.int (lo+i),λi _=>n<=i⟩
theorem fe0{P:Program}{w:World}{tg:Expr}(a it:Addr):Turn P w K tg (Itl K a) [it] it (λi h=>h.IsListIter it a i) where
 mem:=by simp
 obj:=λi h st b hb=>by
  have e:b=it:=by simpa using hb
  subst e;obtain⟨o,e,c,d⟩:=st;exact⟨o,e,λv z=>by rw[d] at z;cases z⟩
 keep:=λi h h' st k=>st.at λo e=>k it (by simp) o e
 item:=by
  intro X hP hw hK hc i pins s σ H E I hf st hg;subst hP hw hK;obtain⟨xs,x,hq,hx⟩:=hg;obtain⟨its,rv,p,hz⟩:=I.list hq;obtain⟨u,hu,ru⟩:=rv.get hx;obtain⟨f0,f1,f2,f3,f4,f5⟩:=hf it (by simp);refine wpAny_pyNext_list_item st p.isList (x:=u) (by simpa using hu) λh' J sb=>?_
  have I1:Inv X pins σ H { s with heap:=h' }:=I.turned (t':=s.toks) (λb o hb e=>(sb.2 b hb).trans e) f0 f1 f3 f4 f5;obtain⟨o,e,c,d⟩:=id J;exact⟨u,rfl,m10 (s:={ s with heap:=h' }) e c d (by decide) ⟨x,H,I1,ru,⟨rfl,λys hy=>by rw[I.list_inj hy hq];exact hx⟩,J,λb hb=>(hf b hb).1⟩⟩
 done:=by
  intro X hP hw hK hc i pins s σ H E I hf st hg;subst hP hw hK;obtain⟨xs,hq,hx⟩:=hg;obtain⟨its,rv,p,hz⟩:=I.list hq;obtain⟨f0,f1,f2,f3,f4,f5⟩:=hf it (by simp);have hl:=rv.length;exact wpAny_pyNext_list_end (I.ok.hd hc) st p.isList (by simp;omega) λh' eb=>⟨rfl,I.turned (t':=s.toks) (λb o hb e=>eb b o hb e) f0 f1 f3 f4 f5⟩
 self:=λ_ _ _ _ _ st h=>wpAny_pyIter_listiter st h
theorem it0{P:Program}{w:World}{tg:Expr}(a it:Addr):Turn P w K tg (Itt K a) [it] it (λi h=>h.IsTupleIter it a i) where
 mem:=by simp
 obj:=λi h st b hb=>by
  have e:b=it:=by simpa using hb
  subst e;obtain⟨o,e,c,d⟩:=st;exact⟨o,e,λv z=>by rw[d] at z;cases z⟩
 keep:=λi h h' st k=>st.at λo e=>k it (by simp) o e
 item:=by
  intro X hP hw hK hc i pins s σ H E I hf st hg;subst hP hw hK;obtain⟨xs,x,hq,hx⟩:=hg;obtain⟨its,rv,p,hz⟩:=I.tuple hq;obtain⟨u,hu,ru⟩:=rv.get hx;obtain⟨f0,f1,f2,f3,f4,f5⟩:=hf it (by simp);refine wpAny_pyNext_tuple_item st (show s.heap.IsTuple a its.toArray from p) (x:=u) (by simpa using hu) λh' J sb=>?_
  have I1:Inv X pins σ H { s with heap:=h' }:=I.turned (t':=s.toks) (λb o hb e=>(sb.2 b hb).trans e) f0 f1 f3 f4 f5;obtain⟨o,e,c,d⟩:=id J;exact⟨u,rfl,m10 (s:={ s with heap:=h' }) e c d (by decide) ⟨x,H,I1,ru,⟨rfl,λys hy=>by rw[I.tuple_inj hy hq];exact hx⟩,J,λb hb=>(hf b hb).1⟩⟩
 done:=by
  intro X hP hw hK hc i pins s σ H E I hf st hg;subst hP hw hK;obtain⟨xs,hq,hx⟩:=hg;obtain⟨its,rv,p,hz⟩:=I.tuple hq;obtain⟨f0,f1,f2,f3,f4,f5⟩:=hf it (by simp);have hl:=rv.length;exact wpAny_pyNext_tuple_end (I.ok.hd hc) st (show s.heap.IsTuple a its.toArray from p) (by simp;omega) λh' eb=>⟨rfl,I.turned (t':=s.toks) (λb o hb e=>eb b o hb e) f0 f1 f3 f4 f5⟩
 self:=λ_ _ _ _ _ st h=>wpAny_pyIter_tupleiter st h
theorem hf0{P:Program}{w:World}{tg:Expr}(it:Addr)(lo:Int)(n:Nat):Turn P w K tg (Itr lo n) [it] it (λi h=>IsRangeIter h it (lo+(i:Nat)*1) ((n:Int) - (i:Nat)) 1) where
 mem:=by simp
 obj:=λi h st b hb=>by
  have e:b=it:=by simpa using hb
  subst e;exact⟨_,st,λv z=>by
   have z':Data.fields _=Data.cell v:=z;cases z'⟩
 keep:=λi h h' st k=>k it (by simp) _ st
 item:=by
  intro X hP hw hK hc i pins s σ H E I hf st hg;subst hP hw hK;obtain⟨f0,f1,f2,f3,f4,f5⟩:=hf it (by simp);have W:=Walks.range (prog:=X.prog) (w:=X.w) (I.ok.hd hc) it lo 1 n;refine W.item i s _ _ hg st λv h' tk hv J kk=>?_
  obtain⟨t,rfl⟩:=hv;have I1:Inv X pins σ H { s with heap:=h',toks:=tk }:=I.turned (λb o hb e=>kk b o (by simpa using hb) e) f0 f1 f3 f4 f5;refine⟨_,rfl,m10 (s:={ s with heap:=h',toks:=tk }) (n := "range_iterator") J rfl rfl (by decide) ⟨.int (lo+i),H,I1,⟨t,?_⟩,⟨rfl,rfl⟩,J,λb hb=>(hf b hb).1⟩⟩;rw[Int.mul_one]
 done:=by
  intro X hP hw hK hc i pins s σ H E I hf st hg;subst hP hw hK;obtain⟨f0,f1,f2,f3,f4,f5⟩:=hf it (by simp);exact wpAny_pyNext_range_end (I.ok.hd hc) st (by have:n<=i:=hg;omega) λh' eb=>⟨rfl,I.turned (t':=s.toks) (λb o hb e=>eb b o hb e) f0 f1 f3 f4 f5⟩
 self:=λ_ _ _ _ _ st h=>wpAny_pyIter_rangeiter st h
section
variable{tg:Expr}
def Uv0(K:W.Frag)(tl:TE):TI:=fun σ H R=>tl σ H λx H1=>∃a,x=.ref a/\(∃xs,SqL K H1 a xs)/\R (Itl K a) H1
def Tn0(K:W.Frag)(tl:TE):TI:=fun σ H R=>tl σ H λx H1=>∃a,x=.ref a/\(∃xs,SqT K H1 a xs)/\R (Itt K a) H1
theorem Zt0{l:Expr}{tl:TE}(hl:PE X l tl):PI X tg l (Uv0 X.K tl):=by
 intro pins s σ H R I h;refine thn (hl pins s σ H _ I h) λv s1 ⟨x,H1,I1,r1,q1⟩=>?_
 obtain⟨a,e,⟨xs,hq⟩,q⟩:=q1;subst e;cases r1;obtain⟨its,rv,p,hz⟩:=I1.list hq;refine wpAny_pyIter_list p.isList ?_;refine⟨s1.heap.objs.size,[s1.heap.objs.size],_,_,H1,rfl,I1.kept (t':=s1.toks) λb o e=>B0 _ e,fe0 a _,⟨_,C1 _ rfl,rfl,rfl⟩,λb hb=>?_,q⟩;have e:b=s1.heap.objs.size:=by simpa using hb
 subst e;exact I1.fpOk (A2 _) (I1.hok.fresh (A2 _))
theorem Xl0{l:Expr}{tl:TE}(hl:PE X l tl):PI X tg l (Tn0 X.K tl):=by
 intro pins s σ H R I h;refine thn (hl pins s σ H _ I h) λv s1 ⟨x,H1,I1,r1,q1⟩=>?_
 obtain⟨a,e,⟨xs,hq⟩,q⟩:=q1;subst e;cases r1;obtain⟨its,rv,p,hz⟩:=I1.tuple hq;refine wpAny_pyIter_tuple (show s1.heap.IsTuple a its.toArray from p) ?_;refine⟨s1.heap.objs.size,[s1.heap.objs.size],_,_,H1,rfl,I1.kept (t':=s1.toks) λb o e=>B0 _ e,it0 a _,⟨_,C1 _ rfl,rfl,rfl⟩,λb hb=>?_,q⟩;have e:b=s1.heap.objs.size:=by simpa using hb
 subst e;exact I1.fpOk (A2 _) (I1.hok.fresh (A2 _))
theorem ka0{σ:St}{s:Shared}{R:It->Hp->Prop}{E:Value->Shared->Prop}{lo hi:Int}{t u v:Tok}{tk:Nat}(I:Inv X pins σ H s)(h1:-(2 ^ 62)<=lo)(h2:lo<2 ^ 62)(h3:-(2 ^ 62)<=hi)(h4:hi<2 ^ 62)
  (q:R (Itr lo (hi - lo).toNat) H):wpAny (model X.prog X.w) X.A (pyIter (.ref s.heap.objs.size)) (PIE X pins σ tg R) E { s with heap:=s.heap.push { cls:=.type "range",data:=.fields #[.int lo t,.int hi u,.int 1 v] },toks:=tk }:=by
 refine wpAny_pyIter_range (IsRange.new ..) (small_one h1 h2 h3 h4) ?_;have I1:Inv X pins σ H { s with heap:=s.heap.push { cls:=.type "range",data:=.fields #[.int lo t,.int hi u,.int 1 v] },toks:=tk }:=I.kept λb o e=>B0 _ e
 refine⟨(s.heap.push { cls:=.type "range",data:=.fields #[.int lo t,.int hi u,.int 1 v] }).objs.size,[(s.heap.push { cls:=.type "range",data:=.fields #[.int lo t,.int hi u,.int 1 v] }).objs.size],_,_,H,rfl,
  I1.kept (t':=tk) λb o e=>B0 _ e,hf0 _ lo (hi - lo).toNat,?_,λb hb=>?_,q⟩
 ·have e1:lo+((0:Nat):Int)*1=lo:=by simp
  have e2:(((hi - lo).toNat:Nat):Int) - ((0:Nat):Int)=Builtin.Range.rangeSize lo hi 1:=by rw[rangeSize_one];split<;>omega
  show IsRangeIter _ _ (lo+((0:Nat):Int)*1) ((((hi - lo).toNat:Nat):Int) - ((0:Nat):Int)) 1;rw[e1,e2];exact C1 _ rfl
 ·have e:b=(s.heap.push { cls:=.type "range",data:=.fields #[.int lo t,.int hi u,.int 1 v] }).objs.size:=by simpa using hb
  subst e;exact I1.fpOk (A2 _) (I1.hok.fresh (A2 _))
def T30(ta:TA):TI:=fun σ H R=>ta σ H λvs H1=>∃j:Int,vs=[.int j]/\-(2 ^ 62)<=j/\j<2 ^ 62/\R (Itr 0 j.toNat) H1
def Ui0(ta:TA):TI:=fun σ H R=>ta σ H λvs H1=>∃i j:Int,vs=[.int i,.int j]/\(-(2 ^ 62)<=i/\i<2 ^ 62/\-(2 ^ 62)<=j/\j<2 ^ 62)/\R (Itr i (j - i).toNat) H1
theorem gm0{a:Expr}{ta:TA}(hg:Gl X "range")(hm:X.mg "range"=none)(ha:PA X [a] ta)(hs:starEach [a] X.env=[(false,eval a X.env)]:=by rfl):PI X tg (.Call (.Name "range" p) [a] [] pos) (T30 ta):=by
 intro pins s σ H R I h;refine Call_ (zf0 I hg hm boot_range (E2 (thn (ha pos pins s σ H _ I h) λus s1 ⟨vs,H1,I1,r1,q1⟩=>?_) hs rfl));obtain⟨j,e,q1,q2,q⟩:=q1;subst e;cases r1 with
 | cons r rr =>
  cases rr;obtain⟨t,rfl⟩:=r;exact call_range_1 (ka0 I1 (by omega) (by omega) q1 q2 (by simpa using q))
theorem gp0{a:Expr}{ta:TA}{p pos:Pos}(hg:Gl X "range")(hm:X.mg "range"=none)(ha:PA X [a,b] ta)(hs:starEach [a,b] X.env=[(false,eval a X.env),(false,eval b X.env)]:=by rfl)(hs2:starEach [b] X.env=[(false,eval b X.env)]:=by rfl) :
  PI X tg (.Call (.Name "range" p) [a,b] [] pos) (Ui0 ta):=by
 intro pins s σ H R I h;refine Call_ (zf0 I hg hm boot_range (E2 (thn (ha pos pins s σ H _ I h) λus s1 ⟨vs,H1,I1,r1,q1⟩=>?_) (by rw[hs,hs2]) (by rw[hs2];rfl)));obtain⟨i,j,e,⟨q1,q2,q3,q4⟩,q⟩:=q1;subst e;cases r1 with
 | cons r rr =>
  cases rr with
  | cons r' rr =>
   cases rr;obtain⟨t,rfl⟩:=r;obtain⟨t',rfl⟩:=r';exact call_range_2 (ka0 I1 q1 q2 q3 q4 q)
def Tw0(wi:TI)(g:TG)(tb:TS):TS:=λD σ H=>wi σ H λJ H1=>∃W:Nat->Nat->St->Hp->Prop,(∃m,W 0 m σ H1)/\∀i m σ H,W i m σ H ->
 (J.stop i H/\D.nx σ H)∨(J.go i H/\∃N:St->Hp->Prop,(∀σ' H',N σ' H'->∃m',m'<m/\W (i+1) m' σ' H')/\∀x H',J.yld i H x H'->g x σ H' fun σ2 H2=>tb { D with nx:=N,ct:=N,bk:=D.nx } σ2 H2)
def tc0(fp:List Addr)(h:Heap):List (Addr×Obj):=fp.filterMap λb=>(h.get? b).map λo=>(b,o)
theorem we0{h:Heap}{b:Addr}{o:Obj}(hb:b∈fp)(e:h.get? b=some o):(b,o)∈tc0 fp h:=S2.mpr ⟨b,hb,by rw[e];rfl⟩
theorem fy0{h:Heap}{p:Addr×Obj}(hp:p∈tc0 fp h):p.1∈fp/\h.get? p.1=some p.2:=by
 obtain⟨b,hb,e⟩:=S2.mp hp;cases q:h.get? b with
 | none=>rw[q] at e;cases e
 | some o =>
  rw[q] at e;have e':(b,o)=p:=A8 e;subst e';exact⟨hb,q⟩
theorem Inv.pinned{σ:St}{s:Shared}(I:Inv X pins σ H s)(hf:∀b∈fp,vm0 X pins H b)(ho:∀b∈fp,∃o,s.heap.get? b=some o/\∀v,o.data≠.cell v):Inv X (pins++tc0 fp s.heap) σ H s :=
 I.pins_of λp hp=>(B1.mp hp).elim (λz=>I.pin p (D2 _ z)) λz=>by
  obtain⟨hb,e⟩:=fy0 z;obtain⟨f0,f1,f2,_⟩:=hf p.1 hb;obtain⟨o,e',d⟩:=ho p.1 hb;rw[e] at e';cases e';exact⟨e,f0,f1,f2,d⟩
theorem Inv.unpinned{pl:List (Addr×Obj)}{σ:St}{s:Shared}(I:Inv X (pins++pl) σ H s):Inv X pins σ H s:=I.pins_of λp hp=>I.pin p (D2 _ (E1 _ hp))
theorem Yx0{wi:TI}{g:TG}{tb:TS}{pos:Pos}(hp:PassesOwn (model X.prog X.w) X.A X.env X.xe)(hc:X.calm=true)(hi:PI X tg iter wi)(hg:PG X tg g)(hb:PSs X body tb)
  (hs:∀x,foldedSetIterable iter X.env x=pure x:=by intro _;rfl):PS X (.For tg iter body [] pos) (Tw0 wi g tb):=by
 intro pins s σ H D I h;refine wpAny_For (thn (hi pins s σ H _ I h) λv s1 h1=>thn h1 λa5 s2 h2=>?_) hs;obtain⟨it,fp,tn,J,H2,e,I2,T,a4,f2,W,⟨m0,w0⟩,a1⟩:=h2;subst e;have M:∀{H':Hp},(∀b∈fp,H' b=none)->∀b∈fp,vm0 X pins H' b:=λhn b hb=>⟨hn b hb,(f2 b hb).2⟩
 refine codeAny_forLoop_any (λn s'=>∃i σ' H',Inv X pins σ' H' s'/\tn i s'.heap/\(∀b∈fp,H' b=none)/\W i n σ' H') ?_ m0 ⟨0,σ,H2,I2,a4,λb hb=>(f2 b hb).1,w0⟩;rintro n s3 ⟨i,σ3,H3,I3,Z,a0,w3⟩;rcases a1 i n σ3 H3 w3 with⟨stop,qn⟩|⟨go,N,hN,step⟩
 ·refine L9 hp (thn (T.done X rfl rfl rfl hc i pins s3 σ3 H3 X.xe I3 (M a0) Z stop) λr s4 ⟨hr,I4⟩=>?_)
  subst hr;exact w8 ⟨σ3,H3,I4,qn⟩
 ·refine L9 hp (thn (T.item X rfl rfl rfl hc i pins s3 σ3 H3 X.xe I3 (M a0) Z go) λr s4 ⟨u,hr,h4⟩=>?_)
  subst hr;refine L9 hp (thn h4 λ_ s5 ⟨x,H5,I5,r5,y5,O,a3⟩=>?_);have a2:=I5.pinned (M a3) (T.obj _ _ O);refine L9 hp (thn (hg _ s5 σ3 H5 x u _ a2 r5 (step x H5 y5)) λ_ s6 ⟨σ6,H6,I6,q6⟩=>?_);refine L9 hp (thn (hb _ s6 σ6 H6 _ I6 q6) λf s7 q7=>?_);have again:∀{σ7:St} {H7:Hp},Inv X (pins++tc0 fp s5.heap) σ7 H7 s7->N σ7 H7->∃m,m<n/\∃i σ' H',Inv X pins σ' H' s7/\tn i s7.heap/\(∀b∈fp,H' b=none)/\W i m σ' H':=λ{σ7 H7} I7 n7=>by
   obtain⟨m',hm,w7⟩:=hN σ7 H7 n7;refine⟨m',hm,i+1,σ7,H7,I7.unpinned,T.keep _ _ _ O λb hb o e=>(I7.pin (b,o) (D2 _ (D2 _ (we0 hb e)))).1,λb hb=>?_,w7⟩;obtain⟨o,e,d⟩:=T.obj _ _ O b hb;exact(I7.pin (b,o) (D2 _ (D2 _ (we0 hb e)))).2.1
  cases f with
  | next=>obtain⟨σ7,H7,I7,n7⟩:=q7;exact again I7 n7
  | cont=>obtain⟨σ7,H7,I7,n7⟩:=q7;exact again I7 n7
  | brk=>obtain⟨σ7,H7,I7,q7⟩:=q7;exact⟨σ7,H7,I7.unpinned,q7⟩
  | ret v=>obtain⟨x7,σ7,H7,I7,r7,q7⟩:=q7;exact⟨x7,σ7,H7,I7.unpinned,r7,q7⟩
end
abbrev R2:=V->V->Hp->VK->Prop
def OpR(X:Cx)(f:Value->Value->Sem Value)(r:R2):Prop :=
 ∀(pins:List (Addr×Obj)) (s:Shared) (σ:St) (H:Hp) (x y:V) (v u:Value) (Q:VK),Inv X pins σ H s->RelV x v->RelV y u->r x y H Q ->
  wpAny (model X.prog X.w) X.A (f v u) (EP X pins σ Q) X.xe s
def UnR(X:Cx)(f:Value->Sem Value)(r:V->Hp->VK->Prop):Prop :=
 ∀(pins:List (Addr×Obj)) (s:Shared) (σ:St) (H:Hp) (x:V) (v:Value) (Q:VK),Inv X pins σ H s->RelV x v->r x H Q ->
  wpAny (model X.prog X.w) X.A (f v) (EP X pins σ Q) X.xe s
def CallR(X:Cx)(f:Value)(r:List V->Hp->VK->Prop):Prop :=
 ∀(pins:List (Addr×Obj)) (s:Shared) (σ:St) (H:Hp) (xs:List V) (us:List Value) (Q:VK),Inv X pins σ H s->Vals xs us->r xs H Q ->
  wpAny (model X.prog X.w) X.A (call f us) (EP X pins σ Q) X.xe s
def tOp(r:R2)(ta tb:TE):TE:=fun σ H Q=>ta σ H λx H1=>tb σ H1 λy H2=>r x y H2 Q
def tUn(r:V->Hp->VK->Prop)(ta:TE):TE:=fun σ H Q=>ta σ H λx H1=>r x H1 Q
def rI(C:Int->Int->Prop)(g:Int->Int->V):R2:=λx y H Q=>∃i j,x=.int i/\y=.int j/\C i j/\Q (g i j) H
def rI0(g:Int->Int->V):R2:=λx y H Q=>∃i j,x=.int i/\y=.int j/\Q (g i j) H
def rU(g:Int->V):V->Hp->VK->Prop:=λx H Q=>∃i,x=.int i/\Q (g i) H
section
variable{a:Expr}{tc:TE}
theorem dd0(ha:PE X a ta)(hb:PE X b tb){s:Shared}{σ:St}{R:V->V->Hp->Prop}(I:Inv X pins σ H s)
  (h:ta σ H λx H1=>tb σ H1 λy H2=>R x y H2) {Q:Value->Shared->Prop} {f:Value->Value->Sem Value}
  (hf:∀v u s2 x y H2,Inv X pins σ H2 s2->RelV x v->RelV y u->R x y H2->wpAny (model X.prog X.w) X.A (f v u) Q X.xe s2) :
  wpAny (model X.prog X.w) X.A (eval a X.env) (λv s₁=>wpAny (model X.prog X.w) X.A (eval b X.env) (λu s₂=>wpAny (model X.prog X.w) X.A (f v u) Q X.xe s₂) X.xe s₁) X.xe s:=by
 refine thn (ha pins s σ H _ I h) λv s1 ⟨x,H1,I1,r1,q1⟩=>?_
 refine thn (hb pins s1 σ H1 _ I1 q1) λu s2 ⟨y,H2,I2,r2,q2⟩=>?_
 exact hf v u s2 x y H2 I2 r1 r2 q2
theorem Vx0{op:Operator}{r:R2}(ho:OpR X (binaryOp op) r)(ha:PE X a ta)(hb:PE X b tb):PE X (.BinOp a op b pos) (tOp r ta tb):=by
 intro pins s σ H Q I h;exact wpAny_BinOp (dd0 ha hb I h λv u s2 x y H2 I2 rx ry q=>ho pins s2 σ H2 x y v u Q I2 rx ry q)
theorem Ud0{op:UnaryOp}{r:V->Hp->VK->Prop}(ho:UnR X (unaryOp op) r)(ha:PE X a ta):PE X (.UnaryOp op a pos) (tUn r ta):=by
 intro pins s σ H Q I h;exact UnaryOp_ (thn (ha pins s σ H _ I h) λv s1 ⟨x,H1,I1,r1,q1⟩=>ho pins s1 σ H1 x v Q I1 r1 q1)
theorem opI{f:Value->Value->Sem Value}{C:Int->Int->Prop}{g:Int->Int->Int}
  (rule:∀(i j:Int) (t u:Tok) (s:Shared) (Q:Value->Shared->Prop) (E:Value->Shared->Prop),C i j->Q (.int (g i j) s.toks) { s with toks:=s.toks+1 }->wpAny (model X.prog X.w) X.A (f (.int i t) (.int j u)) Q E s) :
  OpR X f (rI C λi j=>.int (g i j)):=by
 intro pins s σ H x y v u Q I rx ry h;obtain⟨i,j,rfl,rfl,hc,q⟩:=h;obtain⟨t,rfl⟩:=rx;obtain⟨t',rfl⟩:=ry;exact rule i j t t' s _ _ hc ⟨.int (g i j),H,I.tok _,⟨_,rfl⟩,q⟩
theorem Xc0{f:Value->Value->Sem Value}{g:Int->Int->Int}
  (rule:∀(i j:Int) (t u:Tok) (s:Shared) (Q:Value->Shared->Prop) (E:Value->Shared->Prop),Q (.int (g i j) s.toks) { s with toks:=s.toks+1 }->wpAny (model X.prog X.w) X.A (f (.int i t) (.int j u)) Q E s) :
  OpR X f (rI0 λi j=>.int (g i j)):=by
 intro pins s σ H x y v u Q I rx ry h;obtain⟨i,j,rfl,rfl,q⟩:=h;obtain⟨t,rfl⟩:=rx;obtain⟨t',rfl⟩:=ry;exact rule i j t t' s _ _ ⟨.int (g i j),H,I.tok _,⟨_,rfl⟩,q⟩
theorem Yv0{f:Value->Value->Sem Value}{g:Int->Int->Bool}
  (rule:∀(i j:Int) (t u:Tok) (s:Shared) (Q:Value->Shared->Prop) (E:Value->Shared->Prop),Q (.bool (g i j)) s->wpAny (model X.prog X.w) X.A (f (.int i t) (.int j u)) Q E s) :
  OpR X f (rI0 λi j=>.bl (g i j)):=by
 intro pins s σ H x y v u Q I rx ry h;obtain⟨i,j,rfl,rfl,q⟩:=h;obtain⟨t,rfl⟩:=rx;obtain⟨t',rfl⟩:=ry;exact rule i j t t' s _ _ ⟨.bl (g i j),H,I,rfl,q⟩
def ey0(i j:Int):Prop:=0<j/\j<1073741824
def cj0(i j:Int):Prop:=0<=j/\j<=1000000/\i.natAbs<2 ^ 64
def CMul(i j:Int):Prop:=(-(2 ^ 64)<i/\i<2 ^ 64)∨(-(2 ^ 64)<j/\j<2 ^ 64)
theorem CMul.ok{i j:Int}(h:CMul i j):IntMulOk i j:=by
 rcases h with⟨h1,h2⟩|⟨h1,h2⟩
 ·exact .of_left (intBits_le_64 h1 h2)
 ·exact .of_right (intBits_le_64 h1 h2)
theorem Ys0:OpR X (binaryOp .Add) (rI0 λi j=>.int (i+j)):=Xc0 λ_ _ _ _ _ _ _ q=>add_int q
theorem Wv0:OpR X (binaryOp .Sub) (rI0 λi j=>.int (i - j)):=Xc0 λ_ _ _ _ _ _ _ q=>sub_int q
theorem Xh0:OpR X (binaryOp .Mult) (rI CMul λi j=>.int (i*j)):=opI λ_ _ _ _ _ _ _ hc q=>mul_int q hc.ok
theorem Za0:OpR X (binaryOp .FloorDiv) (rI ey0 λi j=>.int (i/j)):=opI λi j _ _ _ _ _ hc q=>by
 have h1:(0:Int)<j:=hc.1;have h2:j<1073741824:=hc.2;exact floordiv_int (by omega) (by rw[Int.fdiv_eq_ediv_of_nonneg i (by omega)];exact q) (.inl (PyProof.noPylong_small (by omega)))
theorem Wl0:OpR X (binaryOp .Mod) (rI (λ_ j=>0<j) λi j=>.int (i%j)):=opI λi j _ _ _ _ _ hc q=>by
 have h1:(0:Int)<j:=hc;exact mod_int' (by omega) (by rw[Int.fmod_eq_emod_of_nonneg i (by omega)];exact q)
theorem Wg0:OpR X (binaryOp .Pow) (rI cj0 λi j=>.int (i ^ j.toNat)):=opI λ_ _ _ _ _ _ _ hc q=>pow_int_small hc.1 hc.2.1 hc.2.2 q
theorem unI{f:Value->Sem Value}{g:Int->Int}
  (rule:∀(i:Int) (t:Tok) (s:Shared) (Q:Value->Shared->Prop) (E:Value->Shared->Prop),Q (.int (g i) s.toks) { s with toks:=s.toks+1 }->wpAny (model X.prog X.w) X.A (f (.int i t)) Q E s) :
  UnR X f (rU λi=>.int (g i)):=by
 intro pins s σ H x v Q I rx h;obtain⟨i,rfl,q⟩:=h;obtain⟨t,rfl⟩:=rx;exact rule i t s _ _ ⟨.int (g i),H,I.tok _,⟨_,rfl⟩,q⟩
theorem Xk0:UnR X (unaryOp .USub) (rU λi=>.int (-i)):=unI λ_ _ _ _ _ q=>neg_int q
end
def W90:V->V->Bool
 | .non,.non=>true|.non,.int _=>true|.int _,.non=>true|.non,.bl _=>true|.bl _,.non=>true|.non,.str _=>true|.str _,.non=>true
 | .int _,.int _=>true|.bl _,.bl _=>true|.str _,.str _=>true|.byt _,.byt _=>true
 | .int _,.str _=>true|.str _,.int _=>true|.bl _,.str _=>true|.str _,.bl _=>true
 | _,_=>false
def rEq:R2:=λx y H Q=>W90 x y=true/\Q (.bl (decide (x=y))) H
theorem Zf0{i j:Int}:decide (V.int i=V.int j)=(i==j):=by
 rw[Bool.eq_iff_iff];simp
theorem W70{i j:Bool}:decide (V.bl i=V.bl j)=(i==j):=by
 rw[Bool.eq_iff_iff];simp
theorem Z70{i j:Str}:decide (V.str i=V.str j)=(i==j):=by
 rw[Bool.eq_iff_iff];simp
theorem ay0{i j:Array UInt8}:decide (V.byt i=V.byt j)=(i.toList==j.toList):=by
 rw[Bool.eq_iff_iff];cases i;cases j;simp
section
variable{a:Expr}{tc:TE}
theorem O5{σ:St}{s:Shared}{Q:VK}{k k':Bool}(I:Inv X pins σ H s)(q:Q (.bl k) H)(e:k=k'):EP X pins σ Q (.bool k') s:=by
 subst e;exact⟨.bl k,H,I,rfl,q⟩
theorem Q5:OpR X (compareOp .Eq) rEq:=by
 intro pins s σ H x y v u Q I rx ry h;obtain⟨hs,q⟩:=h;cases x with
 | non =>
  cases rx;cases y with
  | non=>cases ry;exact PySem.EqNone.eq_none_none (O5 I q (by simp))
  | bl j=>cases ry;exact PySem.EqNone.eq_none_bool (O5 I q (by simp))
  | int j=>obtain⟨t',rfl⟩:=ry;exact PySem.EqNone.eq_none_int (O5 I q (by simp))
  | str j=>obtain⟨t',rfl⟩:=ry;exact PySem.EqNone.eq_none_str (O5 I q (by simp))
  | _=>exact absurd (show false=true from hs) B3
 | bl i =>
  cases rx;cases y with
  | non=>cases ry;exact PySem.EqNone.eq_bool_none (O5 I q (by simp))
  | bl j=>cases ry;exact eq_bool (O5 I q W70)
  | str j=>obtain⟨t',rfl⟩:=ry;exact PySem.EqMixed.eq_bool_str (O5 I q (by simp))
  | _=>exact absurd (show false=true from hs) B3
 | int i =>
  obtain⟨t,rfl⟩:=rx;cases y with
  | non=>cases ry;exact PySem.EqNone.eq_int_none (O5 I q (by simp))
  | int j=>obtain⟨t',rfl⟩:=ry;exact eq_int (O5 I q Zf0)
  | str j=>obtain⟨t',rfl⟩:=ry;exact PySem.EqMixed.eq_int_str (O5 I q (by simp))
  | _=>exact absurd (show false=true from hs) B3
 | str i =>
  obtain⟨t,rfl⟩:=rx;cases y with
  | non=>cases ry;exact PySem.EqNone.eq_str_none (O5 I q (by simp))
  | bl j=>cases ry;exact PySem.EqMixed.eq_str_bool (O5 I q (by simp))
  | int j=>obtain⟨t',rfl⟩:=ry;exact PySem.EqMixed.eq_str_int (O5 I q (by simp))
  | str j=>obtain⟨t',rfl⟩:=ry;exact eq_str (O5 I q Z70)
  | _=>exact absurd (show false=true from hs) B3
 | byt i =>
  obtain⟨t,rfl⟩:=rx;cases y with
  | byt j=>obtain⟨t',rfl⟩:=ry;exact W.eq_bytes (O5 I q ay0)
  | _=>exact absurd (show false=true from hs) B3
 | _=>cases y<;>exact absurd (show false=true from hs) B3
theorem ve0:OpR X (compareOp .Lt) (rI0 λi j=>.bl (decide (i<j))):=Yv0 λ_ _ _ _ _ _ _ q=>lt_int q
theorem i80:OpR X (compareOp .Gt) (rI0 λi j=>.bl (decide (j<i))):=Yv0 λ_ _ _ _ _ _ _ q=>gt_int q
theorem es0:OpR X (compareOp .Is) (λx y H Q=>y=.non/\Q (.bl (decide (x=.non))) H):=by
 intro pins s σ H x y v u Q I rx ry h;obtain⟨rfl,q⟩:=h;cases ry;refine is_none_gen (O5 I q ?_);cases x<;>first
  | (cases rx;rfl)
  | (obtain⟨t,rfl⟩:=rx;rfl)
theorem OpR.or{f:Value->Value->Sem Value}{r r':R2}(h:OpR X f r)(h':OpR X f r'):OpR X f (λx y H Q=>r x y H Q∨r' x y H Q):=by
 intro pins s σ H x y v u Q I rx ry q;rcases q with q|q
 ·exact h pins s σ H x y v u Q I rx ry q
 ·exact h' pins s σ H x y v u Q I rx ry q
theorem et0(b:Expr){op:CmpOp}(h:op≠.In:=by decide)(h2:op≠.NotIn:=by decide):behindInMarks op b=false:=by
 have e1:(op==CmpOp.In)=false:=by cases op<;>first|rfl|exact absurd rfl h
 have e2:(op==CmpOp.NotIn)=false:=by cases op<;>first|rfl|exact absurd rfl h2
 cases b<;>simp[behindInMarks,e1,e2]
theorem a90{op:CmpOp}{r:R2}(ho:OpR X (compareOp op) r)(ha:PE X a ta)(hb:PE X b tb)(hm:behindInMarks op b=false):PE X (.Compare a [op] [b] pos) (tOp r ta tb):=by
 intro pins s σ H Q I h;exact wpAny_Compare1 (dd0 ha hb I h λv u s2 x y H2 I2 rx ry q=>ho pins s2 σ H2 x y v u Q I2 rx ry q) hm
def T10(t:TE):TT:=fun σ H Q=>t σ H λx H'=>∃k,x=.bl k/\Q k H'
theorem Zl0{op:CmpOp}{r:R2}(ho:OpR X (compareOp op) r)(ha:PE X a ta)(hb:PE X b tb)(hm:behindInMarks op b=false):PT X (.Compare a [op] [b] pos) (T10 (tOp r ta tb)):=by
 intro pins s σ H Q I h;refine wpAny_isTrue_Compare1 (thn (ha pins s σ H _ I h) λv s1 ⟨x,H1,I1,r1,q1⟩=>thn (hb pins s1 σ H1 _ I1 q1) λu s2 ⟨y,H2,I2,r2,q2⟩ =>
  thn (ho pins s2 σ H2 x y v u _ I2 r1 r2 q2) λc s3 ⟨z,H3,I3,r3,k,e,q3⟩=>?_) hm
 subst e;cases r3;exact S1 ⟨H3,I3,q3⟩
theorem w70:(sizeLine:Nat)<2 ^ 63:=by rw[sizeLine_eq];decide
theorem g00:OpR X (binaryOp .Add) (λx y H Q=>∃i j,x=.str i/\y=.str j/\i.length+j.length<=sizeLine/\Q (.str (i++j)) H):=by
 intro pins s σ H x y v u Q I rx ry h;obtain⟨i,j,rfl,rfl,hz,q⟩:=h;obtain⟨t,rfl⟩:=rx;obtain⟨t',rfl⟩:=ry;exact add_str (λt' tk=>⟨.str (i++j),H,I.tok _,⟨_,rfl⟩,q⟩) hz
theorem vals1{x:V}(r:Vals [x] us):∃u,us=[u]/\RelV x u:=by
 cases r with
 | cons r1 r2=>cases r2;exact⟨_,rfl,r1⟩
theorem gw0:CallR X (.type "int") (λxs H Q=>(∃i,xs=[.int i]/\Q (.int i) H)∨∃k,xs=[.bl k]/\Q (.int (if k then 1 else 0)) H):=by
 intro pins s σ H xs us Q I r h;rcases h with⟨i,rfl,q⟩|⟨k,rfl,q⟩
 ·obtain⟨u,rfl,t,rfl⟩:=vals1 r
  exact call_int_int ⟨.int i,H,I,⟨_,rfl⟩,q⟩
 ·obtain⟨u,rfl,r1⟩:=vals1 r
  cases r1;exact call_int_bool ⟨.int (if k then 1 else 0),H,I.tok _,⟨_,rfl⟩,q⟩
end
theorem RelO.some_of{v:V}{o:Option Value}(r:RelO (some v) o):∃u,o=some u/\RelV v u:=by
 cases o with
 | none=>exact(show False from r).elim
 | some u=>exact⟨u,rfl,r⟩
structure Room(k:Nat)(A:Around):Prop where
 hd:A.handled=none
 dp:A.depth+3*k+5<recursionLimit
 un:A.units+16*k+200<cLine
theorem Room.mono{k:Nat}{A:Around}(r:Room k A)(h:j<=k):Room j A:=⟨r.hd,by have:=r.dp;omega,by have:=r.un;omega⟩
theorem Room.deeper{k:Nat}{A:Around}(r:Room (k+1) A)(env:Env):Room k (A.deeper env) :=
 ⟨r.hd,by have:=r.dp;show A.depth+1+3*k+5<_;omega,by have:=r.un;show A.units+3+16*k+200<_;omega⟩
theorem Room.depth{k:Nat}{A:Around}(r:Room k A):A.depth<recursionLimit:=by have:=r.dp;omega
theorem Room.units{k:Nat}{A:Around}(r:Room k A):A.units+64<cLine:=by have:=r.un;omega
def S10:TA:=λ_ H Q=>Q [] H
def Ul0(ta:TE)(tr:TA):TA:=fun σ H Q=>ta σ H λx H1=>tr σ H1 λxs H2=>Q (x::xs) H2
section
variable{t:TA}
theorem yx0:PA X [] S10:=λ_ _ _ _ H Q I h=>N9 ⟨[],H,I,.nil,h⟩
theorem K3(ha:PE X e te)(hr:PA X es t)(hs:starEach (e::es) X.env=(false,eval e X.env)::starEach es X.env:=by rfl):PA X (e::es) (Ul0 te t):=by
 intro pos pins s σ H Q I h;rw[hs];show wpAny _ _ (spliced ((false,eval e X.env)::backTo pos (starEach es X.env))) _ _ s;refine K2 (thn (ha pins s σ H _ I h) λu s1 ⟨x,H1,I1,r1,q1⟩=>?_);exact thn (hr pos pins s1 σ H1 _ I1 q1) λus s2 ⟨xs,H2,I2,r2,q2⟩=>⟨x::xs,H2,I2,.cons r1 r2,q2⟩
def Tb0(t:TA):TE:=fun σ H Q=>t σ H λxs H1=>xs.length<=sizeLine/\∀p,H1 p=none->Q (.ref p) (upd H1 p (.tup xs))
def Tt0(t:TA):TE:=fun σ H Q=>t σ H λxs H1=>xs.length<=sizeLine/\∀p,H1 p=none->Q (.ref p) (upd H1 p (.lst xs))
theorem V70{x1}(h:PA X es t):PE X (.Tuple es x1 pos) (Tb0 t):=by
 intro pins s σ H Q I hq;refine wpAny_Tuple_spliced (thn (h pos pins s σ H _ I hq) λus s1 ⟨xs,H1,I1,r,z,q⟩=>⟨by rw[← r.length];exact z,?_⟩);have hf:H1 s1.heap.objs.size=none:=I1.hok.fresh (A2 _);refine⟨.ref s1.heap.objs.size,upd H1 s1.heap.objs.size (.tup xs),I1.laid (t':=s1.toks) (λb u e=>B0 _ e) (A2 _) ?_,rfl,q _ hf⟩;exact⟨z,us,r,⟨_,C1 _ rfl,rfl,_,rfl,rfl⟩⟩
theorem e30(h:PA X es t):PE X (.List es pos) (Tt0 t):=by
 intro pins s σ H Q I hq;refine wpAny_List_spliced (thn (h pos pins s σ H _ I hq) λus s1 ⟨xs,H1,I1,r,z,q⟩=>⟨by rw[← r.length];exact z,?_⟩);have hf:H1 s1.heap.objs.size=none:=I1.hok.fresh (A2 _);refine⟨.ref s1.heap.objs.size,upd H1 s1.heap.objs.size (.lst xs),I1.laid (t':=s1.toks) (λb u e=>B0 _ e) (A2 _) ?_,rfl,q _ hf⟩;exact⟨z,us,0,r,C1 _ rfl⟩
end
abbrev Sp:=List V->Hp->VK->XK->Prop
abbrev CXT:=List Env->Hp->Shared->XK->Value->Shared->Prop
variable{sp:L2.Sp}
structure Env0(P:Program)(w:World)(K:W.Frag)(mg:Str->Option Value)(base:Heap)(A:Around)(outer:List Env)(s:Shared)(H:Hp):Prop where
 frames:A.frames=some outer
 mod:Mod K mg base
 bs:∀b o,base.get? b=some o->s.heap.get? b=some o/\H b=none
 bsz:base.objs.size<=s.heap.objs.size
 funs:s.heap.FunFrames base outer
 frf:∀b∈frs outer,H b=none
 hok:HOk P w H s.heap
 bare:AllBare s.gens
variable{CX:L2.CXT}
def CE(outer:List Env)(P:Program)(w:World)(H:Hp)(s:Shared)(Q:VK)(u:Value)(s':Shared):Prop :=
 ∃v H',s'.os=s.os/\AllBare s'.gens/\Un (frs outer) [] H H' s.heap s'.heap/\HOk P w H' s'.heap/\RelV v u/\Q v H'
def CR(CX:CXT)(outer:List Env)(P:Program)(w:World)(H:Hp)(s:Shared)(Q:VK)(E:XK)(r:Result)(s':Shared):Prop :=
 match r with
 | .ok (.ret u)=>CE outer P w H s Q u s'
 | .ok _=>False
 | .error e=>CX outer H s E e s'
structure FnOk(P:Program)(w:World)(K:W.Frag)(mg:Str->Option Value)(base:Heap)(CX:CXT)(k:Nat)(f:Addr)(fd:FuncData)(ps:List Str)(sp:Sp):Prop where
 len:∀vs H Q E,sp vs H Q E->vs.length=ps.length
 run:∀(A:Around) (outer:List Env) (s:Shared) (H:Hp) (args:Args) (us:List Value) (vs:List V) (Q:VK) (E:XK),Room k A->Env0 P w K mg base A outer s H->BindsTo s fd args (ps.zip us)->Vals vs us->sp vs H Q E ->
  codeAny (model P w) A (.call (.ref f) args) (CR CX outer P w H s Q E) s
section
variable{σ:St}{s:Shared}
theorem Inv.env0(I:Inv X pins σ H s):Env0 X.prog X.w X.K X.mg X.base X.A X.stack s H :=
 ⟨I.ok.frames,I.ok.mod,I.bs,C0 I.ok.bsz I.sz,I.stack,I.stkFree,I.hok,I.bare⟩
theorem Inv.after{Q:VK}(I:Inv X pins σ H s)(h:CE X.stack X.prog X.w H s Q u s'):EP X pins σ Q u s':=by
 obtain⟨v,H',os,bare,un,hok,r,q⟩:=h;obtain⟨hh,g,d,t,J⟩:=s';obtain rfl:J=s.os:=os;exact⟨v,H',I.call (h':=hh) (g':=g) (d':=d) (t':=t) (ch:=[]) un hok bare (λb z=>absurd z (by simp)),r,q⟩
end
def Us0(sp:Sp)(dvs:List V)(E:XK)(t:TA):TE:=fun σ H Q=>t σ H λvs H1=>sp (vs++dvs) H1 Q E
def Binds(K:W.Frag)(fd:FuncData)(ps:List Str)(ds:List Value):Prop :=
 ∀(s:Shared) (us:List Value),K.In s.heap->(us++ds).length=ps.length->BindsTo s fd ⟨us,[]⟩ (ps.zip (us++ds))
theorem Binds.all{ps:List Str}(h:∀us:List Value,us.length=ps.length->bindArgs fd ⟨us,[]⟩=pure (ps.zip us)):Binds K fd ps []:=λs us _ hl=>by
 rw[List.append_nil] at hl ⊢;exact .of_eq (h us hl)
def kj0(CX:CXT)(X:Cx)(E:XK):Prop:=∀(pins:List (Addr×Obj)) (σ:St) (H:Hp) (s:Shared) (e:Value) (s':Shared),Inv X pins σ H s->CX X.stack H s E e s'->X.xe e s'
section
variable{k:Nat}{f C:Addr}{ps:List Str}{dvs:List V}{ds:List Value}{E:XK}{m:Str}{t:TA}
theorem Wu0{pins:List (Addr×Obj)}{σ:St}{H:Hp}{s:Shared}{Q:VK}{us:List Value}{vs:List V}(F:FnOk X.prog X.w X.K X.mg X.base CX k f fd ps sp)(hr:Room k X.A)(hb:Binds X.K fd ps ds)(hd:Vals dvs ds)(hx:kj0 CX X E)
  (I:Inv X pins σ H s) (r:Vals vs us) (h:sp (vs++dvs) H Q E):wpAny (model X.prog X.w) X.A (call (.ref f) us) (EP X pins σ Q) X.xe s:=by
 have r2:Vals (vs++dvs) (us++ds):=r.append hd;have hl:(us++ds).length=ps.length:=by rw[← r2.length];exact F.len _ _ _ _ h
 refine wpAny_call (x0 (F.run X.A X.stack s H ⟨us,[]⟩ (us++ds) (vs++dvs) Q E hr I.env0 (hb s us I.kIn hl) r2 h) λr s' hq=>?_);cases r with
 | error e=>exact hx pins σ H s e s' I hq
 | ok fl =>
  cases fl with
  | ret u=>exact I.after hq
  | next=>exact False.elim hq
  | brk=>exact False.elim hq
  | cont=>exact False.elim hq
theorem uh0(F:FnOk X.prog X.w X.K X.mg X.base CX k f fd ps sp)(hr:Room k X.A)(hg:Gl X x)(hm:X.mg x=some (.ref f))(hk:W.keepIn X.K (.ref f)=true)(hb:Binds X.K fd ps ds)(hd:Vals dvs ds)(hx:kj0 CX X E)
  (ha:PA X (e::es) t) (hdb:(x==("__debug__" : Str))=false:=by decide) (he:starEach (e::es) X.env=(false,eval e X.env)::starEach es X.env:=by rfl) (hpl:(backTo pos (starEach es X.env)).any (·.1)=false:=by rfl) :
  PE X (.Call (.Name x p) (e::es) [] pos) (Us0 sp dvs E t):=by
 intro pins s σ H Q I h;refine M0 (bw0 I hg hm ?_ hdb);refine W.callWith_K (h₀:=X.base) I.ok.mod.kin hk (thn (ha pos pins s σ H _ I h) λus s1 ⟨vs,H1,I1,r,q⟩=>⟨I1.kIn,?_⟩) he hpl;exact Wu0 F hr hb hd hx I1 r q
end
structure FnScope(N P:List Str)(sc:Scope):Prop where
 kind:sc.kind=.function
 co:sc.isCoroutine=false
 gen:sc.isGenerator=false
 nd:N.Nodup
 pre:N.take P.length=P
 par:∀x∈P,sc.names.lookup x=some .local∨sc.names.lookup x=some .cell
 nofree:∀y∈sc.names,y.2≠.free
theorem oj0{kindOf:Str->Option NameKind}:∀{binds:List (Str×Value)} {m:Str->Option Value},(∀v,(x,v)∉binds)->bindL kindOf binds m x=m x
 | [],_,_=>rfl
 | (n,v)::r,m,h=>by
  unfold bindL;rw[oj0 λw hw=>h w (A3 _ hw)];split
  ·have:x≠n:=by rintro rfl;exact h v A5
   simp[this]
  ·rfl
theorem ol0{kindOf:Str->Option NameKind}:∀{binds:List (Str×Value)} {m:Str->Option Value},(∀v,(x,v)∉binds)->bindC kindOf binds m x=m x
 | [],_,_=>rfl
 | (n,v)::r,m,h=>by
  unfold bindC;rw[ol0 λw hw=>h w (A3 _ hw)];split
  ·rfl
  ·have:x≠n:=by rintro rfl;exact h v A5
   simp[this]
theorem or0{kindOf:Str->Option NameKind}:∀{P:List Str} {vs:List Value} {i:Nat} {m:Str->Option Value},P.Nodup->P[i]?=some x->vs[i]?=some v->kindOf x=some .local ->
  bindL kindOf (P.zip vs) m x=some v
 | [],_,_,_,_,h,_,_=>by simp at h
 | _::_,[],_,_,_,_,h,_=>by simp at h
 | p::P,w::vs,0,m,nd,h1,h2,hk=>by
  simp at h1 h2;subst h1;subst h2;show bindL kindOf ((p,w)::P.zip vs) m p=_;unfold bindL;rw[oj0 λv hv=>(E3.mp nd).1 (i7 hv).1,if_pos hk];simp
 | p::P,w::vs,i+1,m,nd,h1,h2,hk=>by
  show bindL kindOf ((p,w)::P.zip vs) m x=_;unfold bindL;exact or0 (i:=i) (E3.mp nd).2 (by simpa using h1) (by simpa using h2) hk
theorem n60{kindOf:Str->Option NameKind}:∀{P:List Str} {vs:List Value} {i:Nat} {m:Str->Option Value},P.Nodup->P[i]?=some x->vs[i]?=some v->kindOf x≠some .local ->
  bindC kindOf (P.zip vs) m x=some v
 | [],_,_,_,_,h,_,_=>by simp at h
 | _::_,[],_,_,_,_,h,_=>by simp at h
 | p::P,w::vs,0,m,nd,h1,h2,hk=>by
  simp at h1 h2;subst h1;subst h2;show bindC kindOf ((p,w)::P.zip vs) m p=_;unfold bindC;rw[ol0 λv hv=>(E3.mp nd).1 (i7 hv).1,if_neg hk];simp
 | p::P,w::vs,i+1,m,nd,h1,h2,hk=>by
  show bindC kindOf ((p,w)::P.zip vs) m x=_;unfold bindC;exact n60 (i:=i) (E3.mp nd).2 (by simpa using h1) (by simpa using h2) hk
def start(N:List Str)(vs:List V):St:=vs.map some++List.replicate (N.length - vs.length) none
def wx0(CX:CXT)(P:Program)(w:World)(K:W.Frag)(mg:Str->Option Value)(base:Heap)(N:List Str)(qual:Str)(scope:Scope)(f:Addr)(cd:Value)(A:Around)(outer:List Env)(s:Shared)(H:Hp)(E:XK):Cx where
 prog:=P
 w:=w
 K:=K
 mg:=mg
 base:=base
 A:=A.deeper (envOfC qual scope s.heap.objs.size f cd)
 N:=N
 s₀:=s
 H₀:=H
 env:=envOfC qual scope s.heap.objs.size f cd
 outer:=outer
 stack:=envOfC qual scope s.heap.objs.size f cd::outer
 ex:=[]
 calm:=true
 fn:=λ_=>true
 pn:=[]
 xe:=λe s'=>wpAny (model P w) (A.deeper (envOfC qual scope s.heap.objs.size f cd)) (leaving (envOfC qual scope s.heap.objs.size f cd) e) (λ_ s''=>CX outer H s E e s'') (λe' s''=>CX outer H s E e' s'') s'
theorem k50(h:sc.names.lookup x=some .cell):∃c,(cellsFrom n sc.names []).lookup x=some c:=by
 have q:=W.cellsFrom_some sc.names n [] (.inl h);exact Option.isSome_iff_exists.mp q
theorem ev0{CX:CXT}{P:Program}{w:World}{K:W.Frag}{mg:Str->Option Value}{base:Heap}{N ps:List Str}{qual:Str}{scope:Scope}{f:Addr}{cd:Value}{A:Around}{outer:List Env}{s s1:Shared}{H:Hp}{E:XK}{us:List Value}{vs:List V}
  (S:FnScope N ps scope) (hd:A.handled=none) (e0:Env0 P w K mg base A outer s H) (hl:vs.length=ps.length) (r:Vals vs us)
  (x:InCallC s s.heap.objs.size (bindL (envOfC qual scope s.heap.objs.size f cd).kindOf (ps.zip us) λ_=>none) (cellsFrom (s.heap.objs.size+1) scope.names []) (bindC (envOfC qual scope s.heap.objs.size f cd).kindOf (ps.zip us) λ_=>none) s1) :
  Inv (wx0 CX P w K mg base N qual scope f cd A outer s H E) [] (start N vs) H s1:=by
 have O:ps.length<=N.length:=by have:=D5 List.length S.pre;rw[List.length_take] at this;omega
 obtain⟨h1,tk,rfl,hk⟩:=x.done;have J:∀b:Addr,b∉(wx0 CX P w K mg base N qual scope f cd A outer s H E).ex:=λb z=>absurd (show b∈([]:List Addr) from z) (by simp)
 refine⟨⟨e0.mod,S.kind,rfl,rfl,A2 _,λy z c h1 h2=>?_,λy hy=>?_,λy c _ h=>?_,λ_=>hd,Around.frames_deeper e0.frames,.inr ⟨rfl,rfl⟩,λb z=>absurd z (J b),e0.bs,e0.bsz,λb _ _=>J b,λb z=>absurd z (J b),e0.funs,e0.frf⟩,
  rfl,e0.bare,Un.kept hk,⟨_,x.toInCall.ns,λi y v h1 h2 h3=>?_⟩,λy c h=>⟨_,x.cell y c h⟩,e0.hok.fresh (A2 _),λy c h=>?_,λp hp=>absurd (show p∈([]:List (Addr×Obj)) from hp) (by simp),e0.hok.kept hk,?_⟩
 ·exact name_of_addr x.apart (E8 h1) (E8 h2)
 ·have hy:scope.names.lookup y=some .cell∨scope.names.lookup y=some .free:=hy
  rcases hy with hy|hy
  ·exact k50 hy
  ·exact absurd rfl (S.nofree _ (E8 hy))
 ·exact K0 (x.above y c (E8 h))
 ·have hi:i<vs.length:=by
   unfold start at h2
   by_cases hi:i<vs.length
   ·exact hi
   ·rw[List.getElem?_append_right (by simpa using hi)] at h2
    rw[List.getElem?_replicate] at h2;split at h2<;>cases h2
  have ha:vs[i]?=some v:=by
   unfold start at h2;rw[List.getElem?_append_left (by simpa using hi),List.getElem?_map] at h2;cases e:vs[i]? with
   | none=>rw[e] at h2;cases h2
   | some a=>rw[e] at h2;cases h2;rfl
  obtain⟨u,hu,rv⟩:=r.get ha;have hp:ps[i]?=some y:=by
   rw[← S.pre,List.getElem?_take_of_lt (by omega)];exact h1
  have M:ps.Nodup:=by rw[← S.pre];exact S.nd.sublist (List.take_sublist _ _)
  refine⟨u,rv,?_⟩;rcases S.par y (O0 hp) with k|k
  ·exact .inl ⟨k,or0 M hp hu k⟩
  ·obtain⟨c,e⟩:=k50 (n:=s.heap.objs.size+1) k
   refine .inr ⟨.inl k,c,e,?_⟩;have q:=x.cell y c e;rw[n60 M hp hu (by show scope.names.lookup y≠_;rw[k];decide)] at q;exact q
 ·exact e0.hok.fresh (K0 (x.above y c (E8 h)))
 ·unfold start
  show _=N.length;rw[List.length_append,List.length_map,List.length_replicate];omega
theorem cx0{CX:CXT}{P:Program}{w:World}{K:W.Frag}{mg:Str->Option Value}{base:Heap}{k:Nat}{f:Addr}{name qual:Str}{params:Arguments}{body:List Stmt}{scope:Scope}{dV kV doc pm cdv ct oc:Value}{an od:Option Addr}
  {osl:Array (Option Value)} {N ps:List Str} {sp:Sp} (lk:K.lookup f=some ⟨oc,od,.func (W.fnOf name qual params body scope dV kV doc pm an cdv ct),osl⟩) (hcd:W.codeIn K cdv qual=true) (S:FnScope N ps scope)
  (len:∀vs H Q E,sp vs H Q E->vs.length=ps.length)
  (hbody:∀(A:Around) (outer:List Env) (s:Shared) (H:Hp) (vs:List V) (Q:VK) (E:XK),Room k (A.deeper (envOfC qual scope s.heap.objs.size f cdv))->sp vs H Q E ->
   ∃t,PSs (wx0 CX P w K mg base N qual scope f cdv A outer s H E) body t/\t { nx:=λ_ H'=>Q .non H',rt:=Q } (start N vs) H) :
  FnOk P w K mg base CX (k+1) f (W.fnOf name qual params body scope dV kV doc pm an cdv ct) ps sp:=by
 refine⟨len,λA outer s H a1 us vs Q E hr e0 hb r Z=>?_⟩;have hl:=len _ _ _ _ Z;have KX:K.In s.heap:=e0.mod.kin.keeps λb o e=>(e0.bs b o e).1
 have a0:s.heap.NoLimit:=e0.mod.nolimit.keeps λb o e=>(e0.bs b o e).1
 have M:∀y∈ps.zip us,scope.names.lookup y.1=some .local∨(scope.names.lookup y.1=some .cell/\((cellsFrom (s.heap.objs.size+1) scope.names []).lookup y.1).isSome=true):=λ⟨n,v⟩ hy=>by
  rcases S.par n (i7 hy).1 with q|q
  ·exact .inl q
  ·exact .inr ⟨q,W.cellsFrom_some _ _ _ (.inl q)⟩
 refine codeAny_call_function hr.depth (KX _ _ lk) rfl S.co S.gen rfl (W.codeRec_of KX hcd) (hb _ _ _ _ ?_);refine wpAny_newFunctionEnv_cells S.kind M λenv he s1 x=>?_
 subst he;refine⟨a0.keeps x.toInCall.keep,codeAny_func ?_⟩;obtain⟨t,ht,hq⟩:=hbody A outer s H vs Q E (hr.deeper _) Z;have I:Inv (wx0 CX P w K mg base N qual scope f cdv A outer s H E) [] (start N vs) H s1:=ev0 S hr.hd e0 hl r x;refine D1 (ht [] s1 (start N vs) H _ I hq) (λfl s' hs=>?_) λe s' hs=>hs
 have O:∀{σ':St} {H':Hp} {v:V} {u:Value},Inv (wx0 CX P w K mg base N qual scope f cdv A outer s H E) [] σ' H' s'->RelV v u->Q v H'->CE outer P w H s Q u s' :=
  λ{σ' H' v u} J rv q=>⟨v,H',J.os,J.bare,J.base,J.hok,rv,q⟩
 cases fl with
 | ret u =>
  obtain⟨v,σ',H',J,rv,q⟩:=hs;exact O J rv q
 | next =>
  obtain⟨σ',H',J,q⟩:=hs;exact O (v:=V.non) (u:=Value.none) J rfl q
 | brk =>
  obtain⟨_,_,_,q⟩:=hs;exact False.elim q
 | cont =>
  obtain⟨_,_,_,q⟩:=hs;exact False.elim q
section
variable{t:TA}{id T:String}{r:List V->Hp->VK->Prop}
def tCB(r:List V->Hp->VK->Prop)(t:TA):TE:=fun σ H Q=>t σ H λvs H1=>r vs H1 Q
theorem up0(hc:CallR X (.builtin id) r)(hg:Gl X x)(hm:X.mg x=none)(hv:bootBuiltins x=some (.builtin id))(ha:PA X (e::es) t)(hn:x ≠"__name__" := by decide)(hdb:(x==("__debug__" : Str))=false:=by decide)
  (he:starEach (e::es) X.env=(false,eval e X.env)::starEach es X.env:=by rfl) (hpl:(backTo pos (starEach es X.env)).any (·.1)=false:=by rfl):PE X (.Call (.Name x p) (e::es) [] pos) (tCB r t):=by
 intro pins s σ H Q I h;refine M0 (zf0 I hg hm hv ?_ hn hdb);exact PyProof.Rows.callWith_builtin1 (thn (ha pos pins s σ H _ I h) λus s1 ⟨vs,H1,I1,r1,q1⟩=>hc pins s1 σ H1 vs us Q I1 r1 q1) he hpl
theorem s20(hc:CallR X (.type T) r)(hg:Gl X x)(hm:X.mg x=none)(hv:bootBuiltins x=some (.type T))(ha:PA X (e::es) t)(hn:x ≠"__name__" := by decide)(hdb:(x==("__debug__" : Str))=false:=by decide)
  (he:starEach (e::es) X.env=(false,eval e X.env)::starEach es X.env:=by rfl) (hpl:(backTo pos (starEach es X.env)).any (·.1)=false:=by rfl):PE X (.Call (.Name x p) (e::es) [] pos) (tCB r t):=by
 intro pins s σ H Q I h;refine M0 (zf0 I hg hm hv ?_ hn hdb);exact E2 (thn (ha pos pins s σ H _ I h) λus s1 ⟨vs,H1,I1,r1,q1⟩=>hc pins s1 σ H1 vs us Q I1 r1 q1) he hpl
end
end L2
variable{X:L2.Cx}{ta tb te tv tx:L2.TE}{CX:L2.CXT}{sp:L2.Sp}
namespace HT
open PyProof.Rows
section
variable{w:World}{A:Around}{s:Shared}
theorem Y30{t b:Addr}{ws:List Value}{Q:Value->Shared->Prop}(ht:IsTup s.heap t vs.toArray)(hb:IsTup s.heap b ws.toArray)(hv:vs≠[])
  (h1:ws=[]->Q (.ref t) s) (h2:ws≠[]->Q (.ref s.heap.objs.size) { s with heap:=s.heap.push { cls:=.type "tuple",data:=.seq (vs++ws).toArray } })
  (hsz:vs.length+ws.length<=sizeLine):wpAny (model prog w) A (binaryOp .Add (.ref t) (.ref b)) Q E s:=by
 obtain⟨⟨cls,dd,data,sl⟩,ho,hc,n,hd⟩:=id ht;obtain⟨⟨a1,a0,data2,Z⟩,J,O,n2,M⟩:=id hb;simp only at hc hd O M;subst hc hd O M;have e:vs.toArray++ws.toArray=(vs++ws).toArray:=by simp
 by_cases hw:ws=[]
 ·exact i8 ⟨_,ho,rfl⟩ ⟨_,J,rfl⟩ x3 x4 x5 x8 (x9 _ _)
   (tuple_addW1 t b vs.toArray ws.toArray n n2 dd a0 sl Z (by simpa using hv) (by simp[hw])) ⟨ho,J,h1 hw⟩
 ·refine i8 ⟨_,ho,rfl⟩ ⟨_,J,rfl⟩ x3 x4 x5 x8 (x9 _ _)
   (tuple_addW2 t b vs.toArray ws.toArray n n2 dd a0 sl Z (by simpa using hv) (by simpa using hw) (by rw[List.size_toArray,List.size_toArray];exact hsz)) ⟨ho,J,?_⟩
  rw[e];exact h2 hw
def sIx(n d:Nat):Option Int->Nat
 | none=>d
 | some v=>if v<0 then (v+(n:Int)).toNat else min v.toNat n
theorem V80(n d:Nat)(hd:d<=n)(o:Option Int):sIx n d o<=n:=by
 cases o with
 | none=>exact hd
 | some v =>
  show (if v<0 then (v+(n:Int)).toNat else min v.toNat n)<=n
  by_cases hv:v<0
  ·rw[if_pos hv];omega
  ·rw[if_neg hv];exact Ba0 _ _
theorem jv0(v:Int)(n d:Nat):(if v<0 then max (v+(n:Int)) 0 else min v (n:Int))=((sIx n d (some v):Nat):Int):=by
 show (if v<0 then max (v+(n:Int)) 0 else min v (n:Int))=(((if v<0 then (v+(n:Int)).toNat else min v.toNat n):Nat):Int)
 by_cases hv:v<0
 ·simp only[if_pos hv];omega
 ·simp only[if_neg hv];omega
theorem g40(lo hi:Option Int)(n:Nat):Builtin.Slice.sliceAdjust lo hi 1 (n:Int)=(((sIx n 0 lo:Nat):Int),((sIx n n hi:Nat):Int)):=by
 have h1:¬((1:Int)<0):=by omega
 unfold Builtin.Slice.sliceAdjust;simp only[h1,if_false];refine L1 ?_ ?_
 ·cases lo with
  | none=>rfl
  | some v=>exact jv0 v n 0
 ·cases hi with
  | none=>rfl
  | some v=>exact jv0 v n n
theorem ho0(i j:Nat):Builtin.Slice.slicePlaces (i:Int) (j:Int) 1=j - i:=by
 unfold Builtin.Slice.slicePlaces;have h1:(1:Int) > 0:=by omega
 simp only[h1,if_true,Int.ediv_one];split<;>omega
theorem qa0{o:Option Int}{Q:Option Int->Shared->Prop}(p:IsPart v o)(h:Q o s):wpAny (model prog w) A (Builtin.Slice.slicePartIndex v) Q E s:=by
 cases p with
 | none=>exact slicePart_none h
 | int i t=>exact slicePart_int h
theorem wz0{sl:Addr}{n:Nat}{Q:Int×Int×Nat->Shared->Prop}(hs:s.heap.IsSliceOf sl vl vu .none)(pl:IsPart vl lo)(pu:IsPart vu hi)
  (h:Q (((sIx n 0 lo:Nat):Int),1,sIx n n hi - sIx n 0 lo) s):wpAny (model prog w) A (Builtin.Slice.sliceApplied (.ref sl) (pure (n:Int))) Q E s:=by
 obtain⟨os,M,O,J⟩:=id hs;unfold Builtin.Slice.sliceApplied Builtin.Slice.sliceFields;refine A0 (A0 (E9 M J (x:=vl) rfl (A0 (E9 M J (x:=vu) rfl (A0 (E9 M J (x:=.none) rfl (A1 ?_)))))));refine A0 (slicePart_none ?_);show wpAny _ _ (if ((1:Int)==0)=true then _ else _) _ _ s;rw[if_neg (by decide)];refine A0 (qa0 pl (A0 (qa0 pu (A0 (A1 ?_)))));show wpAny _ _ (match Builtin.Slice.sliceAdjust lo hi 1 (n:Int) with|(lo,hi)=>pure (lo,(1:Int),Builtin.Slice.slicePlaces lo hi 1)) _ _ s;rw[g40 lo hi n];show wpAny _ _ (pure (((sIx n 0 lo:Nat):Int),(1:Int),Builtin.Slice.slicePlaces ((sIx n 0 lo:Nat):Int) ((sIx n n hi:Nat):Int) 1)) _ _ s;rw[ho0];exact A1 h
theorem dr0(xs:Array Value)(i k:Nat):((List.range k).filterMap λ(m:Nat)=>xs[((i:Int)+(m:Int)*1).toNat]?).toArray=((xs.toList.drop i).take k).toArray:=by
 have e:(λ(m:Nat)=>xs[((i:Int)+(m:Int)*1).toNat]?)=λm=>xs[i+m]?:=by
  funext m
  have:((i:Int)+(m:Int)*1).toNat=i+m:=by omega
  rw[this]
 rw[e];have:=pick_run xs i k;rw[List.filterMap_map] at this;have e2:((λx=>xs[x]?) ∘ λx=>i+x)=λm=>xs[i+m]?:=rfl
 rw[e2] at this;rw[this]
theorem sw0{t sl:Addr}{Q:Value->Shared->Prop}(ht:IsTup s.heap t items)(hs:s.heap.IsSliceOf sl vl vu .none)(pl:IsPart vl lo)(pu:IsPart vu hi)
  (hw:¬(sIx items.size 0 lo=0/\sIx items.size items.size hi=items.size))
  (h:Q (.ref s.heap.objs.size) { s with heap:=s.heap.push { cls:=.type "tuple",data:=.seq ((items.toList.drop (sIx items.size 0 lo)).take (sIx items.size items.size hi - sIx items.size 0 lo)).toArray } })
  (hsz:items.size<=sizeLine):wpAny (model prog w) A (getItem (.ref t) (.ref sl)) Q E s:=by
 have J:sizeOk (.seq ((items.toList.drop (sIx items.size 0 lo)).take (sIx items.size items.size hi - sIx items.size 0 lo)).toArray):=by
  show ((items.toList.drop (sIx items.size 0 lo)).take (sIx items.size items.size hi - sIx items.size 0 lo)).toArray.size<=sizeLine;rw[List.size_toArray,List.length_take,List.length_drop,Array.length_toList];omega
 have hj:sIx items.size items.size hi<=items.size:=V80 _ _ (A2 _) hi;obtain⟨os,Z,O,a1⟩:=id hs;have M:s.TypeIs (.ref sl) "slice" := ⟨os,Z,O⟩;unfold getItem
 try with_reducible refine B9 ?_
 first|refine A0 (A1 ?_)|skip
 refine A0 (y0 ht.typeIs (by decide) ?_);refine A0 (L3 (name:=Str.ofString "__getitem__") ht.typeIs P1
  (D4 P1 ht.typeIs entry_tuple_getitem ?_ (args_tuple_getitem _ _)))
 show wpAny _ _ (Builtin.Tuple.tupleItemsOf (.ref t)>>=_) _ _ s;refine A0 (tupleItemsOf_ ht ?_);refine A0 (M1 M ?_);rw[if_pos (by decide)];refine A0 (wz0 hs pl pu ?_);have a0:¬((((sIx items.size 0 lo:Nat):Int)==0&&(1:Int)==1&&(sIx items.size items.size hi - sIx items.size 0 lo)==items.size)=true):=by
  intro q;rw[Bool.and_eq_true,Bool.and_eq_true] at q;have q1:((sIx items.size 0 lo:Nat):Int)=0:=N0 q.1.1;have q2:sIx items.size items.size hi - sIx items.size 0 lo=items.size:=N0 q.2;exact hw ⟨by omega,by omega⟩
 show wpAny _ _ (if (((sIx items.size 0 lo:Nat):Int)==0&&(1:Int)==1&&(sIx items.size items.size hi - sIx items.size 0 lo)==items.size)=true then _ else _) _ _ s;rw[if_neg a0,dr0]
 first
  | exact A0 (m:=Builtin.Tuple.tupleExact _) (D6 (A1 ⟨_,rfl,A1 h⟩) J)
  | exact A0 (m:=Builtin.Tuple.tupleExact _) (D6 (A0 (A1 (A1 ⟨_,rfl,A1 h⟩))) J)
  | exact A0 (A0 (m:=Builtin.Tuple.tupleExact _) (D6 (A1 (A1 ⟨_,rfl,A1 h⟩)) J))
  | exact A0 (A0 (m:=Builtin.Tuple.tupleExact _) (D6 (A1 ⟨_,rfl,A1 h⟩) J))
end
end HT
namespace L2
open Spec PyProof.Rows
abbrev TO:=St->Hp->(Option Int->Hp->Prop)->Prop
def PO(X:Cx)(e:Option Expr)(t:TO):Prop :=
 ∀(pins:List (Addr×Obj)) (s:Shared) (σ:St) (H:Hp) (Q:Option Int->Hp->Prop),Inv X pins σ H s->t σ H Q ->
  wpAny (model X.prog X.w) X.A (evalPart e X.env) (λu s'=>∃o H',Inv X pins σ H' s'/\IsPart u o/\Q o H') X.xe s
def Zg0:TO:=λ_ H Q=>Q none H
def U60(t:TE):TO:=fun σ H Q=>t σ H λx H1=>∃i,x=.int i/\Q (some i) H1
section
variable{lo hi:Option Expr}{tl th:TO}
theorem Y00:PO X none Zg0:=by
 intro pins s σ H Q I h;rw[evalPart_none];exact A1 ⟨none,H,I,.none,h⟩
theorem Y20(h:PE X e te):PO X (some e) (U60 te):=by
 intro pins s σ H Q I hw;rw[evalPart_some];refine thn (h pins s σ H _ I hw) λu s1 ⟨x,H1,I1,r1,q1⟩=>?_
 obtain⟨i,rfl,q⟩:=q1;obtain⟨t,rfl⟩:=r1;exact⟨some i,H1,I1,.int i t,q⟩
def SlR(X:Cx)(r:V->Option Int->Option Int->Hp->VK->Prop):Prop :=
 ∀(pins:List (Addr×Obj)) (s:Shared) (σ:St) (H:Hp) (x:V) (v vl vu:Value) (lo hi:Option Int) (sl:Addr) (Q:VK),Inv X pins σ H s->RelV x v->s.heap.IsSliceOf sl vl vu .none->IsPart vl lo->IsPart vu hi->r x lo hi H Q ->
  ∃T id,typeLookup (.type T) "__getitem__"=pure (some (.builtin id))/\s.TypeIs v T/\wpAny (model X.prog X.w) X.A (getItem v (.ref sl)) (EP X pins σ Q) X.xe s
theorem SlR.or{r r':V->Option Int->Option Int->Hp->VK->Prop}(h:SlR X r)(h':SlR X r'):SlR X (λx lo hi H Q=>r x lo hi H Q∨r' x lo hi H Q):=by
 intro pins s σ H x v vl vu lo hi sl Q I rx hs pl pu q;rcases q with q|q
 ·exact h pins s σ H x v vl vu lo hi sl Q I rx hs pl pu q
 ·exact h' pins s σ H x v vl vu lo hi sl Q I rx hs pl pu q
def tSl(r:V->Option Int->Option Int->Hp->VK->Prop)(te:TE)(tl th:TO):TE:=fun σ H Q=>te σ H λx H1=>tl σ H1 λl H2=>th σ H2 λu H3=>r x l u H3 Q
theorem dq0{r:V->Option Int->Option Int->Hp->VK->Prop}(hr:SlR X r)(he:PE X e te)(hl:PO X lo tl)(hu:PO X hi th):PE X (.Subscript e (.Slice lo hi none p2) pos) (tSl r te tl th):=by
 intro pins s σ H Q I h;refine Subscript_ (thn (he pins s σ H _ I h) λv s1 ⟨x,H1,I1,r1,q1⟩=>?_);refine wpAny_Slice (thn (hl pins s1 σ H1 _ I1 q1) λvl s2 ⟨l,H2,I2,pl,q2⟩=>thn (hu pins s2 σ H2 _ I2 q2) λvu s3 ⟨u,H3,I3,pu,q3⟩=>?_);rw[evalPart_none];refine A1 ?_;have I4:Inv X pins σ H3 { s3 with heap:=s3.heap.push { cls:=.type "slice",data:=.fields #[vl,vu,.none] } }:=I3.kept (t':=s3.toks) λb ob q=>B0 _ q
 obtain⟨T,id,hT,ht,hg⟩:=hr pins { s3 with heap:=s3.heap.push { cls:=.type "slice",data:=.fields #[vl,vu,.none] } } σ H3 x v vl vu l u s3.heap.objs.size Q I4 r1 (Heap.IsSliceOf.new ..) pl pu q3;show wpAny (model X.prog X.w) X.A (subscriptTail e (.Slice lo hi none p2) v (.ref s3.heap.objs.size)) (EP X pins σ Q) X.xe { s3 with heap:=s3.heap.push { cls:=.type "slice",data:=.fields #[vl,vu,.none] } };exact tail_any (ops:=[.ref s3.heap.objs.size,v]) ht hT hg (by with_unfolding_all rfl)
def s40(xs:List V)(lo hi:Option Int):List V:=(xs.drop (HT.sIx xs.length 0 lo)).take (HT.sIx xs.length xs.length hi - HT.sIx xs.length 0 lo)
theorem re0(xs:List V)(lo hi:Option Int):(s40 xs lo hi).length<=xs.length:=by
 unfold s40;rw[List.length_take,List.length_drop];omega
def S50(K:W.Frag):V->Option Int->Option Int->Hp->VK->Prop:=λx lo hi H Q=>∃a xs,x=.ref a/\SqT K H a xs /\
 ¬(HT.sIx xs.length 0 lo=0/\HT.sIx xs.length xs.length hi=xs.length)/\∀p,H p=none->Q (.ref p) (upd H p (.tup (s40 xs lo hi)))
theorem X80:SlR X (S50 X.K):=by
 intro pins s σ H x v vl vu lo hi sl Q I rx hs pl pu h;obtain⟨a,xs,rfl,hx,hw,q⟩:=h;cases rx;obtain⟨its,r,ht,hz⟩:=I.tuple hx;have J:its.toArray.size=xs.length:=by rw[List.size_toArray];exact r.length.symm
 refine⟨"tuple",_,P1.lookup,ht.typeIs,?_⟩;refine HT.sw0 ht hs pl pu (by rw[J];exact hw) ?_ (by rw[J];exact hz);rw[J];refine⟨.ref s.heap.objs.size,_,I.laid (t':=s.toks) (o:=.tup (s40 xs lo hi)) (λb ob q=>B0 _ q) (A2 _) ?_,rfl,q _ (I.hok.fresh (A2 _))⟩;exact⟨C0 (re0 xs lo hi) hz,_,(r.drop (HT.sIx xs.length 0 lo)).take (HT.sIx xs.length xs.length hi - HT.sIx xs.length 0 lo),IsTupN.new _ _⟩
def bj0(K:W.Frag):R2:=λx y H Q=>∃a b xs ys,x=.ref a/\y=.ref b/\SqT K H a xs/\SqT K H b ys/\xs≠[]/\xs.length+ys.length<=sizeLine /\
 (ys=[]->Q (.ref a) H)/\(ys≠[]->∀p,H p=none->Q (.ref p) (upd H p (.tup (xs++ys))))
theorem Vals.nil_iff(r:Vals xs us):us=[]↔xs=[]:=by
 cases r with
 | nil=>simp
 | cons _ _=>simp
theorem Zv0:OpR X (binaryOp .Add) (bj0 X.K):=by
 intro pins s σ H x y v u Q I rx ry h;obtain⟨a,b,xs,ys,rfl,rfl,ha,hb,hx,hz,q1,q2⟩:=h;cases rx;cases ry;obtain⟨its,r1,p1,_⟩:=I.tuple ha;obtain⟨J,r2,p2,_⟩:=I.tuple hb;refine HT.Y30 p1 p2 (λz=>hx (r1.nil_iff.mp z)) (λz=>⟨.ref a,H,I,rfl,q1 (r2.nil_iff.mp z)⟩) (λz=>?_) (by rw[← r1.length,← r2.length];exact hz);refine⟨.ref s.heap.objs.size,_,I.laid (t':=s.toks) (o:=.tup (xs++ys)) (λb ob q=>B0 _ q) (A2 _) ?_,rfl,q2 (λw=>z (r2.nil_iff.mpr w)) _ (I.hok.fresh (A2 _))⟩;exact⟨by rw[List.length_append];exact hz,_,r1.append r2,IsTupN.new _ _⟩
end
def ixN(n:Nat)(i:Int):Option Nat:=if 0<=i then (if i<n then some i.toNat else none) else if -(n:Int)<=i then some (i+n).toNat else none
def atI{α:Type}(xs:List α)(i:Int):Option α:=(ixN xs.length i).bind λj=>xs[j]?
theorem jx0{i:Int}(h:ixN n i=some j):seqIndex? i n=some j/\j<n/\-(n:Int)<=i/\i<n:=by
 unfold ixN at h
 by_cases h0:0<=i
 ·rw[if_pos h0] at h
  by_cases h1:i<n
  ·rw[if_pos h1] at h
   have e:i.toNat=j:=A8 h;exact⟨by rw[seqIndex_of h0 h1,e],by omega,by omega,h1⟩
  ·rw[if_neg h1] at h;cases h
 ·rw[if_neg h0] at h
  by_cases h1:-(n:Int)<=i
  ·rw[if_pos h1] at h
   have e:(i+n).toNat=j:=A8 h;exact⟨by rw[seqIndex_neg (by omega) h1,e],by omega,h1,by omega⟩
  ·rw[if_neg h1] at h;cases h
theorem o20{xs:List α}{i:Int}{v:α}(h:atI xs i=some v):∃j,seqIndex? i xs.length=some j/\xs[j]?=some v/\j<xs.length/\-(xs.length:Int)<=i/\i<xs.length:=by
 unfold atI at h;cases e:ixN xs.length i with
 | none=>rw[e] at h;cases h
 | some j =>
  rw[e] at h;obtain⟨h1,h2,h3,h4⟩:=jx0 e;exact⟨j,h1,h,h2,h3,h4⟩
def px0(b:Expr):Prop:=∀o i,subscripted b false o i=operate [o,i] (getItem o i)
def IxR(X:Cx)(r:R2):Prop :=
 ∀(value slice:Expr) (pins:List (Addr×Obj)) (s:Shared) (σ:St) (H:Hp) (x y:V) (v u:Value) (Q:VK),Inv X pins σ H s->RelV x v->RelV y u->r x y H Q ->
  subscripted slice false v u=operate [v,u] (getItem v u)->wpAny (model X.prog X.w) X.A (subscriptTail value slice v u) (EP X pins σ Q) X.xe s
def MtR(X:Cx)(id:String)(r:V->List V->Hp->VK->Prop):Prop :=
 ∀(pins:List (Addr×Obj)) (s:Shared) (σ:St) (H:Hp) (x:V) (xs:List V) (v:Value) (us:List Value) (Q:VK),Inv X pins σ H s->RelV x v->Vals xs us->r x xs H Q ->
  wpAny (model X.prog X.w) X.A (call (.builtin id) (v::us)) (EP X pins σ Q) X.xe s
section
variable{a:Expr}
theorem IxR.or{r r':R2}(h:IxR X r)(h':IxR X r'):IxR X (λx y H Q=>r x y H Q∨r' x y H Q):=by
 intro value slice pins s σ H x y v u Q I rx ry q hs;rcases q with q|q
 ·exact h value slice pins s σ H x y v u Q I rx ry q hs
 ·exact h' value slice pins s σ H x y v u Q I rx ry q hs
theorem Uo0{r:R2}(hr:IxR X r)(ha:PE X a ta)(hb:PE X b tb)(hs:px0 b):PE X (.Subscript a b pos) (tOp r ta tb):=by
 intro pins s σ H Q I h;exact Subscript_ (dd0 ha hb I h λv u s2 x y H2 I2 rx ry q=>hr a b pins s2 σ H2 x y v u Q I2 rx ry q (hs _ _))
def Wj0(K:W.Frag):R2:=λx y H Q=>∃p xs i v,x=.ref p/\y=.int i/\SqL K H p xs/\atI xs i=some v/\Q v H
def Xf0(K:W.Frag):R2:=λx y H Q=>∃p xs i v,x=.ref p/\y=.int i/\SqT K H p xs/\atI xs i=some v/\Q v H
def Xy0:R2:=λx y H Q=>∃z i c,x=.str z/\y=.int i/\z.length<=sizeLine/\atI z.cps.toList i=some c/\Q (.str ⟨#[c]⟩) H
theorem Z40:IxR X (Wj0 X.K):=by
 intro value slice pins s σ H x y v u Q I rx ry h hs;obtain⟨p,xs,i,z,rfl,rfl,hq,he,q⟩:=h;cases rx;obtain⟨t,rfl⟩:=ry;obtain⟨its,r,pl,hz⟩:=I.list hq;obtain⟨j,h1,h2,h3,h4,h5⟩:=o20 he;obtain⟨w,ew,M⟩:=r.get h2;have hl:=r.length;have hn:=w70;have J:EP X pins σ Q w s:=⟨z,H,I,M,q⟩
 by_cases h0:0<=i
 ·have hj:i.toNat=j:=by
   rw[seqIndex_of h0 h5] at h1;exact A8 h1
  exact item_listR pl.isList h0 (by omega) (by rw[hj];simpa using ew) J hs
 ·have hj:(i+(its.toArray.size:Int)).toNat=j:=by
   rw[seqIndex_neg (by omega) h4] at h1;rw[List.size_toArray,← hl];exact A8 h1
  exact subscriptTail_builtinR (x:=w) pl.isList.typeIs slot_list_getitem.lookup
   (wpAny_getItem_list_neg (Q:=λr s'=>r=w/\EP X pins σ Q r s') pl.isList (by omega) (by rw[List.size_toArray]<;>omega) (by omega) (by rw[hj];simpa using ew) ⟨rfl,J⟩) hs
theorem Vb0:IxR X (Xf0 X.K):=by
 intro value slice pins s σ H x y v u Q I rx ry h hs;obtain⟨p,xs,i,z,rfl,rfl,hq,he,q⟩:=h;cases rx;obtain⟨t,rfl⟩:=ry;obtain⟨its,r,pl,hz⟩:=I.tuple hq;obtain⟨j,h1,h2,h3,h4,h5⟩:=o20 he;obtain⟨w,ew,M⟩:=r.get h2;have hl:=r.length;have hn:=w70;have J:EP X pins σ Q w s:=⟨z,H,I,M,q⟩;exact subscriptTail_builtinR (x:=w) pl.typeIs slot_tuple_getitem.lookup
  (getItem_tuple (j:=j) (Q:=λr s'=>r=w/\EP X pins σ Q r s') pl (by omega) (by omega) (by rw[List.size_toArray,← hl];exact h1) (by simpa using ew) ⟨rfl,J⟩) hs
theorem W30:IxR X Xy0:=by
 intro value slice pins s σ H x y v u Q I rx ry h hs;obtain⟨z,i,c,rfl,rfl,hz,he,q⟩:=h;obtain⟨t,rfl⟩:=rx;obtain⟨t',rfl⟩:=ry;obtain⟨j,h1,h2,h3,h4,h5⟩:=o20 he;have hl:z.cps.toList.length=z.length:=by simp[Str.length]
 rw[hl] at h1 h4 h5;have hn:=w70;exact tail_any (P2 s z t) slot_str_getitem.lookup (getItem_str (c:=c) (by
  have e1:decide (i < -(2 ^ 63:Int))=false:=L8 (by omega);have e2:decide (i ≥ 2 ^ 63)=false:=L8 (by omega);rw[e1,e2,Bool.or_false]) (by rw[h1];simpa using h2) ⟨.str ⟨#[c]⟩,H,I.tok _,⟨_,rfl⟩,q⟩) hs
def rIx(K:W.Frag):R2:=λx y H Q=>Wj0 K x y H Q∨Xf0 K x y H Q∨Xy0 x y H Q
theorem V10:IxR X (rIx X.K):=Z40.or (Vb0.or W30)
theorem is0(its:List Value)(n j:Nat)(u:Value):Obj.mapSeq (·.setIfInBounds j u) { cls:=.type "list",data:=.seq its.toArray n }={ cls:=.type "list",data:=.seq (its.set j u).toArray n }:=by
 simp[Obj.mapSeq]
theorem Inv.lst{σ:St}{s:Shared}{p:Addr}(I:Inv X pins σ H s)(h:H p=some (.lst xs)) :
  ∃(its:List Value) (n:Nat),Vals xs its/\s.heap.get? p=some { cls:=.type "list",data:=.seq its.toArray n }/\xs.length<=sizeLine:=by
 obtain⟨z,its,n,r,e⟩:=I.hok p _ h;exact⟨its,n,r,e,z⟩
theorem Inv.lstUpd{σ:St}{s:Shared}{p:Addr}{ys:List V}{its its':List Value}{n n':Nat}{f:Obj->Obj}(I:Inv X pins σ H s)(h:H p=some (.lst xs))
  (ho:s.heap.get? p=some { cls:=.type "list",data:=.seq its.toArray n }) (hf:f { cls:=.type "list",data:=.seq its.toArray n }={ cls:=.type "list",data:=.seq its'.toArray n' }) (r:Vals ys its') (hz:ys.length<=sizeLine) (t:Nat) :
  Inv X pins σ (upd H p (.lst ys)) { s with heap:=s.heap.update p f,toks:=t }:=by
 have e:(s.heap.update p f).get? p=some { cls:=.type "list",data:=.seq its'.toArray n' }:=by
  rw[Heap.get?_update_self f ho (by rw[hf]<;>rfl),hf]
 refine I.write (x:=p) (e:=p) (by rw[h];trivial) (.inl rfl) (λb u hb q=>(P3 _ _ (B6 hb)).trans q) ⟨_,e⟩ ?_;exact⟨hz,its',n',r,e⟩
def Vk0:V->V->V->Hp->(Hp->Prop)->Prop:=λo i v H Q=>∃p xs k j,o=.ref p/\i=.int k/\H p=some (.lst xs)/\ixN xs.length k=some j/\Q (upd H p (.lst (xs.set j v)))
theorem set_list:cn0 X Vk0:=by
 intro pins s σ H o i v ov iv u Q I ro ri rv h;obtain⟨p,xs,k,j,rfl,rfl,hp,hj,q⟩:=h;cases ro;obtain⟨t,rfl⟩:=ri;obtain⟨its,n,r,ho,hz⟩:=I.lst hp;obtain⟨h1,h2,h3,h4⟩:=jx0 hj;have hl:=r.length;have hn:=w70;have I':Inv X pins σ (upd H p (.lst (xs.set j v))) { s with heap:=s.heap.update p (Obj.mapSeq (·.setIfInBounds j u)) } :=
  I.lstUpd hp ho (is0 its n j u) (r.set rv j) (by rw[List.length_set];exact hz) s.toks
 by_cases h0:0<=k
 ·have hk:k.toNat=j:=by
   rw[seqIndex_of h0 h4] at h1;exact A8 h1
  exact W.ki_setAt ho h0 (by omega) (by rw[List.size_toArray,← hl];exact h4) (by rw[hk];exact⟨_,I',q⟩)
 ·have hk:(k+(its.toArray.size:Int)).toNat=j:=by
   rw[seqIndex_neg (by omega) h3] at h1;rw[List.size_toArray,← hl];exact A8 h1
  exact W.ki_setBack ho (by omega) (by rw[List.size_toArray,← hl];exact h3) (by omega) (by rw[hk];exact⟨_,I',q⟩)
theorem la0(lo hi:Option Int)(n:Nat):(sliceBounds lo hi none n).1=((HT.sIx n 0 lo:Nat):Int)/\(sliceBounds lo hi none n).2.1=((HT.sIx n n hi:Nat):Int)/\(sliceBounds lo hi none n).2.2=1:=by
 refine⟨?_,?_,rfl⟩
 ·cases lo with
  | none=>simp[sliceBounds,HT.sIx]
  | some i =>
   simp only[sliceBounds,HT.sIx,Option.getD_none,show (1:Int) > 0 by decide,if_true]
   by_cases h:i<0
   ·simp only[h,if_true]<;>omega
   ·simp only[h,if_false]<;>omega
 ·cases hi with
  | none=>simp[sliceBounds,HT.sIx]
  | some i =>
   simp only[sliceBounds,HT.sIx,Option.getD_none,show (1:Int) > 0 by decide,if_true]
   by_cases h:i<0
   ·simp only[h,if_true]<;>omega
   ·simp only[h,if_false]<;>omega
theorem nn0(its:List Value)(lo hi:Option Int):slicePick its.toArray lo hi none=((its.drop (HT.sIx its.length 0 lo)).take (HT.sIx its.length its.length hi - HT.sIx its.length 0 lo)).toArray:=by
 obtain⟨h1,h2,h3⟩:=la0 lo hi its.toArray.size;unfold slicePick;rw[h1,h2,h3];simp only[sliceRange_one,pick_run,List.size_toArray]<;>rfl
def S20(K:W.Frag):V->Option Int->Option Int->Hp->VK->Prop:=λx lo hi H Q=>∃a xs,x=.ref a/\SqL K H a xs/\∀p,H p=none->Q (.ref p) (upd H p (.lst (s40 xs lo hi)))
theorem al0:SlR X (S20 X.K):=by
 intro pins s σ H x v vl vu lo hi sl Q I rx hs pl pu h;obtain⟨a,xs,rfl,hx,q⟩:=h;cases rx;obtain⟨its,r,ht,hz⟩:=I.list hx;have J:=r.length;refine⟨"list",_,slot_list_getitem.lookup,ht.isList.typeIs,?_⟩;refine wpAny_getItem_list_slice ht.isList hs pl pu .none (by simp) ?_ (by rw[List.size_toArray]<;>omega);rw[nn0,← J];refine⟨.ref s.heap.objs.size,_,I.laid (t':=s.toks) (o:=.lst (s40 xs lo hi)) (λb ob q=>B0 _ q) (A2 _) ?_,rfl,q _ (I.hok.fresh (A2 _))⟩;exact⟨C0 (re0 xs lo hi) hz,_,0,(r.drop (HT.sIx xs.length 0 lo)).take (HT.sIx xs.length xs.length hi - HT.sIx xs.length 0 lo),C1 _ rfl⟩
def xr0:V->Bool
 | .non=>true
 | .bl _=>true
 | .int _=>true
 | .str _=>true
 | _=>false
def eqV:V->V->Bool
 | .non,.non=>true
 | .bl a,.bl b=>a==b
 | .bl a,.int b=>(if a then 1 else 0)==b
 | .int a,.bl b=>a==(if b then 1 else 0)
 | .int a,.int b=>a==b
 | .str a,.str b=>a==b
 | _,_=>false
theorem Xe0{A:Around}{s:Shared}{x:V}(ry:RelV y u)(rx:RelV x v)(fy:xr0 y=true)(fx:xr0 x=true):SeqAt.EqAt A s u v (eqV y x):=by
 cases y with
 | non =>
  cases ry;cases x with
  | non=>cases rx;exact L7 _
  | bl b=>cases rx;exact y6 b
  | int b=>obtain⟨t,rfl⟩:=rx;exact d5 b t
  | str b=>obtain⟨t,rfl⟩:=rx;exact d6 b t
  | _=>exact absurd (show false=true from fx) B3
 | bl a =>
  cases ry;cases x with
  | non=>cases rx;exact y8 a
  | bl b=>cases rx;exact y9 a b
  | int b=>obtain⟨t,rfl⟩:=rx;exact z0 a b t
  | str b=>obtain⟨t,rfl⟩:=rx;exact A00 a b t
  | _=>exact absurd (show false=true from fx) B3
 | int a =>
  obtain⟨t',rfl⟩:=ry;cases x with
  | non=>cases rx;exact e8 a t'
  | bl b=>cases rx;exact A10 a t' b
  | int b=>obtain⟨t,rfl⟩:=rx;exact P8 a t' b t
  | str b=>obtain⟨t,rfl⟩:=rx;exact Q1 a t' b t
  | _=>exact absurd (show false=true from fx) B3
 | str a =>
  obtain⟨t',rfl⟩:=ry;cases x with
  | non=>cases rx;exact e9 a t'
  | bl b=>cases rx;exact A20 a t' b
  | int b=>obtain⟨t,rfl⟩:=rx;exact Q2 a t' b t
  | str b=>obtain⟨t,rfl⟩:=rx;exact i0 a t' b t
  | _=>exact absurd (show false=true from fx) B3
 | _=>exact absurd (show false=true from fy) B3
def eqU(x:V)(u:Value):Bool:=match u with
 | .none=>eqV .non x
 | .bool b=>eqV (.bl b) x
 | .int i _=>eqV (.int i) x
 | .str z _=>eqV (.str z) x
 | _=>false
theorem e00{x:V}(r:RelV y u)(f:xr0 y=true):eqU x u=eqV y x:=by
 cases y with
 | non=>cases r;rfl
 | bl b=>cases r;rfl
 | int i=>obtain⟨t,rfl⟩:=r;rfl
 | str z=>obtain⟨t,rfl⟩:=r;rfl
 | _=>exact absurd (show false=true from f) B3
theorem ob0{x:V}:∀{xs:List V} {us:List Value},Vals xs us->xs.all xr0=true->us.any (eqU x)=xs.any λy=>eqV y x
 | _,_,.nil,_=>rfl
 | y::xs,u::us,.cons r t,f=>by
  rw[List.all_cons,Bool.and_eq_true] at f;rw[List.any_cons,List.any_cons,e00 r f.1,ob0 t f.2]
theorem rm0{A:Around}{s:Shared}{x:V}(rx:RelV x v)(fx:xr0 x=true):∀{xs:List V} {us:List Value},Vals xs us->xs.all xr0=true->∀u∈us,SeqAt.EqAt A s u v (eqU x u)
 | _,_,.nil,_=>λu hu=>by cases hu
 | y::xs,u::us,.cons r t,f=>λu' hu=>by
  rw[List.all_cons,Bool.and_eq_true] at f;rcases A4.mp hu with rfl|hu
  ·rw[e00 r f.1];exact Xe0 r rx f.1 fx
  ·exact rm0 rx fx t f.2 u' hu
def inV(x:V)(xs:List V):Bool:=xs.any λy=>eqV y x
def rIn(K:W.Frag)(neg:Bool):R2:=λx y H Q=>∃p xs,y=.ref p/\(SqL K H p xs∨SqT K H p xs)/\xr0 x=true/\xs.all xr0=true/\Q (.bl (if neg then !inV x xs else inV x xs)) H
theorem mu0:OpR X (compareOp .NotIn) (rIn X.K true):=by
 intro pins s σ H x y v u Q I rx ry h;obtain⟨p,xs,rfl,hq,fx,fs,q⟩:=h;cases ry;rcases hq with hq|hq
 ·obtain⟨its,r,pl,hz⟩:=I.list hq
  refine SeqAt.notIn_listAt (eqU x) pl.isList (λw hw=>rm0 rx fx r fs w (by simpa using hw)) ⟨.bl _,H,I,rfl,?_⟩;rw[show its.toArray.any (eqU x)=its.any (eqU x) by simp,ob0 r fs];exact q
 ·obtain⟨its,r,pl,hz⟩:=I.tuple hq
  refine SeqAt.notIn_tupleAt (eqU x) pl (λw hw=>rm0 rx fx r fs w (by simpa using hw)) ⟨.bl _,H,I,rfl,?_⟩;rw[show its.toArray.any (eqU x)=its.any (eqU x) by simp,ob0 r fs];exact q
theorem ld0:CallR X (.builtin "len") (λxs H Q=>∃p ys,xs=[.ref p]/\(SqL X.K H p ys∨SqT X.K H p ys)/\Q (.int ys.length) H):=by
 intro pins s σ H xs us Q I r h;obtain⟨p,ys,rfl,hq,q⟩:=h;obtain⟨u,rfl,rx⟩:=vals1 r;cases rx;have hn:=w70;rcases hq with hq|hq
 ·obtain⟨its,r',pl,hz⟩:=I.list hq
  have J:=r'.length;exact Calls.call_len_list pl.isList (by simp only[List.size_toArray]<;>omega) ⟨.int ys.length,H,I.tok _,⟨s.toks+1,by rw[List.size_toArray,J]⟩,q⟩
 ·obtain⟨its,r',pl,hz⟩:=I.tuple hq
  have J:=r'.length;exact len_tuple pl (by simp only[List.size_toArray]<;>omega) ⟨.int ys.length,H,I.tok _,⟨s.toks+1,by rw[List.size_toArray,J]⟩,q⟩
theorem mi0:CallR X (.builtin "len") (λxs H Q=>∃z,xs=[.str z]/\z.length<=sizeLine/\Q (.int z.length) H):=by
 intro pins s σ H xs us Q I r h;obtain⟨z,rfl,hz,q⟩:=h;obtain⟨u,rfl,t,rfl⟩:=vals1 r;have hn:=w70;exact len_str (by omega) ⟨.int z.length,H,I.tok _,⟨_,rfl⟩,q⟩
theorem CallR.or{f:Value}{r r':List V->Hp->VK->Prop}(h:CallR X f r)(h':CallR X f r'):CallR X f (λxs H Q=>r xs H Q∨r' xs H Q):=by
 intro pins s σ H xs us Q I rs q;rcases q with q|q
 ·exact h pins s σ H xs us Q I rs q
 ·exact h' pins s σ H xs us Q I rs q
theorem l60:CallR X (.type "list") (λxs H Q=>∃p ys,xs=[.ref p]/\(SqL X.K H p ys∨SqT X.K H p ys)/\∀l,H l=none->Q (.ref l) (upd H l (.lst ys))):=by
 intro pins s σ H xs us Q I r h;obtain⟨p,ys,rfl,hq,q⟩:=h;obtain⟨u,rfl,rx⟩:=vals1 r;cases rx;have J:∀(its:List Value),Vals ys its->ys.length<=sizeLine->∀(h':Heap) (c':Nat),(∀b o',s.heap.get? b=some o'->h'.get? b=some o') ->
   h'.get? s.heap.objs.size=some { cls:=.type "list",dict:=none,data:=.seq its.toArray c',slots:=#[] }->EP X pins σ Q (.ref s.heap.objs.size) { s with heap:=h' }:=λits r' hz h' c' kp e =>
  ⟨.ref s.heap.objs.size,_,I.laid (t':=s.toks) kp (A2 _) (show ObjOk X.prog X.w _ h' _ (.lst ys) from ⟨hz,its,c',r',e⟩),rfl,q _ (I.hok.fresh (A2 _))⟩
 rcases hq with hq|hq
 ·obtain⟨its,r',pl,hz⟩:=I.list hq
  have M:=r'.length;obtain⟨o,ho,hc,n,hd⟩:=pl.isList;exact call_list_seq p (.inl rfl) ho hc hd (λh' c' kp e=>J its r' hz h' c' kp e) (by simp only[List.size_toArray]<;>omega)
 ·obtain⟨its,r',pl,hz⟩:=I.tuple hq
  have M:=r'.length;obtain⟨o,ho,hc,n,hd⟩:=pl;exact call_list_seq p (.inr rfl) ho hc hd (λh' c' kp e=>J its r' hz h' c' kp e) (by simp only[List.size_toArray]<;>omega)
theorem Z9:CallR X (.type "tuple") (λxs H Q=>∃p ys,xs=[.ref p]/\((SqL X.K H p ys/\∀l,H l=none->Q (.ref l) (upd H l (.tup ys)))∨(SqT X.K H p ys/\Q (.ref p) H))):=by
 intro pins s σ H xs us Q I r h;obtain⟨p,ys,rfl,h⟩:=h;obtain⟨u,rfl,rx⟩:=vals1 r;cases rx;rcases h with⟨hq,q⟩|⟨hq,q⟩
 ·obtain⟨its,r',pl,hz⟩:=I.list hq
  have J:=r'.length;refine call_tuple_list pl.isList (λh' kp=>?_) (by simp only[List.size_toArray]<;>omega);have I1:Inv X pins σ H { s with heap:=h' }:=I.kept (t':=s.toks) kp;have I2:Inv X pins σ (upd H h'.objs.size (.tup ys)) { s with heap:=h'.push { cls:=.type "tuple",data:=.seq its.toArray } } :=
   I1.laid (t':=s.toks) (λb o e=>B0 _ e) (A2 _) (show ObjOk X.prog X.w _ _ _ (.tup ys) from ⟨hz,its,r',IsTupN.new _ _⟩)
  exact⟨.ref h'.objs.size,_,I2,rfl,q _ (I1.hok.fresh (A2 _))⟩
 ·obtain⟨its,r',pl,hz⟩:=I.tuple hq
  exact call_tuple_same pl ⟨.ref p,H,I,rfl,q⟩
def tyV(K:W.Frag)(T:String)(x:V)(H:Hp):Prop:=match x with
 | .str _=>T = "str"
 | .int _=>T = "int"
 | .ref p=>(T = "list"/\∃xs,SqL K H p xs)∨(T = "tuple"/\∃o,K.lookup p=some o/\o.cls=.type "tuple"/\o.dict=none) ∨
   (T = "dict"/\((∃kvs,H p=some (.dK kvs))∨∃kvs,H p=some (.dT kvs)))∨(T = "set"/\∃S n,H p=some (.set S n))
 | _=>False
theorem ec0{σ:St}{s:Shared}{T:String}{x:V}(I:Inv X pins σ H s)(r:RelV x v)(ty:tyV X.K T x H) :
  s.TypeIs v T/\∀a,v=.ref a->∃ob,s.heap.get? a=some ob/\ob.dict=none:=by
 cases x with
 | str z =>
  obtain⟨t,rfl⟩:=r;cases (show T = "str" from ty);exact⟨P2 s z t,λ_ e=>nomatch e⟩
 | int i =>
  obtain⟨t,rfl⟩:=r;cases (show T = "int" from ty);exact⟨N1 s i t,λ_ e=>nomatch e⟩
 | ref p =>
  cases r;rcases ty with⟨rfl,xs,hq⟩|⟨rfl,o,hk,hc,hd⟩|⟨rfl,hk⟩|⟨rfl,S,n,hk⟩
  ·obtain⟨its,_,pl,_⟩:=I.list hq
   refine⟨pl.isList.typeIs,λa e=>?_⟩;cases e;obtain⟨o,n,e,c,hd,_⟩:=pl;exact⟨o,e,hd⟩
  ·refine⟨⟨o,I.kIn p o hk,hc⟩,λa e=>?_⟩
   cases e;exact⟨o,I.kIn _ o hk,hd⟩
  ·have z:∃o,s.heap.get? p=some o/\o.ExactDict:=by
    rcases hk with⟨kvs,hk⟩|⟨kvs,hk⟩
    ·obtain⟨_,_,_,_,o,_,_,e,ex,_⟩:=I.hok p _ hk
     exact⟨o,e,ex⟩
    ·obtain⟨_,_,_,_,o,_,_,e,ex,_⟩:=I.hok p _ hk
     exact⟨o,e,ex⟩
   obtain⟨o,e,ex⟩:=z;refine⟨⟨o,e,ex.1⟩,λa e2=>?_⟩;cases e2;exact⟨o,e,ex.2.1⟩
  ·obtain⟨o,_,_,_,e,ex,_⟩:=I.hok p _ hk
   refine⟨⟨o,e,ex.1⟩,λa e2=>?_⟩;cases e2;exact⟨o,e,ex.2.1⟩
 | _=>exact False.elim ty
def Tj0(K:W.Frag)(T:String)(r:V->List V->Hp->VK->Prop)(to:TE):TE:=fun σ H Q=>to σ H λx H1=>tyV K T x H1/\r x [] H1 Q
def tBM(K:W.Frag)(T:String)(r:V->List V->Hp->VK->Prop)(to:TE)(t:TA):TE:=fun σ H Q=>to σ H λx H1=>tyV K T x H1/\t σ H1 λxs H2=>r x xs H2 Q
variable{to:TE}{t:TA}{T id:String}{r:V->List V->Hp->VK->Prop}
theorem V30(pa:PlainAttrs T)(slot:Slot T name id)(hty:typeOf (.builtin id)=pure (.type "method_descriptor"))(hm:MtR X id r)(ho:PE X o to)
  (hbase:attributeBase o name X.env (eval o X.env)=eval o X.env:=by rfl) (hline:(apos.endLine==cpos.line)=true:=by rfl):PE X (.Call (.Attribute o name apos) [] [] cpos) (Tj0 X.K T r to):=by
 intro pins s σ H Q I h;refine wpAny_Call_method0_late hbase hline (thn (ho pins s σ H _ I h) λv s1 ⟨x,H1,I1,r1,ty,q1⟩=>?_);obtain⟨h1,h2⟩:=ec0 I1 r1 ty;exact⟨T,id,pa,slot,hty,h1,h2,i9 rfl (PySem.evalArgs_none (hm pins s1 σ H1 x [] v [] Q I1 r1 .nil q1))⟩
theorem ix0(pa:PlainAttrs T)(slot:Slot T name id)(hty:typeOf (.builtin id)=pure (.type "method_descriptor"))(hm:MtR X id r)(ho:PE X o to)(ha:PA X (e::es) t)
  (hbase:attributeBase o name X.env (eval o X.env)=eval o X.env:=by rfl)
  (hfew:((backTo cpos (starEach (e::es) X.env)).all (λx=>!x.1)&&(backToKw cpos (keywordEach [] X.env)).all (λx=>x.1.isSome)
  &&decide ((e::es).length+([]:List Keyword).length+(if ([]:List Keyword).isEmpty then 0 else 1)<30))=true:=by rfl)
  (hline:(apos.endLine==cpos.line)=true:=by rfl) (hs:starEach (e::es) X.env=(false,eval e X.env)::starEach es X.env:=by rfl) (hplain:(backTo cpos (starEach es X.env)).any (·.1)=false:=by rfl) :
  PE X (.Call (.Attribute o name apos) (e::es) [] cpos) (tBM X.K T r to t):=by
 intro pins s σ H Q I h;refine wpAny_Call_method_late hbase hfew hline rfl (thn (ho pins s σ H _ I h) λv s1 ⟨x,H1,I1,r1,ty,q1⟩=>?_);obtain⟨h1,h2⟩:=ec0 I1 r1 ty;refine⟨T,id,pa,slot,hty,h1,h2,?_⟩;have hA:=ha cpos pins s1 σ H1 _ I1 q1;rw[hs] at hA ⊢;refine i9 (by show (false||(backTo cpos (starEach es X.env)).any (·.1))=false;rw[hplain]<;>rfl) (A30 ?_);exact thn hA λus s2 ⟨vs,H2,I2,r2,q2⟩=>hm pins s2 σ H2 x vs v us Q I2 r1 r2 q2
end
def MtM(X:Cx)(id:String)(r:V->List V->Hp->VK->Prop):Prop :=
 ∀(pins:List (Addr×Obj)) (s:Shared) (σ:St) (H:Hp) (x:V) (xs:List V) (v:Value) (us:List Value) (Q:VK),Inv X pins σ H s->RelV x v->Vals xs us->r x xs H Q ->
  wpAny (model X.prog X.w) X.A (call (.builtin id) (v::us)) (EP X pins σ Q) X.xe s
theorem Vals.one:∀{x:V} {us:List Value},Vals [x] us->∃u,us=[u]/\RelV x u
 | _,_,.cons r .nil=>⟨_,rfl,r⟩
theorem Vals.two:∀{x y:V} {us:List Value},Vals [x,y] us->∃u v,us=[u,v]/\RelV x u/\RelV y v
 | _,_,_,.cons r (.cons q .nil)=>⟨_,_,rfl,r,q⟩
theorem Vals.zero:∀{us:List Value},Vals [] us->us=[]
 | _,.nil=>rfl
theorem Vals.dropLast(h:Vals xs us):Vals xs.dropLast us.dropLast:=by
 induction h with
 | nil=>exact .nil
 | cons r t ih =>
  cases t with
  | nil=>exact .nil
  | cons q t'=>exact .cons r ih
theorem Vals.reverse(h:Vals xs us):Vals xs.reverse us.reverse:=by
 induction h with
 | nil=>exact .nil
 | cons r t ih=>rw[List.reverse_cons,List.reverse_cons];exact Vals.append ih (.cons r .nil)
theorem Vals.rep(h:Vals xs us):∀k:Nat,Vals (List.replicate k xs).flatten (List.replicate k us).flatten
 | 0=>.nil
 | k+1=>by
  rw[List.replicate_succ,List.replicate_succ,List.flatten_cons,List.flatten_cons];exact Vals.append h (Vals.rep h k)
theorem ga0(l:List α):l.eraseIdx (l.length - 1)=l.dropLast:=by
 induction l with
 | nil=>rfl
 | cons a r ih =>
  cases r with
  | nil=>rfl
  | cons b r =>
   have e:(a::b::r).length - 1=((b::r).length - 1)+1:=by
    have h1:(a::b::r).length=r.length+2:=rfl;have h2:(b::r).length=r.length+1:=rfl;omega
   rw[e,List.eraseIdx_cons_succ,ih]
   all_goals rfl
theorem foldl_rep(its:List Value):∀(k:Nat) (acc:List Value),
  List.foldl (λx1 x2=>x1++x2) acc.toArray (List.replicate k its.toArray)=(acc++(List.replicate k its).flatten).toArray
 | 0,acc=>by simp
 | k+1,acc=>by
  have e:acc.toArray++its.toArray=(acc++its).toArray:=by simp
  have e2:(acc++its)++(List.replicate k its).flatten=acc++(List.replicate (k+1) its).flatten:=by
   rw[List.replicate_succ,List.flatten_cons,List.append_assoc]
  rw[← e2,← foldl_rep its k (acc++its),← e,List.replicate_succ,List.foldl_cons]
section
variable{σ:St}{s:Shared}{l b:Addr}{ys zs:List V}
theorem Inv.lset{its its':List Value}{n:Nat}{f:Array Value->Array Value}{t':Nat}(I:Inv X pins σ H s)(hH:H l=some (.lst xs))
  (e:s.heap.get? l=some { cls:=.type "list",data:=.seq its.toArray n }) (hf:f its.toArray=its'.toArray) (hv:Vals ys its') (hz:ys.length<=sizeLine) :
  Inv X pins σ (upd H l (.lst ys)) { s with heap:=s.heap.update l (Obj.mapSeq f),toks:=t' }:=by
 have q:=PySem.IsL.update e f;rw[hf] at q;refine I.write (x:=l) (e:=l) (by rw[hH];exact trivial) (.inl rfl) (λb' u hb hu=>(P3 s.heap (Obj.mapSeq f) (B6 hb)).trans hu) ⟨_,q⟩ ?_;exact⟨hz,its',_,hv,q⟩
theorem Inv.lnew{t':Nat}(I:Inv X pins σ H s)(hv:Vals ys its)(hz:ys.length<=sizeLine) :
  Inv X pins σ (upd H s.heap.objs.size (.lst ys)) { s with heap:=s.heap.push { cls:=.type "list",data:=.seq its.toArray },toks:=t' } :=
 I.laid (λ_ _ q=>B0 _ q) (A2 _) ⟨hz,its,0,hv,C1 _ rfl⟩
theorem Inv.fresh(I:Inv X pins σ H s):H s.heap.objs.size=none:=I.hok.fresh (A2 _)
theorem Inv.lstM(I:Inv X pins σ H s)(hH:H l=some (.lst xs)):xs.length<=sizeLine/\∃(its:List Value) (n:Nat),Vals xs its/\xs.length=its.length/\s.heap.get? l=some { cls:=.type "list",data:=.seq its.toArray n }:=by
 obtain⟨z,its,n,r,e⟩:=I.hok l _ hH;exact⟨z,its,n,r,r.length,e⟩
theorem dm0(h:n<=sizeLine):Builtin.List.listTooLong n=false:=by
 unfold Builtin.List.listTooLong;exact L8 (by omega)
end
def Z20:V->List V->Hp->VK->Prop:=λx vs H Q=>∃l xs y,x=.ref l/\vs=[y]/\H l=some (.lst xs)/\xs.length<sizeLine/\Q .non (upd H l (.lst (xs++[y])))
theorem oh0:MtM X "list.append" Z20:=by
 intro pins s σ H x vs v us Q I rx rv h;obtain⟨l,xs,y,rfl,rfl,hH,hz,q⟩:=h;cases rx;obtain⟨u,rfl,ru⟩:=rv.one;obtain⟨z,its,n,r,hl,e⟩:=I.lstM hH;refine S3 F.slot_list_append ⟨_,e,rfl⟩ F.entry_list_append (F.args_list_append_2 _ _) (PySem.list_append l its.toArray n u (by rw[List.size_toArray];omega)) ⟨e,?_⟩;refine⟨.non,_,I.lset (its':=its++[u]) hH e (by simp) (r.append (.cons ru .nil)) ?_,rfl,q⟩;rw[List.length_append,List.length_singleton];omega
def Tp0:V->List V->Hp->VK->Prop:=λx vs H Q=>∃l xs y,x=.ref l/\vs=[]/\H l=some (.lst xs)/\xs[xs.length - 1]?=some y/\Q y (upd H l (.lst xs.dropLast))
theorem Wk0:MtM X "list.pop" Tp0:=by
 intro pins s σ H x vs v us Q I rx rv h;obtain⟨l,xs,y,rfl,rfl,hH,hy,q⟩:=h;cases rx;have J:=rv.zero;subst J;obtain⟨z,its,n,r,hl,e⟩:=I.lstM hH;obtain⟨u,hu,ru⟩:=r.get hy;have M:its.toArray[its.toArray.size - 1]?=some u:=by
  show its.toArray[its.length - 1]?=some u;rw[← Array.getElem?_toList,← hl];exact hu
 refine S3 F.slot_list_pop ⟨_,e,rfl⟩ F.entry_list_pop (F.args_list_pop_1 _) (MeetsSeq.list_pop_last l its.toArray n u M (by rw[List.size_toArray];omega)) ⟨e,?_⟩;refine⟨y,_,I.lset (its':=its.dropLast) hH e ?_ r.dropLast ?_,ru,q⟩
 ·show its.toArray.eraseIdxIfInBounds (its.toArray.size - 1)=its.dropLast.toArray
  rw[List.size_toArray,List.eraseIdxIfInBounds_toArray,ga0]
 ·rw[List.length_dropLast]
  omega
theorem len_rep(xs:List α)(k:Nat):(List.replicate k xs).flatten.length=k*xs.length:=by
 induction k with
 | zero=>simp
 | succ k ih=>rw[List.replicate_succ,List.flatten_cons,List.length_append,ih,Nat.succ_mul,Nat.add_comm]
end L2
namespace Att
open PySem.W PySem.Calls PyProof.Rows
theorem p70{P:Params}{h:Heap}:∀(ns:List Int) (vs:List Value),WellAll P h vs (ns.map WData.int)->IntsAre vs ns:=by
 intro ns
 induction ns with
 | nil =>
  intro vs w;rw[List.map_nil] at w;cases w;exact .nil
 | cons n ns ih =>
  intro vs w;rw[List.map_cons] at w;cases w with
  | cons a b =>
   cases a;exact .cons _ _ (ih _ b)
theorem e50{l:OpenLaw}(hn:l.most=some n){P:Params}{h:Heap}{args:List WData}{vals:List Value}
  (hpre:l.row.toRowW.claim.pre args=true) (hwl:WellAll P h vals args) :
  ∃a vs ns,vals=[Value.ref a]/\args=[WData.list (ns.map WData.int)]/\h.get? a=some { cls:=.type "list",data:=.seq vs.toArray }/\IntsAre vs ns/\ns.length<=n:=by
 have M:WShape.hasAll [] args [.list .int]=true:=(pre_splitW hpre).1;have hc:l.pre.holds [] { args:=args }=true:=(pre_splitW hpre).2;obtain⟨d,r,rfl,h1,h2⟩:=hasAllW_cons M;obtain rfl:=hasAllW_nil h2;obtain⟨xs,rfl,h3⟩:=hasW_list h1;obtain⟨ns,rfl⟩:=items_int h3;have J:ns.length<=n:=by
  unfold OpenLaw.pre at hc;have h4:(WTm.not (.lt (.lit (.int (n:Int))) (.len (.arg 0)))).holds [] { args:=[.list (ns.map .int)] }=true:=by
   have h4:=(holds_andW hc).1;rw[hn] at h4;exact h4
  have h5:=condW_of h4 (w_not (w_lt w_lit (w_len_list (w_arg rfl))));rw[List.length_map] at h5;refine Nat.le_of_not_lt λq=>?_
  have q':(n:Int)<((ns.length:Nat):Int):=by omega
  first
   | (rw[decide_eq_true q'] at h5;exact absurd h5 (by decide))
   | (simp at h5;omega)
 cases hwl with
 | cons w1 w2 =>
  cases w2;cases w1 with
  | list ho hall=>exact⟨_,_,ns,rfl,rfl,ho,p70 ns _ hall,J⟩
theorem em0(l:OpenLaw)(args:List WData):l.row.toRowW.claim.post args (.bool true) args=true :=
 postW_of (r:=l.row.toRowW) (X:=(true==true))
  (show WShape.has [] (.bool true) .bool=true by first|rfl|decide|simp[WShape.has,WShape.arms,WShape.armsAll])
  (show (WTm.eq .res (.lit (.bool true))).value [] { args:=args,res:=some (.bool true),after:=args }=some (.bool (true==true)) from w_eq_bool (w_res rfl) w_lit) rfl
theorem kn0{l:OpenLaw}{n:Nat}{q:Program}{loose:List Str}{XP:(Str->Option Value)->Heap->Prop}{YP:World->Heap->Prop}{d:DefRec}
  (hn:l.most=some n) (hdf:d.params.defaults=[])
  (call:∀(w:World) (s₀ s₁:Shared) (mg mb:Str->Option Value) (fa:Addr) (o:Obj) (pm cd doc:Value) (a:Addr) (vs:List Value) (ns:List Int),
   Ground q loose [] XP w s₀ mg mb s₁.heap->YP w s₁.heap ->
   s₁.heap.get? fa=some o->o.data=.func (docDef d.name d.params d.body d.scope pm cd doc)->s₁.heap.CodeRec cd d.name->mg d.name=some (.ref fa) ->
   s₁.heap.get? a=some { cls:=.type "list",data:=.seq vs.toArray }->IntsAre vs ns->ns.length<=n->s₁.gens=#[] ->
   codeAny (model l.prog w) callerA (.call (.ref fa) ⟨[.ref a],[]⟩) (λr s'=>r=.ok (.ret (.bool true))/\OldK s₁.heap s'.heap/\s'.os=s₁.os/\AllBare s'.gens) s₁) :
  WalkO q loose XP YP l.row.toRowW d [] (λf vs=>PySem.call f vs):=by
 intro w s₀ s₁ mg mb G Y fa o pm cd doc dV kV ho hd a0 hD a2 hg a3 vals as O a4 a6 a1 a5;obtain rfl:dV=.none:=Dflts.none hD hdf;obtain rfl:kV=.none:=Dflts.noKw hD;obtain⟨a,vs,ns,rfl,rfl,M,J,Z⟩:=e50 hn O a1;refine enter_call (x0 (call w s₀ s₁ mg mb fa o pm cd doc a vs ns G Y ho (fd_plain hd) a0 a2 M J Z hg) λr s' hq=>?_);obtain⟨rfl,h2,h3,h4⟩:=hq;exact⟨.inl ⟨.bool true,.bool true,[],rfl,λ_=>rfl,.bool true,em0 l _,λ_=>⟨List.Pairwise.nil,λ_ hm=>(nomatch hm)⟩⟩,h2,h3,h4⟩
end Att
namespace L2
open Spec PyProof.Rows
theorem n00:∀{vs:List Value} {ns:List Int},IntsAre vs ns->Vals (ns.map V.int) vs
 | _,_,.nil=>.nil
 | _,_,.cons n t h=>.cons ⟨t,rfl⟩ (n00 h)
def Only(H:Hp):Prop:=∀b,H b=none∨∃o xs,H b=some (.frz o (.lst xs))
theorem ce0{P:Program}{w:World}{K:W.Frag}{mg mb:Str->Option Value}{CX:CXT}{k:Nat}{fa a:Addr}{fd:FuncData}{x:Str}{sp:Sp}{s₁:Shared}{vs:List Value}{ns:List Int}
  (KX:K.In s₁.heap) (hns:s₁.heap.Ns mainGlobals mg) (hb:s₁.heap.Ns builtinsNs mb) (hbb:∀x:Str,x ≠"__name__"->mb x=bootBuiltins x) (hlim:s₁.heap.NoLimit) (hg:s₁.gens=#[])
  (ha:s₁.heap.get? a=some { cls:=.type "list",data:=.seq vs.toArray }) (hi:IntsAre vs ns) (hl:ns.length<=sizeLine) (hr:Room k callerA)
  (F:∀base:Heap,K.In base->base.Ns mainGlobals mg->FnOk P w K mg base CX k fa fd [x] sp) (hbind:∀(s:Shared) (u:Value),BindsTo s fd ⟨[u],[]⟩ [(x,u)])
  (hsp:∀H:Hp,Only H->SqL K H a (ns.map V.int)->sp [.ref a] H (λv _=>v=.bl true) λ_ _ _=>False)
  (hCX:∀H e s',CX [] H s₁ (λ_ _ _=>False) e s'->False) :
  codeAny (model P w) callerA (.call (.ref fa) ⟨[.ref a],[]⟩) (λr s'=>r=.ok (.ret (.bool true))/\OldK s₁.heap s'.heap/\s'.os=s₁.os/\AllBare s'.gens) s₁:=by
 have rv:=n00 hi;have a0:=hi.length;have O:∀H:Hp,Only H->SqL K H a (ns.map V.int)->HOk P w H s₁.heap->(∀b,H b≠none->b=a)->(H a≠none->K.lookup a=none) ->
   codeAny (model P w) callerA (.call (.ref fa) ⟨[.ref a],[]⟩) (λr s'=>r=.ok (.ret (.bool true))/\OldK s₁.heap s'.heap/\s'.os=s₁.os/\AllBare s'.gens) s₁:=by
  intro H hO hS hok hA hK;have J:∀{b:Addr} {o:Obj},s₁.heap.get? b=some o->H b=none->(un0 s₁.heap H).get? b=some o:=λe n=>cr0 e n
  have a2:∀{b:Addr} {o:Obj} {es:Array DictEntry} {ep:Nat},s₁.heap.get? b=some o->o.data=.dict es ep->H b=none:=λ{b o es ep} e d=>by
   cases q:H b with
   | none=>rfl
   | some u =>
    have e':b=a:=hA b (by rw[q];simp);subst e';rw[ha] at e;cases e;have d':Data.seq vs.toArray _=Data.dict es ep:=d;cases d'
  have M:∀{b:Addr} {m:Str->Option Value},s₁.heap.Ns b m->(un0 s₁.heap H).Ns b m:=λ{b m} ⟨o,es,ep,e,d,r⟩=>⟨o,es,ep,J e (a2 e d),d,r⟩
  have Z:K.In (un0 s₁.heap H):=λb o e=>J (KX b o e) (by
   cases q:H b with
   | none=>rfl
   | some u =>
    have e':b=a:=hA b (by rw[q];simp);subst e';rw[hK (by rw[q];simp)] at e;cases e)
  have hM:Mod K mg (un0 s₁.heap H):=⟨Z,M hns,⟨mb,M hb,hbb⟩,let ⟨mc,h1,h2⟩:=hlim;⟨mc,M h1,h2⟩⟩;have e0:Env0 P w K mg (un0 s₁.heap H) callerA [] s₁ H:=⟨rfl,hM,λb o e=>Zk0 e,S4 (fk0 _ _),trivial,λb hb=>absurd (show b∈([]:List Addr) from hb) (by simp),hok,.of_eq hg⟩;refine x0 ((F _ Z (M hns)).run callerA [] s₁ H ⟨[.ref a],[]⟩ [.ref a] [.ref a] _ _ hr e0 (hbind s₁ (.ref a)) (.cons rfl .nil) (hsp H hO hS)) λr s' h=>?_
  cases r with
  | error e=>exact(hCX H e s' h).elim
  | ok fl =>
   cases fl with
   | next=>exact False.elim h
   | brk=>exact False.elim h
   | cont=>exact False.elim h
   | ret u =>
    obtain⟨v,H',os,bare,un,a1,r',q⟩:=h;have q':v=.bl true:=q;subst q';obtain rfl:u=Value.bool true:=r';refine⟨rfl,OldK.of_keep λb o e=>?_,os,bare⟩;cases q:H b with
    | none=>exact un.keep b o e q (by intro z;exact absurd (show b∈([]:List Addr) from z) (by simp)) (by simp)
    | some u =>
     rcases hO b with z|⟨ob,xs,z⟩
     ·rw[q] at z;cases z
     ·have z2:=un.frzs b ob _ z
      obtain⟨e1,_⟩:=hok b _ z;obtain⟨e2,_⟩:=a1 b _ z2;rw[e] at e1;cases e1;exact e2
 cases hk:K.lookup a with
 | some o =>
  have e:=KX a o hk;rw[ha] at e;cases e;refine O (λ_=>none) (λ_=>.inl rfl) (.inr ⟨_,vs.toArray,_,hk,rfl,rfl,rfl,by rw[List.size_toArray,a0];exact hl,by simpa using rv⟩) (λb u z=>by have z':(none:Option HO)=some u:=z;cases z') (λb z=>absurd rfl z) λz=>absurd rfl z
 | none =>
  refine O (λb=>if b=a then some (.frz { cls:=.type "list",data:=.seq vs.toArray } (.lst (ns.map V.int))) else none) (λb=>?_) (.inl (.inr ⟨{ cls:=.type "list",data:=.seq vs.toArray },if_pos rfl⟩)) (λb u z=>?_) (λb z=>?_) λ_=>hk
  ·by_cases hb:b=a
   ·exact .inr ⟨_,_,if_pos hb⟩
   ·exact .inl (if_neg hb)
  ·by_cases hb:b=a
   ·have z':=(if_pos hb).symm.trans z
    cases z';subst hb;exact⟨ha,by rw[List.length_map];exact hl,vs,_,rv,ha⟩
   ·have z':=(if_neg hb).symm.trans z
    cases z'
  ·by_cases hb:b=a
   ·exact hb
   ·exact absurd (if_neg hb) z
theorem Zi0{l:W.OpenLaw}{n k:Nat}{q:Program}{loose:List Str}{XP:(Str->Option Value)->Heap->Prop}{YP:World->Heap->Prop}{d:DefRec}{K:Params->W.Frag}{CX:World->CXT}{sp:World->Sp}{x:Str}
  (hn:l.most=some n) (hn2:n<=sizeLine) (hdf:d.params.defaults=[]) (hr:Room k callerA)
  (hY:∀(w:World) (h:Heap),YP w h->(K w.params).In h)
  (F:∀(w:World) (mg:Str->Option Value) (fa:Addr) (h:Heap),(K w.params).In h->h.Ns mainGlobals mg->mg d.name=some (.ref fa) ->
   ∃fd:FuncData,(∀(s:Shared) (u:Value),BindsTo s fd ⟨[u],[]⟩ [(x,u)]) /\
    ∀base:Heap,(K w.params).In base->base.Ns mainGlobals mg->FnOk l.prog w (K w.params) mg base (CX w) k fa fd [x] (sp w))
  (hsp:∀(w:World) (H:Hp) (a:Addr) (ns:List Int),ns.length<=n->Only H->SqL (K w.params) H a (ns.map V.int)->sp w [.ref a] H (λv _=>v=.bl true) λ_ _ _=>False)
  (hCX:∀(w:World) (H:Hp) (s:Shared) (e:Value) (s':Shared),CX w [] H s (λ_ _ _=>False) e s'->False) :
  W.WalkO q loose XP YP l.row.toRowW d [] (λf vs=>PySem.call f vs):=by
 refine Att.kn0 hn hdf λw s₀ s₁ mg mb fa o pm cd doc a vs ns G Y ho hd a0 Z O M J hg=>?_
 have KX:=hY w _ Y;obtain⟨fd,hb,hF⟩:=F w mg fa _ KX G.T.g Z;exact ce0 KX G.T.g G.T.b G.T.builtins G.T.nolimit hg O M (C0 J hn2) hr hF hb (λH hO hS=>hsp w H a ns J hO hS) λH e s'=>hCX w H s₁ e s'
def U6(s:Stmt):Arguments:=match s with
 | .FunctionDef _ a _ _ _ _ _ _ _ _=>a
 | _=>{ posonlyargs:=[],args:=[],vararg:=none,kwonlyargs:=[],kw_defaults:=[],kwarg:=none,defaults:=[] }
def Y6(s:Stmt):List Stmt:=match s with
 | .FunctionDef _ _ b _ _ _ _ _ _ _=>b
 | _=>[]
def p6(s:Stmt):Scope:=match s with
 | .FunctionDef _ _ _ _ _ _ sc _ _ _=>sc
 | _=>{ kind:=.function,names:=[],isGenerator:=false,isCoroutine:=false }
abbrev CX0:CXT:=λ_ _ _ _ _ _=>False
abbrev E0:XK:=λ_ _ _=>False
theorem qz0:kj0 CX0 X E0:=λ_ _ _ _ _ _ _ h=>h.elim
structure Fun(K:W.Frag)(x qual:Str)(st:Stmt)(f:Addr)(fd:FuncData):Prop where
 ex:∃(oc:Value) (od:Option Addr) (kV doc pm:Value) (an:Option Addr) (cdv ct:Value) (osl:Array (Option Value)),
  fd=W.fnOf x qual (U6 st) (Y6 st) (p6 st) .none kV doc pm an cdv ct/\K.lookup f=some ⟨oc,od,.func fd,osl⟩/\W.codeIn K cdv qual=true
 kp:W.keepIn K (.ref f)=true
section
variable{P:Program}{w:World}
theorem Fun.ok{f:Addr}{ps:List Str}{k:Nat}(F:Fun K x qual st f fd)(S:FnScope N ps (p6 st))(len:∀vs H Q E,sp vs H Q E->vs.length=ps.length)
  (hbody:∀(cdv:Value) (A:Around) (outer:List Env) (s:Shared) (H:Hp) (vs:List V) (Q:VK) (E:XK),Room k (A.deeper (envOfC qual (p6 st) s.heap.objs.size f cdv))->sp vs H Q E ->
   ∃t,PSs (wx0 CX0 P w K mg base N qual (p6 st) f cdv A outer s H E).nox (Y6 st) t/\t { nx:=λ_ H'=>Q .non H',rt:=Q } (start N vs) H):FnOk P w K mg base CX0 (k+1) f fd ps sp:=by
 obtain⟨oc,od,kV,doc,pm,an,cdv,ct,osl,rfl,lk,J⟩:=F.ex;refine cx0 lk J S len λA outer s H vs Q E hr M=>?_
 obtain⟨t,h,q⟩:=hbody cdv A outer s H vs Q E hr M;exact⟨t,h.nox,q⟩
theorem Fun.binds{f:Addr}{ps:List Str}(F:Fun K x qual st f fd)
  (h:∀(kV doc pm:Value) (an:Option Addr) (cdv ct:Value) (us:List Value),us.length=ps.length->bindArgs (W.fnOf x qual (U6 st) (Y6 st) (p6 st) .none kV doc pm an cdv ct) ⟨us,[]⟩=pure (ps.zip us)):Binds K fd ps []:=by
 obtain⟨oc,od,kV,doc,pm,an,cdv,ct,osl,rfl,lk,J⟩:=F.ex;exact .all (h kV doc pm an cdv ct)
theorem fl0{f:Addr}{kV:Value}(l:K.lookup f=some ⟨oc,od,.func (W.fnOf x qual (U6 st) (Y6 st) (p6 st) .none kV doc pm an cdv ct),osl⟩)
  (c:W.codeIn K cdv qual=true) (k:W.keepIn K (.ref f)=true):Fun K x qual st f (W.fnOf x qual (U6 st) (Y6 st) (p6 st) .none kV doc pm an cdv ct):=⟨⟨oc,od,kV,doc,pm,an,cdv,ct,osl,rfl,l,c⟩,k⟩
end
theorem zl0{A:Around}{k:Nat}(hr:Room k A):A.units+1<cLine:=P4 (A40 (by decide:1<=64) _) hr.units
structure Same(H H':Hp):Prop where
 old:∀b o,H b=some o->H' b=some o
 nf:∀b o xs,H' b=some (.frz o (.lst xs))->H b=some (.frz o (.lst xs))
instance{H H':Hp}:CoeFun (Same H H') (λ_=>∀b o,H b=some o->H' b=some o):=⟨Same.old⟩
theorem Same.refl(H:Hp):Same H H:=⟨λ_ _ h=>h,λ_ _ _ h=>h⟩
theorem Same.trans{H1:Hp}(a:Same H H1)(b:Same H1 H2):Same H H2:=⟨λc o h=>b c o (a c o h),λc o xs h=>a.nf c o xs (b.nf c o xs h)⟩
theorem Same.free(e:Same H H'){l:Addr}(h:H' l=Option.none):H l=Option.none:=by
 cases q:H l with
 | none=>rfl
 | some o =>
  rw[e l o q] at h;cases h
def Z2(X:Cx)(scope:Scope)(cl:List (Str×Addr))(N':List Str)(s:Shared)(H:Hp)(ex:List Addr):Cx :=
 { X with N:=N',s₀:=s,H₀:=H,env:=compEnvC scope cl s.heap.objs.size X.env,outer:=X.stack,ex:=ex,fn:=λ_=>false,pn:=[],xe:=λ_ _=>False }
structure CompOk(sc scope:Scope)(N N':List Str)(n:Nat)(caps:List Nat):Prop where
 kind:scope.kind=.function
 nocell:∀y∈scope.names,y.2≠.cell
 loc:∀y∈scope.names,y.2=.local->scope.names.lookup y.1=some .local
 free:∀y∈scope.names,y.2=.free->sc.names.lookup y.1=some .cell∨sc.names.lookup y.1=some .free
 nd:N'.Nodup
 len:N'.length=n+caps.length
 cap:∀k∈List.range caps.length,N'[n+k]?=(caps[k]?).bind (N[·]?)/\(N'[n+k]?).all (λy=>scope.names.lookup y==some .free)=true
def P0(n:Nat)(caps:List Nat)(σ:St):St:=List.replicate n none++caps.map λj=>(σ[j]?).join
theorem eo0(n:Nat)(caps:List Nat)(σ:St):(P0 n caps σ).length=n+caps.length:=by simp[P0]
theorem v80{env:Env}:∀(names:List (Str×NameKind)),(∀x∈names,x.2=.free->∃c,env.cells.lookup x.1=some c)->∀acc:List (Str×Addr),
  ∃cl:List (Str×Addr),(forIn names acc (λ(x:Str×NameKind) (cs:List (Str×Addr))=>if (x.2==.free)=true then do let a ← cellOf env x.1;pure (ForInStep.yield ((x.1,a)::cs)) else pure (ForInStep.yield cs)):Sem (List (Str×Addr)))=pure cl /\
   (∀y c,cl.lookup y=some c->env.cells.lookup y=some c∨acc.lookup y=some c)/\(∀x∈names,x.2=.free->∃c,cl.lookup x.1=some c)/\(∀y c,acc.lookup y=some c->∃c',cl.lookup y=some c')
 | [],_,acc=>⟨acc,rfl,λ_ _ h=>.inr h,(λ_ h=>nomatch h),λ_ c h=>⟨c,h⟩⟩
 | (n,k)::r,h,acc=>by
  cases hk:(k==NameKind.free) with
  | true =>
   have hk':k=.free:=by simpa using hk
   obtain⟨c,hc⟩:=h (n,k) A5 hk';obtain⟨cl,e,h1,h2,h3⟩:=v80 r (λx hx=>h x (A3 _ hx)) ((n,c)::acc);refine⟨cl,?_,λy d hy=>?_,λx hx hf=>?_,λy d hy=>?_⟩
   ·rw[List.forIn_cons]
    simp only[hk,if_true,cellOf,hc,pure_bind];exact e
   ·rcases h1 y d hy with z|z
    ·exact .inl z
    ·rw[List.lookup_cons] at z
     cases q:(y==n) with
     | true =>
      rw[q] at z;cases z;have:y=n:=by simpa using q
      subst this;exact .inl hc
     | false =>
      rw[q] at z;exact .inr z
   ·rcases A4.mp hx with rfl|hx
    ·exact h3 n c (by simp[List.lookup_cons])
    ·exact h2 x hx hf
   ·by_cases q:y=n
    ·subst q
     exact h3 y c (by simp[List.lookup_cons])
    ·refine h3 y d ?_
     have:(y==n)=false:=by simpa using q
     rw[List.lookup_cons,this];exact hy
  | false =>
   obtain⟨cl,e,h1,h2,h3⟩:=v80 r (λx hx=>h x (A3 _ hx)) acc;refine⟨cl,?_,h1,λx hx hf=>?_,h3⟩
   ·rw[List.forIn_cons]
    simp only[hk,Bool.false_eq_true,if_false,pure_bind];exact e
   ·rcases A4.mp hx with rfl|hx
    ·have:k=.free:=hf
     rw[this] at hk;exact absurd hk (by decide)
    ·exact h2 x hx hf
theorem vg0{env:Env}(h:∀x∈scope.names,x.2=.free->∃c,env.cells.lookup x.1=some c) :
  ∃cl:List (Str×Addr),closureFor scope env=pure cl/\(∀y c,cl.lookup y=some c->env.cells.lookup y=some c)/\∀x∈scope.names,x.2=.free->∃c,cl.lookup x.1=some c:=by
 obtain⟨cl,e,h1,h2,_⟩:=v80 scope.names h [];refine⟨cl,?_,λy c hy=>(h1 y c hy).elim id (λz=>nomatch z),h2⟩;simp only[closureFor];rw[← bind_pure (forIn _ _ _)] at e
 first
  | exact e
  | (refine Eq.trans ?_ e;rfl)
theorem xp0{env:Env}:∀(names:List (Str×NameKind)) (x:Str),
  (names.map λ(n,k)=>if (k==NameKind.free&&env.scope.kind==.function&&env.kindOf n==some .cell) then (n,NameKind.cell) else (n,k)).lookup x =
   (names.lookup x).map λk=>if (k==NameKind.free&&env.scope.kind==.function&&env.kindOf x==some .cell)=true then NameKind.cell else k
 | [],_=>rfl
 | (n,k)::r,x=>by
  have ih:=@xp0 env r x;have l1:List.lookup x (((n,k)::r).map λ(n,k)=>if (k==NameKind.free&&env.scope.kind==.function&&env.kindOf n==some .cell) then (n,NameKind.cell) else (n,k)) =
    List.lookup x ((if (k==NameKind.free&&env.scope.kind==.function&&env.kindOf n==some .cell)=true then (n,NameKind.cell) else (n,k))::r.map λ(n,k)=>if (k==NameKind.free&&env.scope.kind==.function&&env.kindOf n==some .cell) then (n,NameKind.cell) else (n,k)):=rfl
  rw[l1,List.lookup_cons (as:=r)]
  by_cases hc:(k==NameKind.free&&env.scope.kind==.function&&env.kindOf n==some .cell)=true
  ·rw[if_pos hc,List.lookup_cons]
   cases hx:x==n with
   | true =>
    have e:x=n:=by simpa using hx
    subst e;show some NameKind.cell=some (if (k==NameKind.free&&env.scope.kind==.function&&env.kindOf x==some .cell)=true then NameKind.cell else k);rw[if_pos hc]
   | false=>exact ih
  ·rw[if_neg hc,List.lookup_cons]
   cases hx:x==n with
   | true =>
    have e:x=n:=by simpa using hx
    subst e;show some k=some (if (k==NameKind.free&&env.scope.kind==.function&&env.kindOf x==some .cell)=true then NameKind.cell else k);rw[if_neg hc]
   | false=>exact ih
section
variable{w:World}{A:Around}{s:Shared}
theorem l30{elt target iter:Expr}{ifs:List Expr}{scope:Scope}{pos:Pos}{it acc:Value}{env:Env}(I:Nat->Shared->Prop)
  (turn:∀n s,I n s->wpAny (model prog w) A (pyNext it) (λr s₁=>match r with
   | none=>R (.ok .next) s₁
   | some v=>wpAny (model prog w) A (letOwnedTupleGo target it v) (λ_ s₁'=>wpAny (model prog w) A (assign target env v) (λ_ s₂ =>
     wpAny (model prog w) A (forIn ifs true λc r=>if r=true then do let ok ← isTrue c env (eval c env);pure (ForInStep.yield ok) else pure (ForInStep.yield r)) (λok s₃ =>
      if ok=true then wpAny (model prog w) A (eval elt env) (λx s₄ =>
       wpAny (model prog w) A (call (.builtin "list.append") [acc,x]) (λ_ s₅=>∃m,m<n/\I m s₅) (λ_ _=>False) s₄) (λ_ _=>False) s₃
      else ∃m,m<n/\I m s₃) (λ_ _=>False) s₂) (λ_ _=>False) s₁') (λ_ _=>False) s₁) (λ_ _=>False) s)
  (n:Nat) (h:I n s) :
  codeAny (model prog w) A (.compLoop (.ListComp elt [⟨target,iter,ifs,0⟩] scope pos) 0 it acc env) R s:=by
 refine codeAny_loop rfl I (λn s hI=>?_) n h;show wpAny _ A ((compTurn (.ListComp elt [⟨target,iter,ifs,0⟩] scope pos) 0 it acc env).onRaise (λx=>do noteFrame x env;theTreesLotGoes x)) _ _ s;refine wpAny_noted ?_;rw[compTurn_list];refine A0 (i6 (A0 (D1 (turn n s hI) (λr s₁ h₁=>?_) λ_ _ h'=>h'.elim)));cases r with
 | none=>exact A1 h₁
 | some v =>
  refine A0 (D1 h₁ (λ_ s₁' J=>?_) λ_ _ h'=>h'.elim);refine A0 (D1 J (λ_ s₂ h₂=>A0 (D1 h₂ (λok s₃ h₃=>?_) λ_ _ h'=>h'.elim)) λ_ _ h'=>h'.elim);cases ok with
  | false=>exact A1 ⟨rfl,h₃⟩
  | true =>
   exact A0 (A0 (D1 h₃ (λx s₄ h₄=>A0 (D1 h₄ (λ_ s₅ h₅=>A1 (A1 ⟨rfl,h₅⟩)) λ_ _ h'=>h'.elim)) λ_ _ h'=>h'.elim))
end
def PF(X:Cx)(ifs:List Expr)(t:TT):Prop :=
 ∀(pins:List (Addr×Obj)) (s:Shared) (σ:St) (H:Hp) (Q:Bool->Hp->Prop),Inv X pins σ H s->t σ H Q ->
  wpAny (model X.prog X.w) X.A (forIn ifs true λc r=>if r=true then do let ok ← isTrue c X.env (eval c X.env);pure (ForInStep.yield ok) else pure (ForInStep.yield r)) (TP X pins σ Q) X.xe s
theorem W40:PF X [] λ_ H Q=>Q true H:=λ_ _ _ H _ I h=>wpAny_tests_nil ⟨H,I,h⟩
theorem Wa0{t:TT}(h:PT X c t):PF X [c] t:=λpins s σ H Q I q=>wpAny_tests_one (h pins s σ H Q I q)
def Wk(σ σ':St):Prop:=σ'.length=σ.length/\∀(j:Nat) (v:V),σ[j]?=some (some v)->σ'[j]?=some (some v)
def il0(n:Nat)(caps:List Nat)(wi:TI)(g:TG)(tt:TT)(te:TE):TE:=fun σ H Q=>wi σ H λJ H1=>∀D,H1 D=none ->
 ∃W:Nat->Nat->List V->Hp->Prop,(∃m,W 0 m [] (upd H1 D (.lst [])))/\∀i m ys H2,W i m ys H2 ->
  (J.stop i H2/\Q (.ref D) H2)∨(J.go i H2/\∀x H3,J.yld i H2 x H3->g x (P0 n caps σ) H3 fun σ4 H4=>Wk (P0 n caps σ) σ4/\tt σ4 H4 λb H5 =>
   if b=true then te σ4 H5 λy H6=>H6 D=some (.lst ys)/\ys.length<sizeLine/\∃m',m'<m/\W (i+1) m' (ys++[y]) (upd H6 D (.lst (ys++[y]))) else ∃m',m'<m/\W (i+1) m' ys H5)
section
variable{tg:Expr}{wi:TI}{g:TG}{tt:TT}
def Vt0(X:Cx)(pins:List (Addr×Obj))(H:Hp)(C:Addr):Prop :=
 H C=none/\C≠X.env.locals/\X.s₀.heap.objs.size<=C/\(∀x c,X.env.cells.lookup x=some c->c≠C)/\∀p∈X.pn++pins,p.1≠C
theorem nd0{pins:List (Addr×Obj)}{σ:St}{H2:Hp}{s2:Shared}{it:Addr}{fp:List Addr}{tn:Nat->Heap->Prop}{J:It}{cl:List (Str×Addr)}{Q:VK}{RR:Value->Addr->Result->Shared->Prop}{E:Value->Shared->Prop}
  (hc:X.calm=true) (hsc:X.env.scope=sc) (ok:CompOk sc scope X.N N' n caps)
  (hcl1:∀y c,cl.lookup y=some c->X.env.cells.lookup y=some c) (hcl2:∀x∈scope.names,x.2=.free->∃c,cl.lookup x.1=some c)
  (hg:∀s H ex,PG (Z2 X scope cl N' s H ex) tg g) (ht:∀s H ex,PF (Z2 X scope cl N' s H ex) ifs tt) (he:∀s H ex,PE (Z2 X scope cl N' s H ex) elt te)
  (I2:Inv X pins σ H2 s2) (T:Turn X.prog X.w X.K tg J fp it tn) (st2:tn 0 s2.heap) (f2:∀b∈fp,vm0 X pins H2 b)
  (q:∀D,H2 D=none->∃W:Nat->Nat->List V->Hp->Prop,(∃m,W 0 m [] (upd H2 D (.lst [])))/\∀i m ys H2,W i m ys H2 ->
   (J.stop i H2/\Q (.ref D) H2)∨(J.go i H2/\∀x H3,J.yld i H2 x H3->g x (P0 n caps σ) H3 fun σ4 H4=>Wk (P0 n caps σ) σ4/\tt σ4 H4 λb H5 =>
    if b=true then te σ4 H5 λy H6=>H6 D=some (.lst ys)/\ys.length<sizeLine/\∃m',m'<m/\W (i+1) m' (ys++[y]) (upd H6 D (.lst (ys++[y]))) else ∃m',m'<m/\W (i+1) m' ys H5))
  (hend:∀(D C:Addr) (H':Hp) (s':Shared) (m:Str->Option Value),Inv X pins σ H' s'->Vt0 X pins H' C->s'.heap.Ns C m->Q (.ref D) H'->RR (.ref D) C (.ok .next) s') :
  wpAny (model X.prog X.w) X.A (newList []) (λacc s₃=>wpAny (model X.prog X.w) X.A (newFunctionEnv scope X.env.globals cl [] X.env.qual none .none (some X.env)) (λcenv s₄ =>
   codeAny (model X.prog X.w) X.A (.compStart (.ListComp elt [⟨tg,iter,ifs,0⟩] scope pos) 0 (.ref it) acc { cenv with scope:=relabel scope X.env }) (RR acc cenv.locals) s₄) E s₃) E s2:=by
 refine D6 (wpAny_newFunctionEnv ok.nocell (by intro y hy;simp at hy) (λh₁ a2 a0=>?_) ok.kind);dsimp only at a2 a0 ⊢;obtain⟨D,hD⟩:∃D,D=s2.heap.objs.size:=⟨_,rfl⟩;have I3:Inv X pins σ (upd H2 s2.heap.objs.size (.lst [])) { s2 with heap:=s2.heap.push { cls:=.type "list",data:=.seq ([]:List Value).toArray } }:=I2.lnew (its:=[]) (t':=s2.toks) .nil (C4 _);have d0:H2 s2.heap.objs.size=none:=I2.fresh;obtain⟨W,⟨m0,w0⟩,b0⟩:=q s2.heap.objs.size d0;generalize hs3:({ s2 with heap:=s2.heap.push { cls:=.type "list",data:=.seq ([]:List Value).toArray } }:Shared)=s3 at *;have b1:s2.heap.push { cls:=.type "list",data:=.seq ([]:List Value).toArray }=s3.heap:=by rw[← hs3]
 have i3:s2.toks=s3.toks:=by rw[← hs3]
 rw[b1] at a2 a0 ⊢;generalize hH3:upd H2 s2.heap.objs.size (HO.lst [])=H3 at *;rw[← hD] at b0 hH3 d0 ⊢;have old:∀b o,s3.heap.get? b=some o->h₁.get? b=some o:=λb o e=>a0.extBut b o (A9 (A6 e)) (B0 _ e)
 have a8:∀b o,s2.heap.get? b=some o->s3.heap.get? b=some o:=λb o e=>by rw[← b1];exact B0 _ e
 have c8:∀b∈fp,b<s3.heap.objs.size:=λb hb=>by
  obtain⟨o,e,_⟩:=T.obj _ _ st2 b hb;exact A6 (a8 b o e)
 have f7:∀b∈fp,b≠D:=λb hb z=>by
  obtain⟨o,e,_⟩:=T.obj _ _ st2 b hb;rw[z,hD] at e;exact absurd (A6 e) (C7 _)
 obtain⟨X',M⟩:∃X',X'=Z2 X scope cl N' s3 H3 fp:=⟨_,rfl⟩;have h5:X'.Ok:=by
  subst M;refine⟨I3.ok.mod,ok.kind,I3.ok.glob,I3.ok.blt,A2 _,λx y c h1 h2=>I3.ok.inj x y c (hcl1 x c h1) (hcl1 y c h2),λx hx=>?_,λx c h _=>absurd h (by simp[Z2]),I3.ok.hd,I3.ok.frames,.inl rfl,
   λb hb=>⟨A9 (c8 b hb),λx c e=>(f2 b hb).2.2.2.2.1 x c (hcl1 x c e)⟩,λb o e=>I3.bs b o e,C0 I3.ok.bsz I3.sz,λb o e hb=>?_,λb hb hf=>?_,I3.stack,I3.stkFree⟩
  ·have a4:((relabel scope X.env).names.lookup x=some .cell)∨((relabel scope X.env).names.lookup x=some .free):=hx
   have q2:=xp0 (env:=X.env) scope.names x;have q3:(relabel scope X.env).names.lookup x=(scope.names.lookup x).map λk=>if (k==NameKind.free&&X.env.scope.kind==.function&&X.env.kindOf x==some .cell)=true then NameKind.cell else k:=q2
   cases e:scope.names.lookup x with
   | none =>
    rw[q3,e] at a4;rcases a4 with z|z<;>cases z
   | some k =>
    have hk:k=.free:=by
     rw[q3,e] at a4;have nc:=ok.nocell (x,k) (E8 e);cases k<;>first
      | rfl
      | exact absurd rfl nc
      | (rcases a4 with z|z<;>simp at z)
    subst hk;exact hcl2 (x,.free) (E8 e) rfl
  ·rcases (f2 b hb).2.2.2.1 with z|z
   ·exact I3.ok.noex b o e z
   ·exact absurd (B5 (A6 (I3.ok.bs b o e).1) z) (C7 _)
  ·rcases A4.mp (I3.stkSub b hf) with z|z
   ·exact(f2 b hb).2.1 z
   ·exact(f2 b hb).2.2.1 z
 have I4:Inv X' [] (P0 n caps σ) H3 { s3 with heap:=h₁,toks:=s2.toks+([]:List (Str×Value)).length }:=by
  refine⟨h5,?_,?_,?_,?_,λx c e=>?_,?_,λx c e=>?_,λp hp=>?_,(by subst M;exact I3.hok.kept old),?_⟩
  ·subst M;rfl
  ·exact I3.bare
  ·subst M;exact Un.kept old
  ·subst M
   refine⟨_,a2,λi x v e1 e2 e3=>?_⟩;have hi:n<=i:=by
    by_cases hi:i<n
    ·unfold P0 at e2
     rw[List.getElem?_append_left (by simpa using hi),List.getElem?_replicate,if_pos hi] at e2;cases e2
    ·omega
   obtain⟨k,rfl⟩:∃k,i=n+k:=⟨i - n,by omega⟩;have hk:k<caps.length:=by
    have:=(D0.mp e1).1;have e5:(Z2 X scope cl N' s3 H3 fp).N.length=n+caps.length:=ok.len;omega
   obtain⟨c1,c2⟩:=ok.cap k (C3.mpr hk);have e7:N'[n+k]?=some x:=e1;unfold P0 at e2;rw[List.getElem?_append_right (by simp),List.length_replicate,Nat.add_sub_cancel_left,List.getElem?_map] at e2;obtain⟨j,hj⟩:∃j,caps[k]?=some j:=⟨caps[k],by simp[hk]⟩;rw[hj] at e2 c1;have f6:X.N[j]?=some x:=by rw[← e7,c1];rfl
   have a3:(σ[j]?).join=some v:=A8 e2;have f0:σ[j]?=some (some v):=by
    cases q:σ[j]? with
    | none=>rw[q] at a3;cases a3
    | some o=>rw[q] at a3;rw[show o=some v from a3]
   rw[e7] at c2;have O:scope.names.lookup x=some .free:=by simpa using c2
   have a7:=ok.free (x,.free) (E8 O) rfl;obtain⟨m,hn,hl⟩:=I3.loc;obtain⟨u,ru,l⟩:=hl j x v f6 f0 (by
    rcases a7 with z|z
    ·exact .inr (.inl (by rw[hsc];exact z))
    ·exact .inr (.inr (by rw[hsc];exact z)))
   refine⟨u,ru,.inr ⟨?_,?_⟩⟩
   ·have q3:(relabel scope X.env).names.lookup x=(scope.names.lookup x).map λk=>if (k==NameKind.free&&X.env.scope.kind==.function&&X.env.kindOf x==some .cell)=true then NameKind.cell else k:=xp0 scope.names x
    rw[O] at q3;show (relabel scope X.env).names.lookup x=_∨(relabel scope X.env).names.lookup x=_;rw[q3]
    by_cases hcc:(NameKind.free==NameKind.free&&X.env.scope.kind==.function&&X.env.kindOf x==some .cell)=true
    ·left;simp only[Option.map_some,if_pos hcc]
    ·right;simp only[Option.map_some,if_neg hcc]
   ·obtain⟨c',c6⟩:=hcl2 (x,.free) (E8 O) rfl
    rcases l with⟨h3,_⟩|⟨_,c,f9,c4⟩
    ·have b3:X.env.scope.names.lookup x=some .local:=h3
     rw[hsc] at b3;rcases a7 with z|z<;>(rw[b3] at z;cases z)
    ·have:=hcl1 x c' c6
     rw[f9] at this;cases this;obtain⟨o,ho,hd⟩:=c4;exact⟨_,c6,o,old _ o ho,hd⟩
  ·have e':cl.lookup x=some c:=by subst M;exact e
   obtain⟨v,o,ho,hd⟩:=I3.cell x c (hcl1 x c e');exact⟨v,o,old _ o ho,hd⟩
  ·subst M;exact I3.hok.fresh (A2 _)
  ·have e':cl.lookup x=some c:=by subst M;exact e
   exact I3.freeC x c (hcl1 x c e')
  ·subst M;exact absurd hp (by simp[Z2])
  ·subst M
   show _=N'.length;rw[eo0,ok.len]
 have c0:X'.calm=true:=by subst M;exact hc
 have Z:∀{H':Hp},(∀b∈fp,H' b=none)->∀b∈fp,vm0 X' [] H' b:=λ{H'} hn b hb=>by
  subst M;refine⟨hn b hb,A9 (c8 b hb),λhf=>?_,.inl hb,λx c e=>(f2 b hb).2.2.2.2.1 x c (hcl1 x c e),λp hp=>absurd hp (by simp[Z2])⟩;rcases A4.mp (I3.stkSub b hf) with z|z
  ·exact(f2 b hb).2.1 z
  ·exact(f2 b hb).2.2.1 z
 have g6:∀b∈fp,H3 b=none:=λb hb=>by rw[← hH3,j7 (f7 b hb)];exact(f2 b hb).1
 have e0:tn 0 h₁:=T.keep _ _ _ st2 λb hb o e=>old b o (a8 b o e)
 have loop:∀s4:Shared,s4={ s3 with heap:=h₁,toks:=s2.toks+([]:List (Str×Value)).length } ->
   codeAny (model X.prog X.w) X.A (.compLoop (.ListComp elt [⟨tg,iter,ifs,0⟩] scope pos) 0 (.ref it) (.ref D) X'.env) (RR (.ref D) s3.heap.objs.size) s4:=by
  rintro s4 rfl;refine l30 (λk s'=>∃i ys H',Inv X' [] (P0 n caps σ) H' s'/\tn i s'.heap/\(∀b∈fp,H' b=none)/\W i k ys H') ?_ m0 ⟨0,[],H3,I4,e0,g6,w0⟩;rintro k s5 ⟨i,ys,H5,I5,e6,e4,w5⟩;have eP:X'.prog=X.prog:=by subst M;rfl
  have ew:X'.w=X.w:=by subst M;rfl
  have eK:X'.K=X.K:=by subst M;rfl
  have eA:X'.A=X.A:=by subst M;rfl
  rcases b0 i k ys H5 w5 with⟨stop,qe⟩|⟨go,step⟩
  ·have T':=T.done X' eP ew eK c0 i [] s5 (P0 n caps σ) H5 (λ_ _=>False) I5 (Z e4) e6 stop
   rw[eA] at T';refine thn T' λr s6 ⟨hr,I6⟩=>?_
   subst hr;have g5:Un (frs X.stack) fp H3 H5 s3.heap s6.heap:=by have:=I6.base;subst M;exact this
   have h4:s6.os=s3.os:=by have:=I6.os;subst M;exact this
   have f5:HOk X.prog X.w H5 s6.heap:=by have:=I6.hok;subst M;exact this
   have IX:Inv X pins σ H5 s6:=I3.call' h4 g5 f5 I6.bare λb hb=>⟨(f2 b hb).2.2.2.1,(f2 b hb).2.1,(f2 b hb).2.2.2.2.1,(f2 b hb).2.2.2.2.2⟩
   obtain⟨m6,h0,_⟩:=I6.loc;have f3:s6.heap.Ns s3.heap.objs.size m6:=by subst M;exact h0
   refine hend D s3.heap.objs.size H5 s6 m6 IX ⟨by have:=I6.free;subst M;exact this,C5 I3.lt,I3.sz,λx c e z=>?_,λp hp z=>?_⟩ f3 qe
   ·obtain⟨v,qc⟩:=I3.cell x c e
    exact absurd (B5 qc.lt (S4 z.symm)) (C7 _)
   ·exact absurd (B5 (A6 (I3.pin p hp).1) (S4 z.symm)) (C7 _)
  ·have T':=T.item X' eP ew eK c0 i [] s5 (P0 n caps σ) H5 (λ_ _=>False) I5 (Z e4) e6 go
   rw[eA] at T';refine thn T' λr s6 ⟨u,hr,h6⟩=>?_
   subst hr;refine thn h6 λ_ s7 ⟨x,H7,I7,r7,y7,b2,g4⟩=>?_
   have h8:=I7.pinned (Z g4) (T.obj _ _ b2);have c5:=hg s3 H3 fp;have d2:=ht s3 H3 fp;have d1:=he s3 H3 fp;rw[← M] at c5 d2 d1;have g1:=c5 _ s7 (P0 n caps σ) H7 x u _ h8 r7 (step x H7 y7);rw[eP,ew,eA] at g1;have a6:X'.xe=λ_ _=>False:=by subst M;rfl
   rw[a6] at g1;refine thn g1 λ_ s8 ⟨σ8,H8,I8,a5,q8⟩=>?_
   have t1:=d2 _ s8 σ8 H8 _ I8 q8;rw[eP,ew,eA,a6] at t1;refine thn t1 λb s9 ⟨H9,I9,q9⟩=>?_
   have back:∀{σa:St} {Ha:Hp} {sa:Shared} {c3:List V} {ma:Nat},Inv X' ([]++tc0 fp s7.heap) σa Ha sa->σa.length=(P0 n caps σ).length->(∀(j:Nat) v,(P0 n caps σ)[j]?=some (some v)->σa[j]?=some (some v))->W (i+1) ma c3 Ha ->
     ∃i ys H',Inv X' [] (P0 n caps σ) H' sa/\tn i sa.heap/\(∀b∈fp,H' b=none)/\W i ma ys H':=λ{σa Ha sa c3 ma} Ia hl hw wa=>by
    refine⟨i+1,c3,Ha,(Ia.weak hl.symm hw).unpinned,T.keep _ _ _ b2 λb hb o e=>(Ia.pin (b,o) (D2 _ (D2 _ (we0 hb e)))).1,λb hb=>?_,wa⟩;obtain⟨o,e,d⟩:=T.obj _ _ b2 b hb;exact(Ia.pin (b,o) (D2 _ (D2 _ (we0 hb e)))).2.1
   cases b with
   | false =>
    rw[if_neg B3];rw[if_neg B3] at q9;obtain⟨m',hm,w9⟩:=q9;exact⟨m',hm,back I9 a5.1 a5.2 w9⟩
   | true =>
    rw[if_pos rfl];rw[if_pos rfl] at q9;have e1:=d1 _ s9 σ8 H9 _ I9 q9;rw[eP,ew,eA,a6] at e1;refine thn e1 λv g7 ⟨y,g2,g3,f8,f4,f1,m',hm,h9⟩=>?_
    have a1:=oh0 (X:=X') _ g7 σ8 g2 (.ref D) [y] (.ref D) [v] (λ_ H'=>W (i+1) m' (ys++[y]) H') g3 rfl (.cons f8 .nil) ⟨D,ys,y,rfl,rfl,f4,f1,h9⟩;rw[eP,ew,eA,a6] at a1;refine thn a1 λ_ j1 ⟨_,j2,g9,_,h7⟩=>?_
    exact⟨m',hm,back g9 a5.1 a5.2 h7⟩
 subst M;exact codeAny_compStart_list (loop _ (by rw[← hs3])) (T.self X.A 0 _ _ _ e0 (loop _ (by rw[← hs3])))
theorem ag0(hc:X.calm=true)(hsc:X.env.scope=sc)(ok:CompOk sc scope X.N N' n caps)(hi:PI X tg iter wi)
  (hg:∀cl s H ex,PG (Z2 X scope cl N' s H ex) tg g) (ht:∀cl s H ex,PF (Z2 X scope cl N' s H ex) ifs tt) (he:∀cl s H ex,PE (Z2 X scope cl N' s H ex) elt te)
  (hs:∀x,foldedSetIterable iter X.env x=pure x:=by intro _;rfl) :
  PE X (.ListComp elt [⟨tg,iter,ifs,0⟩] scope pos) (il0 n caps wi g tt te):=by
 intro pins s σ H Q I h;obtain⟨cl,M,Z,O⟩:=vg0 (env:=X.env) (scope:=scope) λx hx hf=>I.ok.has x.1 (by
  rcases ok.free x hx hf with z|z
  ·exact .inl (by show X.env.scope.names.lookup x.1=_;rw[hsc];exact z)
  ·exact .inr (by show X.env.scope.names.lookup x.1=_;rw[hsc];exact z))
 rw[eval_ListComp];refine Bi0 (use:=none) rfl hs M ok.kind ok.loc (thn (hi pins s σ H _ I h) λv s1 h1=>thn h1 λa2 s2 h2=>?_);obtain⟨it,fp,tn,J,H2,rfl,I2,T,a0,f2,q2⟩:=h2;refine nd0 (Q:=Q) (RR:=λa1 C=>compPost (model X.prog X.w) X.A X.xe none (EP X pins σ Q) a1 C) hc hsc ok Z O (hg cl) (ht cl) (he cl) I2 T a0 f2 q2 ?_;intro D C H' s' m IX as hn qe;refine⟨m,hn,λh' sb=>⟨.ref D,H',IX.turned (t':=s'.toks) (λb o hb e=>(sb.2 b hb).trans e) as.1 as.2.1 (.inr as.2.2.1) as.2.2.2.1 as.2.2.2.2,rfl,qe⟩⟩
theorem ip0{y:Str}{py spos:Pos}(hN:X.N.Nodup)(hiN:X.N[i]?=some y)(hy:Loc X.env.scope y)(hc:X.calm=true)(hsc:X.env.scope=sc)(ok:CompOk sc scope X.N N' n caps)(hi:PI X tg iter wi)
  (hg:∀cl s H ex,PG (Z2 X scope cl N' s H ex) tg g) (ht:∀cl s H ex,PF (Z2 X scope cl N' s H ex) ifs tt) (he:∀cl s H ex,PE (Z2 X scope cl N' s H ex) elt te)
  (hsw:swapsWith (.ListComp elt [⟨tg,iter,ifs,0⟩] scope pos) (some (.Name y py)) spos.line X.env=pure true:=by rfl)
  (hs:∀x,foldedSetIterable iter X.env x=pure x:=by intro _;rfl)
  (hf:X.fn y=true∨X.env.scope.names.lookup y=some .local:=by first|exact .inl rfl|exact .inr rfl|assumption) :
  PS X (.Assign [.Name y py] (.ListComp elt [⟨tg,iter,ifs,0⟩] scope pos) spos) (λD σ H=>il0 n caps wi g tt te σ H λv H'=>D.nx (σ.set i (some v)) H'):=by
 intro pins s σ H D I h;obtain⟨cl,M,Z,O⟩:=vg0 (env:=X.env) (scope:=scope) λx hx hf=>I.ok.has x.1 (by
  rcases ok.free x hx hf with z|z
  ·exact .inl (by show X.env.scope.names.lookup x.1=_;rw[hsc];exact z)
  ·exact .inr (by show X.env.scope.names.lookup x.1=_;rw[hsc];exact z))
 rw[exec_Assign_Name_used _ _ _ _ hsw];refine A0 (i6 (A0 ?_));show wpAny _ X.A (do let _ ← comprehension (.ListComp elt [⟨tg,iter,ifs,0⟩] scope pos) scope X.env _ (newList []) false (eval iter X.env) (some (assign (.Name y py) X.env))) _ _ s;refine A0 (D1 (Bi0 (use:=some (assign (.Name y py) X.env)) (Q:=λ_ s'=>SP X pins D .next s') rfl hs M ok.kind ok.loc
  (thn (hi pins s σ H _ I h) λv s1 h1=>thn h1 λa6 s2 h2=>?_)) (λ_ s' hq=>A1 (A1 hq)) λ_ _ e=>e)
 obtain⟨it,fp,tn,J,H2,rfl,I2,T,a0,f2,q2⟩:=h2;refine nd0 (Q:=λv H'=>D.nx (σ.set i (some v)) H') (RR:=λa3 C=>compPost (model X.prog X.w) X.A X.xe (some (assign (.Name y py) X.env)) (λ_ s'=>SP X pins D .next s') a3 C) hc hsc ok Z O (hg cl) (ht cl) (he cl) I2 T a0 f2 q2 ?_;intro Da C H' s' m IX as hn qe;show wpAny _ X.A (assign (.Name y py) X.env (.ref Da)) _ _ _;refine wpAny_assign_Name (ox0 IX hN hiN hy (v:=.ref Da) rfl (λa2 a5 ⟨a,sb,ha⟩=>?_) hf);have a4:C≠a:=by
  rcases ha with z|z
  ·rw[z];exact as.2.1
  ·exact B6 (as.2.2.2.1 y a z)
 refine⟨m,hn.sameBut sb a4,λh' a1=>⟨_,H',a5.turned (t':=a2.toks) (λb o hb e=>(a1.2 b hb).trans e) as.1 as.2.1 (.inr as.2.2.1) as.2.2.2.1 as.2.2.2.2,qe⟩⟩
end
end L2
namespace DL
open Spec PyProof.Rows
inductive D where
 | non|bl (b:Bool)|int (i:Int)|str (x:Str)|tup (ds:List D)|lst (ds:List D)|dct (ks:Sum (List (Sum Int Str)) (List (List (Sum Int Str)))) (ds:List D)|fn (ks:List (Sum Int Str)) (ds:List D)
 deriving Inhabited
variable{l ds dd:List DL.D}{L:Nat->DL.D}
@[simp] def unl:D->D
 | .tup [_,d]=>d
 | d=>d
@[simp] def isL:D->Bool
 | .tup _=>true
 | _=>false
inductive Sl where
 | un|sh (d:D)|ow (d:D)
 | ex (c:Str) (n:Option Int)
abbrev Ds:=List Sl
inductive Res where
 | nx (δ:Ds)|rt (d:D)|bk (δ:Ds)|ct (δ:Ds)|rf (d:D)
variable{g ge gb:DL.Ds->Option DL.D}{δ δ':DL.Ds}{G:DL.Ds->Option DL.Res}{gi gA:DL.Ds->Option (List DL.D)}{gt:DL.Ds->Option Bool}
abbrev GE:=Ds->Option D
abbrev GB:=Ds->Option Bool
variable{g0:DL.GE}
abbrev GA:=Ds->Option (List D)
abbrev GS:=Ds->Option Res
@[simp] def asB:D->Option Bool
 | .bl b=>some b
 | _=>none
@[simp] def asI:D->Option Int
 | .int i=>some i
 | _=>none
@[simp] def gv(i:Nat):GE:=fun δ=>match δ[i]? with
 | some (.sh d)=>some d
 | _=>none
@[simp] def gc(d:D):GE:=λ_=>some d
@[simp] def o2(ga gb:GE)(f:D->D->Option D):GE:=fun δ=>(ga δ).bind λx=>(gb δ).bind λy=>f x y
@[simp] def ob(g:GE):GB:=fun δ=>(g δ).bind asB
@[simp] def xx0(g:GB):GB:=fun δ=>(g δ).map (!·)
@[simp] def wb0(gt gu:GB):GB:=fun δ=>(gt δ).bind λt=>if t=true then gu δ else some false
@[simp] def yf0(gt gu:GB):GB:=fun δ=>(gt δ).bind λt=>if t=true then some true else gu δ
@[simp] def orG(ga gb:GE):GE:=fun δ=>(ob ga δ).bind λt=>if t=true then some (.bl true) else gb δ
@[simp] def ifG(gt:GB)(ga gb:GE):GE:=fun δ=>(gt δ).bind λt=>if t=true then ga δ else gb δ
@[simp] def v6:GA:=λ_=>some []
@[simp] def z8(g:GE)(gA:GA):GA:=fun δ=>(g δ).bind λd=>(gA δ).map λds=>d::ds
@[simp] def Y4(gA:GA):GE:=fun δ=>(gA δ).bind λds=>if ds.length<=sizeLine then some (.tup ds) else none
@[simp] def W6(gA:GA):GE:=fun δ=>(gA δ).bind λds=>if ds.length<=sizeLine then some (.lst ds) else none
@[simp] def oA(gA:GA)(f:List D->Option D):GE:=fun δ=>(gA δ).bind f
@[simp] def V4(f:D->Bool)(g:GE):GE:=fun δ=>(g δ).map λd=>.bl (f d)
@[simp] def xi0(d:D):Option D:=match d with
 | .int i=>some (.int (-i))
 | _=>none
@[simp] def unG(f:D->Option D)(g:GE):GE:=fun δ=>(g δ).bind f
@[simp] def v4(G1 G2:GS):GS:=fun δ=>match G1 δ with
 | some (.nx δ')=>G2 δ'
 | r=>r
@[simp] def u9:GS:=fun δ=>some (.nx δ)
@[simp] def j9(g:GE):GS:=fun δ=>(g δ).map .rt
@[simp] def gN(i:Nat):D->Ds->Option Ds:=λd δ=>some (δ.set i (.sh d))
@[simp] def n6(f:D->Ds->Option Ds)(g:GE):GS:=fun δ=>(g δ).bind λd=>(f d δ).map .nx
@[simp] def ifD(gt:GB)(Ga Gb:GS):GS:=fun δ=>(gt δ).bind λt=>if t=true then Ga δ else Gb δ
def U3(f:D->Ds->Option Ds)(G:GS):List D->Ds->Option Res
 | [],δ=>some (.nx δ)
 | d::ds,δ=>match (f d δ).bind G with
  | some (.nx δ')=>U3 f G ds δ'
  | some (.ct δ')=>U3 f G ds δ'
  | some (.bk δ')=>some (.nx δ')
  | r=>r
@[simp] def S6(gi:GA)(f:D->Ds->Option Ds)(G:GS):GS:=fun δ=>(gi δ).bind λitems=>U3 f G items δ
@[simp] def sl0:D->Option (List D)
 | .lst ds=>some ds
 | _=>none
@[simp] def b80:D->Option (List D)
 | .tup ds=>some ds
 | _=>none
@[simp] def K1(g:GE):GA:=fun δ=>(g δ).bind sl0
@[simp] def tupI(g:GE):GA:=fun δ=>(g δ).bind b80
def Y7(lo hi:Int):List D:=(List.range (hi - lo).toNat).map λk=>.int (lo+(k:Nat))
@[simp] def ic0(ds:List D):Option (List D):=match ds with
 | [.int j]=>if -(2 ^ 62)<=j/\j<2 ^ 62 then some (Y7 0 j) else none
 | _=>none
@[simp] def b30(ds:List D):Option (List D):=match ds with
 | [.int i,.int j]=>if (-(2 ^ 62)<=i/\i<2 ^ 62)/\-(2 ^ 62)<=j/\j<2 ^ 62 then some (Y7 i j) else none
 | _=>none
@[simp] def T6(gA:GA):GA:=fun δ=>(gA δ).bind ic0
@[simp] def i60(gA:GA):GA:=fun δ=>(gA δ).bind b30
@[simp] def noT:GB:=λ_=>some true
@[simp] def ny0:Option Sl->Sl
 | some (.sh d)=>.sh d
 | _=>.un
@[simp] def y80(n:Nat)(caps:List Nat)(δ:Ds):Ds:=List.replicate n .un++caps.map λj=>ny0 δ[j]?
def R4(f:D->Ds->Option Ds)(gt:GB)(ge:GE)(δ:Ds):List D->Option (List D)
 | []=>some []
 | d::ds=>match f d δ with
  | none=>none
  | some δ'=>match gt δ' with
   | none=>none
   | some false=>R4 f gt ge δ ds
   | some true=>match ge δ' with
    | none=>none
    | some y=>(R4 f gt ge δ ds).map λr=>y::r
@[simp] def Y8(n:Nat)(caps:List Nat)(gi:GA)(f:D->Ds->Option Ds)(gt:GB)(ge:GE):GE :=
 fun δ=>(gi δ).bind λitems=>if items.length<=sizeLine then (R4 f gt ge (y80 n caps δ) items).map .lst else none
@[simp] def Z6(N:List Str)(ds:List D):Ds:=ds.map .sh++List.replicate (N.length - ds.length) .un
@[simp] def isStr:D->Bool
 | .str _=>true|_=>false
@[simp] def isBool:D->Bool
 | .bl _=>true|_=>false
@[simp] def isTup:D->Bool
 | .tup _=>true|_=>false
@[simp] def ii(f:Int->Int->Option D):D->D->Option D
 | .int i,.int j=>f i j
 | _,_=>none
@[simp] def cf0:D->D->Option D:=ii λi j=>some (.int (i - j))
@[simp] def W4:D->D->Option D:=ii λi j=>if 0<j/\j<1073741824 then some (.int (i/j)) else none
@[simp] def d9:D->D->Option D:=ii λi j=>if 0<j then some (.int (i%j)) else none
@[simp] def mo0:D->D->Option D:=ii λi j=>if 0<=j/\j<=1000000/\i.natAbs<2 ^ 64 then some (.int (i ^ j.toNat)) else none
@[simp] def ltD:D->D->Option D:=ii λi j=>some (.bl (decide (i<j)))
@[simp] def gtD:D->D->Option D:=ii λi j=>some (.bl (decide (j<i)))
@[simp] def eqS:D->D->Option Bool
 | .non,.non=>some true
 | .non,.int _=>some false|.int _,.non=>some false|.non,.bl _=>some false|.bl _,.non=>some false|.non,.str _=>some false|.str _,.non=>some false
 | .int i,.int j=>some (decide (i=j))
 | .bl i,.bl j=>some (decide (i=j))
 | .str i,.str j=>some (decide (i=j))
 | .int _,.str _=>some false|.str _,.int _=>some false|.bl _,.str _=>some false|.str _,.bl _=>some false
 | _,_=>none
@[simp] def eqD(x y:D):Option D:=(eqS x y).map .bl
@[simp] def U70:D->Bool
 | .non=>true|_=>false
@[simp] def iw0(x y:D):Option D:=match y with
 | .non=>some (.bl (U70 x))
 | _=>none
def ixN(n:Nat)(i:Int):Option Nat:=if 0<=i then (if i<n then some i.toNat else none) else if -(n:Int)<=i then some (i+n).toNat else none
def atI{α:Type}(xs:List α)(i:Int):Option α:=(ixN xs.length i).bind λj=>xs[j]?
@[simp] def ixD:D->D->Option D
 | .lst xs,.int i=>atI xs i
 | .tup xs,.int i=>atI xs i
 | .str z,.int i=>if z.length<=sizeLine then (atI z.cps.toList i).map λc=>.str ⟨#[c]⟩ else none
 | _,_=>none
def sIx(n d:Nat):Option Int->Nat
 | none=>d
 | some v=>if v<0 then (v+(n:Int)).toNat else min v.toNat n
def cutD(xs:List D)(lo hi:Option Int):List D:=(xs.drop (sIx xs.length 0 lo)).take (sIx xs.length xs.length hi - sIx xs.length 0 lo)
abbrev GO:=Ds->Option (Option Int)
@[simp] def K6:GO:=λ_=>some none
@[simp] def someO(g:GE):GO:=fun δ=>(g δ).bind λd=>(asI d).map some
@[simp] def Y0:List D->Option D
 | [.str z]=>if z.length<=sizeLine then some (.int z.length) else none
 | [.lst xs]=>some (.int xs.length)
 | [.tup xs]=>some (.int xs.length)
 | _=>none
def th0:List D->Option (List Str)
 | []=>some []
 | .str b::ds=>(th0 ds).map λr=>b::r
 | _=>none
@[simp] def nw0(d:D)(ds:List D):Option D:=match d,ds with
 | .str sep,[.lst xs]=>(th0 xs).bind λys=>if (ys.map (·.length)).sum+ys.length*sep.length<=16777216 then some (.str (Txt.join sep ys)) else none
 | _,_=>none
@[simp] def sn0(g:GE)(gA:GA):GE:=fun δ=>(g δ).bind λd=>(gA δ).bind λds=>nw0 d ds
@[simp] def U8:List D->Option D
 | [.lst ds]=>some (.tup ds)
 | [.tup ds]=>some (.tup ds)
 | _=>none
theorem sg0{f:D->Ds->Option Ds}{gt:GB}{ge:GE}(p:D->Bool)(h:D->D):∀{items:List D},(∀d∈items,∃δ',f d δ=some δ'/\gt δ'=some (p d)/\(p d=true->ge δ'=some (h d))) ->
  R4 f gt ge δ items=some ((items.filter p).map h)
 | [],_=>rfl
 | d::ds,H=>by
  obtain⟨δ',e1,e2,e3⟩:=H d A5;have ih:=sg0 p h λd hd=>H d (A3 _ hd)
  unfold R4;rw[e1];dsimp only;rw[e2];cases hp:p d with
  | false =>
   dsimp only;rw[List.filter_cons_of_neg (by simp[hp])];exact ih
  | true =>
   dsimp only;rw[e3 hp,ih,List.filter_cons_of_pos hp];rfl
theorem R8{f:D->Ds->Option Ds}{gt:GB}{ge:GE}(h:D->D){items:List D}(H:∀d∈items,∃δ',f d δ=some δ'/\gt δ'=some true/\ge δ'=some (h d)):R4 f gt ge δ items=some (items.map h):=by
 have:=sg0 (f:=f) (gt:=gt) (ge:=ge) (δ:=δ) (λ_=>true) h (items:=items) λd hd=>by
  obtain⟨δ',a,b,c⟩:=H d hd;exact⟨δ',a,b,λ_=>c⟩
 rw[List.filter_eq_self.mpr (by simp)] at this;exact this
theorem strs_map(h:α->Str):∀l:List α,th0 (l.map λa=>.str (h a))=some (l.map h)
 | []=>rfl
 | a::l=>by
  show (th0 (l.map λa=>.str (h a))).map (λr=>h a::r)=_;rw[strs_map h l];rfl
theorem T9{f:D->Ds->Option Ds}{G:GS}(P:Nat->Ds->Prop):∀(items:List D) (i:Nat) (δ:Ds),(∀j d δ,items[j]?=some d->P (i+j) δ->∃δ1 δ2,f d δ=some δ1/\G δ1=some (.nx δ2)/\P (i+j+1) δ2)->P i δ ->
  ∃δ',U3 f G items δ=some (.nx δ')/\P (i+items.length) δ'
 | [],i,δ,_,h=>⟨δ,rfl,h⟩
 | d::ds,i,δ,H,h=>by
  obtain⟨δ1,δ2,e1,e2,h2⟩:=H 0 d δ rfl h;obtain⟨δ',e3,h3⟩:=T9 P ds (i+1) δ2 (λj d δ hj hp=>by
   have q:i+(j+1)=i+1+j:=by omega
   obtain⟨a,b,c,d',e⟩:=H (j+1) d δ (by simpa using hj) (by rw[q];exact hp);exact⟨a,b,c,d',by rw[q] at e;exact e⟩) h2
  have q:i+(d::ds).length=i+1+ds.length:=by rw[List.length_cons];omega
  refine⟨δ',?_,by rw[q];exact h3⟩;unfold U3;rw[e1];simp only[Option.bind_some,e2];exact e3
theorem Wd0{G1 G2:GS}(h:G1 δ=some (.nx δ')):v4 G1 G2 δ=G2 δ':=by unfold v4;rw[h]
theorem j4{G1 G2:GS}{d:D}(h:G1 δ=some (.rt d)):v4 G1 G2 δ=some (.rt d):=by unfold v4;rw[h]
theorem X3{g:GE}{d:D}(h:g δ=some d):j9 g δ=some (.rt d):=by unfold j9;rw[h];rfl
theorem j6{g:GE}{d:D}(h:g δ=some d):n6 (gN i) g δ=some (.nx (δ.set i (.sh d))):=by unfold n6;rw[h];rfl
theorem Q6{g:GB}{Ga Gb:GS}(h:g δ=some true):ifD g Ga Gb δ=Ga δ:=by unfold ifD;rw[h];rfl
theorem d7{g:GB}{Ga Gb:GS}(h:g δ=some false):ifD g Ga Gb δ=Gb δ:=by unfold ifD;rw[h];rfl
theorem V6{gi:GA}{f:D->Ds->Option Ds}{gt:GB}{ge:GE}{items out:List D}(h1:gi δ=some items)(h2:items.length<=sizeLine)(h3:R4 f gt ge (y80 n caps δ) items=some out):Y8 n caps gi f gt ge δ=some (.lst out):=by
 unfold Y8;rw[h1];show (if items.length<=sizeLine then (R4 f gt ge (y80 n caps δ) items).map D.lst else none)=_;rw[if_pos h2,h3];rfl
theorem R0{gi:GA}{f:D->Ds->Option Ds}{G:GS}{items:List D}{r:Option Res}(h1:gi δ=some items)(h2:U3 f G items δ=r):S6 gi f G δ=r:=by
 unfold S6;rw[h1];exact h2
theorem cons_of{g:GE}{gA:GA}{d:D}(h1:g δ=some d)(h2:gA δ=some ds):z8 g gA δ=some (d::ds):=by unfold z8;rw[h1,h2];rfl
theorem o8{gA:GA}{f:List D->Option D}(h:gA δ=some ds):oA gA f δ=f ds:=by unfold oA;rw[h];rfl
theorem o4{ga gb:GE}{x y:D}{f:D->D->Option D}(h1:ga δ=some x)(h2:gb δ=some y):o2 ga gb f δ=f x y:=by unfold o2;rw[h1,h2];rfl
theorem Yg0{g:GE}{gA:GA}{x:D}(h1:g δ=some x)(h2:gA δ=some ds):sn0 g gA δ=nw0 x ds:=by unfold sn0;rw[h1,h2];rfl
theorem zc0{xs:List α}{i:Int}(h0:0<=i)(h1:i<xs.length)(d:α):atI xs i=some (xs.getD i.toNat d):=by
 unfold atI ixN;rw[if_pos h0,if_pos h1];show xs[i.toNat]?=_;have:i.toNat<xs.length:=by omega
 simp[List.getD_eq_getElem?_getD,this]
end DL
variable{l ds dd:List DL.D}{g ge gb:DL.Ds->Option DL.D}{δ δ':DL.Ds}{G:DL.Ds->Option DL.Res}{gi gA:DL.Ds->Option (List DL.D)}{gt:DL.Ds->Option Bool}{g0:DL.GE}{L:Nat->DL.D}
namespace DL
open Spec PyProof.Rows L2
abbrev BS:=Addr->Prop
abbrev St:=L2.St
variable{B B' B₀:DL.BS}
structure NB(o:Option HO):Prop where
 ne:o≠none
 nf:∀ob u,o=some (.frz ob u)->∃xs,u=.lst xs
 nt:∀xs,o≠some (.tup xs)
instance{o:Option HO}:CoeFun (NB o) (λ_=>o=none->False):=⟨λh e=>h.ne e⟩
theorem NB.of{o:Option HO}{u:HO}(h:o=some u)(n:∀ob u',u≠.frz ob u')(t:∀xs,u≠.tup xs):NB o:=by
 subst h;exact⟨λz=>(by cases z),λob u' z=>absurd (A8 z) (n ob u'),λxs z=>t xs (A8 z)⟩
theorem NB.keep(q:∀o,H a=some o->H' a=some o)(h:NB (H a)):NB (H' a):=by
 cases e:H a with
 | none=>exact absurd e h.ne
 | some o=>rw[q o e,← e];exact h
theorem NB.same(q:Same H H')(h:NB (H a)):NB (H' a):=h.keep λo e=>q a o e
def SqT'(K:W.Frag)(H:Hp)(B:BS)(a:Addr)(xs:List V):Prop:=¬B a/\H a=some (.tup xs)
def SqL'(K:W.Frag)(H:Hp)(B:BS)(a:Addr)(xs:List V):Prop:=(¬B a/\Rd H a (.lst xs))∨False
theorem SqT'.to(h:SqT' K H B a xs):SqT K H a xs:=.inl (.inl h.2)
theorem SqL'.at(h:SqL' K H B a xs):¬B a/\Rd H a (.lst xs):=h.elim id False.elim
theorem SqL'.to(h:SqL' K H B a xs):SqL K H a xs:=.inl h.at.2
def Gr(H H':Hp)(B B':BS):Prop:=∀b o,¬B b->H b=some o->¬B' b/\H' b=some o
theorem SqT'.mono(g:Gr H H' B B')(h:SqT' K H B a xs):SqT' K H' B' a xs:=g _ _ h.1 h.2
theorem SqL'.mono(g:Gr H H' B B')(h:SqL' K H B a xs):SqL' K H' B' a xs:=by
 obtain⟨n,h|⟨o,h⟩⟩:=h.at
 ·exact .inl ⟨(g _ _ n h).1,.inl (g _ _ n h).2⟩
 ·exact .inl ⟨(g _ _ n h).1,.inr ⟨o,(g _ _ n h).2⟩⟩
theorem Gr.same(s:Same H H'):Gr H H' B B:=λb o n h=>⟨n,s b o h⟩
theorem Gr.less(h:∀a,B' a->B a):Gr H H B B':=λb o n e=>⟨λz=>n (h b z),e⟩
abbrev KS:=Sum (List Key) (List (List Key))
def dOb:KS->List V->HO
 | .inl ks,xs=>.dK (ks.zip xs)
 | .inr ks,xs=>.dT (ks.zip xs)
def dLn:KS->Nat
 | .inl ks=>ks.length
 | .inr ks=>ks.length
def U90(fd:FuncData)(x y:Str)(c cd:Addr):Prop :=
 ∃p1 p2 p3,fd.body=.expr (.Subscript (.Name x p1) (.Name y p2) p3)/\fd.scope.isCoroutine=false/\fd.scope.isGenerator=false/\fd.scope.kind=.function/\fd.scope.names.lookup y=some .local/\fd.scope.names.lookup x=some .free /\
  (∀z∈fd.scope.names,z.2≠.cell)/\fd.closure=[(x,c)]/\fd.code=.ref cd/\fd.globals=mainGlobals/\(x==("__debug__" : Str))=false/\(x==("__classdict__" : Str))=false/\(y==("__debug__" : Str))=false /\
  ∀u:Value,bindArgs fd ⟨[u],[]⟩=pure [(y,u)]
def rk(n:Nat):List Key:=(List.range n).map λ(i:Nat)=>Sum.inl (i:Int)
def TelO(K:W.Frag)(H:Hp)(B:BS)(p:Addr)(kvs:List (Key×V)):Prop:=(¬B p/\H p=some (.dK kvs))∨∃xs,SqL' K H B p xs/\kvs=(rk xs.length).zip xs
theorem TelO.mono{p:Addr}{kvs:List (Key×V)}(g:Gr H H' B B')(h:TelO K H B p kvs):TelO K H' B' p kvs:=by
 rcases h with h|⟨xs,h,e⟩
 ·exact .inl (g _ _ h.1 h.2)
 ·exact .inr ⟨xs,h.mono g,e⟩
def FnAtH(K:W.Frag)(H:Hp)(B:BS)(f:Addr)(kvs:List (Key×V)):Prop :=
 ∃(oF oC oK:Obj) (fd:FuncData) (c cd p:Addr) (x y:Str),(¬B f/\H f=some (.frz oF (.own f)))/\(oF.cls=.type "function"/\oF.data=.func fd/\U90 fd x y c cd)/\(¬B c/\H c=some (.frz oC (.own c)))/\oC.data=.cell (some (.ref p)) /\
  (¬B cd/\H cd=some (.frz oK (.own cd)))/\(∃vs t,oK.data=.fields vs/\vs[1]?=some (.str fd.qualname t))/\TelO K H B p kvs
theorem FnAtH.mono{f:Addr}{kvs:List (Key×V)}(g:Gr H H' B B')(h:FnAtH K H B f kvs):FnAtH K H' B' f kvs:=by
 obtain⟨oF,oC,oK,fd,c,cd,p,x,y,⟨b1,h1⟩,a,⟨b2,h2⟩,e,⟨b3,h3⟩,q,h4⟩:=h;exact⟨oF,oC,oK,fd,c,cd,p,x,y,g _ _ b1 h1,a,g _ _ b2 h2,e,g _ _ b3 h3,q,h4.mono g⟩
mutual
def Rp(K:W.Frag)(H:Hp)(B:BS):D->V->Prop
 | .non,v=>v=.non
 | .bl b,v=>v=.bl b
 | .int i,v=>v=.int i
 | .str x,v=>v=.str x
 | .tup ds,v=>∃a xs,v=.ref a/\SqT' K H B a xs/\Rps K H B ds xs
 | .lst ds,v=>∃a xs,v=.ref a/\SqL' K H B a xs/\Rps K H B ds xs
 | .dct ks ds,v=>∃a xs,v=.ref a/\¬B a/\H a=some (dOb ks xs)/\dLn ks=xs.length/\Rps K H B ds xs
 | .fn ks ds,v=>∃a xs,v=.ref a/\FnAtH K H B a (ks.zip xs)/\ks.length=xs.length/\Rps K H B ds xs
def Rps(K:W.Frag)(H:Hp)(B:BS):List D->List V->Prop
 | [],xs=>xs=[]
 | d::ds,xs=>∃x r,xs=x::r/\Rp K H B d x/\Rps K H B ds r
end
mutual
theorem Rp.mono(g:Gr H H' B B'):∀{d:D} {v:V},Rp K H B d v->Rp K H' B' d v
 | .non,_,h=>by unfold Rp at h ⊢;exact h
 | .bl _,_,h=>by unfold Rp at h ⊢;exact h
 | .int _,_,h=>by unfold Rp at h ⊢;exact h
 | .str _,_,h=>by unfold Rp at h ⊢;exact h
 | .tup ds,_,h=>by
  unfold Rp at h ⊢;obtain⟨a,xs,e,q,r⟩:=h;exact⟨a,xs,e,q.mono g,Rps.mono g r⟩
 | .lst ds,_,h=>by
  unfold Rp at h ⊢;obtain⟨a,xs,e,q,r⟩:=h;exact⟨a,xs,e,q.mono g,Rps.mono g r⟩
 | .dct ks ds,_,h=>by
  unfold Rp at h ⊢;obtain⟨a,xs,e,n,q,l,r⟩:=h;exact⟨a,xs,e,(g _ _ n q).1,(g _ _ n q).2,l,Rps.mono g r⟩
 | .fn ks ds,_,h=>by
  unfold Rp at h ⊢;obtain⟨a,xs,e,q,l,r⟩:=h;exact⟨a,xs,e,q.mono g,l,Rps.mono g r⟩
theorem Rps.mono(g:Gr H H' B B'):∀{ds:List D} {xs:List V},Rps K H B ds xs->Rps K H' B' ds xs
 | [],_,h=>by unfold Rps at h ⊢;exact h
 | d::ds,_,h=>by
  unfold Rps at h ⊢;obtain⟨x,r,e,h1,h2⟩:=h;exact⟨x,r,e,Rp.mono g h1,Rps.mono g h2⟩
end
section
variable{v:V}
theorem X5:Rp K H B .non v=(v=.non):=by unfold Rp;rfl
theorem Y5{b:Bool}:Rp K H B (.bl b) v=(v=.bl b):=by unfold Rp;rfl
theorem o9{i:Int}:Rp K H B (.int i) v=(v=.int i):=by unfold Rp;rfl
theorem c7:Rp K H B (.str x) v=(v=.str x):=by unfold Rp;rfl
theorem Z4:Rp K H B (.tup ds) v=∃a xs,v=.ref a/\SqT' K H B a xs/\Rps K H B ds xs:=by conv=>lhs;unfold Rp
theorem Z8:Rp K H B (.lst ds) v=∃a xs,v=.ref a/\SqL' K H B a xs/\Rps K H B ds xs:=by conv=>lhs;unfold Rp
theorem vy0{ks:KS}:Rp K H B (.dct ks ds) v=∃a xs,v=.ref a/\¬B a/\H a=some (dOb ks xs)/\dLn ks=xs.length/\Rps K H B ds xs:=by conv=>lhs;unfold Rp
theorem cz0:Rp K H B (.fn ks ds) v=∃a xs,v=.ref a/\FnAtH K H B a (ks.zip xs)/\ks.length=xs.length/\Rps K H B ds xs:=by conv=>lhs;unfold Rp
theorem ul0:Rp K H B (.dct (.inl ks) ds) v=∃a xs,v=.ref a/\¬B a/\H a=some (.dK (ks.zip xs))/\ks.length=xs.length/\Rps K H B ds xs:=vy0
theorem pr0{ks:List (List Key)}:Rp K H B (.dct (.inr ks) ds) v=∃a xs,v=.ref a/\¬B a/\H a=some (.dT (ks.zip xs))/\ks.length=xs.length/\Rps K H B ds xs:=vy0
theorem o6:Rps K H B [] xs=(xs=[]):=by unfold Rps;rfl
theorem p8{d:D}:Rps K H B (d::ds) xs=∃x r,xs=x::r/\Rp K H B d x/\Rps K H B ds r:=by conv=>lhs;unfold Rps
theorem Rps.length:∀{ds:List D} {xs:List V},Rps K H B ds xs->xs.length=ds.length
 | [],_,h=>by rw[o6] at h;subst h;rfl
 | d::ds,_,h=>by
  rw[p8] at h;obtain⟨x,r,rfl,_,h2⟩:=h;simp[Rps.length h2]
theorem Rps.get:∀{ds:List D} {xs:List V} {i:Nat} {d:D},Rps K H B ds xs->ds[i]?=some d->∃x,xs[i]?=some x/\Rp K H B d x
 | [],_,_,_,_,e=>by simp at e
 | d::ds,_,0,d',h,e=>by
  rw[p8] at h;obtain⟨x,r,rfl,h1,_⟩:=h;simp at e;subst e;exact⟨x,rfl,h1⟩
 | d::ds,_,i+1,d',h,e=>by
  rw[p8] at h;obtain⟨x,r,rfl,_,h2⟩:=h;obtain⟨y,e1,e2⟩:=Rps.get (i:=i) h2 (by simpa using e);exact⟨y,by simpa using e1,e2⟩
theorem Rps.snoc:∀{ds:List D} {xs:List V} {d:D} {x:V},Rps K H B ds xs->Rp K H B d x->Rps K H B (ds++[d]) (xs++[x])
 | [],_,_,_,h,r=>by
  rw[o6] at h;subst h;rw[List.nil_append,List.nil_append,p8];exact⟨_,[],rfl,r,by rw[o6]⟩
 | d::ds,_,_,_,h,r=>by
  rw[p8] at h;obtain⟨y,t,rfl,h1,h2⟩:=h;rw[List.cons_append,List.cons_append,p8];exact⟨y,_,rfl,h1,Rps.snoc h2 r⟩
theorem Rps.append:∀{ds es:List D} {xs ys:List V},Rps K H B ds xs->Rps K H B es ys->Rps K H B (ds++es) (xs++ys)
 | [],_,_,_,h,r=>by rw[o6] at h;subst h;exact r
 | d::ds,_,_,_,h,r=>by
  rw[p8] at h;obtain⟨y,t,rfl,h1,h2⟩:=h;rw[List.cons_append,List.cons_append,p8];exact⟨y,_,rfl,h1,Rps.append h2 r⟩
theorem Rps.drop:∀{ds:List D} {xs:List V} (n:Nat),Rps K H B ds xs->Rps K H B (ds.drop n) (xs.drop n)
 | _,_,0,h=>h
 | [],_,n+1,h=>by rw[o6] at h;subst h;simpa [o6]
 | d::ds,_,n+1,h=>by
  rw[p8] at h;obtain⟨y,t,rfl,h1,h2⟩:=h
  simpa using Rps.drop n h2
theorem Rps.take:∀{ds:List D} {xs:List V} (n:Nat),Rps K H B ds xs->Rps K H B (ds.take n) (xs.take n)
 | _,_,0,h=>by simp[o6]
 | [],_,n+1,h=>by rw[o6] at h;subst h;simp[o6]
 | d::ds,_,n+1,h=>by
  rw[p8] at h;obtain⟨y,t,rfl,h1,h2⟩:=h;rw[List.take_succ_cons,List.take_succ_cons,p8];exact⟨y,_,rfl,h1,Rps.take n h2⟩
theorem Rps.same(s:Same H H')(h:Rps K H B ds xs):Rps K H' B ds xs:=Rps.mono (Gr.same s) h
theorem Rp.same{d:D}{v:V}(s:Same H H')(h:Rp K H B d v):Rp K H' B d v:=Rp.mono (Gr.same s) h
end
def RpO(K:W.Frag)(H:Hp)(B:BS)(d:D)(a:Addr):Prop:=match d with
 | .lst ds=>∃xs,H a=some (.lst xs)/\Rps K H B ds xs
 | .dct ks ds=>∃xs,H a=some (dOb ks xs)/\dLn ks=xs.length/\Rps K H B ds xs
 | _=>False
theorem RpO.same{d:D}(s:Same H H')(h:RpO K H B d a):RpO K H' B d a:=by
 cases d<;>try exact h.elim
 ·obtain⟨xs,e,r⟩:=h;exact⟨xs,s _ _ e,r.same s⟩
 ·obtain⟨xs,e,l,r⟩:=h;exact⟨xs,s _ _ e,l,r.same s⟩
theorem RpO.rp{d:D}(l:∀a,B' a->B a)(n:¬B' a)(h:RpO K H B d a):Rp K H B' d (.ref a):=by
 cases d<;>try exact h.elim
 ·obtain⟨xs,e,r⟩:=h
  rw[Z8];exact⟨a,xs,rfl,.inl ⟨n,.inl e⟩,r.mono (Gr.less l)⟩
 ·obtain⟨xs,e,q,r⟩:=h
  rw[vy0];exact⟨a,xs,rfl,n,e,q,r.mono (Gr.less l)⟩
theorem RpO.live{d:D}(h:RpO K H B d a):NB (H a):=by
 cases d<;>try exact h.elim
 ·obtain⟨xs,e,r⟩:=h;exact .of e (λ_ _=>λz=>nomatch z) λ_=>λz=>nomatch z
 ·obtain⟨xs,e,q,r⟩:=h;refine .of e (λ_ _ z=>?_) λ_ z=>?_<;>(unfold dOb at z;split at z<;>cases z)
mutual
def toT:D->Option TrK.T
 | .non=>some .non
 | .int i=>some (.int i)
 | .str x=>some (.str x)
 | .tup ds=>(U9 ds).map .tup
 | _=>none
def U9:List D->Option (List TrK.T)
 | []=>some []
 | d::ds=>(toT d).bind λt=>(U9 ds).map λl=>t::l
end
def RpX(K:W.Frag)(H:Hp)(B:BS)(ks vs:List D)(a:Addr):Prop:=∃ts xs,U9 ks=some ts/\H a=some (.dX (ts.zip xs))/\ts.length=xs.length/\Rps K H B vs xs
def RpL(K:W.Frag)(H:Hp)(B:BS)(d:D)(a:Addr):Prop:=match d with
 | .tup es=>(∃ds,es=[.int (a:Int),.lst ds]/\∃xs,H a=some (.lst xs)/\Rps K H B ds xs)∨∃ks vs,es=[.lst ks,.lst vs]/\RpX K H B ks vs a
 | d=>RpO K H B d a
theorem RpO.toL{d:D}(h:RpO K H B d a):RpL K H B d a:=by
 cases d with
 | tup es=>exact(show False from h).elim
 | _=>exact h
theorem RpL.toO{d:D}(n:isL d=false)(h:RpL K H B d a):RpO K H B d a:=by
 cases d with
 | tup es=>cases n
 | _=>exact h
theorem RpL.same{d:D}(s:Same H H')(h:RpL K H B d a):RpL K H' B d a:=by
 cases d with
 | tup es =>
  rcases h with⟨ds,q,xs,e,r⟩|⟨ks,vs,q,ts,xs,q1,e,q2,r⟩
  ·exact .inl ⟨ds,q,xs,s _ _ e,r.same s⟩
  ·exact .inr ⟨ks,vs,q,ts,xs,q1,s _ _ e,q2,r.same s⟩
 | _=>exact(RpO.same s (RpL.toO rfl h)).toL
theorem RpL.live{d:D}(h:RpL K H B d a):NB (H a):=by
 cases d with
 | tup es =>
  rcases h with⟨ds,q,xs,e,r⟩|⟨ks,vs,q,ts,xs,q1,e,q2,r⟩
  ·exact .of e (λ_ _=>λz=>nomatch z) λ_=>λz=>nomatch z
  ·exact .of e (λ_ _=>λz=>nomatch z) λ_=>λz=>nomatch z
 | _=>exact RpO.live (RpL.toO rfl h)
theorem RpL.plain{d:D}(h:RpL K H B d a):∀o xs,H a≠some (.frz o (.lst xs)):=by
 intro o ys z;cases d with
 | tup es=>rcases h with⟨ds,q,xs,e,r⟩|⟨ks,vs,q,ts,xs,q1,e,q2,r⟩<;>(rw[e] at z;cases z)
 | lst ds=>obtain⟨xs,e,r⟩:=(RpL.toO rfl h);rw[e] at z;cases z
 | dct ks ds =>
  obtain⟨xs,e,r⟩:=(RpL.toO rfl h);rw[e] at z;unfold dOb at z;split at z<;>cases z
 | _=>exact(RpL.toO rfl h).elim
def Tk0(a C:Addr)(od:Option Addr):Heap->Prop:=λh=>∃oe,h.get? a=some oe/\oe.cls=.ref C/\(∀dx,od=some dx->oe.dict=some dx)/\∃vs,oe.data=.fields vs
def Tm0(H:Hp)(B:BS)(od:Option Addr):Option Int->Prop
 | none=>True
 | some n=>∃dx,od=some dx/\¬B dx/\H dx=some (.xd [("at",.int n)])
def XcR(K:W.Frag)(H:Hp)(B:BS)(c:Str)(n:Option Int)(a:Addr):Prop:=∃C od,¬B a/\H a=some (.ext (Tk0 a C od))/\W.nsIn K mainGlobals c=some (some (.ref C))/\Tm0 H B od n
theorem XcR.mono{c:Str}{n:Option Int}(g:Gr H H' B B')(h:XcR K H B c n a):XcR K H' B' c n a:=by
 obtain⟨C,od,h1,h2,h3,h4⟩:=h;refine⟨C,od,(g _ _ h1 h2).1,(g _ _ h1 h2).2,h3,?_⟩;cases n with
 | none=>trivial
 | some n=>obtain⟨dx,e,q1,q2⟩:=h4;exact⟨dx,e,(g _ _ q1 q2).1,(g _ _ q1 q2).2⟩
def SlR(K:W.Frag)(H:Hp)(B:BS)(o:Option V):Sl->Prop
 | .un=>True
 | .sh d=>∃v,o=some v/\Rp K H B d v
 | .ow d=>∃a,o=some (.ref a)/\B a/\RpL K H B d a
 | .ex c n=>∃a,o=some (.ref a)/\XcR K H B c n a
theorem Pd.get{F:α->β->Prop}:∀{l:List α} {m:List β} {i:Nat} {b:β},Paired F l m->m[i]?=some b->∃a,l[i]?=some a/\F a b
 | _,_,_,_,.nil,e=>by simp at e
 | _,_,0,_,.cons r _,e=>by simp at e;subst e;exact⟨_,rfl,r⟩
 | _,_,i+1,b,.cons _ t,e=>by
  obtain⟨u,h1,h2⟩:=Pd.get (i:=i) (b:=b) t (by simpa using e);exact⟨u,by simpa using h1,h2⟩
theorem Pd.imp{F G:α->β->Prop}(h:∀a b,F a b->G a b):∀{l:List α} {m:List β},Paired F l m->Paired G l m
 | _,_,.nil=>.nil
 | _,_,.cons r t=>.cons (h _ _ r) (Pd.imp h t)
theorem Pd.set{F:α->β->Prop}{a:α}{b:β}(r:F a b):∀{l:List α} {m:List β} (i:Nat),Paired F l m->Paired F (l.set i a) (m.set i b)
 | _,_,_,.nil=>.nil
 | _,_,0,.cons _ t=>.cons r t
 | _,_,i+1,.cons q t=>.cons q (Pd.set r i t)
theorem Pd.app{F:α->β->Prop}:∀{l l':List α} {m m':List β},Paired F l m->Paired F l' m'->Paired F (l++l') (m++m')
 | _,_,_,_,.nil,s=>s
 | _,_,_,_,.cons r t,s=>.cons r (Pd.app t s)
structure Env(K:W.Frag)(H:Hp)(B:BS)(σ:St)(δ:Ds):Prop where
 all:Paired (SlR K H B) σ δ
 bad:∀a,B a->NB (H a)
 own:∀(i j:Nat) (a:Addr) (ds es:D),δ[i]?=some (.ow ds)->δ[j]?=some (.ow es)->σ[i]?=some (some (.ref a))->σ[j]?=some (some (.ref a))->i=j
section
variable{σ σ':St}
theorem SlR.same{o:Option V}{s:Sl}(q:Same H H')(h:SlR K H B o s):SlR K H' B o s:=by
 cases s with
 | un=>trivial
 | sh d=>obtain⟨v,e,r⟩:=h;exact⟨v,e,r.same q⟩
 | ow d=>obtain⟨a,e,b,r⟩:=h;exact⟨a,e,b,r.same q⟩
 | ex c n=>obtain⟨a,e,r⟩:=h;exact⟨a,e,r.mono (Gr.same q)⟩
theorem Env.same(q:Same H H')(e:Env K H B σ δ):Env K H' B σ δ :=
 ⟨Pd.imp (λ_ _ h=>h.same q) e.all,(λa b=>(e.bad a b).same q),e.own⟩
theorem Env.free(e:Env K H B σ δ){p:Addr}(h:H p=none):¬B p:=λz=>e.bad p z h
theorem Env.get(e:Env K H B σ δ){d:D}(h:δ[i]?=some (.sh d)):∃v,σ[i]?=some (some v)/\Rp K H B d v:=by
 obtain⟨o,h1,v,rfl,r⟩:=Pd.get e.all h;exact⟨v,h1,r⟩
theorem Env.set(e:Env K H B σ δ)(i:Nat){d:D}{v:V}(r:Rp K H B d v):Env K H B (σ.set i (some v)) (δ.set i (.sh d)):=by
 refine⟨Pd.set ⟨v,rfl,r⟩ i e.all,e.bad,λj k a ds es h1 h2 h3 h4=>?_⟩;have hj:j≠i:=by
  rintro rfl
  by_cases hl:j<δ.length
  ·rw[List.getElem?_set_self hl] at h1;cases h1
  ·rw[List.getElem?_eq_none (by simpa using hl)] at h1;cases h1
 have hk:k≠i:=by
  rintro rfl
  by_cases hl:k<δ.length
  ·rw[List.getElem?_set_self hl] at h2;cases h2
  ·rw[List.getElem?_eq_none (by simpa using hl)] at h2;cases h2
 rw[List.getElem?_set_ne (B6 hj)] at h1 h3;rw[List.getElem?_set_ne (B6 hk)] at h2 h4;exact e.own j k a ds es h1 h2 h3 h4
end
theorem b7{p:Addr}{o:HO}(h:H p=none)(hz:∀ob xs,o≠.frz ob (.lst xs):=by intro _ _ z;cases z):Same H (upd H p o):=⟨λb u e=>by rw[j7 (T4 e h)];exact e,λb ob xs e=>by
 by_cases z:b=p
 ·subst z
  rw[m8] at e;exact absurd (A8 e) (hz ob xs)
 ·rw[j7 z] at e;exact e⟩
def tD(K:W.Frag)(B:BS)(δ:Ds)(g:Ds->Option D):TE:=fun σ H Q=>∃d,Env K H B σ δ/\g δ=some d/\∀v H',Same H H'->Rp K H' B d v->Q v H'
structure PD(X:Cx)(e:Expr)(g:Ds->Option D):Prop where
 mk::go:∀B δ,PE X e (tD X.K B δ g)
instance{X:Cx}{e:Expr}{g:Ds->Option D}:CoeFun (PD X e g) (λ_=>∀B δ,PE X e (tD X.K B δ g)):=⟨PD.go⟩
def tDT(K:W.Frag)(B:BS)(δ:Ds)(g:Ds->Option Bool):TT:=fun σ H Q=>∃b,Env K H B σ δ/\g δ=some b/\∀H',Same H H'->Q b H'
structure PTD(X:Cx)(e:Expr)(g:Ds->Option Bool):Prop where
 mk::go:∀B δ,PT X e (tDT X.K B δ g)
instance{X:Cx}{e:Expr}{g:Ds->Option Bool}:CoeFun (PTD X e g) (λ_=>∀B δ,PT X e (tDT X.K B δ g)):=⟨PTD.go⟩
structure PWD(X:Cx)(e:Expr)(g:Ds->Option Bool):Prop where
 mk::go:∀B δ,PW X e (tDT X.K B δ g)
instance{X:Cx}{e:Expr}{g:Ds->Option Bool}:CoeFun (PWD X e g) (λ_=>∀B δ,PW X e (tDT X.K B δ g)):=⟨PWD.go⟩
def tDA(K:W.Frag)(B:BS)(δ:Ds)(g:Ds->Option (List D)):TA:=fun σ H Q=>∃ds,Env K H B σ δ/\g δ=some ds/\∀vs H',Same H H'->Rps K H' B ds vs->Q vs H'
structure PDA(X:Cx)(es:List Expr)(g:Ds->Option (List D)):Prop where
 mk::go:∀B δ,PA X es (tDA X.K B δ g)
instance{X:Cx}{es:List Expr}{g:Ds->Option (List D)}:CoeFun (PDA X es g) (λ_=>∀B δ,PA X es (tDA X.K B δ g)):=⟨PDA.go⟩
theorem e20{d:D}{b:Bool}(h:asB d=some b):d=.bl b:=by
 cases d<;>simp[asB] at h
 subst h;rfl
def Op2(K:W.Frag)(r:R2)(f:D->D->Option D):Prop:=∀(H:Hp) (B:BS) (x y:V) (dx dy d:D) (Q:VK),(∀a,B a->NB (H a))->Rp K H B dx x->Rp K H B dy y->f dx dy=some d->(∀v H',Same H H'->Rp K H' B d v->Q v H')->r x y H Q
def FnR(K:W.Frag)(r:List V->Hp->VK->Prop)(f:List D->Option D):Prop:=∀(H:Hp) (B:BS) (xs:List V) (ds:List D) (d:D) (Q:VK),(∀a,B a->NB (H a))->Rps K H B ds xs->f ds=some d->(∀v H',Same H H'->Rp K H' B d v->Q v H')->r xs H Q
section
variable{a:Expr}{ga:Ds->Option D}{gu:Ds->Option Bool}{rest:List Expr}
theorem _root_.L2.PE.imp{t t':TE}(h:PE X e t)(q:∀σ H Q,t' σ H Q->t σ H Q):PE X e t':=λpins s σ H Q I z=>h pins s σ H Q I (q σ H Q z)
theorem _root_.L2.PT.imp{t t':TT}(h:PT X e t)(q:∀σ H Q,t' σ H Q->t σ H Q):PT X e t':=λpins s σ H Q I z=>h pins s σ H Q I (q σ H Q z)
theorem _root_.L2.PW.imp{t t':TT}(h:PW X e t)(q:∀σ H Q,t' σ H Q->t σ H Q):PW X e t':=λw pins s σ H Q I z=>h w pins s σ H Q I (q σ H Q z)
theorem _root_.L2.PA.imp{t t':TA}(h:PA X es t)(q:∀σ H Q,t' σ H Q->t σ H Q):PA X es t':=λp pins s σ H Q I z=>h p pins s σ H Q I (q σ H Q z)
theorem pc0{d:D}(h:gv i δ=some d):δ[i]?=some (.sh d):=by
 unfold gv at h;split at h
 ·cases h;assumption
 ·cases h
theorem z9(i:Nat)(hN:X.N[i]?=some x:=by rfl)(hv:Vis X.env.scope x:=by first|exact Or.inl rfl|exact Or.inr (Or.inl rfl)|exact Or.inr (Or.inr rfl))(hd:(x==("__debug__" : Str))=false:=by decide)
  (hcd:(x==("__classdict__" : Str))=false:=by decide):PD X (.Name x pos) (gv i):=.mk λB δ=>(G8 (i:=i) hN hv hd hcd).imp fun σ H Q ⟨d,en,h,k⟩=>by
 obtain⟨v,e,r⟩:=en.get (pc0 h);exact⟨v,e,k v H (Same.refl H) r⟩
theorem v9{i:Int}:PD X (.Constant (.int i) j pos) (gc (.int i)):=.mk λB δ=>Xa0.imp fun σ H Q ⟨d,en,h,k⟩=>by cases h;exact k _ H (Same.refl H) (by rw[o9])
theorem yq0{i:Bool}:PD X (.Constant (.bool i) j pos) (gc (.bl i)):=.mk λB δ=>Um0.imp fun σ H Q ⟨d,en,h,k⟩=>by cases h;exact k _ H (Same.refl H) (by rw[Y5])
theorem vu0:PD X (.Constant .none j pos) (gc .non):=.mk λB δ=>W20.imp fun σ H Q ⟨d,en,h,k⟩=>by cases h;exact k _ H (Same.refl H) (by rw[X5])
theorem g8:PD X (.Constant (.str x) j pos) (gc (.str x)):=.mk λB δ=>W50.imp fun σ H Q ⟨d,en,h,k⟩=>by cases h;exact k _ H (Same.refl H) (by rw[c7])
theorem pa0{r:R2}{f:D->D->Option D}(hf:Op2 K r f){σ:St}{Q:VK}(h:tD K B δ (o2 ga gb f) σ H Q):tOp r (tD K B δ ga) (tD K B δ gb) σ H Q:=by
 obtain⟨d,en,h,k⟩:=h;unfold o2 at h;cases e1:ga δ with
 | none=>rw[e1] at h;cases h
 | some x =>
  cases e2:gb δ with
  | none=>rw[e1,e2] at h;cases h
  | some y =>
   rw[e1,e2] at h;refine⟨x,en,e1,λv1 H1 s1 r1=>⟨y,en.same s1,e2,λv2 H2 s2 r2=>?_⟩⟩;exact hf H2 B v1 v2 x y d Q ((en.same s1).same s2).bad (r1.same s2) r2 h λv H' s r=>k v H' ((s1.trans s2).trans s) r
theorem us0{op:Operator}{r:R2}{f:D->D->Option D}(ho:OpR X (binaryOp op) r)(hf:Op2 X.K r f)(ha:PD X a ga)(hb:PD X b gb):PD X (.BinOp a op b pos) (o2 ga gb f):=.mk λB δ=>(Vx0 ho (ha B δ) (hb B δ)).imp fun σ H Q h=>pa0 hf h
theorem kg0{op:CmpOp}{r:R2}{f:D->D->Option D}(ho:OpR X (compareOp op) r)(hf:Op2 X.K r f)(ha:PD X a ga)(hb:PD X b gb)(hm:behindInMarks op b=false:=by first|exact et0 _|with_unfolding_all rfl):PD X (.Compare a [op] [b] pos) (o2 ga gb f) :=
 .mk λB δ=>(a90 ho (ha B δ) (hb B δ) hm).imp fun σ H Q h=>pa0 hf h
theorem U40{r:R2}{f:D->D->Option D}(ho:IxR X r)(hf:Op2 X.K r f)(ha:PD X a ga)(hb:PD X b gb)(hs:px0 b:=by exact λ_ _=>rfl):PD X (.Subscript a b pos) (o2 ga gb f) :=
 .mk λB δ=>(Uo0 ho (ha B δ) (hb B δ) hs).imp fun σ H Q h=>pa0 hf h
theorem m7{op:CmpOp}{r:R2}{f:D->D->Option D}(ho:OpR X (compareOp op) r)(hf:Op2 X.K r f)(ha:PD X a ga)(hb:PD X b gb)(hm:behindInMarks op b=false:=by first|exact et0 _|with_unfolding_all rfl):PTD X (.Compare a [op] [b] pos) (ob (o2 ga gb f)) :=
 .mk λB δ=>(Zl0 ho (ha B δ) (hb B δ) hm).imp fun σ H Q ⟨t,en,h,k⟩=>by
  unfold ob at h;cases e:o2 ga gb f δ with
  | none=>rw[e] at h;cases h
  | some d =>
   rw[e] at h;cases e20 h;exact pa0 hf ⟨_,en,e,λv H' s r=>⟨t,by rw[Y5] at r;exact r,k H' s⟩⟩
theorem Q3(h:PD X e g)(he:∀whole,isTrue e X.env whole=(do let v ← whole;standAt e.pos;holding [v] (truthy v)):=by intro _;rfl):PTD X e (ob g) :=
 .mk λB δ=>(Wp0 (h B δ) he).imp fun σ H Q ⟨t,en,h,k⟩=>by
  unfold ob at h;cases e:g δ with
  | none=>rw[e] at h;cases h
  | some d =>
   rw[e] at h;cases e20 h;exact⟨_,en,e,λv H' s r=>⟨t,by rw[Y5] at r;exact r,k H' s⟩⟩
theorem ss0(h:PTD X a gt):PTD X (.UnaryOp .Not a pos) (xx0 gt) :=
 .mk λB δ=>(X30 (h B δ)).imp fun σ H Q ⟨t,en,h,k⟩=>by
  unfold xx0 at h;cases e:gt δ with
  | none=>rw[e] at h;cases h
  | some b =>
   rw[e] at h;cases h;exact⟨b,en,e,λH' s=>k H' s⟩
theorem lb0(h:PTD X a gt):PWD X (.BoolOp .And [a] pos) gt:=.mk λB δ=>Zr0 (h B δ)
theorem wj0(h:PTD X a gt):PWD X (.BoolOp .Or [a] pos) gt:=.mk λB δ=>Wb0 (h B δ)
theorem j10(ha:PTD X a gt)(hb:PWD X (.BoolOp .And (b::rest) pos) gu):PWD X (.BoolOp .And (a::b::rest) pos) (wb0 gt gu) :=
 .mk λB δ=>(Yq0 (ha B δ) (hb B δ)).imp fun σ H Q ⟨t,en,h,k⟩=>by
  unfold wb0 at h;cases e:gt δ with
  | none=>rw[e] at h;cases h
  | some b =>
   rw[e] at h;refine⟨b,en,e,λH' s=>?_⟩;cases b with
   | true=>exact⟨t,en.same s,h,λJ s'=>k J (s.trans s')⟩
   | false =>
    simp at h;subst h;rw[if_neg B3];exact k H' s
theorem wy0(ha:PTD X a gt)(hb:PWD X (.BoolOp .Or (b::rest) pos) gu):PWD X (.BoolOp .Or (a::b::rest) pos) (yf0 gt gu) :=
 .mk λB δ=>(Vi0 (ha B δ) (hb B δ)).imp fun σ H Q ⟨t,en,h,k⟩=>by
  unfold yf0 at h;cases e:gt δ with
  | none=>rw[e] at h;cases h
  | some b =>
   rw[e] at h;refine⟨b,en,e,λH' s=>?_⟩;cases b with
   | false=>exact⟨t,en.same s,h,λJ s'=>k J (s.trans s')⟩
   | true =>
    simp at h;subst h;rw[if_pos rfl];exact k H' s
theorem PWD.pt(h:PWD X e gt):PTD X e gt:=.mk λB δ=>(h B δ).pt
theorem Wf0{op}(h:PD X a g):PD X (.BoolOp op [a] pos) g:=.mk λB δ=>Xj0 (h B δ)
theorem U10(ha:PD X a ga)(hb:PD X (.BoolOp .Or (b::rest) pos) gb):PD X (.BoolOp .Or (a::b::rest) pos) (orG ga gb) :=
 .mk λB δ=>(Un0 (ha B δ) (hb B δ)).imp fun σ H Q ⟨d,en,h,k⟩=>by
  unfold orG ob at h;cases e:ga δ with
  | none=>rw[e] at h;cases h
  | some x =>
   rw[e] at h;refine⟨x,en,e,λv H' s r=>?_⟩;cases x with
   | bl c =>
    rw[Y5] at r;refine⟨c,r,?_⟩;cases c with
    | false=>exact⟨d,en.same s,h,λv J s'=>k v J (s.trans s')⟩
    | true =>
     simp[asB] at h;rw[if_pos rfl];exact k _ H' s (by rw[← h,Y5])
   | _=>simp[asB] at h
theorem Ua0(hc:PTD X c gt)(ha:PD X a ga)(hb:PD X b gb):PD X (.IfExp c a b pos) (ifG gt ga gb) :=
 .mk λB δ=>(ch0 (hc B δ) (ha B δ) (hb B δ)).imp fun σ H Q ⟨d,en,h,k⟩=>by
  unfold ifG at h;cases e:gt δ with
  | none=>rw[e] at h;cases h
  | some t =>
   rw[e] at h;refine⟨t,en,e,λH' s=>?_⟩;cases t with
   | true=>exact⟨d,en.same s,h,λv J s'=>k v J (s.trans s')⟩
   | false=>exact⟨d,en.same s,h,λv J s'=>k v J (s.trans s')⟩
theorem v7:PDA X [] v6:=.mk λB δ=>yx0.imp fun σ H Q ⟨ds,en,h,k⟩=>by cases h;exact k [] H (Same.refl H) (by rw[o6])
theorem w6(ha:PD X e g)(hr:PDA X es gA)(hs:starEach (e::es) X.env=(false,eval e X.env)::starEach es X.env:=by rfl):PDA X (e::es) (z8 g gA) :=
 .mk λB δ=>(K3 (ha B δ) (hr B δ) hs).imp fun σ H Q ⟨ds,en,h,k⟩=>by
  unfold z8 at h;cases e1:g δ with
  | none=>rw[e1] at h;cases h
  | some d =>
   cases e2:gA δ with
   | none=>rw[e1,e2] at h;cases h
   | some es' =>
    rw[e1,e2] at h;cases h;refine⟨d,en,e1,λv H1 s1 r1=>⟨es',en.same s1,e2,λvs H2 s2 r2=>k _ H2 (s1.trans s2) ?_⟩⟩;rw[p8];exact⟨v,vs,rfl,r1.same s2,r2⟩
theorem X6{x1}(h:PDA X es gA):PD X (.Tuple es x1 pos) (Y4 gA) :=
 .mk λB δ=>(V70 (h B δ)).imp fun σ H Q ⟨d,en,h,k⟩=>by
  unfold Y4 at h;cases e1:gA δ with
  | none=>rw[e1] at h;cases h
  | some ds =>
   rw[e1] at h
   by_cases hl:ds.length<=sizeLine
   ·simp only[Option.bind_some,if_pos hl] at h
    cases h;refine⟨ds,en,e1,λvs H1 s1 r1=>⟨by rw[r1.length];exact hl,λp hp=>k _ _ (s1.trans (b7 hp)) ?_⟩⟩;rw[Z4];exact⟨p,vs,rfl,⟨(en.same s1).free hp,m8⟩,r1.same (b7 hp)⟩
   ·simp only[Option.bind_some,if_neg hl] at h
    cases h
theorem se0(h:PDA X es gA):PD X (.List es pos) (W6 gA) :=
 .mk λB δ=>(e30 (h B δ)).imp fun σ H Q ⟨d,en,h,k⟩=>by
  unfold W6 at h;cases e1:gA δ with
  | none=>rw[e1] at h;cases h
  | some ds =>
   rw[e1] at h
   by_cases hl:ds.length<=sizeLine
   ·simp only[Option.bind_some,if_pos hl] at h
    cases h;refine⟨ds,en,e1,λvs H1 s1 r1=>⟨by rw[r1.length];exact hl,λp hp=>k _ _ (s1.trans (b7 hp)) ?_⟩⟩;rw[Z8];exact⟨p,vs,rfl,.inl ⟨(en.same s1).free hp,.inl m8⟩,r1.same (b7 hp)⟩
   ·simp only[Option.bind_some,if_neg hl] at h
    cases h
theorem mt0{r:List V->Hp->VK->Prop}{f:List D->Option D}(hf:FnR K r f){σ:St}{Q:VK}(h:tD K B δ (oA gA f) σ H Q):tCB r (tDA K B δ gA) σ H Q:=by
 obtain⟨d,en,h,k⟩:=h;unfold oA at h;cases e1:gA δ with
 | none=>rw[e1] at h;cases h
 | some ds =>
  rw[e1] at h;exact⟨ds,en,e1,λvs H1 s1 r1=>hf H1 B vs ds d Q (en.same s1).bad r1 h λv H' s r=>k v H' (s1.trans s) r⟩
theorem rw0{id:String}{p:Pos}{r:List V->Hp->VK->Prop}{f:List D->Option D}(hc:CallR X (.builtin id) r)(hf:FnR X.K r f)(hm:X.mg x=none)(hv:bootBuiltins x=some (.builtin id))(ha:PDA X (e::es) gA)(hg:Gl X x:=by rfl)
  (hn:x ≠"__name__" := by decide) (hdb:(x==("__debug__" : Str))=false:=by decide) (he:starEach (e::es) X.env=(false,eval e X.env)::starEach es X.env:=by rfl) (hpl:(backTo pos (starEach es X.env)).any (·.1)=false:=by rfl) :
  PD X (.Call (.Name x p) (e::es) [] pos) (oA gA f):=.mk λB δ=>(up0 hc hg hm hv (ha B δ) hn hdb he hpl).imp fun σ H Q h=>mt0 hf h
theorem V1{T:String}{p:Pos}{r:List V->Hp->VK->Prop}{f:List D->Option D}(hc:CallR X (.type T) r)(hf:FnR X.K r f)(hm:X.mg x=none)(hv:bootBuiltins x=some (.type T))(ha:PDA X (e::es) gA)(hg:Gl X x:=by rfl)
  (hn:x ≠"__name__" := by decide) (hdb:(x==("__debug__" : Str))=false:=by decide) (he:starEach (e::es) X.env=(false,eval e X.env)::starEach es X.env:=by rfl) (hpl:(backTo pos (starEach es X.env)).any (·.1)=false:=by rfl) :
  PD X (.Call (.Name x p) (e::es) [] pos) (oA gA f):=.mk λB δ=>(s20 hc hg hm hv (ha B δ) hn hdb he hpl).imp fun σ H Q h=>mt0 hf h
def spD(K:W.Frag)(f:List D->Option D):Sp:=λvs H Q _=>∃(B:BS) (ds:List D) (d:D),(∀a,B a->NB (H a))/\Rps K H B ds vs/\f ds=some d/\∀v H',Same H H'->Rp K H' B d v->Q v H'
theorem Z30{k:Nat}{ps:List Str}{p:Pos}{f:List D->Option D}(F:FnOk X.prog X.w X.K X.mg X.base CX0 k fa fd ps (spD X.K f))(hr:Room k X.A)(hm:X.mg x=some (.ref fa))(hk:W.keepIn X.K (.ref fa)=true)(hb:Binds X.K fd ps [])
  (ha:PDA X (e::es) gA) (hg:Gl X x:=by rfl) (hdb:(x==("__debug__" : Str))=false:=by decide) (he:starEach (e::es) X.env=(false,eval e X.env)::starEach es X.env:=by rfl) (hpl:(backTo pos (starEach es X.env)).any (·.1)=false:=by rfl) :
  PD X (.Call (.Name x p) (e::es) [] pos) (oA gA f):=.mk λB δ=>(uh0 (E:=E0) F hr hg hm hk hb .nil qz0 (ha B δ) hdb he hpl).imp fun σ H Q h=>by
 obtain⟨d,en,h,k⟩:=h;unfold oA at h;cases e1:gA δ with
 | none=>rw[e1] at h;cases h
 | some ds =>
  rw[e1] at h;refine⟨ds,en,e1,λvs H1 s1 r1=>?_⟩;show spD X.K f (vs++[]) H1 Q E0;rw[List.append_nil];exact⟨B,ds,d,(en.same s1).bad,r1,h,λv H' s r=>k v H' (s1.trans s) r⟩
end
end DL
variable{B B' B₀:DL.BS}
namespace DL
open Spec PyProof.Rows L2
structure EnvS(K:W.Frag)(H₀:Hp)(B₀:BS)(H:Hp)(σ:St)(δ:Ds):Prop where
 same:Same H₀ H
 ex:∃B:BS,(∀a,B₀ a->B a)/\(∀a,B a->B₀ a∨H₀ a=none)/\Env K H B σ δ
 fr:∀(i:Nat) (ds:D) (a:Addr),δ[i]?=some (.ow ds)->σ[i]?=some (some (.ref a))->H₀ a=none
 b0:∀a,B₀ a->NB (H₀ a)
def S90(K:W.Frag)(H₀:Hp)(B₀:BS)(D:Ends):Res->Prop
 | .nx δ=>∀σ H,EnvS K H₀ B₀ H σ δ->D.nx σ H
 | .rt d=>∀v H,Same H₀ H->Rp K H B₀ d v->D.rt v H
 | .bk δ=>∀σ H,EnvS K H₀ B₀ H σ δ->D.bk σ H
 | .ct δ=>∀σ H,EnvS K H₀ B₀ H σ δ->D.ct σ H
 | .rf d=>∀p H,H₀ p=none->Same H₀ H->RpL K H (λa=>B₀ a∨a=p) d p->D.rt (.ref p) H
def tDS(K:W.Frag)(H₀:Hp)(B₀:BS)(δ:Ds)(G:Ds->Option Res):TS:=λD σ H=>∃r,EnvS K H₀ B₀ H σ δ/\G δ=some r/\S90 K H₀ B₀ D r
structure PSD(X:Cx)(st:Stmt)(G:Ds->Option Res):Prop where
 mk::go:∀H₀ B₀ δ,PS X st (tDS X.K H₀ B₀ δ G)
instance{X:Cx}{st:Stmt}{G:Ds->Option Res}:CoeFun (PSD X st G) (λ_=>∀H₀ B₀ δ,PS X st (tDS X.K H₀ B₀ δ G)):=⟨PSD.go⟩
structure PSsD(X:Cx)(st:List Stmt)(G:Ds->Option Res):Prop where
 mk::go:∀H₀ B₀ δ,PSs X st (tDS X.K H₀ B₀ δ G)
instance{X:Cx}{st:List Stmt}{G:Ds->Option Res}:CoeFun (PSsD X st G) (λ_=>∀H₀ B₀ δ,PSs X st (tDS X.K H₀ B₀ δ G)):=⟨PSsD.go⟩
section
variable{σ:St}
theorem EnvS.grow(e:EnvS K H₀ B₀ H σ δ)(s:Same H H'):EnvS K H₀ B₀ H' σ δ:=⟨e.same.trans s,let ⟨B,b1,b2,en⟩:=e.ex;⟨B,b1,b2,en.same s⟩,e.fr,e.b0⟩
end
structure Wr(idx:List Nat)(σ σ':St)(δ δ':Ds):Prop where
 len:σ'.length=σ.length
 oth:∀j,j∉idx->σ'[j]?=σ[j]?/\δ'[j]?=δ[j]?
 own:∀j∈idx,∀ds,δ'[j]?≠some (.ow ds)
def tDG(K:W.Frag)(idx:List Nat)(f:D->Ds->Option Ds)(B:BS)(d:D)(δ:Ds):TG:=λv σ H Q=>∃δ',Rp K H B d v/\Env K H B σ δ/\f d δ=some δ'/\∀σ',Wr idx σ σ' δ δ'->Env K H B σ' δ'->Q σ' H
structure PGD(X:Cx)(tg:Expr)(idx:List Nat)(f:D->Ds->Option Ds):Prop where
 mk::go:∀B d δ,PG X tg (tDG X.K idx f B d δ)
instance{X:Cx}{tg:Expr}{idx:List Nat}{f:D->Ds->Option Ds}:CoeFun (PGD X tg idx f) (λ_=>∀B d δ,PG X tg (tDG X.K idx f B d δ)):=⟨PGD.go⟩
theorem _root_.L2.PG.imp{tg:Expr}{t t':TG}(h:PG X tg t)(q:∀v σ H Q,t' v σ H Q->t v σ H Q):PG X tg t':=λpins s σ H v u Q I r z=>h pins s σ H v u Q I r (q v σ H Q z)
theorem ei0{σ:St}{v:V}{d:D}:Wr [i] σ (σ.set i (some v)) δ (δ.set i (.sh d)):=by
 refine⟨by simp,λj hj=>?_,λj hj ds h=>?_⟩
 ·have:j≠i:=by simpa using hj
  rw[List.getElem?_set_ne (B6 this),List.getElem?_set_ne (B6 this)];exact⟨rfl,rfl⟩
 ·have:j=i:=by simpa using hj
  subst this
  by_cases hl:j<δ.length
  ·rw[List.getElem?_set_self hl] at h;cases h
  ·rw[List.getElem?_eq_none (by simpa using hl)] at h;cases h
theorem p7(i:Nat){pos:Pos}(hN:X.N.Nodup)(hi:X.N[i]?=some x:=by rfl)(hx:Loc X.env.scope x:=by first|exact Or.inl rfl|exact Or.inr rfl)
  (hf:X.fn x=true∨X.env.scope.names.lookup x=some .local:=by first|exact .inl rfl|exact .inr rfl|assumption):PGD X (.Name x pos) [i] (gN i):=.mk λB d δ=>(uk0 (i:=i) hN hi hx hf).imp λv σ H Q ⟨δ',r,en,e,k⟩=>by
 cases e;exact k _ ei0 (en.set i r)
section
variable{tg:Expr}{G1 G2 Ga Gb:Ds->Option Res}{as bs:List Stmt}
theorem v8:PSsD X [] u9:=.mk λH₀ B₀ δ pins s σ H D I ⟨r,en,e,k⟩=>by
 cases e;exact Zj0 pins s σ H D I (k σ H en)
theorem z7(h1:PSD X st G1)(h2:PSsD X rest G2):PSsD X (st::rest) (v4 G1 G2):=.mk λH₀ B₀ δ pins s σ H D I ⟨r,en,e,k⟩=>by
 unfold v4 at e;cases e1:G1 δ with
 | none=>rw[e1] at e;cases e
 | some r1 =>
  rw[e1] at e;cases r1 with
  | nx δ'=>exact v30 (h1 H₀ B₀ δ) (h2 H₀ B₀ δ') pins s σ H D I ⟨_,en,e1,fun σ' H' en'=>⟨r,en',e,k⟩⟩
  | rt d=>cases e;exact v30 (h1 H₀ B₀ δ) vh0 pins s σ H D I ⟨_,en,e1,k⟩
  | bk δ'=>cases e;exact v30 (h1 H₀ B₀ δ) vh0 pins s σ H D I ⟨_,en,e1,k⟩
  | ct δ'=>cases e;exact v30 (h1 H₀ B₀ δ) vh0 pins s σ H D I ⟨_,en,e1,k⟩
  | rf d=>cases e;exact v30 (h1 H₀ B₀ δ) vh0 pins s σ H D I ⟨_,en,e1,k⟩
theorem m5(h:PD X e g):PSD X (.Return (some e) pos) (j9 g):=.mk λH₀ B₀ δ pins s σ H D I ⟨r,en,e1,k⟩=>by
 unfold j9 at e1;obtain⟨B,b1,b2,env⟩:=en.ex;cases e2:g δ with
 | none=>rw[e2] at e1;cases e1
 | some d =>
  rw[e2] at e1;cases e1;exact lj0 (h B δ) pins s σ H D I ⟨d,env,e2,λv H' s' r=>k v H' (en.same.trans s') (r.mono (Gr.less b1))⟩
theorem EnvS.wr{σ σ':St}(e:EnvS K H₀ B₀ H σ δ)(b1:∀a,B₀ a->B a)(b2:∀a,B a->B₀ a∨H₀ a=none)(s:Same H H')(w:Wr idx σ σ' δ δ')(en:Env K H' B σ' δ'):EnvS K H₀ B₀ H' σ' δ':=by
 refine⟨e.same.trans s,⟨B,b1,b2,en⟩,λi ds a h1 h2=>?_,e.b0⟩
 by_cases hi:i∈idx
 ·exact absurd h1 (w.own i hi ds)
 ·rw[(w.oth i hi).2] at h1
  rw[(w.oth i hi).1] at h2;exact e.fr i ds a h1 h2
theorem n8{f:D->Ds->Option Ds}(h:PD X e g)(hg:PGD X tg idx f)(hs:swapsWithSole [tg] e pos.line X.env=pure false:=by rfl)(hw:swappedStores [tg] e X.env=pure none:=by rfl)
  (h1:(assignEach [tg] X.env).map (·.2)=[assign tg X.env]:=by rfl):PSD X (.Assign [tg] e pos) (n6 f g):=.mk λH₀ B₀ δ pins s σ H D I ⟨r,en,e1,k⟩=>by
 unfold n6 at e1;obtain⟨B,b1,b2,env⟩:=en.ex;cases e2:g δ with
 | none=>rw[e2] at e1;cases e1
 | some d =>
  rw[e2] at e1;simp only[Option.bind_some] at e1;cases e3:f d δ with
  | none=>rw[e3] at e1;cases e1
  | some δ' =>
   rw[e3] at e1;cases e1;exact p20 (h B δ) (hg B d δ) hs hw h1 pins s σ H D I ⟨d,env,e2,λv H' s' r=>⟨δ',r,env.same s',e3,fun σ' w en'=>k σ' H' (en.wr b1 b2 s' w en')⟩⟩
theorem j5(hc:PTD X c gt)(ha:PSsD X as Ga)(hb:PSsD X bs Gb):PSD X (.If c as bs pos) (ifD gt Ga Gb):=.mk λH₀ B₀ δ pins s σ H D I ⟨r,en,e1,k⟩=>by
 unfold ifD at e1;obtain⟨B,b1,b2,env⟩:=en.ex;cases e2:gt δ with
 | none=>rw[e2] at e1;cases e1
 | some t =>
  rw[e2] at e1;refine Vr0 (hc B δ) (ha H₀ B₀ δ) (hb H₀ B₀ δ) pins s σ H D I ⟨t,env,e2,λH' s'=>?_⟩;cases t with
  | true=>exact⟨r,en.grow s',e1,k⟩
  | false=>exact⟨r,en.grow s',e1,k⟩
structure ItD(K:W.Frag)(B:BS)(J:It)(items:List D)(H₁:Hp):Prop where
 go:∀i H,Gr H₁ H B B->i<items.length->J.go i H
 yld:∀i H x H',Gr H₁ H B B->J.yld i H x H'->i<items.length->Same H H'/\∃d,items[i]?=some d/\∀B':BS,Gr H₁ H' B B'->(∀a,B' a->NB (H a))->Rp K H' B' d x
 stop:∀i H,Gr H₁ H B B->items.length<=i->J.stop i H
def tDI(K:W.Frag)(B:BS)(δ:Ds)(g:Ds->Option (List D)):TI:=fun σ H R=>∃items,Env K H B σ δ/\g δ=some items/\∀J H',Same H H'->ItD K B J items H'->R J H'
structure PID(X:Cx)(tg e:Expr)(g:Ds->Option (List D)):Prop where
 mk::go:∀B δ,PI X tg e (tDI X.K B δ g)
instance{X:Cx}{tg e:Expr}{g:Ds->Option (List D)}:CoeFun (PID X tg e g) (λ_=>∀B δ,PI X tg e (tDI X.K B δ g)):=⟨PID.go⟩
theorem _root_.L2.PI.imp{t t':TI}(h:PI X tg e t)(q:∀σ H R,t' σ H R->t σ H R):PI X tg e t':=λpins s σ H R I z=>h pins s σ H R I (q σ H R z)
theorem R5(h:PD X e g):PID X tg e (K1 g):=.mk λB δ=>L2.PI.imp (Zt0 (h B δ)) fun σ H R ⟨items,en,e1,k⟩=>by
 unfold K1 at e1;cases e2:g δ with
 | none=>rw[e2] at e1;cases e1
 | some d =>
  rw[e2] at e1;cases d<;>simp[sl0] at e1
  subst e1;refine⟨_,en,e2,λv H' s' r=>?_⟩;rw[Z8] at r;obtain⟨a,xs,rfl,q,rs⟩:=r;refine⟨a,rfl,⟨xs,q.to⟩,k _ H' s' ⟨λi H2 g2 hi=>?_,λi H2 x H3 g2 y hi=>?_,λi H2 g2 hi=>?_⟩⟩
  ·have:i<xs.length:=by rw[rs.length];exact hi
   exact⟨xs,xs[i],(q.mono g2).to,by simp[this]⟩
  ·obtain⟨e3,y⟩:=y
   obtain⟨x',e4,r'⟩:=rs.get (i:=i) (d:=_) (C8 hi);have:=y xs (q.mono g2).to;rw[e4] at this;cases this;subst e3;exact⟨Same.refl _,_,C8 hi,λB' gB _=>r'.mono gB⟩
  ·exact⟨xs,(q.mono g2).to,by rw[rs.length];exact hi⟩
theorem vx0(h:PD X e g):PID X tg e (tupI g):=.mk λB δ=>L2.PI.imp (Xl0 (h B δ)) fun σ H R ⟨items,en,e1,k⟩=>by
 unfold tupI at e1;cases e2:g δ with
 | none=>rw[e2] at e1;cases e1
 | some d =>
  rw[e2] at e1;cases d<;>simp[b80] at e1
  subst e1;refine⟨_,en,e2,λv H' s' r=>?_⟩;rw[Z4] at r;obtain⟨a,xs,rfl,q,rs⟩:=r;refine⟨a,rfl,⟨xs,q.to⟩,k _ H' s' ⟨λi H2 g2 hi=>?_,λi H2 x H3 g2 y hi=>?_,λi H2 g2 hi=>?_⟩⟩
  ·have:i<xs.length:=by rw[rs.length];exact hi
   exact⟨xs,xs[i],(q.mono g2).to,by simp[this]⟩
  ·obtain⟨e3,y⟩:=y
   obtain⟨x',e4,r'⟩:=rs.get (i:=i) (d:=_) (C8 hi);have:=y xs (q.mono g2).to;rw[e4] at this;cases this;subst e3;exact⟨Same.refl _,_,C8 hi,λB' gB _=>r'.mono gB⟩
  ·exact⟨xs,(q.mono g2).to,by rw[rs.length];exact hi⟩
theorem q10(lo hi:Int):(Y7 lo hi).length=(hi - lo).toNat:=by simp[Y7]
theorem jk0(lo hi:Int):ItD K B (Itr lo (hi - lo).toNat) (Y7 lo hi) H:=by
 refine⟨λi H2 g2 hi=>?_,λi H2 x H3 g2 y hi=>?_,λi H2 g2 hi=>?_⟩
 ·rw[q10] at hi;exact hi
 ·obtain⟨e3,rfl⟩:=y
  rw[q10] at hi;subst e3;exact⟨Same.refl _,.int (lo+i),by simp[Y7,hi],λB' gB _=>by rw[o9]⟩
 ·rw[q10] at hi;exact hi
theorem T7{a:Expr}(hm:X.mg "range"=none)(ha:PDA X [a] gA)(hg:Gl X "range" := by rfl)(hs:starEach [a] X.env=[(false,eval a X.env)]:=by rfl):PID X tg (.Call (.Name "range" p) [a] [] pos) (T6 gA) :=
 .mk λB δ=>L2.PI.imp (gm0 hg hm (ha B δ) hs) fun σ H R ⟨items,en,e1,k⟩=>by
 unfold T6 at e1;cases e2:gA δ with
 | none=>rw[e2] at e1;cases e1
 | some ds =>
  rw[e2] at e1;simp only[Option.bind_some] at e1;unfold ic0 at e1;split at e1
  ·split at e1
   ·rename_i j hj
    cases e1;refine⟨_,en,e2,λvs H' s' r=>?_⟩;rw[p8] at r;obtain⟨x,t,rfl,r1,r2⟩:=r;rw[o6] at r2;subst r2;rw[o9] at r1;subst r1;refine⟨j,rfl,hj.1,hj.2,k _ H' s' ?_⟩;have:=jk0 (K:=X.K) (B:=B) (H:=H') 0 j;rw[Int.sub_zero] at this;exact this
   ·cases e1
  ·cases e1
theorem ia0{a:Expr}{p:Pos}(hm:X.mg "range"=none)(ha:PDA X [a,b] gA)(hg:Gl X "range" := by rfl)(hs:starEach [a,b] X.env=[(false,eval a X.env),(false,eval b X.env)]:=by rfl)(hs2:starEach [b] X.env=[(false,eval b X.env)]:=by rfl) :
  PID X tg (.Call (.Name "range" p) [a,b] [] pos) (i60 gA):=.mk λB δ=>L2.PI.imp (gp0 hg hm (ha B δ) hs hs2) fun σ H R ⟨items,en,e1,k⟩=>by
 unfold i60 at e1;cases e2:gA δ with
 | none=>rw[e2] at e1;cases e1
 | some ds =>
  rw[e2] at e1;simp only[Option.bind_some] at e1;unfold b30 at e1;split at e1
  ·split at e1
   ·rename_i i j hj
    cases e1;refine⟨_,en,e2,λvs H' s' r=>?_⟩;rw[p8] at r;obtain⟨x,t,rfl,r1,r2⟩:=r;rw[p8] at r2;obtain⟨y,t',rfl,r2,r3⟩:=r2;rw[o6] at r3;subst r3;rw[o9] at r1 r2;subst r1 r2;exact⟨i,j,rfl,⟨hj.1.1,hj.1.2,hj.2.1,hj.2.2⟩,k _ H' s' (jk0 i j)⟩
   ·cases e1
  ·cases e1
theorem EnvS.lower{H₁:Hp}{σ:St}(e:EnvS K H₁ B₀ H σ δ)(s:Same H₀ H₁)(b0:∀a,B₀ a->NB (H₀ a)):EnvS K H₀ B₀ H σ δ:=by
 obtain⟨B,b1,b2,en⟩:=e.ex;exact⟨s.trans e.same,⟨B,b1,λa z=>(b2 a z).imp id λq=>s.free q,en⟩,λi ds a h1 h2=>s.free (e.fr i ds a h1 h2),b0⟩
open Classical in
theorem V9{f:D->Ds->Option Ds}(hp:PassesOwn (model X.prog X.w) X.A X.env X.xe)(hc:X.calm=true)(hi:PID X tg iter gi)(hg:PGD X tg idx f)(hb:PSsD X body G)
  (hs:∀x,foldedSetIterable iter X.env x=pure x:=by intro _;rfl):PSD X (.For tg iter body [] pos) (S6 gi f G):=.mk λH₀ B₀ δ pins s σ H D I ⟨r,en,e1,k⟩=>by
 unfold S6 at e1;obtain⟨B,b1,b2,env⟩:=en.ex;cases e2:gi δ with
 | none=>rw[e2] at e1;cases e1
 | some items =>
  rw[e2] at e1;simp only[Option.bind_some] at e1;have a6:PG X tg (λv σ H Q=>∃B d δ,tDG X.K idx f B d δ v σ H Q):=λpins s σ H v u Q I r ⟨B,d,δ,h⟩=>hg B d δ pins s σ H v u Q I r h
  have a8:PSs X body (λD σ H=>∃H₀ B₀ δ,tDS X.K H₀ B₀ δ G D σ H):=λpins s σ H D I ⟨H₀,B₀,δ,h⟩=>hb H₀ B₀ δ pins s σ H D I h
  refine Yx0 hp hc (hi B δ) a6 a8 hs pins s σ H D I ⟨items,env,e2,λJ H1 s1 it=>?_⟩;obtain⟨Hh,O⟩:∃Hh:Hp,Hh=λb=>if B b/\¬B₀ b then none else H1 b:=⟨_,rfl⟩
  have a1:∀b,¬B b->Hh b=H1 b:=λb n=>by rw[O];exact if_neg λz=>n z.1
  have a0:∀b,B b->¬B₀ b->Hh b=none:=λb n n'=>by rw[O];exact if_pos ⟨n,n'⟩
  have a3:∀b,B₀ b->Hh b=H1 b:=λb n=>by rw[O];exact if_neg λz=>z.2 n
  have a4:Same Hh H1:=⟨λb o h=>by
   by_cases z:B b/\¬B₀ b
   ·rw[a0 b z.1 z.2] at h;cases h
   ·rw[O] at h
    have h':(if B b/\¬B₀ b then none else H1 b)=some o:=h;rw[if_neg z] at h';exact h',λb o xs h=>by
   by_cases z:B b/\¬B₀ b
   ·have h0:=en.same.nf b o xs (s1.nf b o xs h)
    rw[(b2 b z.1).resolve_left z.2] at h0;cases h0
   ·rw[O]
    show (if B b/\¬B₀ b then none else H1 b)=_;rw[if_neg z];exact h⟩
  have hS:Same H₀ Hh:=⟨λb o h=>by
   have h1:=s1 b o (en.same b o h)
   by_cases z:B b
   ·rcases b2 b z with q|q
    ·rw[a3 b q];exact h1
    ·rw[h] at q;cases q
   ·rw[a1 b z];exact h1,λb o xs h=>en.same.nf b o xs (s1.nf b o xs (a4 b _ h))⟩
  have Z:=env.same s1;have start:EnvS X.K Hh B₀ H1 σ δ:=by
   refine⟨a4,⟨B,b1,λa z=>?_,Z⟩,λi ds a h1 h2=>?_,λa z=>?_⟩
   ·by_cases q:B₀ a
    ·exact .inl q
    ·exact .inr (a0 a z q)
   ·have hn:=en.fr i ds a h1 h2
    have nb:¬B₀ a:=λz=>en.b0 a z hn
    obtain⟨o,e3,a',e4,hB,_⟩:=Pd.get Z.all h1;rw[h2] at e3;cases e3;cases e4;exact a0 a hB nb
   ·rw[a3 a z]
    exact Z.bad a (b1 a z)
  refine⟨λi m σ H=>m=items.length - i/\i<=items.length/\∃δi,EnvS X.K Hh B₀ H σ δi/\U3 f G (items.drop i) δi=some r,⟨_,rfl,C4 _,δ,start,e1⟩,?_⟩;rintro i m σi Hi ⟨rfl,c0,δi,M,ei⟩;have gr:Gr H1 Hi B B:=λb o n h=>⟨n,M.same b o (by rw[a1 b n];exact h)⟩
  by_cases hlt:i<items.length
  ·refine .inr ⟨it.go i Hi gr hlt,fun σ' H'=>∃δn,EnvS X.K Hh B₀ H' σ' δn/\U3 f G (items.drop (i+1)) δn=some r,fun σ' H' ⟨δn,en',e'⟩=>⟨items.length - (i+1),by omega,rfl,hlt,δn,en',e'⟩,λx H' y=>?_⟩
   obtain⟨sm,d,hd,rd⟩:=it.yld i Hi x H' gr y hlt;obtain⟨B',c1,c2,env0⟩:=M.ex;have a7:Rp X.K H' B' d x:=rd B' (λb o n h=>by
    have h':Hh b=some o:=by rw[a1 b n];exact h
    refine⟨λz=>?_,sm b o (M.same b o h')⟩;rcases c2 b z with q|q
    ·exact n (b1 b q)
    ·rw[h'] at q;cases q) env0.bad
   have a5:=env0.same sm
   replace M:=M.grow sm
   have a2:items.drop i=d::items.drop (i+1):=by
    rw[List.drop_eq_getElem_cons hlt];congr 1;rw[List.getElem?_eq_getElem hlt] at hd;exact A8 hd
   rw[a2] at ei;unfold U3 at ei;cases e3:f d δi with
   | none=>rw[e3] at ei;cases ei
   | some δ2 =>
    rw[e3] at ei;simp only[Option.bind_some] at ei;refine⟨B',d,δi,δ2,a7,a5,e3,fun σ' w en'=>?_⟩;have b3:EnvS X.K Hh B₀ H' σ' δ2:=M.wr c1 c2 (Same.refl _) w en';cases e4:G δ2 with
    | none=>rw[e4] at ei;cases ei
    | some rb =>
     rw[e4] at ei;refine⟨Hh,B₀,δ2,rb,b3,e4,?_⟩;cases rb with
     | nx δn=>exact fun σ' H' en'=>⟨δn,en',ei⟩
     | ct δn=>exact fun σ' H' en'=>⟨δn,en',ei⟩
     | bk δn =>
      cases ei;exact fun σ' H' en'=>k σ' H' (en'.lower hS en.b0)
     | rt d' =>
      cases ei;exact λv H' s' r'=>k v H' (hS.trans s') r'
     | rf d' =>
      cases ei;exact λp H' hp s' r'=>k p H' (hS.free hp) (hS.trans s') r'
  ·have e:i=items.length:=by omega
   subst e;refine .inl ⟨it.stop _ Hi gr (A2 _),?_⟩;rw[List.drop_length] at ei;cases ei;exact k σi Hi (M.lower hS en.b0)
structure PFD(X:Cx)(ifs:List Expr)(g:Ds->Option Bool):Prop where
 mk::go:∀B δ,PF X ifs (tDT X.K B δ g)
instance{X:Cx}{ifs:List Expr}{g:Ds->Option Bool}:CoeFun (PFD X ifs g) (λ_=>∀B δ,PF X ifs (tDT X.K B δ g)):=⟨PFD.go⟩
theorem Q0:PFD X [] noT:=.mk λB δ pins s σ H Q I ⟨b,en,e,k⟩=>by
 cases e;exact W40 pins s σ H Q I (k H (Same.refl H))
theorem aa0(h:PTD X c gt):PFD X [c] gt:=.mk λB δ=>Wa0 (h B δ)
theorem ci0{σ:St}(h:j<n):(P0 n caps σ)[j]?=some none:=by
 unfold P0;rw[List.getElem?_append_left (by simpa using h),List.getElem?_replicate,if_pos h]
theorem uj0:∀n:Nat,Paired (SlR K H B) (List.replicate n (none:Option V)) (List.replicate n Sl.un)
 | 0=>.nil
 | n+1=>.cons trivial (uj0 n)
theorem lo0{σ:St}(en:Env K H B σ δ):∀caps:List Nat,Paired (SlR K H B) (caps.map λj=>(σ[j]?).join) (caps.map λj=>ny0 δ[j]?)
 | []=>.nil
 | j::caps=>by
  refine .cons ?_ (lo0 en caps);show SlR K H B (σ[j]?).join (ny0 δ[j]?);cases h:δ[j]? with
  | none=>trivial
  | some sl =>
   cases sl with
   | un=>trivial
   | ow ds=>trivial
   | ex c n=>trivial
   | sh d =>
    obtain⟨v,e,r⟩:=en.get h;rw[e];exact⟨v,rfl,r⟩
theorem ds0{o:Option Sl}{ds:D}(h:ny0 o=.ow ds):False:=by
 cases o with
 | none=>cases h
 | some s=>cases s<;>cases h
theorem rj0{ds:D}(h:(y80 n caps δ)[i]?=some (.ow ds)):False:=by
 unfold y80 at h
 by_cases hi:i<n
 ·rw[List.getElem?_append_left (by simpa using hi),List.getElem?_replicate,if_pos hi] at h
  cases h
 ·rw[List.getElem?_append_right (by simpa using hi),List.getElem?_map] at h
  cases q:caps[i - (List.replicate n Sl.un).length]? with
  | none=>rw[q] at h;cases h
  | some j =>
   rw[q] at h;exact ds0 (A8 h)
theorem Env.comp{σ:St}(en:Env K H B σ δ)(n:Nat)(caps:List Nat):Env K H B (P0 n caps σ) (y80 n caps δ) :=
 ⟨Pd.app (uj0 n) (lo0 en caps),en.bad,λi j a ds es h1 _ _ _=>(rj0 h1).elim⟩
theorem SlR.gr{o:Option V}{s:Sl}(g:Gr H H' B B')(no:∀ds,s≠.ow ds)(h:SlR K H B o s):SlR K H' B' o s:=by
 cases s with
 | un=>trivial
 | sh d=>obtain⟨v,e,r⟩:=h;exact⟨v,e,r.mono g⟩
 | ow ds=>exact absurd rfl (no ds)
 | ex c n=>obtain⟨a,e,r⟩:=h;exact⟨a,e,r.mono g⟩
theorem Pd.impG(g:Gr H H' B B'):∀{σ:St} {δ:Ds},(∀(i:Nat) (ds:D),δ[i]?≠some (.ow ds))->Paired (SlR K H B) σ δ->Paired (SlR K H' B') σ δ
 | _,_,_,.nil=>.nil
 | _,_,no,.cons r t=>.cons (r.gr g λds z=>no 0 ds (by rw[← z];rfl)) (Pd.impG g (λi ds z=>no (i+1) ds (by simpa using z)) t)
def tDF(K:W.Frag)(B:BS)(δ:Ds)(g:Ds->Option D):TE:=fun σ H Q=>∃d,Env K H B σ δ/\g δ=some d/\∀p H',H p=none->Same H H'->RpO K H' (λa=>B a∨a=p) d p->Q (.ref p) H'
structure PDF(X:Cx)(e:Expr)(g:Ds->Option D):Prop where
 mk::go:∀B δ,PE X e (tDF X.K B δ g)
instance{X:Cx}{e:Expr}{g:Ds->Option D}:CoeFun (PDF X e g) (λ_=>∀B δ,PE X e (tDF X.K B δ g)):=⟨PDF.go⟩
theorem tD.toF{σ:St}{Q:VK}(h:tD K B δ g σ H Q):tDF K B δ g σ H Q:=by
 obtain⟨d,en,e,k⟩:=h;exact⟨d,en,e,λp H' hp s r=>k _ H' s (r.rp (λa z=>.inl z) (en.free hp))⟩
theorem PDF.pd(h:PDF X e g):PD X e g:=.mk λB δ=>(h B δ).imp fun σ H Q z=>z.toF
theorem od0{K:W.Frag}{B:BS}{δ:Ds}{σ:St}{H:Hp}{Q:VK}{caps:List Nat}{gi:Ds->Option (List D)}{f:D->Ds->Option Ds}{gt:Ds->Option Bool}{ge:Ds->Option D}(hidx:∀j∈idx,j<n)
  (h:tDF K B δ (Y8 n caps gi f gt ge) σ H Q) :
  il0 n caps (tDI K B δ gi) (λv σ H Q=>∃B d δ,tDG K idx f B d δ v σ H Q) (fun σ H Q=>∃B δ,tDT K B δ gt σ H Q) (fun σ H Q=>∃B δ,tD K B δ ge σ H Q) σ H Q:=by
 obtain⟨d,en,h,k⟩:=h;unfold Y8 at h;cases e1:gi δ with
 | none=>rw[e1] at h;cases h
 | some items =>
  rw[e1] at h;simp only[Option.bind_some] at h
  by_cases hsz:items.length<=sizeLine
  ·rw[if_pos hsz] at h
   cases e2:R4 f gt ge (y80 n caps δ) items with
   | none=>rw[e2] at h;cases h
   | some out =>
    rw[e2] at h;cases h;refine⟨items,en,e1,λJ H1 s1 it=>λL hL=>?_⟩;have Z:=en.same s1;have b0:¬B L:=Z.free hL;obtain⟨Bp,M⟩:∃Bp:BS,Bp=λa=>B a∨a=L:=⟨_,rfl⟩
    have a6:Bp L:=by rw[M];exact .inr rfl
    have a8:∀a,B a->Bp a:=λa z=>by rw[M];exact .inl z
    have a1:∀a,Bp a->B a∨a=L:=λa z=>by rw[M] at z;exact z
    have gr:∀{H2:Hp},Same H1 H2->Gr H1 H2 B Bp:=λ{H2} s2 b o nb hb=>⟨(λz=>by
     rcases a1 b z with q|q
     ·exact nb q
     ·subst q;rw[hL] at hb;cases hb),s2 b o hb⟩
    refine⟨λi m ys H2=>m=items.length - i/\i<=items.length/\H2 L=some (.lst ys)/\Same H1 H2/\ys.length<=i/\∃pre rest,out=pre++rest/\Rps K H2 Bp pre ys/\R4 f gt ge (y80 n caps δ) (items.drop i)=some rest,
     ⟨_,rfl,C4 _,m8,b7 hL,A2 _,[],out,rfl,by rw[o6],e2⟩,?_⟩
    rintro i m ys H2 ⟨rfl,b1,hD,s2,b2,pre,rest,ho,rp,ec⟩;have O:Env K H2 Bp (P0 n caps σ) (y80 n caps δ):=by
     refine⟨Pd.impG (gr s2) (λi ds z=>rj0 z) (Z.comp n caps).all,λa z=>?_,λi j a ds es h1 _ _ _=>(rj0 h1).elim⟩;rcases a1 a z with q|q
     ·exact(Z.same s2).bad a q
     ·subst q;rw[hD];exact .of rfl (λ_ _ z=>nomatch z) λ_ z=>nomatch z
    by_cases hlt:i<items.length
    ·refine .inr ⟨it.go i H2 (Gr.same s2) hlt,λx H3 y=>?_⟩
     obtain⟨sm,dx,a2,rx⟩:=it.yld i H2 x H3 (Gr.same s2) y hlt;have a3:Rp K H3 Bp dx x:=rx Bp (gr (s2.trans sm)) O.bad
     replace O:=O.same sm
     replace s2:=s2.trans sm
     replace hD:=sm _ _ hD
     replace rp:=rp.same sm
     have a0:items.drop i=dx::items.drop (i+1):=by
      rw[List.drop_eq_getElem_cons hlt];congr 1;rw[List.getElem?_eq_getElem hlt] at a2;exact A8 a2
     rw[a0] at ec;unfold R4 at ec;cases e3:f dx (y80 n caps δ) with
     | none=>rw[e3] at ec;cases ec
     | some δ' =>
      rw[e3] at ec;dsimp only at ec;refine⟨Bp,dx,y80 n caps δ,δ',a3,O,e3,fun σ4 w en4=>⟨⟨w.len,λj v z=>?_⟩,?_⟩⟩
      ·by_cases hj:j∈idx
       ·rw[ci0 (hidx j hj)] at z;cases z
       ·rw[(w.oth j hj).1];exact z
      ·cases e4:gt δ' with
       | none=>rw[e4] at ec;cases ec
       | some t =>
        rw[e4] at ec;refine⟨Bp,δ',t,en4,e4,λH5 s5=>?_⟩;cases t with
        | false =>
         rw[if_neg B3];exact⟨items.length - (i+1),by omega,rfl,hlt,s5 _ _ hD,s2.trans s5,by omega,pre,rest,ho,rp.same s5,ec⟩
        | true =>
         rw[if_pos rfl];dsimp only at ec;cases e5:ge δ' with
         | none=>rw[e5] at ec;cases ec
         | some yd =>
          rw[e5] at ec;dsimp only at ec;cases e6:R4 f gt ge (y80 n caps δ) (items.drop (i+1)) with
          | none=>rw[e6] at ec;cases ec
          | some rest' =>
           rw[e6] at ec;cases ec;refine⟨Bp,δ',yd,en4.same s5,e5,λv H6 s6 r6=>?_⟩;have a4:H6 L=some (.lst ys):=s6 _ _ (s5 _ _ hD);have g6:Gr H6 (upd H6 L (.lst (ys++[v]))) Bp Bp:=λb o nb hb=>⟨nb,by
            rw[j7 (λz=>nb (by rw[z];exact a6))];exact hb⟩
           refine⟨a4,by omega,items.length - (i+1),by omega,rfl,hlt,m8,⟨λb o hb=>?_,λb ob zs hb=>?_⟩,by simp;omega,pre++[yd],rest',by rw[ho];simp,?_,e6⟩
           ·have a7:b≠L:=λz=>by rw[z,hL] at hb;cases hb
            rw[j7 a7];exact s6 _ _ (s5 _ _ (s2 _ _ hb))
           ·by_cases z:b=L
            ·rw[z,m8] at hb;cases hb
            ·rw[j7 z] at hb
             exact s2.nf _ _ _ (s5.nf _ _ _ (s6.nf _ _ _ hb))
           ·exact(Rps.snoc ((rp.same s5).same s6) r6).mono g6
    ·have e:i=items.length:=by omega
     subst e;refine .inl ⟨it.stop _ H2 (Gr.same s2) (A2 _),?_⟩;rw[List.drop_length] at ec;have a5:([]:List D)=rest:=A8 ec;subst a5;rw[List.append_nil] at ho;subst ho;refine k L H2 (s1.free hL) (s1.trans s2) ⟨ys,hD,?_⟩;rw[M] at rp;exact rp
  ·rw[if_neg hsz] at h;cases h
theorem lw0{sc scope:Scope}{elt iter:Expr}{ifs:List Expr}{N':List Str}{n:Nat}{caps:List Nat}{gi:Ds->Option (List D)}{idx:List Nat}{f:D->Ds->Option Ds}{ge:Ds->Option D}
  (hc:X.calm=true) (hsc:X.env.scope=sc) (ok:CompOk sc scope X.N N' n caps) (hidx:∀j∈idx,j<n) (hi:PID X tg iter gi)
  (hg:∀cl s H ex,PGD (Z2 X scope cl N' s H ex) tg idx f) (ht:∀cl s H ex,PFD (Z2 X scope cl N' s H ex) ifs gt) (he:∀cl s H ex,PD (Z2 X scope cl N' s H ex) elt ge)
  (hs:∀x,foldedSetIterable iter X.env x=pure x:=by intro _;rfl) :
  PDF X (.ListComp elt [⟨tg,iter,ifs,0⟩] scope pos) (Y8 n caps gi f gt ge):=.mk λB δ =>
 (ag0 hc hsc ok (hi B δ) (g:=λv σ H Q=>∃B d δ,tDG X.K idx f B d δ v σ H Q) (tt:=fun σ H Q=>∃B δ,tDT X.K B δ gt σ H Q) (te:=fun σ H Q=>∃B δ,tD X.K B δ ge σ H Q)
  (λcl s H ex pins s' σ H v u Q I r ⟨B,d,δ,h⟩=>hg cl s _ ex B d δ pins s' σ H v u Q I r h)
  (λcl s H ex pins s' σ H Q I ⟨B,δ,h⟩=>ht cl s _ ex B δ pins s' σ H Q I h)
  (λcl s H ex pins s' σ H Q I ⟨B,δ,h⟩=>he cl s _ ex B δ pins s' σ H Q I h) hs).imp fun σ H Q h=>od0 hidx h
theorem Y80{sc scope:Scope}{elt iter:Expr}{ifs:List Expr}{N':List Str}{n:Nat}{caps:List Nat}{gi:Ds->Option (List D)}{idx:List Nat}{f:D->Ds->Option Ds}{ge:Ds->Option D}
  (hc:X.calm=true) (hsc:X.env.scope=sc) (ok:CompOk sc scope X.N N' n caps) (hidx:∀j∈idx,j<n) (hi:PID X tg iter gi)
  (hg:∀cl s H ex,PGD (Z2 X scope cl N' s H ex) tg idx f) (ht:∀cl s H ex,PFD (Z2 X scope cl N' s H ex) ifs gt) (he:∀cl s H ex,PD (Z2 X scope cl N' s H ex) elt ge)
  (hs:∀x,foldedSetIterable iter X.env x=pure x:=by intro _;rfl) :
  PD X (.ListComp elt [⟨tg,iter,ifs,0⟩] scope pos) (Y8 n caps gi f gt ge):=(lw0 hc hsc ok hidx hi hg ht he hs).pd
theorem kq0(i:Nat){y:Str}{py spos:Pos}{sc scope:Scope}{elt iter:Expr}{ifs:List Expr}{N':List Str}{n:Nat}{caps:List Nat}{gi:Ds->Option (List D)}{idx:List Nat}{f:D->Ds->Option Ds}{ge:Ds->Option D}
  (hN:X.N.Nodup) (hc:X.calm=true) (hsc:X.env.scope=sc) (ok:CompOk sc scope X.N N' n caps) (hidx:∀j∈idx,j<n) (hi:PID X tg iter gi)
  (hg:∀cl s H ex,PGD (Z2 X scope cl N' s H ex) tg idx f) (ht:∀cl s H ex,PFD (Z2 X scope cl N' s H ex) ifs gt) (he:∀cl s H ex,PD (Z2 X scope cl N' s H ex) elt ge)
  (hiN:X.N[i]?=some y:=by rfl) (hy:Loc X.env.scope y:=by first|exact Or.inl rfl|exact Or.inr rfl)
  (hsw:swapsWith (.ListComp elt [⟨tg,iter,ifs,0⟩] scope pos) (some (.Name y py)) spos.line X.env=pure true:=by rfl)
  (hs:∀x,foldedSetIterable iter X.env x=pure x:=by intro _;rfl)
  (hf:X.fn y=true∨X.env.scope.names.lookup y=some .local:=by first|exact .inl rfl|exact .inr rfl|assumption) :
  PSD X (.Assign [.Name y py] (.ListComp elt [⟨tg,iter,ifs,0⟩] scope pos) spos) (n6 (gN i) (Y8 n caps gi f gt ge)):=.mk λH₀ B₀ δ pins s σ H D I ⟨r,en,e1,k⟩=>by
 unfold n6 at e1;obtain⟨B,b1,b2,env⟩:=en.ex;cases e2:Y8 n caps gi f gt ge δ with
 | none=>rw[e2] at e1;cases e1
 | some d =>
  rw[e2] at e1;cases e1;refine ip0 (i:=i) hN hiN hy hc hsc ok (hi B δ) (g:=λv σ H Q=>∃B d δ,tDG X.K idx f B d δ v σ H Q) (tt:=fun σ H Q=>∃B δ,tDT X.K B δ gt σ H Q) (te:=fun σ H Q=>∃B δ,tD X.K B δ ge σ H Q)
   (λcl s H ex pins s' σ H v u Q I r ⟨B,d,δ,h⟩=>hg cl s _ ex B d δ pins s' σ H v u Q I r h)
   (λcl s H ex pins s' σ H Q I ⟨B,δ,h⟩=>ht cl s _ ex B δ pins s' σ H Q I h)
   (λcl s H ex pins s' σ H Q I ⟨B,δ,h⟩=>he cl s _ ex B δ pins s' σ H Q I h) hsw hs hf pins s σ H D I (od0 hidx (tD.toF ⟨d,env,e2,λv H' s' r'=>k _ H' (en.wr b1 b2 s' ei0 ((env.same s').set i r'))⟩))
end
theorem xz0{N:List Str}:∀{ds:List D} {vs:List V},Rps K H B ds vs->Paired (SlR K H B) (vs.map some) (ds.map Sl.sh)
 | [],_,h=>by rw[o6] at h;subst h;exact .nil
 | d::ds,_,h=>by
  rw[p8] at h;obtain⟨x,r,rfl,h1,h2⟩:=h;exact .cons ⟨x,rfl,h1⟩ (xz0 (N:=N) h2)
theorem z20{es:D}(h:(Z6 N ds)[i]?=some (.ow es)):False:=by
 unfold Z6 at h
 by_cases hi:i<ds.length
 ·rw[List.getElem?_append_left (by simpa using hi),List.getElem?_map] at h
  cases q:ds[i]? with
  | none=>rw[q] at h;cases h
  | some d=>rw[q] at h;cases h
 ·rw[List.getElem?_append_right (by simpa using hi),List.getElem?_replicate] at h
  split at h<;>cases h
section
variable{P:Program}{w:World}
theorem okD{ps:List Str}{k:Nat}{f:List D->Option D}{G:Ds->Option Res}(F:Fun K x qual st fa fd)(S:FnScope N ps (p6 st))
  (body:∀(cdv:Value) (A:Around) (outer:List PySem.Env) (s:Shared) (H:Hp) (E:XK),Room k (A.deeper (envOfC qual (p6 st) s.heap.objs.size fa cdv))->PSsD (wx0 CX0 P w K mg base N qual (p6 st) fa cdv A outer s H E).nox (Y6 st) G)
  (hf:∀ds d,f ds=some d->ds.length=ps.length/\(G (Z6 N ds)=some (.rt d)∨(d=.non/\∃δ,G (Z6 N ds)=some (.nx δ))∨G (Z6 N ds)=some (.rf d)/\isL d=false)) :
  FnOk P w K mg base CX0 (k+1) fa fd ps (spD K f):=by
 refine F.ok S (λvs H Q E ⟨B,ds,d,_,r,h,_⟩=>?_) (λcdv A outer s H vs Q E hr ⟨B,ds,d,hb,r,h,q⟩=>?_)
 ·rw[r.length];exact(hf ds d h).1
 ·refine⟨_,body cdv A outer s H E hr H B (Z6 N ds),?_⟩
  have en:EnvS K H B H (L2.start N vs) (Z6 N ds):=by
   refine⟨Same.refl H,⟨B,λ_ z=>z,λ_ z=>.inl z,⟨?_,hb,λi j a J es h1 _ _ _=>(z20 h1).elim⟩⟩,λi J a h1 _=>(z20 h1).elim,hb⟩;unfold L2.start Z6;rw[r.length];exact Pd.app (xz0 (N:=N) r) (uj0 _)
  rcases (hf ds d h).2 with e|⟨rfl,δ,e⟩|⟨e,hn⟩
  ·exact⟨_,en,e,λv H' s' r'=>q v H' s' r'⟩
  ·exact⟨_,en,e,fun σ' H' en'=>q .non H' en'.same (by rw[X5])⟩
  ·exact⟨_,en,e,λp H' hp s' r'=>q _ H' s' ((r'.toO hn).rp (λa z=>.inl z) (λz=>hb p z hp))⟩
def spN(K:W.Frag)(f:List D->Option D):Sp:=λvs H Q _=>∃(B:BS) (ds:List D) (d:D),(∀a,B a->NB (H a))/\Rps K H B ds vs/\f ds=some d/\∀p H',H p=none->Same H H'->RpO K H' (λa=>B a∨a=p) d p->Q (.ref p) H'
theorem okN{ps:List Str}{k:Nat}{f:List D->Option D}{G:Ds->Option Res}(F:Fun K x qual st fa fd)(S:FnScope N ps (p6 st))
  (body:∀(cdv:Value) (A:Around) (outer:List PySem.Env) (s:Shared) (H:Hp) (E:XK),Room k (A.deeper (envOfC qual (p6 st) s.heap.objs.size fa cdv))->PSsD (wx0 CX0 P w K mg base N qual (p6 st) fa cdv A outer s H E).nox (Y6 st) G)
  (hf:∀ds d,f ds=some d->ds.length=ps.length/\G (Z6 N ds)=some (.rf d)/\isL d=false) :
  FnOk P w K mg base CX0 (k+1) fa fd ps (spN K f):=by
 refine F.ok S (λvs H Q E ⟨B,ds,d,_,r,h,_⟩=>?_) (λcdv A outer s H vs Q E hr ⟨B,ds,d,hb,r,h,q⟩=>?_)
 ·rw[r.length];exact(hf ds d h).1
 ·refine⟨_,body cdv A outer s H E hr H B (Z6 N ds),?_⟩
  have en:EnvS K H B H (L2.start N vs) (Z6 N ds):=by
   refine⟨Same.refl H,⟨B,λ_ z=>z,λ_ z=>.inl z,⟨?_,hb,λi j a J es h1 _ _ _=>(z20 h1).elim⟩⟩,λi J a h1 _=>(z20 h1).elim,hb⟩;unfold L2.start Z6;rw[r.length];exact Pd.app (xz0 (N:=N) r) (uj0 _)
  exact⟨_,en,(hf ds d h).2.1,λp H' hp s' r'=>q p H' hp s' (r'.toO (hf ds d h).2.2)⟩
end
end DL
namespace L2
open Spec PyProof.Rows
theorem mg0:∀{ys:List Str} {us:List Value},Vals (ys.map V.str) us->StrsAre us ys
 | [],_,r=>by rw[List.map_nil] at r;cases r;exact .nil
 | y::ys,_,r=>by
  rw[List.map_cons] at r;cases r with
  | cons r1 r2 =>
   obtain⟨t,e⟩:=r1;subst e;exact .cons y t (mg0 r2)
theorem ae0:MtR X "str.join" (λx xs H Q=>∃(sep:Str) (p:Addr) (ys:List Str),x=.str sep/\xs=[.ref p]/\SqL X.K H p (ys.map V.str)/\(ys.map (·.length)).sum+ys.length*sep.length<=16777216/\Q (.str (Txt.join sep ys)) H):=by
 intro pins s σ H x xs v us Q I rx rs h;obtain⟨sep,p,ys,rfl,rfl,hq,hz,q⟩:=h;obtain⟨t,rfl⟩:=rx;obtain⟨u,rfl,ru⟩:=rs.one;cases ru;obtain⟨its,rv,pl,_⟩:=I.list hq;exact join_list pl.isList (by simpa using mg0 rv) hz λt' k=>⟨.str _,H,I.tok k,⟨t',rfl⟩,q⟩
theorem part_of{o:Option Int}(p:IsPart u o):∃l:Option (Int×Tok),u=partValue l/\l.map (·.1)=o:=by
 cases p with
 | none=>exact⟨none,rfl,rfl⟩
 | int i t=>exact⟨some (i,t),rfl,rfl⟩
theorem W10:SlR X (λx lo hi H Q=>∃z,x=.str z/\z.length<=sizeLine/\Q (.str (Txt.slice z lo hi)) H):=by
 intro pins s σ H x v vl vu lo hi sl Q I rx hs pl pu h;obtain⟨z,rfl,hz,q⟩:=h;obtain⟨t,rfl⟩:=rx;obtain⟨l,rfl,rfl⟩:=part_of pl;obtain⟨u,rfl,rfl⟩:=part_of pu;refine⟨"str",_,F.slot_str_getitem.lookup,P2 _ _ _,wpAny_getItem_str_slice (l:=l) (u:=u) (st:=none) ?_ rfl (post_val_or_str ⟨C0 (Txt.slice_le z _ _) hz,λt' k=>⟨.str _,H,I.tok k,⟨t',rfl⟩,q⟩⟩)⟩;obtain⟨o,h1,h2,h3⟩:=hs;exact⟨o,h1,h2,h3⟩
end L2
namespace DL
open Spec PyProof.Rows L2
def tyD:D->String
 | .non => "NoneType"|.bl _ => "bool"|.int _ => "int"|.str _ => "str"|.tup _ => "tuple"|.lst _ => "list"|.dct _ _ => "dict"|.fn _ _ => "function"
def okT(T:String)(f:D->Bool):Prop:=∀(K:W.Frag) (d:D),W.kitOne K (.type (tyD d)) (.type T)=some (f d)
theorem Yj0:okT "str" isStr:=λK d=>by cases d<;>kernel_rfl
theorem mc0:okT "bool" isBool:=λK d=>by cases d<;>kernel_rfl
theorem N5:okT "tuple" isTup:=λK d=>by cases d<;>kernel_rfl
section
theorem d20{T:String}{f:D->Bool}(hT:okT T f):CallR X (.builtin "isinstance") (λxs H Q=>∃B d x,xs=[x,.ty T]/\Rp X.K H B d x/\Q (.bl (f d)) H):=by
 intro pins s σ H xs us Q I rs h;obtain⟨B,d,x,rfl,r,q⟩:=h;obtain⟨u,c,rfl,ru,rc⟩:=rs.two;obtain rfl:c=Value.type T:=rc;have J:∀tk,EP X pins σ Q (.bool (f d)) { s with toks:=tk }:=λtk=>⟨.bl _,H,I.tok tk,rfl,q⟩
 have e:=hT X.K d;cases d with
 | non=>rw[X5] at r;subst r;cases (show u=Value.none from ru);exact G0 W.kitx_none I.kIn True.intro e (λz=>nomatch z) J
 | bl y=>rw[Y5] at r;subst r;cases (show u=Value.bool y from ru);exact G0 W.kitx_bool I.kIn True.intro e (λz=>nomatch z) J
 | int i=>rw[o9] at r;subst r;obtain⟨t,rfl⟩:=(show ∃t,u=Value.int i t from ru);exact G0 W.kitx_int I.kIn True.intro e (λz=>nomatch z) J
 | str y=>rw[c7] at r;subst r;obtain⟨t,rfl⟩:=(show ∃t,u=Value.str y t from ru);exact G0 W.kitx_str I.kIn True.intro e (λz=>nomatch z) J
 | tup ds =>
  rw[Z4] at r;obtain⟨a,xs,rfl,hq,_⟩:=r;cases (show u=Value.ref a from ru);obtain⟨its,_,p,_⟩:=I.tuple hq.to;obtain⟨o,h1,h2,_⟩:=p;exact G0 W.kitx_tuple I.kIn ⟨o,h1,h2⟩ e (λz=>nomatch z) J
 | lst ds =>
  rw[Z8] at r;obtain⟨a,xs,rfl,hq,_⟩:=r;cases (show u=Value.ref a from ru);obtain⟨its,_,p,_⟩:=I.list hq.to;obtain⟨o,n,h1,h2,_⟩:=p;exact G0 W.kitx_list I.kIn ⟨o,h1,h2⟩ e (λz=>nomatch z) J
 | dct ks ds =>
  rw[vy0] at r;obtain⟨a,xs,rfl,_,hq,_⟩:=r;cases (show u=Value.ref a from ru);cases ks with
  | inl ks =>
   obtain⟨_,_,vs,_,p⟩:=(show ObjOk X.prog X.w H s.heap a (.dK (ks.zip xs)) from I.hok a _ hq);obtain⟨o,es,ep,h1,h2,_⟩:=p;exact G0 W.kitx_dict I.kIn ⟨o,h1,h2.1⟩ e (λz=>nomatch z) J
  | inr ks =>
   obtain⟨_,_,vs,_,o,es,ep,h1,h2,_⟩:=(show ObjOk X.prog X.w H s.heap a (.dT (ks.zip xs)) from I.hok a _ hq);exact G0 W.kitx_dict I.kIn ⟨o,h1,h2.1⟩ e (λz=>nomatch z) J
 | fn ks ds =>
  rw[cz0] at r;obtain⟨a,xs,rfl,hq,_⟩:=r;cases (show u=Value.ref a from ru);obtain⟨oF,_,_,_,_,_,_,_,_,⟨_,h1⟩,⟨h2,_⟩,_⟩:=hq;exact G0 KfT.kit I.kIn ⟨oF,(I.hok a _ h1).1,h2⟩ e (λz=>nomatch z) J
theorem J4{T:String}{f:D->Bool}{Tn:Str}{p p2 pos:Pos}(hT:okT T f)(hb:bootBuiltins Tn=some (.type T))(hm:X.mg "isinstance"=none)(hmT:X.mg Tn=none)(h:PD X e g)(hg:Gl X "isinstance" := by rfl)(hgT:Gl X Tn:=by rfl)
  (hn:Tn ≠"__name__" := by decide) (hd:(Tn==("__debug__" : Str))=false:=by decide)
  (he:starEach [e,.Name Tn p2] X.env=(false,eval e X.env)::starEach [.Name Tn p2] X.env:=by rfl) (he2:starEach [.Name Tn p2] X.env=(false,eval (.Name Tn p2) X.env)::starEach [] X.env:=by rfl)
  (hpl:(backTo pos (starEach [.Name Tn p2] X.env)).any (·.1)=false:=by rfl) :
  PD X (.Call (.Name "isinstance" p) [e,.Name Tn p2] [] pos) (V4 f g) :=
 .mk λB δ=>(up0 (d20 hT) hg hm PyProof.Rows.boot_isinstance (K3 (h B δ) (K3 (Y60 (v:=.ty T) hgT hmT hb rfl hn hd) yx0 he2) he) (by decide) (by decide) he hpl).imp fun σ H Q ⟨d,en,h,k⟩=>by
  unfold V4 at h;cases e1:g δ with
  | none=>rw[e1] at h;cases h
  | some x =>
   rw[e1] at h;cases h;exact⟨x,en,e1,λv H1 s1 r1=>⟨B,x,v,rfl,r1,k _ H1 s1 (by rw[Y5])⟩⟩
theorem ma0{C:Int->Int->Prop}[∀i j,Decidable (C i j)]{g:Int->Int->V}{g':Int->Int->D}(hg:∀i j H B,Rp K H B (g' i j) (g i j)):Op2 K (rI C g) (ii λi j=>if C i j then some (g' i j) else none):=by
 intro H B x y dx dy d Q hb rx ry h k;cases dx<;>cases dy<;>simp only[ii] at h<;>try cases h
 rename_i i j;split at h
 ·cases h
  rw[o9] at rx ry;subst rx ry;exact⟨i,j,rfl,rfl,by assumption,k _ H (Same.refl H) (hg i j H B)⟩
 ·cases h
theorem lu0{g:Int->Int->V}{g':Int->Int->D}(hg:∀i j H B,Rp K H B (g' i j) (g i j)):Op2 K (rI0 g) (ii λi j=>some (g' i j)):=by
 intro H B x y dx dy d Q hb rx ry h k;cases dx<;>cases dy<;>simp only[ii] at h<;>try cases h
 rename_i i j;rw[o9] at rx ry;subst rx ry;exact⟨i,j,rfl,rfl,k _ H (Same.refl H) (hg i j H B)⟩
instance decDiv(i j:Int):Decidable (ey0 i j):=inferInstanceAs (Decidable (0<j/\j<1073741824))
instance decPow(i j:Int):Decidable (cj0 i j):=inferInstanceAs (Decidable (0<=j/\j<=1000000/\i.natAbs<2 ^ 64))
variable{a:Expr}{ga:Ds->Option D}
theorem f70(ha:PD X a ga)(hb:PD X b gb):PD X (.BinOp a .Sub b pos) (o2 ga gb cf0):=us0 Wv0 (lu0 (g':=λi j=>.int (i - j)) λ_ _ _ _=>by rw[o9]) ha hb
theorem S9(ha:PD X a ga)(hb:PD X b gb):PD X (.BinOp a .FloorDiv b pos) (o2 ga gb W4):=us0 Za0 (ma0 (C:=ey0) (g':=λi j=>.int (i/j)) λ_ _ _ _=>by rw[o9]) ha hb
theorem Z7(ha:PD X a ga)(hb:PD X b gb):PD X (.BinOp a .Mod b pos) (o2 ga gb d9):=us0 Wl0 (ma0 (C:=λ_ j=>0<j) (g':=λi j=>.int (i%j)) λ_ _ _ _=>by rw[o9]) ha hb
theorem eu0(ha:PD X a ga)(hb:PD X b gb):PD X (.BinOp a .Pow b pos) (o2 ga gb mo0):=us0 Wg0 (ma0 (C:=cj0) (g':=λi j=>.int (i ^ j.toNat)) λ_ _ _ _=>by rw[o9]) ha hb
end
end DL
namespace L2
open Spec PyProof.Rows
def bm0(K:W.Frag):R2:=λx y H Q=>∃l b xs zs,x=.ref l/\y=.ref b/\SqL K H l xs/\SqL K H b zs/\xs.length+zs.length<=sizeLine/\∀p,H p=none->Q (.ref p) (upd H p (.lst (xs++zs)))
theorem Y40:OpR X (binaryOp .Add) (bm0 X.K):=by
 intro pins s σ H x y v u Q I rx ry h;obtain⟨l,b,xs,zs,rfl,rfl,hH,hB,hz,q⟩:=h;cases rx;cases ry;obtain⟨its,r,p1,z1⟩:=I.list hH;obtain⟨J,r2,p2,z2⟩:=I.list hB;obtain⟨⟨cls,dd,data,sl⟩,ho,hc,n,hd⟩:=p1.isList;obtain⟨⟨a3,a1,data2,a0⟩,O,Z,n2,M⟩:=p2.isList;simp only at hc hd Z M;subst hc hd Z M;have e:its.toArray++J.toArray=(its++J).toArray:=by simp
 have a2:its.toArray.size+J.toArray.size<=sizeLine:=by
  rw[List.size_toArray,List.size_toArray,← r.length,← r2.length];exact hz
 refine i8 ⟨_,ho,rfl⟩ ⟨_,O,rfl⟩ noFill_list_add seq_list_add PySem.F.slot_list_add PySem.F.entry_list_add (PySem.F.args_list_add_2 _ _) (list_addW l b its.toArray J.toArray n n2 dd a1 sl a0 a2) ⟨ho,O,?_⟩;rw[e];exact⟨.ref _,_,I.lnew (t':=s.toks) (r.append r2) (by rw[List.length_append];exact hz),rfl,q _ I.fresh⟩
end L2
namespace DL
open Spec PyProof.Rows L2
section
variable{a:Expr}{ga:Ds->Option D}
theorem oi0(hb:∀a,B a->NB (H a)){p:Addr}(h:H p=none):¬B p:=λz=>hb p z h
theorem pu0{p:Addr}(hb:∀a,B a->NB (H a))(h:H p=none)(r:Rps K H B ds xs):Rp K (upd H p (.lst xs)) B (.lst ds) (.ref p):=by
 rw[Z8];exact⟨p,xs,rfl,.inl ⟨oi0 hb h,.inl m8⟩,r.same (b7 h)⟩
theorem so0{p:Addr}(hb:∀a,B a->NB (H a))(h:H p=none)(r:Rps K H B ds xs):Rp K (upd H p (.tup xs)) B (.tup ds) (.ref p):=by
 rw[Z4];exact⟨p,xs,rfl,⟨oi0 hb h,m8⟩,r.same (b7 h)⟩
theorem w50:Op2 K (rI0 λi j=>.bl (decide (i<j))) ltD:=lu0 (g':=λi j=>.bl (decide (i<j))) λ_ _ _ _=>by rw[Y5]
theorem ls0:Op2 K (rI0 λi j=>.bl (decide (j<i))) gtD:=lu0 (g':=λi j=>.bl (decide (j<i))) λ_ _ _ _=>by rw[Y5]
theorem W00{x:V}{dx dy:D}{b:Bool}(rx:Rp K H B dx x)(ry:Rp K H B dy y)(h:eqS dx dy=some b):W90 x y=true/\decide (x=y)=b:=by
 cases dx<;>cases dy<;>simp only[eqS] at h<;>try cases h
 all_goals
  simp only[X5,Y5,o9,c7] at rx ry;subst rx ry;refine⟨rfl,?_⟩;simp
theorem U7:Op2 K rEq eqD:=by
 intro H B x y dx dy d Q hb rx ry h k;unfold eqD at h;cases e:eqS dx dy with
 | none=>rw[e] at h;cases h
 | some b =>
  rw[e] at h;cases h;obtain⟨h1,h2⟩:=W00 rx ry e;exact⟨h1,by rw[h2];exact k _ H (Same.refl H) (by rw[Y5])⟩
theorem jh0:Op2 K (λx y H Q=>y=.non/\Q (.bl (decide (x=.non))) H) iw0:=by
 intro H B x y dx dy d Q hb rx ry h k;have hy:dy=.non:=by cases dy<;>first|rfl|cases h
 subst hy;cases h;rw[X5] at ry;refine⟨ry,k _ H (Same.refl H) ?_⟩;rw[Y5];cases dx<;>simp only[X5,Y5,o9,c7,Z4,Z8,vy0,cz0] at rx
 all_goals first
  | (subst rx;rfl)
  | (obtain⟨a,xs,rfl,_⟩:=rx;rfl)
theorem We0(xs:List α)(i:Int):L2.atI xs i=DL.atI xs i:=rfl
theorem ud0(n d:Nat)(o:Option Int):HT.sIx n d o=sIx n d o:=by cases o<;>rfl
theorem ju0{i:Int}{d:D}(r:Rps K H B ds xs)(h:DL.atI ds i=some d):∃v,L2.atI xs i=some v/\Rp K H B d v:=by
 rw[We0];unfold DL.atI at h ⊢;rw[r.length];cases e:DL.ixN ds.length i with
 | none=>rw[e] at h;cases h
 | some j =>
  rw[e] at h;exact r.get h
theorem Wi0:Op2 K (rIx K) ixD:=by
 intro H B x y dx dy d Q hb rx ry h k;cases dx<;>cases dy<;>simp only[ixD] at h<;>try cases h
 ·split at h
  ·rename_i hz
   rw[c7] at rx;rw[o9] at ry;subst rx ry;obtain⟨c,hc,rfl⟩:=C6.mp h;exact .inr (.inr ⟨_,_,c,rfl,rfl,hz,hc,k _ H (Same.refl H) (by rw[c7])⟩)
  ·cases h
 ·rw[Z4] at rx
  rw[o9] at ry;subst ry;obtain⟨a,xs,rfl,q,r⟩:=rx;obtain⟨v,hv,rv⟩:=ju0 r h;exact .inr (.inl ⟨a,xs,_,v,rfl,rfl,q.to,hv,k _ H (Same.refl H) rv⟩)
 ·rw[Z8] at rx
  rw[o9] at ry;subst ry;obtain⟨a,xs,rfl,q,r⟩:=rx;obtain⟨v,hv,rv⟩:=ju0 r h;exact .inl ⟨a,xs,_,v,rfl,rfl,q.to,hv,k _ H (Same.refl H) rv⟩
theorem o5(ha:PD X a ga)(hb:PD X b gb)(hs:px0 b:=by exact λ_ _=>rfl):PD X (.Subscript a b pos) (o2 ga gb ixD):=U40 V10 Wi0 ha hb hs
structure PDO(X:Cx)(e:Option Expr)(g:Ds->Option (Option Int)):Prop where
 mk::go:∀B δ,PO X e (fun σ H Q=>∃o,Env X.K H B σ δ/\g δ=some o/\∀H',Same H H'->Q o H')
instance{X:Cx}{e:Option Expr}{g:Ds->Option (Option Int)}:CoeFun (PDO X e g) (λ_=>∀B δ,PO X e (fun σ H Q=>∃o,Env X.K H B σ δ/\g δ=some o/\∀H',Same H H'->Q o H')):=⟨PDO.go⟩
theorem ye0:PDO X none K6:=.mk λB δ pins s σ H Q I ⟨o,en,h,k⟩=>by
 cases h;exact Y00 pins s σ H Q I (k H (Same.refl H))
theorem z40(h:PD X e g):PDO X (some e) (someO g):=.mk λB δ pins s σ H Q I ⟨o,en,hq,k⟩=>by
 unfold someO at hq;cases e1:g δ with
 | none=>rw[e1] at hq;cases hq
 | some d =>
  rw[e1] at hq;cases d<;>simp[asI] at hq
  subst hq;exact Y20 (h B δ) pins s σ H Q I ⟨_,en,e1,λv H' s' r=>⟨_,by rw[o9] at r;exact r,k H' s'⟩⟩
theorem jz0(r:Rps K H B ds xs)(lo hi:Option Int):Rps K H B (cutD ds lo hi) (s40 xs lo hi):=by
 unfold cutD s40;rw[r.length,ud0,ud0];exact(r.drop _).take _
theorem zj0{d:D}(h:Rps K H B [d] xs):∃v,xs=[v]/\Rp K H B d v:=by
 rw[p8] at h;obtain⟨x,r,rfl,h1,h2⟩:=h;rw[o6] at h2;subst h2;exact⟨x,rfl,h1⟩
theorem Yn0:FnR K (λxs H Q=>(∃z,xs=[.str z]/\z.length<=sizeLine/\Q (.int z.length) H)∨∃p ys,xs=[.ref p]/\(SqL K H p ys∨SqT K H p ys)/\Q (.int ys.length) H) Y0:=by
 intro H B xs ds d Q hb r h k;unfold Y0 at h;split at h
 ·split at h
  ·cases h
   obtain⟨v,rfl,r1⟩:=zj0 r;rw[c7] at r1;subst r1;exact .inl ⟨_,rfl,by assumption,k _ H (Same.refl H) (by rw[o9])⟩
  ·cases h
 ·cases h
  obtain⟨v,rfl,r1⟩:=zj0 r;rw[Z8] at r1;obtain⟨a,ys,rfl,q,rr⟩:=r1;exact .inr ⟨a,ys,rfl,.inl q.to,k _ H (Same.refl H) (by rw[o9,rr.length])⟩
 ·cases h
  obtain⟨v,rfl,r1⟩:=zj0 r;rw[Z4] at r1;obtain⟨a,ys,rfl,q,rr⟩:=r1;exact .inr ⟨a,ys,rfl,.inr q.to,k _ H (Same.refl H) (by rw[o9,rr.length])⟩
 ·cases h
theorem S8(hm:X.mg "len"=none)(ha:PDA X [e] gA)(hg:Gl X "len" := by rfl)(he:starEach [e] X.env=(false,eval e X.env)::starEach [] X.env:=by rfl)(hpl:(backTo pos (starEach [] X.env)).any (·.1)=false:=by rfl) :
  PD X (.Call (.Name "len" p) [e] [] pos) (oA gA Y0):=rw0 (mi0.or ld0) Yn0 hm j0 ha hg (by decide) (by decide) he hpl
theorem lq0:∀{ds:List D} {xs:List V} {bs:List Str},Rps K H B ds xs->th0 ds=some bs->xs=bs.map V.str
 | [],_,_,r,h=>by
  cases h;rw[o6] at r;exact r
 | d::ds,_,bs,r,h=>by
  rw[p8] at r;obtain⟨x,t,rfl,r1,r2⟩:=r;cases d<;>simp only[th0] at h<;>try cases h
  obtain⟨t',e,rfl⟩:=C6.mp h;rw[c7] at r1;rw[r1,lq0 r2 e];rfl
theorem Y10{apos cpos:Pos}(ho:PD X o g)(ha:PDA X [e] gA)(hbase:attributeBase o "join" X.env (eval o X.env)=eval o X.env:=by rfl)
  (hfew:((backTo cpos (starEach [e] X.env)).all (λx=>!x.1)&&(backToKw cpos (keywordEach [] X.env)).all (λx=>x.1.isSome)
  &&decide ([e].length+([]:List Keyword).length+(if ([]:List Keyword).isEmpty then 0 else 1)<30))=true:=by rfl)
  (hline:(apos.endLine==cpos.line)=true:=by rfl) (hs:starEach [e] X.env=(false,eval e X.env)::starEach [] X.env:=by rfl) (hplain:(backTo cpos (starEach [] X.env)).any (·.1)=false:=by rfl) :
  PD X (.Call (.Attribute o "join" apos) [e] [] cpos) (sn0 g gA):=.mk λB δ =>
 (ix0 F.plainAttrs_str F.slot_str_join F.type_str_join ae0 (ho B δ) (ha B δ) hbase hfew hline hs hplain).imp fun σ H Q ⟨d,en,h,k⟩=>by
  unfold sn0 at h;cases e1:g δ with
  | none=>rw[e1] at h;cases h
  | some x =>
   cases e2:gA δ with
   | none=>rw[e1,e2] at h;cases h
   | some ds =>
    rw[e1,e2] at h;simp only[Option.bind_some] at h;unfold nw0 at h;split at h
    ·cases e3:th0 _ with
     | none=>rw[e3] at h;cases h
     | some ys =>
      rw[e3] at h;simp only[Option.bind_some] at h;split at h
      ·cases h
       refine⟨_,en,e1,λv H1 s1 r1=>?_⟩;rw[c7] at r1;subst r1;refine⟨rfl,_,en.same s1,e2,λvs H2 s2 r2=>?_⟩;obtain⟨w,rfl,r3⟩:=zj0 r2;rw[Z8] at r3;obtain⟨a,zs,rfl,q,rr⟩:=r3;have:=lq0 rr e3;subst this;exact⟨_,a,ys,rfl,rfl,q.to,by assumption,k _ H2 (s1.trans s2) (by rw[c7])⟩
      ·cases h
    ·cases h
theorem G3:FnR K (λxs H Q=>∃p ys,xs=[.ref p]/\((SqL K H p ys/\∀l,H l=none->Q (.ref l) (upd H l (.tup ys)))∨(SqT K H p ys/\Q (.ref p) H))) U8:=by
 intro H B xs ds d Q hb r h k;unfold U8 at h;split at h
 ·cases h
  obtain⟨v,rfl,r1⟩:=zj0 r;rw[Z8] at r1;obtain⟨a,ys,rfl,q,rr⟩:=r1;exact⟨a,ys,rfl,.inl ⟨q.to,λl hl=>k _ _ (b7 hl) (so0 hb hl rr)⟩⟩
 ·cases h
  obtain⟨v,rfl,r1⟩:=zj0 r;have J:=r1;rw[Z4] at r1;obtain⟨a,ys,rfl,q,rr⟩:=r1;exact⟨a,ys,rfl,.inr ⟨q.to,k _ H (Same.refl H) J⟩⟩
 ·cases h
end
section
variable{a:Expr}{ga:Ds->Option D}
theorem v10(h:PD X a ga):PD X (.UnaryOp .USub a pos) (unG xi0 ga):=.mk λB δ=>(Ud0 Xk0 (h B δ)).imp fun σ H Q ⟨d,en,h,k⟩=>by
 unfold unG at h;cases e1:ga δ with
 | none=>rw[e1] at h;cases h
 | some x =>
  rw[e1] at h;cases x<;>simp[xi0] at h
  subst h;exact⟨_,en,e1,λv H' s r=>⟨_,by rw[o9] at r;exact r,k _ H' s (by rw[o9])⟩⟩
theorem c40:PD X (.Dict [] [] pos) (gc (.dct (.inl []) [])):=.mk λB δ pins s σ H Q I ⟨d,en,h,k⟩=>by
 cases h;have hb:sysModules<s.heap.objs.size:=E4 (by decide) ((I.mod.glob.keeps I.bk).lt:mainGlobals<s.heap.objs.size);have hf:H s.heap.objs.size=none:=I.hok.fresh (A2 _);refine A50 ⟨.ref s.heap.objs.size,_,I.laid (a:=s.heap.objs.size) (o:=.dK []) (t':=s.toks) (λ_ _ q=>B0 _ q) (A2 _)
  ⟨C4 _,N4.mpr (B6 (A9 hb)),[],.nil,Heap.DictOf.new s.heap⟩,rfl,k _ _ (b7 hf) ?_⟩
 rw[ul0];exact⟨_,[],rfl,en.free hf,m8,rfl,by rw[o6]⟩
def FnD(P:Program)(w:World)(K:W.Frag)(mg:Str->Option Value)(base:Heap)(x:Str)(k:Nat)(ps:List Str)(f:List D->Option D):Prop :=
 ∃(fa:Addr) (fd:FuncData),FnOk P w K mg base CX0 k fa fd ps (spD K f)/\mg x=some (.ref fa)/\W.keepIn K (.ref fa)=true/\Binds K fd ps []
theorem Z1{k:Nat}{ps:List Str}{f:List D->Option D}(C:FnD X.prog X.w X.K X.mg X.base x k ps f)(hr:Room m X.A)(hk:k<=m)(ha:PDA X (e::es) gA)(hg:Gl X x:=by rfl)(hdb:(x==("__debug__" : Str))=false:=by decide)
  (he:starEach (e::es) X.env=(false,eval e X.env)::starEach es X.env:=by rfl) (hpl:(backTo pos (starEach es X.env)).any (·.1)=false:=by rfl):PD X (.Call (.Name x p) (e::es) [] pos) (oA gA f):=by
 obtain⟨fa,fd,F,hm,kp,hb⟩:=C;exact Z30 F (hr.mono hk) hm kp hb ha hg hdb he hpl
theorem zk0{sc scope:Scope}{elt iter tg:Expr}{ifs:List Expr}{N N':List Str}{n:Nat}{caps:List Nat}{gi:Ds->Option (List D)}{idx:List Nat}{f:D->Ds->Option Ds}{gt:Ds->Option Bool}{ge:Ds->Option D}
  (ok:CompOk sc scope N N' n caps) (hidx:∀j∈idx,j<n) (hi:PID X tg iter gi)
  (hg:∀cl s H ex,PGD (Z2 X scope cl N' s H ex) tg idx f) (ht:∀cl s H ex,PFD (Z2 X scope cl N' s H ex) ifs gt) (he:∀cl s H ex,PD (Z2 X scope cl N' s H ex) elt ge)
  (hc:X.calm=true:=by rfl) (hsc:X.env.scope=sc:=by rfl) (hN:X.N=N:=by rfl) (hs:∀x,foldedSetIterable iter X.env x=pure x:=by intro _;rfl) :
  PD X (.ListComp elt [⟨tg,iter,ifs,0⟩] scope pos) (Y8 n caps gi f gt ge):=Y80 hc hsc (hN▸ok) hidx hi hg ht he hs
theorem da0(i:Nat){y:Str}{py spos:Pos}{sc scope:Scope}{elt iter tg:Expr}{ifs:List Expr}{N N':List Str}{n:Nat}{caps:List Nat}{gi:Ds->Option (List D)}{idx:List Nat}{f:D->Ds->Option Ds}{gt:Ds->Option Bool}{ge:Ds->Option D}
  (hnd:N.Nodup) (ok:CompOk sc scope N N' n caps) (hidx:∀j∈idx,j<n) (hi:PID X tg iter gi)
  (hg:∀cl s H ex,PGD (Z2 X scope cl N' s H ex) tg idx f) (ht:∀cl s H ex,PFD (Z2 X scope cl N' s H ex) ifs gt) (he:∀cl s H ex,PD (Z2 X scope cl N' s H ex) elt ge)
  (hc:X.calm=true:=by rfl) (hsc:X.env.scope=sc:=by rfl) (hN:X.N=N:=by rfl)
  (hiN:X.N[i]?=some y:=by rfl) (hy:Loc X.env.scope y:=by first|exact Or.inl rfl|exact Or.inr rfl)
  (hsw:swapsWith (.ListComp elt [⟨tg,iter,ifs,0⟩] scope pos) (some (.Name y py)) spos.line X.env=pure true:=by rfl)
  (hs:∀x,foldedSetIterable iter X.env x=pure x:=by intro _;rfl)
  (hf:X.fn y=true∨X.env.scope.names.lookup y=some .local:=by first|exact .inl rfl|exact .inr rfl|assumption) :
  PSD X (.Assign [.Name y py] (.ListComp elt [⟨tg,iter,ifs,0⟩] scope pos) spos) (n6 (gN i) (Y8 n caps gi f gt ge)):=kq0 i (hN▸hnd) hc hsc (hN▸ok) hidx hi hg ht he hiN hy hsw hs hf
end
end DL
namespace DL
open Spec PyProof.Rows
@[simp] def fz:D->Sl
 | .tup [.lst _,.lst _]=>.un
 | d=>.sh (unl d)
@[simp] def G5:Sl->Sl
 | .ow d=>fz d
 | s=>s
@[simp] def frz(δ:Ds):Ds:=δ.map G5
@[simp] def flat:D->Bool
 | .non=>true|.bl _=>true|.int _=>true|.str _=>true|_=>false
@[simp] def zs0(g:GE):GE:=fun δ=>(g (frz δ)).bind λd=>if flat d=true then some d else none
@[simp] def w80(g:GB):GB:=fun δ=>g (frz δ)
@[simp] def vp0(g:GE):GE:=fun δ=>g (frz δ)
@[simp] def frzAt(i:Nat)(δ:Ds):Ds:=match δ[i]? with
 | some s=>δ.set i (G5 s)
 | none=>δ
@[simp] def pi0(i:Nat)(G:GS):GS:=fun δ=>G (frzAt i δ)
@[simp] def T3(i:Nat)(g:GE):GS:=fun δ=>(g δ).map λd=>.nx (δ.set i (.ow d))
abbrev GX:=Ds->Option (D×Ds)
@[simp] def O9(g:GE):GX:=fun δ=>(g δ).map λd=>(d,δ)
variable{gx:DL.GX}
@[simp] def W7(gx:GX)(ft:D->Ds->Option Ds):GS:=fun δ=>(gx δ).bind λr=>(ft r.1 r.2).map .nx
@[simp] def b8(gx:GX):GS:=fun δ=>(gx δ).map λr=>.nx r.2
@[simp] def owL(i:Nat)(δ:Ds):Option (List D):=match δ[i]? with
 | some (.ow (.lst ds))=>some ds
 | _=>none
@[simp] def V5(i:Nat)(g:GE):GX:=fun δ=>(owL i δ).bind λds=>(g δ).bind λd=>if ds.length<sizeLine then some (.non,δ.set i (.ow (.lst (ds++[d])))) else none
@[simp] def o60(i:Nat)(g:GE):GX:=fun δ=>(owL i δ).bind λds=>(g δ).bind λd=>match d with
 | .lst es=>if ds.length+es.length<=sizeLine then some (.non,δ.set i (.ow (.lst (ds++es)))) else none
 | _=>none
@[simp] def zz0(i:Nat):GX:=fun δ=>(owL i δ).bind λds=>(ds.getLast?).map λd=>(d,δ.set i (.ow (.lst ds.dropLast)))
@[simp] def setAt(i:Nat)(g:GE):D->Ds->Option Ds:=λv δ=>(owL i δ).bind λds=>(g δ).bind λd=>match d with
 | .int k=>(ixN ds.length k).map λj=>δ.set i (.ow (.lst (ds.set j v)))
 | _=>none
abbrev O8:=Sum Int Str
@[simp] def zw0:D->Option O8
 | .int i=>some (.inl i)
 | .str x=>some (.inr x)
 | _=>none
def s60:List D->Option (List O8)
 | []=>some []
 | d::ds=>(zw0 d).bind λk=>(s60 ds).map (k::·)
@[simp] def y50:D->Option (List O8)
 | .tup ds=>s60 ds
 | _=>none
def z60{κ:Type}[DecidableEq κ]:List κ->List D->κ->Option D
 | k::ks,d::ds,q=>if k=q then some d else z60 ks ds q
 | _,_,_=>none
def V8{κ:Type}[DecidableEq κ](ks:List κ)(k:κ):Bool:=ks.any λq=>decide (q=k)
def W8{κ:Type}[DecidableEq κ](ks:List κ)(k:κ):List κ:=if V8 ks k=true then ks else ks++[k]
def W9{κ:Type}[DecidableEq κ](ks:List κ)(ds:List D)(q:κ)(v:D):List D:=if V8 ks q=true then (ks.zip ds).map (λp=>if p.1=q then v else p.2) else ds++[v]
@[simp] def ut0(i:Nat)(δ:Ds):Option (List O8×List D):=match δ[i]? with
 | some (.ow (.dct (.inl ks) ds))=>some (ks,ds)
 | _=>none
@[simp] def putAt(i:Nat)(g:GE):D->Ds->Option Ds:=λv δ=>(ut0 i δ).bind λr=>(g δ).bind λd=>(zw0 d).bind λk =>
 if r.1.length<sizeLine then some (δ.set i (.ow (.dct (.inl (W8 r.1 k)) (W9 r.1 r.2 k v)))) else none
@[simp] def h90(i:Nat)(δ:Ds):Option (List (List O8)×List D):=match δ[i]? with
 | some (.ow (.dct (.inr ks) ds))=>some (ks,ds)
 | _=>none
@[simp] def qo0(i:Nat)(g:GE):D->Ds->Option Ds:=λv δ=>(h90 i δ).bind λr=>(g δ).bind λd=>(y50 d).bind λk =>
 if r.1.length<sizeLine then some (δ.set i (.ow (.dct (.inr (W8 r.1 k)) (W9 r.1 r.2 k v)))) else none
@[simp] def O1:D->D->Option D
 | .dct ks ds,d=>match ks with
  | .inl ks=>(zw0 d).bind λk=>z60 ks ds k
  | .inr ks=>(y50 d).bind λk=>z60 ks ds k
 | _,_=>none
@[simp] def y60(neg:Bool):D->D->Option D
 | d,.dct ks ds=>match ks with
  | .inl ks=>(zw0 d).map λk=>.bl (xor neg (V8 ks k))
  | .inr ks=>(y50 d).map λk=>.bl (xor neg (V8 ks k))
 | _,_=>none
def Z5(gt:GB)(G:GS):Nat->Ds->Option Res
 | 0,_=>none
 | n+1,δ=>match gt δ with
  | some false=>some (.nx δ)
  | some true=>match G δ with
   | some (.nx δ')=>Z5 gt G n δ'
   | some (.ct δ')=>Z5 gt G n δ'
   | some (.bk δ')=>some (.nx δ')
   | r=>r
  | none=>none
@[simp] def vl0(i j:Nat):D->Ds->Option Ds
 | .tup [a,b],δ=>some ((δ.set i (.sh a)).set j (.sh b))
 | _,_=>none
mutual
def deq:D->D->Bool
 | .non,.non=>true
 | .bl a,.bl b=>a==b
 | .bl a,.int b=>(if a then 1 else 0)==b
 | .int a,.bl b=>a==(if b then 1 else 0)
 | .int a,.int b=>a==b
 | .str a,.str b=>a==b
 | .tup xs,.tup ys=>J5 xs ys
 | .lst xs,.lst ys=>J5 xs ys
 | _,_=>false
def J5:List D->List D->Bool
 | [],[]=>true
 | x::xs,y::ys=>deq x y&&J5 xs ys
 | _,_=>false
end
mutual
def lean:D->Nat->Bool
 | .dct _ _,_=>false
 | .fn _ _,_=>false
 | .tup xs,n+1=>leans xs n
 | .lst xs,n+1=>leans xs n
 | .tup _,0=>false
 | .lst _,0=>false
 | _,_=>true
def leans:List D->Nat->Bool
 | [],_=>true
 | x::xs,n=>lean x n&&leans xs n
end
@[simp] def zy0(x y:D):Option D:=if lean x 50=true/\lean y 50=true then some (.bl (deq x y)) else none
@[simp] def yb0(x y:D):Option D:=if lean x 50=true/\lean y 50=true then some (.bl (!deq x y)) else none
@[simp] def eqF:D->D->Bool
 | .non,.non=>true
 | .bl a,.bl b=>a==b
 | .bl a,.int b=>(if a then 1 else 0)==b
 | .int a,.bl b=>a==(if b then 1 else 0)
 | .int a,.int b=>a==b
 | .str a,.str b=>a==b
 | _,_=>false
@[simp] def ws0(neg:Bool):D->D->Option D
 | x,.lst ys=>if flat x=true/\ys.all flat=true then some (.bl (xor neg (ys.any λy=>eqF y x))) else none
 | x,.tup ys=>if flat x=true/\ys.all flat=true then some (.bl (xor neg (ys.any λy=>eqF y x))) else none
 | _,_=>none
@[simp] def intOfD:List D->Option D
 | [.int i]=>some (.int i)
 | [.bl k]=>some (.int (if k then 1 else 0))
 | _=>none
@[simp] def qg0:List D->Option D
 | [.lst ds]=>some (.lst ds)
 | [.tup ds]=>some (.lst ds)
 | _=>none
def mkF(n:Nat)(N:List Str)(G:GS)(ds:List D):Option D:=if ds.length=n then (match G (Z6 N ds) with
 | some (.rt d)=>some d
 | some (.rf d)=>if isL d=true then none else some d
 | some (.nx _)=>some .non
 | _=>none) else none
theorem V3{G:GS}{d:D}(h:mkF n N G ds=some d):ds.length=n/\(G (Z6 N ds)=some (.rt d)∨(d=.non/\∃δ,G (Z6 N ds)=some (.nx δ))∨G (Z6 N ds)=some (.rf d)/\isL d=false):=by
 unfold mkF at h;split at h
 ·rename_i hl
  refine⟨hl,?_⟩;split at h
  ·rename_i e;cases h;exact .inl e
  ·rename_i e
   split at h
   ·cases h
   ·rename_i hn
    cases h;exact .inr (.inr ⟨e,Bl0.mpr hn⟩)
  ·rename_i e;cases h;exact .inr (.inl ⟨rfl,_,e⟩)
  ·cases h
 ·cases h
def mkN(n:Nat)(N:List Str)(G:GS)(ds:List D):Option D:=if ds.length=n then (match G (Z6 N ds) with
 | some (.rf d)=>if isL d=true then none else some d
 | _=>none) else none
theorem y20{G:GS}{d:D}(h:mkN n N G ds=some d):ds.length=n/\G (Z6 N ds)=some (.rf d)/\isL d=false:=by
 unfold mkN at h;split at h
 ·rename_i hl
  refine⟨hl,?_⟩;split at h
  ·rename_i e
   split at h
   ·cases h
   ·rename_i hn
    cases h;exact⟨e,Bl0.mpr hn⟩
  ·cases h
 ·cases h
theorem O2{G:GS}{d:D}(hl:ds.length=n)(h:G (Z6 N ds)=some (.rf d))(hn:isL d=false:=by rfl):mkN n N G ds=some d:=by
 unfold mkN;rw[if_pos hl,h];simp only[];rw[hn];rfl
@[simp] def yg0(g:GE):GS:=fun δ=>(g δ).map .rf
@[simp] def q00(i:Nat):GS:=fun δ=>match δ[i]? with
 | some (.ow d)=>some (.rf d)
 | _=>none
theorem Q9{G1 G2:GS}{d:D}(h:G1 δ=some (.rf d)):v4 G1 G2 δ=some (.rf d):=by unfold v4;rw[h]
theorem zv0{g:GE}{d:D}(h:g δ=some d):yg0 g δ=some (.rf d):=by unfold yg0;rw[h];rfl
theorem d8{G:GS}{d:D}(hl:ds.length=n)(h:G (Z6 N ds)=some (.rt d)):mkF n N G ds=some d:=by
 unfold mkF;rw[if_pos hl,h]
theorem v5{G1 G2:GS}{r:Option Res}(h:G1 δ=some (.nx δ'))(k:G2 δ'=r):v4 G1 G2 δ=r:=(Wd0 h).trans k
@[simp] def Z0:D->D->Option D
 | .int i,.int j=>some (.int (i+j))
 | .str x,.str y=>if x.length+y.length<=sizeLine then some (.str (x++y)) else none
 | .lst xs,.lst ys=>if xs.length+ys.length<=sizeLine then some (.lst (xs++ys)) else none
 | .tup xs,.tup ys=>if xs.length+ys.length<=sizeLine then some (.tup (xs++ys)) else none
 | _,_=>none
def if0(x:Str)(n:Int):Str:=⟨(List.replicate n.toNat x.cps).foldl (·++·) #[]⟩
@[simp] def Q7:D->D->Option D
 | .int i,.int j=>if (-(2 ^ 64)<i/\i<2 ^ 64)∨(-(2 ^ 64)<j/\j<2 ^ 64) then some (.int (i*j)) else none
 | .str x,.int n=>if -(2 ^ 62)<=n/\n<2 ^ 62/\x.length*n.toNat<=sizeLine then some (.str (if0 x n)) else none
 | .tup xs,.int k=>if xs≠[]/\2<=k/\k<2 ^ 62/\xs.length*k.toNat<=sizeLine then some (.tup (List.replicate k.toNat xs).flatten) else none
 | _,_=>none
@[simp] def slA(d:D)(lo hi:Option Int):Option D:=match d with
 | .str z=>if z.length<=sizeLine then some (.str (Txt.slice z lo hi)) else none
 | .lst xs=>some (.lst (cutD xs lo hi))
 | .tup xs=>some (.tup (cutD xs lo hi))
 | _=>none
@[simp] def M8(g:GE)(gl gh:GO):GE:=fun δ=>(g δ).bind λd=>(gl δ).bind λl=>(gh δ).bind λh=>slA d l h
end DL
variable{gx:DL.GX}
namespace Dep
open Spec PyProof.Rows
section
variable{w:World}{K:Type}[DecidableEq K]{knd:HeapKind prog w K}{A:Around}{s:Shared}{d:Addr}{xs:List (K×Addr×Value)}{k:K}{Q:Unit->Shared->Prop}
def At(knd:HeapKind prog w K)(h:Heap)(d:Addr)(xs:List (K×Addr×Value)):Prop :=
 ∃o es ep,h.get? d=some o/\o.ExactDict/\o.data=.dict es ep/\es.toList=xs.map (entryOfKey knd)/\(∀x∈xs,knd.is h x.1 x.2.1)/\(xs.map (·.1)).Nodup/\ep=es.size
theorem At.old{h:Heap}(x:At knd h d xs):h.DictOfH knd d xs:=by obtain⟨o,es,ep,a,b,c,e,f,g,_⟩:=x;exact⟨o,es,ep,a,b,c,e,f,g⟩
theorem put(hu:knd.room A)(hkey:knd.is s.heap k a)(hm:At knd s.heap d xs)
  (hQ:∀h',At knd h' d (storedH xs k a v)->Heap.SameBut d s.heap h'->Q () { s with heap:=h',toks:=s.toks+knd.draws k }) (hsz:xs.length<=sizeLine) :
  wpAny (model prog w) A (dictSet d (.ref a) v) Q E s:=by
 obtain⟨o,es,ep,ho,hc,hd,he,J,hn,hp⟩:=hm;unfold dictSet
 try with_reducible refine B9 ?_
 refine A0 (knd.pyHash hu hkey ?_);unfold dictSetHashed
 try with_reducible refine B9 ?_
 refine A0 (wpAny_dictFind_heap (s:={ s with toks:=s.toks+knd.draws k }) hu hkey ho hd he J hn ?_ ?_)
 ·intro O
  have M:=atKey_none_of_get O;have Z:k∉xs.map (·.1):=not_mem_keys_of_get O;refine A0 (D9 (wpAny_updateDictKeys (hz:=by have e:=size_of_entries he;omega) (s:={ s with toks:=s.toks+knd.draws k }) ho hd (hQ _ ?_ (E5 ..))));rw[storedH_new M];refine⟨_,_,ep+1,L4 _ ho (A60 (j3 hd _)),hc.mapDictKeys _,j3 hd _,by simp[he,entryOfKey],λx hx=>?_,?_,by simp[hp]⟩
  ·rcases B1.mp hx with hx|hx
   ·exact knd.keeps (J x hx) ho hd (E5 ..)
   ·rw[List.mem_singleton.mp hx];exact knd.keeps hkey ho hd (E5 ..)
  ·rw[List.map_append,List.nodup_append]
   exact⟨hn,by simp,λx hx y hy e=>Z (by rw[List.map_cons,List.map_nil,List.mem_singleton] at hy;have e2:x=k:=e.trans hy;rw[← e2];exact hx)⟩
 ·intro j p hj
  have a0:=atKey_of_get hn hj;refine A0 (D9 (A0 (wpAny_updateDict (s:={ s with toks:=s.toks+knd.draws k }) ho hd (wpAny_point (hQ _ ?_ (E5 ..))))));rw[storedH_old a0];refine⟨_,_,ep,L4 _ ho (A60 (Obj.data_mapDict hd _)),hc.mapDict _,Obj.data_mapDict hd _,?_,λx hx=>?_,?_,by simp[hp]⟩
  ·have:=modify_map_putAt (entryOfKey knd) (λe:DictEntry=>{ e with val:=v }) k v (λ_ _=>rfl) hn hj
   rw[← he] at this;obtain⟨l⟩:=es
   simpa using this
  ·obtain⟨y,hy,rfl⟩:=A7.mp hx
   unfold putAt;split<;>exact knd.keeps (J y hy) ho hd (E5 ..)
  ·rw[keys_map_putAt];exact hn
theorem set(hu:knd.room A.in1)(hkey:knd.is s.heap k a)(hm:At knd s.heap d xs)
  (hQ:∀h',At knd h' d (storedH xs k a v)->Heap.SameBut d s.heap h'->Q () { s with heap:=h',toks:=s.toks+knd.draws k }) (hsz:xs.length<=sizeLine) :
  wpAny (model prog w) A (setItem (.ref d) (.ref a) v) Q E s:=by
 have ty:=hm.old.typeIs;unfold setItem
 try with_reducible refine B9 ?_
 refine A0 (y0 ty (by decide) ?_);refine A0 (L3 (name:=Str.ofString "__setitem__") ty slot_dict_setitem (D4 slot_dict_setitem ty entry_dict_setitem ?_ (args_dict_setitem _ _ _)));show wpAny _ _ (Builtin.Dict.notOrdered "__setitem__" ⟨[.ref d,.ref a,v],[]⟩>>=_) _ _ s;refine A0 (k0 ty ?_);show wpAny _ _ (dictSet d (.ref a) v>>=_) _ _ s;exact A0 (put hu hkey hm (λh' M J=>A1 ⟨.none,rfl,A1 (hQ h' M J)⟩) hsz)
end
end Dep
namespace L2
open Spec PyProof.Rows
section
variable[DecidableEq κ]
def S5(kvs:List (κ×V))(k:κ):Option V:=(kvs.find? λkv=>decide (kv.1=k)).map (·.2)
def putK(kvs:List (κ×V))(k:κ)(v:V):List (κ×V) :=
 if (kvs.any λkv=>decide (kv.1=k))=true then kvs.map (λkv=>if kv.1=k then (kv.1,v) else kv) else kvs++[(k,v)]
theorem yi0{p:κ×V}{r:List (κ×V)}{k:κ}(e:p.1=k):S5 (p::r) k=some p.2:=by simp[S5,List.find?_cons,e]
theorem yd0{p:κ×V}{r:List (κ×V)}{k:κ}(e:¬p.1=k):S5 (p::r) k=S5 r k:=by simp[S5,List.find?_cons,e]
theorem mq0(k:κ):∀kvs:List (κ×V),(kvs.any λkv=>decide (kv.1=k))=(S5 kvs k).isSome
 | []=>rfl
 | p::r=>by
  rw[List.any_cons]
  by_cases e:p.1=k
  ·simp only[yi0 e,decide_eq_true e,Bool.true_or,Option.isSome_some]
  ·rw[yd0 e,decide_eq_false e,Bool.false_or];exact mq0 k r
theorem xv0(kvs:List (κ×V))(k:κ)(v:V):(putK kvs k v).length<=kvs.length+1:=by
 unfold putK;split
 ·rw[List.length_map];omega
 ·rw[List.length_append,List.length_cons,List.length_nil];omega
theorem RelO.isSome_eq{o:Option V}{u:Option Value}(r:RelO o u):o.isSome=u.isSome:=by
 cases o with
 | none=>cases u with
  | none=>rfl
  | some _=>exact(show False from r).elim
 | some _=>cases u with
  | none=>exact(show False from r).elim
  | some _=>rfl
theorem KV.val{kvs:List (κ×V)}{vs:List (κ×Value)}(r:KV kvs vs)(k:κ):RelO (S5 kvs k) (valueAt vs k):=by
 unfold KV at r
 induction r with
 | nil=>exact True.intro
 | @cons p q ps qs h t ih =>
  obtain⟨h1,h2⟩:=h
  by_cases e:p.1=k
  ·have e':q.1=k:=h1.symm.trans e
   have b:valueAt (q::qs) k=some q.2:=by simp[valueAt,List.find?_cons,e']
   rw[yi0 e,b];exact h2
  ·have e':¬q.1=k:=λz=>e (h1.trans z)
   have b:valueAt (q::qs) k=valueAt qs k:=by simp[valueAt,List.find?_cons,e']
   rw[yd0 e,b];exact ih
theorem KV.any{kvs:List (κ×V)}{vs:List (κ×Value)}(r:KV kvs vs)(k:κ):(kvs.any λkv=>decide (kv.1=k))=vs.any λkv=>decide (kv.1=k):=by
 unfold KV at r
 induction r with
 | nil=>rfl
 | cons h t ih=>rw[List.any_cons,List.any_cons,ih,h.1]
theorem KV.repl{kvs:List (κ×V)}{vs:List (κ×Value)}(r:KV kvs vs)(k:κ)(ry:RelV y u) :
  KV (kvs.map λkv=>if kv.1=k then (kv.1,y) else kv) (vs.map λkv=>if kv.1=k then (kv.1,u) else kv):=by
 unfold KV at r ⊢
 induction r with
 | nil=>exact .nil
 | @cons p q ps qs h t ih =>
  rw[List.map_cons,List.map_cons];refine .cons ?_ ih;obtain⟨h1,h2⟩:=h
  by_cases e:p.1=k
  ·rw[if_pos e,if_pos (h1.symm.trans e)];exact⟨h1,ry⟩
  ·rw[if_neg e,if_neg (λz=>e (h1.trans z))];exact⟨h1,h2⟩
theorem KV.put{kvs:List (κ×V)}{vs:List (κ×Value)}(r:KV kvs vs)(k:κ)(ry:RelV y u):KV (putK kvs k y) (stored vs k u):=by
 unfold putK stored;rw[r.any k]
 by_cases e:(vs.any λkv=>decide (kv.1=k))=true
 ·rw[if_pos e,if_pos e];exact r.repl k ry
 ·rw[if_neg e,if_neg e];exact Paired.snoc r ⟨rfl,ry⟩
theorem KV.length{kvs:List (κ×V)}{vs:List (κ×Value)}(r:KV kvs vs):kvs.length=vs.length:=S0 r
end
theorem pb0{P:Program}{w:World}{k:Key}(r:RelV (kV k) u):(Y9 P w).is k u=true:=by
 cases k with
 | inl i=>obtain⟨t,e⟩:=(show ∃t,u=Value.int i t from r);subst e;exact kx0 P w i t
 | inr x=>obtain⟨t,e⟩:=(show ∃t,u=Value.str x t from r);subst e;exact kl0 P w x t
theorem oq0{P:Program}{w:World}:∀{ks:List Key} {us:List Value},Vals (ks.map kV) us->ItemsAre (Y9 P w) ks us
 | [],_,r=>by rw[List.map_nil] at r;cases r;exact .nil
 | k::ks,_,r=>by
  rw[List.map_cons] at r;cases r with
  | cons h t=>exact .cons (pb0 h) (oq0 t)
abbrev KT(H:Hp):List (List Key×V)->List (List Key×Addr×Value)->Prop:=Paired λp q=>p.1=q.1/\H q.2.1=some (.tup (p.1.map kV))/\RelV p.2 q.2.2
theorem KT.val{xs:List (List Key×Addr×Value)}(r:KT H kvs xs)(k:List Key):RelO (S5 kvs k) ((atKey xs k).map (·.2)):=by
 induction r with
 | nil=>exact True.intro
 | @cons p q ps qs h t ih =>
  obtain⟨h1,_,h2⟩:=h
  by_cases e:p.1=k
  ·have e':q.1=k:=h1.symm.trans e
   have b:atKey (q::qs) k=some q.2:=by simp[atKey,List.find?_cons,e']
   rw[yi0 e,b];exact h2
  ·have e':¬q.1=k:=λz=>e (h1.trans z)
   have b:atKey (q::qs) k=atKey qs k:=by simp[atKey,List.find?_cons,e']
   rw[yd0 e,b];exact ih
theorem KT.repl{xs:List (List Key×Addr×Value)}(r:KT H kvs xs)(k:List Key)(ry:RelV y u) :
  KT H (kvs.map λkv=>if kv.1=k then (kv.1,y) else kv) (xs.map (putAt k u)):=by
 induction r with
 | nil=>exact .nil
 | @cons p q ps qs h t ih =>
  rw[List.map_cons,List.map_cons];refine .cons ?_ ih;obtain⟨h1,h2,h3⟩:=h;unfold putAt
  by_cases e:p.1=k
  ·rw[if_pos e,if_pos (h1.symm.trans e)];exact⟨h1,h2,ry⟩
  ·rw[if_neg e,if_neg (λz=>e (h1.trans z))];exact⟨h1,h2,h3⟩
theorem KT.put{xs:List (List Key×Addr×Value)}(r:KT H kvs xs)(k:List Key){b:Addr}(hb:H b=some (.tup (k.map kV)))(ry:RelV y u) :
  KT H (putK kvs k y) (storedH xs k b u):=by
 have e:(kvs.any λkv=>decide (kv.1=k))=(atKey xs k).isSome:=by
  rw[mq0,(r.val k).isSome_eq,Option.isSome_map]
 unfold putK storedH;rw[e]
 by_cases q:(atKey xs k).isSome=true
 ·rw[if_pos q,if_pos q];exact r.repl k ry
 ·rw[if_neg q,if_neg q];exact Paired.snoc r ⟨rfl,hb,ry⟩
theorem KT.keeps{xs:List (List Key×Addr×Value)}(r:KT H kvs xs)(ht:∀b ys,H b=some (.tup ys)->H' b=some (.tup ys)):KT H' kvs xs :=
 Paired.mapP r λ_ _ z=>⟨z.1,ht _ _ z.2.1,z.2.2⟩
section
variable{P:Program}{w:World}{h:Heap}
theorem bo0{u:HO}(ok:HOk P w H h)(e:Rd H a u):ObjOk P w H h a u:=e.ok ok
theorem qx0{kvs:List (Key×V)}(ok:HOk P w H h)(e:Rd H a (.dK kvs)):kvs.length<=sizeLine/\(a==sysModules)=false/\∃vs,KV kvs vs/\h.DictOf (Y9 P w) a vs :=
 show ObjOk P w H h a (.dK kvs) from bo0 ok e
theorem q40{kvs:List (Key×V)}(ok:HOk P w H h)(e:H a=some (.dK kvs)):kvs.length<=sizeLine/\(a==sysModules)=false/\∃vs,KV kvs vs/\h.DictOf (Y9 P w) a vs:=qx0 ok (.inl e)
theorem tf0(ok:HOk P w H h)(e:H a=some (.tup (ks.map kV))):(tupleKind (Y9 P w)).is h ks a:=by
 obtain⟨_,its,r,o,h1,h2,n,h3,_⟩:=(show ObjOk P w H h a (.tup (ks.map kV)) from ok a _ e);exact⟨o,its.toArray,n,h1,h2,h3,by simpa using oq0 r⟩
theorem lh0(ok:HOk P w H h)(e:Rd H a (.dT kvs)):kvs.length<=sizeLine/\(a==sysModules)=false /\
  ∃xs,KT H kvs xs/\Dep.At (tupleKind (Y9 P w)) h a xs:=by
 obtain⟨z,y,xs,r,o,es,ep,h1,h2,h3,h4,h5,h6⟩:=(show ObjOk P w H h a (.dT kvs) from bo0 ok e);refine⟨z,y,xs,r,o,es,ep,h1,h2,h3,h4,λx hx=>?_,h5,h6⟩;have all:∀{l:List (List Key×V)} {m:List (List Key×Addr×Value)},KT H l m->∀x∈m,(tupleKind (Y9 P w)).is h x.1 x.2.1:=by
  intro l m q
  induction q with
  | nil=>intro x hx;exact nomatch hx
  | @cons p q ps qs hq t ih =>
   intro x hx;rcases A4.mp hx with e|hx
   ·subst e
    exact tf0 ok (by rw[← hq.1];exact hq.2.1)
   ·exact ih x hx
 exact all r x hx
theorem m50(ok:HOk P w H h)(e:Rd H a (.dT kvs)):kvs.length<=sizeLine/\(a==sysModules)=false /\
  ∃xs,KT H kvs xs/\h.DictOfH (tupleKind (Y9 P w)) a xs:=by
 obtain⟨z,y,xs,r,d⟩:=lh0 ok e;exact⟨z,y,xs,r,d.old⟩
end
def DGet(H:Hp)(a:Addr)(y:V)(r:Option V):Prop :=
 (∃kvs k,Rd H a (.dK kvs)/\y=kV k/\r=S5 kvs k)∨∃kvs k b,Rd H a (.dT kvs)/\y=.ref b/\H b=some (.tup (k.map kV))/\r=S5 kvs k
def DPut(H:Hp)(a:Addr)(y v:V)(H':Hp):Prop :=
 (∃kvs k,H a=some (.dK kvs)/\y=kV k/\kvs.length<sizeLine/\H'=upd H a (.dK (putK kvs k v))) ∨
 ∃kvs k b,H a=some (.dT kvs)/\y=.ref b/\H b=some (.tup (k.map kV))/\kvs.length<sizeLine/\H'=upd H a (.dT (putK kvs k v))
theorem DGet.k{kvs:List (Key×V)}{k:Key}(e:H a=some (.dK kvs)):DGet H a (kV k) (S5 kvs k):=.inl ⟨kvs,k,.inl e,rfl,rfl⟩
theorem DGet.t{b:Addr}{k:List Key}(e:H a=some (.dT kvs))(eb:H b=some (.tup (k.map kV))):DGet H a (.ref b) (S5 kvs k):=.inr ⟨kvs,k,b,.inl e,rfl,eb,rfl⟩
theorem DPut.k{kvs:List (Key×V)}{k:Key}{v:V}(e:H a=some (.dK kvs))(hl:kvs.length<sizeLine):DPut H a (kV k) v (upd H a (.dK (putK kvs k v))):=.inl ⟨kvs,k,e,rfl,hl,rfl⟩
theorem DPut.t{b:Addr}{k:List Key}{v:V}(e:H a=some (.dT kvs))(eb:H b=some (.tup (k.map kV)))(hl:kvs.length<sizeLine) :
  DPut H a (.ref b) v (upd H a (.dT (putK kvs k v))):=.inr ⟨kvs,k,b,e,rfl,eb,hl,rfl⟩
section
variable{σ:St}{s:Shared}{v:V}{r:Value}{o:Option V}{A:Around}
theorem Inv.big(I:Inv X pins σ H s):sysModules<s.heap.objs.size:=by
 have h:mainGlobals<s.heap.objs.size:=(I.mod.glob.keeps I.bk).lt;exact E4 (by decide) h
theorem ff0(hu:A.units+1<cLine)(I:Inv X pins σ H s)(g:DGet H a y (some v))(ry:RelV y u)(h:∀w' s',Inv X pins σ H s'->RelV v w'->Q w' s') :
  wpAny (model X.prog X.w) A (getItem (.ref a) u) Q E s:=by
 rcases g with⟨kvs,k,e,ey,l⟩|⟨kvs,k,b,e,ey,eb,l⟩
 ·subst ey
  obtain⟨z,hd,vs,rel,dd⟩:=qx0 I.hok e;obtain⟨w',hw,J⟩:=RelO.some_of (v:=v) (o:=valueAt vs k) (by rw[l];exact rel.val k);exact wpAny_getItem_of (pb0 ry) dd.mapOf hw (h w' _ (I.tok _) J)
 ·subst ey
  cases (show u=Value.ref b from ry);obtain⟨z,hd,xs,rel,dd⟩:=m50 I.hok e;obtain⟨w',hw,J⟩:=RelO.some_of (v:=v) (o:=(atKey xs k).map (·.2)) (by rw[l];exact rel.val k);obtain⟨p,hp,M⟩:=C6.mp hw;refine wpAny_getItem_heap (A80 hu) (tf0 I.hok eb) dd hp ?_;rw[M];exact h w' _ (I.tok _) J
theorem ah0(hu:A.units+1<cLine)(I:Inv X pins σ H s)(g:DGet H a y o)(ry:RelV y u)(h:∀s',Inv X pins σ H s'->Q (.bool (!o.isSome)) s') :
  wpAny (model X.prog X.w) A (compareOp .NotIn u (.ref a)) Q E s:=by
 rcases g with⟨kvs,k,e,ey,l⟩|⟨kvs,k,b,e,ey,eb,l⟩
 ·subst ey
  obtain⟨z,hd,vs,rel,dd⟩:=qx0 I.hok e;refine wpAny_notIn_of (pb0 ry) hd dd.mapOf ?_;rw[← (rel.val k).isSome_eq,← l];exact h _ (I.tok _)
 ·subst ey
  cases (show u=Value.ref b from ry);obtain⟨z,hd,xs,rel,dd⟩:=m50 I.hok e;refine wpAny_notIn_heap (A80 hu) (tf0 I.hok eb) hd dd ?_;have q:=(rel.val k).isSome_eq;rw[Option.isSome_map] at q;rw[← q,← l];exact h _ (I.tok _)
theorem vt0{t':Nat}{ob:HO}(I:Inv X pins σ H s)(mu:Mut (H a))(hs:Heap.SameBut a s.heap h')(he:∃q,h'.get? a=some q)(new:ObjOk X.prog X.w (upd H a ob) h' a ob) :
  Inv X pins σ (upd H a ob) { s with heap:=h',toks:=t' } :=
 I.write (x:=a) (e:=a) mu (.inl rfl) (λb q hb z=>(hs.2 b hb).trans z) he new
theorem fu0{P:Program}{w:World}{H':Hp}{kvs:List (Key×V)}{vs:List (Key×Value)}(z:kvs.length<=sizeLine)(hd:(a==sysModules)=false)(rel:KV kvs vs)(dd:h'.DictOf (Y9 P w) a vs) :
  ObjOk P w H' h' a (.dK kvs):=⟨z,hd,vs,rel,dd⟩
theorem fj0{Q:Unit->Shared->Prop}(hu:A.units+1<cLine)(I:Inv X pins σ H s)(g:DPut H a y v H')(ry:RelV y u)(rv:RelV v r)(h:∀s',Inv X pins σ H' s'->Q () s') :
  wpAny (model X.prog X.w) A (setItem (.ref a) u r) Q E s:=by
 rcases g with⟨kvs,k,e,ey,l,eH⟩|⟨kvs,k,b,e,ey,eb,l,eH⟩
 ·subst ey eH
  obtain⟨z,hd,vs,rel,dd⟩:=q40 I.hok e;have hz:vs.length<=sizeLine:=by rw[← rel.length];exact z
  have hl:(putK kvs k v).length<=sizeLine:=by have:=xv0 kvs k v;omega
  refine wpAny_setItem_pairs (hsz:=hz) (pb0 ry) dd λh' J hs=>h _ ?_
  have he:∃q,h'.get? a=some q:=let ⟨q,_,_,hq,_⟩:=J;⟨q,hq⟩
  exact vt0 I (by rw[e];exact True.intro) hs he (fu0 hl hd (rel.put k rv) J)
 ·subst ey eH
  cases (show u=Value.ref b from ry);obtain⟨z,hd,xs,rel,dd⟩:=lh0 I.hok (.inl e);have hz:xs.length<=sizeLine:=by rw[← Paired.length rel];exact z
  have hl:(putK kvs k v).length<=sizeLine:=by have:=xv0 kvs k v;omega
  refine Dep.set (A80 hu) (tf0 I.hok eb) dd (λh' J hs=>h _ ?_) hz;obtain⟨q,es,ep,hq,h2,h3,h4,_,h5⟩:=J;refine vt0 I (by rw[e];exact True.intro) hs ⟨q,hq⟩ ⟨hl,hd,_,(rel.put k eb rv).keeps λc ys ec=>?_,q,es,ep,hq,h2,h3,h4,h5⟩;rw[j7 (ik0 ec e (λz=>nomatch z))];exact ec
end
def cp0(i:Expr):Prop:=∀ov iv,subscripted i false ov iv=operate [ov,iv] (getItem ov iv)
theorem Z10{prog:Program}{w:World}{A:Around}{E:Value->Shared->Prop}{s:Shared}{env:Env}{value slice:Expr}{pos:Pos}{T id:String}{Q:Value->Shared->Prop}
  (hl:typeLookup (.type T) "__getitem__"=pure (some (.builtin id))) (hs:cp0 slice)
  (h:wpAny (model prog w) A (eval value env) (λo s₁=>wpAny (model prog w) A (eval slice env) (λi s₂=>s₂.TypeIs o T/\wpAny (model prog w) A (getItem o i) Q E s₂) E s₁) E s) :
  wpAny (model prog w) A (eval (.Subscript value slice pos) env) Q E s:=by
 refine Subscript_ (D1 h (λo s₁ h₁=>D1 h₁ (λi s₂ h₂=>?_) λ_ _ x=>x) λ_ _ x=>x);obtain⟨hT,h₂⟩:=h₂;unfold subscriptTail;refine A0 ?_;rw[getitemInPython_of_ne hT.not_modules];refine A0 (D8 hT hl ?_);have J:wpAny (model prog w) A (subscripted slice false o i) (λr s₃=>wpAny (model prog w) A (letTemporaryGo value o r>>=λ_=>pure r) Q E s₃) E s₂:=by
  rw[hs o i];exact wpAny_operating (D1 h₂ (λr s₃ h₃=>A0 (wpAny_letTemporaryGo (A1 h₃))) λ_ _ x=>x)
 first
  | exact A1 (A0 J)
  | exact A0 (A1 (A0 J))
  | exact A0 J
theorem ks0{σ:St}{s:Shared}{o:Option V}(I:Inv X pins σ H s)(g:DGet H a y o):s.TypeIs (.ref a) "dict" := by
 rcases g with⟨kvs,k,e,_,_⟩|⟨kvs,k,b,e,_,_,_⟩
 ·obtain⟨_,_,vs,_,dd⟩:=qx0 I.hok e
  exact dd.typeIs
 ·obtain⟨_,_,xs,_,dd⟩:=m50 I.hok e
  exact dd.typeIs
def Ut0(td ty:TE):TE:=fun σ H Q=>td σ H λx H1=>ty σ H1 λy H2=>∃a v,x=.ref a/\DGet H2 a y (some v)/\Q v H2
def Y90(ty td:TE):TE:=fun σ H Q=>ty σ H λy H1=>td σ H1 λx H2=>∃a o,x=.ref a/\DGet H2 a y o/\Q (.bl (!o.isSome)) H2
section
variable{i:Expr}{td ty:TE}
theorem Yd0(hu:X.A.units+1<cLine)(ho:PE X o td)(hi:PE X i ty)(hs:cp0 i):PE X (.Subscript o i pos) (Ut0 td ty):=by
 intro pins s σ H Q I h;refine Z10 PySem.F.slot_dict_getitem.lookup hs (thn (ho pins s σ H _ I h) λu s1 ⟨x,H1,I1,rx,q1⟩=>thn (hi pins s1 σ H1 _ I1 q1) λiv s2 ⟨y,H2,I2,ry,a,v,ex,g,q2⟩=>?_);subst ex;obtain rfl:u=Value.ref a:=rx;exact⟨ks0 I2 g,ff0 hu I2 g ry λw' s3 I3 J=>⟨v,H2,I3,J,q2⟩⟩
theorem f40(hu:X.A.units+1<cLine)(hi:PE X i ty)(ho:PE X o td):PC X .NotIn i o (Y90 ty td):=by
 intro pins s σ H Q I h;refine thn (hi pins s σ H _ I h) λiv s1 ⟨y,H1,I1,ry,q1⟩=>thn (ho pins s1 σ H1 _ I1 q1) λu s2 ⟨x,H2,I2,rx,a,ov,ex,g,q2⟩=>?_
 subst ex;obtain rfl:u=Value.ref a:=rx;exact ah0 hu I2 g ry λs3 I3=>⟨.bl (!ov.isSome),H2,I3,rfl,q2⟩
end
theorem dl0{P:Program}{w:World}(h:Heap)(hb:sysModules<h.objs.size):ObjOk P w H (h.push { cls:=.type "dict",data:=.dict #[] }) h.objs.size (.dK []) :=
 ⟨C4 _,N4.mpr (B6 (A9 hb)),[],.nil,Heap.DictOf.new h⟩
theorem c80{P:Program}{w:World}(h:Heap)(hb:sysModules<h.objs.size):ObjOk P w H (h.push { cls:=.type "dict",data:=.dict #[] }) h.objs.size (.dT []) :=
 ⟨C4 _,N4.mpr (B6 (A9 hb)),[],.nil,_,#[],0,C1 _ rfl,⟨rfl,rfl,rfl⟩,rfl,rfl,T0,rfl⟩
def V90:TE:=λ_ H Q=>∀p,H p=none->Q (.ref p) (upd H p (.dK []))
theorem c50:PE X (.Dict [] [] pos) V90:=λpins s σ H Q I h =>
 A50 ⟨.ref s.heap.objs.size,_,I.laid (a:=s.heap.objs.size) (o:=.dK []) (t':=s.toks) (λ_ _ q=>B0 _ q) (A2 _) (dl0 s.heap I.big),rfl,h _ (I.hok.fresh (A2 _))⟩
def el0:List (TE×TE)->St->Hp->(List (V×V)->Hp->Prop)->Prop
 | [],_,H,Q=>Q [] H
 | (tk,tv)::r,σ,H,Q=>tk σ H λx H1=>tv σ H1 λy H2=>el0 r σ H2 λps H3=>Q ((x,y)::ps) H3
abbrev VV:List (V×V)->List (Value×Value)->Prop:=Paired λp q=>RelV p.1 q.1/\RelV p.2 q.2
def PPs(X:Cx)(pos:Pos)(keys:List (Option Expr))(values:List Expr)(trs:List (TE×TE)):Prop :=
 ∀(pins:List (Addr×Obj)) (s:Shared) (σ:St) (H:Hp) (Q:List (V×V)->Hp->Prop),Inv X pins σ H s->el0 trs σ H Q ->
  wpAny (model X.prog X.w) X.A (evalPairs (pairTrees keys values X.env pos)) (λvs s'=>∃ps H',Inv X pins σ H' s'/\VV ps vs/\Q ps H') X.xe s
theorem bx0:PPs X pos [] [] []:=λpins s σ H Q I h=>pairTrees_nil_walk ⟨[],H,I,.nil,h⟩
theorem ex0{k v:Expr}{ks:List (Option Expr)}{vs:List Expr}{tk:TE}{trs:List (TE×TE)}(hk:PE X k tk)(hv:PE X v tv)(hr:PPs X pos ks vs trs) :
  PPs X pos (some k::ks) (v::vs) ((tk,tv)::trs):=λpins s σ H Q I h =>
 pairTrees_cons_walk (thn (hk pins s σ H _ I h) λu s1 ⟨x,H1,I1,rx,q1⟩=>thn (hv pins s1 σ H1 _ I1 q1) λw2 s2 ⟨y,H2,I2,ry,q2⟩ =>
  thn (hr pins s2 σ H2 _ I2 q2) λws s3 ⟨ps,H3,I3,rel,q3⟩=>⟨(x,y)::ps,H3,I3,.cons ⟨rx,ry⟩ rel,q3⟩)
structure M2(X:Cx)(o:Expr)(m:Str)(apos:Pos)(e f:Expr)(cpos:Pos):Prop where
 base:attributeBase o m X.env (eval o X.env)=eval o X.env
 few:((backTo cpos (starEach [e,f] X.env)).all (λx=>!x.1)&&(backToKw cpos (keywordEach [] X.env)).all (λx=>x.1.isSome)
 &&decide (([e,f]:List Expr).length+([]:List Keyword).length+(if ([]:List Keyword).isEmpty then 0 else 1)<30))=true
 line:(apos.endLine==cpos.line)=true
 trees:backTo cpos (starEach [e,f] X.env)=[(false,eval e X.env),(false,eval f X.env)]
def IsD(H:Hp)(a:Addr):Prop:=(∃kvs,Rd H a (.dK kvs))∨∃kvs,Rd H a (.dT kvs)
theorem X40{σ:St}{s:Shared}(I:Inv X pins σ H s)(d:IsD H a) :
  s.TypeIs (.ref a) "dict"/\(∀b,Value.ref a=.ref b->∃ob,s.heap.get? b=some ob/\ob.dict=none)/\(a==sysModules)=false:=by
 rcases d with⟨kvs,e⟩|⟨kvs,e⟩
 ·obtain⟨_,hd,vs,_,dd⟩:=qx0 I.hok e
  refine⟨dd.typeIs,λb q=>?_,hd⟩;cases q;obtain⟨ob,_,_,h1,h2,_⟩:=dd;exact⟨ob,h1,h2.2.1⟩
 ·obtain⟨_,hd,xs,_,dd⟩:=m50 I.hok e
  refine⟨dd.typeIs,λb q=>?_,hd⟩;cases q;obtain⟨ob,_,_,h1,h2,_⟩:=dd;exact⟨ob,h1,h2.2.1⟩
end L2
namespace DL
open Spec PyProof.Rows L2
section
variable{σ σ':St}
theorem Gr.fresh{p:Addr}{o:HO}(h:H p=none):Gr H (upd H p o) B (λa=>B a∨a=p):=λb u n e=>by
 have hb:b≠p:=T4 e h;exact⟨λz=>z.elim n hb,by rw[j7 hb];exact e⟩
theorem Gr.own{o:HO}(h:B a):Gr H (upd H a o) B B:=λb u n e=>⟨n,by rw[j7 (λz=>n (by rw[z];exact h))];exact e⟩
theorem RpO.mono{d:D}(s:∀o,H a=some o->H' a=some o)(g:Gr H H' B B')(h:RpO K H B d a):RpO K H' B' d a:=by
 cases d<;>try exact h.elim
 ·obtain⟨xs,e,r⟩:=h;exact⟨xs,s _ e,r.mono g⟩
 ·obtain⟨xs,e,l,r⟩:=h;exact⟨xs,s _ e,l,r.mono g⟩
theorem RpL.mono{d:D}(s:∀o,H a=some o->H' a=some o)(g:Gr H H' B B')(h:RpL K H B d a):RpL K H' B' d a:=by
 cases d with
 | tup es =>
  rcases h with⟨ds,q,xs,e,r⟩|⟨ks,vs,q,ts,xs,q1,e,q2,r⟩
  ·exact .inl ⟨ds,q,xs,s _ e,r.mono g⟩
  ·exact .inr ⟨ks,vs,q,ts,xs,q1,s _ e,q2,r.mono g⟩
 | _=>exact(RpO.mono s g (RpL.toO rfl h)).toL
theorem Pd.impI{F G:α->β->Prop}:∀{l:List α} {m:List β},(∀(i:Nat) a b,l[i]?=some a->m[i]?=some b->F a b->G a b)->Paired F l m->Paired G l m
 | _,_,_,.nil=>.nil
 | _,_,h,.cons r t=>.cons (h 0 _ _ rfl rfl r) (Pd.impI (λi a b e1 e2=>h (i+1) a b (by simpa using e1) (by simpa using e2)) t)
theorem wu0:∀{l:List α} {i:Nat} {a:α},l[i]?=some a->l.set i a=l
 | [],_,_,h=>by simp at h
 | x::l,0,a,h=>by simp at h;subst h;rfl
 | x::l,i+1,a,h=>by rw[List.set_cons_succ,wu0 (by simpa using h)]
theorem Pd.setR{F:α->β->Prop}{a:α}{b:β}(r:F a b){l:List α}{m:List β}(e:l[i]?=some a)(h:Paired F l m):Paired F l (m.set i b):=by
 have:=Pd.set r i h
 rwa [wu0 e] at this
theorem get_set{l:List α}{a b:α}(h:(l.set i a)[j]?=some b):(i=j/\a=b/\j<l.length)∨(i≠j/\l[j]?=some b):=by
 by_cases e:i=j
 ·subst e
  by_cases hl:i<l.length
  ·rw[List.getElem?_set_self hl] at h
   exact .inl ⟨rfl,A8 h,hl⟩
  ·rw[List.getElem?_eq_none (by simpa using hl)] at h;cases h
 ·rw[List.getElem?_set_ne e] at h
  exact .inr ⟨e,h⟩
theorem Env.at(e:Env K H B σ δ){d:D}(h:δ[i]?=some (.ow d)):∃a,σ[i]?=some (some (.ref a))/\B a/\RpL K H B d a:=by
 obtain⟨o,h1,a,rfl,hb,r⟩:=Pd.get e.all h;exact⟨a,h1,hb,r⟩
theorem Env.mut(e:Env K H B σ δ){d0 d:D}{o:HO}(hi:δ[i]?=some (.ow d0))(hs:σ[i]?=some (some (.ref a)))(r:RpL K (upd H a o) B d a):Env K (upd H a o) B σ (δ.set i (.ow d)):=by
 obtain⟨a',h1,hb,_⟩:=e.at hi;rw[hs] at h1;cases h1;refine⟨?_,λb z=>?_,λj k b ds es h1 h2 h3 h4=>?_⟩
 ·
  have h0:Paired (λ(o':Option V) (s:Sl)=>SlR K (upd H a o) B o' s∨(∃d,s=.ow d/\o'=some (.ref a))) σ δ:=Pd.imp (λo' s h=>by
   cases s with
   | un=>exact .inl trivial
   | ex c n=>obtain⟨v,e,r⟩:=h;exact .inl ⟨v,e,r.mono (Gr.own hb)⟩
   | sh d=>obtain⟨v,e,r⟩:=h;exact .inl ⟨v,e,r.mono (Gr.own hb)⟩
   | ow d =>
    obtain⟨b,e,M,r⟩:=h
    by_cases z:b=a
    ·subst z;exact .inr ⟨d,rfl,e⟩
    ·exact .inl ⟨b,e,M,r.mono (λo h=>by rw[j7 z];exact h) (Gr.own hb)⟩) e.all
  have h1:=Pd.setR (i:=i) (b:=Sl.ow d) (.inl ⟨a,rfl,hb,r⟩) hs h0;refine Pd.impI (λj o' s e1 e2 h=>?_) h1;rcases h with h|⟨d',rfl,rfl⟩
  ·exact h
  ·rcases get_set e2 with⟨rfl,e3,_⟩|⟨J,e3⟩
   ·cases e3;exact⟨a,rfl,hb,r⟩
   ·exact absurd (e.own i j a d0 d' hi e3 hs e1) J
 ·by_cases z':b=a
  ·subst z';exact r.live
  ·rw[j7 z'];exact e.bad b z
 ·have q1:∃d,δ[j]?=some (.ow d):=by
   rcases get_set h1 with⟨rfl,_,_⟩|⟨_,h⟩
   ·exact⟨_,hi⟩
   ·exact⟨_,h⟩
  have q2:∃d,δ[k]?=some (.ow d):=by
   rcases get_set h2 with⟨rfl,_,_⟩|⟨_,h⟩
   ·exact⟨_,hi⟩
   ·exact⟨_,h⟩
  obtain⟨d1,q1⟩:=q1;obtain⟨d2,q2⟩:=q2;exact e.own j k b d1 d2 q1 q2 h3 h4
theorem EnvS.mut(en:EnvS K H₀ B₀ H σ δ)(s:Same H H')(b1:∀a,B₀ a->B a)(b2:∀a,B a->B₀ a∨H₀ a=none){d0 d:D}{o:HO}(hi:δ[i]?=some (.ow d0))(hs:σ[i]?=some (some (.ref a)))
  (env:Env K (upd H' a o) B σ (δ.set i (.ow d))):EnvS K H₀ B₀ (upd H' a o) σ (δ.set i (.ow d)):=by
 have h0:=en.fr i d0 a hi hs;have J:i<δ.length:=(D0.mp hi).1;refine⟨⟨λb u h=>?_,λb ob xs h=>?_⟩,⟨B,b1,b2,env⟩,λj ds b h1 h2=>?_,en.b0⟩
 ·have:b≠a:=λz=>by rw[z,h0] at h;cases h
  rw[j7 this];exact s _ _ (en.same b u h)
 ·by_cases z:b=a
  ·obtain⟨a',e1,_,ro⟩:=env.at (i:=i) (by rw[List.getElem?_set_self J])
   rw[hs] at e1;cases e1;rw[z] at h;exact absurd h (ro.plain ob xs)
  ·rw[j7 z] at h
   exact en.same.nf b ob xs (s.nf b ob xs h)
 ·rcases get_set h1 with⟨rfl,_,_⟩|⟨_,h⟩
  ·rw[hs] at h2;cases h2;exact h0
  ·exact en.fr j ds b h h2
theorem EnvS.take(en:EnvS K H₀ B₀ H σ δ)(b1:∀a,B₀ a->B a)(b2:∀a,B a->B₀ a∨H₀ a=none)(e:Env K H B σ δ)(i:Nat){d:D}{p:Addr}(hp:H p=none)(s:Same H H')
  (r:RpO K H' (λa=>B a∨a=p) d p):EnvS K H₀ B₀ H' (σ.set i (some (.ref p))) (δ.set i (.ow d)):=by
 have g:Gr H H' B (λa=>B a∨a=p):=λb u n h=>⟨λz=>z.elim n (T4 h hp),s _ _ h⟩
 have J:H₀ p=none:=en.same.free hp;have live:∀{j:Nat} {d':D} {b:Addr},δ[j]?=some (.ow d')->σ[j]?=some (some (.ref b))->b≠p:=λ{j d' b} h1 h2=>by
  obtain⟨a,q1,q2,q3⟩:=e.at h1;rw[h2] at q1;cases q1;exact λz=>e.bad _ q2 (by rw[z];exact hp)
 refine⟨en.same.trans s,⟨λa=>B a∨a=p,λa z=>.inl (b1 a z),λa z=>?_,?_,λa z=>?_,λj k a ds es h1 h2 h3 h4=>?_⟩,λj ds a h1 h2=>?_,en.b0⟩
 ·rcases z with z|rfl
  ·exact b2 a z
  ·exact .inr J
 ·refine Pd.set ⟨p,rfl,.inr rfl,r.toL⟩ i (Pd.imp (λo sl h=>?_) e.all)
  cases sl with
  | un=>trivial
  | ex c n=>obtain⟨v,e,r⟩:=h;exact⟨v,e,r.mono g⟩
  | sh d=>obtain⟨v,e,r⟩:=h;exact⟨v,e,r.mono g⟩
  | ow d=>obtain⟨b,e,M,r⟩:=h;exact⟨b,e,.inl M,r.mono (λo h=>s _ _ h) g⟩
 ·rcases z with z|rfl
  ·exact(e.bad a z).same s
  ·exact r.live
 ·rcases get_set h1 with⟨rfl,_,_⟩|⟨n1,h1⟩
  ·rcases get_set h2 with⟨rfl,_,_⟩|⟨n2,h2⟩
   ·rfl
   ·rcases get_set h3 with⟨_,e3,_⟩|⟨n3,_⟩
    ·cases e3
     rw[List.getElem?_set_ne n2] at h4;exact absurd rfl (live h2 h4)
    ·exact absurd rfl n3
  ·rcases get_set h2 with⟨rfl,_,_⟩|⟨n2,h2⟩
   ·rcases get_set h4 with⟨_,e4,_⟩|⟨n4,_⟩
    ·cases e4
     rw[List.getElem?_set_ne n1] at h3;exact absurd rfl (live h1 h3)
    ·exact absurd rfl n4
   ·rw[List.getElem?_set_ne n1] at h3
    rw[List.getElem?_set_ne n2] at h4;exact e.own j k a ds es h1 h2 h3 h4
 ·rcases get_set h1 with⟨rfl,_,_⟩|⟨n1,h1⟩
  ·rcases get_set h2 with⟨_,e3,_⟩|⟨n3,_⟩
   ·cases e3;exact J
   ·exact absurd rfl n3
  ·rw[List.getElem?_set_ne n1] at h2
   exact en.fr j ds a h1 h2
theorem m40{d e:D}(h:DL.fz d=.ow e):False:=by
 unfold DL.fz at h;split at h<;>cases h
theorem pf0{s:Sl}{e:D}(h:G5 s=.ow e):False:=by
 cases s with
 | ow d=>exact m40 h
 | un=>cases h
 | sh d=>cases h
 | ex c n=>cases h
theorem RpL.fz{d:D}(l:∀a,B' a->B a)(n:¬B' a)(h:RpL K H B d a):SlR K H B' (some (.ref a)) (DL.fz d):=by
 cases d with
 | tup es =>
  rcases h with⟨ds,rfl,xs,e,r⟩|⟨ks,vs,rfl,_⟩
  ·exact⟨_,rfl,RpO.rp (d:=.lst ds) l n ⟨xs,e,r⟩⟩
  ·trivial
 | _=>exact⟨_,rfl,RpO.rp l n (RpL.toO rfl h)⟩
theorem Env.frz(e:Env K H B σ δ):∃B':BS,(∀a,B' a->B a)/\(∀a,B a->B' a∨∃(i:Nat) (d:D),δ[i]?=some (.ow d)/\σ[i]?=some (some (.ref a)))/\Env K H B' σ (DL.frz δ):=by
 refine⟨λa=>B a/\¬∃(i:Nat) (d:D),δ[i]?=some (.ow d)/\σ[i]?=some (some (.ref a)),λa z=>z.1,λa z=>?_,?_,λa z=>e.bad a z.1,λi j a ds es h1 _ _ _=>?_⟩
 ·by_cases q:∃(i:Nat) (d:D),δ[i]?=some (.ow d)/\σ[i]?=some (some (.ref a))
  ·exact .inr q
  ·exact .inl ⟨z,q⟩
 ·have:Paired (λo s=>SlR K H (λa=>B a/\¬∃(i:Nat) (d:D),δ[i]?=some (.ow d)/\σ[i]?=some (some (.ref a))) o (G5 s)) σ δ:=Pd.impI (λi o s e1 e2 h=>by
   cases s with
   | un=>trivial
   | ex c n=>obtain⟨v,e,r⟩:=h;exact⟨v,e,r.mono (Gr.less λa z=>z.1)⟩
   | sh d=>obtain⟨v,e,r⟩:=h;exact⟨v,e,r.mono (Gr.less λa z=>z.1)⟩
   | ow d =>
    obtain⟨a,rfl,hb,r⟩:=h;exact r.fz (λa z=>z.1) λz=>z.2 ⟨i,d,e2,e1⟩) e.all
  have mp:∀{l:St} {m:Ds} {F:Option V->Sl->Prop},Paired (λo s=>F o (G5 s)) l m->Paired F l (m.map G5):=by
   intro l m F h
   induction h with
   | nil=>exact .nil
   | cons r t ih=>exact .cons r ih
  exact mp this
 ·unfold DL.frz at h1
  rw[List.getElem?_map] at h1;cases q:δ[i]? with
  | none=>rw[q] at h1;cases h1
  | some s=>rw[q] at h1;exact(pf0 (A8 h1)).elim
theorem EnvS.frz(en:EnvS K H₀ B₀ H σ δ):EnvS K H₀ B₀ H σ (DL.frz δ):=by
 obtain⟨B,b1,b2,env⟩:=en.ex;obtain⟨B',c1,c2,J⟩:=env.frz;refine⟨en.same,⟨B',λa z=>?_,λa z=>b2 a (c1 a z),J⟩,λi ds a h1 _=>?_,en.b0⟩
 ·rcases c2 a (b1 a z) with q|⟨i,d,q1,q2⟩
  ·exact q
  ·exact absurd (en.fr i d a q1 q2) (en.b0 a z)
 ·unfold DL.frz at h1
  rw[List.getElem?_map] at h1;cases q:δ[i]? with
  | none=>rw[q] at h1;cases h1
  | some s=>rw[q] at h1;exact(pf0 (A8 h1)).elim
theorem Env.frzAt(e:Env K H B σ δ)(i:Nat):∃B':BS,(∀a,B' a->B a)/\(∀a,B a->B' a∨∃(d:D),δ[i]?=some (.ow d)/\σ[i]?=some (some (.ref a)))/\Env K H B' σ (DL.frzAt i δ):=by
 unfold DL.frzAt;cases h:δ[i]? with
 | none=>exact⟨B,λ_ z=>z,λ_ z=>.inl z,e⟩
 | some s =>
  cases s with
  | un=>dsimp only [G5];rw[wu0 h];exact⟨B,λ_ z=>z,λ_ z=>.inl z,e⟩
  | ex c n=>dsimp only [G5];rw[wu0 h];exact⟨B,λ_ z=>z,λ_ z=>.inl z,e⟩
  | sh d=>dsimp only [G5];rw[wu0 h];exact⟨B,λ_ z=>z,λ_ z=>.inl z,e⟩
  | ow d =>
   obtain⟨a,h1,hb,r⟩:=e.at h;refine⟨λb=>B b/\b≠a,λb z=>z.1,λb z=>?_,?_,λb z=>e.bad b z.1,λj k b ds es Z M h3 h4=>?_⟩
   ·by_cases q:b=a
    ·subst q;exact .inr ⟨d,rfl,h1⟩
    ·exact .inl ⟨z,q⟩
   ·have h0:Paired (λ(o':Option V) (s:Sl)=>SlR K H (λb=>B b/\b≠a) o' s∨(∃d,s=.ow d/\o'=some (.ref a))) σ δ:=Pd.imp (λo' s h=>by
     cases s with
     | un=>exact .inl trivial
     | ex c n=>obtain⟨v,e,r⟩:=h;exact .inl ⟨v,e,r.mono (Gr.less λa z=>z.1)⟩
     | sh d=>obtain⟨v,e,r⟩:=h;exact .inl ⟨v,e,r.mono (Gr.less λa z=>z.1)⟩
     | ow d =>
      obtain⟨b,e,O,r⟩:=h
      by_cases z:b=a
      ·subst z;exact .inr ⟨d,rfl,e⟩
      ·exact .inl ⟨b,e,⟨O,z⟩,r.mono (λo h=>h) (Gr.less λa z=>z.1)⟩) e.all
    have h2:=Pd.setR (i:=i) (b:=DL.fz d) (.inl (r.fz (λb z=>z.1) λz=>z.2 rfl)) h1 h0;refine Pd.impI (λj o' s e1 e2 hh=>?_) h2;rcases hh with hh|⟨d',rfl,rfl⟩
    ·exact hh
    ·rcases get_set e2 with⟨rfl,e3,_⟩|⟨J,e3⟩
     ·exact(m40 e3).elim
     ·exact absurd (e.own i j a d d' h e3 h1 e1) J
   ·rcases get_set Z with⟨_,q,_⟩|⟨_,q1⟩
    ·exact(m40 q).elim
    ·rcases get_set M with⟨_,q,_⟩|⟨_,q2⟩
     ·exact(m40 q).elim
     ·exact e.own j k b ds es q1 q2 h3 h4
theorem EnvS.frzAt(en:EnvS K H₀ B₀ H σ δ)(i:Nat):EnvS K H₀ B₀ H σ (DL.frzAt i δ):=by
 obtain⟨B,b1,b2,env⟩:=en.ex;obtain⟨B',c1,c2,J⟩:=env.frzAt i;refine⟨en.same,⟨B',λa z=>?_,λa z=>b2 a (c1 a z),J⟩,λj ds a h1 h2=>?_,en.b0⟩
 ·rcases c2 a (b1 a z) with q|⟨d,q1,q2⟩
  ·exact q
  ·exact absurd (en.fr i d a q1 q2) (en.b0 a z)
 ·unfold DL.frzAt at h1
  cases q:δ[i]? with
  | none=>rw[q] at h1;exact en.fr j ds a h1 h2
  | some s =>
   rw[q] at h1;rcases get_set h1 with⟨rfl,q',_⟩|⟨_,q1⟩
   ·exact(pf0 q').elim
   ·exact en.fr j ds a q1 h2
theorem jd0{d:D}{v:V}(h:flat d=true)(r:Rp K H B d v):Rp K H' B' d v:=by
 cases d<;>simp[flat] at h
 ·rw[X5] at r ⊢;exact r
 ·rw[Y5] at r ⊢;exact r
 ·rw[o9] at r ⊢;exact r
 ·rw[c7] at r ⊢;exact r
end
section
variable{tg:Expr}{g:GE}{gt:GB}{G:GS}
theorem v50(h:PD X e g):PD X e (zs0 g):=.mk λB δ pins s σ H Q I ⟨d,en,hq,k⟩=>by
 obtain⟨B',c1,c2,J⟩:=en.frz;unfold zs0 at hq;cases e1:g (frz δ) with
 | none=>rw[e1] at hq;cases hq
 | some x =>
  rw[e1] at hq
  by_cases hf:flat x=true
  ·simp only[Option.bind_some,if_pos hf] at hq
   cases hq;exact h B' (frz δ) pins s σ H Q I ⟨_,J,e1,λv H' s' r=>k v H' s' (jd0 hf r)⟩
  ·simp only[Option.bind_some,if_neg hf] at hq
   cases hq
theorem sp0(h:PTD X e gt):PTD X e (w80 gt):=.mk λB δ pins s σ H Q I ⟨d,en,hq,k⟩=>by
 obtain⟨B',c1,c2,J⟩:=en.frz;exact h B' (frz δ) pins s σ H Q I ⟨d,J,hq,k⟩
theorem kc0(i:Nat)(h:PSD X st G):PSD X st (pi0 i G):=.mk λH₀ B₀ δ pins s σ H D I ⟨r,en,hq,k⟩=>h H₀ B₀ _ pins s σ H D I ⟨r,en.frzAt i,hq,k⟩
theorem z50(h:PD X e g):PSD X (.Return (some e) pos) (j9 (vp0 g)):=.mk λH₀ B₀ δ pins s σ H D I ⟨r,en,hq,k⟩ =>
 m5 h H₀ B₀ (frz δ) pins s σ H D I ⟨r,en.frz,hq,k⟩
theorem R6{gA:GA}(h:PDA X es gA):PDF X (.List es pos) (W6 gA) :=
 .mk λB δ=>(e30 (h B δ)).imp fun σ H Q ⟨d,en,h,k⟩=>by
  unfold W6 at h;cases e1:gA δ with
  | none=>rw[e1] at h;cases h
  | some ds =>
   rw[e1] at h
   by_cases hl:ds.length<=sizeLine
   ·simp only[Option.bind_some,if_pos hl] at h
    cases h;refine⟨ds,en,e1,λvs H1 s1 r1=>⟨by rw[r1.length];exact hl,λp hp=>k _ _ (s1.free hp) (s1.trans (b7 hp)) ⟨vs,m8,r1.mono (Gr.fresh hp)⟩⟩⟩
   ·simp only[Option.bind_some,if_neg hl] at h
    cases h
theorem ym0:PDF X (.Dict [] [] pos) (gc (.dct (.inl []) [])):=.mk λB δ=>c50.imp fun σ H Q ⟨d,en,h,k⟩=>by
 cases h;exact λp hp=>k p _ hp (b7 hp) ⟨[],m8,rfl,by rw[o6]⟩
theorem W0(i:Nat){px:Pos}(h:PDF X e g)(hN:X.N.Nodup)(hi:X.N[i]?=some x:=by rfl)(hx:Loc X.env.scope x:=by first|exact Or.inl rfl|exact Or.inr rfl)
  (hs:swapsWithSole [.Name x px] e pos.line X.env=pure false:=by rfl) (hw:swappedStores [.Name x px] e X.env=pure none:=by rfl)
  (h1:(assignEach [.Name x px] X.env).map (·.2)=[assign (.Name x px) X.env]:=by rfl)
  (hf:X.fn x=true∨X.env.scope.names.lookup x=some .local:=by first|exact .inl rfl|exact .inr rfl|assumption):PSD X (.Assign [.Name x px] e pos) (T3 i g):=.mk λH₀ B₀ δ pins s σ H D I ⟨r,en,e1,k⟩=>by
 unfold T3 at e1;obtain⟨B,b1,b2,env⟩:=en.ex;cases e2:g δ with
 | none=>rw[e2] at e1;cases e1
 | some d =>
  rw[e2] at e1;cases e1;exact p20 (h B δ) (uk0 (i:=i) hN hi hx hf) hs hw h1 pins s σ H D I ⟨d,env,e2,λp H' hp s' r=>k _ H' (en.take b1 b2 env i hp s' r)⟩
end
end DL
namespace L2
open Spec PyProof.Rows
open PySem.AutoSeq1 (wpAny_loadPart')
theorem ir0(p:Addr)(xs:Array Value)(k:Nat)(q:Addr)(ys:Array Value)(m:Nat)(dq:Option Addr)(sq:Array (Option Value))(h0:¬(!xs.isEmpty&&Builtin.List.listTooLong (xs.size+ys.size))=true)(h1:xs.size<=sizeLine)(h2:xs.size+ys.size<=sizeLine+1) :
  Meets (Builtin.«list.extend» ⟨[.ref p,.ref q],[]⟩) (λ_ R s=>s.heap.get? p=some { cls:=.type "list",dict:=none,data:=.seq xs k,slots:=#[] }/\s.heap.get? q=some { cls:=.type "list",dict:=dq,data:=.seq ys m,slots:=sq }/\R (.ok (.ret Value.none)) { s with heap:=s.heap.update p (Obj.mapSeq λz=>z++ys) }) :=
 .of_wp λprog w A R s h=>by
  obtain⟨hp,g,d,tk,os⟩:=s;obtain⟨hl,hb,h⟩:=h;have f1:=AutoSeq1.idx_int;have f2:=AutoSeq1.sub_tuple_tuple;have f3:=AutoSeq1.sub_list_list;have f4:=AutoSeq1.sub_tuple_list;have f5:=AutoSeq1.sub_list_tuple;have J:(xs++ys).size<=sizeLine+1:=by rw[Array.size_append];exact h2
  wp_walk using (U1 hl rfl (hz:=h1) (_hz':=J)),wpAny_loadPart' hl,wpAny_loadPart' hb
  exact⟨_,rfl,h⟩
def cs0(K:W.Frag):V->List V->Hp->VK->Prop:=λx vs H Q=>∃l b xs zs,x=.ref l/\vs=[.ref b]/\H l=some (.lst xs)/\SqL K H b zs/\xs.length+zs.length<=sizeLine/\Q .non (upd H l (.lst (xs++zs)))
theorem i50:MtM X "list.extend" (cs0 X.K):=by
 intro pins s σ H x vs v us Q I rx rv h;obtain⟨l,b,xs,zs,rfl,rfl,hH,hB,hz,q⟩:=h;cases rx;obtain⟨u,rfl,ru⟩:=rv.one;cases ru;obtain⟨z,its,n,r,hl,e⟩:=I.lstM hH;obtain⟨J,r2,p2,z2⟩:=I.list hB;obtain⟨⟨a4,a1,data2,a0⟩,a2,O,n2,Z⟩:=p2.isList;simp only at O Z;subst O Z;have hl2:=r2.length;have a3:its.toArray.size+J.toArray.size<=sizeLine:=by rw[List.size_toArray,List.size_toArray];omega
 have M:¬(!its.toArray.isEmpty&&Builtin.List.listTooLong (its.toArray.size+J.toArray.size))=true:=by
  rw[dm0 a3,Bool.and_false];exact B3
 refine S3 F.slot_list_extend ⟨_,e,rfl⟩ F.entry_list_extend (F.args_list_extend_2 _ _)
  (ir0 l its.toArray n b J.toArray n2 a1 a0 M (by rw[List.size_toArray];omega) (by omega)) ⟨e,a2,?_⟩
 refine⟨.non,_,I.lset (its':=its++J) hH e (by simp) (r.append r2) ?_,rfl,q⟩;rw[List.length_append];omega
def V20:V->V->V->Hp->(Hp->Prop)->Prop:=λo i v H Q=>∃a H',o=.ref a/\DPut H a i v H'/\Q H'
theorem set_dict(hu:X.A.units+1<cLine):cn0 X V20:=by
 intro pins s σ H o i v ov iv u Q I ro ri rv h;obtain⟨a,H',rfl,g,q⟩:=h;cases ro;exact fj0 hu I g ri rv λs3 I3=>⟨H',I3,q⟩
end L2
namespace DL
open Spec PyProof.Rows L2
section
variable{σ σ':St}
theorem Rps.set:∀{ds:List D} {xs:List V} {d:D} {v:V} (j:Nat),Rps K H B ds xs->Rp K H B d v->Rps K H B (ds.set j d) (xs.set j v)
 | [],_,_,_,_,h,_=>by rw[o6] at h;subst h;simp[o6]
 | d::ds,_,_,_,0,h,r=>by
  rw[p8] at h;obtain⟨y,t,rfl,h1,h2⟩:=h;rw[List.set_cons_zero,List.set_cons_zero,p8];exact⟨_,_,rfl,r,h2⟩
 | d::ds,_,_,_,j+1,h,r=>by
  rw[p8] at h;obtain⟨y,t,rfl,h1,h2⟩:=h;rw[List.set_cons_succ,List.set_cons_succ,p8];exact⟨_,_,rfl,h1,Rps.set j h2 r⟩
theorem Rps.dropLast(h:Rps K H B ds xs):Rps K H B ds.dropLast xs.dropLast:=by
 rw[List.dropLast_eq_take,List.dropLast_eq_take,h.length];exact h.take _
structure EnvV(K:W.Frag)(H₀:Hp)(B₀:BS)(H:Hp)(σ:St)(δ:Ds)(d:D)(v:V):Prop where
 same:Same H₀ H
 ex:∃B:BS,(∀a,B₀ a->B a)/\(∀a,B a->B₀ a∨H₀ a=none)/\Env K H B σ δ/\Rp K H B d v
 fr:∀(i:Nat) (ds:D) (a:Addr),δ[i]?=some (.ow ds)->σ[i]?=some (some (.ref a))->H₀ a=none
 b0:∀a,B₀ a->NB (H₀ a)
theorem EnvV.s{d:D}{v:V}(h:EnvV K H₀ B₀ H σ δ d v):EnvS K H₀ B₀ H σ δ:=⟨h.same,let ⟨B,b1,b2,e,_⟩:=h.ex;⟨B,b1,b2,e⟩,h.fr,h.b0⟩
theorem EnvV.mk'{d:D}{v:V}(h:EnvS K H₀ B₀ H σ δ)(b1:∀a,B₀ a->B a)(b2:∀a,B a->B₀ a∨H₀ a=none)(e:Env K H B σ δ)(r:Rp K H B d v):EnvV K H₀ B₀ H σ δ d v:=⟨h.same,⟨B,b1,b2,e,r⟩,h.fr,h.b0⟩
end
def tX(K:W.Frag)(H₀:Hp)(B₀:BS)(δ:Ds)(gx:GX):TE:=fun σ H Q=>∃r,EnvS K H₀ B₀ H σ δ/\gx δ=some r/\∀v H',EnvV K H₀ B₀ H' σ r.2 r.1 v->Q v H'
structure PX(X:Cx)(e:Expr)(gx:GX):Prop where
 mk::go:∀H₀ B₀ δ,PE X e (tX X.K H₀ B₀ δ gx)
instance{X:Cx}{e:Expr}{gx:GX}:CoeFun (PX X e gx) (λ_=>∀H₀ B₀ δ,PE X e (tX X.K H₀ B₀ δ gx)):=⟨PX.go⟩
def tTG(K:W.Frag)(H₀:Hp)(B₀:BS)(ft:D->Ds->Option Ds)(d:D)(δ:Ds):TG:=λv σ H Q=>∃δ',EnvV K H₀ B₀ H σ δ d v/\ft d δ=some δ'/\∀σ' H',EnvS K H₀ B₀ H' σ' δ'->Q σ' H'
structure PTG(X:Cx)(tg:Expr)(ft:D->Ds->Option Ds):Prop where
 mk::go:∀H₀ B₀ d δ,PG X tg (tTG X.K H₀ B₀ ft d δ)
instance{X:Cx}{tg:Expr}{ft:D->Ds->Option Ds}:CoeFun (PTG X tg ft) (λ_=>∀H₀ B₀ d δ,PG X tg (tTG X.K H₀ B₀ ft d δ)):=⟨PTG.go⟩
section
variable{tg:Expr}{g:GE}{gt:GB}{G:GS}
theorem wh0(h:PD X e g):PX X e (O9 g):=.mk λH₀ B₀ δ pins s σ H Q I ⟨r,en,e1,k⟩=>by
 unfold O9 at e1;obtain⟨B,b1,b2,env⟩:=en.ex;cases e2:g δ with
 | none=>rw[e2] at e1;cases e1
 | some d =>
  rw[e2] at e1;cases e1;exact h B δ pins s σ H Q I ⟨d,env,e2,λv H' s' r=>k v H' (EnvV.mk' (en.grow s') b1 b2 (env.same s') r)⟩
theorem qu0(h:owL i δ=some ds):δ[i]?=some (.ow (.lst ds)):=by
 unfold owL at h;split at h
 ·cases h;assumption
 ·cases h
theorem j00{r:List O8×List D}(h:ut0 i δ=some r):δ[i]?=some (.ow (.dct (.inl r.1) r.2)):=by
 unfold ut0 at h;split at h
 ·cases h;assumption
 ·cases h
theorem z80(i:Nat)(h:PD X e g)(hN:X.N[i]?=some x:=by rfl)(hv:Vis X.env.scope x:=by first|exact Or.inl rfl|exact Or.inr (Or.inl rfl)|exact Or.inr (Or.inr rfl))(hd:(x==("__debug__" : Str))=false:=by decide)(hcd:(x==("__classdict__" : Str))=false:=by decide)
  (hbase:attributeBase (.Name x px) "append" X.env (eval (.Name x px) X.env)=eval (.Name x px) X.env:=by rfl)
  (hfew:((backTo cpos (starEach [e] X.env)).all (λx=>!x.1)&&(backToKw cpos (keywordEach [] X.env)).all (λx=>x.1.isSome)
  &&decide (([e]:List Expr).length+([]:List Keyword).length+(if ([]:List Keyword).isEmpty then 0 else 1)<30))=true:=by rfl)
  (hline:(apos.endLine==cpos.line)=true:=by rfl) (hs:starEach [e] X.env=(false,eval e X.env)::starEach [] X.env:=by rfl) (hplain:(backTo cpos (starEach [] X.env)).any (·.1)=false:=by rfl) :
  PX X (.Call (.Attribute (.Name x px) "append" apos) [e] [] cpos) (V5 i g):=.mk λH₀ B₀ δ pins s σ H Q I ⟨r,en,e1,k⟩=>by
 unfold V5 at e1;obtain⟨B,b1,b2,env⟩:=en.ex;cases e2:owL i δ with
 | none=>rw[e2] at e1;cases e1
 | some ds =>
  cases e3:g δ with
  | none=>rw[e2,e3] at e1;cases e1
  | some d =>
   rw[e2,e3] at e1;simp only[Option.bind_some] at e1;split at e1
   ·rename_i hz
    cases e1;have hi:=qu0 e2;obtain⟨a,M,hb,xs,hx,rx⟩:=env.at hi;refine ix0 A90 PySem.F.slot_list_append PySem.F.type_list_append oh0 (G8 (i:=i) hN hv hd hcd) (K3 (h B δ) yx0 hs) hbase hfew hline hs hplain pins s σ H Q I
     ⟨_,M,.inl ⟨rfl,xs,.inl (.inl hx)⟩,d,env,e3,λv H1 s1 r1=>⟨a,xs,v,rfl,rfl,s1 _ _ hx,by rw[rx.length];exact hz,?_⟩⟩
    have J:Env X.K (upd H1 a (.lst (xs++[v]))) B σ (δ.set i (.ow (.lst (ds++[d])))):=(env.same s1).mut hi M ⟨_,m8,(Rps.snoc (rx.same s1) r1).mono (Gr.own hb)⟩;exact k _ _ (EnvV.mk' (en.mut s1 b1 b2 hi M J) b1 b2 J (by rw[X5]))
   ·cases e1
theorem Yo0(i:Nat)(h:PD X e g)(hN:X.N[i]?=some x:=by rfl)(hv:Vis X.env.scope x:=by first|exact Or.inl rfl|exact Or.inr (Or.inl rfl)|exact Or.inr (Or.inr rfl))(hd:(x==("__debug__" : Str))=false:=by decide)(hcd:(x==("__classdict__" : Str))=false:=by decide)
  (hbase:attributeBase (.Name x px) "extend" X.env (eval (.Name x px) X.env)=eval (.Name x px) X.env:=by rfl)
  (hfew:((backTo cpos (starEach [e] X.env)).all (λx=>!x.1)&&(backToKw cpos (keywordEach [] X.env)).all (λx=>x.1.isSome)
  &&decide (([e]:List Expr).length+([]:List Keyword).length+(if ([]:List Keyword).isEmpty then 0 else 1)<30))=true:=by rfl)
  (hline:(apos.endLine==cpos.line)=true:=by rfl) (hs:starEach [e] X.env=(false,eval e X.env)::starEach [] X.env:=by rfl) (hplain:(backTo cpos (starEach [] X.env)).any (·.1)=false:=by rfl) :
  PX X (.Call (.Attribute (.Name x px) "extend" apos) [e] [] cpos) (o60 i g):=.mk λH₀ B₀ δ pins s σ H Q I ⟨r,en,e1,k⟩=>by
 unfold o60 at e1;obtain⟨B,b1,b2,env⟩:=en.ex;cases e2:owL i δ with
 | none=>rw[e2] at e1;cases e1
 | some ds =>
  cases e3:g δ with
  | none=>rw[e2,e3] at e1;cases e1
  | some d =>
   rw[e2,e3] at e1;simp only[Option.bind_some] at e1;cases d<;>try cases e1
   rename_i es;dsimp only at e1;split at e1
   ·rename_i hz
    cases e1;have hi:=qu0 e2;obtain⟨a,M,hb,xs,hx,rx⟩:=env.at hi;refine ix0 A90 PySem.F.slot_list_extend PySem.F.type_list_extend i50 (G8 (i:=i) hN hv hd hcd) (K3 (h B δ) yx0 hs) hbase hfew hline hs hplain pins s σ H Q I
     ⟨_,M,.inl ⟨rfl,xs,.inl (.inl hx)⟩,_,env,e3,λv H1 s1 r1=>?_⟩
    rw[Z8] at r1;obtain⟨b,zs,rfl,hq,rz⟩:=r1;refine⟨a,b,xs,zs,rfl,rfl,s1 _ _ hx,hq.to,by rw[rx.length,rz.length];exact hz,?_⟩;have J:Env X.K (upd H1 a (.lst (xs++zs))) B σ (δ.set i (.ow (.lst (ds++es)))):=(env.same s1).mut hi M ⟨_,m8,(Rps.append (rx.same s1) rz).mono (Gr.own hb)⟩;exact k _ _ (EnvV.mk' (en.mut s1 b1 b2 hi M J) b1 b2 J (by rw[X5]))
   ·cases e1
theorem lf0(i:Nat)(hN:X.N[i]?=some x:=by rfl)(hv:Vis X.env.scope x:=by first|exact Or.inl rfl|exact Or.inr (Or.inl rfl)|exact Or.inr (Or.inr rfl))(hd:(x==("__debug__" : Str))=false:=by decide)(hcd:(x==("__classdict__" : Str))=false:=by decide)
  (hbase:attributeBase (.Name x px) "pop" X.env (eval (.Name x px) X.env)=eval (.Name x px) X.env:=by rfl) (hline:(apos.endLine==cpos.line)=true:=by rfl) :
  PX X (.Call (.Attribute (.Name x px) "pop" apos) [] [] cpos) (zz0 i):=.mk λH₀ B₀ δ pins s σ H Q I ⟨r,en,e1,k⟩=>by
 unfold zz0 at e1;obtain⟨B,b1,b2,env⟩:=en.ex;cases e2:owL i δ with
 | none=>rw[e2] at e1;cases e1
 | some ds =>
  rw[e2] at e1;simp only[Option.bind_some] at e1;cases e3:ds.getLast? with
  | none=>rw[e3] at e1;cases e1
  | some d =>
   rw[e3] at e1;cases e1;have hi:=qu0 e2;obtain⟨a,M,hb,xs,hx,rx⟩:=env.at hi;rw[List.getLast?_eq_getElem?] at e3;obtain⟨y,hy,ry⟩:=rx.get e3;refine V30 A90 PySem.F.slot_list_pop PySem.F.type_list_pop Wk0 (G8 (i:=i) hN hv hd hcd) hbase hline pins s σ H Q I
    ⟨_,M,.inl ⟨rfl,xs,.inl (.inl hx)⟩,a,xs,y,rfl,rfl,hx,by rw[rx.length];exact hy,?_⟩
   have J:Env X.K (upd H a (.lst xs.dropLast)) B σ (δ.set i (.ow (.lst ds.dropLast))):=env.mut hi M ⟨_,m8,rx.dropLast.mono (Gr.own hb)⟩;exact k _ _ (EnvV.mk' (en.mut (Same.refl _) b1 b2 hi M J) b1 b2 J (ry.mono (Gr.own hb)))
theorem mz0{f:D->Ds->Option Ds}(h:PGD X tg idx f):PTG X tg f:=.mk λH₀ B₀ d δ pins s σ H v u Q I r ⟨δ',en,e1,k⟩=>by
 obtain⟨B,b1,b2,env,rv⟩:=en.ex;exact h B d δ pins s σ H v u Q I r ⟨δ',rv,env,e1,fun σ' w en'=>k σ' H (en.s.wr b1 b2 (Same.refl _) w en')⟩
theorem Z00(i:Nat)(h:PD X e g)(hN:X.N[i]?=some x:=by rfl)(hv:Vis X.env.scope x:=by first|exact Or.inl rfl|exact Or.inr (Or.inl rfl)|exact Or.inr (Or.inr rfl))(hd:(x==("__debug__" : Str))=false:=by decide)(hcd:(x==("__classdict__" : Str))=false:=by decide)
  (ha:∀v,assign (.Subscript (.Name x px) e pos) X.env v=(do
   let ov ← holding [v] (eval (.Name x px) X.env)
   let iv ← holding [v,ov] (eval e X.env)
   standAt pos
   holding [v,ov,iv] (setItem ov iv v)
   release [v,ov,iv] []):=by intro _;rfl):PTG X (.Subscript (.Name x px) e pos) (setAt i g):=.mk λH₀ B₀ d δ pins s σ H v u Q I r ⟨δ',en,e1,k⟩=>by
 unfold setAt at e1;obtain⟨B,b1,b2,env,rv⟩:=en.ex;cases e2:owL i δ with
 | none=>rw[e2] at e1;cases e1
 | some ds =>
  cases e3:g δ with
  | none=>rw[e2,e3] at e1;cases e1
  | some dk =>
   rw[e2,e3] at e1;simp only[Option.bind_some] at e1;cases dk<;>try cases e1
   rename_i kk;dsimp only at e1;cases e4:ixN ds.length kk with
   | none=>rw[e4] at e1;cases e1
   | some j =>
    rw[e4] at e1;cases e1;have hi:=qu0 e2;obtain⟨a,J,hb,xs,hx,rx⟩:=env.at hi;refine l00 (G8 (i:=i) hN hv hd hcd) (h B δ) set_list ha pins s σ H v u Q I r ⟨_,J,_,env,e3,λiv H1 s1 r1=>?_⟩;rw[o9] at r1;subst r1;refine⟨a,xs,kk,j,rfl,rfl,s1 _ _ hx,by rw[rx.length];exact e4,?_⟩;have M:Env X.K (upd H1 a (.lst (xs.set j v))) B σ (δ.set i (.ow (.lst (ds.set j d)))):=(env.same s1).mut hi J ⟨_,m8,(Rps.set j (rx.same s1) (rv.same s1)).mono (Gr.own hb)⟩;exact k _ _ (en.s.mut s1 b1 b2 hi J M)
theorem M7{ft:D->Ds->Option Ds}(h:PX X e gx)(hg:PTG X tg ft)(hs:swapsWithSole [tg] e pos.line X.env=pure false:=by rfl)(hw:swappedStores [tg] e X.env=pure none:=by rfl)
  (h1:(assignEach [tg] X.env).map (·.2)=[assign tg X.env]:=by rfl):PSD X (.Assign [tg] e pos) (W7 gx ft):=.mk λH₀ B₀ δ pins s σ H D I ⟨r,en,e1,k⟩=>by
 unfold W7 at e1;cases e2:gx δ with
 | none=>rw[e2] at e1;cases e1
 | some q =>
  rw[e2] at e1;simp only[Option.bind_some] at e1;cases e3:ft q.1 q.2 with
  | none=>rw[e3] at e1;cases e1
  | some δ' =>
   rw[e3] at e1;cases e1;exact p20 (h H₀ B₀ δ) (hg H₀ B₀ q.1 q.2) hs hw h1 pins s σ H D I ⟨q,en,e2,λv H' J=>⟨δ',J,e3,fun σ' H'' en''=>k σ' H'' en''⟩⟩
theorem U5(h:PX X e gx)(hs:swapsWith e none pos.line X.env=pure false:=by rfl):PSD X (.Expr e pos) (b8 gx):=.mk λH₀ B₀ δ pins s σ H D I ⟨r,en,e1,k⟩=>by
 unfold b8 at e1;cases e2:gx δ with
 | none=>rw[e2] at e1;cases e1
 | some q =>
  rw[e2] at e1;cases e1;exact av0 (h H₀ B₀ δ) hs pins s σ H D I ⟨q,en,e2,λv H' J=>k σ H' J.s⟩
theorem w60(n:Nat)(hp:PassesOwn (model X.prog X.w) X.A X.env X.xe)(hc:PTD X c gt)(hb:PSsD X body G):PSD X (.While c body [] pos) (Z5 gt G n):=.mk λH₀ B₀ δ pins s σ H D I ⟨r,en,e1,k⟩=>by
 have O:PT X c (fun σ H Q=>∃B δ,tDT X.K B δ gt σ H Q):=λpins s σ H Q I ⟨B,δ,h⟩=>hc B δ pins s σ H Q I h
 have M:PSs X body (λD σ H=>∃δ,tDS X.K H₀ B₀ δ G D σ H):=λpins s σ H D I ⟨δ,h⟩=>hb H₀ B₀ δ pins s σ H D I h
 refine do0 hp O M pins s σ H D I ⟨λm σ H=>∃δ',EnvS X.K H₀ B₀ H σ δ'/\Z5 gt G m δ'=some r,⟨n,δ,en,e1⟩,?_⟩;rintro m σ1 H1 ⟨δ1,J,e2⟩;cases m with
 | zero=>cases e2
 | succ m =>
  unfold Z5 at e2;obtain⟨B,b1,b2,env⟩:=J.ex;cases e3:gt δ1 with
  | none=>rw[e3] at e2;cases e2
  | some t =>
   rw[e3] at e2;refine⟨B,δ1,t,env,e3,λH2 s2=>?_⟩;cases t with
   | false =>
    rw[if_neg B3];cases e2;exact k σ1 H2 (J.grow s2)
   | true =>
    rw[if_pos rfl];dsimp only at e2;refine⟨fun σ' H'=>∃δ',EnvS X.K H₀ B₀ H' σ' δ'/\Z5 gt G m δ'=some r,fun σ' H' z=>⟨m,Aa0 m,z⟩,δ1,?_⟩;cases e4:G δ1 with
    | none=>rw[e4] at e2;cases e2
    | some rb =>
     rw[e4] at e2;refine⟨rb,J.grow s2,e4,?_⟩;cases rb with
     | nx δn=>exact fun σ' H' en'=>⟨δn,en',e2⟩
     | ct δn=>exact fun σ' H' en'=>⟨δn,en',e2⟩
     | bk δn=>cases e2;exact fun σ' H' en'=>k σ' H' en'
     | rt d'=>cases e2;exact λv H' s' r'=>k v H' s' r'
     | rf d'=>cases e2;exact λp H' hp s' r'=>k p H' hp s' r'
theorem uv0(i j:Nat){y:Str}{p2 p3:Pos}{kk}(hN:X.N.Nodup)(hij:i≠j)(hc:X.calm=true:=by rfl)(hi:X.N[i]?=some x:=by rfl)(hj:X.N[j]?=some y:=by rfl)
  (hx:Loc X.env.scope x:=by first|exact Or.inl rfl|exact Or.inr rfl) (hy:Loc X.env.scope y:=by first|exact Or.inl rfl|exact Or.inr rfl)
  (hf:X.fn x=true∨X.env.scope.names.lookup x=some .local:=by first|exact .inl rfl|exact .inr rfl|assumption) (hf2:X.fn y=true∨X.env.scope.names.lookup y=some .local:=by first|exact .inl rfl|exact .inr rfl|assumption)
  (hs1:(assignEach [.Name x p2,.Name y p3] X.env).map (·.2)=assign (.Name x p2) X.env::(assignEach [.Name y p3] X.env).map (·.2):=by rfl) (hs2:(assignEach [.Name y p3] X.env).map (·.2)=assign (.Name y p3) X.env::(assignEach [] X.env).map (·.2):=by rfl)
  (hn:(assignEach [.Name x p2,.Name y p3] X.env).length=2:=by rfl) (hst:(assignEach [.Name x p2,.Name y p3] X.env).findIdx? (·.1)=none:=by rfl) :
  PGD X (.Tuple [.Name x p2,.Name y p3] kk pos) [i,j] (vl0 i j):=.mk λB d δ=>(X10 hc (k60 (uk0 (i:=i) hN hi hx hf) (k60 (uk0 (i:=j) hN hj hy hf2) Zc0 hs2) hs1) hn hst).imp λv σ H Q ⟨δ',r,en,e1,k⟩=>by
 unfold vl0 at e1;split at e1
 ·rename_i da db
  cases e1;rw[Z4] at r;obtain⟨p,xs,rfl,hq,rs⟩:=r;rw[p8] at rs;obtain⟨va,t1,rfl,ra,rs⟩:=rs;rw[p8] at rs;obtain⟨vb,t2,rfl,rb,rs⟩:=rs;rw[o6] at rs;subst rs;refine⟨p,_,rfl,hq.to,rfl,va,[vb],rfl,vb,[],rfl,rfl,k _ ?_ ((en.set i ra).set j rb)⟩;refine⟨by simp,λq hq=>?_,λq hq ds h=>?_⟩
  ·have h1:q≠i:=λz=>hq (by rw[z];exact A5)
   have h2:q≠j:=λz=>hq (by rw[z];exact A3 _ A5)
   rw[List.getElem?_set_ne (B6 h2),List.getElem?_set_ne (B6 h1),List.getElem?_set_ne (B6 h2),List.getElem?_set_ne (B6 h1)];exact⟨rfl,rfl⟩
  ·rcases get_set h with⟨rfl,e3,_⟩|⟨n1,e3⟩
   ·cases e3
   ·rcases get_set e3 with⟨rfl,e4,_⟩|⟨n2,e4⟩
    ·cases e4
    ·simp at hq
     rcases hq with z|z
     ·exact n2 z.symm
     ·exact n1 z.symm
 ·cases e1
end
end DL
namespace HT
open PyProof.Rows
section
variable{w:World}{A:Around}{s:Shared}
theorem tb0{t sl:Addr}{Q:Value->Shared->Prop}(ht:IsTup s.heap t items)(hs:s.heap.IsSliceOf sl vl vu .none)(pl:IsPart vl lo)(pu:IsPart vu hi)
  (hw:sIx items.size 0 lo=0/\sIx items.size items.size hi=items.size) (h:Q (.ref t) s):wpAny (model prog w) A (getItem (.ref t) (.ref sl)) Q E s:=by
 obtain⟨os,Z,O,a0⟩:=id hs;have M:s.TypeIs (.ref sl) "slice" := ⟨os,Z,O⟩;unfold getItem
 try with_reducible refine B9 ?_
 first|refine A0 (A1 ?_)|skip
 refine A0 (y0 ht.typeIs (by decide) ?_);refine A0 (L3 (name:=Str.ofString "__getitem__") ht.typeIs P1
  (D4 P1 ht.typeIs entry_tuple_getitem ?_ (args_tuple_getitem _ _)))
 show wpAny _ _ (Builtin.Tuple.tupleItemsOf (.ref t)>>=_) _ _ s;refine A0 (tupleItemsOf_ ht ?_);refine A0 (M1 M ?_);rw[if_pos (by decide)];refine A0 (wz0 hs pl pu ?_);have J:(((sIx items.size 0 lo:Nat):Int)==0&&(1:Int)==1&&(sIx items.size items.size hi - sIx items.size 0 lo)==items.size)=true:=by
  rw[hw.1,hw.2];simp
 show wpAny _ _ (if (((sIx items.size 0 lo:Nat):Int)==0&&(1:Int)==1&&(sIx items.size items.size hi - sIx items.size 0 lo)==items.size)=true then _ else _) _ _ s;rw[if_pos J];unfold Builtin.Tuple.tupleIsExact;refine A0 (A0 (M1 ht.typeIs (A1 ?_)));rw[if_pos (by decide)];exact A0 (D9 (A1 ⟨_,rfl,A1 h⟩))
end
end HT
namespace L2
open Spec PyProof.Rows
def T50(K:W.Frag):V->Option Int->Option Int->Hp->VK->Prop:=λx lo hi H Q=>∃a xs,x=.ref a/\SqT K H a xs/\(HT.sIx xs.length 0 lo=0/\HT.sIx xs.length xs.length hi=xs.length)/\Q (.ref a) H
theorem Yi0:SlR X (T50 X.K):=by
 intro pins s σ H x v vl vu lo hi sl Q I rx hs pl pu h;obtain⟨a,xs,rfl,hx,hw,q⟩:=h;cases rx;obtain⟨its,r,ht,hz⟩:=I.tuple hx;have J:its.toArray.size=xs.length:=by rw[List.size_toArray];exact r.length.symm
 exact⟨"tuple",_,P1.lookup,ht.typeIs,HT.tb0 ht hs pl pu (by rw[J];exact hw) ⟨.ref a,H,I,rfl,q⟩⟩
def gv0(K:W.Frag):R2:=λx y H Q=>∃a b ys,x=.ref a/\y=.ref b/\SqT K H a []/\SqT K H b ys/\Q (.ref b) H
theorem d00:OpR X (binaryOp .Add) (gv0 X.K):=by
 intro pins s σ H x y v u Q I rx ry h;obtain⟨a,b,ys,rfl,rfl,ha,hb,q⟩:=h;cases rx;cases ry;obtain⟨its,r1,p1,_⟩:=I.tuple ha;obtain⟨Z,r2,p2,_⟩:=I.tuple hb;have e:its=[]:=r1.zero;subst e;obtain⟨⟨cls,dd,data,sl⟩,ho,hc,n,hd⟩:=id p1;obtain⟨⟨a2,a1,data2,a0⟩,M,O,n2,J⟩:=id p2;simp only at hc hd O J;subst hc hd O J;exact i8 ⟨_,ho,rfl⟩ ⟨_,M,rfl⟩ x3 x4 x5 x8 (x9 _ _)
  (tuple_addW0 a b _ Z.toArray n n2 dd a1 sl a0 rfl) ⟨ho,M,⟨.ref b,H,I,rfl,q⟩⟩
def xa0(x:Str)(n:Int):Str:=⟨(List.replicate n.toNat x.cps).foldl (·++·) #[]⟩
def bt0:R2:=λx y H Q=>∃z n,x=.str z/\y=.int n/\-(2 ^ 62)<=n/\n<2 ^ 62/\z.length*n.toNat<=sizeLine/\Q (.str (xa0 z n)) H
theorem a70:OpR X (binaryOp .Mult) bt0:=by
 intro pins s σ H x y v u Q I rx ry h;obtain⟨z,n,rfl,rfl,h1,h2,hz,q⟩:=h;obtain⟨t,rfl⟩:=rx;obtain⟨t',rfl⟩:=ry;have O:∀M k,EP X pins σ Q (.str (xa0 z n) M) { s with toks:=k }:=λM k=>⟨.str _,H,I.tok k,⟨M,rfl⟩,q⟩
 have a2:(sizeLine:Nat)<2 ^ 40:=by decide
 have a0:¬n<1->¬((z.length:Int) > (2 ^ 63 - 1)/n):=by
  intro hn;have a1:0<n:=by omega
  have:(z.length:Int)*n<=2 ^ 63 - 1:=by
   have e:n=(n.toNat:Int):=by omega
   rw[e];have:((z.length*n.toNat:Nat):Int)<=2 ^ 40:=by exact_mod_cast (by omega:z.length*n.toNat<=2 ^ 40)
   rw[Int.natCast_mul] at this;omega
  exact Int.not_lt.mpr ((Bx0 a1).mpr this)
 refine PySem.P.mul_str (by rw[decide_eq_false (by omega),decide_eq_false (by omega)];rfl) (λhn _=>a0 hn) (λ_ _=>?_) ?_
 ·show decide (z.length*n.toNat > sizeLine)=false
  exact L8 (by omega)
 ·by_cases hn:n<1
  ·rw[if_pos hn]
   have e:xa0 z n=Str.empty:=by
    unfold xa0;rw[show n.toNat=0 by omega];rfl
   refine⟨by decide,?_⟩;rw[← e];exact O _ _
  ·rw[if_neg hn]
   by_cases h3:(n==1||z.length==0)=true
   ·rw[if_pos h3]
    have e:xa0 z n=z:=by
     rw[Bool.or_eq_true] at h3;rcases h3 with h3|h3
     ·have:n=1:=N0 h3
      subst this;unfold xa0;show (⟨#[]++z.cps⟩:Str)=z;rw[Array.empty_append]
     ·have h3:z.length=0:=N0 h3
      have Z:z.cps=#[]:=By0 h3;have:∀k:Nat,(List.replicate k (#[]:Array Nat)).foldl (·++·) #[]=#[]:=by
       intro k
       induction k with
       | zero=>rfl
       | succ k ih=>rw[List.replicate_succ,List.foldl_cons];exact ih
      unfold xa0;rw[Z,this];cases z;simp at Z;rw[Z]
    have:=O t s.toks;rw[e] at this;exact this
   ·rw[if_neg h3]
    have hl2:∀(k:Nat) (J:Array Nat),((List.replicate k z.cps).foldl (·++·) J).size=J.size+k*z.cps.size:=by
     intro k
     induction k with
     | zero=>intro J;simp
     | succ k ih=>intro J;rw[List.replicate_succ,List.foldl_cons,ih,Array.size_append,Nat.succ_mul];omega
    refine⟨?_,O _ _⟩;show ((List.replicate n.toNat z.cps).foldl (·++·) #[]).size<=_;rw[hl2];have:z.length=z.cps.size:=rfl;rw[this,Nat.mul_comm] at hz
    simpa using hz
theorem o30:fillsNumberSlot (.type "tuple") "mul"=pure false :=
 PySem.fillsNumberSlot_seq (id := "tuple.__mul__") (r:=some (.builtin "tuple.__rmul__")) Bz0.lookup (by decide +kernel) C00.lookup (by decide +kernel)
theorem g60:seqRepeat? (.type "tuple")=pure (some (.builtin "tuple.__mul__")):=by
 unfold seqRepeat?;rw[PySem.seqSlot_of (T := "tuple") (name := "__mul__") (id := "tuple.__mul__") Bz0.lookup (by decide +kernel),PySem.seqSlot_of (T := "tuple") (name := "__rmul__") (id := "tuple.__rmul__") C00.lookup (by decide +kernel)];rfl
theorem lv0(a:Int)(t:Tok)(l:Addr)(items:Array Value)(n:Nat)(dd:Option Addr)(sl:Array (Option Value)) :
  Meets (Builtin.«int.__rmul__» ⟨[.int a t,.ref l],[]⟩) (λ_ R s=>s.heap.get? l=some { cls:=.type "tuple",dict:=dd,data:=.seq items n,slots:=sl }/\R (.ok (.ret Value.notImplemented)) s) :=
 .of_wp λprog w A R s h=>by
  obtain⟨hp,g,d,tk,os⟩:=s;obtain⟨hl,h⟩:=h
  wp_walk
  exact⟨_,rfl,h⟩
theorem dp0(l:Addr)(items:Array Value)(n:Nat)(dd:Option Addr)(sl:Array (Option Value))(k:Int)(t:Tok)(h2:2<=k)(h3:k<2 ^ 62)(he:items.isEmpty=false)(hsz:items.size*k.toNat<=sizeLine) :
  Meets (Builtin.«tuple.__mul__» ⟨[.ref l,.int k t],[]⟩) (λ_ R s=>s.heap.get? l=some { cls:=.type "tuple",dict:=dd,data:=.seq items n,slots:=sl }/\R (.ok (.ret (Value.ref s.heap.objs.size))) { s with heap:=s.heap.push { cls:=.type "tuple",data:=.seq ((List.replicate k.toNat items).foldl (·++·) #[]) } }) :=
 .of_wp λprog w A R s h=>by
  obtain⟨hp,g,d,tk,os⟩:=s;obtain⟨hl,h⟩:=h;have f1:=AutoSeq1.idx_int;have c1:¬((decide (k < -(2 ^ 63:Int))||decide (k ≥ 2 ^ 63))=true):=by
   rw[decide_eq_false (by omega),decide_eq_false (by omega)];exact B3
  have c2:¬((items.isEmpty||k==1)=true):=by
   rw[he,beq_eq_false_iff_ne.mpr (by omega)];exact B3
  have c3:¬((decide (k<=0)||items.isEmpty)=true):=by
   rw[he,decide_eq_false (by omega)];exact B3
  have hk:((items.size:Int)*k)=((items.size*k.toNat:Nat):Int):=by
   rw[Int.natCast_mul];congr 1;omega
  have hb:(sizeLine:Nat)<2 ^ 40:=by decide
  have c4:¬((items.size:Int)*k > (2 ^ 63 - 1)/8):=by
   rw[hk];omega
  have c5:¬(Builtin.Tuple.tupleTooMany ((items.size:Int)*k)=true):=by
   rw[hk];unfold Builtin.Tuple.tupleTooMany;simp only[decide_eq_true_eq];omega
  have O:∀(m:Nat) (J:Array Value),((List.replicate m items).foldl (·++·) J).size=J.size+m*items.size:=by
   intro m
   induction m with
   | zero=>intro J;simp
   | succ m ih=>intro J;rw[List.replicate_succ,List.foldl_cons,ih,Array.size_append,Nat.succ_mul];omega
  have M:sizeOk (.seq ((List.replicate k.toNat items).foldl (·++·) #[])):=by
   show ((List.replicate k.toNat items).foldl (·++·) #[]).size<=sizeLine;rw[O,Nat.mul_comm]
   simpa using hsz
  wp_walk
  rw[if_neg c1];show wpAny _ _ (Builtin.Tuple.tupleItemsOf (.ref l)>>=_) _ _ _;refine A0 (tupleItemsOf_ ⟨_,hl,rfl,n,rfl⟩ ?_);dsimp only;rw[if_neg c2,if_neg c3];rw[if_neg c4,if_neg c5];exact A0 (m:=Builtin.Tuple.tupleExact _) (D6 (A1 ⟨_,rfl,h⟩) M)
def bp0(K:W.Frag):R2:=λx y H Q=>∃a xs k,x=.ref a/\y=.int k/\SqT K H a xs/\xs≠[]/\2<=k/\k<2 ^ 62/\xs.length*k.toNat<=sizeLine/\∀p,H p=none->Q (.ref p) (upd H p (.tup (List.replicate k.toNat xs).flatten))
theorem Yh0:OpR X (binaryOp .Mult) (bp0 X.K):=by
 intro pins s σ H x y v u Q I rx ry h;obtain⟨a,xs,k,rfl,rfl,ha,hx,h2,h3,hz,q⟩:=h;cases rx;obtain⟨t,rfl⟩:=ry;obtain⟨its,r1,p1,_⟩:=I.tuple ha;obtain⟨⟨cls,dd,data,sl⟩,ho,hc,n,hd⟩:=id p1;simp only at hc hd;subst hc hd;have hl:=r1.length;have he:its.toArray.isEmpty=false:=by
  cases its with
  | nil=>exact absurd (r1.nil_iff.mp rfl) hx
  | cons a b=>rfl
 have M:its.toArray.size*k.toNat<=sizeLine:=by rw[List.size_toArray,← hl];exact hz
 have J:(List.replicate k.toNat its.toArray).foldl (·++·) #[]=(List.replicate k.toNat its).flatten.toArray:=by
  have:=foldl_rep its k.toNat [];rw[List.nil_append] at this;exact this
 refine wpAny_binaryOp_repeat_ref (T := "tuple") (U := "int") (by decide) ⟨_,ho,rfl⟩ (λs'=>N1 s' k t) o30 F.fills_int_mul F.slot_int_rmul g60 F.slot_int_index.lookup
  (S3 F.slot_int_rmul (N1 s k t) F.entry_int_rmul (F.args_int_rmul_2 _ _) (lv0 k t a its.toArray n dd sl)
   ⟨ho,rfl,⟨_,ho,rfl⟩,S3 F.slot_tuple_mul ⟨_,ho,rfl⟩ F.entry_tuple_mul (F.args_tuple_mul_2 _ _) (dp0 a its.toArray n dd sl k t h2 h3 he M) ⟨ho,?_⟩⟩)
 rw[J];refine⟨.ref s.heap.objs.size,_,I.laid (t':=s.toks) (o:=.tup (List.replicate k.toNat xs).flatten) (λb ob q=>B0 _ q) (A2 _) ?_,rfl,q _ (I.hok.fresh (A2 _))⟩;exact⟨by rw[len_rep,Nat.mul_comm];exact hz,_,r1.rep k.toNat,IsTupN.new _ _⟩
end L2
namespace DL
open Spec PyProof.Rows L2
mutual
theorem rl0:∀(d:D) (n:Nat),lean d n=true->deq d d=true
 | .non,_,_=>by unfold deq;rfl
 | .bl b,_,_=>by unfold deq;simp
 | .int b,_,_=>by unfold deq;simp
 | .str b,_,_=>by unfold deq;simp
 | .tup ds,0,h=>by unfold lean at h;cases h
 | .tup ds,n+1,h=>by unfold lean at h;unfold deq;exact s70 ds n h
 | .lst ds,0,h=>by unfold lean at h;cases h
 | .lst ds,n+1,h=>by unfold lean at h;unfold deq;exact s70 ds n h
 | .dct _ _,n,h=>by unfold lean at h;cases h
 | .fn _ _,n,h=>by unfold lean at h;cases h
theorem s70:∀(ds:List D) (n:Nat),leans ds n=true->J5 ds ds=true
 | [],_,_=>by unfold J5;rfl
 | d::ds,n,h=>by
  unfold leans at h;rw[Bool.and_eq_true] at h;unfold J5;rw[rl0 d n h.1,s70 ds n h.2];rfl
end
theorem ys0:∀ds es:List D,J5 ds es=((List.range (min ds.length es.length)).all (λj=>deq (ds.getD j .non) (es.getD j .non))&&ds.length==es.length)
 | [],[]=>by unfold J5;simp
 | [],_::_=>by unfold J5;simp
 | _::_,[]=>by unfold J5;simp
 | d::ds,e::es=>by
  unfold J5;rw[ys0 ds es];have h1:min (d::ds).length (e::es).length=min ds.length es.length+1:=by simp only[List.length_cons];omega
  rw[h1,List.range_succ_eq_map,List.all_cons,List.all_map];have h2:((d::ds).length==(e::es).length)=(ds.length==es.length):=by
   rw[Bool.eq_iff_iff];simp
  rw[h2,Bool.and_assoc];rfl
theorem tj0:∀{ds:List D} {n j:Nat} {d:D},leans ds n=true->ds[j]?=some d->lean d n=true
 | [],_,_,_,_,h=>by simp at h
 | d::ds,n,0,_,h,e=>by
  unfold leans at h;rw[Bool.and_eq_true] at h;simp at e;subst e;exact h.1
 | d::ds,n,j+1,_,h,e=>by
  unfold leans at h;rw[Bool.and_eq_true] at h;exact tj0 (j:=j) h.2 (by simpa using e)
section
variable{σ:St}{s:Shared}
mutual
theorem Rp.inj(I:Inv X pins σ H s):∀{d e:D} {n m:Nat} {v:V},lean d n=true->lean e m=true->Rp X.K H B d v->Rp X.K H B' e v->d=e
 | .non,e,_,m,v,_,le,h,h'=>by
  rw[X5] at h;subst h;cases e with
  | non=>rfl
  | bl b=>rw[Y5] at h';cases h'
  | int b=>rw[o9] at h';cases h'
  | str b=>rw[c7] at h';cases h'
  | tup b=>rw[Z4] at h';obtain⟨_,_,z,_⟩:=h';cases z
  | lst b=>rw[Z8] at h';obtain⟨_,_,z,_⟩:=h';cases z
  | dct a b=>unfold lean at le;cases le
  | fn a b=>unfold lean at le;cases le
 | .bl c,e,_,m,v,_,le,h,h'=>by
  rw[Y5] at h;subst h;cases e with
  | non=>rw[X5] at h';cases h'
  | bl b=>rw[Y5] at h';cases h';rfl
  | int b=>rw[o9] at h';cases h'
  | str b=>rw[c7] at h';cases h'
  | tup b=>rw[Z4] at h';obtain⟨_,_,z,_⟩:=h';cases z
  | lst b=>rw[Z8] at h';obtain⟨_,_,z,_⟩:=h';cases z
  | dct a b=>unfold lean at le;cases le
  | fn a b=>unfold lean at le;cases le
 | .int c,e,_,m,v,_,le,h,h'=>by
  rw[o9] at h;subst h;cases e with
  | non=>rw[X5] at h';cases h'
  | bl b=>rw[Y5] at h';cases h'
  | int b=>rw[o9] at h';cases h';rfl
  | str b=>rw[c7] at h';cases h'
  | tup b=>rw[Z4] at h';obtain⟨_,_,z,_⟩:=h';cases z
  | lst b=>rw[Z8] at h';obtain⟨_,_,z,_⟩:=h';cases z
  | dct a b=>unfold lean at le;cases le
  | fn a b=>unfold lean at le;cases le
 | .str c,e,_,m,v,_,le,h,h'=>by
  rw[c7] at h;subst h;cases e with
  | non=>rw[X5] at h';cases h'
  | bl b=>rw[Y5] at h';cases h'
  | int b=>rw[o9] at h';cases h'
  | str b=>rw[c7] at h';cases h';rfl
  | tup b=>rw[Z4] at h';obtain⟨_,_,z,_⟩:=h';cases z
  | lst b=>rw[Z8] at h';obtain⟨_,_,z,_⟩:=h';cases z
  | dct a b=>unfold lean at le;cases le
  | fn a b=>unfold lean at le;cases le
 | .tup ds,e,0,m,v,ld,_,_,_=>by unfold lean at ld;cases ld
 | .tup ds,e,n+1,m,v,ld,le,h,h'=>by
  rw[Z4] at h;obtain⟨a,xs,rfl,q,r⟩:=h;unfold lean at ld;cases e with
  | non=>rw[X5] at h';cases h'
  | bl b=>rw[Y5] at h';cases h'
  | int b=>rw[o9] at h';cases h'
  | str b=>rw[c7] at h';cases h'
  | tup es =>
   cases m with
   | zero=>unfold lean at le;cases le
   | succ m =>
    unfold lean at le;rw[Z4] at h';obtain⟨a',ys,z,q',r'⟩:=h';cases z;have:=I.tuple_inj q.to q'.to;subst this;rw[Rps.inj I ld le r r']
  | lst es =>
   rw[Z8] at h';obtain⟨a',ys,z,q',r'⟩:=h';cases z;obtain⟨_,_,⟨o,e1,c1,_⟩,_⟩:=I.tuple q.to;obtain⟨_,_,p,_⟩:=I.list q'.to;obtain⟨o',e2,c2,_⟩:=p.isList;rw[e1] at e2;cases e2;rw[c1] at c2;injection c2 with z
   exact absurd z (by decide)
  | dct a b=>unfold lean at le;cases le
  | fn a b=>unfold lean at le;cases le
 | .lst ds,e,0,m,v,ld,_,_,_=>by unfold lean at ld;cases ld
 | .lst ds,e,n+1,m,v,ld,le,h,h'=>by
  rw[Z8] at h;obtain⟨a,xs,rfl,q,r⟩:=h;unfold lean at ld;cases e with
  | non=>rw[X5] at h';cases h'
  | bl b=>rw[Y5] at h';cases h'
  | int b=>rw[o9] at h';cases h'
  | str b=>rw[c7] at h';cases h'
  | lst es =>
   cases m with
   | zero=>unfold lean at le;cases le
   | succ m =>
    unfold lean at le;rw[Z8] at h';obtain⟨a',ys,z,q',r'⟩:=h';cases z;have:=I.list_inj q.to q'.to;subst this;rw[Rps.inj I ld le r r']
  | tup es =>
   rw[Z4] at h';obtain⟨a',ys,z,q',r'⟩:=h';cases z;obtain⟨_,_,⟨o,e1,c1,_⟩,_⟩:=I.tuple q'.to;obtain⟨_,_,p,_⟩:=I.list q.to;obtain⟨o',e2,c2,_⟩:=p.isList;rw[e1] at e2;cases e2;rw[c1] at c2;injection c2 with z
   exact absurd z (by decide)
  | dct a b=>unfold lean at le;cases le
  | fn a b=>unfold lean at le;cases le
 | .dct a b,e,n,m,v,ld,_,_,_=>by unfold lean at ld;cases ld
 | .fn a b,e,n,m,v,ld,_,_,_=>by unfold lean at ld;cases ld
theorem Rps.inj(I:Inv X pins σ H s):∀{ds es:List D} {n m:Nat} {xs:List V},leans ds n=true->leans es m=true->Rps X.K H B ds xs->Rps X.K H B' es xs->ds=es
 | [],es,_,_,_,_,_,h,h'=>by
  rw[o6] at h;subst h;have:=h'.length;cases es with
  | nil=>rfl
  | cons a b=>simp at this
 | d::ds,es,n,m,_,ld,le,h,h'=>by
  rw[p8] at h;obtain⟨x,r,rfl,h1,h2⟩:=h;cases es with
  | nil=>rw[o6] at h';cases h'
  | cons e es =>
   rw[p8] at h';obtain⟨x',r',z,J,M⟩:=h';cases z;unfold leans at ld le;rw[Bool.and_eq_true] at ld le;rw[Rp.inj I ld.1 le.1 h1 J,Rps.inj I ld.2 le.2 h2 M]
end
theorem view(I:Inv X pins σ H s){d:D}{x:V}(l:lean d n=true)(h:Rp X.K H B d x)(r:RelV x u) :
  (d=.non/\u=.none)∨(∃b,d=.bl b/\u=.bool b)∨(∃i t,d=.int i/\u=.int i t)∨(∃z t,d=.str z/\u=.str z t) ∨
  (∃m ds a xs its,n=m+1/\leans ds m=true/\d=.tup ds/\x=.ref a/\u=.ref a/\Rps X.K H B ds xs/\Vals xs its/\s.heap.IsTuple a its.toArray) ∨
  (∃m ds a xs its,n=m+1/\leans ds m=true/\d=.lst ds/\x=.ref a/\u=.ref a/\Rps X.K H B ds xs/\Vals xs its/\s.heap.IsList a its.toArray):=by
 cases d with
 | non=>rw[X5] at h;subst h;exact .inl ⟨rfl,r⟩
 | bl b=>rw[Y5] at h;subst h;exact .inr (.inl ⟨b,rfl,r⟩)
 | int i=>rw[o9] at h;subst h;obtain⟨t,e⟩:=r;exact .inr (.inr (.inl ⟨i,t,rfl,e⟩))
 | str z=>rw[c7] at h;subst h;obtain⟨t,e⟩:=r;exact .inr (.inr (.inr (.inl ⟨z,t,rfl,e⟩)))
 | tup ds =>
  cases n with
  | zero=>unfold lean at l;cases l
  | succ m =>
   unfold lean at l;rw[Z4] at h;obtain⟨a,xs,rfl,q,rr⟩:=h;obtain⟨its,rv,p,_⟩:=I.tuple q.to;exact .inr (.inr (.inr (.inr (.inl ⟨m,ds,a,xs,its,rfl,l,rfl,rfl,r,rr,rv,p⟩))))
 | lst ds =>
  cases n with
  | zero=>unfold lean at l;cases l
  | succ m =>
   unfold lean at l;rw[Z8] at h;obtain⟨a,xs,rfl,q,rr⟩:=h;obtain⟨its,rv,p,_⟩:=I.list q.to;exact .inr (.inr (.inr (.inr (.inr ⟨m,ds,a,xs,its,rfl,l,rfl,rfl,r,rr,rv,p.isList⟩))))
 | dct a b=>unfold lean at l;cases l
 | fn a b=>unfold lean at l;cases l
theorem in1_units{A:Around}:A.in1.units=A.units+1:=rfl
theorem uw0{es:List D}{ys:List V}{ws:List Value}{A:Around}(ld:leans ds n=true)(le:leans es m=true)(r1:Rps X.K H B ds xs)(r2:Rps X.K H B' es ys)(v1:Vals xs us)(v2:Vals ys ws)
  (ih:∀d e x y u w,lean d n=true->lean e m=true->Rp X.K H B d x->Rp X.K H B' e y->RelV x u->RelV y w->SeqAt.EqAt A s u w (deq d e)) :
  ∀j (h1:j<us.toArray.size) (h2:j<ws.toArray.size),SeqAt.EqAt A s us.toArray[j] ws.toArray[j] (deq (ds.getD j .non) (es.getD j .non)):=by
 intro j h1 h2;have l1:j<ds.length:=by rw[← r1.length,v1.length];simpa using h1
 have l2:j<es.length:=by rw[← r2.length,v2.length];simpa using h2
 obtain⟨x,ex,rx⟩:=r1.get (C8 l1);obtain⟨y,ey,ry⟩:=r2.get (C8 l2);obtain⟨u,eu,ru⟩:=v1.get ex;obtain⟨w,ew,J⟩:=v2.get ey;have hu:us.toArray[j]=u:=by
  have:us[j]?=some u:=eu;simp at h1;rw[List.getElem?_eq_getElem h1] at this
  simpa using A8 this
 have hw:ws.toArray[j]=w:=by
  have:ws[j]?=some w:=ew;simp at h2;rw[List.getElem?_eq_getElem h2] at this
  simpa using A8 this
 rw[hu,hw];have e1:ds.getD j .non=ds[j]:=by simp[List.getD_eq_getElem?_getD,l1]
 have e2:es.getD j .non=es[j]:=by simp[List.getD_eq_getElem?_getD,l2]
 rw[e1,e2];exact ih _ _ _ _ _ _ (tj0 ld (C8 l1)) (tj0 le (C8 l2)) rx ry ru J
theorem gk0(I:Inv X pins σ H s):∀(n m:Nat) (d e:D) (x y:V) (u w:Value) (A:Around),A.units+n<cLine->lean d n=true->lean e m=true->Rp X.K H B d x->Rp X.K H B' e y->RelV x u->RelV y w->SeqAt.EqAt A s u w (deq d e):=by
 intro n
 induction n with
 | zero =>
  intro m d e x y u w A hu ld le hx hy rx ry;have J:A.units<cLine:=by omega
  rcases view I ld hx rx with⟨rfl,rfl⟩|⟨b,rfl,rfl⟩|⟨i,t,rfl,rfl⟩|⟨z,t,rfl,rfl⟩|⟨n',_,_,_,_,hn,_⟩|⟨n',_,_,_,_,hn,_⟩<;>(try (exact absurd hn (by omega))) <;>
  rcases view I le hy ry with⟨rfl,rfl⟩|⟨b',rfl,rfl⟩|⟨i',t',rfl,rfl⟩|⟨z',t',rfl,rfl⟩|⟨m',es,a',ys,Z,rfl,a0,rfl,rfl,rfl,M,O,p'⟩|⟨m',es,a',ys,Z,rfl,a0,rfl,rfl,rfl,M,O,p'⟩ <;>
  unfold deq <;>
  first
  | with_reducible exact L7 _|with_reducible exact y9 _ _|with_reducible exact P8 _ _ _ _|with_reducible exact i0 _ _ _ _|with_reducible exact z0 _ _ _|with_reducible exact A10 _ _ _
  | with_reducible exact y6 _|with_reducible exact d5 _ _|with_reducible exact d6 _ _|with_reducible exact y8 _|with_reducible exact A00 _ _ _|with_reducible exact e8 _ _|with_reducible exact Q1 _ _ _ _
  | with_reducible exact e9 _ _|with_reducible exact A20 _ _ _|with_reducible exact Q2 _ _ _ _
  | with_reducible exact SeqAt.EqAt.none_list p' J|with_reducible exact SeqAt.EqAt.bool_list _ p' J|with_reducible exact SeqAt.EqAt.int_list _ _ p' J|with_reducible exact SeqAt.EqAt.str_list _ _ p' J
  | with_reducible exact r8 p' J|with_reducible exact SeqAt.EqAt.bool_tuple _ p' J|with_reducible exact r9 _ _ p' J|with_reducible exact t0 _ _ p' J
 | succ n ih =>
  intro m d e x y u w A hu ld le hx hy rx ry;have J:A.units<cLine:=by omega
  have a2:A.in1.units+n<cLine:=by rw[in1_units];omega
  rcases view I ld hx rx with⟨rfl,rfl⟩|⟨b,rfl,rfl⟩|⟨i,t,rfl,rfl⟩|⟨z,t,rfl,rfl⟩|⟨n',ds,a,xs,its,hn,a1,rfl,rfl,rfl,rr,rv,p⟩|⟨n',ds,a,xs,its,hn,a1,rfl,rfl,rfl,rr,rv,p⟩ <;>
  rcases view I le hy ry with⟨rfl,rfl⟩|⟨b',rfl,rfl⟩|⟨i',t',rfl,rfl⟩|⟨z',t',rfl,rfl⟩|⟨m',es,a',ys,Z,rfl,a0,rfl,rfl,rfl,M,O,p'⟩|⟨m',es,a',ys,Z,rfl,a0,rfl,rfl,rfl,M,O,p'⟩
  case inr.inr.inr.inr.inl.inr.inr.inr.inr.inl =>
   cases hn
   by_cases hab:a=a'
   ·subst hab
    have e:D.tup ds=D.tup es:=Rp.inj I ld le hx hy;rw[← e,rl0 _ _ ld];exact L7 _
   ·refine t9 hab ?_
    have:=v0 (e:=λj=>deq (ds.getD j .non) (es.getD j .non)) p p' J (uw0 a1 a0 rr M rv O λd e x y u w h1 h2 h3 h4 h5 h6=>ih m' d e x y u w A.in1 a2 h1 h2 h3 h4 h5 h6);unfold deq;rw[ys0]
    simpa [← rv.length,← O.length,rr.length,M.length] using this
  case inr.inr.inr.inr.inr.inr.inr.inr.inr.inr =>
   cases hn
   by_cases hab:a=a'
   ·subst hab
    have e:D.lst ds=D.lst es:=Rp.inj I ld le hx hy;rw[← e,rl0 _ _ ld];exact L7 _
   ·refine t9 hab ?_
    have s1:its.toArray.size=ds.length:=by rw[List.size_toArray,← rv.length,rr.length]
    have s2:Z.toArray.size=es.length:=by rw[List.size_toArray,← O.length,M.length]
    unfold deq;rw[ys0]
    by_cases hl:ds.length=es.length
    ·have:=SeqAt.RcAt.lists (e:=λj=>deq (ds.getD j .non) (es.getD j .non)) p p' (by rw[s1,s2,hl]) J (uw0 a1 a0 rr M rv O λd e x y u w h1 h2 h3 h4 h5 h6=>ih m' d e x y u w A.in1 a2 h1 h2 h3 h4 h5 h6)
     rw[s1] at this;rw[hl] at this ⊢
     simpa using this
    ·have:=C80 (A:=A) p p' (by rw[s1,s2];simpa using hl) J
     rw[beq_eq_false_iff_ne.mpr hl,Bool.and_false];exact this
  all_goals
   unfold deq
   first
   | with_reducible exact L7 _|with_reducible exact y9 _ _|with_reducible exact P8 _ _ _ _|with_reducible exact i0 _ _ _ _|with_reducible exact z0 _ _ _|with_reducible exact A10 _ _ _
   | with_reducible exact y6 _|with_reducible exact d5 _ _|with_reducible exact d6 _ _|with_reducible exact y8 _|with_reducible exact A00 _ _ _|with_reducible exact e8 _ _|with_reducible exact Q1 _ _ _ _
   | with_reducible exact e9 _ _|with_reducible exact A20 _ _ _|with_reducible exact Q2 _ _ _ _
   | with_reducible exact SeqAt.EqAt.none_list p' J|with_reducible exact SeqAt.EqAt.bool_list _ p' J|with_reducible exact SeqAt.EqAt.int_list _ _ p' J|with_reducible exact SeqAt.EqAt.str_list _ _ p' J
   | with_reducible exact r8 p' J|with_reducible exact SeqAt.EqAt.bool_tuple _ p' J|with_reducible exact r9 _ _ p' J|with_reducible exact t0 _ _ p' J
   | with_reducible exact SeqAt.EqAt.list_none p J|with_reducible exact SeqAt.EqAt.list_bool _ p J|with_reducible exact SeqAt.EqAt.list_int _ _ p J|with_reducible exact SeqAt.EqAt.list_str _ _ p J
   | with_reducible exact SeqAt.EqAt.tuple_none p J|with_reducible exact SeqAt.EqAt.tuple_bool _ p J|with_reducible exact SeqAt.EqAt.tuple_int _ _ p J|with_reducible exact SeqAt.EqAt.tuple_str _ _ p J
   | with_reducible exact SeqAt.EqAt.list_tuple p p' J|with_reducible exact SeqAt.EqAt.tuple_list p p' J
end
end DL
namespace DL
open Spec PyProof.Rows L2
section
variable{σ:St}{s:Shared}
theorem e70(I:Inv X pins σ H s)(n m:Nat)(d e:D)(x y:V)(u w:Value)(A:Around)(hu:A.units+n<cLine)(ld:lean d n=true)(le:lean e m=true)(hx:Rp X.K H B d x)(hy:Rp X.K H B' e y)(rx:RelV x u)(ry:RelV y w) :
  SeqAt.RcAt A s u w (deq d e)/\SeqAt.RcNeAt A s u w (!deq d e):=by
 have J:A.units<cLine:=by omega
 rcases view I ld hx rx with⟨rfl,rfl⟩|⟨b,rfl,rfl⟩|⟨i,t,rfl,rfl⟩|⟨z,t,rfl,rfl⟩|⟨n',ds,a,xs,its,hn,a3,rfl,rfl,rfl,rr,rv,p⟩|⟨n',ds,a,xs,its,hn,a3,rfl,rfl,rfl,rr,rv,p⟩ <;>
 rcases view I le hy ry with⟨rfl,rfl⟩|⟨b',rfl,rfl⟩|⟨i',t',rfl,rfl⟩|⟨z',t',rfl,rfl⟩|⟨m',es,a',ys,a0,rfl,a2,rfl,rfl,rfl,O,Z,p'⟩|⟨m',es,a',ys,a0,rfl,a2,rfl,rfl,rfl,O,Z,p'⟩
 case inr.inr.inr.inr.inl.inr.inr.inr.inr.inl =>
  subst hn;have a1:A.in1.units+n'<cLine:=by rw[in1_units];omega
  have M:=uw0 (A:=A.in1) a3 a2 rr O rv Z λd e x y u w h1 h2 h3 h4 h5 h6=>gk0 I n' m' d e x y u w A.in1 a1 h1 h2 h3 h4 h5 h6
  have q1:=v0 (e:=λj=>deq (ds.getD j .non) (es.getD j .non)) p p' J M;have q2:=SeqAt.RcNeAt.tuples (e:=λj=>deq (ds.getD j .non) (es.getD j .non)) p p' J M;unfold deq;rw[ys0];have s1:its.toArray.size=ds.length:=by rw[List.size_toArray,← rv.length,rr.length]
  have s2:a0.toArray.size=es.length:=by rw[List.size_toArray,← Z.length,O.length]
  rw[s1,s2] at q1 q2;exact⟨q1,q2⟩
 case inr.inr.inr.inr.inr.inr.inr.inr.inr.inr =>
  subst hn;have a1:A.in1.units+n'<cLine:=by rw[in1_units];omega
  have M:=uw0 (A:=A.in1) a3 a2 rr O rv Z λd e x y u w h1 h2 h3 h4 h5 h6=>gk0 I n' m' d e x y u w A.in1 a1 h1 h2 h3 h4 h5 h6
  have s1:its.toArray.size=ds.length:=by rw[List.size_toArray,← rv.length,rr.length]
  have s2:a0.toArray.size=es.length:=by rw[List.size_toArray,← Z.length,O.length]
  unfold deq;rw[ys0]
  by_cases hl:ds.length=es.length
  ·have q1:=SeqAt.RcAt.lists (e:=λj=>deq (ds.getD j .non) (es.getD j .non)) p p' (by rw[s1,s2,hl]) J M
   have q2:=SeqAt.RcNeAt.lists (e:=λj=>deq (ds.getD j .non) (es.getD j .non)) p p' (by rw[s1,s2,hl]) J M;rw[s1] at q1 q2;rw[hl] at q1 q2 ⊢;simp only[Nat.min_self,beq_self_eq_true,Bool.and_true];exact⟨q1,q2⟩
  ·have q1:=C80 (A:=A) p p' (by rw[s1,s2];simpa using hl) J
   have q2:=SeqAt.RcNeAt.lists_lengths (A:=A) p p' (by rw[s1,s2];simpa using hl) J;rw[beq_eq_false_iff_ne.mpr hl,Bool.and_false];exact⟨q1,q2⟩
 all_goals
  unfold deq;constructor
  ·first
   | with_reducible exact SeqAt.RcAt.none_none|with_reducible exact SeqAt.RcAt.bool_bool _ _|with_reducible exact SeqAt.RcAt.int_int _ _ _ _|with_reducible exact SeqAt.RcAt.str_str _ _ _ _|with_reducible exact SeqAt.RcAt.bool_int _ _ _|with_reducible exact SeqAt.RcAt.int_bool _ _ _
   | with_reducible exact SeqAt.RcAt.none_bool _|with_reducible exact SeqAt.RcAt.none_int _ _|with_reducible exact SeqAt.RcAt.none_str _ _|with_reducible exact SeqAt.RcAt.bool_none _|with_reducible exact SeqAt.RcAt.bool_str _ _ _|with_reducible exact SeqAt.RcAt.int_none _ _|with_reducible exact SeqAt.RcAt.int_str _ _ _ _
   | with_reducible exact SeqAt.RcAt.str_none _ _|with_reducible exact SeqAt.RcAt.str_bool _ _ _|with_reducible exact SeqAt.RcAt.str_int _ _ _ _
   | with_reducible exact SeqAt.RcAt.none_list p' J|with_reducible exact SeqAt.RcAt.bool_list _ p' J|with_reducible exact SeqAt.RcAt.int_list _ _ p' J|with_reducible exact SeqAt.RcAt.str_list _ _ p' J
   | with_reducible exact SeqAt.RcAt.none_tuple p' J|with_reducible exact SeqAt.RcAt.bool_tuple _ p' J|with_reducible exact SeqAt.RcAt.int_tuple _ _ p' J|with_reducible exact SeqAt.RcAt.str_tuple _ _ p' J
   | with_reducible exact SeqAt.RcAt.list_none p J|with_reducible exact SeqAt.RcAt.list_bool _ p J|with_reducible exact SeqAt.RcAt.list_int _ _ p J|with_reducible exact SeqAt.RcAt.list_str _ _ p J
   | with_reducible exact SeqAt.RcAt.tuple_none p J|with_reducible exact SeqAt.RcAt.tuple_bool _ p J|with_reducible exact SeqAt.RcAt.tuple_int _ _ p J|with_reducible exact SeqAt.RcAt.tuple_str _ _ p J
   | with_reducible exact SeqAt.RcAt.list_tuple p p' J|with_reducible exact SeqAt.RcAt.tuple_list p p' J
  ·try rw[Bool.not_false]
   try rw[Bool.not_true]
   first
   | with_reducible exact SeqAt.RcNeAt.none_none|with_reducible exact SeqAt.RcNeAt.bool_bool _ _|with_reducible exact SeqAt.RcNeAt.int_int _ _ _ _|with_reducible exact SeqAt.RcNeAt.str_str _ _ _ _|with_reducible exact SeqAt.RcNeAt.bool_int _ _ _|with_reducible exact SeqAt.RcNeAt.int_bool _ _ _
   | with_reducible exact SeqAt.RcNeAt.none_bool _|with_reducible exact SeqAt.RcNeAt.none_int _ _|with_reducible exact SeqAt.RcNeAt.none_str _ _|with_reducible exact SeqAt.RcNeAt.bool_none _|with_reducible exact SeqAt.RcNeAt.bool_str _ _ _|with_reducible exact SeqAt.RcNeAt.int_none _ _|with_reducible exact SeqAt.RcNeAt.int_str _ _ _ _
   | with_reducible exact SeqAt.RcNeAt.str_none _ _|with_reducible exact SeqAt.RcNeAt.str_bool _ _ _|with_reducible exact SeqAt.RcNeAt.str_int _ _ _ _
   | with_reducible exact SeqAt.RcNeAt.none_list p' J|with_reducible exact SeqAt.RcNeAt.bool_list _ p' J|with_reducible exact SeqAt.RcNeAt.int_list _ _ p' J|with_reducible exact SeqAt.RcNeAt.str_list _ _ p' J
   | with_reducible exact SeqAt.RcNeAt.none_tuple p' J|with_reducible exact SeqAt.RcNeAt.bool_tuple _ p' J|with_reducible exact SeqAt.RcNeAt.int_tuple _ _ p' J|with_reducible exact SeqAt.RcNeAt.str_tuple _ _ p' J
   | with_reducible exact SeqAt.RcNeAt.list_none p J|with_reducible exact SeqAt.RcNeAt.list_bool _ p J|with_reducible exact SeqAt.RcNeAt.list_int _ _ p J|with_reducible exact SeqAt.RcNeAt.list_str _ _ p J
   | with_reducible exact SeqAt.RcNeAt.tuple_none p J|with_reducible exact SeqAt.RcNeAt.tuple_bool _ p J|with_reducible exact SeqAt.RcNeAt.tuple_int _ _ p J|with_reducible exact SeqAt.RcNeAt.tuple_str _ _ p J
   | with_reducible exact SeqAt.RcNeAt.list_tuple p p' J|with_reducible exact SeqAt.RcNeAt.tuple_list p p' J
end
section
variable{a:Expr}{ga:Ds->Option D}
def ib0(K:W.Frag)(neg:Bool):R2:=λx y H Q=>∃B B' dx dy,Rp K H B dx x/\Rp K H B' dy y/\lean dx 50=true/\lean dy 50=true/\Q (.bl (xor neg (deq dx dy))) H
theorem qq0(hu:X.A.units+64<cLine):OpR X (compareOp .Eq) (ib0 X.K false):=by
 intro pins s σ H x y v u Q I rx ry h;obtain⟨B,B',dx,dy,hx,hy,lx,ly,q⟩:=h;exact(e70 I 50 50 dx dy x y v u X.A (by omega) lx ly hx hy rx ry).1 _ _ _ _ ⟨.bl _,H,I,rfl,by rw[Bool.false_xor] at q;exact q⟩
theorem td0(hu:X.A.units+64<cLine):OpR X (compareOp .NotEq) (ib0 X.K true):=by
 intro pins s σ H x y v u Q I rx ry h;obtain⟨B,B',dx,dy,hx,hy,lx,ly,q⟩:=h;exact(e70 I 50 50 dx dy x y v u X.A (by omega) lx ly hx hy rx ry).2 _ _ _ _ ⟨.bl _,H,I,rfl,by rw[Bool.true_xor] at q;exact q⟩
theorem sk0:Op2 K (ib0 K false) zy0:=by
 intro H B x y dx dy d Q hb rx ry h k;unfold zy0 at h;split at h
 ·rename_i hl
  cases h;exact⟨B,B,dx,dy,rx,ry,hl.1,hl.2,k _ H (Same.refl H) (by rw[Y5,Bool.false_xor])⟩
 ·cases h
theorem u70:Op2 K (ib0 K true) yb0:=by
 intro H B x y dx dy d Q hb rx ry h k;unfold yb0 at h;split at h
 ·rename_i hl
  cases h;exact⟨B,B,dx,dy,rx,ry,hl.1,hl.2,k _ H (Same.refl H) (by rw[Y5,Bool.true_xor])⟩
 ·cases h
theorem ca0:Op2 K (λx y H Q=>rI0 (λi j=>.int (i+j)) x y H Q∨(∃i j,x=.str i/\y=.str j/\i.length+j.length<=sizeLine/\Q (.str (i++j)) H)∨bm0 K x y H Q∨bj0 K x y H Q∨gv0 K x y H Q) Z0:=by
 intro H B x y dx dy d Q hb rx ry h k;cases dx<;>cases dy<;>simp only[Z0] at h<;>try cases h
 ·rw[o9] at rx ry
  subst rx ry;exact .inl ⟨_,_,rfl,rfl,k _ H (Same.refl H) (by rw[o9])⟩
 ·split at h
  ·cases h
   rw[c7] at rx ry;subst rx ry;exact .inr (.inl ⟨_,_,rfl,rfl,by assumption,k _ H (Same.refl H) (by rw[c7])⟩)
  ·cases h
 ·split at h
  ·rename_i hz
   cases h;have M:=ry;have O:=rx;rw[Z4] at rx ry;obtain⟨a,xs,rfl,q1,r1⟩:=rx;obtain⟨b,ys,rfl,q2,r2⟩:=ry
   by_cases he:xs=[]
   ·subst he
    have e:‹List D›=‹List D›:=rfl;have hn:=r1.length;simp at hn;have J:=U2.mp hn.symm;subst J;exact .inr (.inr (.inr (.inr ⟨a,b,ys,rfl,rfl,q1.to,q2.to,k _ H (Same.refl H) (by rw[List.nil_append];exact M)⟩)))
   ·refine .inr (.inr (.inr (.inl ⟨a,b,xs,ys,rfl,rfl,q1.to,q2.to,he,by rw[r1.length,r2.length];exact hz,λz=>?_,λz p hp=>k _ _ (b7 hp) (so0 hb hp (r1.append r2))⟩)))
    subst z;have hn:=r2.length;simp at hn;have J:=U2.mp hn.symm;subst J;exact k _ H (Same.refl H) (by rw[List.append_nil];exact O)
  ·cases h
 ·split at h
  ·rename_i hz
   cases h;rw[Z8] at rx ry;obtain⟨a,xs,rfl,q1,r1⟩:=rx;obtain⟨b,ys,rfl,q2,r2⟩:=ry;exact .inr (.inr (.inl ⟨a,b,xs,ys,rfl,rfl,q1.to,q2.to,by rw[r1.length,r2.length];exact hz,λp hp=>k _ _ (b7 hp) (pu0 hb hp (r1.append r2))⟩))
  ·cases h
theorem X8(ha:PD X a ga)(hb:PD X b gb):PD X (.BinOp a .Add b pos) (o2 ga gb Z0):=us0 (Ys0.or (g00.or (Y40.or (Zv0.or d00)))) ca0 ha hb
theorem j50(h:Rps K H B ds xs):∀k:Nat,Rps K H B (List.replicate k ds).flatten (List.replicate k xs).flatten
 | 0=>by simp[o6]
 | k+1=>by
  rw[List.replicate_succ,List.replicate_succ,List.flatten_cons,List.flatten_cons];exact h.append (j50 h k)
theorem dn0:Op2 K (λx y H Q=>rI CMul (λi j=>.int (i*j)) x y H Q∨bt0 x y H Q∨bp0 K x y H Q) Q7:=by
 intro H B x y dx dy d Q hb rx ry h k;cases dx<;>cases dy<;>simp only[Q7] at h<;>try cases h
 ·split at h
  ·cases h
   rw[o9] at rx ry;subst rx ry;exact .inl ⟨_,_,rfl,rfl,by assumption,k _ H (Same.refl H) (by rw[o9])⟩
  ·cases h
 ·split at h
  ·rename_i hz
   cases h;rw[c7] at rx;rw[o9] at ry;subst rx ry;exact .inr (.inl ⟨_,_,rfl,rfl,hz.1,hz.2.1,hz.2.2,k _ H (Same.refl H) (by rw[c7];rfl)⟩)
  ·cases h
 ·split at h
  ·rename_i hz
   cases h;rw[Z4] at rx;rw[o9] at ry;subst ry;obtain⟨a,xs,rfl,q1,r1⟩:=rx;refine .inr (.inr ⟨a,xs,_,rfl,rfl,q1.to,λz=>hz.1 ?_,hz.2.1,hz.2.2.1,by rw[r1.length];exact hz.2.2.2,λp hp=>k _ _ (b7 hp) (so0 hb hp (j50 r1 _))⟩);subst z;have hn:=r1.length;simp at hn;exact U2.mp hn.symm
  ·cases h
theorem J9(ha:PD X a ga)(hb:PD X b gb):PD X (.BinOp a .Mult b pos) (o2 ga gb Q7):=us0 (Xh0.or (a70.or Yh0)) dn0 ha hb
theorem fm0{xs:List D}(h:sIx xs.length 0 lo=0/\sIx xs.length xs.length hi=xs.length):cutD xs lo hi=xs:=by
 unfold cutD;rw[h.1,h.2];simp
theorem z10{lo hi:Option Expr}{gl gh:Ds->Option (Option Int)}{p2:Pos}(he:PD X e g)(hl:PDO X lo gl)(hh:PDO X hi gh) :
  PD X (.Subscript e (.Slice lo hi none p2) pos) (M8 g gl gh):=.mk λB δ =>
 (dq0 (W10.or (al0.or (X80.or Yi0))) (he B δ) (hl B δ) (hh B δ)).imp fun σ H Q ⟨d,en,h,k⟩=>by
  unfold M8 at h;cases e1:g δ with
  | none=>rw[e1] at h;cases h
  | some x =>
   cases e2:gl δ with
   | none=>rw[e1,e2] at h;cases h
   | some l =>
    cases e3:gh δ with
    | none=>rw[e1,e2,e3] at h;cases h
    | some u =>
     rw[e1,e2,e3] at h;simp only[Option.bind_some] at h;refine⟨x,en,e1,λv H1 s1 r1=>⟨l,en.same s1,(by first|exact e2|rfl),λH2 s2=>⟨u,(en.same s1).same s2,(by first|exact e3|rfl),λH3 s3=>?_⟩⟩⟩;have S:=(s1.trans s2).trans s3;have r3:=(r1.same s2).same s3;have hb:=(((en.same s1).same s2).same s3).bad;cases x<;>simp only[slA] at h<;>try cases h
     ·split at h
      ·cases h
       rw[c7] at r3;exact .inl ⟨_,r3,by assumption,k _ H3 S (by rw[c7])⟩
      ·cases h
     ·have r4:=r3
      rw[Z4] at r3;obtain⟨a,xs,rfl,q,r⟩:=r3;rename_i dxs
      by_cases hw:sIx dxs.length 0 l=0/\sIx dxs.length dxs.length u=dxs.length
      ·refine .inr (.inr (.inr ⟨a,xs,rfl,q.to,by rw[r.length,ud0,ud0];exact hw,k _ _ S ?_⟩))
       rw[fm0 hw];exact r4
      ·exact .inr (.inr (.inl ⟨a,xs,rfl,q.to,by rw[r.length,ud0,ud0];exact hw,λp hp=>k _ _ (S.trans (b7 hp)) (so0 hb hp (jz0 r l u))⟩))
     ·rw[Z8] at r3
      obtain⟨a,xs,rfl,q,r⟩:=r3;exact .inr (.inl ⟨a,xs,rfl,q.to,λp hp=>k _ _ (S.trans (b7 hp)) (pu0 hb hp (jz0 r l u))⟩)
theorem Xw0:FnR K (λxs H Q=>(∃i,xs=[.int i]/\Q (.int i) H)∨∃k,xs=[.bl k]/\Q (.int (if k then 1 else 0)) H) intOfD:=by
 intro H B xs ds d Q hb r h k;unfold intOfD at h;split at h
 ·cases h
  obtain⟨v,rfl,r1⟩:=zj0 r;rw[o9] at r1;subst r1;exact .inl ⟨_,rfl,k _ H (Same.refl H) (by rw[o9])⟩
 ·cases h
  obtain⟨v,rfl,r1⟩:=zj0 r;rw[Y5] at r1;subst r1;exact .inr ⟨_,rfl,k _ H (Same.refl H) (by rw[o9])⟩
 ·cases h
end
end DL
namespace DL
open Spec PyProof.Rows
theorem R3{gA:GA}(h:gA δ=some ds)(hl:ds.length<=sizeLine):Y4 gA δ=some (.tup ds):=by
 unfold Y4;rw[h,Option.bind_some,if_pos hl]
theorem tp0{gA:GA}(h:gA δ=some ds)(hl:ds.length<=sizeLine):W6 gA δ=some (.lst ds):=by
 unfold W6;rw[h,Option.bind_some,if_pos hl]
theorem Zz0{n:Int}{d:D}(h:d∈Y7 0 n):∃k:Nat,(k:Int)<n/\d=.int (k:Int):=by
 obtain⟨k,hk,rfl⟩:=A7.mp h;have:=C3.mp hk;exact⟨k,by omega,by rw[Int.zero_add]⟩
theorem an0(f:D->α)(n:Int):(Y7 0 n).map f=(List.range n.toNat).map λ(k:Nat)=>f (.int (k:Int)):=by
 unfold Y7;rw[List.map_map];have:n - 0=n:=by omega
 rw[this];refine L5 λk _=>?_
 show f (.int (0+(k:Int)))=_;rw[Int.zero_add]
theorem wf0(n:Int):(Y7 0 n).length=n.toNat:=by unfold Y7;simp
theorem wl0{n:Int}{d:D}(h:(Y7 0 n)[j]?=some d):j<n.toNat/\d=.int (j:Int):=by
 have hj:j<n.toNat:=by
  have:=(D0.mp h).1
  rwa [wf0] at this
 refine⟨hj,?_⟩;unfold Y7 at h;rw[List.getElem?_map,List.getElem?_range (by simpa using hj)] at h;have:=A8 h;rw[← this];show D.int (0+(j:Int))=_;rw[Int.zero_add]
theorem my0{gt:GB}{ge:GE}{n:Int}(h:Nat->D)(H:∀k:Nat,(k:Int)<n->∃δ',gN 0 (.int (k:Int)) δ=some δ'/\gt δ'=some true/\ge δ'=some (h k)) :
  R4 (gN 0) gt ge δ (Y7 0 n)=some ((List.range n.toNat).map h):=by
 rw[R8 (λd=>match d with|.int j=>h j.toNat|_=>.non) (λd hd=>by
  obtain⟨k,hk,rfl⟩:=Zz0 hd;exact H k hk),an0]
 rfl
end DL
namespace DL
open Spec PyProof.Rows L2
section
variable{a:Expr}{ga:Ds->Option D}
theorem ki0(hm:X.mg x=none)(hv:bootBuiltins x=some (.type "list"))(ha:PD X e g)(hg:Gl X x:=by rfl)
  (hn:x ≠"__name__" := by decide) (hdb:(x==("__debug__" : Str))=false:=by decide) (he:starEach [e] X.env=(false,eval e X.env)::starEach [] X.env:=by rfl) (hpl:(backTo pos (starEach [] X.env)).any (·.1)=false:=by rfl) :
  PDF X (.Call (.Name x p) [e] [] pos) (oA (z8 g v6) qg0):=.mk λB δ=>(s20 l60 hg hm hv (K3 (ha B δ) yx0 he) hn hdb he hpl).imp fun σ H Q ⟨d,en,h,k⟩=>by
 unfold oA z8 v6 at h;cases e1:g δ with
 | none=>rw[e1] at h;cases h
 | some x =>
  rw[e1] at h;simp only[Option.bind_some,Option.map_some] at h;refine⟨x,en,e1,λv H1 s1 r1=>?_⟩;cases x<;>simp only[qg0] at h<;>try cases h
  ·rw[Z4] at r1
   obtain⟨q,xs,rfl,hq,rr⟩:=r1;exact⟨q,xs,rfl,.inr hq.to,λl hl=>k l _ (s1.free hl) (s1.trans (b7 hl)) ⟨_,m8,rr.mono (Gr.fresh hl)⟩⟩
  ·rw[Z8] at r1
   obtain⟨q,xs,rfl,hq,rr⟩:=r1;exact⟨q,xs,rfl,.inl hq.to,λl hl=>k l _ (s1.free hl) (s1.trans (b7 hl)) ⟨_,m8,rr.mono (Gr.fresh hl)⟩⟩
end
def FnN(P:Program)(w:World)(K:W.Frag)(mg:Str->Option Value)(base:Heap)(x:Str)(k:Nat)(ps:List Str)(f:List D->Option D):Prop :=
 ∃(fa:Addr) (fd:FuncData),FnOk P w K mg base CX0 k fa fd ps (spN K f)/\mg x=some (.ref fa)/\W.keepIn K (.ref fa)=true/\Binds K fd ps []
theorem qw0{k:Nat}{ps:List Str}{f:List D->Option D}(C:FnN X.prog X.w X.K X.mg X.base x k ps f)(hr:Room m X.A)(hk:k<=m)(ha:PDA X (e::es) gA)(hg:Gl X x:=by rfl)(hdb:(x==("__debug__" : Str))=false:=by decide)
  (he:starEach (e::es) X.env=(false,eval e X.env)::starEach es X.env:=by rfl) (hpl:(backTo pos (starEach es X.env)).any (·.1)=false:=by rfl):PDF X (.Call (.Name x p) (e::es) [] pos) (oA gA f):=by
 obtain⟨fa,fd,F,hm,kp,hb⟩:=C;exact .mk λB δ=>(uh0 (E:=E0) F (hr.mono hk) hg hm kp hb .nil qz0 (ha B δ) hdb he hpl).imp fun σ H Q h=>by
  obtain⟨d,en,h,k⟩:=h;unfold oA at h;cases e1:gA δ with
  | none=>rw[e1] at h;cases h
  | some ds =>
   rw[e1] at h;refine⟨ds,en,e1,λvs H1 s1 r1=>?_⟩;show spN X.K f (vs++[]) H1 Q E0;rw[List.append_nil];exact⟨B,ds,d,(en.same s1).bad,r1,h,λp H' hp s r=>k p H' (s1.free hp) (s1.trans s) r⟩
theorem R9{k:Nat}{ps:List Str}{f:List D->Option D}(C:FnN X.prog X.w X.K X.mg X.base x k ps f)(hr:Room m X.A)(hk:k<=m)(ha:PDA X (e::es) gA)(hg:Gl X x:=by rfl)(hdb:(x==("__debug__" : Str))=false:=by decide)
  (he:starEach (e::es) X.env=(false,eval e X.env)::starEach es X.env:=by rfl) (hpl:(backTo pos (starEach es X.env)).any (·.1)=false:=by rfl):PD X (.Call (.Name x p) (e::es) [] pos) (oA gA f):=(qw0 C hr hk ha hg hdb he hpl).pd
theorem M4(h:PDF X e g):PSD X (.Return (some e) pos) (yg0 g):=.mk λH₀ B₀ δ pins s σ H D I ⟨r,en,e1,k⟩=>by
 unfold yg0 at e1;obtain⟨B,b1,b2,env⟩:=en.ex;cases e2:g δ with
 | none=>rw[e2] at e1;cases e1
 | some d =>
  rw[e2] at e1;cases e1;exact lj0 (h B δ) pins s σ H D I ⟨d,env,e2,λp H' hp s' r=>k p H' (en.same.free hp) (en.same.trans s') (r.mono (λo h=>h) (Gr.less λa z=>z.imp (b1 a) id)).toL⟩
theorem va0(i:Nat){px:Pos}(hN:X.N[i]?=some x:=by rfl)(hv:Vis X.env.scope x:=by first|exact Or.inl rfl|exact Or.inr (Or.inl rfl)|exact Or.inr (Or.inr rfl))(hd:(x==("__debug__" : Str))=false:=by decide)(hcd:(x==("__classdict__" : Str))=false:=by decide) :
  PSD X (.Return (some (.Name x px)) pos) (q00 i):=.mk λH₀ B₀ δ pins s σ H D I ⟨r,en,e1,k⟩=>by
 unfold q00 at e1;obtain⟨B,b1,b2,env⟩:=en.ex;split at e1
 ·rename_i d hi
  obtain⟨a,hs,hb,ro⟩:=env.at hi;cases e1;exact lj0 (G8 (i:=i) hN hv hd hcd) pins s σ H D I ⟨_,hs,k a H (en.fr i d a hi hs) en.same (ro.mono (λo h=>h) (Gr.less λb z=>z.elim (b1 b) λq=>by rw[q];exact hb))⟩
 ·cases e1
end DL
namespace DL
@[simp] def qc0:List D->Option D
 | [.lst ds,.lst es]=>some (.tup ((ds.zip es).map λp=>.tup [p.1,p.2]))
 | _=>none
@[simp] def o70:List D->Option D
 | [.lst ds]=>some (.lst ds.reverse)
 | _=>none
def m70:List D->Option (List D)
 | [.lst ds,.lst es]=>some ((ds.zip es).map λp=>.tup [p.1,p.2])
 | _=>none
def iu0(gA:GA):GA:=fun δ=>(gA δ).bind m70
def yv0(ds:List D):List D:=(List.range ds.length).map λ(k:Nat)=>.tup [.int (k:Int),ds.getD k .non]
def gs0:List D->Option (List D)
 | [.lst ds]=>some (yv0 ds)
 | _=>none
def qt0(gA:GA):GA:=fun δ=>(gA δ).bind gs0
@[simp] def u40:List D->Option D
 | [.dct (.inl ks) ds]=>some (.dct (.inl ks) ds)
 | _=>none
mutual
def tree:D->Bool
 | .lst _=>false
 | .dct _ _=>false
 | .fn _ _=>false
 | .tup ds=>trees ds
 | _=>true
def trees:List D->Bool
 | []=>true
 | d::ds=>tree d&&trees ds
end
def ri0(g:GE):GE:=fun δ=>(g (frz δ)).bind λd=>if tree d=true then some d else none
theorem ai0{g:GE}{d:D}(h:g (frz δ)=some d)(ht:tree d=true):ri0 g δ=some d:=by
 unfold ri0;rw[h,Option.bind_some,if_pos ht]
theorem J7{gA:GA}{n:Int}(h:gA δ=some [.int n])(h1:-(2 ^ 62)<=n)(h2:n<2 ^ 62):T6 gA δ=some (Y7 0 n):=by
 unfold T6;rw[h,Option.bind_some];simp only[ic0];rw[if_pos ⟨h1,h2⟩]
theorem Yr0{g:GE}(h:g δ=some (.lst ds)):oA (z8 g v6) Y0 δ=some (.int (ds.length:Int)):=by
 rw[o8 (cons_of h rfl)];rfl
end DL
namespace RevL
open Spec PyProof.Rows
theorem ii0:typeLookup (.type "list_reverseiterator") "__len__"=pure none:=by rw[typeLookup_type,builtinLookup_eq_fast];kernel_rfl
theorem cg0:typeLookup (.type "list_reverseiterator") "__length_hint__"=pure (some (.builtin "list_reverseiterator.__length_hint__")):=by rw[typeLookup_type,builtinLookup_eq_fast];kernel_rfl
theorem Zu0:isSubtype (.type "list_reverseiterator") (.type "list_reverseiterator")=pure true:=by rw[isSubtype_type];kernel_rfl
section
variable{w:World}{A:Around}{s:Shared}
variable{wr:List Addr}{G:Array GenState->Array GenState->Prop}{P:Nat->Value->Prop}{St:Nat->Shared->Prop}
theorem Zd0(W:WalksS prog w A.in1 I fp wr G n P St)(hT:∀i s,St i s->s.TypeIs (.ref I) "list_reverseiterator")(C:Addr)(res:Value)(c0:Nat)(st:St 0 s)(hC:C∉fp)(hI:I∈fp)
  (gC:s.heap.get? C=some { cls:=.type "list",data:=.seq #[] c0 })
  (hR:∀s' acc' c',Moved (C::wr) G s s'->s'.heap.get? C=some { cls:=.type "list",dict:=none,data:=.seq acc' c',slots:=#[] }->ItemsOf P acc' n->R (.ok (.ret res)) s') (hn:n<=sizeLine) :
  wpAny (model prog w) A.in1 (Builtin.List.listExtendWith (.ref C) (.ref I) res)
   (λfin s'=>match fin with|.done f=>R (.ok f) s'|.again c'=>c'.quiet=true/\codeAny (model prog w) A c' R s') (λe s'=>R (.error e) s') s:=by
 have ne:C≠I:=λe=>hC (e▸hI)
 unfold Builtin.List.listExtendWith;refine A0 (M1 (hT 0 _ st) (by
  have q1:Builtin.List.listSameRef (.ref C) (.ref I)=false:=by simp[Builtin.List.listSameRef,ne]
  have q2:(Value.type "list_reverseiterator"==Value.type "list")=false:=by decide
  have q3:(Value.type "list_reverseiterator"==Value.type "tuple")=false:=by decide
  simp only[q1,q2,q3,Bool.or_false,Bool.false_eq_true,if_false];refine A0 (W.self 0 _ _ _ st (A0 (B9 (by
   unfold Builtin.List.listLengthHint;refine A0 (D8 (hT 0 _ st) ii0 (by
    show wpAny _ A.in1 (specialOf (Value.ref I) (Str.ofString "__length_hint__")>>=_) _ _ _;refine A0 (D8 (hT 0 _ st) cg0 ?_);refine A0 (R1 (hT 0 _ st) Zu0 ?_);rw[if_neg (by decide)];dsimp only;rw[if_pos (by decide +kernel),if_neg (by decide)];refine A1 ?_;rw[if_neg (by decide +kernel)];refine A1 ⟨W1 PySem.F.plain_extend_loop _,?_⟩;exact codeAny_extend_loopS W hn _ hC _ n 0 _ _ _ rfl (C4 _) st gC (ItemsOf.nil P) λs' acc' c' m e J=>hR s' acc' c' m e J))))))))
theorem ck0(W:WalksS prog w A.in1 I fp wr G n P St)(hT:∀i s,St i s->s.TypeIs (.ref I) "list_reverseiterator")(C:Addr)(st:St 0 s)(hC:C∉fp)(hI:I∈fp)
  (gC:s.heap.get? C=some { cls:=.type "list",data:=.seq #[] })
  (hR:∀s' acc' c',Moved (C::wr) G s s'->s'.heap.get? C=some { cls:=.type "list",dict:=none,data:=.seq acc' c',slots:=#[] }->ItemsOf P acc' n->R (.ok (.ret .none)) s') (hn:n<=sizeLine) :
  wpAny (model prog w) A.in1 (Builtin.«list.__init__» ⟨[.ref C,.ref I],[]⟩)
   (λfin s'=>match fin with|.done f=>R (.ok f) s'|.again c'=>c'.quiet=true/\codeAny (model prog w) A c' R s') (λe s'=>R (.error e) s') s:=by
 show wpAny _ A.in1 (do let old ← Builtin.List.listItems (.ref C);Builtin.List.listUpdate (.ref C) (λ_=>#[]);letGo old.toList.reverse;Builtin.List.listExtendWith (.ref C) (.ref I) .none) _ _ s;refine A0 (by
  unfold Builtin.List.listItems;refine A0 (i4 gC rfl (A1 (by
   show wpAny _ A.in1 (updateSeq C (λ_=>#[])>>=λ_=>letGo (#[]:Array Value).toList.reverse>>=λ_=>Builtin.List.listExtendWith (.ref C) (.ref I) .none) _ _ s;have g2:=L4 (Obj.mapSeq (λ_=>(#[]:Array Value))) gC rfl;have oth:∀b o,b≠C->s.heap.get? b=some o->(s.heap.update C (Obj.mapSeq (λ_=>(#[]:Array Value)))).get? b=some o:=λb o hb e=>(P3 _ _ (B6 hb)).trans e
   refine A0 (U1 gC rfl (A0 (wpAny_letGo (Zd0 W hT C .none _ (W.frame 0 s _ s.toks st (A2 _) λb hb o e=>oth b o (λh=>hC (h▸hb)) e) hC hI g2 (λs' acc' c' m e J=>?_) hn))));exact hR s' acc' c' (Moved.trans W.gtrans ((Moved.refl W.grefl).then_heap (A2 _) λb o hb e=>oth b o (λh=>hb (h▸A5)) e) m) e J))))
end
section
variable{w:World}{A:Around}{s:Shared}
variable{wr:List Addr}{G:Array GenState->Array GenState->Prop}{P:Nat->Value->Prop}{St:Nat->Shared->Prop}
theorem nq0{Q:Value->Shared->Prop}(W:WalksS prog w A.in1.in1 I fp wr G n P St)(hT:∀i s,St i s->s.TypeIs (.ref I) "list_reverseiterator")(st:St 0 s)(hfp:∀b∈fp,b<s.heap.objs.size)(hI:I∈fp)
  (hQ:∀s' acc' c',Moved (s.heap.objs.size::wr) G { s with heap:=s.heap.push { cls:=.type "list",data:=.seq #[] } } s' ->
   s'.heap.get? s.heap.objs.size=some { cls:=.type "list",dict:=none,data:=.seq acc' c',slots:=#[] }->ItemsOf P acc' n->Q (.ref s.heap.objs.size) s') (hn:n<=sizeLine) :
  wpAny (model prog w) A (call (.type "list") [.ref I]) Q E s:=by
 have hC:s.heap.objs.size∉fp:=λz=>C7 _ (hfp _ z)
 refine callType_codes (Q₁:=λob s1=>ob=.ref s.heap.objs.size/\s1={ s with heap:=s.heap.push { cls:=.type "list",data:=.seq #[] } }) PySem.F.called_list (PySem.F.typeCall_list_1 _) PySem.F.entry_list_init (code_list_new _ ⟨rfl,rfl⟩) λob s1 h1=>?_
 obtain⟨rfl,rfl⟩:=h1;have gC:(s.heap.push { cls:=.type "list",data:=.seq #[] }).get? s.heap.objs.size=some { cls:=.type "list",data:=.seq #[] }:=C1 _ rfl;exact⟨⟨_,gC,rfl⟩,PySem.F.args_list_init_2 _ _,ck0 W hT _ (W.frame 0 s _ s.toks st (A2 _) λb _ o e=>B0 _ e) hC hI gC (λs' acc' c' m e J=>⟨rfl,hQ s' acc' c' m e J⟩) hn⟩
theorem nm0{l:Addr}{its:Array Value}{Q:Value->Shared->Prop}(hh:A.handled=none)(hl:s.heap.IsList l its)(hz:its.size<=sizeLine)
  (h:∀(h':Heap) (tk c:Nat) (a:Addr),s.heap.objs.size<=a->h'.get? a=some { cls:=.type "list",dict:=none,data:=.seq its.reverse c,slots:=#[] }->(∀b o,s.heap.get? b=some o->h'.get? b=some o)->Q (.ref a) { s with heap:=h',toks:=tk }) :
  wpAny (model prog w) A (call (.type "reversed") [.ref l]) (λv s1=>wpAny (model prog w) A (call (.type "list") [v]) Q E s1) E s:=by
 refine call_reversed_list hl ?_;obtain⟨ol,gl,_,_⟩:=id hl;have O:l<s.heap.objs.size:=A6 gl;have a1:A.in1.in1.handled=none:=by simp[hh]
 have Wk:=(Walks.listRev (prog:=prog) (w:=w) a1 s.heap.objs.size l (A9 O) its).toS;refine nq0 Wk (λi s x=>x.2.1.typeIs) ⟨C4 _,⟨_,C1 _ rfl,rfl,by
  show Data.fields #[.ref l,rawInt ((its.size:Int) - 1)]=_;have z:(its.size:Int) - 1 - ((0:Nat):Int)=(its.size:Int) - 1:=by omega
  rw[z]⟩,hl.push _⟩ (λb hb=>?_) (by simp) (λs' J c' m e M=>?_) hz
 ·show b<(s.heap.push _).objs.size
  rw[Heap.size_push];simp only[List.mem_cons,List.not_mem_nil,or_false] at hb;rcases hb with rfl|rfl
  ·exact Aa0 _
  ·exact Ab0 O
 ·obtain⟨h',g',d',a0,Z⟩:=s'
  obtain rfl:g'=s.gens:=m.gens;obtain rfl:d'=s.drawn:=m.drawn;obtain rfl:Z=s.os:=m.os;have ea:J=its.reverse:=by
   apply Array.ext
   ·rw[M.1,Array.size_reverse]
   ·intro i h1 h2
    have q:its[its.size - 1 - i]?=some J[i]:=M.2 i J[i] (X0 h1);have hi:i<its.size:=by rw[← M.1];exact h1
    rw[Array.getElem?_eq_getElem (by omega)] at q;rw[Array.getElem_reverse];exact(A8 q).symm
  subst ea;have a2:(s.heap.push (revObj l ((its.size:Int) - 1))).objs.size=s.heap.objs.size+1:=Heap.size_push ..;refine h h' a0 c' _ ?_ e λb o eb=>?_
  ·show s.heap.objs.size<=(s.heap.push _).objs.size
   rw[Heap.size_push];exact Ac0 _
  ·have lb:=A6 eb
   refine m.heap b o ?_ (B0 _ (B0 _ eb));simp only[List.mem_cons,List.not_mem_nil,or_false,not_or];refine⟨?_,A9 lb⟩;show b≠(s.heap.push _).objs.size;rw[Heap.size_push];exact A9 (Ab0 lb)
end
end RevL
namespace DL
open Spec PyProof.Rows L2
theorem Rps.reverse:∀{ds:List D} {xs:List V},Rps K H B ds xs->Rps K H B ds.reverse xs.reverse
 | [],_,h=>by rw[o6] at h;subst h;simp[o6]
 | d::ds,_,h=>by
  rw[p8] at h;obtain⟨x,r,rfl,h1,h2⟩:=h;rw[List.reverse_cons,List.reverse_cons];exact Rps.snoc (Rps.reverse h2) h1
theorem km0:bootBuiltins "reversed"=some (.type "reversed"):=by decide +kernel
theorem by0:bootBuiltins "list"=some (.type "list"):=by decide +kernel
theorem Ym0(hc:X.calm=true)(hl:X.mg "list"=none)(hs:X.mg "reversed"=none)(he:PE X e te)(hgl:Gl X "list" := by rfl)(hgs:Gl X "reversed" := by rfl)
  (e1:starEach [.Call (.Name "reversed" p2) [e] [] pos2] X.env=(false,eval (.Call (.Name "reversed" p2) [e] [] pos2) X.env)::starEach [] X.env:=by rfl) (e2:starEach [e] X.env=(false,eval e X.env)::starEach [] X.env:=by rfl)
  (h1:(backTo pos (starEach [] X.env)).any (·.1)=false:=by rfl) (h2:(backTo pos2 (starEach [] X.env)).any (·.1)=false:=by rfl) :
  PE X (.Call (.Name "list" p) [.Call (.Name "reversed" p2) [e] [] pos2] [] pos) (fun σ H Q=>te σ H λv H'=>∃q xs,v=.ref q/\SqL X.K H' q xs/\∀l,H' l=none->Q (.ref l) (upd H' l (.lst xs.reverse))):=by
 intro pins s σ H Q I h;refine M0 (zf0 I hgl hl by0 ?_ (by decide) (by decide));refine E2 ?_ e1 h1;rw[e1];show wpAny _ _ (spliced ((false,eval (.Call (.Name "reversed" p2) [e] [] pos2) X.env)::backTo pos (starEach [] X.env))) _ _ s;refine K2 ?_;refine M0 (zf0 I hgs hs km0 ?_ (by decide) (by decide));refine E2 ?_ e2 h2;rw[e2];show wpAny _ _ (spliced ((false,eval e X.env)::backTo pos2 (starEach [] X.env))) _ _ s;refine K2 (thn (he pins s σ H _ I h) λu s1 ⟨v,H1,I1,r1,q,xs,ev,hq,k⟩=>N9 ?_);subst ev;obtain rfl:u=Value.ref q:=r1;obtain⟨its,rv,pl,hz⟩:=I1.list hq;have J:=rv.length;refine thn (RevL.nm0 (I1.ok.hd hc) pl.isList (by rw[List.size_toArray,← J];exact hz) (Q:=EP X pins σ Q) (E:=X.xe) λh' tk c a ha ga hk=>?_) λv s2 hv=>N9 hv
 have hf:H1 a=none:=I1.hok.fresh ha;refine⟨.ref a,_,I1.laid (a:=a) (o:=.lst xs.reverse) (t':=tk) hk ha ?_,rfl,k a hf⟩;exact⟨by rw[List.length_reverse];exact hz,its.reverse,c,rv.reverse,by rw[ga];simp⟩
theorem cq0(hl:X.mg "list"=none)(hs:X.mg "reversed"=none)(he:PD X e g)(hc:X.calm=true:=by rfl)(hgl:Gl X "list" := by rfl)(hgs:Gl X "reversed" := by rfl)
  (e1:starEach [.Call (.Name "reversed" p2) [e] [] pos2] X.env=(false,eval (.Call (.Name "reversed" p2) [e] [] pos2) X.env)::starEach [] X.env:=by rfl) (e2:starEach [e] X.env=(false,eval e X.env)::starEach [] X.env:=by rfl)
  (h1:(backTo pos (starEach [] X.env)).any (·.1)=false:=by rfl) (h2:(backTo pos2 (starEach [] X.env)).any (·.1)=false:=by rfl) :
  PDF X (.Call (.Name "list" p) [.Call (.Name "reversed" p2) [e] [] pos2] [] pos) (oA (z8 g v6) o70):=.mk λB δ =>
 (Ym0 hc hl hs (he B δ) hgl hgs e1 e2 h1 h2).imp fun σ H Q ⟨d,en,h,k⟩=>by
  unfold oA z8 v6 at h;cases e3:g δ with
  | none=>rw[e3] at h;cases h
  | some x =>
   rw[e3] at h;simp only[Option.bind_some,Option.map_some] at h;cases x<;>simp only[o70] at h<;>try cases h
   refine⟨_,en,e3,λv H1 s1 r=>?_⟩;rw[Z8] at r;obtain⟨q,xs,rfl,hq,rr⟩:=r;exact⟨q,xs,rfl,hq.to,λl hl=>k l _ (s1.free hl) (s1.trans (b7 hl)) ⟨_,m8,rr.reverse.mono (Gr.fresh hl)⟩⟩
theorem yk0[DecidableEq κ]:∀{ks:List κ} {ds:List D} {xs:List V} {q:κ},Rps K H B ds xs->(∀d,z60 ks ds q=some d->∃x,S5 (ks.zip xs) q=some x/\Rp K H B d x)/\(ks.length=xs.length->(S5 (ks.zip xs) q).isSome=V8 ks q)
 | [],ds,xs,q,h=>by
  refine⟨λd e=>?_,λ_=>?_⟩
  ·unfold z60 at e;cases e
  ·rfl
 | k::ks,[],xs,q,h=>by
  rw[o6] at h;subst h;refine⟨λd e=>?_,λz=>?_⟩
  ·unfold z60 at e;cases e
  ·simp at z
 | k::ks,d::ds,xs,q,h=>by
  rw[p8] at h;obtain⟨x,r,rfl,h1,h2⟩:=h;obtain⟨i1,i2⟩:=yk0 (ks:=ks) (q:=q) h2
  by_cases e:k=q
  ·subst e
   refine⟨λd' e'=>?_,λ_=>?_⟩
   ·unfold z60 at e'
    rw[if_pos rfl] at e';cases e';exact⟨x,yi0 rfl,h1⟩
   ·rw[List.zip_cons_cons,yi0 rfl]
    unfold V8;simp
  ·refine⟨λd' e'=>?_,λz=>?_⟩
   ·unfold z60 at e'
    rw[if_neg e] at e';rw[List.zip_cons_cons,yd0 e];exact i1 d' e'
   ·rw[List.zip_cons_cons,yd0 e,i2 (by simpa using z)]
    unfold V8;simp[e]
theorem jj0[DecidableEq κ]:∀{ks:List κ} {xs:List V} {q:κ},ks.length=xs.length->((ks.zip xs).any λkv=>decide (kv.1=q))=V8 ks q
 | [],_,_,_=>rfl
 | k::ks,[],_,h=>by simp at h
 | k::ks,x::xs,q,h=>by
  rw[List.zip_cons_cons,List.any_cons,jj0 (by simpa using h)];rfl
theorem o40[DecidableEq κ]{ks:List κ}{q:κ}{v:V}(h:ks.length=xs.length):∃ys,putK (ks.zip xs) q v=(W8 ks q).zip ys/\(W8 ks q).length=ys.length/\(V8 ks q=true->ys=(ks.zip xs).map λp=>if p.1=q then v else p.2)/\(V8 ks q=false->ys=xs++[v]):=by
 unfold putK W8;rw[jj0 h];cases hk:V8 ks q with
 | true =>
  rw[if_pos rfl,if_pos rfl];refine⟨(ks.zip xs).map λp=>if p.1=q then v else p.2,?_,by simp[h],λ_=>rfl,λz=>by cases z⟩;clear hk
  induction ks generalizing xs with
  | nil=>rfl
  | cons k ks ih =>
   cases xs with
   | nil=>simp at h
   | cons x xs =>
    rw[List.zip_cons_cons,List.map_cons,List.map_cons,List.zip_cons_cons,ih (by simpa using h)]
    by_cases e:k=q<;>simp[e]
 | false =>
  rw[if_neg (by simp),if_neg (by simp)];refine⟨xs++[v],?_,by simp[h],λz=>(by cases z),λ_=>rfl⟩;rw[List.zip_append h];rfl
theorem ux0[DecidableEq κ]{q:κ}{d:D}{v:V}(hv:Rp K H B d v):∀{ks:List κ} {ds:List D} {xs:List V},Rps K H B ds xs->Rps K H B ((ks.zip ds).map λp=>if p.1=q then d else p.2) ((ks.zip xs).map λp=>if p.1=q then v else p.2)
 | [],_,_,_=>by simp[o6]
 | k::ks,[],xs,h=>by rw[o6] at h;subst h;simp[o6]
 | k::ks,d'::ds,xs,h=>by
  rw[p8] at h;obtain⟨x,r,rfl,h1,h2⟩:=h;rw[List.zip_cons_cons,List.zip_cons_cons,List.map_cons,List.map_cons,p8];refine⟨_,_,rfl,?_,ux0 hv h2⟩
  by_cases e:k=q
  ·simp only[e,if_true];exact hv
  ·simp only[e,if_false];exact h1
section
variable{a:Expr}{ga:Ds->Option D}
theorem qr0{d:D}{k:O8}{v:V}(h:zw0 d=some k)(r:Rp K H B d v):v=kV k:=by
 cases d<;>simp[zw0] at h
 ·subst h;rw[o9] at r;subst r;rfl
 ·subst h;rw[c7] at r;subst r;rfl
theorem gb0:∀{ds:List D} {ks:List O8} {xs:List V},s60 ds=some ks->Rps K H B ds xs->xs=ks.map kV
 | [],ks,xs,h,r=>by cases h;rw[o6] at r;exact r
 | d::ds,ks,xs,h,r=>by
  unfold s60 at h;rw[p8] at r;obtain⟨x,r',rfl,h1,h2⟩:=r;cases e1:zw0 d with
  | none=>rw[e1] at h;cases h
  | some k =>
   cases e2:s60 ds with
   | none=>rw[e1,e2] at h;cases h
   | some l =>
    rw[e1,e2] at h;cases h;rw[qr0 e1 h1,gb0 e2 h2];rfl
theorem qm0{d:D}{k:List O8}{v:V}(h:y50 d=some k)(r:Rp K H B d v):∃b,v=.ref b/\H b=some (.tup (k.map kV)):=by
 cases d<;>simp only[y50] at h<;>try cases h
 rw[Z4] at r;obtain⟨a,xs,rfl,q,rr⟩:=r;exact⟨a,rfl,by rw[← gb0 h rr];exact q.2⟩
theorem ue0(hu:X.A.units+1<cLine)(ha:PD X a ga)(hb:PD X b gb)(hs:cp0 b:=by exact λ_ _=>rfl):PD X (.Subscript a b pos) (o2 ga gb O1):=.mk λB δ=>(Yd0 hu (ha B δ) (hb B δ) hs).imp fun σ H Q ⟨d,en,h,k⟩=>by
 unfold o2 at h;cases e1:ga δ with
 | none=>rw[e1] at h;cases h
 | some x =>
  cases e2:gb δ with
  | none=>rw[e1,e2] at h;cases h
  | some y =>
   rw[e1,e2] at h;simp only[Option.bind_some] at h;refine⟨x,en,e1,λv1 H1 s1 r1=>⟨y,en.same s1,e2,λv2 H2 s2 r2=>?_⟩⟩;cases x<;>simp only[O1] at h<;>try cases h
   rename_i ks ds;have r1:=r1.same s2;cases ks with
   | inl ks =>
    simp only at h;cases e3:zw0 y with
    | none=>rw[e3] at h;cases h
    | some q =>
     rw[e3] at h;simp only[Option.bind_some] at h;rw[ul0] at r1;obtain⟨p,xs,rfl,_,hp,hl,rr⟩:=r1;obtain⟨v,hv,rv⟩:=(yk0 rr).1 d h;have:=qr0 e3 r2;subst this;exact⟨p,v,rfl,by rw[← hv];exact DGet.k hp,k v H2 (s1.trans s2) rv⟩
   | inr ks =>
    simp only at h;cases e3:y50 y with
    | none=>rw[e3] at h;cases h
    | some q =>
     rw[e3] at h;simp only[Option.bind_some] at h;rw[pr0] at r1;obtain⟨p,xs,rfl,_,hp,hl,rr⟩:=r1;obtain⟨v,hv,rv⟩:=(yk0 rr).1 d h;obtain⟨b,rfl,hb⟩:=qm0 e3 r2;exact⟨p,v,rfl,by rw[← hv];exact DGet.t hp hb,k v H2 (s1.trans s2) rv⟩
theorem mf0(hu:X.A.units+1<cLine)(ha:PD X a ga)(hb:PD X b gb)(hm:behindInMarks .NotIn b=false:=by first|rfl|with_unfolding_all rfl):PTD X (.Compare a [.NotIn] [b] pos) (ob (o2 ga gb (y60 true))):=.mk λB δ=>(Ww0 (f40 hu (ha B δ) (hb B δ)) hm).imp fun σ H Q ⟨t,en,h,k⟩=>by
 unfold ob o2 at h;cases e1:ga δ with
 | none=>rw[e1] at h;cases h
 | some x =>
  cases e2:gb δ with
  | none=>rw[e1,e2] at h;cases h
  | some y =>
   rw[e1,e2] at h;simp only[Option.bind_some] at h;refine⟨x,en,e1,λv1 H1 s1 r1=>⟨y,en.same s1,e2,λv2 H2 s2 r2=>?_⟩⟩;cases y<;>simp only[y60] at h<;>try cases h
   rename_i ks ds;cases ks with
   | inl ks =>
    simp only at h;cases e3:zw0 x with
    | none=>rw[e3] at h;cases h
    | some q =>
     rw[e3] at h;simp only[Option.map_some,Option.bind_some,asB,Bool.true_xor] at h;cases h;rw[ul0] at r2;obtain⟨p,xs,rfl,_,hp,hl,rr⟩:=r2;have:=qr0 e3 r1;subst this;refine⟨p,_,rfl,DGet.k hp,_,rfl,?_⟩;rw[(yk0 rr).2 hl];exact k H2 (s1.trans s2)
   | inr ks =>
    simp only at h;cases e3:y50 x with
    | none=>rw[e3] at h;cases h
    | some q =>
     rw[e3] at h;simp only[Option.map_some,Option.bind_some,asB,Bool.true_xor] at h;cases h;rw[pr0] at r2;obtain⟨p,xs,rfl,_,hp,hl,rr⟩:=r2;obtain⟨b,rfl,hb⟩:=qm0 e3 (r1.same s2);refine⟨p,_,rfl,DGet.t hp hb,_,rfl,?_⟩;rw[(yk0 rr).2 hl];exact k H2 (s1.trans s2)
theorem wo0(i:Nat)(hu:X.A.units+1<cLine)(h:PD X e g)(hN:X.N[i]?=some x:=by rfl)(hv:Vis X.env.scope x:=by first|exact Or.inl rfl|exact Or.inr (Or.inl rfl)|exact Or.inr (Or.inr rfl))(hd:(x==("__debug__" : Str))=false:=by decide)(hcd:(x==("__classdict__" : Str))=false:=by decide)
  (ha:∀v,assign (.Subscript (.Name x px) e pos) X.env v=(do
   let ov ← holding [v] (eval (.Name x px) X.env)
   let iv ← holding [v,ov] (eval e X.env)
   standAt pos
   holding [v,ov,iv] (setItem ov iv v)
   release [v,ov,iv] []):=by intro _;rfl):PTG X (.Subscript (.Name x px) e pos) (putAt i g):=.mk λH₀ B₀ d δ pins s σ H v u Q I r ⟨δ',en,e1,k⟩=>by
 unfold putAt at e1;obtain⟨B,b1,b2,env,rv⟩:=en.ex;cases e2:ut0 i δ with
 | none=>rw[e2] at e1;cases e1
 | some pr =>
  cases e3:g δ with
  | none=>rw[e2,e3] at e1;cases e1
  | some dk =>
   rw[e2,e3] at e1;simp only[Option.bind_some] at e1;cases e4:zw0 dk with
   | none=>rw[e4] at e1;cases e1
   | some q =>
    rw[e4] at e1;simp only[Option.bind_some] at e1;split at e1
    ·rename_i hz
     cases e1;have hi:=j00 e2;obtain⟨a,J,hb,xs,hx,hl,rx⟩:=env.at hi;have hl:pr.1.length=xs.length:=hl;refine l00 (G8 (i:=i) hN hv hd hcd) (h B δ) (set_dict hu) ha pins s σ H v u Q I r ⟨_,J,_,env,e3,λiv H1 s1 r1=>?_⟩;have:=qr0 e4 r1;subst this;obtain⟨ys,hy,a0,Z,O⟩:=o40 (q:=q) (v:=v) hl;refine⟨a,_,rfl,DPut.k (s1 _ _ hx) (by rw[List.length_zip,← hl,Nat.min_self];exact hz),?_⟩;have rr:Rps X.K H1 B (W9 pr.1 pr.2 q d) ys:=by
      unfold W9;cases hk:V8 pr.1 q with
      | true=>rw[if_pos rfl,Z hk];exact ux0 (rv.same s1) (rx.same s1)
      | false=>rw[if_neg (by simp),O hk];exact Rps.snoc (rx.same s1) (rv.same s1)
     rw[hy];have M:Env X.K (upd H1 a (.dK ((W8 pr.1 q).zip ys))) B σ (δ.set i (.ow (.dct (.inl (W8 pr.1 q)) (W9 pr.1 pr.2 q d)))):=(env.same s1).mut hi J ⟨ys,m8,a0,rr.mono (Gr.own hb)⟩;exact k _ _ (en.s.mut s1 b1 b2 hi J M)
    ·cases e1
theorem aq0{r:List (List O8)×List D}(h:h90 i δ=some r):δ[i]?=some (.ow (.dct (.inr r.1) r.2)):=by
 unfold h90 at h;split at h
 ·cases h;assumption
 ·cases h
theorem cm0(i:Nat)(hu:X.A.units+1<cLine)(h:PD X e g)(hN:X.N[i]?=some x:=by rfl)(hv:Vis X.env.scope x:=by first|exact Or.inl rfl|exact Or.inr (Or.inl rfl)|exact Or.inr (Or.inr rfl))(hd:(x==("__debug__" : Str))=false:=by decide)(hcd:(x==("__classdict__" : Str))=false:=by decide)
  (ha:∀v,assign (.Subscript (.Name x px) e pos) X.env v=(do
   let ov ← holding [v] (eval (.Name x px) X.env)
   let iv ← holding [v,ov] (eval e X.env)
   standAt pos
   holding [v,ov,iv] (setItem ov iv v)
   release [v,ov,iv] []):=by intro _;rfl):PTG X (.Subscript (.Name x px) e pos) (qo0 i g):=.mk λH₀ B₀ d δ pins s σ H v u Q I r ⟨δ',en,e1,k⟩=>by
 unfold qo0 at e1;obtain⟨B,b1,b2,env,rv⟩:=en.ex;cases e2:h90 i δ with
 | none=>rw[e2] at e1;cases e1
 | some pr =>
  cases e3:g δ with
  | none=>rw[e2,e3] at e1;cases e1
  | some dk =>
   rw[e2,e3] at e1;simp only[Option.bind_some] at e1;cases e4:y50 dk with
   | none=>rw[e4] at e1;cases e1
   | some q =>
    rw[e4] at e1;simp only[Option.bind_some] at e1;split at e1
    ·rename_i hz
     cases e1;have hi:=aq0 e2;obtain⟨a,J,hb,xs,hx,hl,rx⟩:=env.at hi;have hl:pr.1.length=xs.length:=hl;refine l00 (G8 (i:=i) hN hv hd hcd) (h B δ) (set_dict hu) ha pins s σ H v u Q I r ⟨_,J,_,env,e3,λiv H1 s1 r1=>?_⟩;obtain⟨kb,rfl,Z⟩:=qm0 e4 r1;obtain⟨ys,hy,a1,a0,O⟩:=o40 (q:=q) (v:=v) hl;refine⟨a,_,rfl,DPut.t (s1 _ _ hx) Z (by rw[List.length_zip,← hl,Nat.min_self];exact hz),?_⟩;have rr:Rps X.K H1 B (W9 pr.1 pr.2 q d) ys:=by
      unfold W9;cases hk:V8 pr.1 q with
      | true=>rw[if_pos rfl,a0 hk];exact ux0 (rv.same s1) (rx.same s1)
      | false=>rw[if_neg (by simp),O hk];exact Rps.snoc (rx.same s1) (rv.same s1)
     rw[hy];have M:Env X.K (upd H1 a (.dT ((W8 pr.1 q).zip ys))) B σ (δ.set i (.ow (.dct (.inr (W8 pr.1 q)) (W9 pr.1 pr.2 q d)))):=(env.same s1).mut hi J ⟨ys,m8,a1,rr.mono (Gr.own hb)⟩;exact k _ _ (en.s.mut s1 b1 b2 hi J M)
    ·cases e1
end
end DL
namespace L2
open Spec PyProof.Rows
structure FunV(K:W.Frag)(x qual:Str)(st:Stmt)(f:Addr)(fd:FuncData)(dV:Value):Prop where
 ex:∃(oc:Value) (od:Option Addr) (kV doc pm:Value) (an:Option Addr) (cdv ct:Value) (osl:Array (Option Value)),
  fd=W.fnOf x qual (U6 st) (Y6 st) (p6 st) dV kV doc pm an cdv ct/\K.lookup f=some ⟨oc,od,.func fd,osl⟩/\W.codeIn K cdv qual=true
 kp:W.keepIn K (.ref f)=true
section
variable{P:Program}{w:World}
theorem FunV.ok{f:Addr}{ps:List Str}{k:Nat}(F:FunV K x qual st f fd dV)(S:FnScope N ps (p6 st))(len:∀vs H Q E,sp vs H Q E->vs.length=ps.length)
  (hbody:∀(cdv:Value) (A:Around) (outer:List Env) (s:Shared) (H:Hp) (vs:List V) (Q:VK) (E:XK),Room k (A.deeper (envOfC qual (p6 st) s.heap.objs.size f cdv))->sp vs H Q E ->
   ∃t,PSs (wx0 CX0 P w K mg base N qual (p6 st) f cdv A outer s H E).nox (Y6 st) t/\t { nx:=λ_ H'=>Q .non H',rt:=Q } (start N vs) H):FnOk P w K mg base CX0 (k+1) f fd ps sp:=by
 obtain⟨oc,od,kV,doc,pm,an,cdv,ct,osl,rfl,lk,J⟩:=F.ex;refine cx0 lk J S len λA outer s H vs Q E hr M=>?_
 obtain⟨t,h,q⟩:=hbody cdv A outer s H vs Q E hr M;exact⟨t,h.nox,q⟩
theorem ji0{f:Addr}{kV:Value}(l:K.lookup f=some ⟨oc,od,.func (W.fnOf x qual (U6 st) (Y6 st) (p6 st) dV kV doc pm an cdv ct),osl⟩)
  (c:W.codeIn K cdv qual=true) (k:W.keepIn K (.ref f)=true):FunV K x qual st f (W.fnOf x qual (U6 st) (Y6 st) (p6 st) dV kV doc pm an cdv ct) dV:=⟨⟨oc,od,kV,doc,pm,an,cdv,ct,osl,rfl,l,c⟩,k⟩
end
end L2
namespace DL
open Spec PyProof.Rows L2
section
variable{P:Program}{w:World}
theorem Ty0{ps:List Str}{k:Nat}{f:List D->Option D}{G:Ds->Option Res}(F:FunV K x qual st fa fd dV)(S:FnScope N ps (p6 st))
  (body:∀(cdv:Value) (A:Around) (outer:List PySem.Env) (s:Shared) (H:Hp) (E:XK),Room k (A.deeper (envOfC qual (p6 st) s.heap.objs.size fa cdv))->PSsD (wx0 CX0 P w K mg base N qual (p6 st) fa cdv A outer s H E).nox (Y6 st) G)
  (hf:∀ds d,f ds=some d->ds.length=ps.length/\(G (Z6 N ds)=some (.rt d)∨(d=.non/\∃δ,G (Z6 N ds)=some (.nx δ))∨G (Z6 N ds)=some (.rf d)/\isL d=false)) :
  FnOk P w K mg base CX0 (k+1) fa fd ps (spD K f):=by
 refine F.ok S (λvs H Q E ⟨B,ds,d,_,r,h,_⟩=>?_) (λcdv A outer s H vs Q E hr ⟨B,ds,d,hb,r,h,q⟩=>?_)
 ·rw[r.length];exact(hf ds d h).1
 ·refine⟨_,body cdv A outer s H E hr H B (Z6 N ds),?_⟩
  have en:EnvS K H B H (L2.start N vs) (Z6 N ds):=by
   refine⟨Same.refl H,⟨B,λ_ z=>z,λ_ z=>.inl z,⟨?_,hb,λi j a J es h1 _ _ _=>(z20 h1).elim⟩⟩,λi J a h1 _=>(z20 h1).elim,hb⟩;unfold L2.start Z6;rw[r.length];exact Pd.app (xz0 (N:=N) r) (uj0 _)
  rcases (hf ds d h).2 with e|⟨rfl,δ,e⟩|⟨e,hn⟩
  ·exact⟨_,en,e,λv H' s' r'=>q v H' s' r'⟩
  ·exact⟨_,en,e,fun σ' H' en'=>q .non H' en'.same (by rw[X5])⟩
  ·exact⟨_,en,e,λp H' hp s' r'=>q _ H' s' ((r'.toO hn).rp (λa z=>.inl z) (λz=>hb p z hp))⟩
theorem Tc0{ps:List Str}{k:Nat}{f:List D->Option D}{G:Ds->Option Res}(F:FunV K x qual st fa fd dV)(S:FnScope N ps (p6 st))
  (body:∀(cdv:Value) (A:Around) (outer:List PySem.Env) (s:Shared) (H:Hp) (E:XK),Room k (A.deeper (envOfC qual (p6 st) s.heap.objs.size fa cdv))->PSsD (wx0 CX0 P w K mg base N qual (p6 st) fa cdv A outer s H E).nox (Y6 st) G)
  (hf:∀ds d,f ds=some d->ds.length=ps.length/\G (Z6 N ds)=some (.rf d)/\isL d=false) :
  FnOk P w K mg base CX0 (k+1) fa fd ps (spN K f):=by
 refine F.ok S (λvs H Q E ⟨B,ds,d,_,r,h,_⟩=>?_) (λcdv A outer s H vs Q E hr ⟨B,ds,d,hb,r,h,q⟩=>?_)
 ·rw[r.length];exact(hf ds d h).1
 ·refine⟨_,body cdv A outer s H E hr H B (Z6 N ds),?_⟩
  have en:EnvS K H B H (L2.start N vs) (Z6 N ds):=by
   refine⟨Same.refl H,⟨B,λ_ z=>z,λ_ z=>.inl z,⟨?_,hb,λi j a J es h1 _ _ _=>(z20 h1).elim⟩⟩,λi J a h1 _=>(z20 h1).elim,hb⟩;unfold L2.start Z6;rw[r.length];exact Pd.app (xz0 (N:=N) r) (uj0 _)
  exact⟨_,en,(hf ds d h).2.1,λp H' hp s' r'=>q p H' hp s' (r'.toO (hf ds d h).2.2)⟩
end
section
variable{a:Expr}{ga:Ds->Option D}
def iv0(P:Program)(w:World)(K:W.Frag)(mg:Str->Option Value)(base:Heap)(x:Str)(k:Nat)(ps:List Str)(f:List D->Option D)(dd:List D):Prop :=
 ∃(fa:Addr) (fd:FuncData) (us:List Value) (vs:List V),FnOk P w K mg base CX0 k fa fd ps (spN K f)/\mg x=some (.ref fa)/\W.keepIn K (.ref fa)=true/\Binds K fd ps us/\Vals vs us/\∀H B,Rps K H B dd vs
def di0(P:Program)(w:World)(K:W.Frag)(mg:Str->Option Value)(base:Heap)(x:Str)(k:Nat)(ps:List Str)(f:List D->Option D)(dd:List D):Prop :=
 ∃(fa:Addr) (fd:FuncData) (us:List Value) (vs:List V),FnOk P w K mg base CX0 k fa fd ps (spD K f)/\mg x=some (.ref fa)/\W.keepIn K (.ref fa)=true/\Binds K fd ps us/\Vals vs us/\∀H B,Rps K H B dd vs
theorem ap0{k:Nat}{ps:List Str}{f:List D->Option D}(C:iv0 X.prog X.w X.K X.mg X.base x k ps f dd)(hr:Room m X.A)(hk:k<=m)(ha:PDA X (e::es) gA)(hg:Gl X x:=by rfl)(hdb:(x==("__debug__" : Str))=false:=by decide)
  (he:starEach (e::es) X.env=(false,eval e X.env)::starEach es X.env:=by rfl) (hpl:(backTo pos (starEach es X.env)).any (·.1)=false:=by rfl):PDF X (.Call (.Name x p) (e::es) [] pos) (oA gA λds=>f (ds++dd)):=by
 obtain⟨fa,fd,us,dvs,F,hm,kp,hb,hd,J⟩:=C;exact .mk λB δ=>(uh0 (E:=E0) F (hr.mono hk) hg hm kp hb hd qz0 (ha B δ) hdb he hpl).imp fun σ H Q h=>by
  obtain⟨d,en,h,k⟩:=h;unfold oA at h;cases e1:gA δ with
  | none=>rw[e1] at h;cases h
  | some ds =>
   rw[e1] at h;refine⟨ds,en,e1,λvs H1 s1 r1=>?_⟩;exact⟨B,ds++dd,d,(en.same s1).bad,r1.append (J H1 B),h,λp H' hp s r=>k p H' (s1.free hp) (s1.trans s) r⟩
theorem Yl0{k:Nat}{ps:List Str}{f:List D->Option D}(C:iv0 X.prog X.w X.K X.mg X.base x k ps f dd)(hr:Room m X.A)(hk:k<=m)(ha:PDA X (e::es) gA)(hg:Gl X x:=by rfl)(hdb:(x==("__debug__" : Str))=false:=by decide)
  (he:starEach (e::es) X.env=(false,eval e X.env)::starEach es X.env:=by rfl) (hpl:(backTo pos (starEach es X.env)).any (·.1)=false:=by rfl):PD X (.Call (.Name x p) (e::es) [] pos) (oA gA λds=>f (ds++dd)):=(ap0 C hr hk ha hg hdb he hpl).pd
theorem Yy0{k:Nat}{ps:List Str}{f:List D->Option D}(C:di0 X.prog X.w X.K X.mg X.base x k ps f dd)(hr:Room m X.A)(hk:k<=m)(ha:PDA X (e::es) gA)(hg:Gl X x:=by rfl)(hdb:(x==("__debug__" : Str))=false:=by decide)
  (he:starEach (e::es) X.env=(false,eval e X.env)::starEach es X.env:=by rfl) (hpl:(backTo pos (starEach es X.env)).any (·.1)=false:=by rfl):PD X (.Call (.Name x p) (e::es) [] pos) (oA gA λds=>f (ds++dd)):=by
 obtain⟨fa,fd,us,dvs,F,hm,kp,hb,hd,J⟩:=C;exact .mk λB δ=>(uh0 (E:=E0) F (hr.mono hk) hg hm kp hb hd qz0 (ha B δ) hdb he hpl).imp fun σ H Q h=>by
  obtain⟨d,en,h,k⟩:=h;unfold oA at h;cases e1:gA δ with
  | none=>rw[e1] at h;cases h
  | some ds =>
   rw[e1] at h;refine⟨ds,en,e1,λvs H1 s1 r1=>?_⟩;exact⟨B,ds++dd,d,(en.same s1).bad,r1.append (J H1 B),h,λv H' s r=>k v H' (s1.trans s) r⟩
theorem v40{sc scope:Scope}{elt iter tg:Expr}{ifs:List Expr}{N N':List Str}{n:Nat}{caps:List Nat}{gi:Ds->Option (List D)}{idx:List Nat}{f:D->Ds->Option Ds}{gt:Ds->Option Bool}{ge:Ds->Option D}
  (ok:CompOk sc scope N N' n caps) (hidx:∀j∈idx,j<n) (hi:PID X tg iter gi)
  (hg:∀cl s H ex,PGD (Z2 X scope cl N' s H ex) tg idx f) (ht:∀cl s H ex,PFD (Z2 X scope cl N' s H ex) ifs gt) (he:∀cl s H ex,PD (Z2 X scope cl N' s H ex) elt ge)
  (hc:X.calm=true:=by rfl) (hsc:X.env.scope=sc:=by rfl) (hN:X.N=N:=by rfl) (hs:∀x,foldedSetIterable iter X.env x=pure x:=by intro _;rfl) :
  PDF X (.ListComp elt [⟨tg,iter,ifs,0⟩] scope pos) (Y8 n caps gi f gt ge):=lw0 hc hsc (hN▸ok) hidx hi hg ht he hs
theorem gd0{d:D}{v:V}(h:flat d=true)(r:Rp K H B d v):xr0 v=true/\∀e u,flat e=true->Rp K H B e u->eqV v u=eqF d e:=by
 cases d<;>simp[flat] at h
 ·rw[X5] at r;subst r
  refine⟨rfl,λe u he ru=>?_⟩;cases e<;>simp[flat] at he<;>simp only[X5,Y5,o9,c7] at ru<;>subst ru<;>rfl
 ·rw[Y5] at r;subst r
  refine⟨rfl,λe u he ru=>?_⟩;cases e<;>simp[flat] at he<;>simp only[X5,Y5,o9,c7] at ru<;>subst ru<;>rfl
 ·rw[o9] at r;subst r
  refine⟨rfl,λe u he ru=>?_⟩;cases e<;>simp[flat] at he<;>simp only[X5,Y5,o9,c7] at ru<;>subst ru<;>rfl
 ·rw[c7] at r;subst r
  refine⟨rfl,λe u he ru=>?_⟩;cases e<;>simp[flat] at he<;>simp only[X5,Y5,o9,c7] at ru<;>subst ru<;>rfl
theorem gn0{d:D}{v:V}(h:flat d=true)(r:Rp K H B d v):∀{ds:List D} {xs:List V},ds.all flat=true->Rps K H B ds xs->xs.all xr0=true/\inV v xs=ds.any λy=>eqF y d
 | [],_,_,rs=>by rw[o6] at rs;subst rs;exact⟨rfl,rfl⟩
 | e::ds,_,ha,rs=>by
  rw[p8] at rs;obtain⟨x,t,rfl,r1,r2⟩:=rs;rw[List.all_cons,Bool.and_eq_true] at ha;obtain⟨i1,i2⟩:=gn0 h r ha.2 r2;obtain⟨f1,f2⟩:=gd0 ha.1 r1;refine⟨by rw[List.all_cons,f1,i1];rfl,?_⟩;unfold inV at i2 ⊢;rw[List.any_cons,List.any_cons,f2 d v h r,i2]
theorem gi0(neg:Bool):Op2 K (rIn K neg) (ws0 neg):=by
 intro H B x y dx dy d Q hb rx ry h k;have key:∀(ds:List D) (xs:List V),Rps K H B ds xs->flat dx=true/\ds.all flat=true->d=.bl (xor neg (ds.any λy=>eqF y dx))->∀p,y=.ref p->(SqL K H p xs∨SqT K H p xs)->rIn K neg x y H Q:=by
  intro ds xs rs hf hd p hp hq;obtain⟨f1,f2⟩:=gn0 hf.1 rx hf.2 rs;refine⟨p,xs,hp,hq,(gd0 hf.1 rx).1,f1,k _ H (Same.refl H) ?_⟩;rw[hd,Y5,f2];cases neg<;>simp
 cases dy<;>simp only[ws0] at h<;>try cases h
 ·split at h
  ·rename_i hf
   have hd:=(A8 h).symm;rw[Z4] at ry;obtain⟨p,xs,e,q,rs⟩:=ry;exact key _ xs rs hf hd p e (.inr q.to)
  ·cases h
 ·split at h
  ·rename_i hf
   have hd:=(A8 h).symm;rw[Z8] at ry;obtain⟨p,xs,e,q,rs⟩:=ry;exact key _ xs rs hf hd p e (.inl q.to)
  ·cases h
end
end DL
namespace ZipL
open Spec PyProof.Rows
abbrev IsZ(h:Heap)(z TI TO a:Addr)(f:Bool):Prop :=
 h.get? z=some { cls:=.type "zip",dict:=none,data:=.fields #[rawInt a,.bool f,.bool false,.ref TI,.ref TO],slots:=#[] }
section
variable{w:World}{A:Around}{s:Shared}
theorem alive{o:Obj}{Q:Option Obj->Shared->Prop}(ho:s.heap.get? a=some o)(h:Q (some o) s):wpAny (model prog w) A (loadIfAlive a) Q E s:=by
 have h':Q (s.heap.get? a) s:=by rw[ho];exact h
 exact λ_ _ _=>h'
theorem lk0{TI TO:Addr}{f:Bool}{Q:Bool->Shared->Prop}(hz:IsZ s.heap z TI TO a f)(ha:s.heap.get? a=some oa)
  (hQ:∀h',IsZ h' z TI TO a true->Heap.SameBut z s.heap h'->Q false { s with heap:=h' }):wpAny (model prog w) A (Builtin.SmallTypes.ownedTupleIsFree (.ref z)) Q E s:=by
 unfold Builtin.SmallTypes.ownedTupleIsFree;refine A0 (E9 hz rfl (x:=rawInt a) rfl ?_);show wpAny _ _ (loadIfAlive ((a:Int).toNat)>>=_) _ _ _;rw[Int.toNat_natCast];refine A0 (alive ha ?_);simp only[Option.isNone_some,Bool.false_eq_true,if_false];refine A0 (E9 hz rfl (x:=.bool f) rfl ?_);cases f with
 | true =>
  rw[if_neg (show ¬((Value.bool true != Value.bool true)=true) from B3)];exact A1 (hQ _ hz (Heap.SameBut.refl _ _))
 | false =>
  rw[if_pos (show (Value.bool false != Value.bool true)=true from rfl)];exact A0 (wpAny_setField_rec hz (by simp) λh3 J M=>A1 (hQ h3 J M))
theorem c30{TI TO a:Addr}{f:Bool}{oa:Obj}{k1 k2:Nat}{xs ys:Array Value}{x y:Value}{Q:Value->Shared->Prop}(D:ZipApart z TI TO i1 i2 l1 l2)
  (hz:IsZ s.heap z TI TO a f) (ha:s.heap.get? a=some oa) (hTI:IsPair s.heap TI (.ref i1) (.ref i2))
  (h1:s.heap.IsListIter i1 l1 k1) (h2:s.heap.IsListIter i2 l2 k2) (hl1:s.heap.IsList l1 xs) (hl2:s.heap.IsList l2 ys) (hx:xs[k1]?=some x) (hy:ys[k2]?=some y)
  (hQ:∀h',IsZ h' z TI TO a true->h'.IsListIter i1 l1 (k1+1)->h'.IsListIter i2 l2 (k2+1)->IsPair h' s.heap.objs.size x y->h'.objs.size=s.heap.objs.size+1 ->
   (∀c o,c≠z->c≠i1->c≠i2->s.heap.get? c=some o->h'.get? c=some o)->Q (.ref s.heap.objs.size) { s with heap:=h' }) :
  wpAny (model prog w) A (Builtin.«zip.__next__» ⟨[.ref z],[]⟩) (λfin s'=>∃v,fin=.done (.ret v)/\Q v s') E s:=by
 show wpAny _ _ (field (.ref z) 2>>=_) _ _ _;refine A0 (E9 hz rfl (x:=.bool false) rfl ?_);show wpAny _ _ (field (.ref z) 3>>=_) _ _ _;refine A0 (E9 hz rfl (x:=.ref TI) rfl ?_);refine A0 (i4 hTI rfl ?_);show wpAny _ _ (Builtin.SmallTypes.ownedTupleIsFree (.ref z)>>=_) _ _ _;refine A0 (lk0 hz ha λh₁ a2 J=>?_);simp only[Bool.false_eq_true,if_false];refine A0 ?_;simp only[List.forIn_toArray,List.forIn_cons,List.forIn_nil];refine A0 (A0 (B9 ?_));show wpAny _ _ (Builtin.SmallTypes.nextOf (.ref i1)>>=_) _ _ _;refine A0 (Ad0 (h1.extBut J.extBut D.i1z) (hl1.extBut J.extBut D.l1z) hx λh₂ a4 M=>A1 ?_);refine A1 ?_;refine A0 (A0 (B9 ?_));show wpAny _ _ (Builtin.SmallTypes.nextOf (.ref i2)>>=_) _ _ _;refine A0 (Ad0 ((h2.extBut J.extBut D.i2z).extBut M.extBut D.i12.symm) ((hl2.extBut J.extBut D.l2z).extBut M.extBut D.l2i1) hy λh₄ a0 O=>A1 ?_);refine A1 (A1 ?_);refine A0 (wpAny_newTuple (hsz:=by show 2<=sizeLine;decide) ?_);have Z:h₄.objs.size=s.heap.objs.size:=by rw[O.1,M.1,J.1]
 have a1:IsZ h₄ z TI TO a true:=O.extBut _ _ D.i2z.symm (M.extBut _ _ D.i1z.symm a2);have a3:∀c o,c≠z->c≠i1->c≠i2->s.heap.get? c=some o->h₄.get? c=some o:=λc o c1 c3 c4 e=>O.extBut _ _ c4 (M.extBut _ _ c3 (J.extBut _ _ c1 e))
 refine A1 ⟨_,rfl,?_⟩;show Q (.ref h₄.objs.size) _;have hq:=hQ (h₄.push { cls:=.type "tuple",data:=.seq #[x,y] }) (B0 _ a1) ((a4.extBut O.extBut D.i12).at λo e=>B0 _ e) (a0.at λo e=>B0 _ e)
  (by rw[← Z];exact C1 _ rfl) (by rw[Heap.size_push,Z]) λc o c1 c3 c4 e=>B0 _ (a3 c o c1 c3 c4 e)
 rw[Z];exact hq
theorem ar0{TI TO a:Addr}{f:Bool}{oa:Obj}{k1 k2:Nat}{xs ys:Array Value}{Q:Fin->Shared->Prop}(hh:A.handled=none)(D:ZipApart z TI TO i1 i2 l1 l2)
  (hz:IsZ s.heap z TI TO a f) (ha:s.heap.get? a=some oa) (hTI:IsPair s.heap TI (.ref i1) (.ref i2))
  (h1:s.heap.IsListIter i1 l1 k1) (h2:s.heap.IsListIter i2 l2 k2) (hl1:s.heap.IsList l1 xs) (hl2:s.heap.IsList l2 ys) (hend:xs[k1]?=none∨ys[k2]?=none)
  (hE:∀h' e,(∀c o,c≠z->c≠i1->c≠i2->s.heap.get? c=some o->h'.get? c=some o)->(∃o,h'.get? e=some o/\o.cls=.type "StopIteration")->E (.ref e) { s with heap:=h' }) :
  wpAny (model prog w) A (Builtin.«zip.__next__» ⟨[.ref z],[]⟩) Q E s:=by
 show wpAny _ _ (field (.ref z) 2>>=_) _ _ _;refine A0 (E9 hz rfl (x:=.bool false) rfl ?_);show wpAny _ _ (field (.ref z) 3>>=_) _ _ _;refine A0 (E9 hz rfl (x:=.ref TI) rfl ?_);refine A0 (i4 hTI rfl ?_);show wpAny _ _ (Builtin.SmallTypes.ownedTupleIsFree (.ref z)>>=_) _ _ _;refine A0 (lk0 hz ha λh₁ Z J=>?_);simp only[Bool.false_eq_true,if_false];refine A0 ?_;simp only[List.forIn_toArray,List.forIn_cons,List.forIn_nil];refine A0 (A0 (B9 ?_));show wpAny _ _ (Builtin.SmallTypes.nextOf (.ref i1)>>=_) _ _ _;cases hx:xs[k1]? with
 | none =>
  refine A0 (wpAny_nextOf_list_end hh (h1.extBut J.extBut D.i1z) (hl1.extBut J.extBut D.l1z) hx λh₂ e M he=>?_);exact hE h₂ e (λc o c1 c3 _ x=>M _ _ c3 (J.extBut _ _ c1 x)) he
 | some x =>
  have hy:ys[k2]?=none:=by rcases hend with h|h;rw[hx] at h;cases h;exact h
  refine A0 (Ad0 (h1.extBut J.extBut D.i1z) (hl1.extBut J.extBut D.l1z) hx λh₂ a0 M=>A1 ?_);refine A1 ?_;refine A0 (A0 (B9 ?_));show wpAny _ _ (Builtin.SmallTypes.nextOf (.ref i2)>>=_) _ _ _;refine A0 (wpAny_nextOf_list_end hh ((h2.extBut J.extBut D.i2z).extBut M.extBut D.i12.symm) ((hl2.extBut J.extBut D.l2z).extBut M.extBut D.l2i1) hy λh₄ e O he=>?_);exact hE h₄ e (λc o c1 c3 c4 x=>O _ _ c4 (M.extBut _ _ c3 (J.extBut _ _ c1 x))) he
theorem g50{TI TO a:Addr}{f:Bool}{oa:Obj}{k1 k2:Nat}{xs ys:Array Value}{x y:Value}{Q:Option Value->Shared->Prop}(D:ZipApart z TI TO i1 i2 l1 l2)
  (hz:IsZ s.heap z TI TO a f) (ha:s.heap.get? a=some oa) (hTI:IsPair s.heap TI (.ref i1) (.ref i2))
  (h1:s.heap.IsListIter i1 l1 k1) (h2:s.heap.IsListIter i2 l2 k2) (hl1:s.heap.IsList l1 xs) (hl2:s.heap.IsList l2 ys) (hx:xs[k1]?=some x) (hy:ys[k2]?=some y)
  (hQ:∀h',IsZ h' z TI TO a true->h'.IsListIter i1 l1 (k1+1)->h'.IsListIter i2 l2 (k2+1)->IsPair h' s.heap.objs.size x y->h'.objs.size=s.heap.objs.size+1 ->
   (∀c o,c≠z->c≠i1->c≠i2->s.heap.get? c=some o->h'.get? c=some o)->Q (some (.ref s.heap.objs.size)) { s with heap:=h' }) :
  wpAny (model prog w) A (pyNext (.ref z)) Q E s:=by
 have hT:s.TypeIs (.ref z) "zip" := ⟨_,hz,rfl⟩;unfold pyNext;exact A0 (X1 (L3 (name:=Str.ofString "__next__") hT k3
  (D4 k3 hT F.entry_zip_next
   (c30 D hz ha hTI h1 h2 hl1 hl2 hx hy λh' a1 a3 a4 a5 a6 a7=>A1 (hQ h' a1 a3 a4 a5 a6 a7)) (F.args_zip_next_1 _))))
theorem pl0{TI TO a:Addr}{f:Bool}{oa:Obj}{k1 k2:Nat}{xs ys:Array Value}{Q:Option Value->Shared->Prop}(hh:A.handled=none)(D:ZipApart z TI TO i1 i2 l1 l2)
  (hz:IsZ s.heap z TI TO a f) (ha:s.heap.get? a=some oa) (hTI:IsPair s.heap TI (.ref i1) (.ref i2))
  (h1:s.heap.IsListIter i1 l1 k1) (h2:s.heap.IsListIter i2 l2 k2) (hl1:s.heap.IsList l1 xs) (hl2:s.heap.IsList l2 ys) (hend:xs[k1]?=none∨ys[k2]?=none)
  (hQ:∀h',(∀c o,c≠z->c≠i1->c≠i2->s.heap.get? c=some o->h'.get? c=some o)->Q none { s with heap:=h' }):wpAny (model prog w) A (pyNext (.ref z)) Q E s:=by
 have hT:s.TypeIs (.ref z) "zip" := ⟨_,hz,rfl⟩;unfold pyNext;refine A0 (X1 (L3 (name:=Str.ofString "__next__") hT k3
  (D4 k3 hT F.entry_zip_next (ar0 hh D hz ha hTI h1 h2 hl1 hl2 hend λh' e hk he=>?_) (F.args_zip_next_1 _))))
 obtain⟨o,ho,hc⟩:=he;refine A0 (R1 (T := "StopIteration") (b:=true) ⟨o,ho,hc⟩ isSubtype_stop ?_);exact A1 (hQ _ hk)
end
structure ZSt(h:Heap)(z TI TO i1 i2 l1 l2 S:Addr)(xs ys:Array Value)(i:Nat):Prop where
 own:(i=0/\IsZip h z TI TO .none/\∃p q,IsPair h TO p q)∨∃a f oa,IsZ h z TI TO a f/\h.get? a=some oa/\a≠z/\a≠i1/\a≠i2/\a≠S
 hTI:IsPair h TI (.ref i1) (.ref i2)
 h1:h.IsListIter i1 l1 i
 h2:h.IsListIter i2 l2 i
 hl1:h.IsList l1 xs
 hl2:h.IsList l2 ys
structure ZLow(z TI TO i1 i2 l1 l2 S:Addr):Prop where
 z:z<S
 TI:TI<S
 TO:TO<S
 i1:i1<S
 i2:i2<S
 l1:l1<S
 l2:l2<S
structure ZG(xs ys:Array Value)(S:Addr)(h:Heap)(as:List Addr):Prop where
 rise:as.Pairwise (·<·)
 above:∀a∈as,S<a
 pairs:∀(j:Nat) (a:Addr),as[j]?=some a->∃x y,xs[j]?=some x/\ys[j]?=some y/\IsPair h a x y
section
variable{w:World}{A:Around}{s:Shared}{TI TO S:Addr}{xs:Array Value}{h:Heap}
theorem ZG.there{as:List Addr}(g:ZG xs ys S h as)(ha:a∈as):a<h.objs.size:=by
 obtain⟨j,hj⟩:=List.mem_iff_getElem?.mp ha;obtain⟨_,_,_,_,e⟩:=g.pairs j a hj;exact A6 e
theorem ZSt.keep(x:ZSt h z TI TO i1 i2 l1 l2 S xs ys i)(L:ZLow z TI TO i1 i2 l1 l2 S)(hk:∀b o,b≠S->h.get? b=some o->h'.get? b=some o):ZSt h' z TI TO i1 i2 l1 l2 S xs ys i:=by
 refine⟨?_,hk _ _ (A9 L.TI) x.hTI,x.h1.at λo e=>hk _ o (A9 L.i1) e,x.h2.at λo e=>hk _ o (A9 L.i2) e,x.hl1.at λo e=>hk _ o (A9 L.l1) e,x.hl2.at λo e=>hk _ o (A9 L.l2) e⟩;rcases x.own with⟨e,hz,p,q,hp⟩|⟨a,f,oa,hz,ha,n1,n2,n3,n4⟩
 ·exact .inl ⟨e,hk _ _ (A9 L.z) hz,p,q,hk _ _ (A9 L.TO) hp⟩
 ·exact .inr ⟨a,f,oa,hk _ _ (A9 L.z) hz,hk _ _ n4 ha,n1,n2,n3,n4⟩
theorem Uu0{x y:Value}{Q:Option Value->Shared->Prop}(D:ZipApart z TI TO i1 i2 l1 l2)(st:ZSt s.heap z TI TO i1 i2 l1 l2 S xs ys i)(hS:S<s.heap.objs.size)(hx:xs[i]?=some x)(hy:ys[i]?=some y)
  (hQ:∀h',ZSt h' z TI TO i1 i2 l1 l2 S xs ys (i+1)->IsPair h' s.heap.objs.size x y->(∀c o,c≠z->c≠TO->c≠i1->c≠i2->s.heap.get? c=some o->h'.get? c=some o)->Q (some (.ref s.heap.objs.size)) { s with heap:=h' }) :
  wpAny (model prog w) A (pyNext (.ref z)) Q E s:=by
 obtain⟨o1,e1,_⟩:=id st.h1;obtain⟨o2,e2,_⟩:=id st.h2;rcases st.own with⟨rfl,hz,p,q,hp⟩|⟨a,f,oa,hz,ha,n1,n2,n3,n4⟩
 ·refine wpAny_pyNext_zip_item D hz st.hTI hp st.h1 st.h2 st.hl1 st.hl2 hx hy λh' a1 a2 a3 a4 a5 a6 hk=>hQ h' ⟨.inr ⟨_,false,_,a1,a5,C5 (A6 hz),C5 (A6 e1),C5 (A6 e2),C5 hS⟩,hk _ _ D.TIz D.TITO D.TIi1 D.TIi2 st.hTI,a3,a4,
   st.hl1.at λo e=>hk _ o D.l1z D.l1TO D.l1i1 D.l1i2 e,st.hl2.at λo e=>hk _ o D.l2z D.l2TO D.l2i1 D.l2i2 e⟩ a5 hk
 ·refine g50 D hz ha st.hTI st.h1 st.h2 st.hl1 st.hl2 hx hy λh' a1 a3 a4 a5 a6 hk=>hQ h' ⟨.inr ⟨a,true,oa,a1,hk _ _ n1 n2 n3 ha,n1,n2,n3,n4⟩,hk _ _ D.TIz D.TIi1 D.TIi2 st.hTI,a3,a4,
   st.hl1.at λo e=>hk _ o D.l1z D.l1i1 D.l1i2 e,st.hl2.at λo e=>hk _ o D.l2z D.l2i1 D.l2i2 e⟩ a5 λc o c1 _ c3 c4 e=>hk c o c1 c3 c4 e
theorem Vz0{Q:Option Value->Shared->Prop}(hh:A.handled=none)(D:ZipApart z TI TO i1 i2 l1 l2)(st:ZSt s.heap z TI TO i1 i2 l1 l2 S xs ys i)(hend:xs[i]?=none∨ys[i]?=none)
  (hQ:∀h',(∀c o,c≠z->c≠TO->c≠i1->c≠i2->s.heap.get? c=some o->h'.get? c=some o)->Q none { s with heap:=h' }):wpAny (model prog w) A (pyNext (.ref z)) Q E s:=by
 rcases st.own with⟨rfl,hz,p,q,hp⟩|⟨a,f,oa,hz,ha,n1,n2,n3,n4⟩
 ·exact wpAny_pyNext_zip_end hh D hz st.hTI hp st.h1 st.h2 st.hl1 st.hl2 hend hQ
 ·exact pl0 hh D hz ha st.hTI st.h1 st.h2 st.hl1 st.hl2 hend λh' hk=>hQ h' λc o c1 _ c3 c4 e=>hk c o c1 c3 c4 e
end
section
variable{w:World}{A:Around}{s:Shared}{TI TO S lo:Addr}{xs:Array Value}{h₁:Heap}
theorem Vw0(hh:A.handled=none)(D:ZipApart z TI TO i1 i2 l1 l2)(L:ZLow z TI TO i1 i2 l1 l2 S)(hlo:lo<=z/\lo<=TO/\lo<=i1/\lo<=i2)(hn:min xs.size ys.size<=sizeLine)(res:Value)
  (hR:∀h' tk acc c as,(∀b o,b<lo->h₁.get? b=some o->h'.get? b=some o)->h'.get? S=some { cls:=.type "list",dict:=none,data:=.seq acc c,slots:=#[] }->as.length=min xs.size ys.size->ZG xs ys S h' as ->
   acc.toList=as.map Value.ref->R (.ok (.ret res)) { s with heap:=h',toks:=tk }) :
  ∀(k i:Nat) (h:Heap) (tk c:Nat) (acc:Array Value) (as:List Addr),min xs.size ys.size - i=k->i<=min xs.size ys.size->ZSt h z TI TO i1 i2 l1 l2 S xs ys i->(∀b o,b<lo->h₁.get? b=some o->h.get? b=some o) ->
   h.get? S=some { cls:=.type "list",dict:=none,data:=.seq acc c,slots:=#[] }->acc.toList=as.map Value.ref->as.length=i->ZG xs ys S h as ->
   codeAny (model prog w) A (.builtin "list.extend.loop" ⟨[.ref S,.ref z,res],[]⟩) R { s with heap:=h,toks:=tk }:=by
 have b3:=hlo.1;have b2:lo<S:=P4 hlo.1 L.z;have lk:∀(h h':Heap),(∀c o,c≠z->c≠TO->c≠i1->c≠i2->h.get? c=some o->h'.get? c=some o)->∀b o,b<lo->h.get? b=some o->h'.get? b=some o:=λh h' hk b o hb e =>
  hk b o (A9 (B5 hb hlo.1)) (A9 (B5 hb hlo.2.1)) (A9 (B5 hb hlo.2.2.1)) (A9 (B5 hb hlo.2.2.2)) e
 have Z:∀(h h':Heap),(∀c o,c≠z->c≠TO->c≠i1->c≠i2->h.get? c=some o->h'.get? c=some o)->∀b o,S<=b->h.get? b=some o->h'.get? b=some o:=λh h' hk b o hb e =>
  hk b o (C5 (B5 L.z hb)) (C5 (B5 L.TO hb)) (C5 (B5 L.i1 hb)) (C5 (B5 L.i2 hb)) e
 intro k
 induction k with
 | zero =>
  intro i h tk c acc as hk hi a2 M hS J O hG;have b1:xs[i]?=none∨ys[i]?=none:=by
   rcases Nat.le_total xs.size ys.size with q|q
   ·exact .inl (Cj0 (by omega))
   ·exact .inr (Cj0 (by omega))
  refine N2 F.entry_extend_loop ?_;rw[Around.under_plainId k4 _];show wpAny _ A.in1 (pyNext (.ref z)>>=_) _ _ _;refine A0 (Vz0 (s:={ s with heap:=h,toks:=tk }) (A:=A.in1) hh D a2 b1 λh' he=>?_);refine A1 (hR h' tk acc c as (λb o h1 e=>lk h h' he b o h1 (M b o h1 e)) (Z h h' he S _ (A2 _) hS) (by omega) ⟨hG.rise,hG.above,λj a hj=>?_⟩ J);obtain⟨x,y,e1,e2,e3⟩:=hG.pairs j a hj;exact⟨x,y,e1,e2,Z h h' he a _ (K0 (hG.above a (O0 hj))) e3⟩
 | succ k ih =>
  intro i h tk c acc as hk hi a2 M hS J O hG;have a1:i<min xs.size ys.size:=by omega
  have a8:i<xs.size:=B5 a1 (Nat.min_le_left ..);have a5:i<ys.size:=B5 a1 (Ba0 ..);have a6:acc.size=i:=by rw[← Array.length_toList,J,List.length_map,O]
  have a3:S<h.objs.size:=A6 hS;refine N2 F.entry_extend_loop ?_;rw[Around.under_plainId k4 _];show wpAny _ A.in1 (pyNext (.ref z)>>=_) _ _ _;refine A0 (Uu0 (s:={ s with heap:=h,toks:=tk }) D a2 a3 (X0 a8) (X0 a5) λh' b0 ht a0=>?_);dsimp only at ht a0 ⊢;have a7:=Z h h' a0 S _ (A2 _) hS;have up:∀b o,b≠S->h'.get? b=some o->(h'.update S (Obj.mapSeq (·.push (Value.ref h.objs.size)))).get? b=some o:=λb o hb e=>(P3 _ _ (B6 hb)).trans e
  show wpAny _ A.in1 (updateSeq S (·.push (Value.ref h.objs.size))>>=_) _ _ _;refine A0 ?_;refine U1 a7 rfl (A1 ⟨W1 k4 _,ih (i+1) _ tk _ (acc.push (Value.ref h.objs.size)) (as++[h.objs.size]) (by omega) a1 (b0.keep L up)
   (λb o h1 e=>up b o (A9 (E4 h1 b2)) (lk h h' a0 b o h1 (M b o h1 e))) (L4 _ a7 rfl) (by rw[Array.toList_push,J,List.map_append];rfl) (by rw[List.length_append,O];rfl) ⟨?_,?_,?_⟩⟩) (by rw[a6];omega) (by show (acc.push (Value.ref h.objs.size)).size<=sizeLine+1;rw[Array.size_push,a6];omega)
  ·refine Cl0.mpr ⟨hG.rise,Cm0 _ _,λa ha b hb=>?_⟩
   rw[List.mem_singleton.mp hb];exact hG.there ha
  ·intro a ha
   rcases B1.mp ha with ha|ha
   ·exact hG.above a ha
   ·rw[List.mem_singleton.mp ha];exact a3
  ·intro j b hj
   rcases Cn0 j as.length with h1|h1|h1
   ·rw[List.getElem?_append_left h1] at hj
    obtain⟨x',y',e1,e2,e3⟩:=hG.pairs j b hj;have hb:=hG.above b (O0 hj);exact⟨x',y',e1,e2,up b _ (C5 hb) (Z h h' a0 b _ (K0 hb) e3)⟩
   ·subst h1
    have hb:h.objs.size=b:=by simpa using hj
    subst hb;exact⟨_,_,by rw[O];exact X0 a8,by rw[O];exact X0 a5,up _ _ (C5 a3) ht⟩
   ·have a4:(as++[h.objs.size])[j]?=none:=List.getElem?_eq_none (by rw[List.length_append,List.length_singleton];omega)
    rw[a4] at hj;cases hj
end
theorem g70:typeLookup (.type "zip") "__len__"=pure none:=by rw[typeLookup_type,builtinLookup_eq_fast];kernel_rfl
theorem kw0:typeLookup (.type "zip") "__length_hint__"=pure none:=by rw[typeLookup_type,builtinLookup_eq_fast];kernel_rfl
section
variable{w:World}{A:Around}{s:Shared}{TI TO lo:Addr}{xs:Array Value}
def Ws0(xs ys:Array Value)(lo:Addr)(s:Shared)(h':Heap)(as:List Addr):Prop :=
 (∀b o,b<lo->s.heap.get? b=some o->h'.get? b=some o)/\as.length=min xs.size ys.size/\ZG xs ys s.heap.objs.size h' as
theorem kz0{Q:List Value->Shared->Prop}(hh:A.handled=none)(D:ZipApart z TI TO i1 i2 l1 l2)(hlo:lo<=z/\lo<=TO/\lo<=i1/\lo<=i2)
  (st:∀S,S≠z->S≠i1->S≠i2->ZSt s.heap z TI TO i1 i2 l1 l2 S xs ys 0) (hn:min xs.size ys.size<=sizeLine) (L:ZLow z TI TO i1 i2 l1 l2 s.heap.objs.size)
  (hT:s.TypeIs (.ref z) "zip") (hI:∃f0,IsZip s.heap z TI TO f0)
  (hQ:∀h' tk as,Ws0 xs ys lo s h' as->s.heap.objs.size<h'.objs.size->Q (as.map Value.ref) { s with heap:=h',toks:=tk }):wpAny (model prog w) A (collect (.ref z)) Q E s:=by
 have a1:s.heap.objs.size≠z:=C5 L.z;obtain⟨f0,hI⟩:=hI;unfold collect;refine A0 (wpAny_runValue (N2 F.entry_proto_collect ?_));rw[Around.under_plainId F.plain_proto_collect _];show wpAny _ A.in1 (newList []>>=λl=>again (.builtin "list.__iadd__" ⟨[l,.ref z],[]⟩)) _ _ s;refine A0 (D6 ?_);refine A1 ⟨W1 F.plain_list_iadd _,N2 F.entry_list_iadd ?_⟩;rw[Around.under_plainId F.plain_list_iadd _];have a0:(s.heap.push { cls:=.type "list",data:=.seq ([]:List Value).toArray }).get? s.heap.objs.size=some { cls:=.type "list",data:=.seq ([]:List Value).toArray }:=C1 _ rfl;have M:=B0 { cls:=.type "list",data:=.seq ([]:List Value).toArray } hI;have J:Shared.TypeIs { s with heap:=s.heap.push { cls:=.type "list",data:=.seq ([]:List Value).toArray } } (.ref z) "zip" := ⟨_,M,rfl⟩;show wpAny _ A.in1 (Builtin.List.listExtendWith (.ref s.heap.objs.size) (.ref z) (.ref s.heap.objs.size)) _ _ _;unfold Builtin.List.listExtendWith;refine A0 (M1 J ?_);have h1:Builtin.List.listSameRef (.ref s.heap.objs.size) (.ref z)=false:=by simp[Builtin.List.listSameRef,a1]
 have h2:(Value.type "zip"==Value.type "list")=false:=by decide
 have h3:(Value.type "zip"==Value.type "tuple")=false:=by decide
 simp only[h1,h2,h3,Bool.or_false,Bool.false_eq_true,if_false];refine A0 (Ae0 (s:={ s with heap:=s.heap.push { cls:=.type "list",data:=.seq ([]:List Value).toArray } }) M ?_);refine A0 (B9 ?_);unfold Builtin.List.listLengthHint;refine A0 (D8 J g70 ?_);show wpAny _ A.in1 (specialOf (Value.ref z) (Str.ofString "__length_hint__")>>=_) _ _ _;refine A0 (D8 J kw0 ?_);refine A1 ?_;show wpAny _ A.in1 (rule "list.extend.makes-room">>=λ_=>Builtin.List.listTouch (.ref s.heap.objs.size)>>=λ_ =>
  again (.builtin "list.extend.loop" ⟨[.ref s.heap.objs.size,.ref z,.ref s.heap.objs.size],[]⟩)) _ _ _
 refine A0 (D9 ?_);refine A0 ?_;show wpAny _ A.in1 (updateSeq s.heap.objs.size (·.push .none)>>=λ_=>updateSeq s.heap.objs.size (·.pop)) _ _ _;refine A0 (U1 a0 rfl ?_);have O:=L4 (Obj.mapSeq (·.push Value.none)) a0 rfl;refine U1 O rfl ?_;have a3:=L4 (Obj.mapSeq (·.pop)) O rfl;have oth:∀b o,b≠s.heap.objs.size->s.heap.get? b=some o ->
   (((s.heap.push { cls:=.type "list",data:=.seq ([]:List Value).toArray }).update s.heap.objs.size (Obj.mapSeq (·.push Value.none))).update s.heap.objs.size (Obj.mapSeq (·.pop))).get? b=some o :=
  λb o hb e=>(P3 _ _ (B6 hb)).trans ((P3 _ _ (B6 hb)).trans (B0 _ e))
 refine A1 ⟨W1 k4 _,Vw0 (s:=s) (lo:=lo) (h₁:=s.heap) hh D L hlo hn _ (λh' tk a4 c as hk Z hl hG a2=>?_) _ 0 _ s.toks _ #[] [] rfl (C4 _)
  ((st _ a1 (C5 L.i1) (C5 L.i2)).keep L oth) (λb o hb e=>oth b o (A9 (A6 e)) e) a3 rfl rfl ⟨List.Pairwise.nil,(λ_ ha=>nomatch ha),(λj a hj=>by simp at hj)⟩⟩
 show wpAny _ A (load s.heap.objs.size>>=_) _ _ _;refine A0 (wpAny_load Z ?_);refine A1 ?_;have:=hQ h' tk as ⟨hk,hl,hG⟩ (A6 Z);rw[← a2] at this;exact this
end
section
variable{w:World}{A:Around}{s:Shared}{TI TO lo:Addr}{xs:Array Value}
theorem sb0{Q₁:Value->Shared->Prop}(hh:A.handled=none)(D:ZipApart z TI TO i1 i2 l1 l2)(hlo:lo<=z/\lo<=TO/\lo<=i1/\lo<=i2)
  (st:∀S,S≠z->S≠i1->S≠i2->ZSt s.heap z TI TO i1 i2 l1 l2 S xs ys 0) (hn:min xs.size ys.size<=sizeLine) (L:ZLow z TI TO i1 i2 l1 l2 s.heap.objs.size)
  (hT:s.TypeIs (.ref z) "zip") (hI:∃f0,IsZip s.heap z TI TO f0)
  (h:∀h' tk as,Ws0 xs ys lo s h' as->s.heap.objs.size<h'.objs.size->Q₁ (.ref h'.objs.size) { s with heap:=h'.push { cls:=.type "tuple",data:=.seq (as.map Value.ref).toArray },toks:=tk }) :
  codeAny (model prog w) A (.call (.builtin "tuple.__new__") ⟨[.type "tuple",.ref z],[]⟩) (wants Q₁ E) s:=by
 refine codeAny_of_tree ?_;show wpAny _ A.in1 (do checkBuiltinCall "tuple.__new__" ⟨[.type "tuple",.ref z],[]⟩;again (.builtin "tuple.__new__" ⟨[.type "tuple",.ref z],[]⟩)) _ _ s;refine A0 (wpAny_of_eq (F.newCall_tuple_1 _) (A1 ⟨W1 F.plain_tuple_new _,N2 F.entry_tuple_new ?_⟩));rw[Around.under_plainId F.plain_tuple_new _];have Z:=sub_tuple_self;have O:=init_tuple_lookup;have a0:=madeHere_tuple;have M:A.in1.handled=none:=by simp[hh]
 wp_walk using M1 hT,kz0 (lo:=lo) M D hlo st hn L hT hI
 intro h' tk as hz J;show wpAny _ _ (Builtin.Tuple.tupleExact (as.map Value.ref).toArray>>=λv=>ret v) _ _ _;unfold Builtin.Tuple.tupleExact;refine A0 (D6 ?_ (by show (as.map Value.ref).toArray.size<=sizeLine;rw[List.size_toArray,List.length_map,hz.2.1];exact hn));exact A1 (h h' tk as hz J)
theorem fb0{Q:Value->Shared->Prop}(hh:A.handled=none)(hl1:s.heap.IsList l1 xs)(hl2:s.heap.IsList l2 ys)(hn:min xs.size ys.size<=sizeLine)
  (h:∀(h':Heap) (tk:Nat) (as:List Addr) (t:Addr),(∀b o,s.heap.get? b=some o->h'.get? b=some o)->as.length=min xs.size ys.size->(∀a∈as,s.heap.objs.size<=a/\a<t)->as.Nodup->s.heap.objs.size<=t ->
   (∀(j:Nat) (a:Addr),as[j]?=some a->∃x y,xs[j]?=some x/\ys[j]?=some y/\IsPair h' a x y)->h'.get? t=some { cls:=.type "tuple",data:=.seq (as.map Value.ref).toArray }->Q (.ref t) { s with heap:=h',toks:=tk }) :
  wpAny (model prog w) A (call (.type "zip") [.ref l1,.ref l2]) (λv s1=>wpAny (model prog w) A (call (.type "tuple") [v]) Q E s1) E s:=by
 have a1:l1<s.heap.objs.size:=by obtain⟨_,e,_⟩:=hl1;exact A6 e
 have a2:l2<s.heap.objs.size:=by obtain⟨_,e,_⟩:=hl2;exact A6 e
 refine call_zip_2 hl1 hl2 λh1 hz hTI a4 Z a0 a3 hk=>?_
 have M:h1.IsList l1 xs:=hl1.at λo e=>hk _ o e
 have J:h1.IsList l2 ys:=hl2.at λo e=>hk _ o e
 have H:∀k,k<5->s.heap.objs.size+k<h1.objs.size:=λk hk=>by rw[a3];exact Nat.add_lt_add_left hk _
 refine callType_codes (Q₁:=λobj s₁=>s₁.TypeIs obj "tuple"/\Q obj s₁) F.called_tuple (F.typeCall_tuple_1 _) F.entry_object_init
  (sb0 (lo:=s.heap.objs.size) (xs:=xs) (ys:=ys) (by simp[hh]) (zipApart_new a1 a2) ⟨C9 _ 4,C9 _ 3,A2 _,C9 _ 1⟩ (λS n1 n2 n3=>⟨.inl ⟨rfl,hz,_,_,a4⟩,hTI,Z,a0,M,J⟩) hn
   ⟨H 4 (by decide),H 2 (by decide),H 3 (by decide),H 0 (by decide),H 1 (by decide),E4 a1 (H 0 (by decide)),E4 a2 (H 0 (by decide))⟩
   ⟨_,hz,rfl⟩ ⟨_,hz⟩ λh' tk as ze O=>⟨⟨_,C1 _ rfl,rfl⟩,?_⟩) λobj s₁ h₁=>?_
 ·obtain⟨k1,k2,g⟩:=ze
  refine h (h'.push _) tk as h'.objs.size (λb o e=>B0 _ (k1 b o (A6 e) (hk b o e))) k2 (λa ha=>⟨?_,g.there ha⟩) (g.rise.imp λh=>A9 h) ?_ (λj a hj=>?_) (C1 _ rfl)
  ·exact K0 (E4 (H 0 (by decide)) (g.above a ha))
  ·exact K0 (E4 (H 0 (by decide)) O)
  ·obtain⟨x,y,e1,e2,e3⟩:=g.pairs j a hj
   exact⟨x,y,e1,e2,B0 _ e3⟩
 ·exact⟨h₁.1,F.args_object_init_2 obj _,object_init_meets F.called_tuple.init.lookup F.called_tuple.made (by decide) prog w A.in1 _ s₁ ⟨h₁.1,rfl,h₁.2⟩⟩
end
end ZipL
namespace L2
open Spec PyProof.Rows
def xn0(H:Hp):List (Addr×HO)->Hp
 | []=>H
 | p::l=>upd (xn0 H l) p.1 p.2
theorem rk0{b:Addr}:∀{l:List (Addr×HO)},(∀p∈l,p.1≠b)->xn0 H l b=H b
 | [],_=>rfl
 | p::l,h=>by
  show upd (xn0 H l) p.1 p.2 b=_;rw[j7 (B6 (h p A5)),rk0 λq hq=>h q (A3 _ hq)]
theorem tg0{b:Addr}{u:HO}:∀{l:List (Addr×HO)},xn0 H l b=some u->(∃p∈l,p.1=b/\p.2=u)∨H b=some u
 | [],e=>.inr e
 | p::l,e=>by
  by_cases h:b=p.1
  ·subst h
   have e':upd (xn0 H l) p.1 p.2 p.1=some u:=e;rw[m8] at e';exact .inl ⟨p,A5,rfl,A8 e'⟩
  ·have e':upd (xn0 H l) p.1 p.2 b=some u:=e
   rw[j7 h] at e';rcases tg0 e' with⟨q,hq,x⟩|x
   ·exact .inl ⟨q,A3 _ hq,x⟩
   ·exact .inr x
theorem rs0:∀{l:List (Addr×HO)},(l.map Prod.fst).Nodup->∀p∈l,xn0 H l p.1=some p.2
 | [],_,p,h=>nomatch h
 | q::l,n,p,h=>by
  rw[List.map_cons,List.nodup_cons] at n;show upd (xn0 H l) q.1 q.2 p.1=_;rcases A4.mp h with rfl|h
  ·rw[m8]
  ·rw[j7 (λz=>n.1 (by rw[← z];exact L6 h)),rs0 n.2 p h]
section
variable{s:Shared}
theorem Inv.laidL{l:List (Addr×HO)}{t':Nat}(I:Inv X pins σ H s)(k:∀b u,s.heap.get? b=some u->h'.get? b=some u)
  (hl:∀p∈l,s.heap.objs.size<=p.1/\∃xs,p.2=.tup xs/\ObjOk X.prog X.w H h' p.1 (.tup xs)):Inv X pins σ (xn0 H l) { s with heap:=h',toks:=t' }:=by
 have J:∀b,b<s.heap.objs.size->xn0 H l b=H b:=λb hb=>rk0 λp hp z=>by
  have:=(hl p hp).1;rw[z] at this;exact C7 _ (B5 hb this)
 refine I.un ⟨λb u q _ _ _=>k b u q,λb u q _ _ _=>⟨u.slots,k b u q⟩,λb u q n _=>by rw[J b (A6 q)];exact n,λb u q _=>⟨u,k b u q⟩,λb xs q=>by rw[J b (I.hok.lt q)];exact q,
  λb u xs q=>by rw[J b (I.hok.lt q)];exact q,λb ps q=>⟨#[],by rw[J b (I.hok.lt q),q];simp⟩⟩ λb u e=>?_
 rcases tg0 e with⟨p,hp,rfl,rfl⟩|e'
 ·obtain⟨_,xs,ex,ok⟩:=hl p hp
  rw[ex];exact ok
 ·exact(I.hok b u e').stay (λc v _ q=>k c v q) (λc q=>by rw[J c (I.hok.lt q)];exact q) (λc xs q=>by rw[J c (I.hok.lt q)];exact q) λc ob u' q=>by rw[J c (I.hok.lt q)];exact q
end
def k20(X:Cx)(f1 f2:Value)(r:List V->Hp->VK->Prop):Prop :=
 ∀(pins:List (Addr×Obj)) (s:Shared) (σ:St) (H:Hp) (xs:List V) (us:List Value) (Q:VK),Inv X pins σ H s->Vals xs us->r xs H Q ->
  wpAny (model X.prog X.w) X.A (call f2 us) (λv s1=>wpAny (model X.prog X.w) X.A (call f1 [v]) (EP X pins σ Q) X.xe s1) X.xe s
section
variable{x1:Str}{T1 T2:String}{r:List V->Hp->VK->Prop}{t:TA}
theorem ge0(hc:k20 X (.type T1) (.type T2) r)(hg1:Gl X x1)(hg2:Gl X x2)(hm1:X.mg x1=none)(hm2:X.mg x2=none)(hv1:bootBuiltins x1=some (.type T1))(hv2:bootBuiltins x2=some (.type T2))(ha:PA X (e::es) t)
  (hn1:x1 ≠"__name__" := by decide) (hd1:(x1==("__debug__" : Str))=false:=by decide) (hn2:x2 ≠"__name__" := by decide) (hd2:(x2==("__debug__" : Str))=false:=by decide)
  (e1:starEach [.Call (.Name x2 p2) (e::es) [] pos2] X.env=(false,eval (.Call (.Name x2 p2) (e::es) [] pos2) X.env)::starEach [] X.env:=by rfl) (h1:(backTo pos (starEach [] X.env)).any (·.1)=false:=by rfl)
  (he:starEach (e::es) X.env=(false,eval e X.env)::starEach es X.env:=by rfl) (hpl:(backTo pos2 (starEach es X.env)).any (·.1)=false:=by rfl) :
  PE X (.Call (.Name x1 p) [.Call (.Name x2 p2) (e::es) [] pos2] [] pos) (tCB r t):=by
 intro pins s σ H Q I h;refine M0 (zf0 I hg1 hm1 hv1 ?_ hn1 hd1);refine E2 ?_ e1 h1;rw[e1];show wpAny _ _ (spliced ((false,eval (.Call (.Name x2 p2) (e::es) [] pos2) X.env)::backTo pos (starEach [] X.env))) _ _ s;refine K2 ?_;refine M0 (zf0 I hg2 hm2 hv2 ?_ hn2 hd2);refine E2 (thn (ha pos2 pins s σ H _ I h) λus s1 ⟨vs,H1,I1,r1,q1⟩=>?_) he hpl;exact thn (hc pins s1 σ H1 vs us Q I1 r1 q1) λv s2 hv=>N9 hv
end
end L2
namespace DL
open Spec PyProof.Rows L2
section
variable{x1:Str}{T1 T2:String}{r:List V->Hp->VK->Prop}{f:List D->Option D}
theorem e60(hc:k20 X (.type T1) (.type T2) r)(hf:FnR X.K r f)(hm1:X.mg x1=none)(hm2:X.mg x2=none)(hv1:bootBuiltins x1=some (.type T1))(hv2:bootBuiltins x2=some (.type T2))(ha:PDA X (e::es) gA)(hg1:Gl X x1:=by rfl)(hg2:Gl X x2:=by rfl)
  (hn1:x1 ≠"__name__" := by decide) (hd1:(x1==("__debug__" : Str))=false:=by decide) (hn2:x2 ≠"__name__" := by decide) (hd2:(x2==("__debug__" : Str))=false:=by decide)
  (e1:starEach [.Call (.Name x2 p2) (e::es) [] pos2] X.env=(false,eval (.Call (.Name x2 p2) (e::es) [] pos2) X.env)::starEach [] X.env:=by rfl) (h1:(backTo pos (starEach [] X.env)).any (·.1)=false:=by rfl)
  (he:starEach (e::es) X.env=(false,eval e X.env)::starEach es X.env:=by rfl) (hpl:(backTo pos2 (starEach es X.env)).any (·.1)=false:=by rfl) :
  PD X (.Call (.Name x1 p) [.Call (.Name x2 p2) (e::es) [] pos2] [] pos) (oA gA f) :=
 .mk λB δ=>(ge0 hc hg1 hg2 hm1 hm2 hv1 hv2 (ha B δ) hn1 hd1 hn2 hd2 e1 h1 he hpl).imp fun σ H Q h=>mt0 hf h
end
def M9:List Addr->List (V×V)->List (Addr×HO)
 | a::as,p::ps=>(a,.tup [p.1,p.2])::M9 as ps
 | _,_=>[]
theorem na0:∀{as:List Addr} {ps:List (V×V)},as.length=ps.length->(M9 as ps).map Prod.fst=as
 | [],[],_=>rfl
 | [],_::_,h=>by simp at h
 | _::_,[],h=>by simp at h
 | a::as,p::ps,h=>by
  show a::(M9 as ps).map Prod.fst=_;rw[na0 (by simpa using h)]
theorem og0:∀{as:List Addr} {ps:List (V×V)} {q:Addr×HO},q∈M9 as ps->∃(j:Nat) (p:V×V),as[j]?=some q.1/\ps[j]?=some p/\q.2=.tup [p.1,p.2]
 | [],_,q,h=>by simp[M9] at h
 | _::_,[],q,h=>by simp[M9] at h
 | a::as,p::ps,q,h=>by
  rcases A4.mp h with rfl|h
  ·exact⟨0,p,rfl,rfl,rfl⟩
  ·obtain⟨j,p',h1,h2,h3⟩:=og0 h
   exact⟨j+1,p',by simpa using h1,by simpa using h2,h3⟩
def b70(K:W.Frag):List V->Hp->VK->Prop:=λvs H Q=>∃q1 q2 xs ys,vs=[.ref q1,.ref q2]/\SqL K H q1 xs/\SqL K H q2 ys /\
 ∀(t:Addr) (as:List Addr),as.length=(xs.zip ys).length->as.Nodup->t∉as->H t=none->(∀a∈as,H a=none)->Q (.ref t) (xn0 H ((t,.tup (as.map V.ref))::M9 as (xs.zip ys)))
theorem nh0:∀as:List Addr,Vals (as.map V.ref) (as.map Value.ref)
 | []=>.nil
 | a::as=>.cons rfl (nh0 as)
theorem o00(hc:X.calm=true:=by rfl):k20 X (.type "tuple") (.type "zip") (b70 X.K):=by
 intro pins s σ H vs us Q I r h;obtain⟨q1,q2,xs,ys,rfl,h1,h2,k⟩:=h;cases r with
 | cons r1 r =>
  cases r with
  | cons r2 r =>
   cases r;obtain rfl:=r1;obtain rfl:=r2;obtain⟨us1,v1,p1,z1⟩:=I.list h1;obtain⟨us2,v2,p2,z2⟩:=I.list h2;have l1:=v1.length;have l2:=v2.length;refine ZipL.fb0 (I.ok.hd hc) p1.isList p2.isList (by rw[List.size_toArray,List.size_toArray];omega) λh' tk as t hk hl ha O ht hp gt=>?_
   rw[List.size_toArray,List.size_toArray] at hl;have M:as.length=(xs.zip ys).length:=by rw[List.length_zip,hl];omega
   refine⟨.ref t,_,I.laidL (t':=tk) hk λp J=>?_,rfl,k t as M O (λz=>C7 _ (ha t z).2) (I.hok.fresh ht) λa h=>I.hok.fresh (ha a h).1⟩;rcases A4.mp J with rfl|J
   ·refine⟨ht,_,rfl,?_,as.map Value.ref,nh0 as,⟨_,gt,rfl,_,rfl,rfl⟩⟩
    rw[List.length_map,hl];omega
   ·obtain⟨j,⟨x,y⟩,e1,e2,e3⟩:=og0 J
    obtain⟨u,w,f1,f2,f3⟩:=hp j p.1 e1;have hz:=Af0.mp e2;obtain⟨u',g1,g2⟩:=v1.get hz.1;obtain⟨w',g3,g4⟩:=v2.get hz.2;have eu:u'=u:=by
     have:us1.toArray[j]?=some u':=by simpa using g1
     rw[f1] at this;exact(A8 this).symm
    have ew:w'=w:=by
     have:us2.toArray[j]?=some w':=by simpa using g3
     rw[f2] at this;exact(A8 this).symm
    subst eu;subst ew;exact⟨(ha p.1 (O0 e1)).1,_,e3,(by show 2<=sizeLine;decide),[u',w'],.cons g2 (.cons g4 .nil),⟨_,f3,rfl,_,rfl,rfl⟩⟩
theorem ng0:∀{ds es:List D} {xs ys:List V} {as:List Addr},Rps K H B ds xs->Rps K H B es ys->as.length=(xs.zip ys).length->(∀p∈M9 as (xs.zip ys),H p.1=some p.2/\¬B p.1) ->
  Rps K H B ((ds.zip es).map λp=>D.tup [p.1,p.2]) (as.map V.ref)
 | [],es,xs,ys,as,r1,r2,hl,h=>by
  rw[o6] at r1;subst r1;simp at hl;subst hl;simp[o6]
 | d::ds,[],xs,ys,as,r1,r2,hl,h=>by
  rw[o6] at r2;subst r2;simp at hl;subst hl;simp[o6]
 | d::ds,e::es,xs,ys,as,r1,r2,hl,h=>by
  rw[p8] at r1 r2;obtain⟨x,xs',rfl,a1,a2⟩:=r1;obtain⟨y,J,rfl,b1,b2⟩:=r2;cases as with
  | nil=>simp at hl
  | cons a as =>
   have h0:=h (a,.tup [x,y]) A5;rw[List.zip_cons_cons,List.map_cons,List.map_cons,p8];refine⟨_,_,rfl,?_,ng0 a2 b2 (by simpa using hl) λp hp=>h p (A3 _ hp)⟩;rw[Z4];refine⟨a,[x,y],rfl,⟨h0.2,h0.1⟩,?_⟩;rw[p8];refine⟨_,_,rfl,a1,?_⟩;rw[p8];exact⟨_,_,rfl,b1,by rw[o6]⟩
theorem jc0:∀{as:List Addr} {zs:List (V×V)} {p:Addr×HO},p∈M9 as zs->∃xs,p.2=.tup xs
 | [],_,_,h=>by simp[M9] at h
 | _::_,[],_,h=>by simp[M9] at h
 | a::as,z::zs,p,h=>by
  unfold M9 at h;rcases A4.mp h with rfl|h
  ·exact⟨_,rfl⟩
  ·exact jc0 h
theorem Ye0{t b:Addr}{o:HO}{as:List Addr}{zs:List (V×V)}{ob:Obj}(ho:∀ob xs,o≠.frz ob (.lst xs))(h:xn0 H ((t,o)::M9 as zs) b=some (.frz ob (.lst xs))):H b=some (.frz ob (.lst xs)):=by
 rcases tg0 h with⟨p,hp,_,e⟩|h
 ·rcases A4.mp hp with rfl|hp
  ·exact absurd e (ho _ _)
  ·obtain⟨ys,e'⟩:=jc0 hp
   rw[e] at e';cases e'
 ·exact h
theorem fn0:FnR K (b70 K) qc0:=by
 intro H B xs ds d Q bad r h k;unfold qc0 at h;split at h<;>try cases h
 rename_i ds es;rw[p8] at r;obtain⟨x,r',rfl,r1,r⟩:=r;rw[p8] at r;obtain⟨y,r',rfl,r2,r⟩:=r;rw[o6] at r;subst r;rw[Z8] at r1 r2;obtain⟨q1,us,rfl,s1,t1⟩:=r1;obtain⟨q2,ws,rfl,s2,t2⟩:=r2;refine⟨q1,q2,us,ws,rfl,s1.to,s2.to,λt as hl M ht ft fa=>?_⟩;have J:(((t,HO.tup (as.map V.ref))::M9 as (us.zip ws)).map Prod.fst)=t::as:=by rw[List.map_cons,na0 hl]
 have hN:(((t,HO.tup (as.map V.ref))::M9 as (us.zip ws)).map Prod.fst).Nodup:=by rw[J];exact E3.mpr ⟨ht,M⟩
 have fr:∀p∈((t,HO.tup (as.map V.ref))::M9 as (us.zip ws)),H p.1=none:=λp hp=>by
  have:p.1∈t::as:=by rw[← J];exact L6 hp
  rcases A4.mp this with e|e
  ·rw[e];exact ft
  ·exact fa _ e
 have sm:Same H (xn0 H ((t,HO.tup (as.map V.ref))::M9 as (us.zip ws))):=⟨λb u e=>by
  rw[rk0 λp hp z=>by rw[← z,fr p hp] at e;cases e];exact e,λb ob xs e=>Ye0 (by intro _ _ z;cases z) e⟩
 have nb:∀p∈((t,HO.tup (as.map V.ref))::M9 as (us.zip ws)),¬B p.1:=λp hp z=>bad _ z (fr p hp)
 refine k _ _ sm ?_;rw[Z4];refine⟨t,as.map V.ref,rfl,⟨nb _ A5,rs0 hN _ A5⟩,ng0 (t1.same sm) (t2.same sm) hl λp hp=>⟨rs0 hN p (A3 _ hp),nb p (A3 _ hp)⟩⟩
end DL
namespace L2
open Spec PyProof.Rows
section
variable{s:Shared}
theorem Inv.turnedL(I:Inv X pins σ H s)(hf:∀b∈fp,vm0 X pins H b)(k:∀b o,b∉fp->s.heap.get? b=some o->h'.get? b=some o):Inv X pins σ H { s with heap:=h',toks:=t' }:=by
 have J:∀b u,H b=some u->b∉fp:=λb u e z=>by rw[(hf b z).1] at e;cases e
 refine I.step (g':=s.gens) (d':=s.drawn) (ch:=fp) (λb hb=>⟨(hf b hb).2.2.2.1,(hf b hb).2.1,(hf b hb).2.2.2.2.1,(hf b hb).2.2.2.2.2⟩) (λb o _ _ hc e _=>k b o hc e) (λb o _ _ hc e _=>⟨o.slots,k b o hc e⟩) (λ_ _ _ _ n=>n)
  (λb o hc e=>⟨o,k b o hc e⟩) (λ_ _ e=>e) (λ_ _ _ e=>e) (λb ps e=>⟨#[],by rw[e];simp⟩) (λm hm=>?_) (λb u e=>?_) I.bare
 ·obtain⟨o,es,ep,ho,r⟩:=hm
  exact⟨o,es,ep,k _ o (λz=>(hf _ z).2.1 rfl) ho,r⟩
 ·refine(I.hok b u e).stay (λc v hc q=>k c v ?_ q) (λ_ q=>q) (λ_ _ q=>q) λ_ _ _ q=>q
  rcases hc with z|z
  ·rw[z];exact J b u e
  ·exact J c _ z
theorem Inv.turnedNew{t':Nat}{x:V}{w:Value}(I:Inv X pins σ H s)(hf:∀b∈fp,vm0 X pins H b)(rx:RelV x u)(ry:RelV y w)(hlt:∀b∈fp,b<s.heap.objs.size)
  (hob:h'.get? s.heap.objs.size=some { cls:=.type "tuple",data:=.seq #[u,w] }) (k:∀b o,b∉fp->s.heap.get? b=some o->h'.get? b=some o) :
  Inv X pins σ (upd H s.heap.objs.size (.tup [x,y])) { s with heap:=h',toks:=t' }/\∀b∈fp,upd H s.heap.objs.size (.tup [x,y]) b=none:=by
 have ne:∀b∈fp,b≠s.heap.objs.size:=λb hb=>A9 (hlt b hb)
 have fr:∀b∈fp,upd H s.heap.objs.size (.tup [x,y]) b=none:=λb hb=>by rw[j7 (ne b hb)];exact(hf b hb).1
 have I1:Inv X pins σ (upd H s.heap.objs.size (.tup [x,y])) { s with heap:=s.heap.push { cls:=.type "tuple",data:=.seq #[u,w] },toks:=t' } :=
  I.laid (λb o e=>B0 _ e) (A2 _) ⟨(by show 2<=sizeLine;decide),[u,w],.cons rx (.cons ry .nil),⟨_,C1 _ rfl,rfl,_,rfl,rfl⟩⟩
 refine⟨Inv.turnedL (s:={ s with heap:=s.heap.push { cls:=.type "tuple",data:=.seq #[u,w] },toks:=t' }) (t':=t') (fp:=fp) I1 (λb hb=>⟨fr b hb,(hf b hb).2⟩) λb o hb e=>?_,fr⟩;rcases Heap.get?_push_cases e with⟨rfl,rfl⟩|e
 ·exact hob
 ·exact k b o hb e
end
def Itz(K:W.Frag)(a b:Addr):It :=
 ⟨λi H=>∃xs ys x y,SqL K H a xs/\SqL K H b ys/\xs[i]?=some x/\ys[i]?=some y,
   λi H v H'=>∃t x y,v=.ref t/\H t=none/\H'=upd H t (.tup [x,y])/\(∀xs,SqL K H a xs->xs[i]?=some x)/\∀ys,SqL K H b ys->ys[i]?=some y,
   λi H=>∃xs ys,SqL K H a xs/\SqL K H b ys/\(xs.length<=i∨ys.length<=i)⟩
theorem dw0{P:Program}{w:World}{x1}{TI TO b:Addr}(D:ZipApart z TI TO i1 i2 a b):Turn P w K (.Tuple elts x1 pos) (Itz K a b) [z,TI,TO,i1,i2] z
  (λi h=>IsZip h z TI TO .none/\IsPair h TI (.ref i1) (.ref i2)/\(∃p q,IsPair h TO p q)/\h.IsListIter i1 a i/\h.IsListIter i2 b i) where
 mem:=by simp
 obj:=λi h st c hc=>by
  obtain⟨hz,hTI,⟨p,q,J⟩,⟨o1,e1,c1,d1⟩,⟨o2,e2,c2,d2⟩⟩:=st;simp only[List.mem_cons,List.not_mem_nil,or_false] at hc;rcases hc with rfl|rfl|rfl|rfl|rfl
  ·exact⟨_,hz,λv z=>nomatch z⟩
  ·exact⟨_,hTI,λv z=>nomatch z⟩
  ·exact⟨_,J,λv z=>nomatch z⟩
  ·exact⟨_,e1,λv z=>by rw[d1] at z;cases z⟩
  ·exact⟨_,e2,λv z=>by rw[d2] at z;cases z⟩
 keep:=λi h h' st k=>by
  obtain⟨hz,hTI,⟨p,q,J⟩,h1,h2⟩:=st;exact⟨k z (by simp) _ hz,k TI (by simp) _ hTI,⟨p,q,k TO (by simp) _ J⟩,h1.at λo e=>k i1 (by simp) o e,h2.at λo e=>k i2 (by simp) o e⟩
 item:=by
  intro X hP hw hK hc i pins s σ H E I hf st hg;subst hP hw hK;obtain⟨hz,hTI,⟨p,q,J⟩,h1,h2⟩:=st;obtain⟨xs,ys,x,y,M,O,hx,hy⟩:=hg;obtain⟨us,a7,p1,z1⟩:=I.list M;obtain⟨ws,a0,p2,z2⟩:=I.list O;obtain⟨u,hu,ru⟩:=a7.get hx;obtain⟨w,hw,b0⟩:=a0.get hy;refine wpAny_pyNext_zip_item D hz hTI J h1 h2 p1.isList p2.isList (x:=u) (y:=w) (by simpa using hu) (by simpa using hw) λh' a1 a2 a3 a4 a5 a6 hk=>?_
  refine⟨_,rfl,wpAny_letOwnedTupleGo_zip (s:={ s with heap:=h' }) a1 λb2 b1 hs=>?_⟩;have lt:∀{c o},s.heap.get? c=some o->c<s.heap.objs.size:=λe=>A6 e
  have lz:=lt hz;have b3:=lt J;have c3:=lt hTI;obtain⟨o1,e1,_⟩:=id h1;obtain⟨o2,e2,_⟩:=id h2;have l1:=lt e1;have l2:=lt e2;obtain⟨I1,fr⟩:=I.turnedNew (h':=b2) (t':=s.toks) (fp:=[z,TI,TO,i1,i2]) hf ru b0 (λc hc=>by
   simp only[List.mem_cons,List.not_mem_nil,or_false] at hc;rcases hc with rfl|rfl|rfl|rfl|rfl<;>assumption) (hs.extBut _ _ (C5 lz) a5) (λc o hc e=>by
   simp only[List.mem_cons,List.not_mem_nil,or_false,not_or] at hc;exact hs.extBut _ _ hc.1 (hk c o hc.1 hc.2.2.1 hc.2.2.2.1 hc.2.2.2.2 e))
  exact⟨.ref s.heap.objs.size,_,I1,rfl,⟨_,x,y,rfl,I.hok.fresh (A2 _),rfl,λys Z=>by rw[I.list_inj Z M];exact hx,λc0 Z=>by rw[I.list_inj Z O];exact hy⟩,
   ⟨b1,hs.extBut _ _ D.TIz (hk _ _ D.TIz D.TITO D.TIi1 D.TIi2 hTI),⟨_,_,hs.extBut _ _ D.TOz a2⟩,a3.extBut hs.extBut D.i1z,a4.extBut hs.extBut D.i2z⟩,fr⟩
 done:=by
  intro X hP hw hK hc i pins s σ H E I hf st hg;subst hP hw hK;obtain⟨hz,hTI,⟨p,q,J⟩,h1,h2⟩:=st;obtain⟨xs,ys,M,O,a8⟩:=hg;obtain⟨us,a7,p1,z1⟩:=I.list M;obtain⟨ws,a0,p2,z2⟩:=I.list O;have l1:=a7.length;have l2:=a0.length;refine wpAny_pyNext_zip_end (I.ok.hd hc) D hz hTI J h1 h2 p1.isList p2.isList (a8.imp (λh=>by simp;omega) λh=>by simp;omega) λh' hk=>⟨rfl,I.turnedL (t':=s.toks) (fp:=[z,TI,TO,i1,i2]) hf λc o hc e=>?_⟩
  simp only[List.mem_cons,List.not_mem_nil,or_false,not_or] at hc;exact hk c o hc.1 hc.2.2.1 hc.2.2.2.1 hc.2.2.2.2 e
 self:=λ_ _ _ _ _ st h=>Ae0 st.1 h
def Ite(K:W.Frag)(a:Addr):It :=
 ⟨λi H=>∃xs x,SqL K H a xs/\xs[i]?=some x,
   λi H v H'=>∃t x,v=.ref t/\H t=none/\H'=upd H t (.tup [.int (i:Int),x])/\∀xs,SqL K H a xs->xs[i]?=some x,
   λi H=>∃xs,SqL K H a xs/\xs.length<=i⟩
theorem fh0{P:Program}{w:World}{x1}{e:Addr}(hei:e≠it):Turn P w K (.Tuple elts x1 pos) (Ite K a) [e,it] e
  (λi h=>(∃old,IsEnum h e it i old)/\h.IsListIter it a i) where
 mem:=by simp
 obj:=λi h st c hc=>by
  obtain⟨⟨old,he⟩,⟨o1,e1,c1,d1⟩⟩:=st;simp only[List.mem_cons,List.not_mem_nil,or_false] at hc;rcases hc with rfl|rfl
  ·exact⟨_,he,λv z=>nomatch z⟩
  ·exact⟨_,e1,λv z=>by rw[d1] at z;cases z⟩
 keep:=λi h h' st k=>by
  obtain⟨⟨old,he⟩,h1⟩:=st;exact⟨⟨old,k e (by simp) _ he⟩,h1.at λo x=>k it (by simp) o x⟩
 item:=by
  intro X hP hw hK hc i pins s σ H E I hf st hg;subst hP hw hK;obtain⟨⟨old,he⟩,h1⟩:=st;obtain⟨xs,x,hq,hx⟩:=hg;obtain⟨us,rv,p1,z1⟩:=I.list hq;obtain⟨u,hu,ru⟩:=rv.get hx;refine wpAny_pyNext_enum_item he h1 p1.isList (x:=u) (by simpa using hu) hei λh' a1 a2 a3 a4 hk=>?_
  refine⟨_,rfl,wpAny_letOwnedTupleGo_enum (s:={ s with heap:=h',toks:=s.toks+1 }) a1 λJ b1 hs=>?_⟩;have le:=A6 he;obtain⟨o1,e1,_⟩:=id h1;have l1:=A6 e1;obtain⟨I1,fr⟩:=I.turnedNew (h':=J) (t':=s.toks+1) (fp:=[e,it]) (x:=.int (i:Int)) (u:=.int i s.toks) hf ⟨_,rfl⟩ ru (λc hc=>by
   simp only[List.mem_cons,List.not_mem_nil,or_false] at hc;rcases hc with rfl|rfl<;>assumption) ((hs.2 _ (C5 le)).trans a3) (λc o hc x=>by
   simp only[List.mem_cons,List.not_mem_nil,or_false,not_or] at hc;exact(hs.2 _ hc.1).trans (hk c o hc.1 hc.2 x))
  exact⟨.ref s.heap.objs.size,_,I1,rfl,⟨_,x,rfl,I.hok.fresh (A2 _),rfl,λys hy=>by rw[I.list_inj hy hq];exact hx⟩,⟨⟨_,by simpa using b1⟩,a2.at λo y=>(hs.2 it hei.symm).trans y⟩,fr⟩
 done:=by
  intro X hP hw hK hc i pins s σ H E I hf st hg;subst hP hw hK;obtain⟨⟨old,he⟩,h1⟩:=st;obtain⟨xs,hq,M⟩:=hg;obtain⟨us,rv,p1,z1⟩:=I.list hq;have l1:=rv.length;refine wpAny_pyNext_enum_end (I.ok.hd hc) he h1 p1.isList (by simp;omega) λh' hk=>⟨rfl,I.turnedL (t':=s.toks) (fp:=[e,it]) hf λc o hc x=>?_⟩
  simp only[List.mem_cons,List.not_mem_nil,or_false,not_or] at hc;exact hk c o hc.2 x
 self:=λ_ _ _ _ _ st h=>by
  obtain⟨⟨old,he⟩,_⟩:=st;exact wpAny_pyIter_enum he h
def Tx0(K:W.Frag)(ta:TA):TI:=fun σ H R=>ta σ H λvs H1=>∃a b,vs=[.ref a,.ref b]/\(∃xs,SqL K H1 a xs)/\(∃ys,SqL K H1 b ys)/\R (Itz K a b) H1
theorem boot_zip:bootBuiltins "zip"=some (.type "zip"):=by decide +kernel
theorem fo0:bootBuiltins "enumerate"=some (.type "enumerate"):=by decide +kernel
theorem X20{a:Expr}{ta:TA}{p pos:Pos}(hg:Gl X "zip")(hm:X.mg "zip"=none)(ha:PA X [a,b] ta)(hs:starEach [a,b] X.env=[(false,eval a X.env),(false,eval b X.env)]:=by rfl)(hs2:starEach [b] X.env=[(false,eval b X.env)]:=by rfl) :
  PI X (.Tuple elts x1 tpos) (.Call (.Name "zip" p) [a,b] [] pos) (Tx0 X.K ta):=by
 intro pins s σ H R I h;refine Call_ (zf0 I hg hm boot_zip (E2 (thn (ha pos pins s σ H _ I h) λus s1 ⟨vs,H1,I1,r1,q1⟩=>?_) (by rw[hs,hs2]) (by rw[hs2];rfl)));obtain⟨qa,qb,e,⟨xs,h1⟩,⟨ys,h2⟩,q⟩:=q1;subst e;cases r1 with
 | cons r rr =>
  cases rr with
  | cons r' rr =>
   cases rr;obtain rfl:=r;obtain rfl:=r';obtain⟨us1,v1,p1,z1⟩:=I1.list h1;obtain⟨us2,v2,p2,z2⟩:=I1.list h2;have a1:qa<s1.heap.objs.size:=by obtain⟨_,e,_⟩:=p1.isList;exact A6 e
   have a2:qb<s1.heap.objs.size:=by obtain⟨_,e,_⟩:=p2.isList;exact A6 e
   refine call_zip_2 p1.isList p2.isList λh' hz hTI O J M Z hk=>?_
   refine Ae0 (s:={ s1 with heap:=h' }) hz ?_;refine⟨_,_,_,_,H1,rfl,I1.kept (t':=s1.toks) hk,dw0 (zipApart_new a1 a2),⟨hz,hTI,⟨_,_,O⟩,J,M⟩,λb hb=>?_,q⟩;simp only[List.mem_cons,List.not_mem_nil,or_false] at hb;rcases hb with rfl|rfl|rfl|rfl|rfl
   ·exact I1.fpOk (C9 _ 4) (I1.hok.fresh (C9 _ 4))
   ·exact I1.fpOk (C9 _ 2) (I1.hok.fresh (C9 _ 2))
   ·exact I1.fpOk (C9 _ 3) (I1.hok.fresh (C9 _ 3))
   ·exact I1.fpOk (A2 _) (I1.hok.fresh (A2 _))
   ·exact I1.fpOk (C9 _ 1) (I1.hok.fresh (C9 _ 1))
def Vh0(K:W.Frag)(ta:TA):TI:=fun σ H R=>ta σ H λvs H1=>∃a,vs=[.ref a]/\(∃xs,SqL K H1 a xs)/\R (Ite K a) H1
theorem bv0{a:Expr}{ta:TA}{p pos:Pos}(hg:Gl X "enumerate")(hm:X.mg "enumerate"=none)(ha:PA X [a] ta)(hs:starEach [a] X.env=[(false,eval a X.env)]:=by rfl) :
  PI X (.Tuple elts x1 tpos) (.Call (.Name "enumerate" p) [a] [] pos) (Vh0 X.K ta):=by
 intro pins s σ H R I h;refine Call_ (zf0 I hg hm fo0 (E2 (thn (ha pos pins s σ H _ I h) λus s1 ⟨vs,H1,I1,r1,q1⟩=>?_) hs rfl));obtain⟨qa,e,⟨xs,h1⟩,q⟩:=q1;subst e;cases r1 with
 | cons r rr =>
  cases rr;obtain rfl:=r;obtain⟨us1,v1,p1,z1⟩:=I1.list h1;refine call_enumerate_list p1.isList λh' hz J M hk=>?_
  refine wpAny_pyIter_enum (s:={ s1 with heap:=h' }) hz ?_;refine⟨_,_,_,_,H1,rfl,I1.kept (t':=s1.toks) hk,fh0 (C5 (Aa0 _)),⟨⟨_,hz⟩,J⟩,λb hb=>?_,q⟩;simp only[List.mem_cons,List.not_mem_nil,or_false] at hb;rcases hb with rfl|rfl
  ·exact I1.fpOk (C9 _ 1) (I1.hok.fresh (C9 _ 1))
  ·exact I1.fpOk (A2 _) (I1.hok.fresh (A2 _))
end L2
namespace DL
open Spec PyProof.Rows L2
section
variable{a:Expr}
theorem j20{t:Addr}{x:V}{d e:D}(hn:¬B t)(ht:H t=some (.tup [x,y]))(r1:Rp K H B d x)(r2:Rp K H B e y):Rp K H B (.tup [d,e]) (.ref t):=by
 rw[Z4];refine⟨t,[x,y],rfl,⟨hn,ht⟩,?_⟩;rw[p8];refine⟨_,_,rfl,r1,?_⟩;rw[p8];exact⟨_,_,rfl,r2,by rw[o6]⟩
theorem Zx0(hm:X.mg "zip"=none)(ha:PDA X [a,b] gA)(hg:Gl X "zip" := by rfl)(hs:starEach [a,b] X.env=[(false,eval a X.env),(false,eval b X.env)]:=by rfl)(hs2:starEach [b] X.env=[(false,eval b X.env)]:=by rfl) :
  PID X (.Tuple elts x1 tpos) (.Call (.Name "zip" p) [a,b] [] pos) (iu0 gA):=.mk λB δ=>L2.PI.imp (X20 hg hm (ha B δ) hs hs2) fun σ H R ⟨items,en,e1,k⟩=>by
 unfold iu0 at e1;cases e2:gA δ with
 | none=>rw[e2] at e1;cases e1
 | some ds =>
  rw[e2] at e1;simp only[Option.bind_some] at e1;unfold m70 at e1;split at e1<;>try cases e1
  rename_i ds es;refine⟨_,en,e2,λvs H' s' r=>?_⟩;rw[p8] at r;obtain⟨x,t,rfl,r1,r⟩:=r;rw[p8] at r;obtain⟨y,t,rfl,r2,r⟩:=r;rw[o6] at r;subst r;rw[Z8] at r1 r2;obtain⟨q1,us,rfl,s1,t1⟩:=r1;obtain⟨q2,ws,rfl,s2,t2⟩:=r2;have J:((ds.zip es).map λp=>D.tup [p.1,p.2]).length=min us.length ws.length:=by rw[List.length_map,List.length_zip,t1.length,t2.length]
  refine⟨q1,q2,rfl,⟨us,s1.to⟩,⟨ws,s2.to⟩,k _ H' s' ⟨λi H2 g2 hi=>?_,λi H2 v H3 g2 y hi=>?_,λi H2 g2 hi=>?_⟩⟩
  ·rw[J] at hi
   have h1:i<us.length:=by omega
   have h2:i<ws.length:=by omega
   exact⟨us,ws,us[i],ws[i],(s1.mono g2).to,(s2.mono g2).to,by simp[h1],by simp[h2]⟩
  ·obtain⟨t,x,y,rfl,ht,rfl,hx,hy⟩:=y
   rw[List.length_map,List.length_zip] at hi;have h1:i<ds.length:=by omega
   have h2:i<es.length:=by omega
   obtain⟨x',e4,rx⟩:=t1.get (i:=i) (C8 h1);obtain⟨y',e5,ry⟩:=t2.get (i:=i) (C8 h2);have ex:=hx us (s1.mono g2).to;have ey:=hy ws (s2.mono g2).to;rw[e4] at ex;rw[e5] at ey;cases ex;cases ey;refine⟨b7 ht,.tup [ds[i],es[i]],by rw[List.getElem?_map,show (ds.zip es)[i]?=some (ds[i],es[i]) from Af0.mpr ⟨C8 h1,C8 h2⟩];rfl,λB' gB hb=>?_⟩;exact j20 (λz=>hb t z ht) m8 (rx.mono gB) (ry.mono gB)
  ·rw[J] at hi
   exact⟨us,ws,(s1.mono g2).to,(s2.mono g2).to,by omega⟩
theorem df0(hm:X.mg "enumerate"=none)(ha:PDA X [a] gA)(hg:Gl X "enumerate" := by rfl)(hs:starEach [a] X.env=[(false,eval a X.env)]:=by rfl) :
  PID X (.Tuple elts x1 tpos) (.Call (.Name "enumerate" p) [a] [] pos) (qt0 gA):=.mk λB δ=>L2.PI.imp (bv0 hg hm (ha B δ) hs) fun σ H R ⟨items,en,e1,k⟩=>by
 unfold qt0 at e1;cases e2:gA δ with
 | none=>rw[e2] at e1;cases e1
 | some ds =>
  rw[e2] at e1;simp only[Option.bind_some] at e1;unfold gs0 at e1;split at e1<;>try cases e1
  rename_i ds;refine⟨_,en,e2,λvs H' s' r=>?_⟩;rw[p8] at r;obtain⟨x,t,rfl,r1,r⟩:=r;rw[o6] at r;subst r;rw[Z8] at r1;obtain⟨q1,us,rfl,s1,t1⟩:=r1;have J:(yv0 ds).length=us.length:=by unfold yv0;simp[t1.length]
  refine⟨q1,rfl,⟨us,s1.to⟩,k _ H' s' ⟨λi H2 g2 hi=>?_,λi H2 v H3 g2 y hi=>?_,λi H2 g2 hi=>?_⟩⟩
  ·rw[J] at hi
   exact⟨us,us[i],(s1.mono g2).to,by simp[hi]⟩
  ·obtain⟨t,x,rfl,ht,rfl,hx⟩:=y
   rw[J,t1.length] at hi;obtain⟨x',e4,rx⟩:=t1.get (i:=i) (C8 hi);have ex:=hx us (s1.mono g2).to;rw[e4] at ex;cases ex;refine⟨b7 ht,.tup [.int (i:Int),ds[i]],by unfold yv0;simp[hi],λB' gB hb=>?_⟩;exact j20 (λz=>hb t z ht) m8 (by rw[o9]) (rx.mono gB)
  ·rw[J] at hi
   exact⟨us,(s1.mono g2).to,hi⟩
end
mutual
theorem jw0(hB:∀a,B a->B' a∨∀ys,H a≠some (.tup ys)):∀(d:D) (v:V),tree d=true->Rp K H B' d v->Rp K H B d v
 | .non,v,_,r=>by rw[X5] at r ⊢;exact r
 | .bl _,v,_,r=>by rw[Y5] at r ⊢;exact r
 | .int _,v,_,r=>by rw[o9] at r ⊢;exact r
 | .str _,v,_,r=>by rw[c7] at r ⊢;exact r
 | .lst _,v,h,_=>by unfold tree at h;cases h
 | .dct _ _,v,h,_=>by unfold tree at h;cases h
 | .fn _ _,v,h,_=>by unfold tree at h;cases h
 | .tup ds,v,h,r=>by
  unfold tree at h;rw[Z4] at r ⊢;obtain⟨a,xs,rfl,q,rs⟩:=r;refine⟨a,xs,rfl,?_,mp0 hB ds xs h rs⟩;obtain⟨n,q⟩:=q;refine⟨λz=>?_,q⟩;exact(hB a z).elim n λz=>z _ q
theorem mp0(hB:∀a,B a->B' a∨∀ys,H a≠some (.tup ys)):∀(ds:List D) (vs:List V),trees ds=true->Rps K H B' ds vs->Rps K H B ds vs
 | [],vs,_,r=>by rw[o6] at r ⊢;exact r
 | d::ds,vs,h,r=>by
  unfold trees at h;rw[Bool.and_eq_true] at h;rw[p8] at r ⊢;obtain⟨x,t,rfl,r1,r2⟩:=r;exact⟨x,t,rfl,jw0 hB d x h.1 r1,mp0 hB ds t h.2 r2⟩
end
theorem ad0{g:GE}(h:PD X e g):PD X e (ri0 g):=.mk λB δ pins s σ H Q I ⟨d,en,hq,k⟩=>by
 obtain⟨B',c1,c2,J⟩:=en.frz;unfold ri0 at hq;cases e1:g (frz δ) with
 | none=>rw[e1] at hq;cases hq
 | some x =>
  rw[e1] at hq
  by_cases hf:tree x=true
  ·simp only[Option.bind_some,if_pos hf] at hq
   cases hq;refine h B' (frz δ) pins s σ H Q I ⟨_,J,e1,λv H' s' r=>k v H' s' (jw0 (λa z=>?_) _ _ hf r)⟩;rcases c2 a z with q|⟨i,d',h1,h2⟩
   ·exact .inl q
   ·obtain⟨o,h3,a',e4,_,ro⟩:=Pd.get en.all h1
    rw[h2] at h3;cases h3;cases e4;exact .inr λys z=>(ro.live.same s').nt ys z
  ·simp only[Option.bind_some,if_neg hf] at hq
   cases hq
def Z80:List V->Hp->VK->Prop:=λvs H Q=>∃a kvs,vs=[.ref a]/\H a=some (.dK kvs)/\∀l,H l=none->Q (.ref l) (upd H l (.dK kvs))
theorem mm0:CallR X (.type "dict") Z80:=by
 intro pins s σ H vs us Q I r h;obtain⟨a,kvs,rfl,ha,k⟩:=h;cases r with
 | cons r rr =>
  cases rr;obtain rfl:=r;obtain⟨hz,hS,ws,rv,m⟩:kvs.length<=sizeLine/\(a==sysModules)=false/\∃vs,KV kvs vs/\s.heap.DictOf (Y9 X.prog X.w) a vs:=I.hok a _ ha;have hl:kvs.length=ws.length:=S0 rv;have hb:sysModules<s.heap.objs.size:=E4 (by decide) ((I.mod.glob.keeps I.bk).lt:mainGlobals<s.heap.objs.size);refine kt_call_dict hS m (by rw[← hl];exact hz) λh' hd hs=>?_
  have hf:H s.heap.objs.size=none:=I.hok.fresh (A2 _);refine⟨.ref s.heap.objs.size,_,I.laid (a:=s.heap.objs.size) (o:=.dK kvs) (t':=s.toks) (λb o q=>(hs.2 b (A9 (A6 q))).trans (B0 _ q)) (A2 _)
   ⟨hz,N4.mpr (B6 (A9 hb)),ws,rv,hd⟩,rfl,k _ hf⟩
theorem he0(hm:X.mg "dict"=none)(hv:bootBuiltins "dict"=some (.type "dict"))(ha:PD X e g)(hg:Gl X "dict" := by rfl)
  (he:starEach [e] X.env=(false,eval e X.env)::starEach [] X.env:=by rfl) (hpl:(backTo pos (starEach [] X.env)).any (·.1)=false:=by rfl) :
  PDF X (.Call (.Name "dict" p) [e] [] pos) (oA (z8 g v6) u40):=.mk λB δ=>(s20 mm0 hg hm hv (K3 (ha B δ) yx0 he) (by decide) (by decide) he hpl).imp fun σ H Q ⟨d,en,h,k⟩=>by
 unfold oA z8 v6 at h;cases e1:g δ with
 | none=>rw[e1] at h;cases h
 | some x =>
  rw[e1] at h;simp only[Option.bind_some,Option.map_some] at h;refine⟨x,en,e1,λv H1 s1 r1=>?_⟩;cases x<;>try (simp only[u40] at h;cases h;done)
  rename_i ks ds;cases ks with
  | inr ks=>simp only[u40] at h;cases h
  | inl ks =>
  simp only[u40] at h;cases h;rw[ul0] at r1;obtain⟨q,xs,rfl,nq,hq,hl,rr⟩:=r1;exact⟨q,_,rfl,hq,λl J=>k l _ (s1.free J) (s1.trans (b7 J)) ⟨xs,m8,hl,rr.mono (Gr.fresh J)⟩⟩
end DL
namespace DL
open Spec PyProof.Rows L2
@[simp] def ph0:D->D->Option D
 | .int n,.str x=>if -(2 ^ 62)<=n/\n<2 ^ 62/\x.length*n.toNat<=sizeLine then some (.str (if0 x n)) else none
 | _,_=>none
section
variable{a:Expr}{ga gc:Ds->Option D}
open Builtin Builtin.Str Builtin.Int in
theorem h40{prog:Program}{w:World}{A:Around}{E:Value->Shared->Prop}{s:Shared}{x:Str}{n:Int}{t u:Tok}{Q:Value->Shared->Prop}(hr:(decide (n < -(2 ^ 63:Int))||decide (n ≥ 2 ^ 63))=false)
  (hb:¬n<1->(n==1||x.length==0)=false->¬((x.length:Int) > (2 ^ 63 - 1)/n)) (hl:¬n<1->(n==1||x.length==0)=false->tooLong (x.length*n.toNat)=false)
  (h:(if n<1 then Made.str Str.empty else if (n==1||x.length==0)=true then Made.val (.str x t) else Made.str ⟨(List.replicate n.toNat x.cps).foldl (·++·) #[]⟩).post Q s) :
  wpAny (model prog w) A (binaryOp .Mult (.int n u) (.str x t)) Q E s :=
 PySem.lm_binaryOp_repeat_right (T := "str") (U := "int") (by decide) (λs'=>N1 s' n u) (P2 s x t) PySem.F.fills_int_mul PySem.noFill_str_mul Cu0 PySem.lm_noRepeat_int PySem.repeat_str PySem.F.slot_int_index.lookup
  (call_gives Cu0 (N1 s n u) PySem.F.entry_int_mul (PySem.F.args_int_mul_2 _ _) (PySem.AutoIntG3.int___mul___int_str_0 n u x t)
   ⟨rfl,P2 _ x t,call_gives PySem.F.slot_str_mul (P2 s x t) PySem.F.entry_str_mul (PySem.F.args_str_mul_2 _ _) (gives_str_mul x n t u hr hb hl) h⟩)
def b00:R2:=λx y H Q=>∃z n,y=.str z/\x=.int n/\-(2 ^ 62)<=n/\n<2 ^ 62/\z.length*n.toNat<=sizeLine/\Q (.str (xa0 z n)) H
theorem Zb0:OpR X (binaryOp .Mult) b00:=by
 intro pins s σ H x y v u Q I rx ry h;obtain⟨z,n,rfl,rfl,h1,h2,hz,q⟩:=h;obtain⟨t,rfl⟩:=ry;obtain⟨t',rfl⟩:=rx;have O:∀M k,EP X pins σ Q (.str (xa0 z n) M) { s with toks:=k }:=λM k=>⟨.str _,H,I.tok k,⟨M,rfl⟩,q⟩
 have a2:(sizeLine:Nat)<2 ^ 40:=by decide
 have a0:¬n<1->¬((z.length:Int) > (2 ^ 63 - 1)/n):=by
  intro hn;have a1:0<n:=by omega
  have:(z.length:Int)*n<=2 ^ 63 - 1:=by
   have e:n=(n.toNat:Int):=by omega
   rw[e];have:((z.length*n.toNat:Nat):Int)<=2 ^ 40:=by exact_mod_cast (by omega:z.length*n.toNat<=2 ^ 40)
   rw[Int.natCast_mul] at this;omega
  exact Int.not_lt.mpr ((Bx0 a1).mpr this)
 refine h40 (by rw[decide_eq_false (by omega),decide_eq_false (by omega)];rfl) (λhn _=>a0 hn) (λ_ _=>?_) ?_
 ·show decide (z.length*n.toNat > sizeLine)=false
  exact L8 (by omega)
 ·by_cases hn:n<1
  ·rw[if_pos hn]
   have e:xa0 z n=Str.empty:=by
    unfold xa0;rw[show n.toNat=0 by omega];rfl
   refine⟨by decide,?_⟩;rw[← e];exact O _ _
  ·rw[if_neg hn]
   by_cases h3:(n==1||z.length==0)=true
   ·rw[if_pos h3]
    have e:xa0 z n=z:=by
     rw[Bool.or_eq_true] at h3;rcases h3 with h3|h3
     ·have:n=1:=N0 h3
      subst this;unfold xa0;show (⟨#[]++z.cps⟩:Str)=z;rw[Array.empty_append]
     ·have h3:z.length=0:=N0 h3
      have Z:z.cps=#[]:=By0 h3;have:∀k:Nat,(List.replicate k (#[]:Array Nat)).foldl (·++·) #[]=#[]:=by
       intro k
       induction k with
       | zero=>rfl
       | succ k ih=>rw[List.replicate_succ,List.foldl_cons];exact ih
      unfold xa0;rw[Z,this];cases z;simp at Z;rw[Z]
    have:=O t s.toks;rw[e] at this;exact this
   ·rw[if_neg h3]
    have hl2:∀(k:Nat) (J:Array Nat),((List.replicate k z.cps).foldl (·++·) J).size=J.size+k*z.cps.size:=by
     intro k
     induction k with
     | zero=>intro J;simp
     | succ k ih=>intro J;rw[List.replicate_succ,List.foldl_cons,ih,Array.size_append,Nat.succ_mul];omega
    refine⟨?_,O _ _⟩;show ((List.replicate n.toNat z.cps).foldl (·++·) #[]).size<=_;rw[hl2];have:z.length=z.cps.size:=rfl;rw[this,Nat.mul_comm] at hz
    simpa using hz
theorem du0:Op2 K b00 ph0:=by
 intro H B x y dx dy d Q hb rx ry h k;cases dx<;>cases dy<;>simp only[ph0] at h<;>try cases h
 split at h
 ·rename_i hz
  cases h;rw[c7] at ry;rw[o9] at rx;subst rx ry;exact⟨_,_,rfl,rfl,hz.1,hz.2.1,hz.2.2,k _ H (Same.refl H) (by rw[c7];rfl)⟩
 ·cases h
theorem a80(ha:PD X a ga)(hb:PD X b gb):PD X (.BinOp a .Mult b pos) (o2 ga gb ph0):=us0 Zb0 du0 ha hb
end
end DL
namespace L2
open Spec PyProof.Rows
section
variable{A:Around}
theorem f60{s:Shared}{d b:Addr}{k:List Key}{v:V}{r:Value}{Q:Unit->Shared->Prop}(hu:A.units<cLine)(I:Inv X pins σ H s)(e:H d=some (.dT kvs))(eb:H b=some (.tup (k.map kV)))(l:kvs.length<sizeLine)(rv:RelV v r)
  (h:∀h' tk,Inv X pins σ (upd H d (.dT (putK kvs k v))) { s with heap:=h',toks:=tk }->Q () { s with heap:=h',toks:=tk }) :
  wpAny (model X.prog X.w) A (dictSet d (.ref b) r) Q E s:=by
 obtain⟨z,hd,xs,rel,dd⟩:=lh0 I.hok (.inl e);have hz:xs.length<=sizeLine:=by rw[← Paired.length rel];exact z
 have hl:(putK kvs k v).length<=sizeLine:=by have:=xv0 kvs k v;omega
 refine Dep.put (knd:=tupleKind (Y9 X.prog X.w)) (show A.units<cLine from hu) (tf0 I.hok eb) dd (λh' J hs=>h _ _ ?_) hz;obtain⟨q,es,ep,hq,h2,h3,h4,_,h5⟩:=J;refine vt0 I (by rw[e];exact True.intro) hs ⟨q,hq⟩ ⟨hl,hd,_,(rel.put k eb rv).keeps λc ys ec=>?_,q,es,ep,hq,h2,h3,h4,h5⟩;rw[j7 (ik0 ec e (λz=>nomatch z))];exact ec
end
end L2
namespace DL
open Spec PyProof.Rows L2
def q80(gk gv:GE):GE:=fun δ=>(gk δ).bind λa=>(y50 a).bind λk=>(gv δ).map λb=>.dct (.inr [k]) [b]
section
variable{σ:St}
theorem eg0{p:Addr}{o0 o:HO}(hp:H p=none)(sm:Same (upd H p o0) H2)(hz:∀ob xs,o≠.frz ob (.lst xs):=by intro _ _ z;cases z):Same H (upd H2 p o):=by
 refine⟨λc u e=>?_,λb ob xs e=>?_⟩
 ·have hc:c≠p:=T4 e hp
  rw[j7 hc];exact sm c u (by rw[j7 hc];exact e)
 ·by_cases z:b=p
  ·subst z
   rw[m8] at e;exact absurd (A8 e) (hz ob xs)
  ·rw[j7 z] at e
   have:=sm.nf b ob xs e
   rwa [j7 z] at this
theorem Env.fresh{p:Addr}{o:HO}(e:Env K H B σ δ)(hp:H p=none)(no:∀ob u,o≠.frz ob u:=by exact λ_ _ z=>nomatch z)(nt:∀xs,o≠.tup xs:=by exact λ_ z=>nomatch z):Env K (upd H p o) (λa=>B a∨a=p) σ δ:=by
 refine⟨Pd.imp (λv s h=>?_) e.all,λa z=>?_,e.own⟩
 ·cases s with
  | un=>trivial
  | ex c n=>obtain⟨u,q,r⟩:=h;exact⟨u,q,r.mono (Gr.fresh hp)⟩
  | sh d=>obtain⟨u,q,r⟩:=h;exact⟨u,q,r.mono (Gr.fresh hp)⟩
  | ow d =>
   obtain⟨a,q,hb,r⟩:=h;exact⟨a,q,.inl hb,r.mono (λo ho=>by rw[j7 (T4 ho hp)];exact ho) (Gr.fresh hp)⟩
 ·rcases z with z|z
  ·have:=e.bad a z
   by_cases q:a=p
   ·rw[q,m8];exact .of rfl no nt
   ·rw[j7 q];exact this
  ·rw[z,m8];exact .of rfl no nt
end
section
variable{ke ve:Expr}{gk gv:Ds->Option D}
theorem e80(hu:X.A.units<cLine)(hk:PD X ke gk)(hv:PD X ve gv):PDF X (.Dict [some ke] [ve] pos) (q80 gk gv):=.mk λB δ pins s σ H Q I ⟨d,en,h,k⟩=>by
 unfold q80 at h;cases e1:gk δ with
 | none=>rw[e1] at h;cases h
 | some a =>
  rw[e1] at h;simp only[Option.bind_some] at h;cases e2:y50 a with
  | none=>rw[e2] at h;cases h
  | some key =>
   rw[e2] at h;simp only[Option.bind_some] at h;cases e3:gv δ with
   | none=>rw[e3] at h;cases h
   | some b =>
    rw[e3] at h;cases h;have hb:sysModules<s.heap.objs.size:=E4 (by decide) ((I.mod.glob.keeps I.bk).lt:mainGlobals<s.heap.objs.size);have hp:H s.heap.objs.size=none:=I.hok.fresh (A2 _);have I1:Inv X pins σ (upd H s.heap.objs.size (.dT [])) { s with heap:=s.heap.push { cls:=.type "dict",data:=.dict #[] } }:=I.laid (a:=s.heap.objs.size) (o:=.dT []) (t':=s.toks) (λ_ _ q=>B0 _ q) (A2 _) (c80 s.heap hb);have J:Env X.K (upd H s.heap.objs.size (.dT [])) (λa=>B a∨a=s.heap.objs.size) σ δ:=en.fresh hp;have pp:=ex0 (pos:=pos) (hk (λa=>B a∨a=s.heap.objs.size) δ) (hv (λa=>B a∨a=s.heap.objs.size) δ) (bx0 (X:=X) (pos:=pos));rw[arm_eval_Dict,zip_pairTrees [some ke] [ve] X.env pos rfl rfl,dictDisplay_pairs (pairTrees [some ke] [ve] X.env pos) (λz=>by have hn:=pairTrees_length [some ke] [ve] X.env pos rfl rfl;rw[z] at hn;cases hn) (by rw[pairTrees_length [some ke] [ve] X.env pos rfl rfl];simp)];refine A0 (i6 (A0 ?_));unfold subDict;refine A0 (wpAny_alloc ?_);refine A0 (B9 ?_);rw[if_pos (by rw[pairTrees_length [some ke] [ve] X.env pos rfl rfl];simp)];refine A0 (thn (pp pins _ σ _ (λps H2=>∃v1 v2,ps=[(v1,v2)]/\Rp X.K H2 (λa=>B a∨a=s.heap.objs.size) a v1/\Rp X.K H2 (λa=>B a∨a=s.heap.objs.size) b v2/\Same (upd H s.heap.objs.size (.dT [])) H2) I1
     ⟨a,J,e1,λv1 H1 s1 r1=>⟨b,J.same s1,e3,λv2 H2 s2 r2=>⟨v1,v2,rfl,r1.same s2,r2,s1.trans s2⟩⟩⟩) λvs s2 ⟨ps,H2,I2,rel,v1,v2,a0,r1,r2,sm⟩=>?_)
    subst a0;cases rel with
    | @cons _ q _ _ rh rt =>
     cases rt;obtain⟨q1,q2⟩:=q;obtain⟨kb,rfl,O⟩:=qm0 e2 r1;obtain⟨M,Z⟩:=rh;cases (show q1=Value.ref kb from M);refine B9 ?_;refine A0 ?_;simp only[List.forIn_cons,List.forIn_nil];refine A0 (A0 (f60 hu I2 (sm _ _ m8) O (by decide) Z λh' tk I3=>A1 ?_));refine A1 (A1 (A1 (A1 ⟨.ref s.heap.objs.size,_,I3,rfl,?_⟩)));refine k s.heap.objs.size _ hp (eg0 hp sm) ⟨[v2],m8,rfl,?_⟩
     ·have:=r2.mono (Gr.own (H:=H2) (B:=λa=>B a∨a=s.heap.objs.size) (a:=s.heap.objs.size) (o:=.dT (putK [] key v2)) (.inr rfl))
      rw[p8];exact⟨v2,[],rfl,this,by rw[o6]⟩
end
def flats(ds:List D):Bool:=ds.all flat
def ml0(g:GE):GE:=fun δ=>(g (frz δ)).bind λd=>match d with
 | .lst ds=>if flats ds=true then some (.lst ds) else none
 | _=>none
theorem am0{g:GE}(h:g (frz δ)=some (.lst ds))(hf:flats ds=true):ml0 g δ=some (.lst ds):=by
 unfold ml0;rw[h,Option.bind_some];simp only[];rw[if_pos hf]
section
variable{g:GE}
theorem nf0:∀{ds:List D} {xs:List V},flats ds=true->Rps K H B ds xs->Rps K H' B' ds xs
 | [],xs,_,r=>by rw[o6] at r ⊢;exact r
 | d::ds,xs,h,r=>by
  rw[p8] at r ⊢;obtain⟨x,r',e1,r1,r2⟩:=r;unfold flats at h;rw[List.all_cons,Bool.and_eq_true] at h;exact⟨x,r',e1,jd0 h.1 r1,nf0 (ds:=ds) h.2 r2⟩
theorem cd0(h:PDF X e g):PDF X e (ml0 g):=.mk λB δ pins s σ H Q I ⟨d,en,hq,k⟩=>by
 obtain⟨B',c1,c2,J⟩:=en.frz;unfold ml0 at hq;cases e1:g (frz δ) with
 | none=>rw[e1] at hq;cases hq
 | some x =>
  rw[e1,Option.bind_some] at hq;cases x with
  | lst ds =>
   simp only[] at hq
   by_cases hf:flats ds=true
   ·rw[if_pos hf] at hq
    cases hq;exact h B' (frz δ) pins s σ H Q I ⟨_,J,e1,λp H' hp s' r=>k p H' hp s' (by
     obtain⟨xs,e5,r5⟩:=r;exact⟨xs,e5,nf0 hf r5⟩)⟩
   ·rw[if_neg hf] at hq;cases hq
  | non=>cases hq
  | bl _=>cases hq
  | int _=>cases hq
  | str _=>cases hq
  | tup _=>cases hq
  | dct _ _=>cases hq
  | fn _ _=>cases hq
end
end DL
namespace L2
open Spec PyProof.Rows PySem.W
def Tq0(td ty tx:TE):TE:=fun σ H Q=>td σ H λx H1=>∃a,x=.ref a/\IsD H1 a/\ty σ H1 λy H2=>tx σ H2 λz H3=>∃kvs k,H3 a=some (.dK kvs)/\y=kV k/\kvs.length<sizeLine /\
 (∀v,S5 kvs k=some v->Q v H3)/\(S5 kvs k=none->Q z (upd H3 a (.dK (putK kvs k z))))
section
variable{f:Expr}{td ty:TE}
theorem Vu0{σ:St}{s:Shared}{kvs:List (Key×V)}{k:Key}{v:V}{r:Value}{A:Around}{E:Value->Shared->Prop}{Q:Value->Shared->Prop}(I:Inv X pins σ H s)(e:H a=some (.dK kvs))(ry:RelV (kV k) u)(rv:RelV v r)(l:kvs.length<sizeLine)
  (h1:∀x,S5 kvs k=some x->∀w' s',Inv X pins σ H s'->RelV x w'->Q w' s') (h2:S5 kvs k=none->∀s',Inv X pins σ (upd H a (.dK (putK kvs k v))) s'->Q r s') :
  wpAny (model X.prog X.w) A (call (.builtin "dict.setdefault") [.ref a,u,r]) Q E s:=by
 obtain⟨z,hd,vs,rel,dd⟩:=q40 I.hok e;have hz:vs.length<=sizeLine:=by rw[← rel.length];exact z
 have hv:=rel.val k;refine call_meetsIn k6 dd.typeIs Cw0 (Cx0 _ _ _) (kt_meets_setdefault (Y9 X.prog X.w) a (pb0 ry) hd r) ⟨vs,dd,hz,λw hw=>?_,λhn h' J hs=>?_⟩
 ·rw[hw] at hv
  cases e1:S5 kvs k with
  | none=>rw[e1] at hv;exact hv.elim
  | some x=>rw[e1] at hv;exact h1 x e1 _ _ (I.tok _) hv
 ·rw[hn] at hv
  have e1:S5 kvs k=none:=by
   cases e1:S5 kvs k with
   | none=>rfl
   | some x=>rw[e1] at hv;exact hv.elim
  have hl:(putK kvs k v).length<=sizeLine:=by have:=xv0 kvs k v;omega
  have he:∃q,h'.get? a=some q:=let ⟨q,_,_,hq,_⟩:=J;⟨q,hq⟩
  exact h2 e1 _ (vt0 I (by rw[e];exact True.intro) hs he (fu0 hl hd (rel.put k rv) J))
theorem Xq0(ho:PE X o td)(he:PE X e ty)(hf:PE X f tx)(m:M2 X o "setdefault" apos e f cpos):PE X (.Call (.Attribute o "setdefault" apos) [e,f] [] cpos) (Tq0 td ty tx):=by
 intro pins s σ H Q I h;refine wpAny_Call_method m.base m.few m.line Cz0 k6 D00 (thn (ho pins s σ H _ I h) λu s1 ⟨x,H1,I1,rx,a,ex,d,q1⟩=>?_);subst ex;cases (show u=Value.ref a from rx);obtain⟨t1,t2,_⟩:=X40 I1 d;refine⟨t1,t2,?_⟩;rw[m.trees];refine i9 rfl (A30 (K2 (thn (he pins s1 σ H1 _ I1 q1) λiv s2 ⟨y,H2,I2,ry,q2⟩=>K2 (thn (hf pins s2 σ H2 _ I2 q2) λfv s3 ⟨z,H3,I3,rz,kvs,k,ea,ey,l,q3,q4⟩=>N9 ?_))));subst ey;exact Vu0 I3 ea ry rz l (λx ex w' s4 I4 r4=>⟨x,H3,I4,r4,q3 x ex⟩) λen s4 I4=>⟨z,_,I4,rz,q4 en⟩
end
end L2
namespace DL
open Spec PyProof.Rows L2
def mk0(i:Nat)(gk g:GE):GX:=fun δ=>(ut0 i δ).bind λpr=>(gk δ).bind λdk=>(g δ).bind λd=>(zw0 dk).bind λq=>if pr.1.length<sizeLine then (if V8 pr.1 q=true then (z60 pr.1 pr.2 q).map λr=>(r,δ) else some (d,δ.set i (.ow (.dct (.inl (W8 pr.1 q)) (W9 pr.1 pr.2 q d))))) else none
section
variable{a f:Expr}{ga gb g:GE}
theorem Ve0(i:Nat)(h0:PD X e g0)(h:PD X f g)(hN:X.N[i]?=some x:=by rfl)(hv:Vis X.env.scope x:=by first|exact Or.inl rfl|exact Or.inr (Or.inl rfl)|exact Or.inr (Or.inr rfl))(hd:(x==("__debug__" : Str))=false:=by decide)(hcd:(x==("__classdict__" : Str))=false:=by decide)
  (hbase:attributeBase (.Name x px) "setdefault" X.env (eval (.Name x px) X.env)=eval (.Name x px) X.env:=by rfl)
  (hfew:((backTo cpos (starEach [e,f] X.env)).all (λx=>!x.1)&&(backToKw cpos (keywordEach [] X.env)).all (λx=>x.1.isSome)
  &&decide (([e,f]:List Expr).length+([]:List Keyword).length+(if ([]:List Keyword).isEmpty then 0 else 1)<30))=true:=by rfl)
  (hline:(apos.endLine==cpos.line)=true:=by rfl) (htrees:backTo cpos (starEach [e,f] X.env)=[(false,eval e X.env),(false,eval f X.env)]:=by rfl) :
  PX X (.Call (.Attribute (.Name x px) "setdefault" apos) [e,f] [] cpos) (mk0 i g0 g):=.mk λH₀ B₀ δ pins s σ H Q I ⟨r,en,e1,k⟩=>by
 unfold mk0 at e1;obtain⟨B,b1,b2,env⟩:=en.ex;cases e2:ut0 i δ with
 | none=>rw[e2] at e1;cases e1
 | some pr =>
  cases e4:g0 δ with
  | none=>rw[e2,e4] at e1;cases e1
  | some dk =>
   cases e3:g δ with
   | none=>rw[e2,e4,e3] at e1;cases e1
   | some d =>
    cases e5:zw0 dk with
    | none=>rw[e2,e4,e3] at e1;simp only[Option.bind_some] at e1;rw[e5] at e1;cases e1
    | some q =>
     rw[e2,e4,e3] at e1;simp only[Option.bind_some] at e1;rw[e5] at e1;simp only[Option.bind_some] at e1;split at e1
     ·rename_i hz
      have hi:=j00 e2;obtain⟨p,O,hb,xs,hx,hl,rx⟩:=env.at hi;have hl:pr.1.length=xs.length:=hl;refine Xq0 (G8 (i:=i) hN hv hd hcd) (h0 B δ) (h B δ) ⟨hbase,hfew,hline,htrees⟩ pins s σ H Q I ⟨_,O,p,rfl,.inl ⟨_,.inl hx⟩,dk,env,e4,λiv H1 s1 r1=>⟨d,env.same s1,e3,λfv H2 s2 r2=>?_⟩⟩;have:=qr0 e5 r1;subst this;have J:=s1.trans s2;refine⟨_,q,J _ _ hx,rfl,by rw[List.length_zip,← hl,Nat.min_self];exact hz,λv a0=>?_,λhn=>?_⟩
      ·have hk:V8 pr.1 q=true:=by
        rw[← (yk0 (q:=q) rx).2 hl,a0];rfl
       rw[if_pos hk] at e1;obtain⟨w,hw,e1⟩:=C6.mp e1;cases e1;obtain⟨v',Z,rv⟩:=(yk0 rx).1 w hw;rw[a0] at Z;cases Z;exact k v H2 (EnvV.mk' (en.grow J) b1 b2 (env.same J) (rv.same J))
      ·have hk:V8 pr.1 q=false:=by
        rw[← (yk0 (q:=q) rx).2 hl,hn];rfl
       rw[hk,if_neg (by simp)] at e1;cases e1;obtain⟨ys,hy,a2,a3,a1⟩:=o40 (q:=q) (v:=fv) hl;have rr:Rps X.K H2 B (W9 pr.1 pr.2 q d) ys:=by
        unfold W9;rw[hk,if_neg (by simp),a1 hk];exact Rps.snoc (rx.same J) r2
       rw[hy];have M:Env X.K (upd H2 p (.dK ((W8 pr.1 q).zip ys))) B σ (δ.set i (.ow (.dct (.inl (W8 pr.1 q)) (W9 pr.1 pr.2 q d)))):=(env.same J).mut hi O ⟨ys,m8,a2,rr.mono (Gr.own hb)⟩;exact k _ _ (EnvV.mk' (en.mut J b1 b2 hi O M) b1 b2 M (r2.mono (Gr.own hb)))
     ·cases e1
end
end DL
namespace L2
open Spec PyProof.Rows PySem.W
theorem n70:CallR X (.builtin "len") (λxs H Q=>∃(p:Addr) (kvs:List (Key×V)),xs=[.ref p]/\H p=some (.dK kvs)/\Q (.int kvs.length) H):=by
 intro pins s σ H xs us Q I r h;obtain⟨p,kvs,rfl,hq,q⟩:=h;obtain⟨u,rfl,rx⟩:=vals1 r;cases rx;have hn:=w70;obtain⟨z,hd,vs,rel,dd⟩:=q40 I.hok hq;have hl:=rel.length;exact call_len_dict hd dd (by omega) ⟨.int kvs.length,H,I.tok _,⟨s.toks+1,by rw[hl]⟩,q⟩
end L2
namespace DL
open Spec PyProof.Rows L2
def sv0:List D->Option D
 | [.dct (.inl ks) _]=>some (.int ks.length)
 | _=>none
theorem j90:FnR K (λxs H Q=>∃(p:Addr) (kvs:List (Key×V)),xs=[.ref p]/\H p=some (.dK kvs)/\Q (.int kvs.length) H) sv0:=by
 intro H B xs ds d Q hb r h k;unfold sv0 at h;split at h
 ·cases h
  obtain⟨v,rfl,r1⟩:=zj0 r;rw[ul0] at r1;obtain⟨p,ys,rfl,_,hp,hl,rr⟩:=r1;refine⟨p,_,rfl,hp,k _ H (Same.refl H) ?_⟩;rw[o9,List.length_zip,← hl,Nat.min_self]
 ·cases h
end DL
namespace SoT
open PyProof.Rows
section
variable{P:Program}{w:World}{A:Around}{s:Shared}{b:Array Keyed}{κ:SortKind}{cmp:Keyed->Keyed->Bool}
structure Go(b:Array Keyed)(κ:SortKind)(st:SortSt):Prop where
 kd:kindOf st=κ
 pm:(arrOf st).Perm b
 pe:pendingOf st=#[]
 fa:failedOf st=none
structure Cp(P:Program)(w:World)(A:Around)(E:Value->Shared->Prop)(s:Shared)(b:Array Keyed)(κ:SortKind)(cmp:Keyed->Keyed->Bool):Prop where
 ask:∀(st:SortSt) (i j:Nat) (x y:Keyed) (Q:Option Bool->SortSt->Prop),Go b κ st->(arrOf st)[i]?=some x->(arrOf st)[j]?=some y->Q (some (cmp x y)) st->wpS (model P w) A E s (ltAt' i j) Q st
 nd:b.toList.Nodup
 tr:∀x∈b.toList,∀y∈b.toList,∀z∈b.toList,cmp x y=true->cmp y z=true->cmp x z=true
 to:∀x∈b.toList,∀y∈b.toList,x≠y->cmp y x=false->cmp x y=true
theorem Go.set{st:SortSt}(h:Go b κ st){xs:Array Keyed}(p:xs.Perm (arrOf st)):Go b κ (setArr st xs):=⟨h.kd,p.trans h.pm,h.pe,h.fa⟩
theorem Go.sz{st:SortSt}(h:Go b κ st):(arrOf st).size=b.size:=h.pm.size_eq
theorem Go.el{st:SortSt}(h:Go b κ st)(hi:i<b.size):∃x,(arrOf st)[i]?=some x/\x∈b.toList:=by
 have J:i<(arrOf st).size:=by rw[h.sz];exact hi
 exact⟨(arrOf st)[i],k7 _ i J,(k9.mp h.pm).mem_iff.mp (by simp)⟩
theorem Go.mem{st:SortSt}(h:Go b κ st){x:Keyed}(e:(arrOf st)[i]?=some x):x∈b.toList/\i<b.size:=by
 obtain⟨hi,rfl⟩:=Ah0.mp e;exact⟨(k9.mp h.pm).mem_iff.mp (by simp),by rw[← h.sz];exact hi⟩
theorem Go.ne{st:SortSt}(h:Go b κ st)(hn:b.toList.Nodup){x y:Keyed}(e1:(arrOf st)[i]?=some x)(e2:(arrOf st)[j]?=some y)(hij:i<j):x≠y:=by
 have J:(arrOf st).toList.Nodup:=(k9.mp h.pm).nodup_iff.mpr hn;obtain⟨h1,rfl⟩:=Ah0.mp e1;obtain⟨h2,rfl⟩:=Ah0.mp e2;have:=H0.mp J i j (by simpa using h1) (by simpa using h2) hij
 simpa using this
def Up(cmp:Keyed->Keyed->Bool)(xs:Array Keyed)(n:Nat):Prop:=∀i j x y,i<j->j<n->xs[i]?=some x->xs[j]?=some y->cmp x y=true
def Dn(cmp:Keyed->Keyed->Bool)(xs:Array Keyed)(n:Nat):Prop:=∀i j x y,i<j->j<n->xs[i]?=some x->xs[j]?=some y->cmp y x=true
variable(C:Cp P w A E s b κ cmp)
include C
theorem Z90{st:SortSt}(hg:Go b κ st)(hn:n<b.size)(h1:1<=n)(h:Up cmp (arrOf st) n){u v:Keyed}(eu:(arrOf st)[n - 1]?=some u)(ev:(arrOf st)[n]?=some v)(huv:cmp u v=true):Up cmp (arrOf st) (n+1):=λi j x y J hj ex ey=>by
 by_cases hjn:j<n
 ·exact h i j x y J hjn ex ey
 ·have:j=n:=by omega
  subst this;rw[ev] at ey;cases ey
  by_cases hi:i=j - 1
  ·subst hi;rw[eu] at ex;cases ex;exact huv
  ·exact C.tr x (hg.mem ex).1 u (hg.mem eu).1 v (hg.mem ev).1 (h i (j - 1) x u (by omega) (by omega) ex eu) huv
theorem bz0{st:SortSt}(hg:Go b κ st)(hn:n<b.size)(h1:1<=n)(h:Dn cmp (arrOf st) n){u v:Keyed}(eu:(arrOf st)[n - 1]?=some u)(ev:(arrOf st)[n]?=some v)(huv:cmp v u=true):Dn cmp (arrOf st) (n+1):=λi j x y J hj ex ey=>by
 by_cases hjn:j<n
 ·exact h i j x y J hjn ex ey
 ·have:j=n:=by omega
  subst this;rw[ev] at ey;cases ey
  by_cases hi:i=j - 1
  ·subst hi;rw[eu] at ex;cases ex;exact huv
  ·exact C.tr v (hg.mem ev).1 u (hg.mem eu).1 x (hg.mem ex).1 huv (h i (j - 1) x u (by omega) (by omega) ex eu)
theorem asc{st:SortSt}{a:Nat}{Q:AscSt->SortSt->Prop}(hg:Go b κ st)(hm:m<=b.size)(ha:1<=a)(ham:a<=m)(hu:Up cmp (arrOf st) a)
  (k:∀n,a<=n->n<=m->Up cmp (arrOf st) n->(n=m∨∃u v,(arrOf st)[n - 1]?=some u/\(arrOf st)[n]?=some v/\cmp v u=true)->Q (none,n) st):wpS (model P w) A E s (ascLoop a m) Q st:=by
 unfold ascLoop;refine P5 (I:=λx c t=>t=st/\c=(none,x)/\Up cmp (arrOf st) x) (λx c t M O hI=>?_) (λc t hI=>?_) ⟨rfl,rfl,hu⟩
 ·obtain⟨e1,e2,J⟩:=hI
  subst e1;subst e2;obtain⟨v,ev,mv⟩:=hg.el (i:=x) (by omega);obtain⟨u,eu,mu⟩:=hg.el (i:=x - 1) (by omega);refine B4 (C.ask _ _ _ _ _ _ hg ev eu ?_);cases hc:cmp v u with
  | true=>exact C2 (k x M (by omega) J (.inr ⟨u,v,eu,ev,hc⟩))
  | false=>exact C2 ⟨rfl,rfl,Z90 C hg (by omega) (by omega) J eu ev (C.to u mu v mv (hg.ne C.nd eu ev (by omega)) hc)⟩
 ·obtain⟨e1,e2,J⟩:=hI
  subst e1;subst e2;have e:max a m=m:=by omega
  rw[e] at J ⊢;exact k m ham (A2 _) J (.inl rfl)
theorem desc{st:SortSt}{a:Nat}{Q:DescSt->SortSt->Prop}(hg:Go b κ st)(hm:m<=b.size)(ha:1<=a)(ham:a<=m)(hd:Dn cmp (arrOf st) a)
  (k:∀n,a<=n->n<=m->Dn cmp (arrOf st) n->Q (none,n,0) st):wpS (model P w) A E s (descLoop a m) Q st:=by
 unfold descLoop;refine P5 (I:=λx c t=>t=st/\c=(none,x,0)/\Dn cmp (arrOf st) x) (λx c t M O hI=>?_) (λc t hI=>?_) ⟨rfl,rfl,hd⟩
 ·obtain⟨e1,e2,J⟩:=hI
  subst e1;subst e2;obtain⟨v,ev,mv⟩:=hg.el (i:=x) (by omega);obtain⟨u,eu,mu⟩:=hg.el (i:=x - 1) (by omega);refine B4 (C.ask _ _ _ _ _ _ hg ev eu ?_);cases hc:cmp v u with
  | true =>
   dsimp only;rw[if_pos rfl,if_neg (by omega)];exact C2 ⟨rfl,rfl,bz0 C hg (by omega) (by omega) J eu ev hc⟩
  | false =>
   dsimp only;rw[if_neg (by simp)];refine B4 (C.ask _ _ _ _ _ _ hg eu ev ?_);rw[C.to u mu v mv (hg.ne C.nd eu ev (by omega)) hc];exact C2 (k x M (by omega) J)
 ·obtain⟨e1,e2,J⟩:=hI
  subst e1;subst e2;have e:max a m=m:=by omega
  rw[e] at J ⊢;exact k m ham (A2 _) J
theorem tl{st:SortSt}{Q:Option Nat->SortSt->Prop}(hg:Go b κ st)(hm:m<=b.size)(h1:1<=n)(hnm:n<=m)(hd:Dn cmp (arrOf st) n)
  (k:∀r t,Go b κ t->1<=r->r<=m->Up cmp (arrOf t) r->Q (some r) t):wpS (model P w) A E s (tail3 n m) Q st:=by
 unfold tail3;rw[reverseSlice'_eq];refine B4 (wpS_modify ?_);have J:n<=(arrOf st).size:=by rw[hg.sz];omega
 have g2:Go b κ (setArr st (mirror (arrOf st) 0 n ((n - 0)/2))):=hg.set (mirror_perm _ _ _ _);have at_:∀i,i<n->(mirror (arrOf st) 0 n ((n - 0)/2))[i]?=(arrOf st)[n - 1 - i]?:=λi hi=>by
  rw[getElem?_mirror_all J,if_pos ⟨C4 _,hi⟩,Nat.zero_add]
 have hu:Up cmp (arrOf (setArr st (mirror (arrOf st) 0 n ((n - 0)/2)))) n:=λi j x y M hj ex ey=>by
  have ex:(mirror (arrOf st) 0 n ((n - 0)/2))[i]?=some x:=ex;have ey:(mirror (arrOf st) 0 n ((n - 0)/2))[j]?=some y:=ey;rw[at_ i (by omega)] at ex;rw[at_ j hj] at ey;exact hd (n - 1 - j) (n - 1 - i) y x (by omega) (by omega) ey ex
 exact B4 (asc C g2 hm h1 hnm hu λr a1 a2 a3 _=>C2 (k r _ g2 (by omega) a2 a3))
theorem run{st:SortSt}{Q:Option Nat->SortSt->Prop}(hg:Go b κ st)(hm:m<=b.size)(h1:1<=m)
  (k:∀r t,Go b κ t->1<=r->r<=m->Up cmp (arrOf t) r->Q (some r) t):wpS (model P w) A E s (countRun' 0 m) Q st:=by
 rw[countRun0_eq];refine B4 (asc C hg hm (A2 1) h1 (λi j x y a c _ _=>by omega) λn n1 n2 hu J=>?_);dsimp only
 by_cases hnm:n=m
 ·rw[if_pos (by rw[hnm];simp)]
  exact C2 (k n st hg n1 n2 hu)
 ·rw[if_neg (by simpa using hnm)]
  obtain⟨u,v,eu,ev,hc⟩:=J.resolve_left hnm
  by_cases hg1:n > 1
  ·rw[if_pos hg1]
   obtain⟨x,ex,mx⟩:=hg.el (i:=0) (by omega);refine B4 (C.ask _ _ _ _ _ _ hg ex eu ?_);rw[hu 0 (n - 1) x u (by omega) (by omega) ex eu];exact C2 (k n st hg n1 n2 hu)
  ·rw[if_neg hg1]
   have:n=1:=by omega
   subst this;unfold descPart;refine B4 (wpS_lift (D9 ⟨rfl,?_⟩));have d2:Dn cmp (arrOf st) (1+1):=λi j x y O hj ex ey=>by
    have hi:i=0:=by omega
    have M:j=1:=by omega
    subst hi;subst M;rw[show (1:Nat) - 1=0 from rfl,ex] at eu;rw[ey] at ev;cases eu;cases ev;exact hc
   refine B4 (desc C hg hm (by omega) (by omega) d2 λr a1 a2 a3=>?_);dsimp only;rw[if_neg (by omega)];exact tl C hg hm (by omega) a2 a3 k
theorem ins{st:SortSt}{a:Nat}{Q:Bool->SortSt->Prop}(hg:Go b κ st)(hn:n<=b.size)(ha:a<=n)(hu:Up cmp (arrOf st) a)
  (k:∀t,Go b κ t->Up cmp (arrOf t) n->Q true t):wpS (model P w) A E s (binarySort' 0 n a) Q st:=by
 rw[binarySort'_eq];simp only[Nat.zero_add];refine B4 (wpS_mono (P5 (I:=λx c t=>c=(none,())/\Go b κ t/\Up cmp (arrOf t) (min x n)) (Q:=λc t=>c=(none,())/\Go b κ t/\Up cmp (arrOf t) n) (λx c t a2 a4 hI=>?_) (λc t hI=>?_) ⟨rfl,hg,?_⟩) λc t hI=>?_)
 ·obtain⟨e1,g2,u2⟩:=hI
  subst e1;have ex:min x n=x:=by omega
  rw[ex] at u2;have hx:x<b.size:=by omega
  obtain⟨v,ev,mv⟩:=g2.el hx;refine B4 (wpS_mono (P5 (I:=λy c t2=>t2=t/\∃l r,c=(none,l,r)/\l<=r/\r<=x/\r - l<=x - y/\(∀i z,i<l->(arrOf t)[i]?=some z->cmp z v=true)/\∀i z,r<=i->i<x->(arrOf t)[i]?=some z->cmp v z=true)
   (Q:=λc t2=>t2=t/\∃l r,c=(none,l,r)/\l<=x/\(∀i z,i<l->(arrOf t)[i]?=some z->cmp z v=true)/\∀i z,l<=i->i<x->(arrOf t)[i]?=some z->cmp v z=true) (λy c t2 _ a3 hJ=>?_) (λc t2 hJ=>?_)
   ⟨rfl,0,x,rfl,by omega,by omega,by omega,λi z hi=>by omega,λi z h1 h2=>by omega⟩) λc t2 hJ=>?_)
  ·obtain⟨e1,l,r,e2,Z,M,hm,lo,hi⟩:=hJ
   subst e1;subst e2;dsimp only
   by_cases hge:l ≥ r
   ·rw[if_pos hge]
    have:l=r:=by omega
    subst this;exact C2 ⟨rfl,l,l,rfl,M,lo,hi⟩
   ·rw[if_neg hge]
    obtain⟨u,eu,mu⟩:=g2.el (i:=(l+r)/2) (by omega);refine B4 (C.ask _ _ _ _ _ _ g2 ev eu ?_);cases hc:cmp v u with
    | true =>
     refine C2 ⟨rfl,l,(l+r)/2,rfl,by omega,by omega,by omega,lo,λi z h1 h2 ez=>?_⟩
     by_cases q:i=(l+r)/2
     ·subst q;rw[eu] at ez;cases ez;exact hc
     ·exact C.tr v mv u mu z (g2.mem ez).1 hc (u2 _ i u z (by omega) (by omega) eu ez)
    | false =>
     have O:=C.to u mu v mv (g2.ne C.nd eu ev (by omega)) hc;refine C2 ⟨rfl,(l+r)/2+1,r,rfl,by omega,by omega,by omega,λi z h1 ez=>?_,hi⟩
     by_cases q:i=(l+r)/2
     ·subst q;rw[eu] at ez;cases ez;exact O
     ·exact C.tr z (g2.mem ez).1 u mu v mv (u2 i _ z u (by omega) (by omega) ez eu) O
  ·obtain⟨e1,l,r,e2,Z,M,hm,lo,hi⟩:=hJ
   subst e1;subst e2;have:l=r:=by omega
   subst this;exact⟨rfl,l,l,rfl,M,lo,hi⟩
  ·obtain⟨e1,l,r,e2,a1,lo,hi⟩:=hJ
   subst e1;subst e2;show wpS _ _ _ _ (do moveDown' x l;pure (ForInStep.yield (none,()))) _ _;rw[moveDown'_eq];refine B4 (wpS_modify (C2 ⟨rfl,g2.set (bubble_perm _ _ _),?_⟩));have a0:x<(arrOf t2).size:=by rw[g2.sz];exact hx
   have e3:min (x+1) n=x+1:=by omega
   rw[e3];have at_:∀i,(bubble (arrOf t2) x (x - l))[i]?=if i=l then some v else if l<i/\i<=x then (arrOf t2)[i - 1]? else (arrOf t2)[i]?:=λi=>by
    rw[getElem?_bubble a0 _ (by omega),show x - (x - l)=l by omega,ev]
   intro i j y z J hj ey ez;have ey:(bubble (arrOf t2) x (x - l))[i]?=some y:=ey;have ez:(bubble (arrOf t2) x (x - l))[j]?=some z:=ez;rw[at_] at ey ez
   by_cases q1:j=l
   ·rw[if_pos q1] at ez
    rw[if_neg (by omega),if_neg (by omega)] at ey;cases ez;exact lo i y (by omega) ey
   ·rw[if_neg q1] at ez
    by_cases q2:i=l
    ·rw[if_pos q2] at ey
     rw[if_pos ⟨by omega,by omega⟩] at ez;cases ey;exact hi (j - 1) z (by omega) (by omega) ez
    ·rw[if_neg q2] at ey
     by_cases q3:l<i
     ·rw[if_pos ⟨q3,by omega⟩] at ey
      rw[if_pos ⟨by omega,by omega⟩] at ez;exact u2 (i - 1) (j - 1) y z (by omega) (by omega) ey ez
     ·rw[if_neg (by omega)] at ey
      by_cases q4:l<j
      ·rw[if_pos ⟨q4,by omega⟩] at ez
       exact u2 i (j - 1) y z (by omega) (by omega) ey ez
      ·rw[if_neg (by omega)] at ez
       exact u2 i j y z J (by omega) ey ez
 ·obtain⟨hc,g2,u2⟩:=hI
  refine⟨hc,g2,?_⟩
  rwa [show min (max (max a 1) n) n=n by omega] at u2
 ·intro i j x y J hj ex ey
  exact hu i j x y J (by omega) ex ey
 ·obtain⟨e1,g2,u2⟩:=hI
  subst e1;exact C2 (k t g2 u2)
end
section
variable{P:Program}{w:World}{A:Around}{s:Shared}{b:Array Keyed}{κ:SortKind}{cmp:Keyed->Keyed->Bool}
theorem runs(C:Cp P w A E s b κ cmp){st:SortSt}{Q:Unit->SortSt->Prop}(hg:Go b κ st)(h2:2<=b.size)(h64:b.size<64)
  (k:∀t,(arrOf t).Perm b->failedOf t=none->Up cmp (arrOf t) b.size->Q () t):wpS (model P w) A E s sortRuns' Q st:=by
 rw[sortRuns'_eq];refine B4 (P6 ?_);dsimp only;have O:minRun' b.size b.size 0=b.size:=by
  obtain⟨f,hf⟩:∃f,b.size=f+1:=⟨b.size - 1,by omega⟩;have e:minRun' (f+1) b.size 0=b.size:=by rw[minRun'_succ,if_pos h64];rfl
  rwa [← hf] at e
 simp only[hg.sz,O];refine B4 (wpS_mono (P5 (I:=λx c t=>(x=0/\c=(none,0)/\Go b κ t)∨(1<=x/\c=(none,b.size)/\(arrOf t).Perm b/\failedOf t=none/\(pendingOf t).size=1/\Up cmp (arrOf t) b.size))
  (Q:=λc t=>c=(none,b.size)/\(arrOf t).Perm b/\failedOf t=none/\(pendingOf t).size=1/\Up cmp (arrOf t) b.size) (λx c t _ hx hI=>?_) (λc t hI=>?_) (.inl ⟨rfl,rfl,hg⟩)) λc t hI=>?_)
 ·rcases hI with⟨e1,e2,g2⟩|⟨e1,e2,d1⟩
  ·subst e1;subst e2
   dsimp only;rw[if_neg (by omega)];simp only[Nat.sub_zero,Nat.min_self,Nat.zero_add];refine B4 (run C g2 (A2 _) (by omega) λr t2 g3 r1 r2 u3=>?_);dsimp only;have M:∀t3,Go b κ t3->Up cmp (arrOf t3) b.size->(arrOf (setPending t3 ((pendingOf t3).push (0,b.size,0)))).Perm b/\failedOf (setPending t3 ((pendingOf t3).push (0,b.size,0)))=none/\(pendingOf (setPending t3 ((pendingOf t3).push (0,b.size,0)))).size=1/\Up cmp (arrOf (setPending t3 ((pendingOf t3).push (0,b.size,0)))) b.size :=
    λt3 g u=>⟨g.pm,g.fa,(by show ((pendingOf t3).push (0,b.size,0)).size=1;rw[g.pe];rfl),u⟩
   have J:∀t3,Go b κ t3->(pendingOf t3).back?=none:=λt3 g=>by rw[g.pe];rfl
   by_cases hlt:r<b.size
   ·rw[if_pos hlt]
    refine B4 (wpS_lift (D9 ⟨rfl,?_⟩));refine B4 (ins C g3 (A2 _) r2 u3 λt3 g4 u4=>?_);simp only[Bool.not_true,Bool.false_eq_true,if_false];refine B4 (P6 ?_);rw[J t3 g4];exact B4 (wpS_modify (C2 (.inr ⟨by omega,rfl,M t3 g4 u4⟩)))
   ·rw[if_neg hlt]
    have hr:r=b.size:=by omega
    subst hr;refine B4 (P6 ?_);rw[J t2 g3];exact B4 (wpS_modify (C2 (.inr ⟨by omega,rfl,M t2 g3 u3⟩)))
  ·subst e2
   dsimp only;rw[if_pos (A2 _)];exact C2 ⟨rfl,d1⟩
 ·rcases hI with⟨e1,_,_⟩|⟨_,e2,d1⟩
  ·omega
  ·exact⟨e2,d1⟩
 ·obtain⟨e1,p1,p2,p3,p4⟩:=hI
  subst e1;dsimp only;refine B4 (wpS_mono (P5 (I:=λ_ c t2=>t2=t/\c=(none,())) (Q:=λc t2=>t2=t/\c=(none,())) (λx c t2 _ _ hJ=>?_) (λ_ _ hJ=>hJ) ⟨rfl,rfl⟩) λc t2 hJ=>?_)
  ·obtain⟨e1,e2⟩:=hJ
   subst e1;subst e2;refine B4 (P6 ?_);rw[if_pos (by rw[p3];exact A2 1)];exact C2 ⟨rfl,rfl⟩
  ·obtain⟨e1,e2⟩:=hJ
   subst e1;subst e2;exact C2 (k _ p1 p2 p4)
end
def PairAt(h:Heap)(v:Value)(q:Int×Int):Prop:=∃a o n t u,v=.ref a/\h.get? a=some o/\o.cls=.type "tuple"/\o.data=.seq #[.int q.1 t,.int q.2 u] n
theorem PairAt.one{h:Heap}{r:Int×Int}(x:PairAt h v q)(y:PairAt h v r):q=r:=by
 obtain⟨a,o,n,t,u,e,e1,_,e2⟩:=x;obtain⟨a',o',n',t',u',f,f1,_,f2⟩:=y;rw[e] at f;cases f;rw[e1] at f1;cases f1;rw[e2] at f2;injection f2 with f2 _
 have f3:=D5 Array.toList f2;simp only at f3;injection f3 with g1 g2
 injection g1 with g1 _
 injection g2 with g2 _
 injection g2 with g2 _
 exact L1 g1 g2
def lt2(a b:Int×Int):Bool:=decide (a.1<b.1∨(a.1=b.1/\a.2<b.2))
theorem sq0{a b:Int×Int}:lt2 a b=true↔(a.1<b.1∨(a.1=b.1/\a.2<b.2)):=by unfold lt2;exact decide_eq_true_iff
open Classical in
def pk(h:Heap)(v:Value):Int×Int:=if e:∃q,PairAt h v q then e.choose else (0,0)
theorem q50{h:Heap}(x:PairAt h v q):pk h v=q:=by
 unfold pk;have e:∃q,PairAt h v q:=⟨q,x⟩;rw[dif_pos e];exact e.choose_spec.one x
section
variable{P:Program}{w:World}{A:Around}{s:Shared}
theorem fi0(f:Bool)(x y:Value):keyLt' (tuples' f) x y=(do
  let xs ← Builtin.List.listItems x;let ys ← Builtin.List.listItems y
  for ((p,q),i) in (xs.toList.zip ys.toList).zipIdx do
   if !(← eqBool p q) then return ← oneLt' (f&&i==0) p q
  return decide (xs.size<ys.size)):=rfl
theorem qy0{f:Bool}{a c:Int}{t u:Tok}{Q:Bool->Shared->Prop}(h:Q (decide (a<c)) s):wpAny (model P w) A (oneLt' f (.int a t) (.int c u)) Q E s:=by
 cases f with
 | true=>exact oneLt_int h
 | false =>
  rw[oneLt'_eq];rw[if_neg (by simp)];refine A0 (wpAny_richCompare_same (N1 s a t) (N1 s c u) slot_int_lt (call_int_lt ⟨(λz=>nomatch z),?_⟩));exact S1 h
theorem h70{f:Bool}{x y:Value}{r:Int×Int}{Q:Bool->Shared->Prop}(hx:PairAt s.heap x q)(hy:PairAt s.heap y r)(h:Q (lt2 q r) s):wpAny (model P w) A (keyLt' (tuples' f) x y) Q E s:=by
 obtain⟨a,o,n,t,u,rfl,e1,_,e2⟩:=hx;obtain⟨a',o',n',t',u',rfl,f1,_,f2⟩:=hy;rw[fi0];refine A0 (l4 e1 e2 (A0 (l4 f1 f2 ?_)));simp only[List.zip_cons_cons,List.zip_nil_right,List.zipIdx_cons,List.zipIdx_nil,List.forIn_cons,List.forIn_nil];refine A0 (A0 (A0 (v3 ?_)))
 by_cases e:q.1=r.1
 ·rw[show (q.1==r.1)=true by simpa using e]
  rw[if_neg (by simp)];refine A1 (A0 (A0 (v3 ?_)))
  by_cases e':q.2=r.2
  ·rw[show (q.2==r.2)=true by simpa using e']
   rw[if_neg (by simp)];refine A1 (A1 (A1 ?_));have:lt2 q r=false:=by unfold lt2;rw[e,e'];simp
   rw[this] at h;exact h
  ·rw[show (q.2==r.2)=false by simpa using e']
   rw[if_pos (by rfl)];refine A0 (qy0 (A1 (A1 (A1 ?_))));have:lt2 q r=decide (q.2<r.2):=by unfold lt2;rw[e];simp
   rw[this] at h;exact h
 ·rw[show (q.1==r.1)=false by simpa using e]
  rw[if_pos (by rfl)];refine A0 (qy0 (A1 (A1 (A1 ?_))));have:lt2 q r=decide (q.1<r.1):=by unfold lt2;simp[e]
  rw[this] at h;exact h
end
structure Prs(h:Heap)(vs:List Value):Prop where
 all:∀v∈vs,∃q,PairAt h v q
 nd:(vs.map (pk h)).Nodup
def rr0(h:Heap)(x y:Keyed):Bool:=lt2 (pk h x.1) (pk h y.1)
section
variable{P:Program}{w:World}{A:Around}{s:Shared}
theorem Ti0{b:Array Keyed}{f:Bool}(hb:∀x∈b.toList,∃q,PairAt s.heap x.1 q)(st:SortSt)(i j:Nat)(x y:Keyed)(Q:Option Bool->SortSt->Prop)(hg:Go b (tuples' f) st)(ei:(arrOf st)[i]?=some x)(ej:(arrOf st)[j]?=some y)(k:Q (some (rr0 s.heap x y)) st):wpS (model P w) A E s (ltAt' i j) Q st:=by
 obtain⟨q,hq⟩:=hb x (hg.mem ei).1;obtain⟨r,hr⟩:=hb y (hg.mem ej).1;unfold rr0 at k;rw[q50 hq,q50 hr] at k;rw[ltAt'_eq];refine B4 (P6 ?_);show wpS _ _ _ _ (elem' (arrOf st) i>>=λx=>elem' (arrOf st) j>>=λy=>lt' x y) Q st;rw[elem'_eq,elem'_eq,ei,ej];refine B4 (C2 (B4 (C2 ?_)));rw[lt'_eq];refine B4 (P6 ?_);rw[hg.kd];exact B4 (wpS_lift (X1 (h70 hq hr ⟨rfl,C2 k⟩)))
theorem cpP(hv:Prs s.heap vs)(f:Bool):Cp P w A E s (pairsOf vs) (tuples' f) (rr0 s.heap):=by
 have el:∀x∈(pairsOf vs).toList,x.1∈vs/\x=(x.1,x.1):=λx hx=>by
  rw[pairsOf_toList] at hx;obtain⟨i,hi,e⟩:=X2.mp hx;rw[List.getElem_zip] at e;have e1:x.1=vs[i]'(by rw[List.length_zip] at hi;omega):=by rw[← e]
  rw[e1];exact⟨B7 _,e.symm⟩
 have hb:∀x∈(pairsOf vs).toList,∃q,PairAt s.heap x.1 q:=λx hx=>hv.all _ (el x hx).1
 have Z:vs.Nodup:=by
  refine H0.mpr λi j hi hj J e=>?_
  have:=H0.mp hv.nd i j (by simpa using hi) (by simpa using hj) J;rw[List.getElem_map,List.getElem_map,e] at this;exact this rfl
 refine⟨Ti0 hb,?_,λx _ y _ z _ h1 h2=>?_,λx hx y hy M h=>?_⟩
 ·rw[pairsOf_toList]
  refine H0.mpr λi j hi hj J e=>?_
  rw[List.getElem_zip,List.getElem_zip] at e;have e1:=D5 Prod.fst e;simp only[List.length_zip] at hi hj;exact H0.mp Z i j (by omega) (by omega) J e1
 ·unfold rr0 at *
  rw[sq0] at *;omega
 ·unfold rr0 at *
  have O:pk s.heap x.1≠pk s.heap y.1:=λe=>by
   apply M;obtain⟨mx,ex⟩:=el x hx;obtain⟨my,ey⟩:=el y hy;obtain⟨i,hi,e1⟩:=X2.mp mx;obtain⟨j,hj,e2⟩:=X2.mp my;have J:i=j:=by
    rcases Cn0 i j with q|q|q
    ·have:=H0.mp hv.nd i j (by simpa using hi) (by simpa using hj) q
     rw[List.getElem_map,List.getElem_map,e1,e2] at this;exact absurd e this
    ·exact q
    ·have:=H0.mp hv.nd j i (by simpa using hj) (by simpa using hi) q
     rw[List.getElem_map,List.getElem_map,e1,e2] at this;exact absurd e.symm this
   subst J;rw[ex,ey,← e1,← e2]
  rw[sq0];have h':¬((pk s.heap y.1).1<(pk s.heap x.1).1∨((pk s.heap y.1).1=(pk s.heap x.1).1/\(pk s.heap y.1).2<(pk s.heap x.1).2)):=λz=>by
   rw[sq0.mpr z] at h;cases h
  have:(pk s.heap x.1).1≠(pk s.heap y.1).1∨(pk s.heap x.1).2≠(pk s.heap y.1).2:=by
   by_cases q1:(pk s.heap x.1).1=(pk s.heap y.1).1
   ·exact .inr λq2=>O (L1 q1 q2)
   ·exact .inl q1
  omega
theorem Xm0{Q:Option Value->Shared->Prop}(hv:PairAt s.heap v q)(h:∀t,Q (some (.int q.1 t)) s):wpAny (model P w) A (firstOfTuple' v) Q E s:=by
 obtain⟨a,o,n,t,u,rfl,e1,e2,e3⟩:=hv;show wpAny _ _ (typeOf (.ref a)>>=λT=>if (T != .type "tuple")=true then pure none else do return (← Builtin.List.listItems (.ref a))[0]?) _ _ _;refine A0 (M1 (T := "tuple") ⟨o,e1,e2⟩ ?_);rw[if_neg (by simp)];exact A0 (l4 e1 e3 (A1 (h t)))
theorem firstsP:∀{vs:List Value} {Q:List (Option Value)->Shared->Prop},(∀v∈vs,∃q,PairAt s.heap v q)->(∀(fs:List Value) (ns:List Int),IntsAre fs ns->fs.length=vs.length->Q (fs.map some) s)->wpAny (model P w) A (vs.mapM firstOfTuple') Q E s
 | [],Q,_,h=>by
  rw[List.mapM_nil];exact A1 (h [] [] .nil rfl)
 | v::vs,Q,hv,h=>by
  rw[List.mapM_cons];obtain⟨q,hq⟩:=hv v A5;refine A0 (Xm0 hq λt=>A0 (firstsP (λu hu=>hv u (A3 _ hu)) λfs ns a c=>A1 ?_));exact h (.int q.1 t::fs) (q.1::ns) (.cons q.1 t a) (by rw[List.length_cons,List.length_cons,c])
theorem Uy0{v₁ v₂:Value}{r:List Value}{Q:SortKind->Shared->Prop}(hv:∀v∈v₁::v₂::r,∃q,PairAt s.heap v q)(h:Q (tuples' true) s):wpAny (model P w) A (keyKind' (v₁::v₂::r).toArray) Q E s:=by
 rw[keyKind'_eq,List.mapM_toArray];refine A0 ?_;rw[map_eq_pure_bind];refine A0 (firstsP hv λfs ns a c=>A1 ?_);have h1:((fs.map some).toArray.all λx=>x.isSome)=true:=by simp
 rw[if_pos h1];have h2:(fs.map some).toArray.filterMap id=fs.toArray:=by
  simp
 refine A0 (D9 ?_);rw[h2,oneTypeOnly'_eq,List.mapM_toArray,mapM_typeOf_ints a];simp only[map_pure,pure_bind];obtain⟨f0,fr,rfl⟩:∃f0 fr,fs=f0::fr:=by
  cases fs with
  | nil=>simp at c
  | cons f0 fr=>exact⟨f0,fr,rfl⟩
 have h3:((f0::fr).map λ_=>Value.type "int").toArray[0]?=some (.type "int"):=by simp
 rw[h3];have h4:(((f0::fr).map λ_=>Value.type "int").toArray.all λx=>x==Value.type "int")=true:=by
  simp only[List.all_toArray,List.all_map,List.all_eq_true];exact λ_ _=>rfl
 simp only[h4,if_true,pure_bind];exact A1 h
end
section
variable{P:Program}{w:World}{A:Around}{s:Shared}
theorem PairAt.to{h:Heap}(x:PairAt h v q)(k:∀a o,h.get? a=some o->o.cls=.type "tuple"->h'.get? a=some o):PairAt h' v q:=by
 obtain⟨a,o,n,t,u,e,e1,e2,e3⟩:=x;exact⟨a,o,n,t,u,e,k a o e1 e2,e2,e3⟩
theorem Prs.to{h:Heap}(x:Prs h vs)(k:∀a o,h.get? a=some o->o.cls=.type "tuple"->h'.get? a=some o):Prs h' vs/\∀v∈vs,pk h' v=pk h v:=by
 have e:∀v∈vs,pk h' v=pk h v:=λv hv=>by
  obtain⟨q,hq⟩:=x.all v hv;rw[q50 hq,q50 (hq.to k)]
 refine⟨⟨λv hv=>?_,?_⟩,e⟩
 ·obtain⟨q,hq⟩:=x.all v hv
  exact⟨q,hq.to k⟩
 ·rw[List.map_congr_left e]
  exact x.nd
theorem Ux0{F:Fin->Shared->Prop}(ho:s.heap.get? a=some (seqObj "list" vs.toArray n))(hv:Prs s.heap vs)(h64:vs.length<64)
  (h:∀out:Array Value,out.toList.Perm vs->(out.toList.map (pk s.heap)).Pairwise (λx y=>lt2 x y=true)->F (.done (.ret .none)) { s with heap:=sortedHeap s.heap a vs out }) :
  wpAny (model P w) A (Builtin.«list.sort» ⟨[.ref a],[]⟩) F E s:=by
 rw[list_sort_plain];have la:a<s.heap.objs.size:=A6 ho;obtain⟨ep,hu⟩:∃ep,(s.heap.update a (Obj.mapSeq λ_=>#[])).get? a=some (seqObj "list" #[] ep):=⟨_,get?_update_seq ho (λ_=>#[])⟩;refine A0 (l4 ho rfl (A0 (listUpdate_at ho rfl (A0 (seqEpoch_at hu rfl (A0 (wpAny_newTuple (A0 (wpAny_newList (B9 ?_))))))))));obtain⟨g,J⟩:∃g,g=((s.heap.update a (Obj.mapSeq λ_=>#[])).push (seqObj "tuple" vs.toArray 0)).push (seqObj "list" #[] 0):=⟨_,rfl⟩;have b2:a≠(s.heap.update a (Obj.mapSeq λ_=>#[])).objs.size:=by rw[Heap.size_update];exact A9 la
 have h6:g.get? a=some (seqObj "list" #[] ep):=by
  rw[J,Heap.get?_push_ne _ _ _ (by rw[size_push',Heap.size_update];exact A9 (Ab0 la)),Heap.get?_push_ne _ _ _ b2];exact hu
 have kp:∀c o,s.heap.get? c=some o->o.cls=.type "tuple"->g.get? c=some o:=λc o e1 e2=>by
  have b0:c≠a:=λz=>by
   subst z;rw[ho] at e1;cases e1;have e3:Value.type "list"=Value.type "tuple" := e2;injection e3 with e3
   exact absurd e3 (by decide)
  rw[J];exact B0 _ (B0 _ (by rw[Heap.get?_update_ne _ _ _ _ b0];exact e1))
 obtain⟨a6,O⟩:=hv.to kp;show wpAny (model P w) A _ F E { s with heap:=((s.heap.update a (Obj.mapSeq λ_=>#[])).push (seqObj "tuple" vs.toArray 0)).push (seqObj "list" #[] 0) };rw[← J];dsimp only;have a8:vs.toArray.size=vs.length:=by simp
 have a5:∀out:Array Value,out.toList.Perm vs->(out.toList.map (pk s.heap)).Pairwise (λx y=>lt2 x y=true)->F (.done (.ret .none)) { s with heap:=g.update a (Obj.mapSeq λ_=>out) }:=λout p1 p2=>by
  rw[J];exact h out p1 p2
 by_cases h2:vs.toArray.size<2
 ·rw[if_pos h2,if_pos h2]
  refine A0 (A1 ?_);rw[StateT.run_pure];refine A0 (A1 ?_);dsimp only;refine A0 (seqEpoch_at h6 rfl (A0 (listUpdate_at h6 rfl ?_ (hsz2:=by rw[Array.size_map];show (pairsOf vs).size<=_;rw[pairsOf_size,sizeLine_eq];omega))));simp only[bne_self_eq_false,Bool.false_eq_true,if_false];have e0:((vs.toArray.zip vs.toArray).map (·.2)).toList=vs:=by
   have:=l6 (A2 vs.length)
   simpa using this
  refine A1 (a5 _ (by rw[e0]) ?_);rw[e0];refine H0.mpr λi j hi hj a4=>?_
  rw[List.length_map] at hi hj;omega
 ·rw[if_neg h2,if_neg h2]
  obtain⟨v₁,v₂,r,rfl⟩:∃v₁ v₂ r,vs=v₁::v₂::r:=by
   match vs,a8,h2 with
   | [],_,h2=>simp at h2
   | [_],_,h2=>simp at h2
   | v₁::v₂::r,_,_=>exact⟨v₁,v₂,r,rfl⟩
  refine A0 (Uy0 (s:={ s with heap:=g }) a6.all ?_);have C:=cpP (P:=P) (w:=w) (A:=A) (E:=E) (s:={ s with heap:=g }) a6 true;refine A0 (D1 (runs C (st:=SortSt.mk' (tuples' true) ((v₁::v₂::r).toArray.zip (v₁::v₂::r).toArray) #[] 7 none)
   (Q:=λ_ t=>(arrOf t).Perm (pairsOf (v₁::v₂::r))/\failedOf t=none/\Up (rr0 g) (arrOf t) (pairsOf (v₁::v₂::r)).size)
   ⟨rfl,Array.Perm.refl _,rfl,rfl⟩ (by rw[pairsOf_size];simp) (by rw[pairsOf_size];exact h64) λt a1 a2 a3=>⟨a1,a2,a3⟩) ?_ λ_ _ e=>e)
  rintro⟨⟨⟩,t⟩ s' ⟨es,hp,hf,b1⟩;subst es;dsimp only;refine A0 (seqEpoch_at h6 rfl (A0 (listUpdate_at h6 rfl ?_ (hsz2:=by refine C0 (S4 ((Array.size_map ..).trans (hp.size_eq.trans (pairsOf_size _)))) ?_;rw[sizeLine_eq];omega))));rw[hf];simp only[bne_self_eq_false,Bool.false_eq_true,if_false];have Z:(arrOf t).toList.Perm ((v₁::v₂::r).zip (v₁::v₂::r)):=by
   have:=k9.mp hp
   rwa [pairsOf_toList] at this
  have M:∀x∈(arrOf t).toList,x.1=x.2/\x.2∈v₁::v₂::r:=λx hx=>by
   have hm:=Z.mem_iff.mp hx;obtain⟨i,hi,e⟩:=X2.mp hm;rw[List.getElem_zip] at e;rw[← e];exact⟨rfl,B7 _⟩
  have e2:((arrOf t).map (·.2)).toList=(arrOf t).toList.map (·.2):=by simp
  refine A1 (a5 _ ?_ ?_)
  ·rw[e2]
   have:=Z.map Prod.snd
   rwa [l6 (A2 _)] at this
  ·rw[e2,List.map_map]
   refine H0.mpr λi j hi hj a4=>?_
   rw[List.length_map] at hi hj;rw[List.getElem_map,List.getElem_map];have a7:i<(arrOf t).size:=by simpa using hi
   have a0:j<(arrOf t).size:=by simpa using hj
   have:=b1 i j (arrOf t)[i] (arrOf t)[j] a4 (by rw[← hp.size_eq];exact a0) (k7 _ i a7) (k7 _ j a0);have m1:=M (arrOf t)[i] (by simp);have m2:=M (arrOf t)[j] (by simp);unfold rr0 at this;rw[m1.1,m2.1,O _ m1.2,O _ m2.2] at this
   simpa using this
theorem ab0{l:Addr}{Q:Value->Shared->Prop}(hl:s.heap.IsList l vs.toArray)(hv:Prs s.heap vs)(h64:vs.length<64)
  (h:∀out:Array Value,out.toList.Perm vs->(out.toList.map (pk s.heap)).Pairwise (λx y=>lt2 x y=true)->Q (.ref (s.heap.objs.size+1)) { s with heap:=sortedAll s.heap vs out }) :
  wpAny (model P w) A (call (.builtin "sorted") [.ref l]) Q E s:=by
 refine D20 kind_sorted plain_sorted entry_sorted (args_sorted1 _) ?_;unfold Builtin.«sorted»;refine A0 (m:=checkCount "sorted" 1 1 _) (A1 (A0 (collect_list hl (A0 (wpAny_newList ?_)))));have J:((s.heap.push (seqObj "list" #[] 0)).update s.heap.objs.size (Obj.mapSeq (·++vs.toArray))).objs.size=s.heap.objs.size+1:=by rw[Heap.size_update,size_push']
 obtain⟨g,hg⟩:∃g,g=((s.heap.push (seqObj "list" #[] 0)).update s.heap.objs.size (Obj.mapSeq (·++vs.toArray))).push (seqObj "list" vs.toArray 0):=⟨_,rfl⟩;have M:g.get? (s.heap.objs.size+1)=some (seqObj "list" vs.toArray 0):=by
  rw[← J,hg];exact C1 _ rfl
 have kp:∀c o,s.heap.get? c=some o->o.cls=.type "tuple"->g.get? c=some o:=λc o e1 _=>by
  have lc:=A6 e1;rw[hg];refine B0 _ ?_;rw[Heap.get?_update_ne _ _ _ _ (A9 lc)];exact B0 _ e1
 obtain⟨Z,O⟩:=hv.to kp;show wpAny _ _ _ _ _ { s with heap:=((s.heap.push (seqObj "list" #[] 0)).update s.heap.objs.size (Obj.mapSeq (·++vs.toArray))).push (seqObj "list" vs.toArray 0) };rw[J,← hg];refine A0 (B9 (D4 slot_list_sort ⟨_,M,rfl⟩ entry_list_sort (Ux0 (s:={ s with heap:=g }) M Z h64 λout p1 p2=>⟨_,rfl,?_⟩) (args_list_sort _)));refine A1 ⟨_,rfl,?_⟩;have p3:(out.toList.map (pk s.heap)).Pairwise (λx y=>lt2 x y=true):=by
  rw[← List.map_congr_left λv hv=>O v (p1.mem_iff.mp hv)];exact p2
 have:=h out p1 p3;unfold sortedAll at this;rw[hg];exact this
end
end SoT
namespace SoT
def le2(a b:Int×Int):Bool:=!lt2 b a
def srt(ps:List (Int×Int)):List (Int×Int):=ps.mergeSort le2
theorem wm0{a b:Int×Int}:le2 a b=true↔¬(b.1<a.1∨(b.1=a.1/\b.2<a.2)):=by
 unfold le2 lt2;rw[Bool.not_eq_true',decide_eq_false_iff_not]
theorem V40(a b c:Int×Int)(h1:le2 a b=true)(h2:le2 b c=true):le2 a c=true:=by rw[wm0] at *;omega
theorem Wx0(a b:Int×Int):(le2 a b||le2 b a)=true:=by rw[Bool.or_eq_true,wm0,wm0];omega
theorem Wc0{a b:Int×Int}(h1:le2 a b=true)(h2:le2 b a=true):a=b:=by
 rw[wm0] at *;exact L1 (by omega) (by omega)
theorem jl0:∀{l m:List (Int×Int)},l.Perm m->l.Pairwise (λa b=>le2 a b=true)->m.Pairwise (λa b=>le2 a b=true)->l=m
 | [],m,h,_,_=>by rw[List.nil_perm.mp h]
 | a::l,[],h,_,_=>by exact absurd (List.perm_nil.mp h) (by simp)
 | a::l,b::m,h,h1,h2=>by
  have self:∀x:Int×Int,le2 x x=true:=λx=>by rw[wm0];omega
  have J:le2 a b=true:=by
   rcases A4.mp (h.mem_iff.mpr (A5 (a:=b) (l:=m))) with e|e
   ·rw[e];exact self a
   ·exact D30 h1 e
  have M:le2 b a=true:=by
   rcases A4.mp (h.mem_iff.mp (A5 (a:=a) (l:=l))) with e|e
   ·rw[e];exact self b
   ·exact D30 h2 e
  have e:=Wc0 J M;subst e;rw[jl0 (List.Perm.cons_inv h) (D40.mp h1).2 (D40.mp h2).2]
theorem co0(ps:List (Int×Int)):(srt ps).Perm ps:=List.mergeSort_perm ps le2
theorem Xo0(ps:List (Int×Int)):(srt ps).Pairwise (λa b=>le2 a b=true):=List.pairwise_mergeSort V40 Wx0 ps
theorem Wh0{l ps:List (Int×Int)}(hp:l.Perm ps)(h:l.Pairwise (λa b=>lt2 a b=true)):l=srt ps :=
 jl0 (hp.trans (co0 ps).symm) (h.imp λ{a b} z=>by rw[sq0] at z;rw[wm0];omega) (Xo0 ps)
end SoT
namespace L2
open Spec PyProof.Rows SoT
def PrV(H:Hp):List V->List (Int×Int)->Prop
 | [],[]=>True
 | v::vs,q::qs=>(∃a,v=.ref a/\H a=some (.tup [.int q.1,.int q.2]))/\PrV H vs qs
 | _,_=>False
section
variable{s:Shared}
theorem j30(I:Inv X pins σ H s)(h:H a=some (.tup [.int q.1,.int q.2])):PairAt s.heap (.ref a) q:=by
 obtain⟨its,rv,⟨o,e1,e2,n,e3⟩,_⟩:=I.tuple (X:=X) (xs:=[.int q.1,.int q.2]) (.inl (.inl h));cases rv with
 | cons r1 rv =>
  cases rv with
  | cons r2 rv =>
   cases rv;obtain⟨t,rfl⟩:=r1;obtain⟨u,rfl⟩:=r2;exact⟨a,o,n,t,u,rfl,e1,e2,e3⟩
theorem f00(I:Inv X pins σ H s):∀{ys:List V} {its:List Value} {ps:List (Int×Int)},Vals ys its->PrV H ys ps->its.map (pk s.heap)=ps/\(∀v∈its,∃q,PairAt s.heap v q)/\∀v∈its,∃a,v=.ref a/\V.ref a∈ys/\H a=some (.tup [.int (pk s.heap v).1,.int (pk s.heap v).2])
 | [],_,[],.nil,_=>⟨rfl,(λv h=>by cases h),(λv h=>by cases h)⟩
 | [],_,_::_,.nil,h=>h.elim
 | y::ys,_,[],.cons _ _,h=>h.elim
 | y::ys,_,q::ps,.cons r rv,h=>by
  obtain⟨⟨a,rfl,ha⟩,h2⟩:=h;cases (show _=Value.ref a from r);obtain⟨i1,i2,i3⟩:=f00 I rv h2;have e:=q50 (j30 I ha);refine⟨by rw[List.map_cons,i1,e],λv hv=>?_,λv hv=>?_⟩
  ·rcases A4.mp hv with rfl|hv
   ·exact⟨q,j30 I ha⟩
   ·exact i2 v hv
  ·rcases A4.mp hv with rfl|hv
   ·exact⟨a,rfl,A5,by rw[e];exact ha⟩
   ·obtain⟨b,e1,e2,e3⟩:=i3 v hv
    exact⟨b,e1,A3 _ e2,e3⟩
theorem l50{h:Heap}{ys:List V}:∀{vs:List Value},(∀v∈vs,∃a,v=.ref a/\V.ref a∈ys/\H a=some (.tup [.int (pk h v).1,.int (pk h v).2]))->∃zs,Vals zs vs/\PrV H zs (vs.map (pk h))/\∀z∈zs,z∈ys
 | [],_=>⟨[],.nil,trivial,λz hz=>by cases hz⟩
 | v::vs,hv=>by
  obtain⟨a,rfl,m,e⟩:=hv v A5;obtain⟨zs,z1,z2,z3⟩:=l50 (vs:=vs) λu hu=>hv u (A3 _ hu)
  exact⟨.ref a::zs,.cons rfl z1,⟨⟨a,rfl,e⟩,z2⟩,λz hz=>by
   rcases A4.mp hz with rfl|hz
   ·exact m
   ·exact z3 z hz⟩
theorem ie0:CallR X (.builtin "sorted") (λxs H Q=>∃(p:Addr) (ys:List V) (ps:List (Int×Int)),xs=[.ref p]/\SqL X.K H p ys/\PrV H ys ps/\ps.Nodup/\ps.length<64/\∀l zs,H l=none->PrV H zs (srt ps)->(∀z∈zs,z∈ys)->Q (.ref l) (upd H l (.lst zs))):=by
 intro pins s σ H xs us Q I r h;obtain⟨p,ys,ps,rfl,hq,hp,hn,O,k⟩:=h;obtain⟨u,rfl,rx⟩:=vals1 r;cases rx;obtain⟨its,rv,pl,hz⟩:=I.list hq;obtain⟨i1,i2,i3⟩:=f00 I rv hp;have hl:its.length=ps.length:=by rw[← i1,List.length_map]
 refine ab0 pl.isList ⟨i2,by rw[i1];exact hn⟩ (by omega) λJ p1 p2=>?_
 have hs:J.toList.map (pk s.heap)=srt ps:=by
  refine Wh0 ?_ p2;have:=p1.map (pk s.heap)
  rwa [i1] at this
 obtain⟨zs,z1,z2,z3⟩:=l50 (H:=H) (h:=s.heap) (ys:=ys) (vs:=J.toList) λv hv=>i3 v (p1.mem_iff.mp hv)
 rw[hs] at z2;obtain⟨e,he⟩:=sortedAll_at s.heap its J;have M:H (s.heap.objs.size+1)=none:=I.hok.fresh (Ac0 _);refine⟨.ref (s.heap.objs.size+1),_,I.laid (t':=s.toks) (a:=s.heap.objs.size+1) (o:=.lst zs) (λb o hb=>sortedAll_old hb) (Ac0 _) ⟨?_,J.toList,e,z1,he⟩,rfl,k _ zs M z2 z3⟩;rw[z1.length,p1.length_eq];rw[rv.length] at hz;exact hz
end
end L2
namespace DL
open Spec PyProof.Rows L2 SoT
def pD(q:Int×Int):D:=.tup [.int q.1,.int q.2]
def te0:List D->Option (List (Int×Int))
 | []=>some []
 | .tup [.int i,.int j]::ds=>(te0 ds).map λr=>(i,j)::r
 | _=>none
def tr0:List D->Option D
 | [.lst ds]=>(te0 ds).bind λps=>if ps.Nodup/\ps.length<64 then some (.lst ((srt ps).map pD)) else none
 | _=>none
theorem js0:∀ps:List (Int×Int),te0 (ps.map pD)=some ps
 | []=>rfl
 | q::ps=>by show (te0 (ps.map pD)).map _=_;rw[js0 ps];rfl
theorem Zh0{ps:List (Int×Int)}(h1:ps.Nodup)(h2:ps.length<64):tr0 [.lst (ps.map pD)]=some (.lst ((srt ps).map pD)):=by
 show (te0 (ps.map pD)).bind _=_;rw[js0,Option.bind_some,if_pos ⟨h1,h2⟩]
theorem fd0:∀{ds:List D} {ys:List V} {ps:List (Int×Int)},Rps K H B ds ys->te0 ds=some ps->PrV H ys ps/\∀y∈ys,∃a,y=.ref a/\¬B a
 | [],ys,ps,r,h=>by
  rw[o6] at r;subst r;cases h;exact⟨trivial,λy hy=>by cases hy⟩
 | d::ds,ys,ps,r,h=>by
  rw[p8] at r;obtain⟨x,t,rfl,r1,r2⟩:=r;unfold te0 at h;split at h
  ·rename_i e;cases e
  ·rename_i i j ds' e
   injection e with e1 e2
   subst e1;subst e2;obtain⟨rs,e3,rfl⟩:=C6.mp h;obtain⟨i1,i2⟩:=fd0 r2 e3;rw[Z4] at r1;obtain⟨a,xs,rfl,hq,rr⟩:=r1;rw[p8] at rr;obtain⟨x1,t1,rfl,q1,rr⟩:=rr;rw[p8] at rr;obtain⟨x2,t2,rfl,q2,rr⟩:=rr;rw[o6] at rr;subst rr;rw[o9] at q1 q2;subst q1;subst q2;exact⟨⟨⟨a,rfl,hq.2⟩,i1⟩,λy hy=>by
    rcases A4.mp hy with rfl|hy
    ·exact⟨a,rfl,hq.1⟩
    ·exact i2 y hy⟩
  ·cases h
theorem mh0:∀{zs:List V} {qs:List (Int×Int)} {a:Addr},PrV H zs qs->V.ref a∈zs->H a≠none
 | [],_,_,_,hz=>by cases hz
 | _::_,[],_,h,_=>h.elim
 | z::zs,q::qs,a,h,hz=>by
  obtain⟨⟨b,e,hb⟩,h2⟩:=h;rcases A4.mp hz with e2|hz
  ·rw[e] at e2
   cases e2;rw[hb];exact λz=>nomatch z
  ·exact mh0 h2 hz
theorem ed0:∀{zs:List V} {qs:List (Int×Int)},PrV H zs qs->(∀z∈zs,∃a,z=.ref a/\¬B a)->Rps K H B (qs.map pD) zs
 | [],[],_,_=>by rw[List.map_nil,o6]
 | [],_::_,h,_=>h.elim
 | _::_,[],h,_=>h.elim
 | z::zs,q::qs,h,hb=>by
  obtain⟨⟨a,rfl,ha⟩,h2⟩:=h;rw[List.map_cons,p8];refine⟨_,_,rfl,?_,ed0 h2 λy hy=>hb y (A3 _ hy)⟩;obtain⟨b,e,nb⟩:=hb _ A5;cases e;unfold pD;rw[Z4];refine⟨a,_,rfl,⟨nb,ha⟩,?_⟩;rw[p8];refine⟨_,_,rfl,by rw[o9],?_⟩;rw[p8];exact⟨_,_,rfl,by rw[o9],by rw[o6]⟩
theorem fs0(hm:X.mg "sorted"=none)(hv:bootBuiltins "sorted"=some (.builtin "sorted"))(ha:PD X e g)(hg:Gl X "sorted" := by rfl)
  (he:starEach [e] X.env=(false,eval e X.env)::starEach [] X.env:=by rfl) (hpl:(backTo pos (starEach [] X.env)).any (·.1)=false:=by rfl) :
  PDF X (.Call (.Name "sorted" p) [e] [] pos) (oA (z8 g v6) tr0):=.mk λB δ=>(up0 ie0 hg hm hv (K3 (ha B δ) yx0 he) (by decide) (by decide) he hpl).imp fun σ H Q ⟨d,en,h,k⟩=>by
 unfold oA z8 v6 at h;cases e1:g δ with
 | none=>rw[e1] at h;cases h
 | some x =>
  rw[e1] at h;simp only[Option.bind_some,Option.map_some] at h;refine⟨x,en,e1,λv H1 s1 r1=>?_⟩;unfold tr0 at h;split at h
  ·rename_i ds he1
   injection he1 with he1
   subst he1;cases e2:te0 ds with
   | none=>rw[e2] at h;cases h
   | some ps =>
    rw[e2] at h;simp only[Option.bind_some] at h;split at h
    ·rename_i hz
     cases h;rw[Z8] at r1;obtain⟨q,ys,rfl,hq,rr⟩:=r1;obtain⟨v1,v2⟩:=fd0 rr e2;refine⟨q,ys,ps,rfl,hq.to,v1,hz.1,hz.2,λl zs J M O=>?_⟩;refine k l _ (s1.free J) (s1.trans (b7 J)) ⟨zs,m8,?_⟩;refine Rps.same (b7 J) (ed0 M λz hz=>?_);obtain⟨a,rfl,nb⟩:=v2 z (O z hz);refine⟨a,rfl,λq=>q.elim nb λq=>?_⟩;subst q;exact mh0 M hz J
    ·cases h
  ·cases h
end DL
namespace DL
open Spec PyProof.Rows L2
def rg0(i j:Nat)(gx:GX)(f:List D->Option D):GX:=fun δ=>(gv i δ).bind λ_=>(gv j δ).bind λ_=>(gx δ).bind λr=>(gv i r.2).bind λa=>(gv j r.2).bind λb=>(f [a,b,r.1]).map λd=>(d,r.2)
theorem Ya0{k:Nat}{ps:List Str}{z x y:Str}{f:List D->Option D}(i j:Nat)(C:FnD X.prog X.w X.K X.mg X.base z k ps f)(hr:Room m X.A)(hk:k<=m)(h:PX X e gx)
  (hN:X.N[i]?=some x:=by rfl) (hv:Vis X.env.scope x:=by first|exact Or.inl rfl|exact Or.inr (Or.inl rfl)|exact Or.inr (Or.inr rfl)) (hd:(x==("__debug__" : Str))=false:=by decide) (hcd:(x==("__classdict__" : Str))=false:=by decide)
  (hN2:X.N[j]?=some y:=by rfl) (hv2:Vis X.env.scope y:=by first|exact Or.inl rfl|exact Or.inr (Or.inl rfl)|exact Or.inr (Or.inr rfl)) (hd2:(y==("__debug__" : Str))=false:=by decide) (hcd2:(y==("__classdict__" : Str))=false:=by decide)
  (hg:Gl X z:=by rfl) (hdb:(z==("__debug__" : Str))=false:=by decide)
  (he1:starEach [.Name x px,.Name y py,e] X.env=(false,eval (.Name x px) X.env)::starEach [.Name y py,e] X.env:=by rfl) (he2:starEach [.Name y py,e] X.env=(false,eval (.Name y py) X.env)::starEach [e] X.env:=by rfl) (he3:starEach [e] X.env=(false,eval e X.env)::starEach [] X.env:=by rfl)
  (hpl:(backTo pos (starEach [.Name y py,e] X.env)).any (·.1)=false:=by rfl):PX X (.Call (.Name z p) [.Name x px,.Name y py,e] [] pos) (rg0 i j gx f):=.mk λH₀ B₀ δ pins s σ H Q I ⟨r,en,e1,k⟩=>by
 obtain⟨fa,fd,F,hm,kp,hb⟩:=C;unfold rg0 at e1;obtain⟨B,b1,b2,env⟩:=en.ex;cases a1:gv i δ with
 | none=>rw[a1] at e1;cases e1
 | some d1 =>
 cases a2:gv j δ with
 | none=>rw[a1,a2] at e1;cases e1
 | some d2 =>
 cases a3:gx δ with
 | none=>rw[a1,a2,a3] at e1;cases e1
 | some r' =>
 rw[a1,a2,a3] at e1;simp only[Option.bind_some] at e1;cases a4:gv i r'.2 with
 | none=>rw[a4] at e1;cases e1
 | some c1 =>
 cases a5:gv j r'.2 with
 | none=>rw[a4,a5] at e1;cases e1
 | some c2 =>
 rw[a4,a5] at e1;simp only[Option.bind_some] at e1;cases a6:f [c1,c2,r'.1] with
 | none=>rw[a6] at e1;cases e1
 | some d =>
 rw[a6] at e1;cases e1;obtain⟨v1,s1,_⟩:=env.get (pc0 a1);obtain⟨v2,s2,_⟩:=env.get (pc0 a2);refine uh0 (E:=E0) F (hr.mono hk) hg hm kp hb .nil qz0 (K3 (G8 (i:=i) hN hv hd hcd) (K3 (G8 (i:=j) hN2 hv2 hd2 hcd2) (K3 (h H₀ B₀ δ) yx0 he3) he2) he1) hdb he1 hpl pins s σ H Q I
  ⟨v1,s1,v2,s2,r',en,a3,λv H1 ev=>?_⟩
 obtain⟨B2,q1,q2,J,rv⟩:=ev.ex;obtain⟨w1,t1,r1⟩:=J.get (pc0 a4);obtain⟨w2,t2,r2⟩:=J.get (pc0 a5);rw[s1] at t1;rw[s2] at t2;cases t1;cases t2;show spD X.K f [v1,v2,v] H1 Q E0;refine⟨B2,[c1,c2,r'.1],d,J.bad,?_,a6,λv' H' s' M=>k v' H' (EnvV.mk' (ev.s.grow s') q1 q2 (J.same s') M)⟩;rw[p8];refine⟨_,_,rfl,r1,?_⟩;rw[p8];refine⟨_,_,rfl,r2,?_⟩;rw[p8];exact⟨_,_,rfl,rv,by rw[o6]⟩
end DL
namespace RawD
open PyProof.Rows PySem.W
def At(d:Addr)(es:Array DictEntry)(ep:Nat)(h:Heap):Prop:=∃o,h.get? d=some o/\o.ExactDict/\o.data=.dict es ep
section
variable{P:Program}{w:World}{A:Around}{s:Shared}{d:Addr}{es:Array DictEntry}{ep:Nat}
theorem At.ty(x:At d es ep s.heap):s.TypeIs (.ref d) "dict" := by obtain⟨o,e,c,_⟩:=x;exact⟨o,e,c.1⟩
theorem At.lt{h:Heap}(x:At d es ep h):d<h.objs.size:=by obtain⟨o,e,_⟩:=x;exact A6 e
theorem At.to{h:Heap}(x:At d es ep h)(k:∀o,h.get? d=some o->h'.get? d=some o):At d es ep h':=by obtain⟨o,e,r⟩:=x;exact⟨o,k o e,r⟩
theorem T80{Q:Value->Shared->Prop}(lo:(d==sysModules)=false)(x:At d es ep s.heap)
  (k:Q (.ref s.heap.objs.size) { s with heap:=s.heap.push { cls:=.type "dict_keyiterator",data:=.fields #[.ref d,.int 0 0,.int es.size 0,.int ep 0] } }):wpAny (model P w) A (pyIter (.ref d)) Q E s:=by
 have ty:=x.ty;obtain⟨o,e,c,da⟩:=x;refine wpAny_pyIter_slot ty F.slot_dict_iter (D4 F.slot_dict_iter ty F.entry_dict_iter ?_ (F.args_dict_iter_1 _));unfold Builtin.«dict.__iter__»;refine A0 ?_;unfold Builtin.Dict.dictSlotNone;refine A0 (k0 ty ?_);show wpAny _ _ (pure (Value.ref d)) _ _ s;refine A1 ?_;show wpAny _ _ (Builtin.Dict.showsAll d>>=_) _ _ s;unfold Builtin.Dict.showsAll;rw[if_neg (by rw[lo];decide)];refine A0 (A1 (A0 (I0 e da (A0 (Y1 e da (A0 (D6 (A1 ⟨_,rfl, "dict_keyiterator",_,⟨_,C1 _ rfl,rfl⟩,Y2.lookup,?_⟩))))))))
 simpa [rawInt] using k
theorem Uc0{Q:Option Value->Shared->Prop}(hi:s.heap.IsKeyIter it d i es.size ep)(x:At d es ep s.heap)(hl:i<es.size)
  (k:∀h',h'.IsKeyIter it d (i+1) es.size ep->Heap.SameBut it s.heap h'->Q (some es[i].key) { s with heap:=h' }):wpAny (model P w) A (pyNext (.ref it)) Q E s:=by
 have ti:=hi.typeIs;obtain⟨u,eu,cu,du⟩:=hi;obtain⟨o,e,c,da⟩:=x;unfold pyNext;refine A0 (X1 (L3 (name:=Str.ofString "__next__") ti Y2 (D4 Y2 ti D60 ?_ (D70 _))));refine A0 (A1 (A0 (A0 ?_)));refine A0 (l7 ti (A1 (A0 (wpAny_fieldsOf eu du ?_))));simp only[show Builtin.Dict_items.ownsTuple "dict_keyiterator"=false from by decide,Bool.false_eq_true,if_false];show wpAny _ _ (if (Value.ref d==.none)=true then _ else _) _ _ s;rw[if_neg (show ¬(Value.ref d==.none)=true by simp)];refine A0 (A1 (A0 (I0 e da ?_)));rw[if_neg (by simp)];refine A0 (A1 (A0 (Y1 e da ?_)));rw[if_neg (by simp)];refine A1 ?_;simp only[show ¬(i:Int)<0 by omega,if_false,Int.toNat_natCast,Array.getElem?_eq_getElem hl];refine A0 (A0 (l7 ti (A1 (A0 (wpAny_isOneOf_keyiter ti ?_)))));show wpAny _ _ (setField (.ref it) 1 (rawInt ((i:Int)+1))>>=_) _ _ s;refine A0 (wpAny_setField eu du (by simp) ?_);have J:(s.heap.update it (Obj.mapFields (·.setIfInBounds 1 (rawInt ((i:Int)+1))))).IsKeyIter it d (i+1) es.size ep :=
  ⟨_,L4 _ eu (Obj.isFreed_of_fields (Obj.data_mapFields du _)),(Obj.cls_mapFields ..).trans cu,by rw[Obj.data_mapFields du];simp[rawInt]⟩
 refine A0 (B9 (A0 (wpAny_isOneOf_keyiter (s:={ s with heap:=s.heap.update it (Obj.mapFields (·.setIfInBounds 1 (rawInt ((i:Int)+1)))) }) J.typeIs ?_)));show wpAny _ _ (pure es[i].key) _ _ _;exact A1 (A1 ⟨_,rfl,A1 (k _ J (E5 ..))⟩)
theorem Tu0{Q:Option Value->Shared->Prop}(hh:A.handled=none)(hi:s.heap.IsKeyIter it d i es.size ep)(x:At d es ep s.heap)(hl:es.size<=i)
  (k:∀h',Heap.ExtBut it s.heap h'->Q none { s with heap:=h' }):wpAny (model P w) A (pyNext (.ref it)) Q E s:=by
 have ti:=hi.typeIs;obtain⟨u,eu,cu,du⟩:=hi;obtain⟨o,e,c,da⟩:=x;unfold pyNext;refine A0 (X1 (L3 (name:=Str.ofString "__next__") ti Y2 (D4 Y2 ti D60 ?_ (D70 _))));refine A0 (A1 (A0 (A0 ?_)));refine A0 (l7 ti (A1 (A0 (wpAny_fieldsOf eu du ?_))));simp only[show Builtin.Dict_items.ownsTuple "dict_keyiterator"=false from by decide,Bool.false_eq_true,if_false];show wpAny _ _ (if (Value.ref d==.none)=true then _ else _) _ _ s;rw[if_neg (show ¬(Value.ref d==.none)=true by simp)];refine A0 (A1 (A0 (I0 e da ?_)));rw[if_neg (by simp)];refine A0 (A1 (A0 (Y1 e da ?_)));rw[if_neg (by simp)];refine A1 ?_;simp only[show ¬(i:Int)<0 by omega,if_false,Int.toNat_natCast,Array.getElem?_eq_none hl];refine A0 (A0 (l7 ti (A1 ?_)));show wpAny _ _ (setField (.ref it) 0 .none>>=_) _ _ s;refine A0 (wpAny_setField eu du (by simp) ?_);show wpAny _ _ (newExc (.type "StopIteration") []>>=_) _ _ _;refine A0 ?_;simp only[newExc,newTuple];refine A0 (D6 (A0 (m:=firstArgMember _ _) (wpAny_of_eq (a:=Value.none) (by first|rfl|(simp only[firstArgMember];rfl)) (D6 ?_ (by size_fits)))) (by size_fits));simp only[raiseNew];refine A0 (wpAny_handled ?_);rw[show A.in1.handled=none from hh];refine A0 (A1 (wpAny_throw ?_));refine A0 (R1 (b:=true) (T := "StopIteration") ⟨_,C1 _ rfl,rfl⟩ isSubtype_stop (A1 (k _ ?_)));exact((E5 ..).extBut.push _).push _
theorem T90(hh:A.handled=none)(ne:d≠it):Walks P w A it [it,d] [it] es.size (λi v=>∃e,es[i]?=some e/\v=e.key) (λi h=>h.IsKeyIter it d i es.size ep/\At d es ep h) where
 sub:=λb hb=>by simp at hb;simp[hb]
 frame:=λ_ _ _ st hk=>⟨st.1.at λo e=>hk it (by simp) o e,st.2.to λo e=>hk d (by simp) o e⟩
 item:=λi s Q E hi st hQ=>Uc0 st.1 st.2 hi λh' M sb=>hQ _ h' s.toks ⟨es[i],k7 es i hi,rfl⟩ ⟨M,st.2.to λo e=>sb.extBut d o ne e⟩ λb o hb e=>sb.extBut b o (λh=>hb (by simp[h])) e
 done:=λs Q E st hQ=>Tu0 hh st.1 st.2 (A2 _) λh' J=>hQ h' s.toks λb o hb e=>J b o (λh=>hb (by simp[h])) e
 self:=λ_ _ _ _ st hQ=>wpAny_pyIter_keyiter st.1 hQ
theorem src(lo:(d==sysModules)=false):KdlSrc P w "dict" d d es.size (λi v=>∃e,es[i]?=some e/\v=e.key) (At d es ep) where
 type:=λ_ x=>x.ty
 there:=λ_ x=>⟨x.lt,x.lt⟩
 keep:=λ_ _ x hk=>x.to λo e=>hk d (.inl rfl) o e
 notList:=by decide
 notTuple:=by decide
 hint:=λ_ _ _ _ x hq=>kdl_hint_dict x.ty hq
 iter:=λ_ _ hh x=>⟨_,_,(λ_ _ hq=>T80 lo x hq),T90 hh (A9 x.lt),⟨⟨_,C1 _ rfl,rfl,rfl⟩,x.to λo e=>B0 _ e⟩⟩
end
end RawD
namespace L2
open Spec PyProof.Rows
def KyV(H:Hp):List (List Key)->List V->Prop
 | [],[]=>True
 | k::ks,v::vs=>(∃b,v=.ref b/\H b=some (.tup (k.map kV)))/\KyV H ks vs
 | _,_=>False
theorem iz0(hc:X.calm=true:=by rfl):CallR X (.type "list") (λxs H Q=>∃(d:Addr) (kvs:List (List Key×V)),xs=[.ref d]/\H d=some (.dT kvs)/\∀l ys,H l=none->KyV H (kvs.map (·.1)) ys->Q (.ref l) (upd H l (.lst ys))):=by
 intro pins s σ H xs us Q I r h;obtain⟨d,kvs,rfl,e,k⟩:=h;obtain⟨u,rfl,rx⟩:=vals1 r;cases rx;obtain⟨z,hd,zs,rel,o,es,ep,h1,h2,h3,h4,h5⟩:=(show ObjOk X.prog X.w H s.heap d (.dT kvs) from I.hok d _ e);have hl:=rel.length;have O:es.size=kvs.length:=by rw[← Array.length_toList,h4,List.length_map,hl]
 have ky:∀{a:List (List Key×V)} {b:List (List Key×Addr×Value)},Paired (λ(p:List Key×V) (q:List Key×Addr×Value)=>p.1=q.1/\H q.2.1=some (.tup (p.1.map kV))/\RelV p.2 q.2.2) a b->KyV H (a.map (·.1)) (b.map λq=>V.ref q.2.1):=by
  intro a b q
  induction q with
  | nil=>trivial
  | cons q t ih=>exact⟨⟨_,rfl,q.2.1⟩,ih⟩
 refine W.kdl_call (RawD.src (es:=es) (ep:=ep) hd) (I.ok.hd hc) ⟨o,h1,h2,h3⟩ (by rw[O];exact z) λh' tk J c' hk hS M=>?_
 have hv:Vals (zs.map λq=>V.ref q.2.1) J.toList:=by
  have e1:J.toList=zs.map λq=>Value.ref q.2.1:=by
   refine List.ext_getElem? λi=>?_
   cases hq:J.toList[i]? with
   | none =>
    rw[List.getElem?_eq_none_iff,Array.length_toList,M.1,O] at hq;rw[List.getElem?_eq_none (by rw[List.length_map];omega)]
   | some v =>
    obtain⟨en,e2,e3⟩:=M.2 i v (by rw[← Array.getElem?_toList];exact hq);rw[← Array.getElem?_toList,h4,List.getElem?_map] at e2;rw[List.getElem?_map];cases hz:zs[i]? with
    | none=>rw[hz] at e2;cases e2
    | some q=>rw[hz] at e2;cases e2;rw[e3];rfl
  rw[e1];have:∀l:List (List Key×Addr×Value),Vals (l.map λq=>V.ref q.2.1) (l.map λq=>Value.ref q.2.1):=λl=>by
   induction l with
   | nil=>exact .nil
   | cons q l ih=>exact .cons rfl ih
  exact this zs
 refine⟨.ref s.heap.objs.size,_,I.laid (t':=tk) hk (A2 _) (show ObjOk X.prog X.w _ h' _ (.lst _) from ⟨?_,J.toList,c',hv,hS⟩),rfl,k _ _ (I.hok.fresh (A2 _)) (ky rel)⟩;rw[List.length_map,← hl];exact z
end L2
namespace DL
open Spec PyProof.Rows L2
def kD:O8->D
 | .inl i=>.int i
 | .inr x=>.str x
def ktD(k:List O8):D:=.tup (k.map kD)
def ti0:List D->Option D
 | [.dct (.inr ks) _]=>some (.lst (ks.map ktD))
 | _=>none
theorem mj0:∀k:List O8,Rps K H B (k.map kD) (k.map kV)
 | []=>by rw[List.map_nil,List.map_nil,o6]
 | .inl i::k=>by rw[List.map_cons,List.map_cons,p8];exact⟨_,_,rfl,by unfold kD;rw[o9];rfl,mj0 k⟩
 | .inr i::k=>by rw[List.map_cons,List.map_cons,p8];exact⟨_,_,rfl,by unfold kD;rw[c7];rfl,mj0 k⟩
theorem en0(hb:∀a,B a->NB (H a)):∀{ks:List (List O8)} {ys:List V},KyV H ks ys->Rps K H B (ks.map ktD) ys
 | [],[],_=>by rw[List.map_nil,o6]
 | [],_::_,h=>h.elim
 | _::_,[],h=>h.elim
 | k::ks,y::ys,h=>by
  obtain⟨⟨b,rfl,e⟩,h2⟩:=h;rw[List.map_cons,p8];refine⟨_,_,rfl,?_,en0 hb h2⟩;unfold ktD;rw[Z4];exact⟨b,_,rfl,⟨λz=>(hb b z).nt _ e,e⟩,mj0 k⟩
theorem d80:FnR K (λxs H Q=>∃(d:Addr) (kvs:List (List Key×V)),xs=[.ref d]/\H d=some (.dT kvs)/\∀l ys,H l=none->KyV H (kvs.map (·.1)) ys->Q (.ref l) (upd H l (.lst ys))) ti0:=by
 intro H B xs ds d Q hb r h k;unfold ti0 at h;split at h
 ·cases h
  obtain⟨v,rfl,r1⟩:=zj0 r;rw[pr0] at r1;obtain⟨p,ys,rfl,_,hp,hl,rr⟩:=r1;refine⟨p,_,rfl,hp,λl zs J hk=>k _ _ (b7 J) ?_⟩;rw[List.map_fst_zip (S4 hl)] at hk;exact pu0 hb J (en0 hb hk)
 ·cases h
end DL
namespace L2
open Spec PyProof.Rows PySem.W
def Itv(K:W.Frag)(a:Addr)(n:Nat):It :=
 ⟨λi H=>∃xs x,SqL K H a xs/\xs.length=n/\i<n/\xs[n - 1 - i]?=some x,λi H x H'=>H'=H/\∀xs,SqL K H a xs->xs[n - 1 - i]?=some x,λi _=>n<=i⟩
theorem d90{P:Program}{w:World}{tg:Expr}(a it:Addr)(n:Nat):Turn P w K tg (Itv K a n) [it] it (λi h=>i<=n/\h.IsRevIter it a ((n:Int) - 1 - (i:Int))) where
 mem:=by simp
 obj:=λi h st b hb=>by
  have e:b=it:=by simpa using hb
  subst e;obtain⟨_,o,e,c,d⟩:=st;exact⟨o,e,λv z=>by rw[d] at z;cases z⟩
 keep:=λi h h' st k=>⟨st.1,st.2.at λo e=>k it (by simp) o e⟩
 item:=by
  intro X hP hw hK hc i pins s σ H E I hf st hg;subst hP hw hK;obtain⟨_,st⟩:=st;obtain⟨xs,x,hq,hn,hi,hx⟩:=hg;obtain⟨its,rv,p,hz⟩:=I.list hq;obtain⟨u,hu,ru⟩:=rv.get hx;obtain⟨f0,f1,f2,f3,f4,f5⟩:=hf it (by simp);have e1:(n:Int) - 1 - (i:Int)=((n - 1 - i:Nat):Int):=by omega
  rw[e1] at st;refine wpAny_pyNext_rev_item st p.isList (x:=u) (by simpa using hu) λh' J sb=>?_
  have e2:((n - 1 - i:Nat):Int) - 1=(n:Int) - 1 - ((i+1:Nat):Int):=by omega
  rw[e2] at J;have I1:Inv X pins σ H { s with heap:=h' }:=I.turned (t':=s.toks) (λb o hb e=>(sb.2 b hb).trans e) f0 f1 f3 f4 f5;obtain⟨o,e,c,d⟩:=id J;exact⟨u,rfl,m10 (s:={ s with heap:=h' }) e c d (by decide) ⟨x,H,I1,ru,⟨rfl,λys hy=>by rw[I.list_inj hy hq];exact hx⟩,⟨by omega,J⟩,λb hb=>(hf b hb).1⟩⟩
 done:=by
  intro X hP hw hK hc i pins s σ H E I hf st hg;subst hP hw hK;obtain⟨M,st⟩:=st;have hx:n=i:=Nat.le_antisymm hg M;subst hx;obtain⟨f0,f1,f2,f3,f4,f5⟩:=hf it (by simp);have e1:(n:Int) - 1 - (n:Int)=-1:=by omega
  rw[e1] at st;exact wpAny_pyNext_rev_end (I.ok.hd hc) st λh' eb=>⟨rfl,I.turned (t':=s.toks) (λb o hb e=>eb b o hb e) f0 f1 f3 f4 f5⟩
 self:=λ_ _ _ _ _ st h=>wpAny_pyIter_revIter st.2 h
section
variable{tg:Expr}
def Tv0(K:W.Frag)(ta:TA):TI:=fun σ H R=>ta σ H λvs H1=>∃a xs,vs=[.ref a]/\SqL K H1 a xs/\R (Itv K a xs.length) H1
theorem db0:bootBuiltins "reversed"=some (.type "reversed"):=by decide +kernel
theorem Xt0{a:Expr}{ta:TA}{p:Pos}(hg:Gl X "reversed")(hm:X.mg "reversed"=none)(ha:PA X [a] ta)(hs:starEach [a] X.env=(false,eval a X.env)::starEach [] X.env:=by rfl)(hpl:(backTo pos (starEach [] X.env)).any (·.1)=false:=by rfl) :
  PI X tg (.Call (.Name "reversed" p) [a] [] pos) (Tv0 X.K ta):=by
 intro pins s σ H R I h;refine Call_ (zf0 I hg hm db0 (E2 (thn (ha pos pins s σ H _ I h) λus s1 ⟨vs,H1,I1,r1,q1⟩=>?_) hs hpl));obtain⟨qa,xs,e,h1,q⟩:=q1;subst e;cases r1 with
 | cons r rr =>
  cases rr;obtain rfl:=r;obtain⟨us1,v1,p1,z1⟩:=I1.list h1;have hl:=v1.length;refine call_reversed_list p1.isList ?_;have hI:(s1.heap.push (revObj qa ((us1.toArray.size:Int) - 1))).IsRevIter s1.heap.objs.size qa ((us1.toArray.size:Int) - 1):=⟨_,C1 _ rfl,rfl,rfl⟩;refine wpAny_pyIter_revIter (s:={ s1 with heap:=s1.heap.push (revObj qa ((us1.toArray.size:Int) - 1)) }) hI ?_;refine⟨s1.heap.objs.size,[s1.heap.objs.size],_,_,H1,rfl,I1.kept (t':=s1.toks) λb o e=>B0 _ e,d90 qa _ xs.length,?_,λb hb=>?_,q⟩
  ·have e0:((xs.length:Int) - 1 - ((0:Nat):Int))=(us1.toArray.size:Int) - 1:=by simp[hl]
   refine⟨C4 _,?_⟩;rw[e0];exact hI
  ·have e:b=s1.heap.objs.size:=by simpa using hb
   subst e;exact I1.fpOk (A2 _) (I1.hok.fresh (A2 _))
end
end L2
namespace DL
open Spec PyProof.Rows L2
def pt0(gA:GA):GA:=fun δ=>(gA δ).bind λds=>match ds with
 | [.lst l]=>some l.reverse
 | _=>none
section
variable{a:Expr}{ga gb g:GE}{gA:GA}{tg:Expr}
theorem ao0(hm:X.mg "reversed"=none)(ha:PDA X [a] gA)(hg:Gl X "reversed" := by rfl)(hs:starEach [a] X.env=(false,eval a X.env)::starEach [] X.env:=by rfl)(hpl:(backTo pos (starEach [] X.env)).any (·.1)=false:=by rfl) :
  PID X tg (.Call (.Name "reversed" p) [a] [] pos) (pt0 gA):=.mk λB δ=>L2.PI.imp (Xt0 hg hm (ha B δ) hs hpl) fun σ H R ⟨items,en,e1,k⟩=>by
 unfold pt0 at e1;cases e2:gA δ with
 | none=>rw[e2] at e1;cases e1
 | some ds =>
  rw[e2] at e1;simp only[Option.bind_some] at e1;split at e1<;>try cases e1
  rename_i l;refine⟨_,en,e2,λvs H' s' r=>?_⟩;rw[p8] at r;obtain⟨x,t,rfl,r1,r⟩:=r;rw[o6] at r;subst r;rw[Z8] at r1;obtain⟨q,xs,rfl,sq,rs⟩:=r1;have hl:=rs.length;refine⟨q,xs,rfl,sq.to,k _ H' s' ⟨λi H2 g2 hi=>?_,λi H2 x H3 g2 y hi=>?_,λi H2 g2 hi=>?_⟩⟩
  ·rw[List.length_reverse] at hi
   have:xs.length - 1 - i<xs.length:=by omega
   exact⟨xs,xs[xs.length - 1 - i],(sq.mono g2).to,rfl,by omega,C8 this⟩
  ·obtain⟨e3,y⟩:=y
   subst e3;rw[List.length_reverse] at hi;have hj:l.length - 1 - i<l.length:=by omega
   obtain⟨y',e4,ry⟩:=rs.get (i:=l.length - 1 - i) (C8 hj);have ey:=y xs (sq.mono g2).to;rw[hl,e4] at ey;cases ey;refine⟨Same.refl _,l[l.length - 1 - i],?_,λB' gB hb=>ry.mono gB⟩;rw[List.getElem?_reverse hi,List.getElem?_eq_getElem hj]
  ·rw[List.length_reverse] at hi
   rw[hl];exact hi
end
end DL
namespace DL
open Spec PyProof.Rows L2
def me0:List (Addr×Obj)->Bool
 | []=>true
 | p::K=>(match p.2.cls with
  | .type n=>!(n == "list")
  | _=>true)&&me0 K
theorem jq0:∀{K:List (Addr×Obj)} {a:Addr} {o:Obj},me0 K=true->K.lookup a=some o->o.cls≠.type "list"
 | [],_,_,_,h=>nomatch h
 | (b,u)::K,a,o,h,e=>by
  unfold me0 at h;rw[Bool.and_eq_true] at h;rw[List.lookup_cons] at e;split at e
  ·cases e
   intro z;rw[z] at h;exact absurd h.1 (by decide)
  ·exact jq0 h.2 e
theorem script_at(hK:me0 K=true)(h:SqL K H a xs):SqL' K H (λ_=>False) a xs:=by
 rcases h with h|⟨o,its,n,e,c,_⟩
 ·exact .inl ⟨λz=>z,h⟩
 ·exact absurd c (jq0 hK e)
theorem c60{l:W.OpenLaw}{n k:Nat}{q:Program}{loose:List Str}{XP:(Str->Option Value)->Heap->Prop}{YP:World->Heap->Prop}{d:DefRec}{K:Params->W.Frag}{CX:CXT}{sp:W.Frag->Sp}{x:Str}
  (hn:l.most=some n) (hn2:n<=sizeLine) (hdf:d.params.defaults=[]) (hr:Room k callerA) (hY:∀(w:World) (h:Heap),YP w h->(K w.params).In h)
  (F:∀(w:World) (mg:Str->Option Value) (fa:Addr) (h:Heap),(K w.params).In h->h.Ns mainGlobals mg->mg d.name=some (.ref fa) ->
   ∃fd:FuncData,(∀(s:Shared) (u:Value),BindsTo s fd ⟨[u],[]⟩ [(x,u)])/\∀base:Heap,(K w.params).In base->base.Ns mainGlobals mg->FnOk l.prog w (K w.params) mg base CX k fa fd [x] (sp (K w.params)))
  (hsp:∀(w:World) (H:Hp) (a:Addr) (ns:List Int),ns.length<=n->SqL (K w.params) H a (ns.map V.int)->sp (K w.params) [.ref a] H (λv _=>v=.bl true) λ_ _ _=>False)
  (hCX:∀(H:Hp) (s:Shared) (e:Value) (s':Shared),CX [] H s (λ_ _ _=>False) e s'->False):W.WalkO q loose XP YP l.row.toRowW d [] (λf vs=>PySem.call f vs) :=
 Zi0 (K:=K) (CX:=λ_=>CX) (sp:=λw=>sp (K w.params)) hn hn2 hdf hr hY F (λw H a ns h1 _ h3=>hsp w H a ns h1 h3) λ_ H s e s'=>hCX H s e s'
end DL
namespace L2
open Spec PyProof.Rows
section
variable{w:World}{K:Type}[DecidableEq K]{knd:KeyKind prog w K}{A:Around}{s:Shared}
theorem iy0{b:Addr}{o1 o2:Obj}{es1 es2:Array DictEntry}{ep1 ep2:Nat}{id:String}{Q:Bool->Shared->Prop}(ha:(a==sysModules)=false)(hb:(b==sysModules)=false)
  (h1:s.heap.get? a=some o1) (d1:o1.data=.dict es1 ep1) (h2:s.heap.get? b=some o2) (d2:o2.data=.dict es2 ep2) (k2:KeysOf knd es2) (hn:es1.size=es2.size)
  (hk:∀i (hi:i<es1.size),∃k,knd.is k es1[i].key=true/\es1[i].hash=knd.hash k/\(es2.findIdx? λe=>knd.is k e.key)=some i)
  (v1 v2:Nat->Int) (e1:∀i (hi:i<es1.size),∃t,es1[i].val=.int (v1 i) t) (e2:∀i (hi:i<es2.size),∃t,es2[i].val=.int (v2 i) t)
  (h:Q ((List.range es1.size).all λi=>v1 i==v2 i) s):wpAny (model prog w) A (Builtin.Dict.samePairs id a b) Q E s:=by
 unfold Builtin.Dict.samePairs Builtin.Dict.showsAll;rw[if_neg (by rw[ha];exact B3),if_neg (by rw[hb];exact B3)];refine A0 (A1 (A0 (A1 (A0 (I0 h1 d1 (A0 (I0 h2 d2 ?_)))))));rw[if_neg (by rw[hn];simp)];refine A0 (Y1 h1 d1 ?_);refine A0 ?_;rw[Std.Legacy.Range.forIn_eq_forIn_range'];refine q5 _ (λrest (r:Option Bool×Unit) s'=>s'=s/\r.1=none/\∃i,rest=List.range' i (es1.size - i)/\i<=es1.size/\∀j,j<i->(v1 j==v2 j)=true) _ ?_ ?_ _ _ ⟨rfl,rfl,0,by simp[Std.Legacy.Range.size],C4 _,λj hj=>absurd hj (Nat.not_lt_zero _)⟩
 ·rintro x rest r s' ⟨rfl,hr,i,hx,hi,hp⟩
  have J:i<es1.size:=by
   rcases Nat.lt_or_ge i es1.size with z|z
   ·exact z
   ·rw[show es1.size - i=0 by omega] at hx;cases hx
  rw[show es1.size - i=(es1.size - (i+1))+1 by omega,List.range'_succ] at hx;cases hx;obtain⟨k,q1,q2,q3⟩:=hk x J;obtain⟨t1,w1⟩:=e1 x J;obtain⟨t2,w2⟩:=e2 x (by omega);refine A0 (I0 h1 d1 ?_);rw[Array.getElem?_eq_getElem J];dsimp only;refine A0 (B9 ?_);rw[q2];refine A0 (wpAny_dictFind_of q1 h2 d2 k2 ?_);rw[q3];dsimp only;refine A0 (I0 h2 d2 ?_);rw[Array.getElem?_eq_getElem (show x<es2.size by omega)];dsimp only;refine B9 ?_;rw[w1,w2];refine P8 (A:=A) (s:=s') _ _ _ _ prog w E _ ?_;cases hq:(v1 x==v2 x) with
  | false =>
   refine A1 ?_;show wpAny _ _ (pure false) _ _ s';refine A1 ?_
   rwa [show ((List.range es1.size).all λi=>v1 i==v2 i)=false from by
    rw[List.all_eq_false];exact⟨x,C3.mpr J,by rw[hq];exact B3⟩] at h
  | true =>
   simp only[Bool.not_true,Bool.false_eq_true,if_false];refine A0 (Y1 h1 d1 ?_);rw[if_neg (by simp)];refine A1 ⟨rfl,rfl,x+1,rfl,J,λj hj=>?_⟩;rcases Nat.lt_or_eq_of_le (Nat.le_of_lt_succ hj) with z|rfl
   ·exact hp j z
   ·exact hq
 ·rintro⟨r1,r2⟩ s' ⟨rfl,hr,i,hx,hi,hp⟩
  dsimp only at hr;subst hr;have M:i=es1.size:=by
   rcases Nat.lt_or_ge i es1.size with z|z
   ·rw[show es1.size - i=(es1.size - (i+1))+1 by omega,List.range'_succ] at hx;cases hx
   ·omega
  dsimp only;refine A1 ?_
  rwa [show ((List.range es1.size).all λi=>v1 i==v2 i)=true from by
   rw[List.all_eq_true];exact λj hj=>hp j (by rw[M];exact C3.mp hj)] at h
end
theorem Pairs.at_{w:World}{K:Type}[DecidableEq K]{knd:KeyKind prog w K}:∀{es:List DictEntry} {kvs:List (K×Value)},Pairs knd es kvs->∀(i:Nat) (e:DictEntry),es[i]?=some e->∃kv,kvs[i]?=some kv/\knd.is kv.1 e.key=true/\e.val=kv.2
 | _,_,.nil,i,e,h=>by simp at h
 | _,_,.cons h1 h2 t,0,e,h=>by cases h;exact⟨_,rfl,h1,h2⟩
 | _,_,.cons h1 h2 t,i+1,e,h=>by
  obtain⟨kv,a,b⟩:=Pairs.at_ t i e (by simpa using h);exact⟨kv,by simpa using a,b⟩
def Xu0:R2:=λx y H Q=>∃(a b:Addr) (ks:List Key) (m n:List Int),x=.ref a/\y=.ref b/\ks.length=m.length/\ks.length=n.length/\H a=some (.dK (ks.zip (m.map V.int)))/\H b=some (.dK (ks.zip (n.map V.int)))/\Q (.bl (decide (m≠n))) H
theorem nu0{m:List Int}{vs:List (Key×Value)}(hl:ks.length=m.length)(r:KV (ks.zip (m.map V.int)) vs){kv:Key×Value}(h:vs[i]?=some kv):ks[i]?=some kv.1/\∃t,kv.2=.int (m.getD i 0) t:=by
 obtain⟨p,e,h1,h2⟩:=DL.Pd.get r h;obtain⟨q1,q2⟩:=Af0.mp (show (ks.zip (m.map V.int))[i]?=some (p.1,p.2) from e);rw[List.getElem?_map] at q2;cases e3:m[i]? with
 | none=>rw[e3] at q2;cases q2
 | some z =>
  rw[e3] at q2;have e4:V.int z=p.2:=A8 q2;rw[← h1];refine⟨q1,?_⟩;rw[← e4] at h2;obtain⟨t,ht⟩:=(show ∃t,kv.2=Value.int z t from h2);exact⟨t,by rw[ht,List.getD_eq_getElem?_getD,e3];rfl⟩
theorem dk0:isSubtype (.type "dict") (.type "dict")=pure true:=by rw[isSubtype_type];kernel_rfl
theorem W80{k:Nat}{m n:List Int}(h:k=m.length)(h2:m.length=n.length):(((List.range k).all λi=>m.getD i 0==n.getD i 0)==false)=decide (m≠n):=by
 subst h
 by_cases e:m=n
 ·subst e
  rw[decide_eq_false (λz=>z rfl),show ((List.range m.length).all λi=>m.getD i 0==m.getD i 0)=true from List.all_eq_true.mpr λi _=>beq_self_eq_true _];rfl
 ·rw[decide_eq_true e,show ((List.range m.length).all λi=>m.getD i 0==n.getD i 0)=false from by
   cases hq:((List.range m.length).all λi=>m.getD i 0==n.getD i 0) with
   | false=>rfl
   | true =>
    refine absurd (P7 h2 λi a b=>?_) e;have:=N0 (List.all_eq_true.mp hq i (C3.mpr a))
    simpa [r0,a,b] using this]
  rfl
theorem Xz0(hu:X.A.units<cLine):OpR X (compareOp .NotEq) Xu0:=by
 intro pins s σ H x y v u Q I rx ry h;obtain⟨a,b,ks,m,n,rfl,rfl,l1,l2,ha,hb,q⟩:=h;cases (show v=Value.ref a from rx);cases (show u=Value.ref b from ry);obtain⟨_,a2,a3,r1,a1⟩:=q40 I.hok ha;obtain⟨_,a5,Z,r2,a0⟩:=q40 I.hok hb;have t1:=a1.typeIs;have t2:=a0.typeIs;obtain⟨o1,O,a6,g1,c1,d1,k1,p1,n1⟩:=a1;obtain⟨o2,J,a7,g2,c2,d2,k2,p2,n2⟩:=a0;have len:∀{vs:List (Key×Value)} {m:List Int} {es:Array DictEntry},ks.length=m.length->KV (ks.zip (m.map V.int)) vs->Pairs (Y9 X.prog X.w) es.toList vs->es.size=ks.length:=λ{vs m es} hl r p=>by
  have:=p.length;have h2:=S0 r;rw[List.length_zip,List.length_map] at h2;rw[Array.length_toList] at this;omega
 have s1:=len l1 r1 p1;have s2:=len l2 r2 p2;have e1:∀i (hi:i<O.size),∃kv,a3[i]?=some kv/\(Y9 X.prog X.w).is kv.1 O[i].key=true/\O[i].val=kv.2:=λi hi=>Pairs.at_ p1 i _ (by rw[Array.getElem?_toList,Array.getElem?_eq_getElem hi])
 have e2:∀i (hi:i<J.size),∃kv,Z[i]?=some kv/\(Y9 X.prog X.w).is kv.1 J[i].key=true/\J[i].val=kv.2:=λi hi=>Pairs.at_ p2 i _ (by rw[Array.getElem?_toList,Array.getElem?_eq_getElem hi])
 show wpAny _ _ (richCompare .NotEq (.ref a) (.ref b)) _ _ s;refine wpAny_richCompare_same_room t1 t2 De0 (D4 De0 t1 PySem.F.entry_dict_ne ?_ (PySem.F.args_dict_ne_2 _ _)) hu;show wpAny _ _ (Builtin.Dict.dictSlotArgs "__ne__" ⟨[.ref a,.ref b],[]⟩>>=_) _ _ s;unfold Builtin.Dict.dictSlotArgs;refine A0 (A0 (k0 t1 ?_));show wpAny _ _ (pure (Value.ref a,Value.ref b)) _ _ s;refine A1 ?_;dsimp only;refine A0 (R1 t2 dk0 ?_);simp only[Bool.not_true,Bool.false_eq_true,if_false];show wpAny _ _ (pure a>>=_) _ _ s;refine A0 (A1 ?_);show wpAny _ _ (pure b>>=_) _ _ s;refine A0 (A1 ?_);refine A0 (iy0 (knd:=Y9 X.prog X.w) a2 a5 g1 d1 g2 d2 k2 (s1.trans s2.symm) (λi hi=>?_) (λi=>m.getD i 0) (λi=>n.getD i 0) (λi hi=>?_) (λi hi=>?_) ?_)
 ·obtain⟨kv,q1,q2,q3⟩:=e1 i hi
  obtain⟨a4,w1,w2,w3⟩:=e2 i (by omega);obtain⟨x1,_⟩:=nu0 l1 r1 q1;obtain⟨x2,_⟩:=nu0 l2 r2 w1;rw[x1] at x2;have ek:kv.1=a4.1:=A8 x2;obtain⟨k',y1,y2⟩:=k1 O[i] (Array.getElem_mem hi);have:=(Y9 X.prog X.w).inj _ _ _ y1 q2;subst this;refine⟨kv.1,q2,y2,?_⟩;have fx:(J.findIdx? λe=>(Y9 X.prog X.w).is kv.1 e.key)=J.toList.findIdx? λe=>(Y9 X.prog X.w).is kv.1 e.key:=by
   obtain⟨l⟩:=J;simp
  rw[fx,p2.findIdx];have M:=(D0.mp w1);rw[List.findIdx?_eq_some_iff_getElem];refine⟨M.1,by rw[M.2];exact N3 ek.symm,λj hj=>?_⟩;intro z;have ez:=d4 z;have h1:(Z.map (·.1))[j]'(by rw[List.length_map];exact E4 hj M.1)=(Z.map (·.1))[i]'(by rw[List.length_map];exact M.1):=by
   rw[List.getElem_map,List.getElem_map,ez,M.2,ek]
  have:=(i5 n2).mp h1;omega
 ·obtain⟨kv,q1,q2,q3⟩:=e1 i hi
  obtain⟨_,t,e⟩:=nu0 l1 r1 q1;exact⟨t,q3.trans e⟩
 ·obtain⟨kv,q1,q2,q3⟩:=e2 i hi
  obtain⟨_,t,e⟩:=nu0 l2 r2 q1;exact⟨t,q3.trans e⟩
 ·refine A1 ⟨_,rfl,(λz=>nomatch z),.bl _,H,I,rfl,?_⟩
  rw[W80 (s1.trans l1) (l1.symm.trans l2)];exact q
end L2
namespace DL
open Spec PyProof.Rows L2
def xd0:List D->Option (List Int)
 | []=>some []
 | .int i::ds=>(xd0 ds).map λl=>i::l
 | _::_=>none
def neK:D->D->Option D
 | .dct (.inl ks) vs,.dct (.inl ls) ws=>if ks=ls then (xd0 vs).bind λm=>(xd0 ws).bind λn=>some (.bl (decide (m≠n))) else none
 | _,_=>none
theorem s90:∀{ds:List D} {m:List Int} {xs:List V},xd0 ds=some m->Rps K H B ds xs->xs=m.map V.int
 | [],m,xs,h,r=>by cases h;rw[o6] at r;exact r
 | d::ds,m,xs,h,r=>by
  cases d with
  | int i =>
   obtain⟨l,e1,e2⟩:=C6.mp (show (xd0 ds).map (λl=>i::l)=some m from h);subst e2;rw[p8] at r;obtain⟨x,ys,rfl,r1,r2⟩:=r;rw[o9] at r1;subst r1;rw[s90 e1 r2];rfl
  | _=>cases h
theorem ac0:Op2 K Xu0 neK:=by
 intro H B x y dx dy d Q hb rx ry h k;unfold neK at h;split at h
 ·rename_i ks vs ls ws
  split at h
  ·rename_i hk
   subst hk;cases e1:xd0 vs with
   | none=>rw[e1] at h;cases h
   | some m =>
    cases e2:xd0 ws with
    | none=>rw[e1,e2] at h;cases h
    | some n =>
     rw[e1,e2] at h;cases h;rw[ul0] at rx ry;obtain⟨a,xs,rfl,_,hx,l1,r1⟩:=rx;obtain⟨b,ys,rfl,_,hy,l2,r2⟩:=ry;have q1:=s90 e1 r1;have q2:=s90 e2 r2;subst q1 q2;rw[List.length_map] at l1 l2;exact⟨a,b,ks,m,n,rfl,rfl,l1,l2,hx,hy,k _ H (Same.refl H) (by rw[Y5])⟩
  ·cases h
 ·cases h
end DL
namespace L2
open Spec PyProof.Rows
section
variable{P:Program}{w:World}{h:Heap}
mutual
theorem i90(ok:HOk P w H h):∀(t:TrK.T) (v:V) (u:Value),TrH H t v->RelV v u->TrK.Is h t u
 | .non,v,u,x,r=>by unfold TrH at x;subst x;rw[TrK.M3];exact r
 | .int i,v,u,x,r=>by unfold TrH at x;subst x;rw[TrK.O4];exact r
 | .str y,v,u,x,r=>by unfold TrH at x;subst x;rw[TrK.O3];exact r
 | .tup l,v,u,x,r=>by
  unfold TrH at x;obtain⟨a,xs,rfl,e,q⟩:=x;cases (show u=Value.ref a from r);obtain⟨_,its,rv,o,h1,h2,n,h3,_⟩:=(show ObjOk P w H h a (.tup xs) from ok a _ e);rw[TrK.is_tup];exact⟨a,o,its.toArray,n,rfl,h1,h2,h3,by simpa using gl0 ok l xs its q rv⟩
theorem gl0(ok:HOk P w H h):∀(l:List TrK.T) (xs:List V) (us:List Value),TrHs H l xs->Vals xs us->TrK.Iss h l us
 | [],xs,us,x,r=>by
  unfold TrHs at x;subst x;cases r;rw[TrK.xl0]
 | t::l,xs,us,x,r=>by
  unfold TrHs at x;obtain⟨y,ys,rfl,x1,x2⟩:=x;cases r with
  | cons r1 r2 =>
   rw[TrK.J0];exact⟨_,_,rfl,i90 ok t _ _ x1 r1,gl0 ok l _ _ x2 r2⟩
end
theorem ih0{kvs:List (TrK.T×V)}(ok:HOk P w H h)(e:H a=some (.dX kvs)):kvs.length<=sizeLine/\(a==sysModules)=false /\
  ∃xs,Paired (λ(p:TrK.T×V) (q:TrK.T×Addr×Value)=>p.1=q.1/\TrH H p.1 (.ref q.2.1)/\TrK.dep p.1<=8/\RelV p.2 q.2.2) kvs xs/\h.DictOfH (TrK.kind P w) a xs:=by
 obtain⟨z,y,xs,r,o,es,ep,h1,h2,h3,h4,h5⟩:=(show ObjOk P w H h a (.dX kvs) from ok a _ e);refine⟨z,y,xs,r,o,es,ep,h1,h2,h3,h4,λx hx=>?_,h5⟩;have all:∀{l:List (TrK.T×V)} {m:List (TrK.T×Addr×Value)},Paired (λ(p:TrK.T×V) (q:TrK.T×Addr×Value)=>p.1=q.1/\TrH H p.1 (.ref q.2.1)/\TrK.dep p.1<=8/\RelV p.2 q.2.2) l m->∀x∈m,(TrK.kind P w).is h x.1 x.2.1:=by
  intro l m q
  induction q with
  | nil=>intro x hx;exact nomatch hx
  | @cons p q ps qs hq t ih =>
   intro x hx;rcases A4.mp hx with e|hx
   ·subst e
    rw[← hq.1];exact⟨i90 ok _ _ _ hq.2.1 rfl,hq.2.2.1⟩
   ·exact ih x hx
 exact all r x hx
theorem d70(h:Heap)(hb:sysModules<h.objs.size):ObjOk P w H (h.push { cls:=.type "dict",data:=.dict #[] }) h.objs.size (.dX []) :=
 ⟨C4 _,N4.mpr (B6 (A9 hb)),[],.nil,_,#[],0,C1 _ rfl,⟨rfl,rfl,rfl⟩,rfl,rfl,T0⟩
end
section
variable{w:World}{K:Type}[DecidableEq K]{knd:HeapKind prog w K}{A:Around}{s:Shared}{d:Addr}{xs:List (K×Addr×Value)}{k:K}
theorem de0(hu:knd.room A)(hkey:knd.is s.heap k a)(hm:s.heap.DictOfH knd d xs)(hsz:xs.length<=sizeLine)
  (h1:∀p,atKey xs k=some p->Q p.2 { s with toks:=s.toks+knd.draws k })
  (h2:atKey xs k=none->∀h',h'.DictOfH knd d (xs++[(k,a,v)])->Heap.SameBut d s.heap h'->Q v { s with heap:=h',toks:=s.toks+knd.draws k }) :
  wpAny (model prog w) A (dictSetDefault d (.ref a) v) Q E s:=by
 obtain⟨o,es,ep,ho,hc,hd,he,M,hn⟩:=hm;unfold dictSetDefault
 try with_reducible refine B9 ?_
 refine A0 (knd.pyHash hu hkey ?_);refine A0 (wpAny_dictFind_heap (s:={ s with toks:=s.toks+knd.draws k }) hu hkey ho hd he M hn ?_ ?_)
 ·intro O
  have J:=atKey_none_of_get O;have Z:k∉xs.map (·.1):=not_mem_keys_of_get O;refine A0 (D9 (A0 (wpAny_updateDictKeys (hz:=by have e:=size_of_entries he;omega) (s:={ s with toks:=s.toks+knd.draws k }) ho hd (A1 (h2 J _ ?_ (E5 ..))))));refine⟨_,_,ep+1,L4 _ ho (A60 (j3 hd _)),hc.mapDictKeys _,j3 hd _,by simp[he,entryOfKey],λx hx=>?_,?_⟩
  ·rcases B1.mp hx with hx|hx
   ·exact knd.keeps (M x hx) ho hd (E5 ..)
   ·rw[List.mem_singleton.mp hx];exact knd.keeps hkey ho hd (E5 ..)
  ·rw[List.map_append,List.nodup_append]
   exact⟨hn,by simp,λx hx y hy e=>Z (by rw[List.map_cons,List.map_nil,List.mem_singleton] at hy;have e2:x=k:=e.trans hy;rw[← e2];exact hx)⟩
 ·intro j p hj
  have a0:=atKey_of_get hn hj;refine A0 (I0 (s:={ s with toks:=s.toks+knd.draws k }) ho hd ?_);rw[entry_at he j,hj];exact A0 (D9 (A1 (h1 p a0)))
theorem e40(knd:HeapKind prog w K){k:K}{a:Addr}(d:Addr)(hd:(d==sysModules)=false)(dflt:Value) :
  MeetsIn prog w (Builtin.«dict.setdefault» ⟨[.ref d,.ref a,dflt],[]⟩) (λA R s=>knd.room A.in1/\knd.is s.heap k a/\∃xs,s.heap.DictOfH knd d xs/\xs.length<=sizeLine /\
   (∀p,atKey xs k=some p->R (.ok (.ret p.2)) { s with toks:=s.toks+knd.draws k }) /\
   (atKey xs k=none->∀h',h'.DictOfH knd d (xs++[(k,a,dflt)])->Heap.SameBut d s.heap h'->R (.ok (.ret dflt)) { s with heap:=h',toks:=s.toks+knd.draws k })) :=
 .of_wp λA R s ⟨hu,J,xs,hm,hz,h1,h2⟩=>by
  unfold Builtin.«dict.setdefault»;refine A0 ?_;unfold Builtin.Dict.keyAndDefault;refine A0 (k0 hm.typeIs ?_);show wpAny _ _ (pure (d,Value.ref a,some dflt)) _ _ s;refine A1 ?_;show wpAny _ _ (if (d==sysModules)=true then _ else (dictSetDefault d (.ref a) dflt>>=_)) _ _ s;rw[if_neg (by rw[hd];exact B3)];exact A0 (de0 hu J hm hz (λp hp=>A1 ⟨p.2,rfl,h1 p hp⟩) λhn h' O M=>A1 ⟨dflt,rfl,h2 hn h' O M⟩)
end
abbrev KX(H:Hp):List (TrK.T×V)->List (TrK.T×Addr×Value)->Prop:=Paired λp q=>p.1=q.1/\TrH H p.1 (.ref q.2.1)/\TrK.dep p.1<=8/\RelV p.2 q.2.2
theorem Wm0{kvs:List (TrK.T×V)}{xs:List (TrK.T×Addr×Value)}(r:KX H kvs xs)(k:TrK.T):RelO (S5 kvs k) ((atKey xs k).map (·.2)):=by
 induction r with
 | nil=>exact True.intro
 | @cons p q ps qs h t ih =>
  obtain⟨h1,_,_,h2⟩:=h
  by_cases e:p.1=k
  ·have e':q.1=k:=h1.symm.trans e
   have b:atKey (q::qs) k=some q.2:=by simp[atKey,List.find?_cons,e']
   rw[yi0 e,b];exact h2
  ·have e':¬q.1=k:=λz=>e (h1.trans z)
   have b:atKey (q::qs) k=atKey qs k:=by simp[atKey,List.find?_cons,e']
   rw[yd0 e,b];exact ih
section
variable{σ:St}{s:Shared}{b:Addr}{kvs:List (TrK.T×V)}{t:TrK.T}{v:V}{r:Value}{A:Around}
theorem Yp0(hu:A.units+10<cLine)(I:Inv X pins σ H s)(e:H a=some (.dX kvs))(ht:TrH H t (.ref b))(hdp:TrK.dep t<=8)(l:kvs.length<sizeLine)(rv:RelV v r)
  (h1:∀x,S5 kvs t=some x->∀w' s',Inv X pins σ H s'->RelV x w'->Q w' s') (h2:S5 kvs t=none->∀s',Inv X pins σ (upd H a (.dX (kvs++[(t,v)]))) s'->Q r s') :
  wpAny (model X.prog X.w) A (call (.builtin "dict.setdefault") [.ref a,.ref b,r]) Q E s:=by
 obtain⟨z,hd,xs,rel,dd⟩:=ih0 I.hok e;have hz:xs.length<=sizeLine:=by rw[← Paired.length rel];exact z
 have hv:=Wm0 rel t;refine call_meetsIn k6 dd.typeIs Cw0 (Cx0 _ _ _) (e40 (TrK.kind X.prog X.w) (k:=t) (a:=b) a hd r)
  ⟨by show A.units+1+8<cLine;omega,⟨i90 I.hok t _ _ ht rfl,hdp⟩,xs,dd,hz,λp hp=>?_,λhn h' J hs=>?_⟩
 ·rw[hp] at hv
  cases e1:S5 kvs t with
  | none=>rw[e1] at hv;exact hv.elim
  | some x=>rw[e1] at hv;exact h1 x e1 _ _ (I.tok _) hv
 ·rw[hn] at hv
  have e1:S5 kvs t=none:=by
   cases e1:S5 kvs t with
   | none=>rfl
   | some x=>rw[e1] at hv;exact hv.elim
  obtain⟨q,es,ep,hq,g2,g3,g4,_,g5⟩:=J;refine h2 e1 _ (vt0 I (by rw[e];exact True.intro) hs ⟨q,hq⟩ ⟨by rw[List.length_append,List.length_singleton];omega,hd,_,?_,q,es,ep,hq,g2,g3,g4,g5⟩);have keep:∀c ys,H c=some (.tup ys)->upd H a (.dX (kvs++[(t,v)])) c=some (.tup ys):=λc ys ec=>by
   rw[j7 (ik0 ec e (λz=>nomatch z))];exact ec
  exact Paired.snoc (Paired.mapP rel λp q z=>⟨z.1,TrH.mono keep _ _ z.2.1,z.2.2⟩) ⟨rfl,TrH.mono keep _ _ ht,hdp,rv⟩
end
def Vn0(td ty tx:TE):TE:=fun σ H Q=>td σ H λx H1=>∃a,x=.ref a/\(∃kvs,H1 a=some (.dX kvs))/\ty σ H1 λy H2=>tx σ H2 λz H3=>∃kvs t b,H3 a=some (.dX kvs)/\y=.ref b/\TrH H3 t y/\TrK.dep t<=8/\kvs.length<sizeLine /\
 (∀v,S5 kvs t=some v->Q v H3)/\(S5 kvs t=none->Q z (upd H3 a (.dX (kvs++[(t,z)]))))
section
variable{f:Expr}{td ty:TE}
theorem Zy0(hu:X.A.units+12<cLine)(ho:PE X o td)(he:PE X e ty)(hf:PE X f tx)(m:M2 X o "setdefault" apos e f cpos):PE X (.Call (.Attribute o "setdefault" apos) [e,f] [] cpos) (Vn0 td ty tx):=by
 intro pins s σ H Q I h;refine wpAny_Call_method m.base m.few m.line Cz0 k6 D00 (thn (ho pins s σ H _ I h) λu s1 ⟨x,H1,I1,rx,a,ex,⟨O,d⟩,q1⟩=>?_);subst ex;cases (show u=Value.ref a from rx);obtain⟨_,_,M,_,J⟩:=ih0 I1.hok d;refine⟨J.typeIs,λb q=>by cases q;obtain⟨ob,_,_,g1,g2,_⟩:=J;exact⟨ob,g1,g2.2.1⟩,?_⟩;rw[m.trees];refine i9 rfl (A30 (K2 (thn (he pins s1 σ H1 _ I1 q1) λiv s2 ⟨y,H2,I2,ry,q2⟩=>K2 (thn (hf pins s2 σ H2 _ I2 q2) λfv s3 ⟨z,H3,I3,rz,kvs,t,b,ea,ey,ht,hd,l,q3,q4⟩=>N9 ?_))));subst ey;cases (show iv=Value.ref b from ry);exact Yp0 (by omega) I3 ea ht hd l rz (λx ex w' s4 I4 r4=>⟨x,H3,I4,r4,q3 x ex⟩) λen s4 I4=>⟨z,_,I4,rz,q4 en⟩
end
end L2
namespace DL
open Spec PyProof.Rows L2
mutual
theorem ba0:∀(d:D) (v:V) (t:TrK.T),Rp K H B d v->toT d=some t->TrH H t v
 | .non,v,t,r,e=>by unfold toT at e;cases e;rw[X5] at r;unfold TrH;exact r
 | .int i,v,t,r,e=>by unfold toT at e;cases e;rw[o9] at r;unfold TrH;exact r
 | .str x,v,t,r,e=>by unfold toT at e;cases e;rw[c7] at r;unfold TrH;exact r
 | .tup ds,v,t,r,e=>by
  unfold toT at e;obtain⟨l,e1,e2⟩:=C6.mp e;subst e2;rw[Z4] at r;obtain⟨a,xs,rfl,q,rs⟩:=r;unfold TrH;exact⟨a,xs,rfl,q.2,gf0 ds xs l rs e1⟩
 | .bl _,v,t,r,e=>by unfold toT at e;cases e
 | .lst _,v,t,r,e=>by unfold toT at e;cases e
 | .dct _ _,v,t,r,e=>by unfold toT at e;cases e
 | .fn _ _,v,t,r,e=>by unfold toT at e;cases e
theorem gf0:∀(ds:List D) (xs:List V) (l:List TrK.T),Rps K H B ds xs->U9 ds=some l->TrHs H l xs
 | [],xs,l,r,e=>by unfold U9 at e;cases e;rw[o6] at r;unfold TrHs;exact r
 | d::ds,xs,l,r,e=>by
  unfold U9 at e;cases e1:toT d with
  | none=>rw[e1] at e;cases e
  | some t =>
   rw[e1,Option.bind_some] at e;obtain⟨m,e2,e3⟩:=C6.mp e;subst e3;rw[p8] at r;obtain⟨x,ys,rfl,r1,r2⟩:=r;unfold TrHs;exact⟨x,ys,rfl,ba0 d x t r1 e1,gf0 ds ys m r2 e2⟩
end
theorem ot0:∀{ks:List D} {ts:List TrK.T} {d:D} {t:TrK.T},U9 ks=some ts->toT d=some t->U9 (ks++[d])=some (ts++[t])
 | [],ts,d,t,h,e=>by
  unfold U9 at h;cases h;rw[List.nil_append,List.nil_append];unfold U9;rw[e,Option.bind_some];unfold U9;rfl
 | k::ks,ts,d,t,h,e=>by
  unfold U9 at h;cases e1:toT k with
  | none=>rw[e1] at h;cases h
  | some u =>
   rw[e1,Option.bind_some] at h;obtain⟨m,e2,e3⟩:=C6.mp h;subst e3;rw[List.cons_append,List.cons_append];unfold U9;rw[e1,Option.bind_some,ot0 e2 e];rfl
def zp0:List TrK.T->List D->TrK.T->Option D
 | t'::ts,v::vs,t=>if t'=t then some v else zp0 ts vs t
 | _,_,_=>none
theorem ll0{t:TrK.T}:∀{ts:List TrK.T} {vs:List D} {xs:List V},ts.length=xs.length->Rps K H B vs xs->(∀r,zp0 ts vs t=some r->∃v,S5 (ts.zip xs) t=some v/\Rp K H B r v)/\(zp0 ts vs t=none->S5 (ts.zip xs) t=none)
 | [],vs,xs,hl,r=>by
  cases xs with
  | nil=>exact⟨(λr h=>by unfold zp0 at h;cases h),λ_=>rfl⟩
  | cons=>cases hl
 | t'::ts,[],xs,hl,r=>by rw[o6] at r;subst r;cases hl
 | t'::ts,v::vs,xs,hl,r=>by
  rw[p8] at r;obtain⟨x,ys,rfl,r1,r2⟩:=r;rw[List.zip_cons_cons];unfold zp0
  by_cases e:t'=t
  ·rw[if_pos e,yi0 e]
   exact⟨(λr h=>by cases h;exact⟨x,rfl,r1⟩),(λh=>by cases h)⟩
  ·rw[if_neg e,yd0 e]
   exact ll0 (by simpa using hl) r2
def xj0(i:Nat)(gk g:GE):GX:=fun δ=>match δ[i]? with
 | some (.ow (.tup [.lst ks,.lst vs]))=>(gk δ).bind λdk=>(g δ).bind λd=>match dk with
  | .tup ds=>(toT (.tup ds)).bind λt=>(U9 ks).bind λts=>if TrK.dep t<=8/\ks.length<sizeLine then (match zp0 ts vs t with
   | some r=>some (r,δ)
   | none=>some (d,δ.set i (.ow (.tup [.lst (ks++[.tup ds]),.lst (vs++[d])])))) else none
  | _=>none
 | _=>none
theorem rh0:∀{ks:List D} {ts:List TrK.T},U9 ks=some ts->ts.length=ks.length
 | [],ts,h=>by unfold U9 at h;cases h;rfl
 | k::ks,ts,h=>by
  unfold U9 at h;cases e1:toT k with
  | none=>rw[e1] at h;cases h
  | some u =>
   rw[e1,Option.bind_some] at h;obtain⟨m,e2,e3⟩:=C6.mp h;subst e3;rw[List.length_cons,List.length_cons,rh0 e2]
section
variable{f:Expr}{g:GE}
theorem ja0(i:Nat)(hu:X.A.units+12<cLine)(h0:PD X e g0)(h:PD X f g)(hN:X.N[i]?=some x:=by rfl)(hv:Vis X.env.scope x:=by first|exact Or.inl rfl|exact Or.inr (Or.inl rfl)|exact Or.inr (Or.inr rfl))(hd:(x==("__debug__" : Str))=false:=by decide)(hcd:(x==("__classdict__" : Str))=false:=by decide)
  (hbase:attributeBase (.Name x px) "setdefault" X.env (eval (.Name x px) X.env)=eval (.Name x px) X.env:=by rfl)
  (hfew:((backTo cpos (starEach [e,f] X.env)).all (λx=>!x.1)&&(backToKw cpos (keywordEach [] X.env)).all (λx=>x.1.isSome)
  &&decide (([e,f]:List Expr).length+([]:List Keyword).length+(if ([]:List Keyword).isEmpty then 0 else 1)<30))=true:=by rfl)
  (hline:(apos.endLine==cpos.line)=true:=by rfl) (htrees:backTo cpos (starEach [e,f] X.env)=[(false,eval e X.env),(false,eval f X.env)]:=by rfl) :
  PX X (.Call (.Attribute (.Name x px) "setdefault" apos) [e,f] [] cpos) (xj0 i g0 g):=.mk λH₀ B₀ δ pins s σ H Q I ⟨r,en,e1,k⟩=>by
 unfold xj0 at e1;obtain⟨B,b1,b2,env⟩:=en.ex;split at e1
 ·rename_i ks vs hi
  cases e4:g0 δ with
  | none=>rw[e4] at e1;cases e1
  | some dk =>
   cases e3:g δ with
   | none=>rw[e4,e3] at e1;cases e1
   | some d =>
    rw[e4,e3] at e1;simp only[Option.bind_some] at e1;split at e1
    ·rename_i ds
     cases e5:toT (.tup ds) with
     | none=>rw[e5] at e1;cases e1
     | some t =>
      cases e6:U9 ks with
      | none=>rw[e5,e6] at e1;cases e1
      | some ts =>
       rw[e5,e6] at e1;simp only[Option.bind_some] at e1;split at e1
       ·rename_i hz
        obtain⟨p,a0,hb,rl⟩:=env.at hi;obtain⟨_,q,_⟩|⟨a3,a2,q,a4,xs,q1,hx,hl,rx⟩:=rl
        ·cases q
        ·cases q
         rw[e6] at q1;cases q1;refine Zy0 hu (G8 (i:=i) hN hv hd hcd) (h0 B δ) (h B δ) ⟨hbase,hfew,hline,htrees⟩ pins s σ H Q I ⟨_,a0,p,rfl,⟨_,hx⟩,_,env,e4,λiv H1 s1 r1=>⟨d,env.same s1,e3,λfv H2 s2 r2=>?_⟩⟩;have J:=s1.trans s2;have rk:=r1.same s2;have ht:=ba0 _ _ t rk e5;rw[Z4] at r1;obtain⟨b,zs,rfl,_⟩:=r1;obtain⟨v1,v2⟩:=ll0 (t:=t) hl (rx.same J);refine⟨_,t,b,J _ _ hx,rfl,ht,hz.1,by rw[List.length_zip,← hl,Nat.min_self,rh0 e6];exact hz.2,λv Z=>?_,λhn=>?_⟩
         ·cases e7:zp0 ts vs t with
          | none=>rw[v2 e7] at Z;cases Z
          | some w =>
           rw[e7] at e1;cases e1;obtain⟨v',M,rv⟩:=v1 w e7;rw[Z] at M;cases M;exact k v H2 (EnvV.mk' (en.grow J) b1 b2 (env.same J) rv)
         ·cases e7:zp0 ts vs t with
          | some w=>obtain⟨v',M,_⟩:=v1 w e7;rw[hn] at M;cases M
          | none =>
           rw[e7] at e1;cases e1;have a1:ts.zip xs++[(t,fv)]=(ts++[t]).zip (xs++[fv]):=by rw[List.zip_append hl];rfl
           rw[a1];have rr:Rps X.K H2 B (vs++[d]) (xs++[fv]):=Rps.snoc (rx.same J) r2;have O:Env X.K (upd H2 p (.dX ((ts++[t]).zip (xs++[fv])))) B σ (δ.set i (.ow (.tup [.lst (ks++[.tup ds]),.lst (vs++[d])]))) :=
            (env.same J).mut hi a0 (.inr ⟨_,_,rfl,ts++[t],xs++[fv],ot0 e6 e5,m8,by rw[List.length_append,List.length_append,hl];rfl,rr.mono (Gr.own hb)⟩)
           exact k _ _ (EnvV.mk' (en.mut J b1 b2 hi a0 O) b1 b2 O (r2.mono (Gr.own hb)))
       ·cases e1
    ·cases e1
 ·cases e1
end
end DL
namespace L2
open Spec PyProof.Rows PySem.W
section
variable{w:World}{K:Type}[DecidableEq K]{knd:HeapKind prog w K}{A:Around}{s:Shared}{d:Addr}{xs:List (K×Addr×Value)}
theorem h80(knd:HeapKind prog w K)(d:Addr)(hd:(d==sysModules)=false) :
  MeetsIn prog w (Builtin.«dict.__len__» ⟨[.ref d],[]⟩) (λ_ R s=>∃xs,s.heap.DictOfH knd d xs/\R (.ok (.ret (.int xs.length s.toks))) { s with toks:=s.toks+1 }) :=
 .of_wp λA R s ⟨xs,hm,h⟩=>by
  obtain⟨o,es,ep,ho,hc,J,he,M,hn⟩:=hm;show wpAny _ _ (dictSize d>>=_) _ _ s;unfold dictSize;refine A0 (A0 (I0 ho J (A1 ?_)));show wpAny _ _ (Builtin.Dict.pendingCount d>>=_) _ _ s;refine A0 (wpAny_pendingCount_other hd ?_);refine p5 ?_;rw[Nat.add_zero,size_of_entries he];exact h
theorem Vp0(hd:(d==sysModules)=false)(hm:s.heap.DictOfH knd d xs)(hfit:(xs.length:Int)<2 ^ 63)(h:Q (.int xs.length (s.toks+1)) { s with toks:=s.toks+1+1 }):wpAny (model prog w) A (call (.builtin "len") [.ref d]) Q E s:=by
 refine D20 kind_len plain_len entry_len (args_len1 _) ?_;unfold Builtin.«len»;refine A0 (m:=oneArg "len" _) (A1 ?_);refine A0 (m:=callSpecial? (.ref d) (Str.ofString "__len__")) (L3 (name:=Str.ofString "__len__") hm.typeIs Df0
  (call_meetsIn Df0 hm.typeIs PySem.F.entry_dict_len (PySem.F.args_dict_len_1 _) (h80 knd d hd) ⟨xs,hm,?_⟩))
 show wpAny _ _ _ _ _ { s with toks:=s.toks+1 };refine A0 (B9 (A1 ?_));refine A0 (wpAny_letGo ?_);show wpAny _ _ (if ((xs.length:Nat):Int)<0 then _ else _) _ _ _;rw[if_neg (by omega)];show wpAny _ _ (if ((xs.length:Nat):Int) ≥ 2 ^ 63 then _ else _) _ _ _;rw[if_neg (by omega)];exact A0 (wpAny_mkInt (A1 ⟨_,rfl,h⟩))
end
theorem fw0:CallR X (.builtin "len") (λxs H Q=>∃(p:Addr) (kvs:List (TrK.T×V)),xs=[.ref p]/\H p=some (.dX kvs)/\Q (.int kvs.length) H):=by
 intro pins s σ H xs us Q I r h;obtain⟨p,kvs,rfl,hq,q⟩:=h;obtain⟨u,rfl,rx⟩:=vals1 r;cases rx;have hn:=w70;obtain⟨z,hd,vs,rel,dd⟩:=ih0 I.hok hq;have hl:=S0 rel;exact Vp0 hd dd (by omega) ⟨.int kvs.length,H,I.tok _,⟨s.toks+1,by rw[hl]⟩,q⟩
def Xr0:TE:=λ_ H Q=>∀p,H p=none->Q (.ref p) (upd H p (.dX []))
theorem cc0:PE X (.Dict [] [] pos) Xr0:=λpins s σ H Q I h =>
 A50 ⟨.ref s.heap.objs.size,_,I.laid (a:=s.heap.objs.size) (o:=.dX []) (t':=s.toks) (λ_ _ q=>B0 _ q) (A2 _) (d70 s.heap I.big),rfl,h _ (I.hok.fresh (A2 _))⟩
end L2
namespace DL
open Spec PyProof.Rows L2
section
variable{σ σ':St}
theorem EnvS.takeL(en:EnvS K H₀ B₀ H σ δ)(b1:∀a,B₀ a->B a)(b2:∀a,B a->B₀ a∨H₀ a=none)(e:Env K H B σ δ)(i:Nat){d:D}{p:Addr}(hp:H p=none)(s:Same H H')
  (r:RpL K H' (λa=>B a∨a=p) d p):EnvS K H₀ B₀ H' (σ.set i (some (.ref p))) (δ.set i (.ow d)):=by
 have g:Gr H H' B (λa=>B a∨a=p):=λb u n h=>⟨λz=>z.elim n (T4 h hp),s _ _ h⟩
 have J:H₀ p=none:=en.same.free hp;have live:∀{j:Nat} {d':D} {b:Addr},δ[j]?=some (.ow d')->σ[j]?=some (some (.ref b))->b≠p:=λ{j d' b} h1 h2=>by
  obtain⟨a,q1,q2,q3⟩:=e.at h1;rw[h2] at q1;cases q1;exact λz=>e.bad _ q2 (by rw[z];exact hp)
 refine⟨en.same.trans s,⟨λa=>B a∨a=p,λa z=>.inl (b1 a z),λa z=>?_,?_,λa z=>?_,λj k a ds es h1 h2 h3 h4=>?_⟩,λj ds a h1 h2=>?_,en.b0⟩
 ·rcases z with z|rfl
  ·exact b2 a z
  ·exact .inr J
 ·refine Pd.set ⟨p,rfl,.inr rfl,r⟩ i (Pd.imp (λo sl h=>?_) e.all)
  cases sl with
  | un=>trivial
  | ex c n=>obtain⟨v,e,r⟩:=h;exact⟨v,e,r.mono g⟩
  | sh d=>obtain⟨v,e,r⟩:=h;exact⟨v,e,r.mono g⟩
  | ow d=>obtain⟨b,e,M,r⟩:=h;exact⟨b,e,.inl M,r.mono (λo h=>s _ _ h) g⟩
 ·rcases z with z|rfl
  ·exact(e.bad a z).same s
  ·exact r.live
 ·rcases get_set h1 with⟨rfl,_,_⟩|⟨n1,h1⟩
  ·rcases get_set h2 with⟨rfl,_,_⟩|⟨n2,h2⟩
   ·rfl
   ·rcases get_set h3 with⟨_,e3,_⟩|⟨n3,_⟩
    ·cases e3
     rw[List.getElem?_set_ne n2] at h4;exact absurd rfl (live h2 h4)
    ·exact absurd rfl n3
  ·rcases get_set h2 with⟨rfl,_,_⟩|⟨n2,h2⟩
   ·rcases get_set h4 with⟨_,e4,_⟩|⟨n4,_⟩
    ·cases e4
     rw[List.getElem?_set_ne n1] at h3;exact absurd rfl (live h1 h3)
    ·exact absurd rfl n4
   ·rw[List.getElem?_set_ne n1] at h3
    rw[List.getElem?_set_ne n2] at h4;exact e.own j k a ds es h1 h2 h3 h4
 ·rcases get_set h1 with⟨rfl,_,_⟩|⟨n1,h1⟩
  ·rcases get_set h2 with⟨_,e3,_⟩|⟨n3,_⟩
   ·cases e3;exact J
   ·exact absurd rfl n3
  ·rw[List.getElem?_set_ne n1] at h2
   exact en.fr j ds a h1 h2
end
def z30(i:Nat):GE:=fun δ=>match δ[i]? with
 | some (.ow (.tup [.lst ks,.lst _]))=>some (.int ks.length)
 | _=>none
def o10(i:Nat):GS:=fun δ=>some (.nx (δ.set i (.ow (.tup [.lst [],.lst []]))))
theorem sr0(i:Nat)(hm:X.mg "len"=none)(hN:X.N[i]?=some x:=by rfl)(hv:Vis X.env.scope x:=by first|exact Or.inl rfl|exact Or.inr (Or.inl rfl)|exact Or.inr (Or.inr rfl))(hd:(x==("__debug__" : Str))=false:=by decide)(hcd:(x==("__classdict__" : Str))=false:=by decide)
  (hg:Gl X "len" := by rfl) (he:starEach [.Name x px] X.env=(false,eval (.Name x px) X.env)::starEach [] X.env:=by rfl) (hpl:(backTo pos (starEach [] X.env)).any (·.1)=false:=by rfl) :
  PD X (.Call (.Name "len" p) [.Name x px] [] pos) (z30 i):=.mk λB δ=>(up0 fw0 hg hm j0 (K3 (G8 (i:=i) hN hv hd hcd) yx0 he) (by decide) (by decide) he hpl).imp fun σ H Q ⟨d,en,h,k⟩=>by
 unfold z30 at h;split at h
 ·rename_i ks vs hi
  cases h;obtain⟨a,hs,hb,rl⟩:=en.at hi;obtain⟨_,q,_⟩|⟨J,M,q,ts,xs,q1,hx,hl,rx⟩:=rl
  ·cases q
  ·cases q
   refine⟨_,hs,a,_,rfl,hx,k _ H (Same.refl H) ?_⟩;rw[o9,List.length_zip,← hl,Nat.min_self,rh0 q1]
 ·cases h
theorem md0(i:Nat)(hN:X.N.Nodup)(hi:X.N[i]?=some x:=by rfl)(hx:Loc X.env.scope x:=by first|exact Or.inl rfl|exact Or.inr rfl)
  (hs:swapsWithSole [.Name x px] (.Dict [] [] p) pos.line X.env=pure false:=by rfl) (hw:swappedStores [.Name x px] (.Dict [] [] p) X.env=pure none:=by rfl)
  (h1:(assignEach [.Name x px] X.env).map (·.2)=[assign (.Name x px) X.env]:=by rfl)
  (hf:X.fn x=true∨X.env.scope.names.lookup x=some .local:=by first|exact .inl rfl|exact .inr rfl|assumption):PSD X (.Assign [.Name x px] (.Dict [] [] p) pos) (o10 i):=.mk λH₀ B₀ δ pins s σ H De I ⟨r,en,e1,k⟩=>by
 unfold o10 at e1;obtain⟨B,b1,b2,env⟩:=en.ex;cases e1;refine p20 cc0 (uk0 (i:=i) hN hi hx hf) hs hw h1 pins s σ H De I λq hq=>k _ _ (en.takeL b1 b2 env i hq (b7 hq) (.inr ⟨_,_,rfl,[],[],by unfold U9;rfl,m8,rfl,by rw[o6]⟩))
end DL
namespace W
open DL
def hasAll(x s:Str):Bool:=x.cps.toList.all λc=>decide (c∈s.cps.toList)
def nameS:Str := "0123456789abcdefghijklmnopqrstuvwxyz"
def m30:Str := " 0123456789abcdefghijklmnopqrstuvwxyz"
def isName(x:Str):Bool:=(decide ((x.length:Int)<=8)&&hasAll x nameS)&&decide (0<(x.length:Int))
def isWord(x:Str):Bool:=decide ((x.length:Int)<=20)&&hasAll x m30
def marks(x:D)(m:Str):Bool:=match x with
 | .str y=>decide (y=m)
 | _=>false
def pe0:D->Bool
 | .non=>true
 | .int _=>true
 | .tup [x,.int i]=>marks x "at"&&decide (0<=i)
 | _=>false
def Tl0:D->Str
 | .tup (.str n::_)=>n
 | _ => ""
inductive Pt where
 | text (w:Str)|row (vs:List D)|table (ps:List (Str×D))|rcd (c:Str) (ps:List (Str×D))
variable{ps qs:List W.Pt}
def pr(p:Str×D):D:=.tup [.str p.1,p.2]
def Pt.d:Pt->D
 | .text w=>.tup [.str "text",.str w]
 | .row vs=>.tup [.str "row",.tup vs]
 | .table ps=>.tup [.str "table",.tup (ps.map pr)]
 | .rcd c ps=>.tup [.str "record",.str c,.tup (ps.map pr)]
def Pt.vals:Pt->List D
 | .text _=>[]
 | .row vs=>vs
 | .table ps=>ps.map (·.2)
 | .rcd _ ps=>ps.map (·.2)
def Pt.pnames:Pt->List Str
 | .text _=>[]
 | .row _=>[]
 | .table ps=>ps.map (·.1)
 | .rcd _ ps=>ps.map (·.1)
def Pt.cls:Pt->List Str
 | .rcd c _=>[c]
 | _=>[]
def Pt.all(p:Pt):List Str:=p.pnames++p.cls
def lk:D->Option Int
 | .tup [_,.int i]=>some i
 | _=>none
structure PsOk(ps:List (Str×D)):Prop where
 len:ps.length<=12
 names:∀p∈ps,isName p.1=true
 vals:∀p∈ps,pe0 p.2=true
 nd:(ps.map (·.1)).Nodup
def Pt.Ok:Pt->Prop
 | .text w=>isWord w=true
 | .row vs=>vs.length<=12/\∀v∈vs,pe0 v=true
 | .table ps=>PsOk ps
 | .rcd c ps=>isName c=true/\PsOk ps
theorem ig0{n:Str}(h:isName n=true):n.length<=8:=by
 unfold isName at h;simp only[Bool.and_eq_true,decide_eq_true_eq] at h;omega
theorem k40(ps:List (Str×D)):R4 (gN 0) noT (o2 (gv 0) (gc (.int 1)) ixD) [.un] (ps.map pr)=some (ps.map (·.2)):=by
 rw[R8 (λd=>match d with|.tup [_,v]=>v|_=>.non) (λd hd=>by
  obtain⟨p,hp,rfl⟩:=A7.mp hd;exact⟨[.sh (pr p)],rfl,rfl,rfl⟩),List.map_map]
 rfl
theorem k90(ps:List (Str×D)):R4 (gN 0) noT (o2 (gv 0) (gc (.int 0)) ixD) [.un] (ps.map pr)=some ((ps.map (·.1)).map .str):=by
 rw[R8 (λd=>.str (Tl0 d)) (λd hd=>by
  obtain⟨p,hp,rfl⟩:=A7.mp hd;exact⟨[.sh (pr p)],rfl,rfl,rfl⟩),List.map_map,List.map_map]
 rfl
def Pt.few(p:Pt):Prop:=p.vals.length<=sizeLine
theorem nc0{v:D}(h:pe0 v=true):v=.non∨(∃i,v=.int i)∨∃i,v=.tup [.str "at",.int i]/\0<=i:=by
 cases v with
 | non=>exact .inl rfl
 | int i=>exact .inr (.inl ⟨i,rfl⟩)
 | tup xs =>
  match xs,h with
  | [x,.int i],h =>
   simp only[pe0,Bool.and_eq_true,decide_eq_true_eq] at h;cases x<;>simp[marks] at h
   exact .inr (.inr ⟨i,by rw[h.1],h.2⟩)
 | _=>cases h
def U4:Str := "abcdefghijklmnopqrstuvwxyz0123456789"
def cg(i:Int):Nat:=U4.cps.toList.getD i.toNat 0
theorem jg0(i:Int)(h0:0<=i)(h1:i<36):ixD (.str U4) (.int i)=some (.str ⟨#[cg i]⟩):=by
 have hl:U4.cps.toList.length=36:=by decide +kernel
 have hz:U4.length<=sizeLine:=by decide +kernel
 have:=zc0 (xs:=U4.cps.toList) (i:=i) h0 (by rw[hl];omega) 0;simp only[ixD,if_pos hz,this,Option.map_some];rfl
theorem fp0(i:Int)(h0:0<=i)(h1:i<36):cg i∈nameS.cps.toList:=by
 have h:∀n:Nat,n<36->U4.cps.toList.getD n 0∈nameS.cps.toList:=by decide +kernel
 exact h i.toNat (by omega)
theorem Wo0(i j:Int)(h0:0<=i)(h1:i<36)(h2:0<=j)(h3:j<36)(e:cg i=cg j):i=j:=by
 have h:∀n:Nat,n<36->∀m:Nat,m<36->U4.cps.toList.getD n 0=U4.cps.toList.getD m 0->n=m:=by decide +kernel
 have:=h i.toNat (by omega) j.toNat (by omega) e;omega
def ones(l:List Nat):List Str:=l.map λc=>⟨#[c]⟩
def strOf(l:List Nat):Str:=⟨l.toArray⟩
theorem join_ones(l:List Nat):Txt.join "" (ones l)=strOf l:=by
 have key:∀(l:List Nat) (J:List Nat),(ones l).foldl (λa p=>a++("" : Str).cps++p.cps) J.toArray=(J++l).toArray:=by
  intro l
  induction l with
  | nil=>intro J;simp[ones]
  | cons c l ih =>
   intro J;show (ones l).foldl _ (J.toArray++("" : Str).cps++#[c])=_;have e:J.toArray++("" : Str).cps++#[c]=(J++[c]).toArray:=by
    have:("" : Str).cps=#[]:=rfl;rw[this];simp
   rw[e,ih];simp
 cases l with
 | nil=>rfl
 | cons c l =>
  show (⟨_⟩:Str)=_;unfold strOf;congr 1;exact key l [c]
theorem oz0:∀l:List Nat,((ones l).map (·.length)).sum=l.length
 | []=>rfl
 | c::l=>by
  show 1+((ones l).map (·.length)).sum=l.length+1;rw[oz0 l];omega
theorem n90(l:List Nat)(h1:0<l.length)(h2:l.length<=8)(h3:∀c∈l,c∈nameS.cps.toList):isName (strOf l)=true:=by
 unfold isName hasAll;have e:(strOf l).length=l.length:=by show l.toArray.size=_;simp
 have e2:(strOf l).cps.toList=l:=by simp[strOf]
 rw[e,e2];simp only[Bool.and_eq_true,decide_eq_true_eq,List.all_eq_true];exact⟨⟨by omega,λc hc=>by simpa using h3 c hc⟩,by omega⟩
theorem om0{l m:List Nat}(h:strOf l=strOf m):l=m:=by
 unfold strOf at h;injection h with h
 simpa using D5 Array.toList h
end W
variable{ps qs:List W.Pt}
namespace Kk
open DL
def sf0:GS:=(v4 (ifD (yf0 (ob (o2 (o2 (gv 0) (gc (.int 0)) ixD) (gc (.str "text")) eqD)) (ob (o2 (o2 (gv 0) (gc (.int 0)) ixD) (gc (.str "row")) eqD)))
 (v4 (yg0 (W6 v6))
 u9)
 u9)
 (v4 (yg0 (Y8 1 [] (tupI (o2 (gv 0) (unG xi0 (gc (.int 1))) ixD)) (gN 0) noT (o2 (gv 0) (gc (.int 0)) ixD)))
 u9))
def ww0:List Str:=["part"]
def N8:List D->Option D:=mkN 1 ww0 sf0
def fv0:GS:=(v4 (ifD (ob (o2 (o2 (gv 0) (gc (.int 0)) ixD) (gc (.str "text")) eqD))
 (v4 (j9 (Y4 (z8 (gc (.str "text")) (z8 (o2 (gv 0) (gc (.int 1)) ixD) v6))))
 u9)
 u9)
 (v4 (ifD (ob (o2 (o2 (gv 0) (gc (.int 0)) ixD) (gc (.str "row")) eqD))
 (v4 (j9 (Y4 (z8 (gc (.str "row")) (z8 (oA (z8 (o2 (gv 0) (gc (.int 1)) ixD) v6) Y0) v6))))
 u9)
 u9)
 (v4 (ifD (ob (o2 (o2 (gv 0) (gc (.int 0)) ixD) (gc (.str "table")) eqD))
 (v4 (j9 (Y4 (z8 (gc (.str "table")) (z8 (oA (z8 (oA (z8 (gv 0) v6) N8) v6) U8) v6))))
 u9)
 u9)
 (v4 (j9 (Y4 (z8 (gc (.str "record")) (z8 (o2 (gv 0) (gc (.int 1)) ixD) (z8 (oA (z8 (oA (z8 (gv 0) v6) N8) v6) U8) v6)))))
 u9))))
def ea0:List Str:=["part"]
def u10:List D->Option D:=mkF 1 ea0 fv0
def l70:GS:=(v4 (ifD (ob (o2 (o2 (gv 0) (gc (.int 0)) ixD) (gc (.str "text")) eqD))
 (v4 (yg0 (W6 v6))
 u9)
 u9)
 (v4 (ifD (ob (o2 (o2 (gv 0) (gc (.int 0)) ixD) (gc (.str "row")) eqD))
 (v4 (yg0 (oA (z8 (o2 (gv 0) (gc (.int 1)) ixD) v6) qg0))
 u9)
 u9)
 (v4 (yg0 (Y8 1 [] (tupI (o2 (gv 0) (unG xi0 (gc (.int 1))) ixD)) (gN 0) noT (o2 (gv 0) (gc (.int 1)) ixD)))
 u9)))
def ru0:List Str:=["part"]
def m_values:List D->Option D:=mkN 1 ru0 l70
def t50:GS:=(v4 (ifD (ob (o2 (o2 (gv 0) (gc (.int 0)) ixD) (gc (.str "text")) eqD))
 (v4 (j9 (gv 0))
 u9)
 u9)
 (v4 (ifD (ob (o2 (o2 (gv 0) (gc (.int 0)) ixD) (gc (.str "row")) eqD))
 (v4 (j9 (Y4 (z8 (gc (.str "row")) (z8 (oA (z8 (gv 1) v6) U8) v6))))
 u9)
 u9)
 (v4 (n6 (gN 2) (oA (z8 (oA (z8 (gv 0) v6) N8) (z8 (gv 1) v6)) qc0))
 (v4 (ifD (ob (o2 (o2 (gv 0) (gc (.int 0)) ixD) (gc (.str "table")) eqD))
 (v4 (j9 (Y4 (z8 (gc (.str "table")) (z8 (gv 2) v6))))
 u9)
 u9)
 (v4 (j9 (Y4 (z8 (gc (.str "record")) (z8 (o2 (gv 0) (gc (.int 1)) ixD) (z8 (gv 2) v6)))))
 u9)))))
def t80:List Str:=["part", "some", "pairs"]
def zd0:List D->Option D:=mkF 2 t80 t50
def jm0:GS:=(v4 (yg0 (Y8 1 [] (K1 (oA (z8 (gv 0) v6) m_values)) (gN 0) (ob (V4 isTup (gv 0))) (o2 (gv 0) (gc (.int 1)) ixD)))
 u9)
def pv0:List Str:=["part"]
def yl0:List D->Option D:=mkN 1 pv0 jm0
def oe0:GS:=(v4 (T3 3 (W6 v6))
 (v4 (T3 4 (oA (z8 (gv 2) v6) u40))
 (v4 (T3 5 (W6 (z8 (gv 1) v6)))
 (v4 (Z5 (ob (o2 (zs0 (oA (z8 (gv 5) v6) Y0)) (gc (.int 0)) gtD))
 (v4 (W7 (zz0 5) (gN 6))
 (v4 (ifD (w80 (ob (o2 (gv 6) (gv 4) (y60 true))))
 (v4 (W7 (O9 (gc (.bl true))) (putAt 4 (gv 6)))
 (v4 (b8 (V5 3 (gv 6)))
 (v4 (b8 (o60 5 (oA (z8 (oA (z8 (o2 (gv 0) (gv 6) ixD) v6) yl0) v6) o70)))
 u9)))
 u9)
 u9)) 100000)
 (v4 (q00 3)
 u9)))))
def n80:List Str:=["web", "k", "left", "order", "seen", "waiting", "part"]
def w40:List D->Option D:=mkN 3 n80 oe0
def b40:GS:=(v4 (yg0 (oA (z8 (gv 0) (z8 (gv 1) (z8 (gc (.dct (.inl []) [])) v6))) w40))
 u9)
def bc0:List Str:=["web", "k"]
def xt0:List D->Option D:=mkN 2 bc0 b40
def qh0:GS:=(v4 (n6 (gN 2) (Y8 1 [1] (K1 (oA (z8 (gv 0) v6) m_values)) (gN 0) noT (ifG (ob (V4 isTup (gv 0))) (Y4 (z8 (gc (.str "at")) (z8 (o2 (gv 1) (o2 (gv 0) (gc (.int 1)) ixD) O1) v6))) (gv 0))))
 (v4 (j9 (oA (z8 (gv 0) (z8 (gv 2) v6)) zd0))
 u9))
def uq0:List Str:=["part", "numbers", "some"]
def W2:List D->Option D:=mkF 2 uq0 qh0
def jy0:GS:=(v4 (n6 (gN 2) (ml0 (oA (z8 (gv 0) (z8 (gv 1) v6)) xt0)))
 (v4 (T3 3 (gc (.dct (.inl []) [])))
 (v4 (S6 (qt0 (z8 (gv 2) v6)) (vl0 4 5)
 (v4 (W7 (O9 (gv 4)) (putAt 3 (gv 5)))
 u9))
 (v4 (j9 (vp0 (oA (z8 (Y8 1 [0,3] (K1 (gv 2)) (gN 0) noT (oA (z8 (o2 (gv 1) (gv 0) ixD) (z8 (gv 2) v6)) W2)) v6) U8)))
 u9))))
def ps0:List Str:=["web", "k", "order", "numbers", "number", "part"]
def xk0:List D->Option D:=mkF 2 ps0 jy0
def ow0:GS:=(v4 (o10 2)
 (v4 (T3 3 (gc (.dct (.inl []) [])))
 (v4 (S6 (iu0 (z8 (gv 0) (z8 (gv 1) v6))) (vl0 4 5)
 (v4 (W7 (xj0 2 (gv 5) (z30 2)) (putAt 3 (gv 4)))
 u9))
 (v4 (q00 3)
 u9))))
def on0:List Str:=["order", "looks", "numbers", "groups", "k", "look"]
def z00:List D->Option D:=mkN 2 on0 ow0
def t40:GS:=(v4 (n6 (gN 2) (oA (z8 (gv 1) (z8 (Y8 1 [0] (K1 (gv 1)) (gN 0) noT (oA (z8 (o2 (gv 1) (gv 0) ixD) v6) u10)) v6)) z00))
 (v4 (n6 (gN 3) (oA (z8 (gv 1) (z8 (Y8 1 [0,2] (K1 (gv 1)) (gN 0) noT (oA (z8 (o2 (gv 1) (gv 0) ixD) (z8 (gv 2) v6)) W2)) v6)) z00))
 (v4 (Z5 (ob (o2 (gv 3) (gv 2) neK))
 (v4 (n6 (gN 2) (gv 3))
 (v4 (n6 (gN 3) (oA (z8 (gv 1) (z8 (Y8 1 [0,2] (K1 (gv 1)) (gN 0) noT (oA (z8 (o2 (gv 1) (gv 0) ixD) (z8 (gv 2) v6)) W2)) v6)) z00))
 u9)) 100000)
 (v4 (j9 (gv 2))
 u9))))
def za0:List Str:=["web", "order", "groups", "finer"]
def y90:List D->Option D:=mkF 2 za0 t40
def jp0:GS:=(v4 (n6 (gN 1) (oA (z8 (gv 0) v6) λds=>xt0 (ds++[(.int 0)])))
 (v4 (n6 (gN 2) (oA (z8 (gv 0) (z8 (gv 1) v6)) y90))
 (v4 (T3 3 (gc (.dct (.inl []) [])))
 (v4 (S6 (K1 (gv 1)) (gN 4)
 (v4 (b8 (mk0 3 (o2 (gv 2) (gv 4) O1) (gv 4)))
 u9))
 (v4 (j9 (vp0 (oA (z8 (oA (z8 (Y8 1 [0,2,3] (T6 (z8 (oA (z8 (gv 3) v6) sv0) v6)) (gN 0) noT (oA (z8 (o2 (gv 1) (o2 (gv 3) (gv 0) O1) ixD) (z8 (gv 2) v6)) W2)) v6) U8) v6) λds=>xk0 (ds++[(.int 0)]))))
 u9)))))
def pz0:List Str:=["web", "order", "groups", "firsts", "k"]
def wn0:List D->Option D:=mkF 1 pz0 jp0
def vr0:GS:=(v4 (ifD (ob (o2 (gv 1) (oA (z8 (gv 0) v6) Y0) ltD))
 (v4 (j9 (o2 (gv 0) (gv 1) ixD))
 u9)
 u9)
 (v4 (j9 (gc (.int 0)))
 u9))
def vs0:List Str:=["_law_script", "_law_k"]
def j8:List D->Option D:=mkF 2 vs0 vr0
def rc0:GS:=(v4 (n6 (gN 2) (gc (.str "abcdefghijklmnopqrstuvwxyz0123456789")))
 (v4 (n6 (gN 3) (o2 (gc (.int 1)) (o2 (gv 0) (gc (.int 8)) d9) Z0))
 (v4 (n6 (gN 0) (o2 (gv 0) (gc (.int 8)) W4))
 (v4 (T3 4 (W6 v6))
 (v4 (S6 (T6 (z8 (gv 3) v6)) (gN 5)
 (v4 (b8 (V5 4 (o2 (gv 0) (gc (.int 36)) d9)))
 (v4 (n6 (gN 0) (o2 (gv 0) (gc (.int 36)) W4))
 u9)))
 (v4 (n6 (gN 6) (zs0 (sn0 (gc (.str "")) (z8 (Y8 1 [2] (K1 (gv 4)) (gN 0) noT (o2 (gv 1) (gv 0) ixD)) v6))))
 (v4 (ifD (ob (o2 (o2 (o2 (gv 1) (gc (.int 8)) W4) (gc (.int 3)) d9) (gc (.int 1)) eqD))
 (v4 (yg0 (Y8 1 [6] (i60 (z8 (gc (.int 1)) (z8 (gc (.int 9)) v6))) (gN 0) noT (M8 (o2 (gc (.int 8)) (gv 1) ph0) K6 (someO (gv 0)))))
 u9)
 u9)
 (v4 (n6 (gN 7) (o2 (gv 1) (gv 3) d9))
 (v4 (T3 8 (W6 v6))
 (v4 (S6 (T6 (z8 (gc (.int 8)) v6)) (gN 5)
 (v4 (n6 (gN 9) (o2 (gv 2) (o2 (o2 (zs0 (o2 (gv 4) (gv 7) ixD)) (o2 (gc (.int 4)) (gv 5) Q7) Z0) (gc (.int 36)) d9) ixD))
 (v4 (b8 (V5 8 (o2 (o2 (M8 (gv 6) K6 (someO (gv 7))) (gv 9) Z0) (M8 (gv 6) (someO (o2 (gv 7) (gc (.int 1)) Z0)) K6) Z0)))
 u9)))
 (v4 (q00 8)
 u9)))))))))))
def xw0:List Str:=["_law_cell", "_law_turn", "_law_signs", "_law_size", "_law_places", "_law_k", "_law_word", "_law_at", "_law_found", "_law_sign"]
def y40:List D->Option D:=mkN 2 xw0 rc0
def p80:GS:=(v4 (j9 (o2 (o2 (o2 (o2 (gv 0) (gc (.int 2147483647)) d9) (gc (.int 1)) Z0) (o2 (gc (.int 48271)) (o2 (gc (.int 7)) (gv 1) Q7) Z0) Q7) (gc (.int 2147483647)) d9))
 u9)
def q70:List Str:=["_law_cell", "_law_k"]
def V7:List D->Option D:=mkF 2 q70 p80
def tw0:GS:=(v4 (n6 (gN 2) (o2 (gv 0) (gc (.int 10)) d9))
 (v4 (ifD (ob (o2 (gv 2) (gc (.int 6)) ltD))
 (v4 (j9 (Y4 (z8 (gc (.str "at")) (z8 (o2 (o2 (gv 0) (gc (.int 10)) W4) (gv 1) d9) v6))))
 u9)
 u9)
 (v4 (ifD (ob (o2 (gv 2) (gc (.int 6)) eqD))
 (v4 (j9 (gc .non))
 u9)
 u9)
 (v4 (ifD (ob (o2 (gv 2) (gc (.int 9)) ltD))
 (v4 (j9 (o2 (o2 (o2 (gv 0) (gc (.int 10)) W4) (gc (.int 3)) d9) (gc (.int 1)) cf0))
 u9)
 u9)
 (v4 (j9 (o2 (o2 (o2 (o2 (gv 0) (gc (.int 10)) W4) (gc (.int 7)) mo0) (o2 (gc (.int 10)) (gc (.int 60)) mo0) d9) (o2 (gc (.int 1)) (o2 (gc (.int 2)) (o2 (o2 (gv 0) (gc (.int 20)) W4) (gc (.int 2)) d9) Q7) cf0) Q7))
 u9)))))
def tz0:List Str:=["_law_number", "_law_many", "_law_kind"]
def Q8:List D->Option D:=mkF 2 tz0 tw0
def t70:GS:=(v4 (T3 3 (W6 v6))
 (v4 (S6 (T6 (z8 (gv 1) v6)) (gN 4)
 (v4 (n6 (gN 0) (o2 (o2 (gv 0) (gc (.int 48271)) Q7) (gc (.int 2147483647)) d9))
 (v4 (b8 (V5 3 (oA (z8 (gv 0) (z8 (gv 2) v6)) Q8)))
 u9)))
 (v4 (q00 3)
 u9)))
def t30:List Str:=["_law_number", "_law_count", "_law_many", "_law_found", "_law_k"]
def z90:List D->Option D:=mkN 3 t30 t70
def sz0:GS:=(v4 (n6 (gN 3) (o2 (gv 0) (gc (.int 8)) d9))
 (v4 (ifD (ob (o2 (gv 3) (gc (.int 0)) eqD))
 (v4 (j9 (Y4 (z8 (gc (.str "text")) (z8 (o2 (W6 (z8 (gc (.str "")) (z8 (gc (.str "a")) (z8 (gc (.str " a")) (z8 (o2 (o2 (gv 2) (gc (.int 0)) ixD) (gc (.str " 0")) Z0) v6))))) (o2 (o2 (gv 0) (gc (.int 16)) W4) (gc (.int 4)) d9) ixD) v6))))
 u9)
 u9)
 (v4 (ifD (ob (o2 (gv 3) (gc (.int 4)) ltD))
 (v4 (j9 (Y4 (z8 (gc (.str "row")) (z8 (oA (z8 (gv 1) v6) U8) v6))))
 u9)
 u9)
 (v4 (n6 (gN 4) (o2 (o2 (o2 (gv 0) (gc (.int 8)) W4) (gc (.int 2)) d9) (gc (.int 3)) Q7))
 (v4 (n6 (gN 5) (oA (z8 (Y8 1 [1,2,4] (T6 (z8 (oA (z8 (gv 1) v6) Y0) v6)) (gN 0) noT (Y4 (z8 (o2 (gv 2) (o2 (o2 (gv 3) (gv 0) Z0) (gc (.int 8)) d9) ixD) (z8 (o2 (gv 1) (gv 0) ixD) v6)))) v6) U8))
 (v4 (ifD (ob (o2 (gv 3) (gc (.int 6)) ltD))
 (v4 (j9 (Y4 (z8 (gc (.str "table")) (z8 (gv 5) v6))))
 u9)
 u9)
 (v4 (j9 (Y4 (z8 (gc (.str "record")) (z8 (o2 (gv 2) (o2 (o2 (gv 0) (gc (.int 16)) W4) (gc (.int 2)) d9) ixD) (z8 (gv 5) v6)))))
 u9)))))))
def vi0:List Str:=["_law_number", "_law_some", "_law_pool_here", "_law_kind", "_law_start", "_law_pairs"]
def y30:List D->Option D:=mkF 3 vi0 sz0
def q90:GS:=(v4 (T3 3 (W6 v6))
 (v4 (S6 (T6 (z8 (gv 1) v6)) (gN 4)
 (v4 (n6 (gN 5) (oA (z8 (o2 (o2 (gv 0) (o2 (gv 4) (oA (z8 (gv 0) v6) Y0) d9) ixD) (o2 (gv 4) (o2 (gv 4) (oA (z8 (gv 0) v6) Y0) W4) Q7) Z0) (z8 (gv 4) v6)) V7))
 (v4 (n6 (gN 6) (o2 (W6 (z8 (gc (.int 0)) (z8 (gc (.int 1)) (z8 (gc (.int 2)) (z8 (gc (.int 2)) (z8 (gc (.int 3)) (z8 (gc (.int 2)) (z8 (gc (.int 3)) (z8 (gc (.int 1)) v6))))))))) (o2 (o2 (gv 5) (gc (.int 32)) W4) (gc (.int 8)) d9) ixD))
 (v4 (ifD (ob (o2 (o2 (o2 (gv 5) (gc (.int 256)) W4) (gc (.int 16)) d9) (gc (.int 3)) eqD))
 (v4 (n6 (gN 6) (o2 (W6 (z8 (gc (.int 8)) (z8 (gc (.int 12)) v6))) (oA (z8 (o2 (o2 (gv 5) (gc (.int 8)) d9) (gc (.int 4)) ltD) v6) intOfD) ixD))
 u9)
 u9)
 (v4 (n6 (gN 7) (oA (z8 (o2 (o2 (gv 5) (gc (.int 8)) W4) (gc (.int 1)) Z0) (z8 (gv 6) (z8 (gv 1) v6))) z90))
 (v4 (b8 (V5 3 (oA (z8 (gv 5) (z8 (gv 7) (z8 (gv 2) v6))) y30)))
 u9))))))
 (v4 (j9 (vp0 (oA (z8 (gv 3) v6) U8)))
 u9)))
def p50:List Str:=["_law_cells", "_law_many", "_law_pool_here", "_law_parts", "_law_k", "_law_number", "_law_count", "_law_some"]
def yp0:List D->Option D:=mkF 3 p50 q90
def ra0:GS:=(v4 (ifD (ob (o2 (o2 (gv 0) (gc (.int 0)) ixD) (gc (.str "text")) eqD))
 (v4 (yg0 (W6 v6))
 u9)
 u9)
 (v4 (ifD (ob (o2 (o2 (gv 0) (gc (.int 0)) ixD) (gc (.str "row")) eqD))
 (v4 (yg0 (oA (z8 (o2 (gv 0) (gc (.int 1)) ixD) v6) qg0))
 u9)
 u9)
 (v4 (yg0 (Y8 2 [] (tupI (o2 (gv 0) (unG xi0 (gc (.int 1))) ixD)) (vl0 0 1) noT (gv 1)))
 u9)))
def vk0:List Str:=["_law_part_here"]
def o7:List D->Option D:=mkN 1 vk0 ra0
def r00:GS:=(v4 (ifD (ob (o2 (o2 (gv 0) (gc (.int 0)) ixD) (gc (.str "row")) eqD))
 (v4 (j9 (Y4 (z8 (gc (.str "row")) (z8 (oA (z8 (o2 (gv 0) (gc (.int 1)) ixD) v6) Y0) v6))))
 u9)
 u9)
 (v4 (ifD (ob (o2 (o2 (gv 0) (gc (.int 0)) ixD) (gc (.str "text")) eqD))
 (v4 (j9 (gv 0))
 u9)
 u9)
 (v4 (j9 (o2 (M8 (gv 0) K6 (someO (unG xi0 (gc (.int 1))))) (Y4 (z8 (oA (z8 (Y8 2 [] (tupI (o2 (gv 0) (unG xi0 (gc (.int 1))) ixD)) (vl0 0 1) noT (gv 0)) v6) U8) v6)) Z0))
 u9)))
def vq0:List Str:=["_law_part_here"]
def J1:List D->Option D:=mkF 1 vq0 r00
def sy0:GS:=(v4 (ifD (ob (o2 (o2 (gv 0) (gc (.int 0)) ixD) (gc (.str "text")) eqD))
 (v4 (j9 (gv 0))
 u9)
 u9)
 (v4 (ifD (ob (o2 (o2 (gv 0) (gc (.int 0)) ixD) (gc (.str "row")) eqD))
 (v4 (j9 (Y4 (z8 (gc (.str "row")) (z8 (oA (z8 (gv 1) v6) U8) v6))))
 u9)
 u9)
 (v4 (j9 (o2 (M8 (gv 0) K6 (someO (unG xi0 (gc (.int 1))))) (Y4 (z8 (oA (z8 (Y8 1 [0,1] (T6 (z8 (oA (z8 (gv 1) v6) Y0) v6)) (gN 0) noT (Y4 (z8 (o2 (o2 (o2 (gv 1) (unG xi0 (gc (.int 1))) ixD) (gv 0) ixD) (gc (.int 0)) ixD) (z8 (o2 (gv 2) (gv 0) ixD) v6)))) v6) U8) v6)) Z0))
 u9)))
def vj0:List Str:=["_law_part_here", "_law_some"]
def X4:List D->Option D:=mkF 2 vj0 sy0
def t90:GS:=(v4 (T3 3 (W6 v6))
 (v4 (S6 (T6 (z8 (oA (z8 (gv 0) v6) Y0) v6)) (gN 4)
 (v4 (S6 (T6 (z8 (gv 1) v6)) (gN 5)
 (v4 (T3 6 (W6 v6))
 (v4 (n6 (gN 7) (oA (z8 (o2 (gv 2) (o2 (gv 5) (gv 5) Q7) Z0) (z8 (o2 (gv 4) (gc (.int 31)) Z0) v6)) V7))
 (v4 (S6 (K1 (oA (z8 (o2 (gv 0) (gv 4) ixD) v6) o7)) (gN 8)
 (v4 (n6 (gN 7) (o2 (o2 (gv 7) (gc (.int 48271)) Q7) (gc (.int 2147483647)) d9))
 (v4 (ifD (ob (V4 isTup (gv 8)))
 (v4 (n6 (gN 8) (Y4 (z8 (gc (.str "at")) (z8 (o2 (o2 (o2 (gv 8) (gc (.int 1)) ixD) (gv 1) Q7) (o2 (gv 7) (gv 1) d9) Z0) v6))))
 u9)
 u9)
 (v4 (b8 (V5 6 (gv 8)))
 u9))))
 (v4 (b8 (V5 3 (ri0 (oA (z8 (o2 (gv 0) (gv 4) ixD) (z8 (gv 6) v6)) X4))))
 u9)))))
 u9))
 (v4 (j9 (vp0 (oA (z8 (gv 3) v6) U8)))
 u9)))
def ta0:List Str:=["_law_web_here", "_law_times", "_law_cell", "_law_parts", "_law_k", "_law_turn", "_law_some", "_law_number", "_law_value_here"]
def zb0:List D->Option D:=mkF 3 ta0 t90
def tx0:GS:=(v4 (n6 (gN 2) (oA (z8 (oA (z8 (gv 0) (z8 (gc (.int 0)) v6)) j8) (z8 (oA (z8 (gv 0) (z8 (gc (.int 1)) v6)) j8) v6)) y40))
 (v4 (n6 (gN 3) (oA (z8 (gv 0) (z8 (gc (.int 2)) v6)) j8))
 (v4 (n6 (gN 4) (o2 (gc (.int 1)) (o2 (gv 3) (gv 1) d9) Z0))
 (v4 (j9 (oA (z8 (o2 (M8 (gv 0) (someO (gc (.int 9))) (someO (gc (.int 60)))) (W6 (z8 (oA (z8 (gv 0) (z8 (gc (.int 3)) v6)) j8) v6)) Z0) (z8 (gv 4) (z8 (gv 2) v6))) yp0))
 u9))))
def sa0:List Str:=["_law_script", "_law_most", "_law_pool_here", "_law_turn", "_law_many"]
def zo0:List D->Option D:=mkF 2 sa0 tx0
def u20:GS:=(v4 (n6 (gN 2) (o2 (gv 1) (oA (z8 (gv 0) v6) Y0) d9))
 (v4 (T3 3 (oA (z8 (o2 (gv 0) (gv 2) ixD) v6) o7))
 (v4 (ifD (w80 (ob (o2 (gv 3) (W6 v6) zy0)))
 (v4 (j9 (gv 0))
 u9)
 u9)
 (v4 (n6 (gN 4) (o2 (o2 (gv 1) (gc (.int 60)) W4) (zs0 (oA (z8 (gv 3) v6) Y0)) d9))
 (v4 (W7 (O9 (oA (z8 (o2 (o2 (gv 1) (gc (.int 240)) W4) (gc (.int 1000000)) d9) (z8 (oA (z8 (gv 0) v6) Y0) v6)) Q8)) (setAt 3 (gv 4)))
 (v4 (j9 (vp0 (o2 (o2 (M8 (gv 0) K6 (someO (gv 2))) (Y4 (z8 (oA (z8 (o2 (gv 0) (gv 2) ixD) (z8 (gv 3) v6)) X4) v6)) Z0) (M8 (gv 0) (someO (o2 (gv 2) (gc (.int 1)) Z0)) K6) Z0)))
 u9))))))
def u00:List Str:=["_law_web_here", "_law_cell", "_law_k", "_law_some", "_law_at"]
def N6:List D->Option D:=mkF 2 u00 u20
def to0:GS:=(v4 (T3 3 (W6 v6))
 (v4 (n6 (gN 4) (oA (z8 (o2 (gv 0) (o2 (gv 2) (gc (.int 0)) ixD) ixD) v6) o7))
 (v4 (n6 (gN 5) (oA (z8 (o2 (gv 1) (o2 (gv 2) (gc (.int 1)) ixD) ixD) v6) o7))
 (v4 (ifD (ob (o2 (oA (z8 (o2 (gv 0) (o2 (gv 2) (gc (.int 0)) ixD) ixD) v6) J1) (oA (z8 (o2 (gv 1) (o2 (gv 2) (gc (.int 1)) ixD) ixD) v6) J1) yb0))
 (v4 (j9 (gc .non))
 u9)
 u9)
 (v4 (S6 (T6 (z8 (oA (z8 (gv 4) v6) Y0) v6)) (gN 6)
 (v4 (ifD (wb0 (ob (V4 isTup (o2 (gv 4) (gv 6) ixD))) (ob (V4 isTup (o2 (gv 5) (gv 6) ixD))))
 (v4 (b8 (V5 3 (Y4 (z8 (o2 (o2 (gv 4) (gv 6) ixD) (gc (.int 1)) ixD) (z8 (o2 (o2 (gv 5) (gv 6) ixD) (gc (.int 1)) ixD) v6)))))
 u9)
 (v4 (ifD (ob (o2 (o2 (gv 4) (gv 6) ixD) (o2 (gv 5) (gv 6) ixD) yb0))
 (v4 (j9 (gc .non))
 u9)
 u9)
 u9))
 u9))
 (v4 (j9 (vp0 (gv 3)))
 u9))))))
def tu0:List Str:=["_law_one", "_law_other", "_law_pair", "_law_found", "_law_first", "_law_second", "_law_k"]
def V2:List D->Option D:=mkF 3 tu0 to0
def si0:GS:=(v4 (T3 1 (W6 v6))
 (v4 (T3 2 (W6 (z8 (gc (.int 0)) v6)))
 (v4 (Z5 (ob (o2 (zs0 (oA (z8 (gv 2) v6) Y0)) (gc (.int 0)) gtD))
 (v4 (W7 (zz0 2) (gN 3))
 (v4 (ifD (w80 (ob (o2 (gv 3) (gv 1) (ws0 true))))
 (v4 (b8 (V5 1 (gv 3)))
 (v4 (S6 (pt0 (z8 (oA (z8 (o2 (gv 0) (gv 3) ixD) v6) o7) v6)) (gN 4)
 (v4 (ifD (ob (V4 isTup (gv 4)))
 (v4 (b8 (V5 2 (o2 (gv 4) (gc (.int 1)) ixD)))
 u9)
 u9)
 u9))
 u9))
 u9)
 u9)) 100000)
 (v4 (q00 1)
 u9))))
def sh0:List Str:=["_law_web_here", "_law_found", "_law_waiting", "_law_k", "_law_value_here"]
def zt0:List D->Option D:=mkN 1 sh0 si0
end Kk
namespace Pn
open Kk
open DL W
theorem yj0(p:Pt)(h:p.few):m_values [p.d]=some (.lst p.vals):=by
 cases p with
 | text w=>kernel_rfl
 | row vs =>
  refine O2 rfl (v5 (δ':=[.sh (Pt.row vs).d]) (by rw[d7 (by kernel_rfl)];rfl) (Q9 (by rw[Q6 (by kernel_rfl)];rfl)))
 | table ps =>
  refine O2 rfl (v5 (δ':=[.sh (Pt.table ps).d]) (by rw[d7 (by kernel_rfl)];rfl) (v5 (δ':=[.sh (Pt.table ps).d]) (by rw[d7 (by kernel_rfl)];rfl) (Q9 (zv0 ?_))));exact V6 (items:=ps.map pr) rfl (by have:(ps.map (·.2)).length<=sizeLine:=h;simpa using this) (k40 ps)
 | rcd c ps =>
  refine O2 rfl (v5 (δ':=[.sh (Pt.rcd c ps).d]) (by rw[d7 (by kernel_rfl)];rfl) (v5 (δ':=[.sh (Pt.rcd c ps).d]) (by rw[d7 (by kernel_rfl)];rfl) (Q9 (zv0 ?_))));exact V6 (items:=ps.map pr) rfl (by have:(ps.map (·.2)).length<=sizeLine:=h;simpa using this) (k40 ps)
theorem t60(p:Pt)(h:p.few):N8 [p.d]=some (.lst (p.pnames.map .str)):=by
 cases p with
 | text w=>kernel_rfl
 | row vs=>kernel_rfl
 | table ps =>
  refine O2 rfl (v5 (δ':=[.sh (Pt.table ps).d]) (by rw[d7 (by kernel_rfl)];rfl) (Q9 (zv0 ?_)));exact V6 (items:=ps.map pr) rfl (by have:(ps.map (·.2)).length<=sizeLine:=h;simpa using this) (k90 ps)
 | rcd c ps =>
  refine O2 rfl (v5 (δ':=[.sh (Pt.rcd c ps).d]) (by rw[d7 (by kernel_rfl)];rfl) (Q9 (zv0 ?_)));exact V6 (items:=ps.map pr) rfl (by have:(ps.map (·.2)).length<=sizeLine:=h;simpa using this) (k90 ps)
def hd:Pt->D
 | .text w=>.tup [.str "text",.str w]
 | .row vs=>.tup [.str "row",.int vs.length]
 | .table ps=>.tup [.str "table",.tup ((ps.map (·.1)).map .str)]
 | .rcd c ps=>.tup [.str "record",.str c,.tup ((ps.map (·.1)).map .str)]
def put:Pt->List D->Pt
 | .text w,_=>.text w
 | .row _,vs=>.row vs
 | .table ps,vs=>.table ((ps.map (·.1)).zip vs)
 | .rcd c ps,vs=>.rcd c ((ps.map (·.1)).zip vs)
theorem pm0(p:Pt)(h:p.few):u10 [p.d]=some (hd p):=by
 have e:=t60 p h;cases p with
 | text w=>kernel_rfl
 | row vs=>kernel_rfl
 | table ps =>
  refine d8 rfl (v5 (δ':=[.sh (Pt.table ps).d]) (by rw[d7 (by kernel_rfl)];rfl) (v5 (δ':=[.sh (Pt.table ps).d]) (by rw[d7 (by kernel_rfl)];rfl) (j4 ?_)));rw[Q6 (by kernel_rfl)];refine j4 (X3 (R3 (cons_of rfl (cons_of (d:=.tup ((ps.map (·.1)).map .str)) ?_ rfl)) (by show 2<=sizeLine;decide)));rw[o8 (cons_of (by rw[o8 (ds:=[(Pt.table ps).d]) rfl];exact e) rfl)];rfl
 | rcd c ps =>
  refine d8 rfl (v5 (δ':=[.sh (Pt.rcd c ps).d]) (by rw[d7 (by kernel_rfl)];rfl) (v5 (δ':=[.sh (Pt.rcd c ps).d]) (by rw[d7 (by kernel_rfl)];rfl) (v5 (δ':=[.sh (Pt.rcd c ps).d]) (by rw[d7 (by kernel_rfl)];rfl) ?_)));refine j4 (X3 (R3 (cons_of rfl (cons_of (d:=.str c) rfl (cons_of (d:=.tup ((ps.map (·.1)).map .str)) ?_ rfl))) (by show 3<=sizeLine;decide)));rw[o8 (cons_of (by rw[o8 (ds:=[(Pt.rcd c ps).d]) rfl];exact e) rfl)];rfl
theorem gj0(ns:List Str)(vs:List D):qc0 [.lst (ns.map .str),.lst vs]=some (.tup ((ns.zip vs).map pr)):=by
 simp only[qc0];rw[List.zip_map_left,List.map_map];rfl
theorem ui0(p:Pt)(h:p.few)(vs:List D):zd0 [p.d,.lst vs]=some (put p vs).d:=by
 have e:=t60 p h;cases p with
 | text w=>kernel_rfl
 | row us=>kernel_rfl
 | table ps =>
  refine d8 rfl (v5 (δ':=[.sh (Pt.table ps).d,.sh (.lst vs),.un]) (by rw[d7 (by kernel_rfl)];rfl) (v5 (δ':=[.sh (Pt.table ps).d,.sh (.lst vs),.un]) (by rw[d7 (by kernel_rfl)];rfl) (v5 (j6 (d:=.tup (((ps.map (·.1)).zip vs).map pr)) ?_) (j4 ?_))))
  ·rw[o8 (cons_of (by rw[o8 (ds:=[(Pt.table ps).d]) rfl];exact e) (cons_of rfl rfl))]
   exact gj0 _ _
  ·rw[Q6 (by kernel_rfl)]
   rfl
 | rcd c ps =>
  refine d8 rfl (v5 (δ':=[.sh (Pt.rcd c ps).d,.sh (.lst vs),.un]) (by rw[d7 (by kernel_rfl)];rfl) (v5 (δ':=[.sh (Pt.rcd c ps).d,.sh (.lst vs),.un]) (by rw[d7 (by kernel_rfl)];rfl) (v5 (j6 (d:=.tup (((ps.map (·.1)).zip vs).map pr)) ?_)
   (v5 (δ':=[.sh (Pt.rcd c ps).d,.sh (.lst vs),.sh (.tup (((ps.map (·.1)).zip vs).map pr))]) (by rw[d7 (by kernel_rfl)];rfl) ?_))))
  ·rw[o8 (cons_of (by rw[o8 (ds:=[(Pt.rcd c ps).d]) rfl];exact e) (cons_of rfl rfl))]
   exact gj0 _ _
  ·rfl
theorem d50(h:∀d∈l,lean d n=true):leans l n=true:=by
 induction l with
 | nil=>unfold leans;rfl
 | cons d l ih =>
  unfold leans;rw[h d A5,ih λe he=>h e (A3 _ he)];rfl
theorem wq0(s:Str)(n:Nat):lean (.str s) n=true:=by unfold lean;rfl
theorem v00(h:∀d∈l,lean d n=true):lean (.tup l) (n+1)=true:=by unfold lean;exact d50 h
mutual
theorem rt0:∀(d:D) (n:Nat),lean d n=true->deq d d=true
 | .non,_,_=>by unfold deq;rfl
 | .bl b,_,_=>by unfold deq;simp
 | .int b,_,_=>by unfold deq;simp
 | .str b,_,_=>by unfold deq;simp
 | .tup ds,0,h=>by unfold lean at h;cases h
 | .tup ds,n+1,h=>by unfold lean at h;unfold deq;exact ty0 ds n h
 | .lst ds,0,h=>by unfold lean at h;cases h
 | .lst ds,n+1,h=>by unfold lean at h;unfold deq;exact ty0 ds n h
 | .dct _ _,n,h=>by unfold lean at h;cases h
 | .fn _ _,n,h=>by unfold lean at h;cases h
theorem ty0:∀(ds:List D) (n:Nat),leans ds n=true->J5 ds ds=true
 | [],_,_=>by unfold J5;rfl
 | d::ds,n,h=>by
  unfold leans at h;rw[Bool.and_eq_true] at h;unfold J5;rw[rt0 d n h.1,ty0 ds n h.2];rfl
end
mutual
def nb:D->Bool
 | .bl _=>false
 | .dct _ _=>false
 | .fn _ _=>false
 | .tup xs=>nbs xs
 | .lst xs=>nbs xs
 | _=>true
def nbs:List D->Bool
 | []=>true
 | x::xs=>nb x&&nbs xs
end
mutual
theorem mn0:∀(d e:D),nb d=true->nb e=true->deq d e=true->d=e
 | .non,e,_,h2,h=>by cases e<;>unfold deq at h<;>first|rfl|(cases h)
 | .bl b,e,h1,_,_=>by unfold nb at h1;cases h1
 | .int i,e,_,h2,h=>by
  cases e<;>unfold deq at h<;>first|(cases h;done)|(unfold nb at h2;cases h2;done)|(rw[beq_iff_eq] at h;rw[h])
 | .str x,e,_,h2,h=>by cases e<;>unfold deq at h<;>first|(cases h;done)|(rw[beq_iff_eq] at h;rw[h])
 | .tup xs,e,h1,h2,h=>by
  cases e<;>unfold deq at h<;>try (cases h;done)
  unfold nb at h1 h2;rw[oa0 _ _ h1 h2 h]
 | .lst xs,e,h1,h2,h=>by
  cases e<;>unfold deq at h<;>try (cases h;done)
  unfold nb at h1 h2;rw[oa0 _ _ h1 h2 h]
 | .dct _ _,e,h1,_,_=>by unfold nb at h1;cases h1
 | .fn _ _,e,h1,_,_=>by unfold nb at h1;cases h1
theorem oa0:∀(ds es:List D),nbs ds=true->nbs es=true->J5 ds es=true->ds=es
 | [],[],_,_,_=>rfl
 | [],_::_,_,_,h=>by unfold J5 at h;cases h
 | _::_,[],_,_,h=>by unfold J5 at h;cases h
 | d::ds,e::es,h1,h2,h=>by
  unfold nbs at h1 h2;unfold J5 at h;rw[Bool.and_eq_true] at h1 h2 h;rw[mn0 d e h1.1 h2.1 h.1,oa0 ds es h1.2 h2.2 h.2]
end
theorem V00(h:∀d∈l,nb d=true):nbs l=true:=by
 induction l with
 | nil=>unfold nbs;rfl
 | cons d l ih =>
  unfold nbs;rw[h d A5,ih λe he=>h e (A3 _ he)];rfl
structure Pl(d:D):Prop where
 le:lean d 50=true
 nb:nb d=true
theorem S00{d:D}(h:lean d 50=true):zy0 d d=some (.bl true):=by
 unfold zy0;rw[if_pos ⟨h,h⟩,rt0 d 50 h]
theorem kd0{d:D}(h:lean d 50=true):yb0 d d=some (.bl false):=by
 unfold yb0;rw[if_pos ⟨h,h⟩,rt0 d 50 h];rfl
theorem Tz0{d e:D}(h1:Pl d)(h2:Pl e)(n:d≠e):zy0 d e=some (.bl false):=by
 unfold zy0;rw[if_pos ⟨h1.le,h2.le⟩];cases q:deq d e with
 | false=>rfl
 | true=>exact absurd (mn0 d e h1.nb h2.nb q) n
theorem Xp0{d e:D}(h1:Pl d)(h2:Pl e)(n:d≠e):yb0 d e=some (.bl true):=by
 unfold yb0;rw[if_pos ⟨h1.le,h2.le⟩];cases q:deq d e with
 | false=>rfl
 | true=>exact absurd (mn0 d e h1.nb h2.nb q) n
theorem zg0(s:Str):nb (.str s)=true:=by unfold nb;rfl
theorem Xs0(i:Int):nb (.int i)=true:=by unfold nb;rfl
theorem G7(h:∀d∈l,nb d=true):nb (.tup l)=true:=by unfold nb;exact V00 h
theorem io0(p:Pt):Pl (hd p):=by
 have ls:∀(ns:List Str) (n:Nat),lean (.tup (ns.map .str)) (n+1)=true:=λns n=>v00 λd hd=>by
  obtain⟨q,_,rfl⟩:=A7.mp hd;exact wq0 _ _
 have nn:∀(ns:List Str),nb (.tup (ns.map .str))=true:=λns=>G7 λd hd=>by
  obtain⟨q,_,rfl⟩:=A7.mp hd;exact zg0 _
 have li:∀(i:Int) (n:Nat),lean (.int i) n=true:=λi n=>by unfold lean;rfl
 cases p with
 | text w=>exact⟨v00 λd hd=>by simp only[List.mem_cons,List.not_mem_nil,or_false] at hd;rcases hd with rfl|rfl<;>exact wq0 _ _,G7 λd hd=>by simp only[List.mem_cons,List.not_mem_nil,or_false] at hd;rcases hd with rfl|rfl<;>exact zg0 _⟩
 | row w=>exact⟨v00 λd hd=>by simp only[List.mem_cons,List.not_mem_nil,or_false] at hd;rcases hd with rfl|rfl<;>first|exact wq0 _ _|exact li _ _,G7 λd hd=>by simp only[List.mem_cons,List.not_mem_nil,or_false] at hd;rcases hd with rfl|rfl<;>first|exact zg0 _|exact Xs0 _⟩
 | table w=>exact⟨v00 λd hd=>by simp only[List.mem_cons,List.not_mem_nil,or_false] at hd;rcases hd with rfl|rfl<;>first|exact wq0 _ _|exact ls _ _,G7 λd hd=>by simp only[List.mem_cons,List.not_mem_nil,or_false] at hd;rcases hd with rfl|rfl<;>first|exact zg0 _|exact nn _⟩
 | rcd c w=>exact⟨v00 λd hd=>by simp only[List.mem_cons,List.not_mem_nil,or_false] at hd;rcases hd with rfl|rfl|rfl<;>first|exact wq0 _ _|exact ls _ _,G7 λd hd=>by simp only[List.mem_cons,List.not_mem_nil,or_false] at hd;rcases hd with rfl|rfl|rfl<;>first|exact zg0 _|exact nn _⟩
end Pn
namespace W
open DL StrLaws Builtin.Str
theorem xg0(l:List Nat):(strOf l).cps.toList=l:=by simp[strOf]
theorem zq0(l:List Nat):(strOf l).length=l.length:=by show l.toArray.size=_;simp
theorem dt0(x:PySem.Str):strOf x.cps.toList=x:=by cases x;simp[strOf]
end W
namespace Gw
open Kk
open DL W StrLaws
theorem mul_r(i j:Int)(h:-(2 ^ 64)<j/\j<2 ^ 64):Q7 (.int i) (.int j)=some (.int (i*j)):=by simp only[Q7];rw[if_pos (.inr h)]
theorem cy0(i j:Int)(h:-(2 ^ 64)<i/\i<2 ^ 64):Q7 (.int i) (.int j)=some (.int (i*j)):=by simp only[Q7];rw[if_pos (.inl h)]
theorem yt0(i j:Int)(h:0<j):d9 (.int i) (.int j)=some (.int (i%j)):=by simp only[d9,ii];rw[if_pos h]
theorem ek0(i j:Int)(h:0<j/\j<1073741824):W4 (.int i) (.int j)=some (.int (i/j)):=by simp only[W4,ii];rw[if_pos h]
theorem yw0{g:GE}{d:D}(h1:owL i δ=some l)(h2:g δ=some d)(h3:l.length<sizeLine):b8 (V5 i g) δ=some (.nx (δ.set i (.ow (.lst (l++[d]))))):=by
 unfold b8 V5;rw[h1,h2];simp only[Option.bind_some];rw[if_pos h3];rfl
theorem xm0(ns:List Int)(k:Int)(h0:0<=k):∃z,j8 [.lst (ns.map .int),.int k]=some (.int z):=by
 by_cases h:k<ns.length
 ·have J:k.toNat<ns.length:=by omega
  refine⟨ns[k.toNat],d8 rfl (j4 ?_)⟩;rw[Q6 (by
   show some (decide (k<(((ns.map D.int).length:Nat):Int)))=_;rw[decide_eq_true (by rw[List.length_map];exact h)])]
  refine j4 (X3 ?_);show atI (ns.map D.int) k=_;rw[zc0 h0 (by rw[List.length_map];exact h) .non];simp[List.getD_eq_getElem?_getD,J]
 ·refine⟨0,d8 rfl (v5 (δ':=[.sh (.lst (ns.map .int)),.sh (.int k)]) ?_ rfl)⟩
  rw[d7 (by
   show some (decide (k<(((ns.map D.int).length:Nat):Int)))=_;rw[decide_eq_false (by rw[List.length_map];exact h)])]
  rfl
theorem dj0(l:List Nat)(n:Nat):if0 (strOf l) (n:Int)=strOf (List.replicate n l).flatten:=by
 have key:∀(k:Nat) (J:Array Nat),(List.replicate k l.toArray).foldl (·++·) J=J++(List.replicate k l).flatten.toArray:=by
  intro k
  induction k with
  | zero=>intro J;simp
  | succ k ih=>intro J;rw[List.replicate_succ,List.foldl_cons,ih,List.replicate_succ,List.flatten_cons];simp
 unfold if0;show (⟨(List.replicate ((n:Int)).toNat l.toArray).foldl (·++·) #[]⟩:Str)=⟨_⟩;rw[Int.toNat_natCast,key];simp
theorem gh0(l:List Nat)(k:Int)(h0:0<=k)(h1:k<=l.length):Txt.slice (strOf l) none (some k)=strOf (l.take k.toNat):=by
 show sliceText _ _ _=_;rw[sliceText_to ⟨h0,by rw[xg0];exact h1⟩,xg0];simp[strOf]
theorem X00(l:List Nat)(k:Int)(h0:0<=k)(h1:k<=l.length):Txt.slice (strOf l) (some k) none=strOf (l.drop k.toNat):=by
 show sliceText _ _ _=_;rw[sliceText_from ⟨h0,by rw[xg0];exact h1⟩,xg0];unfold strOf;congr 2;rw[List.take_of_length_le];rw[List.length_drop];omega
theorem U50(a b:List Nat):strOf a++strOf b=strOf (a++b):=by
 show (⟨_⟩:Str)=⟨_⟩;simp[strOf]
theorem ij0(a b:List Nat)(h:a.length+b.length<=sizeLine):Z0 (.str (strOf a)) (.str (strOf b))=some (.str (strOf (a++b))):=by
 simp only[Z0];rw[if_pos (by rw[zq0,zq0];exact h),U50]
structure Pool(nm:List Str):Prop where
 len:nm.length=8
 names:∀s∈nm,isName s=true
 nd:nm.Nodup
def PB:GS:=(v4 (b8 (V5 4 (o2 (gv 0) (gc (.int 36)) d9)))
 (v4 (n6 (gN 0) (o2 (gv 0) (gc (.int 36)) W4))
 u9))
def PC:GS:=(v4 (n6 (gN 9) (o2 (gv 2) (o2 (o2 (zs0 (o2 (gv 4) (gv 7) ixD)) (o2 (gc (.int 4)) (gv 5) Q7) Z0) (gc (.int 36)) d9) ixD))
 (v4 (b8 (V5 8 (o2 (o2 (M8 (gv 6) K6 (someO (gv 7))) (gv 9) Z0) (M8 (gv 6) (someO (o2 (gv 7) (gc (.int 1)) Z0)) K6) Z0)))
 u9))
theorem o80(c t:Int):∃nm,y40 [.int c,.int t]=some (.lst (nm.map .str))/\Pool nm:=by
 have z:(1000:Nat)<=sizeLine:=by decide
 obtain⟨n,hn⟩:∃n:Nat,(n:Int)=1+c%8:=⟨(1+c%8).toNat,by omega⟩;obtain⟨δ',l1,l2⟩:=T9 (f:=gN 5) (G:=PB) (λi δ=>∃(c':Int) (l:List Int) (s5:Sl),δ=[.sh (.int c'),.sh (.int t),.sh (.str U4),.sh (.int (n:Int)),.ow (.lst (l.map .int)),s5,.un,.un,.un,.un]/\l.length=i/\∀x∈l,0<=x/\x<36) (Y7 0 (n:Int)) 0
  [.sh (.int (c/8)),.sh (.int t),.sh (.str U4),.sh (.int (n:Int)),.ow (.lst []),.un,.un,.un,.un,.un] (by
   rintro j d δ hj ⟨c',l,s5,rfl,hl,hx⟩;obtain⟨O,rfl⟩:=wl0 hj;rw[Int.toNat_natCast] at O;refine⟨_,[.sh (.int (c'/36)),.sh (.int t),.sh (.str U4),.sh (.int (n:Int)),.ow (.lst ((l++[c'%36]).map .int)),.sh (.int (j:Int)),.un,.un,.un,.un],rfl,?_,c'/36,l++[c'%36],_,rfl,by simp[hl],λx a3=>?_⟩
   ·refine v5 (yw0 (l:=l.map .int) (d:=.int (c'%36)) rfl rfl (by rw[List.length_map];omega)) ?_
    rw[List.map_append];rfl
   ·rcases B1.mp a3 with q|q
    ·exact hx x q
    ·rw[List.mem_singleton.mp q];omega) ⟨_,[],_,rfl,rfl,λx hx=>by cases hx⟩
 obtain⟨c',pl,s5,rfl,a1,M⟩:=l2;rw[wf0,Int.toNat_natCast,Nat.zero_add] at a1;obtain⟨w,hw⟩:∃w:List Nat,w=pl.map cg:=⟨_,rfl⟩;have wl:w.length=n:=by rw[hw,List.length_map,a1]
 have wm:∀x∈w,x∈nameS.cps.toList:=λx hx=>by
  rw[hw] at hx;obtain⟨i,hi,rfl⟩:=A7.mp hx;exact fp0 i (M i hi).1 (M i hi).2
 have a0:∀(G:GS) (r:Option Res),G [.sh (.int c'),.sh (.int t),.sh (.str U4),.sh (.int (n:Int)),.ow (.lst (pl.map .int)),s5,.sh (.str (strOf w)),.un,.un,.un]=r ->
   (v4 (n6 (gN 2) (gc (.str "abcdefghijklmnopqrstuvwxyz0123456789")))
    (v4 (n6 (gN 3) (o2 (gc (.int 1)) (o2 (gv 0) (gc (.int 8)) d9) Z0))
    (v4 (n6 (gN 0) (o2 (gv 0) (gc (.int 8)) W4))
    (v4 (T3 4 (W6 v6))
    (v4 (S6 (T6 (z8 (gv 3) v6)) (gN 5) PB)
    (v4 (n6 (gN 6) (zs0 (sn0 (gc (.str "")) (z8 (Y8 1 [2] (K1 (gv 4)) (gN 0) noT (o2 (gv 1) (gv 0) ixD)) v6)))) G)))))) [.sh (.int c),.sh (.int t),.un,.un,.un,.un,.un,.un,.un,.un]=r:=λG r hG=>by
  refine v5 (j6 (d:=.str U4) rfl) (v5 (j6 (d:=.int (n:Int)) (by rw[hn];rfl)) (v5 (j6 (d:=.int (c/8)) rfl) (v5 (δ':=[.sh (.int (c/8)),.sh (.int t),.sh (.str U4),.sh (.int (n:Int)),.ow (.lst []),.un,.un,.un,.un,.un]) rfl (v5 (R0 (items:=Y7 0 (n:Int)) (J7 (cons_of rfl rfl) (by omega) (by omega)) l1) (v5 (j6 (d:=.str (strOf w)) ?_) hG)))));show Option.bind _ _=_;rw[Yg0 (x:=.str "") (ds:=[.lst ((ones w).map .str)]) rfl (cons_of (V6 (items:=pl.map .int) rfl (by rw[List.length_map];omega) (by
   rw[R8 (λd=>match d with|.int i=>.str ⟨#[cg i]⟩|_=>.non) (λd hd=>by
    obtain⟨i,hi,rfl⟩:=A7.mp hd;refine⟨[.sh (.int i),.sh (.str U4)],rfl,rfl,?_⟩;rw[o4 (x:=.str U4) (y:=.int i) rfl rfl];exact jg0 i (M i hi).1 (M i hi).2)]
   rw[hw];unfold ones;rw[List.map_map,List.map_map,List.map_map];rfl)) rfl)]
  have e1:=strs_map id (ones w);have a4:th0 ((ones w).map D.str)=some (ones w):=by simpa using e1
  simp only[nw0];rw[a4,Option.bind_some,oz0,join_ones,if_pos (by
   have:("" : PySem.Str).length=0:=by decide +kernel
   rw[this];omega)]
  rfl
 by_cases hb:t/8%3=1
 ·refine⟨(List.range 8).map λk=>strOf ((List.replicate 8 w).flatten.take (k+1)),O2 rfl (a0 _ _ (Q9 ?_)),by simp,λs hs=>?_,?_⟩
  ·rw[Q6 (by show some (decide (t/8%3=1))=_;rw[decide_eq_true hb])]
   refine Q9 (zv0 (V6 (items:=(List.range 8).map λ(k:Nat)=>D.int ((k:Int)+1)) rfl (by simp;omega) ?_));rw[R8 (λd=>match d with|.int i=>.str (strOf ((List.replicate 8 w).flatten.take i.toNat))|_=>.non) (λd hd=>by
    obtain⟨k,hk,rfl⟩:=A7.mp hd;have hk:=C3.mp hk;refine⟨[.sh (.int ((k:Int)+1)),.sh (.str (strOf w))],rfl,rfl,?_⟩;have hm:o2 (gc (.int 8)) (gv 1) ph0 [.sh (.int ((k:Int)+1)),.sh (.str (strOf w))]=some (.str (strOf (List.replicate 8 w).flatten)):=by
     rw[o4 (x:=.int 8) (y:=.str (strOf w)) rfl rfl];simp only[ph0];rw[if_pos ⟨by decide,by decide,by rw[zq0,wl];show n*8<=_;omega⟩];exact D5 (λs=>some (D.str s)) (dj0 w 8)
    have J:(List.replicate 8 w).flatten.length=8*n:=by simp[wl];omega
    unfold M8;rw[hm];show slA (.str (strOf (List.replicate 8 w).flatten)) none (some ((k:Int)+1))=_;simp only[slA];rw[if_pos (by rw[zq0,J];omega),gh0 _ _ (by omega) (by rw[J];omega)])]
   rw[List.map_map,List.map_map];rfl
  ·obtain⟨k,hk,rfl⟩:=A7.mp hs
   have hk:=C3.mp hk;have J:(List.replicate 8 w).flatten.length=8*n:=by simp[wl];omega
   refine n90 _ (by rw[List.length_take,J];omega) (by rw[List.length_take];omega) λx hx=>?_
   have:=Y3 hx;obtain⟨l,hl,hx⟩:=List.mem_flatten.mp this;rw[(List.mem_replicate.mp hl).2] at hx;exact wm x hx
  ·refine Al0.mpr (b4.mpr (Am0 ?_ (An0 (n:=8))))
   intro a b ha a2 a7 e;have ha:=C3.mp ha;have a2:=C3.mp a2;have e:=D5 List.length (om0 e);have J:(List.replicate 8 w).flatten.length=8*n:=by simp[wl];omega
   rw[List.length_take,List.length_take,J] at e;omega
 ·obtain⟨a,ha⟩:∃a:Nat,(a:Int)=t%(n:Int):=⟨(t%(n:Int)).toNat,by have:=E6 t (by omega:(n:Int)≠0);omega⟩
  have a6:a<n:=by have:=E7 t (by omega:(0:Int)<n);omega
  obtain⟨p,hp⟩:∃p,p=pl.getD a 0:=⟨_,rfl⟩;have b0:0<=p/\p<36:=by
   have Z:a<pl.length:=by omega
   have:p=pl[a]:=by rw[hp];simp[List.getD_eq_getElem?_getD,Z]
   rw[this];exact M _ (B7 Z)
  let F:Nat->List Nat:=λk=>w.take a++cg ((p+4*(k:Int))%36)::w.drop (a+1)
  have Fl:∀k,(F k).length=n:=λk=>by
   show (w.take a++cg ((p+4*(k:Int))%36)::w.drop (a+1)).length=n;rw[List.length_append,List.length_cons,List.length_take,List.length_drop];omega
  obtain⟨b1,m1,m2⟩:=T9 (f:=gN 5) (G:=PC) (λi δ=>∃(s5 s9:Sl),δ=[.sh (.int c'),.sh (.int t),.sh (.str U4),.sh (.int (n:Int)),.ow (.lst (pl.map .int)),s5,.sh (.str (strOf w)),.sh (.int (a:Int)),.ow (.lst (((List.range i).map λk=>strOf (F k)).map .str)),s9]) (Y7 0 8) 0
   [.sh (.int c'),.sh (.int t),.sh (.str U4),.sh (.int (n:Int)),.ow (.lst (pl.map .int)),s5,.sh (.str (strOf w)),.sh (.int (a:Int)),.ow (.lst []),.un] (by
    rintro j d δ hj ⟨s5,s9,rfl⟩;obtain⟨O,rfl⟩:=wl0 hj;have O:j<8:=O;rw[Nat.zero_add];refine⟨_,[.sh (.int c'),.sh (.int t),.sh (.str U4),.sh (.int (n:Int)),.ow (.lst (pl.map .int)),.sh (.int (j:Int)),.sh (.str (strOf w)),.sh (.int (a:Int)),.ow (.lst (((List.range (j+1)).map λk=>strOf (F k)).map .str)),.sh (.str ⟨#[cg ((p+4*(j:Int))%36)]⟩)],rfl,?_,_,_,rfl⟩;refine v5 (j6 (d:=.str ⟨#[cg ((p+4*(j:Int))%36)]⟩) ?_) ?_
    ·rw[o4 (x:=.str U4) (y:=.int ((p+4*(j:Int))%36)) rfl (by
      rw[o4 (x:=.int (p+4*(j:Int))) (y:=.int 36) (by
       rw[o4 (x:=.int p) (y:=.int (4*(j:Int))) (by
        have q:o2 (gv 4) (gv 7) ixD (frz [.sh (.int c'),.sh (.int t),.sh (.str U4),.sh (.int (n:Int)),.ow (.lst (pl.map .int)),.sh (.int (j:Int)),.sh (.str (strOf w)),.sh (.int (a:Int)),.ow (.lst (((List.range j).map λk=>strOf (F k)).map .str)),s9])=some (.int p):=by
         rw[o4 (x:=.lst (pl.map .int)) (y:=.int (a:Int)) rfl rfl];show atI (pl.map D.int) (a:Int)=_;have Z:a<pl.length:=by omega
         rw[zc0 (by omega) (by rw[List.length_map];omega) .non,hp];simp[List.getD_eq_getElem?_getD,Z]
        show Option.bind _ _=_;exact(D5 (λo=>Option.bind o _) q).trans rfl) (by rw[o4 (x:=.int 4) (y:=.int (j:Int)) rfl rfl];exact mul_r _ _ (by omega))]
       rfl) rfl]
      rfl)]
     exact jg0 _ (by omega) (by omega)
    ·refine v5 (yw0 (l:=((List.range j).map λk=>strOf (F k)).map .str) (d:=.str (strOf (F j))) rfl ?_ (by simp;omega)) ?_
     ·have t1:M8 (gv 6) K6 (someO (gv 7)) [.sh (.int c'),.sh (.int t),.sh (.str U4),.sh (.int (n:Int)),.ow (.lst (pl.map .int)),.sh (.int (j:Int)),.sh (.str (strOf w)),.sh (.int (a:Int)),.ow (.lst (((List.range j).map λk=>strOf (F k)).map .str)),.sh (.str ⟨#[cg ((p+4*(j:Int))%36)]⟩)]=some (.str (strOf (w.take a))):=by
       show slA (.str (strOf w)) none (some (a:Int))=_;simp only[slA];rw[if_pos (by rw[zq0,wl];omega),gh0 _ _ (by omega) (by omega),Int.toNat_natCast]
      have t2:M8 (gv 6) (someO (o2 (gv 7) (gc (.int 1)) Z0)) K6 [.sh (.int c'),.sh (.int t),.sh (.str U4),.sh (.int (n:Int)),.ow (.lst (pl.map .int)),.sh (.int (j:Int)),.sh (.str (strOf w)),.sh (.int (a:Int)),.ow (.lst (((List.range j).map λk=>strOf (F k)).map .str)),.sh (.str ⟨#[cg ((p+4*(j:Int))%36)]⟩)]=some (.str (strOf (w.drop (a+1)))):=by
       show slA (.str (strOf w)) (some ((a:Int)+1)) none=_;simp only[slA];rw[if_pos (by rw[zq0,wl];omega),X00 _ _ (by omega) (by omega),show ((a:Int)+1).toNat=a+1 by omega]
      change o2 _ _ _ [.sh (.int c'),.sh (.int t),.sh (.str U4),.sh (.int (n:Int)),.ow (.lst (pl.map .int)),.sh (.int (j:Int)),.sh (.str (strOf w)),.sh (.int (a:Int)),.ow (.lst (((List.range j).map λk=>strOf (F k)).map .str)),.sh (.str ⟨#[cg ((p+4*(j:Int))%36)]⟩)]=_
      rw[o4 (x:=.str (strOf (w.take a++[cg ((p+4*(j:Int))%36)]))) (y:=.str (strOf (w.drop (a+1)))) (by
       rw[o4 t1 rfl];exact ij0 _ [cg ((p+4*(j:Int))%36)] (by rw[List.length_take];simp;omega)) t2]
      rw[ij0 _ _ (by rw[List.length_append,List.length_take,List.length_drop];simp;omega)];show some (D.str (strOf _))=some (D.str (strOf (w.take a++cg ((p+4*(j:Int))%36)::w.drop (a+1))));rw[List.append_assoc];rfl
     ·rw[List.range_succ,List.map_append,List.map_append]
      rfl) ⟨_,_,rfl⟩
  obtain⟨a5,s9,rfl⟩:=m2;refine⟨(List.range 8).map λk=>strOf (F k),O2 rfl (a0 _ _ (v5 (δ':=[.sh (.int c'),.sh (.int t),.sh (.str U4),.sh (.int (n:Int)),.ow (.lst (pl.map .int)),s5,.sh (.str (strOf w)),.un,.un,.un]) ?_ (v5 (j6 (d:=.int (a:Int)) ?_) (v5 (δ':=[.sh (.int c'),.sh (.int t),.sh (.str U4),.sh (.int (n:Int)),.ow (.lst (pl.map .int)),s5,.sh (.str (strOf w)),.sh (.int (a:Int)),.ow (.lst []),.un]) rfl (v5 (R0 (items:=Y7 0 8) rfl m1) (Q9 rfl)))))),by simp,λs hs=>?_,?_⟩
  ·rw[d7 (by show some (decide (t/8%3=1))=_;rw[decide_eq_false hb])];rfl
  ·rw[o4 (x:=.int t) (y:=.int (n:Int)) rfl rfl,yt0 _ _ (by omega),ha]
  ·obtain⟨k,hk,rfl⟩:=A7.mp hs
   refine n90 _ (by rw[Fl];omega) (by rw[Fl];omega) λx hx=>?_
   rcases B1.mp hx with q|q
   ·exact wm x (Y3 q)
   ·rcases A4.mp q with q|q
    ·rw[q];exact fp0 _ (by omega) (by omega)
    ·exact wm x (List.mem_of_mem_drop q)
  ·refine Al0.mpr (b4.mpr (Am0 ?_ (An0 (n:=8))))
   intro x y hx hy a8 e;have hx:=C3.mp hx;have hy:=C3.mp hy;have e:w.take a++cg ((p+4*(x:Int))%36)::w.drop (a+1)=w.take a++cg ((p+4*(y:Int))%36)::w.drop (a+1):=om0 e;have e:=List.append_cancel_left e;injection e with e _
   have:=Wo0 _ _ (by omega) (by omega) (by omega) (by omega) e;omega
end Gw
namespace Gw
open Kk
open DL W
theorem tm0(c k:Int)(hk:0<=k/\k<=1000000):∃x,0<=x/\x<2147483647/\V7 [.int c,.int k]=some (.int x):=by
 refine⟨(c%2147483647+1)*(48271+7*k)%2147483647,E6 _ (by decide),E7 _ (by decide),d8 rfl (j4 (X3 ?_))⟩;rw[o4 (x:=.int ((c%2147483647+1)*(48271+7*k))) (y:=.int 2147483647) (by
  rw[o4 (x:=.int (c%2147483647+1)) (y:=.int (48271+7*k)) rfl (by
   rw[o4 (x:=.int 48271) (y:=.int (7*k)) rfl (by rw[o4 (x:=.int 7) (y:=.int k) rfl rfl];exact mul_r _ _ (by omega))];rfl)]
  exact mul_r _ _ (by omega)) rfl]
 rfl
structure Vk(v:D)(m:Int):Prop where
 ok:pe0 v=true
 bd:∀i,v=.int i->i.natAbs<10 ^ 60
 lk:∀k,lk v=some k->k<m
theorem U30:mo0 (.int 10) (.int 60)=some (.int (10 ^ 60)):=by kernel_rfl
theorem k70(x m:Int)(hx:0<=x/\x<2 ^ 40)(hm:0<m):∃v,Q8 [.int x,.int m]=some v/\Vk v m:=by
 have z:(100:Nat)<=sizeLine:=by decide
 have s0:n6 (gN 2) (o2 (gv 0) (gc (.int 10)) d9) [.sh (.int x),.sh (.int m),.un]=some (.nx [.sh (.int x),.sh (.int m),.sh (.int (x%10))]):=rfl;have el:∀k:Int,ob (o2 (gv 2) (gc (.int k)) ltD) [.sh (.int x),.sh (.int m),.sh (.int (x%10))]=some (decide (x%10<k)):=λk=>rfl
 have ee:∀k:Int,ob (o2 (gv 2) (gc (.int k)) eqD) [.sh (.int x),.sh (.int m),.sh (.int (x%10))]=some (decide (x%10=k)):=λk=>rfl
 have nl:∀(k:Int) (A:GS),¬x%10<k->ifD (ob (o2 (gv 2) (gc (.int k)) ltD)) A u9 [.sh (.int x),.sh (.int m),.sh (.int (x%10))]=some (.nx [.sh (.int x),.sh (.int m),.sh (.int (x%10))]):=λk A h=>by
  rw[d7 (by rw[el,decide_eq_false h])];rfl
 have ne:∀(k:Int) (A:GS),¬x%10=k->ifD (ob (o2 (gv 2) (gc (.int k)) eqD)) A u9 [.sh (.int x),.sh (.int m),.sh (.int (x%10))]=some (.nx [.sh (.int x),.sh (.int m),.sh (.int (x%10))]):=λk A h=>by
  rw[d7 (by rw[ee,decide_eq_false h])];rfl
 by_cases h6:x%10<6
 ·have Z:0<=x/10%m:=E6 _ (by omega)
  have a0:x/10%m<m:=E7 _ hm;refine⟨.tup [.str "at",.int (x/10%m)],d8 rfl (v5 s0 (j4 ?_)),by simp[pe0,marks,Z],(λi hi=>by cases hi),λk hk=>?_⟩
  ·rw[Q6 (by rw[el,decide_eq_true h6])]
   exact j4 (X3 (R3 (cons_of rfl (cons_of (d:=.int (x/10%m)) (by
    rw[o4 (x:=.int (x/10)) (y:=.int m) rfl rfl];exact yt0 _ _ hm) rfl)) (by show 2<=sizeLine;omega)))
  ·have:=A8 hk
   omega
 by_cases e6:x%10=6
 ·refine⟨.non,d8 rfl (v5 s0 (v5 (nl 6 _ h6) (j4 ?_))),rfl,(λi hi=>by cases hi),λk hk=>by cases hk⟩
  rw[Q6 (by rw[ee,decide_eq_true e6])];rfl
 have J:(10:Nat) ^ 60=1000000000000000000000000000000000000000000000000000000000000:=by decide
 by_cases h9:x%10<9
 ·refine⟨.int (x/10%3 - 1),d8 rfl (v5 s0 (v5 (nl 6 _ h6) (v5 (ne 6 _ e6) (j4 ?_)))),rfl,(λi hi=>?_),λk hk=>by cases hk⟩
  ·rw[Q6 (by rw[el,decide_eq_true h9])];rfl
  ·injection hi with hi
   rw[J];omega
 ·obtain⟨b,hb⟩:∃b:Int,b=(x/10) ^ 7%10 ^ 60:=⟨_,rfl⟩
  have M:(10:Int) ^ 60=1000000000000000000000000000000000000000000000000000000000000:=by decide
  have b0:0<=b:=by rw[hb];exact E6 _ (by decide)
  have b1:b<10 ^ 60:=by rw[hb];exact E7 _ (by decide)
  obtain⟨q,hq,O⟩:∃q:Int,q=1 - 2*(x/20%2)/\(q=1∨q=-1):=⟨_,rfl,by omega⟩;refine⟨.int (b*q),d8 rfl (v5 s0 (v5 (nl 6 _ h6) (v5 (ne 6 _ e6) (v5 (nl 9 _ h9) (j4 (X3 ?_)))))),rfl,(λi hi=>?_),λk hk=>by cases hk⟩
  ·rw[o4 (x:=.int b) (y:=.int q) (by
    rw[o4 (x:=.int ((x/10) ^ 7)) (y:=.int (10 ^ 60)) (by
     rw[o4 (x:=.int (x/10)) (y:=.int 7) rfl rfl];simp only[mo0,ii];rw[if_pos ⟨by decide,by decide,by omega⟩];rfl) (by rw[o4 (x:=.int 10) (y:=.int 60) rfl rfl];exact U30)]
    rw[yt0 _ _ (by decide),hb]) (by
    rw[o4 (x:=.int 1) (y:=.int (2*(x/20%2))) rfl (by rw[o4 (x:=.int 2) (y:=.int (x/20%2)) rfl rfl];exact mul_r _ _ (by omega)),hq];rfl)]
   exact mul_r _ _ (by omega)
  ·injection hi with hi
   rw[← hi,J];rw[M] at b1;rcases O with rfl|rfl
   ·rw[Int.mul_one];omega
   ·rw[Int.mul_neg,Int.mul_one,Int.natAbs_neg];omega
def VB:GS:=(v4 (n6 (gN 0) (o2 (o2 (gv 0) (gc (.int 48271)) Q7) (gc (.int 2147483647)) d9))
 (v4 (b8 (V5 3 (oA (z8 (gv 0) (z8 (gv 2) v6)) Q8)))
 u9))
theorem yj0(x:Int)(c:Nat)(m:Int)(hc:c<=1000)(hm:0<m):∃vs,z90 [.int x,.int (c:Int),.int m]=some (.lst vs)/\vs.length=c/\∀v∈vs,Vk v m:=by
 have z:(10000:Nat)<=sizeLine:=by decide
 obtain⟨δ',l1,l2⟩:=T9 (f:=gN 4) (G:=VB) (λi δ=>∃(x':Int) (vs:List D) (s4:Sl),δ=[.sh (.int x'),.sh (.int (c:Int)),.sh (.int m),.ow (.lst vs),s4]/\vs.length=i/\∀v∈vs,Vk v m) (Y7 0 (c:Int)) 0
  [.sh (.int x),.sh (.int (c:Int)),.sh (.int m),.ow (.lst []),.un] (by
   rintro j d δ hj ⟨x',vs,s4,rfl,hl,hv⟩;obtain⟨M,rfl⟩:=wl0 hj;rw[Int.toNat_natCast] at M;obtain⟨v,O,J⟩:=k70 (x'*48271%2147483647) m ⟨E6 _ (by decide),by have:=E7 (x'*48271) (by decide:(0:Int)<2147483647);omega⟩ hm;refine⟨_,[.sh (.int (x'*48271%2147483647)),.sh (.int (c:Int)),.sh (.int m),.ow (.lst (vs++[v])),.sh (.int (j:Int))],rfl,?_,_,vs++[v],_,rfl,by simp[hl],λu hu=>?_⟩
   ·refine v5 (j6 (d:=.int (x'*48271%2147483647)) (by
     rw[o4 (x:=.int (x'*48271)) (y:=.int 2147483647) (by rw[o4 (x:=.int x') (y:=.int 48271) rfl rfl];exact mul_r _ _ (by omega)) rfl];rfl)) ?_
    refine v5 (yw0 (l:=vs) (d:=v) rfl (by rw[o8 (ds:=[.int (x'*48271%2147483647),.int m]) rfl];exact O) (by omega)) rfl
   ·rcases B1.mp hu with q|q
    ·exact hv u q
    ·rw[List.mem_singleton.mp q];exact J) ⟨_,[],_,rfl,rfl,λv hv=>by cases hv⟩
 obtain⟨x',vs,s4,rfl,hl,hv⟩:=l2;rw[wf0,Int.toNat_natCast,Nat.zero_add] at hl;exact⟨vs,O2 rfl (v5 (δ':=[.sh (.int x),.sh (.int (c:Int)),.sh (.int m),.ow (.lst []),.un]) rfl (v5 (R0 (items:=Y7 0 (c:Int)) (J7 (cons_of rfl rfl) (by omega) (by omega)) l1) (Q9 rfl))),hl,hv⟩
structure Gd(p:Pt)(m:Int)(nm:List Str):Prop where
 ok:p.Ok
 vk:∀v∈p.vals,Vk v m
 nms:∀s∈p.all,s∈nm
theorem w_a:isWord ("" : Str)=true/\isWord ("a" : Str)=true/\isWord (" a" : Str)=true:=by decide +kernel
theorem s_0:((" 0" : Str))=strOf [32,48]:=by decide +kernel
theorem fq0(l:List Nat)(h2:l.length<=20)(h3:∀c∈l,c∈m30.cps.toList):isWord (strOf l)=true:=by
 unfold isWord hasAll;rw[zq0,xg0];simp only[Bool.and_eq_true,decide_eq_true_eq,List.all_eq_true];exact⟨by omega,λc hc=>by simpa using h3 c hc⟩
theorem ft0:∀c∈nameS.cps.toList,c∈m30.cps.toList:=by decide +kernel
theorem Y50:∀c∈([32,48]:List Nat),c∈m30.cps.toList:=by decide +kernel
theorem name_mem{s:Str}(h:isName s=true):∀c∈s.cps.toList,c∈nameS.cps.toList:=by
 unfold isName hasAll at h;simp only[Bool.and_eq_true,decide_eq_true_eq,List.all_eq_true] at h;intro c hc;have:=h.1.2 c hc
 simpa using this
theorem m80(nm:List Str)(hp:Pool nm)(i:Int)(h0:0<=i)(h1:i<8):ixD (.lst (nm.map .str)) (.int i)=some (.str (nm.getD i.toNat ""))/\nm.getD i.toNat ""∈nm:=by
 have hl:=hp.len;have J:i.toNat<nm.length:=by omega
 refine⟨?_,?_⟩
 ·show atI (nm.map D.str) i=_
  rw[zc0 h0 (by rw[List.length_map];omega) .non];simp[List.getD_eq_getElem?_getD,J]
 ·rw[show nm.getD i.toNat ""=nm[i.toNat] by simp[List.getD_eq_getElem?_getD,J]]
  exact B7 J
theorem Z50(x m:Int)(vs:List D)(nm:List Str)(hp:Pool nm)(hv:∀v∈vs,Vk v m)(hl:vs.length<=12)(hl8:¬x%8<4->vs.length<=8):∃p:Pt,y30 [.int x,.lst vs,.lst (nm.map .str)]=some p.d/\Gd p m nm:=by
 have z:(100:Nat)<=sizeLine:=by decide
 have a7:=hp.len;have s0:n6 (gN 3) (o2 (gv 0) (gc (.int 8)) d9) [.sh (.int x),.sh (.lst vs),.sh (.lst (nm.map .str)),.un,.un,.un]=some (.nx [.sh (.int x),.sh (.lst vs),.sh (.lst (nm.map .str)),.sh (.int (x%8)),.un,.un]):=rfl
 by_cases h0:x%8=0
 ·obtain⟨w,hw,a3⟩:∃w:Str,o2 (W6 (z8 (gc (.str "")) (z8 (gc (.str "a")) (z8 (gc (.str " a")) (z8 (o2 (o2 (gv 2) (gc (.int 0)) ixD) (gc (.str " 0")) Z0) v6))))) (o2 (o2 (gv 0) (gc (.int 16)) W4) (gc (.int 4)) d9) ixD [.sh (.int x),.sh (.lst vs),.sh (.lst (nm.map .str)),.sh (.int (x%8)),.un,.un]=some (.str w)/\isWord w=true:=by
   obtain⟨a1,a2⟩:=m80 nm hp 0 (by omega) (by omega);obtain⟨s,hs⟩:∃s,s=nm.getD (0:Int).toNat "" := ⟨_,rfl⟩;rw[← hs] at a1 a2;have hn:=hp.names s a2;have a8:=ig0 hn;have es:s=strOf s.cps.toList:=(dt0 s).symm;have b0:s.cps.toList.length<=8:=by
    have:s.length=s.cps.toList.length:=by show s.cps.size=_;simp
    omega
   rw[o4 (x:=.lst [.str "",.str "a",.str " a",.str (strOf (s.cps.toList++[32,48]))]) (y:=.int (x/16%4)) (tp0 (cons_of rfl (cons_of rfl (cons_of rfl (cons_of (d:=.str (strOf (s.cps.toList++[32,48]))) (by
    rw[o4 (x:=.str s) (y:=.str " 0") (by rw[o4 (x:=.lst (nm.map .str)) (y:=.int 0) rfl rfl];exact a1) rfl];have e:Z0 (.str (strOf s.cps.toList)) (.str (strOf [32,48]))=some (.str (strOf (s.cps.toList++[32,48]))):=ij0 _ _ (by simp only[List.length_cons,List.length_nil];omega);rw[← es,← s_0] at e;exact e) rfl)))) (by show 4<=sizeLine;omega)) rfl]
   have q:x/16%4=0∨x/16%4=1∨x/16%4=2∨x/16%4=3:=by omega
   rcases q with q|q|q|q<;>rw[q]
   ·exact⟨_,rfl,w_a.1⟩
   ·exact⟨_,rfl,w_a.2.1⟩
   ·exact⟨_,rfl,w_a.2.2⟩
   ·refine⟨_,rfl,fq0 _ (by simp only[List.length_append,List.length_cons,List.length_nil];omega) λc hc=>?_⟩
    rcases B1.mp hc with q|q
    ·exact ft0 c (name_mem hn c q)
    ·exact Y50 c q
  refine⟨.text w,d8 rfl (v5 s0 (j4 ?_)),a3,(λv hv=>by cases hv),λs hs=>by cases hs⟩;rw[Q6 (by show some (decide (x%8=0))=_;rw[decide_eq_true h0])];exact j4 (X3 (R3 (cons_of rfl (cons_of hw rfl)) (by show 2<=sizeLine;omega)))
 have n0:∀A:GS,ifD (ob (o2 (gv 3) (gc (.int 0)) eqD)) A u9 [.sh (.int x),.sh (.lst vs),.sh (.lst (nm.map .str)),.sh (.int (x%8)),.un,.un]=some (.nx [.sh (.int x),.sh (.lst vs),.sh (.lst (nm.map .str)),.sh (.int (x%8)),.un,.un]):=λA=>by
  rw[d7 (by show some (decide (x%8=0))=_;rw[decide_eq_false h0])];rfl
 by_cases h4:x%8<4
 ·refine⟨.row vs,d8 rfl (v5 s0 (v5 (n0 _) (j4 ?_))),⟨hl,λv q=>(hv v q).ok⟩,hv,λs hs=>by cases hs⟩
  rw[Q6 (by show some (decide (x%8<4))=_;rw[decide_eq_true h4])];exact j4 (X3 (R3 (cons_of rfl (cons_of (by rw[o8 (ds:=[.lst vs]) rfl];rfl) rfl)) (by show 2<=sizeLine;omega)))
 have n4:∀A:GS,ifD (ob (o2 (gv 3) (gc (.int 4)) ltD)) A u9 [.sh (.int x),.sh (.lst vs),.sh (.lst (nm.map .str)),.sh (.int (x%8)),.un,.un]=some (.nx [.sh (.int x),.sh (.lst vs),.sh (.lst (nm.map .str)),.sh (.int (x%8)),.un,.un]):=λA=>by
  rw[d7 (by show some (decide (x%8<4))=_;rw[decide_eq_false h4])];rfl
 have a6:=hl8 h4;obtain⟨st,a0⟩:∃st:Int,st=x/8%2*3:=⟨_,rfl⟩;have a5:0<=st/\st<=3:=by omega
 obtain⟨ns,O⟩:∃ns:Nat->Str,ns=λ(j:Nat)=>nm.getD ((st+(j:Int))%8).toNat "" := ⟨_,rfl⟩
 have a4:∀j,ns j∈nm:=λj=>by rw[O];exact(m80 nm hp ((st+(j:Int))%8) (by omega) (by omega)).2
 obtain⟨ps,M⟩:∃ps:List (Str×D),ps=(List.range vs.length).map λj=>(ns j,vs.getD j .non):=⟨_,rfl⟩
 have snd:ps.map (·.2)=vs:=by
  rw[M,List.map_map];refine P7 (by simp) λi h1 h2=>?_
  simp[List.getD_eq_getElem?_getD,h2]
 have fst:∀s∈ps.map (·.1),s∈nm:=λs hs=>by
  obtain⟨p,J,rfl⟩:=A7.mp hs;rw[M] at J;obtain⟨j,_,rfl⟩:=A7.mp J;exact a4 j
 have Z:PsOk ps:=by
  refine⟨by rw[M];simp;omega,λp J=>hp.names _ (fst _ (A7.mpr ⟨p,J,rfl⟩)),λp J=>(hv p.2 (by rw[← snd];exact A7.mpr ⟨p,J,rfl⟩)).ok,?_⟩;rw[M,List.map_map];refine Al0.mpr (b4.mpr (Am0 ?_ (An0 (n:=vs.length))));intro a b ha hb b1 e;have ha:=C3.mp ha;have hb:=C3.mp hb;have e:ns a=ns b:=e;rw[O] at e;have la:((st+(a:Int))%8).toNat<nm.length:=by omega
  have lb:((st+(b:Int))%8).toNat<nm.length:=by omega
  have e:nm.getD ((st+(a:Int))%8).toNat ""=nm.getD ((st+(b:Int))%8).toNat "" := e;rw[show nm.getD ((st+(a:Int))%8).toNat ""=nm[((st+(a:Int))%8).toNat] by simp[List.getD_eq_getElem?_getD,la],show nm.getD ((st+(b:Int))%8).toNat ""=nm[((st+(b:Int))%8).toNat] by simp[List.getD_eq_getElem?_getD,lb]] at e;have:=(i5 hp.nd).mp e;omega
 have s4:n6 (gN 4) (o2 (o2 (o2 (gv 0) (gc (.int 8)) W4) (gc (.int 2)) d9) (gc (.int 3)) Q7) [.sh (.int x),.sh (.lst vs),.sh (.lst (nm.map .str)),.sh (.int (x%8)),.un,.un]=some (.nx [.sh (.int x),.sh (.lst vs),.sh (.lst (nm.map .str)),.sh (.int (x%8)),.sh (.int st),.un]):=j6 (d:=.int st) (by
  rw[o4 (x:=.int (x/8%2)) (y:=.int 3) rfl rfl,mul_r _ _ (by omega),a0])
 have s5:n6 (gN 5) (oA (z8 (Y8 1 [1,2,4] (T6 (z8 (oA (z8 (gv 1) v6) Y0) v6)) (gN 0) noT (Y4 (z8 (o2 (gv 2) (o2 (o2 (gv 3) (gv 0) Z0) (gc (.int 8)) d9) ixD) (z8 (o2 (gv 1) (gv 0) ixD) v6)))) v6) U8) [.sh (.int x),.sh (.lst vs),.sh (.lst (nm.map .str)),.sh (.int (x%8)),.sh (.int st),.un]=some (.nx [.sh (.int x),.sh (.lst vs),.sh (.lst (nm.map .str)),.sh (.int (x%8)),.sh (.int st),.sh (.tup (ps.map pr))]):=j6 (d:=.tup (ps.map pr)) (by
  rw[o8 (ds:=[.lst (ps.map pr)]) (cons_of (V6 (items:=Y7 0 (vs.length:Int)) (J7 (cons_of rfl rfl) (by omega) (by omega)) (by rw[wf0];omega) (by
   rw[M,List.map_map];have q:=my0 (gt:=noT) (ge:=(Y4 (z8 (o2 (gv 2) (o2 (o2 (gv 3) (gv 0) Z0) (gc (.int 8)) d9) ixD) (z8 (o2 (gv 1) (gv 0) ixD) v6)))) (δ:=[.un,.sh (.lst vs),.sh (.lst (nm.map .str)),.sh (.int st)]) (n:=(vs.length:Int)) (λj=>pr (ns j,vs.getD j .non)) (λk hk=>⟨[.sh (.int (k:Int)),.sh (.lst vs),.sh (.lst (nm.map .str)),.sh (.int st)],rfl,rfl,by
    refine R3 (cons_of (d:=.str (ns k)) ?_ (cons_of (d:=vs.getD k .non) ?_ rfl)) (by show 2<=sizeLine;omega)
    ·rw[o4 (x:=.lst (nm.map .str)) (y:=.int ((st+(k:Int))%8)) rfl rfl,O]
     exact(m80 nm hp _ (by omega) (by omega)).1
    ·rw[o4 (x:=.lst vs) (y:=.int (k:Int)) rfl rfl]
     show atI vs (k:Int)=_;rw[zc0 (by omega) (by omega) .non,Int.toNat_natCast]⟩)
   rw[Int.toNat_natCast] at q;exact q)) rfl)]
  rfl)
 by_cases h6:x%8<6
 ·refine⟨.table ps,d8 rfl (v5 s0 (v5 (n0 _) (v5 (n4 _) (v5 s4 (v5 s5 (j4 ?_)))))),Z,by show ∀v∈ps.map (·.2),Vk v m;rw[snd];exact hv,λs hs=>fst s (by simpa [Pt.all,Pt.pnames,Pt.cls] using hs)⟩
  rw[Q6 (by show some (decide (x%8<6))=_;rw[decide_eq_true h6])];exact j4 (X3 (R3 (cons_of rfl (cons_of rfl rfl)) (by show 2<=sizeLine;omega)))
 ·obtain⟨a1,a2⟩:=m80 nm hp (x/16%2) (by omega) (by omega)
  refine⟨.rcd (nm.getD (x/16%2).toNat "") ps,d8 rfl (v5 s0 (v5 (n0 _) (v5 (n4 _) (v5 s4 (v5 s5 (v5 (δ':=[.sh (.int x),.sh (.lst vs),.sh (.lst (nm.map .str)),.sh (.int (x%8)),.sh (.int st),.sh (.tup (ps.map pr))]) ?_ (j4 (X3 ?_)))))))),⟨hp.names _ a2,Z⟩,by show ∀v∈ps.map (·.2),Vk v m;rw[snd];exact hv,λs hs=>?_⟩
  ·rw[d7 (by show some (decide (x%8<6))=_;rw[decide_eq_false h6])];rfl
  ·exact R3 (cons_of rfl (cons_of (by
    rw[o4 (x:=.lst (nm.map .str)) (y:=.int (x/16%2)) rfl rfl];exact a1) (cons_of rfl rfl))) (by show 3<=sizeLine;omega)
  ·rcases B1.mp hs with q|q
   ·exact fst s q
   ·have:=m3.mp q
    rw[this];exact a2
def WB:GS:=(v4 (n6 (gN 5) (oA (z8 (o2 (o2 (gv 0) (o2 (gv 4) (oA (z8 (gv 0) v6) Y0) d9) ixD) (o2 (gv 4) (o2 (gv 4) (oA (z8 (gv 0) v6) Y0) W4) Q7) Z0) (z8 (gv 4) v6)) V7))
 (v4 (n6 (gN 6) (o2 (W6 (z8 (gc (.int 0)) (z8 (gc (.int 1)) (z8 (gc (.int 2)) (z8 (gc (.int 2)) (z8 (gc (.int 3)) (z8 (gc (.int 2)) (z8 (gc (.int 3)) (z8 (gc (.int 1)) v6))))))))) (o2 (o2 (gv 5) (gc (.int 32)) W4) (gc (.int 8)) d9) ixD))
 (v4 (ifD (ob (o2 (o2 (o2 (gv 5) (gc (.int 256)) W4) (gc (.int 16)) d9) (gc (.int 3)) eqD))
 (v4 (n6 (gN 6) (o2 (W6 (z8 (gc (.int 8)) (z8 (gc (.int 12)) v6))) (oA (z8 (o2 (o2 (gv 5) (gc (.int 8)) d9) (gc (.int 4)) ltD) v6) intOfD) ixD))
 u9)
 u9)
 (v4 (n6 (gN 7) (oA (z8 (o2 (o2 (gv 5) (gc (.int 8)) W4) (gc (.int 1)) Z0) (z8 (gv 6) (z8 (gv 1) v6))) z90))
 (v4 (b8 (V5 3 (oA (z8 (gv 5) (z8 (gv 7) (z8 (gv 2) v6))) y30)))
 u9)))))
theorem Vv0(cs:List Int)(hc:0<cs.length/\cs.length<=1000)(m:Int)(hm:0<m/\m<=1000)(nm:List Str)(hp:Pool nm)(k:Nat)(hk:k<=1000)(acc:List D)(ha:acc.length<=2000)(s5 s6 s7:Sl) :
  ∃(p:Pt) (t5 t6 t7:Sl),Gd p m nm/\WB [.sh (.lst (cs.map .int)),.sh (.int m),.sh (.lst (nm.map .str)),.ow (.lst acc),.sh (.int (k:Int)),s5,s6,s7]=some (.nx [.sh (.lst (cs.map .int)),.sh (.int m),.sh (.lst (nm.map .str)),.ow (.lst (acc++[p.d])),.sh (.int (k:Int)),t5,t6,t7]):=by
 have z:(10000:Nat)<=sizeLine:=by decide
 obtain⟨l,hl⟩:∃l:Int,l=(cs.length:Int):=⟨_,rfl⟩;have Z:0<=(k:Int)%l:=E6 _ (by omega);have a8:(k:Int)%l<l:=E7 _ (by omega);obtain⟨c,a4⟩:∃c:Int,ixD (.lst (cs.map .int)) (.int ((k:Int)%l))=some (.int c):=by
  have a0:((k:Int)%l).toNat<cs.length:=by omega
  refine⟨cs[((k:Int)%l).toNat],?_⟩;show atI (cs.map D.int) _=_;rw[zc0 Z (by rw[List.length_map];omega) .non];simp[List.getD_eq_getElem?_getD,a0]
 have b2:(k:Int)/l<=1000/\0<=(k:Int)/l:=by
  have h1:=Int.ediv_le_self l (show (0:Int)<=(k:Int) by omega);have h2:=Int.ediv_nonneg (show (0:Int)<=(k:Int) by omega) (show (0:Int)<=l by omega);omega
 obtain⟨x,b0,b1,hx⟩:=tm0 (c+(k:Int)*((k:Int)/l)) (k:Int) ⟨by omega,by omega⟩;obtain⟨n,hn,a6,a1⟩:∃n:Nat,(n:Int)=(if x/256%16=3 then (if x%8<4 then 12 else 8) else [0,1,2,2,3,2,3,1].getD (x/32%8).toNat 0)/\n<=12/\(¬x%8<4->n<=8):=by
  split
  ·split
   ·exact⟨12,rfl,by omega,λh=>absurd (by assumption) h⟩
   ·exact⟨8,rfl,by omega,λ_=>by omega⟩
  ·have q:x/32%8=0∨x/32%8=1∨x/32%8=2∨x/32%8=3∨x/32%8=4∨x/32%8=5∨x/32%8=6∨x/32%8=7:=by omega
   rcases q with q|q|q|q|q|q|q|q<;>rw[q]
   ·exact⟨0,rfl,by omega,λ_=>by omega⟩
   ·exact⟨1,rfl,by omega,λ_=>by omega⟩
   ·exact⟨2,rfl,by omega,λ_=>by omega⟩
   ·exact⟨2,rfl,by omega,λ_=>by omega⟩
   ·exact⟨3,rfl,by omega,λ_=>by omega⟩
   ·exact⟨2,rfl,by omega,λ_=>by omega⟩
   ·exact⟨3,rfl,by omega,λ_=>by omega⟩
   ·exact⟨1,rfl,by omega,λ_=>by omega⟩
 obtain⟨vs,a3,a7,a5⟩:=yj0 (x/8+1) n m (by omega) (by omega);obtain⟨p,a2,O⟩:=Z50 x m vs nm hp a5 (by omega) (λh=>by have:=a1 h;omega);refine⟨p,.sh (.int x),.sh (.int (n:Int)),.sh (.lst vs),O,?_⟩;unfold WB;have J:∀(s5 s6 s7:Sl),oA (z8 (gv 0) v6) Y0 [.sh (.lst (cs.map .int)),.sh (.int m),.sh (.lst (nm.map .str)),.ow (.lst acc),.sh (.int (k:Int)),s5,s6,s7]=some (.int l):=λs5 s6 s7=>by
  rw[o8 (ds:=[.lst (cs.map .int)]) rfl];show some (D.int (((cs.map D.int).length:Nat):Int))=_;rw[List.length_map,hl]
 refine v5 (j6 (d:=.int x) ?_) ?_
 ·rw[o8 (ds:=[.int (c+(k:Int)*((k:Int)/l)),.int (k:Int)]) (cons_of (d:=.int (c+(k:Int)*((k:Int)/l))) (by
   rw[o4 (x:=.int c) (y:=.int ((k:Int)*((k:Int)/l))) (by
    rw[o4 (x:=.lst (cs.map .int)) (y:=.int ((k:Int)%l)) rfl (by rw[o4 (x:=.int (k:Int)) (y:=.int l) rfl (J _ _ _)];exact yt0 _ _ (by omega))];exact a4) (by
    rw[o4 (x:=.int (k:Int)) (y:=.int ((k:Int)/l)) rfl (by rw[o4 (x:=.int (k:Int)) (y:=.int l) rfl (J _ _ _)];exact ek0 _ _ ⟨by omega,by omega⟩)];exact mul_r _ _ (by omega))]
   rfl) rfl)]
  exact hx
 obtain⟨n0,M⟩:∃n0:Int,n0=[0,1,2,2,3,2,3,1].getD (x/32%8).toNat 0:=⟨_,rfl⟩;refine v5 (j6 (d:=.int n0) ?_) ?_
 ·rw[o4 (x:=.lst [.int 0,.int 1,.int 2,.int 2,.int 3,.int 2,.int 3,.int 1]) (y:=.int (x/32%8)) (tp0 rfl (by show 8<=sizeLine;omega)) rfl]
  rw[M];have q:x/32%8=0∨x/32%8=1∨x/32%8=2∨x/32%8=3∨x/32%8=4∨x/32%8=5∨x/32%8=6∨x/32%8=7:=by omega
  rcases q with q|q|q|q|q|q|q|q<;>rw[q]<;>rfl
 refine v5 (δ':=[.sh (.lst (cs.map .int)),.sh (.int m),.sh (.lst (nm.map .str)),.ow (.lst acc),.sh (.int (k:Int)),.sh (.int x),.sh (.int (n:Int)),s7]) ?_ ?_
 ·change ifD _ _ _ [.sh (.lst (cs.map .int)),.sh (.int m),.sh (.lst (nm.map .str)),.ow (.lst acc),.sh (.int (k:Int)),.sh (.int x),.sh (.int n0),s7]=_
  rw[hn]
  by_cases h:x/256%16=3
  ·rw[Q6 (by show some (decide (x/256%16=3))=_;rw[decide_eq_true h]),if_pos h]
   refine v5 (j6 (d:=.int (if x%8<4 then 12 else 8)) ?_) rfl;rw[o4 (x:=.lst [.int 8,.int 12]) (y:=.int (if decide (x%8<4)=true then 1 else 0)) (tp0 rfl (by show 2<=sizeLine;omega)) rfl]
   by_cases q:x%8<4
   ·rw[if_pos (N3 q),if_pos q];rfl
   ·rw[if_neg (by simpa using q),if_neg q];rfl
  ·rw[d7 (by show some (decide (x/256%16=3))=_;rw[decide_eq_false h]),if_neg h,M];rfl
 refine v5 (j6 (d:=.lst vs) (by
  rw[o8 (ds:=[.int (x/8+1),.int (n:Int),.int m]) rfl];exact a3)) ?_
 refine v5 (yw0 (l:=acc) (d:=p.d) rfl (by
  rw[o8 (ds:=[.int x,.lst vs,.lst (nm.map .str)]) rfl];exact a2) (by omega)) rfl
theorem k30(cs:List Int)(hc:0<cs.length/\cs.length<=1000)(m:Nat)(hm:0<m/\m<=1000)(nm:List Str)(hp:Pool nm) :
  ∃ps:List Pt,yp0 [.lst (cs.map .int),.int (m:Int),.lst (nm.map .str)]=some (.tup (ps.map Pt.d))/\ps.length=m/\∀p∈ps,Gd p (m:Int) nm:=by
 have z:(10000:Nat)<=sizeLine:=by decide
 obtain⟨δ',l1,l2⟩:=T9 (f:=gN 4) (G:=WB) (λi δ=>∃(ps:List Pt) (s4 s5 s6 s7:Sl),δ=[.sh (.lst (cs.map .int)),.sh (.int (m:Int)),.sh (.lst (nm.map .str)),.ow (.lst (ps.map Pt.d)),s4,s5,s6,s7]/\ps.length=i/\∀p∈ps,Gd p (m:Int) nm) (Y7 0 (m:Int)) 0
  [.sh (.lst (cs.map .int)),.sh (.int (m:Int)),.sh (.lst (nm.map .str)),.ow (.lst []),.un,.un,.un,.un] (by
   rintro j d δ hj ⟨ps,s4,s5,s6,s7,rfl,hl,hg⟩;obtain⟨J,rfl⟩:=wl0 hj;rw[Int.toNat_natCast] at J;obtain⟨p,t5,t6,t7,h1,h2⟩:=Vv0 cs hc (m:Int) (by omega) nm hp j (by omega) (ps.map Pt.d) (by rw[List.length_map];omega) s5 s6 s7;refine⟨_,_,rfl,h2,ps++[p],_,t5,t6,t7,by rw[List.map_append];rfl,by simp[hl],λq hq=>?_⟩;rcases B1.mp hq with a|a
   ·exact hg q a
   ·rw[List.mem_singleton.mp a];exact h1) ⟨[],_,_,_,_,rfl,rfl,λp hp=>by cases hp⟩
 obtain⟨ps,s4,s5,s6,s7,rfl,hl,hg⟩:=l2;rw[wf0,Int.toNat_natCast,Nat.zero_add] at hl;refine⟨ps,d8 rfl (v5 (δ':=[.sh (.lst (cs.map .int)),.sh (.int (m:Int)),.sh (.lst (nm.map .str)),.ow (.lst []),.un,.un,.un,.un]) rfl (v5 (R0 (items:=Y7 0 (m:Int)) (J7 (cons_of rfl rfl) (by omega) (by omega)) l1) (j4 (X3 ?_)))),hl,hg⟩;show oA (z8 (gv 3) v6) U8 (frz _)=_;rw[o8 (ds:=[.lst (ps.map Pt.d)]) rfl];rfl
theorem oy0(ps:List (Str×D)):R4 (vl0 0 1) noT (gv 1) [.un,.un] (ps.map pr)=some (ps.map (·.2)):=by
 rw[R8 (λd=>match d with|.tup [_,v]=>v|_=>.non) (λd hd=>by
  obtain⟨p,hp,rfl⟩:=A7.mp hd;exact⟨_,rfl,rfl,rfl⟩),List.map_map]
 rfl
theorem yn0(p:Pt)(h:p.few):o7 [p.d]=some (.lst p.vals):=by
 cases p with
 | text w=>kernel_rfl
 | row vs =>
  refine O2 rfl (v5 (δ':=[.sh (Pt.row vs).d]) (by rw[d7 (by kernel_rfl)];rfl) (Q9 (by rw[Q6 (by kernel_rfl)];rfl)))
 | table ps =>
  refine O2 rfl (v5 (δ':=[.sh (Pt.table ps).d]) (by rw[d7 (by kernel_rfl)];rfl) (v5 (δ':=[.sh (Pt.table ps).d]) (by rw[d7 (by kernel_rfl)];rfl) (Q9 (zv0 ?_))));exact V6 (items:=ps.map pr) rfl (by have:(ps.map (·.2)).length<=sizeLine:=h;simpa using this) (oy0 ps)
 | rcd c ps =>
  refine O2 rfl (v5 (δ':=[.sh (Pt.rcd c ps).d]) (by rw[d7 (by kernel_rfl)];rfl) (v5 (δ':=[.sh (Pt.rcd c ps).d]) (by rw[d7 (by kernel_rfl)];rfl) (Q9 (zv0 ?_))));exact V6 (items:=ps.map pr) rfl (by have:(ps.map (·.2)).length<=sizeLine:=h;simpa using this) (oy0 ps)
theorem d30(xs:List D)(x:D):cutD (xs++[x]) none (some (-1))=xs:=by
 unfold cutD;have i1:sIx (xs++[x]).length (xs++[x]).length (some (-1))=xs.length:=by
  show (if (-1:Int)<0 then ((-1:Int)+((xs++[x]).length:Int)).toNat else min (-1:Int).toNat (xs++[x]).length)=_;rw[if_pos (by decide),List.length_append];simp only[List.length_cons,List.length_nil];omega
 rw[i1];show ((xs++[x]).drop 0).take (xs.length - 0)=_;simp
theorem dh0(xs:List D)(x:D):atI (xs++[x]) (-1)=some x:=by
 unfold atI ixN;rw[if_neg (by decide),if_pos (by rw[List.length_append];simp only[List.length_cons,List.length_nil];omega)];rw[show ((-1:Int)+((xs++[x]).length:Int)).toNat=xs.length by rw[List.length_append];simp only[List.length_cons,List.length_nil];omega];simp
theorem ui0(p:Pt)(h:p.few)(vs:List D)(hl:vs.length=p.vals.length∨p.vals=[]/\vs=[]):X4 [p.d,.lst vs]=some (Pn.put p vs).d:=by
 have z:(100:Nat)<=sizeLine:=by decide
 have zz:(sizeLine:Int)<2 ^ 62:=by decide
 have key:∀(xs:List D) (ps:List (Str×D)),ps.length=vs.length->ps.length<=sizeLine->xs.length<=10 ->
   o2 (M8 (gv 0) K6 (someO (unG xi0 (gc (.int 1))))) (Y4 (z8 (oA (z8 (Y8 1 [0,1] (T6 (z8 (oA (z8 (gv 1) v6) Y0) v6)) (gN 0) noT (Y4 (z8 (o2 (o2 (o2 (gv 1) (unG xi0 (gc (.int 1))) ixD) (gv 0) ixD) (gc (.int 0)) ixD) (z8 (o2 (gv 2) (gv 0) ixD) v6)))) v6) U8) v6)) Z0 [.sh (.tup (xs++[.tup (ps.map pr)])),.sh (.lst vs)]=some (.tup (xs++[.tup (((ps.map (·.1)).zip vs).map pr)])):=λxs ps hp hz hx=>by
  have hc:oA (z8 (Y8 1 [0,1] (T6 (z8 (oA (z8 (gv 1) v6) Y0) v6)) (gN 0) noT (Y4 (z8 (o2 (o2 (o2 (gv 1) (unG xi0 (gc (.int 1))) ixD) (gv 0) ixD) (gc (.int 0)) ixD) (z8 (o2 (gv 2) (gv 0) ixD) v6)))) v6) U8 [.sh (.tup (xs++[.tup (ps.map pr)])),.sh (.lst vs)]=some (.tup (((ps.map (·.1)).zip vs).map pr)):=by
   rw[o8 (ds:=[.lst (((ps.map (·.1)).zip vs).map pr)]) (cons_of (V6 (items:=Y7 0 (vs.length:Int)) (J7 (cons_of rfl rfl) (by omega) (by omega)) (by rw[wf0];omega) (by
    have q:=my0 (gt:=noT) (ge:=(Y4 (z8 (o2 (o2 (o2 (gv 1) (unG xi0 (gc (.int 1))) ixD) (gv 0) ixD) (gc (.int 0)) ixD) (z8 (o2 (gv 2) (gv 0) ixD) v6)))) (δ:=[.un,.sh (.tup (xs++[.tup (ps.map pr)])),.sh (.lst vs)]) (n:=(vs.length:Int)) (λj=>pr ((ps.map (·.1)).getD j "",vs.getD j .non)) (λk hk=>⟨[.sh (.int (k:Int)),.sh (.tup (xs++[.tup (ps.map pr)])),.sh (.lst vs)],rfl,rfl,by
     have M:k<ps.length:=by omega
     refine R3 (cons_of (d:=.str ((ps.map (·.1)).getD k "")) ?_ (cons_of (d:=vs.getD k .non) ?_ rfl)) (by show 2<=sizeLine;omega)
     ·rw[o4 (x:=pr ps[k]) (y:=.int 0) (by
       rw[o4 (x:=.tup (ps.map pr)) (y:=.int (k:Int)) (by
        rw[o4 (x:=.tup (xs++[.tup (ps.map pr)])) (y:=.int (-1)) rfl rfl];exact dh0 _ _) rfl]
       show atI (ps.map pr) (k:Int)=_;rw[zc0 (by omega) (by rw[List.length_map];omega) .non,Int.toNat_natCast];simp[List.getD_eq_getElem?_getD,M]) rfl]
      simp[List.getD_eq_getElem?_getD,M];rfl
     ·rw[o4 (x:=.lst vs) (y:=.int (k:Int)) rfl rfl]
      show atI vs (k:Int)=_;rw[zc0 (by omega) (by omega) .non,Int.toNat_natCast]⟩)
    rw[Int.toNat_natCast] at q;refine q.trans ?_;congr 1;refine P7 (by simp;omega) λi h1 h2=>?_
    have hi:i<vs.length:=by simpa using h1
    have O:i<ps.length:=by omega
    simp[List.getD_eq_getElem?_getD,hi,O])) rfl)]
   rfl
  rw[o4 (x:=.tup xs) (y:=.tup [.tup (((ps.map (·.1)).zip vs).map pr)]) (by
   show slA (.tup (xs++[.tup (ps.map pr)])) none (some (-1))=_;simp only[slA];rw[d30]) (R3 (cons_of hc rfl) (by show 1<=sizeLine;omega))]
  simp only[Z0];rw[if_pos (by simp only[List.length_cons,List.length_nil];omega)]
 have J:∀ps:List (Str×D),p.vals=ps.map (·.2)->ps.length=vs.length:=λps e=>by
  rcases hl with q|⟨q1,q2⟩
  ·rw[q,e,List.length_map]
  ·rw[q2];rw[q1] at e;have:=D5 List.length e;simp at this;simpa using this.symm
 cases p with
 | text w=>kernel_rfl
 | row us=>kernel_rfl
 | table ps =>
  exact d8 rfl (v5 (δ':=[.sh (Pt.table ps).d,.sh (.lst vs)]) (by rw[d7 (by kernel_rfl)];rfl) (v5 (δ':=[.sh (Pt.table ps).d,.sh (.lst vs)]) (by rw[d7 (by kernel_rfl)];rfl) (j4 (X3 (key [.str "table"] ps (J ps rfl) (by have:(ps.map (·.2)).length<=sizeLine:=h;simpa using this) (by simp))))))
 | rcd c ps =>
  exact d8 rfl (v5 (δ':=[.sh (Pt.rcd c ps).d,.sh (.lst vs)]) (by rw[d7 (by kernel_rfl)];rfl) (v5 (δ':=[.sh (Pt.rcd c ps).d,.sh (.lst vs)]) (by rw[d7 (by kernel_rfl)];rfl) (j4 (X3 (key [.str "record",.str c] ps (J ps rfl) (by have:(ps.map (·.2)).length<=sizeLine:=h;simpa using this) (by simp))))))
end Gw
namespace K22
open Kk
open DL W
inductive Dfs (adj:Nat->List Nat) (S:List Nat):Nat->List Nat->List Nat->List Nat->Prop
 | nil (o:List Nat):Dfs adj S 0 o [] o
 | skip {c:Nat} {o T r:List Nat} {x:Nat}:x∈o∨x∈S->Dfs adj S c o T r->Dfs adj S (c+1) o (x::T) r
 | visit {c:Nat} {o T r:List Nat} {x:Nat}:x∉o->x∉S->(adj x++T).length+o.length<=10000->Dfs adj S c (o++[x]) (adj x++T) r->Dfs adj S (c+1) o (x::T) r
theorem sub_len:∀{l m:List Nat},l.Nodup->(∀a∈l,a∈m)->l.length<=m.length
 | [],m,_,_=>C4 _
 | a::l,m,h,hs=>by
  obtain⟨h1,h2⟩:=E3.mp h;obtain⟨m1,m2,rfl⟩:=List.append_of_mem (hs a A5);have:=sub_len (m:=m1++m2) h2 λb hb=>by
   have:=hs b (A3 _ hb);rcases B1.mp this with q|q
   ·exact B1.mpr (.inl q)
   ·rcases A4.mp q with rfl|q
    ·exact absurd hb h1
    ·exact B1.mpr (.inr q)
  simp only[List.length_append,List.length_cons] at this ⊢;omega
theorem V50(adj:Nat->List Nat)(S:List Nat)(n:Nat)(hn:n<=60)(ha:∀i,i<n->(adj i).length<=12/\∀j∈adj i,j<n):∀(M:Nat) (o T:List Nat),T.length+13*(n - o.length)<=M->M<=5000->o.Nodup->(∀x∈o,x<n/\x∉S)->(∀x∈T,x<n) ->
  ∃c r,Dfs adj S c o T r/\c<=M/\r.Nodup/\(∀x∈r,x<n/\x∉S)/\o.length<=r.length:=by
 intro M
 induction M with
 | zero =>
  intro o T hM a4 ho J hT;have:T=[]:=U2.mp (by omega);subst this;exact⟨0,o,.nil o,A2 _,ho,J,A2 _⟩
 | succ M ih =>
  intro o T hM a4 ho J hT;cases T with
  | nil=>exact⟨0,o,.nil o,C4 _,ho,J,A2 _⟩
  | cons x T =>
   rw[List.length_cons] at hM
   by_cases hx:x∈o∨x∈S
   ·obtain⟨c,r,h1,h2,h3⟩:=ih o T (by omega) (by omega) ho J λy hy=>hT y (A3 _ hy)
    exact⟨c+1,r,.skip hx h1,by omega,h3⟩
   ·have a2:=hT x A5
    obtain⟨hl,hj⟩:=ha x a2;have a1:x∉o:=λz=>hx (.inl z)
    have Z:x∉S:=λz=>hx (.inr z)
    have a0:(o++[x]).Nodup:=m4.mpr ⟨ho,by simp,λa ha b hb e=>by
     have:=m3.mp hb;subst this;subst e;exact a1 ha⟩
    have O:∀y∈o++[x],y<n/\y∉S:=λy hy=>by
     rcases B1.mp hy with z|z
     ·exact J y z
     ·have:=m3.mp z;subst this;exact⟨a2,Z⟩
    have a3:(o++[x]).length<=n:=by
     have:=sub_len a0 (m:=List.range n) λy hy=>C3.mpr (O y hy).1
     rwa [Ao0] at this
    rw[List.length_append,List.length_singleton] at a3;obtain⟨c,r,h1,h2,h3,h4,h5⟩:=ih (o++[x]) (adj x++T) (by simp only[List.length_append,List.length_singleton];omega) (by omega) a0 O (λy hy=>by
     rcases B1.mp hy with z|z
     ·exact hj y z
     ·exact hT y (A3 _ z))
    refine⟨c+1,r,.visit a1 Z (by rw[List.length_append];omega) h1,by omega,h3,h4,?_⟩;rw[List.length_append] at h5;omega
def nd(l:List Nat):List D:=l.map λ(i:Nat)=>D.int (i:Int)
structure GoodD(W:D)(n:Nat):Prop where
 few:n<=60
 ex:∃Wb,W=.tup Wb/\Wb.length=n/\∀i,i<n->∃vs,o7 [Wb.getD i .non]=some (.lst vs)/\vs.length<=12/\∀v∈vs,v=.non∨(∃z,v=.int z)∨∃j:Nat,v=.tup [.str "at",.int (j:Int)]/\j<n
def tgs(vs:List D):List Nat:=vs.filterMap λv=>match v with|.tup [_,.int j]=>some j.toNat|_=>none
def J8(W:D)(i:Nat):List Nat:=match W with
 | .tup Wb=>(match o7 [Wb.getD i .non] with
  | some (.lst vs)=>tgs vs
  | _=>[])
 | _=>[]
theorem G6(a b:List Nat):nd (a++b)=nd a++nd b:=by unfold nd;rw[List.map_append]
theorem X70(a:List Nat):(nd a).reverse=nd a.reverse:=by unfold nd;rw[List.map_reverse]
theorem S7(a:List Nat):(nd a).length=a.length:=by simp[nd]
theorem Va0(o:List Nat)(x:Nat):((nd o).any λy=>eqF y (.int (x:Int)))=decide (x∈o):=by
 unfold nd;rw[List.any_map,Bool.eq_iff_iff,List.any_eq_true,decide_eq_true_eq];constructor
 ·rintro⟨y,hy,e⟩
  have e:decide ((y:Int)=(x:Int))=true:=e;have e:=d4 e;have:y=x:=by omega
  subst this;exact hy
 ·intro h
  exact⟨x,h,show decide ((x:Int)=(x:Int))=true from N3 rfl⟩
theorem l20(o:List Nat):((nd o).all λd=>flat d)=true:=by
 unfold nd;rw[List.all_map,List.all_eq_true];exact λ_ _=>rfl
theorem qn0:∀{vs:List D},(∀v∈vs,v=.non∨(∃z,v=.int z)∨∃j:Nat,v=.tup [.str "at",.int (j:Int)]/\j<n)->∀j∈tgs vs,j<n:=by
 intro vs h j hj;obtain⟨v,hv,e⟩:=S2.mp hj;rcases h v hv with rfl|⟨z,rfl⟩|⟨i,rfl,hi⟩
 ·cases e
 ·cases e
 ·simp only[Int.toNat_natCast,Option.some.injEq] at e
  omega
theorem Wy0{W:D}(hW:GoodD W n)(hi:i<n):∃vs,oA (z8 (o2 (gv 0) (gv 1) ixD) v6) o7=oA (z8 (o2 (gv 0) (gv 1) ixD) v6) o7/\(∃d,ixD W (.int (i:Int))=some d/\o7 [d]=some (.lst vs))/\J8 W i=tgs vs/\vs.length<=12/\∀v∈vs,v=.non∨(∃z,v=.int z)∨∃j:Nat,v=.tup [.str "at",.int (j:Int)]/\j<n:=by
 obtain⟨Wb,rfl,hl,h⟩:=hW.ex;obtain⟨vs,e,h1,h2⟩:=h i hi;refine⟨vs,rfl,⟨Wb.getD i .non,?_,e⟩,?_,h1,h2⟩
 ·show atI Wb (i:Int)=_
  rw[zc0 (by omega) (by omega) .non,Int.toNat_natCast]
 ·unfold J8
  simp only[];rw[e]
theorem Yt0{W:D}(hW:GoodD W n):∀i,i<n->∀j∈J8 W i,j<n:=λi hi j hj=>by
 obtain⟨vs,_,_,e,_,h⟩:=Wy0 hW hi;rw[e] at hj;exact qn0 h j hj
theorem Xx0{g1 g2:GB}{b1 b2:Bool}(h1:g1 δ=some b1)(h2:g2 δ=some b2):wb0 g1 g2 δ=some (b1&&b2):=by
 unfold wb0;rw[h1];cases b1
 ·rfl
 ·show g2 δ=_
  rw[h2];rfl
theorem yj0(p:Pt)(h:p.few):m_values [p.d]=some (.lst p.vals):=Pn.yj0 p h
theorem c90(p:Pt)(h:p.few)(vs:List D):zd0 [p.d,.lst vs]=some (Pn.put p vs).d:=Pn.ui0 p h vs
theorem yn0(p:Pt)(h:p.few):o7 [p.d]=some (.lst p.vals):=Gw.yn0 p h
def Lv(n:Nat)(v:D):Prop:=v=.non∨(∃z,v=.int z)∨∃j:Nat,v=.tup [.str "at",.int (j:Int)]/\j<n
structure Pw(n:Nat)(p:Pt):Prop where
 few:p.vals.length<=12
 lv:∀v∈p.vals,Lv n v
theorem Pw.f{p:Pt}(h:Pw n p):p.few:=by
 have z:(12:Nat)<=sizeLine:=by decide
 exact C0 h.few z
structure Web(ps:List Pt):Prop where
 len:0<ps.length/\ps.length<=60
 pw:∀p∈ps,Pw ps.length p
def wd(ps:List Pt):D:=.tup (ps.map Pt.d)
theorem Web.at(h:Web ps)(hi:i<ps.length):ixD (wd ps) (.int (i:Int))=some ps[i].d/\(ps.map Pt.d).getD i .non=ps[i].d/\Pw ps.length ps[i]:=by
 refine⟨?_,?_,h.pw _ (B7 hi)⟩
 ·show atI (ps.map Pt.d) (i:Int)=_
  rw[zc0 (by omega) (by rw[List.length_map];omega) .non,Int.toNat_natCast];simp[hi]
 ·simp[hi]
theorem Web.good(h:Web ps):GoodD (wd ps) ps.length:=⟨h.len.2,ps.map Pt.d,rfl,by rw[List.length_map],λi hi=>by
 obtain⟨_,e,q⟩:=h.at hi;exact⟨ps[i].vals,by rw[e];exact yn0 _ q.f,q.few,q.lv⟩⟩
theorem Web.adj(h:Web ps)(hi:i<ps.length):J8 (wd ps) i=tgs ps[i].vals:=by
 obtain⟨_,e,q⟩:=h.at hi;unfold J8 wd;simp only[];rw[e,yn0 _ q.f]
theorem pn0(vs:List D):(tgs vs).length<=vs.length:=Dg0 _ _
theorem tv0(j:Nat)(vs:List D):tgs (.tup [.str "at",.int (j:Int)]::vs)=j::tgs vs:=by unfold tgs;rw[List.filterMap_cons];simp only[Int.toNat_natCast]
theorem ov0:∀vs:List D,(∀v∈vs,Lv n v)->R4 (gN 0) (ob (V4 isTup (gv 0))) (o2 (gv 0) (gc (.int 1)) ixD) [.un] vs=some (nd (tgs vs))
 | [],_=>rfl
 | v::vs,h=>by
  have ih:=ov0 vs λu hu=>h u (A3 _ hu)
  unfold R4;rcases h v A5 with rfl|⟨z,rfl⟩|⟨j,rfl,hj⟩
  ·exact ih
  ·exact ih
  ·show (match o2 (gv 0) (gc (.int 1)) ixD [.sh (.tup [.str "at",.int (j:Int)])] with|none=>none|some y=>(R4 (gN 0) (ob (V4 isTup (gv 0))) (o2 (gv 0) (gc (.int 1)) ixD) [.un] vs).map λr=>y::r)=_
   rw[ih,tv0];rfl
theorem dv0{p:Pt}(h:Pw n p):yl0 [p.d]=some (.lst (nd (tgs p.vals))) :=
 O2 rfl (Q9 (zv0 (V6 (items:=p.vals) (by
  show Option.bind (oA (z8 (gv 0) v6) m_values [.sh p.d]) sl0=_;rw[o8 (ds:=[p.d]) rfl,yj0 p h.f];rfl) h.f (ov0 p.vals h.lv))))
def lkv(f:Nat->Nat):D->D
 | .tup [_,.int j]=>.tup [.str "at",.int (f j.toNat:Int)]
 | v=>v
def rel(f:Nat->Nat)(p:Pt):Pt:=Pn.put p (p.vals.map (lkv f))
theorem u60{vs:List D}(h:D.tup [.str "at",.int (j:Int)]∈vs):j∈tgs vs:=S2.mpr ⟨_,h,by simp only[Int.toNat_natCast]⟩
theorem K9{p:Pt}(h:Pw n p)(f:Nat->Nat)(D':D)(hd:∀j∈tgs p.vals,O1 D' (.int (j:Int))=some (.int (f j:Int))):W2 [p.d,D']=some (rel f p).d:=by
 refine d8 rfl (v5 (δ':=[.sh p.d,.sh D',.sh (.lst (p.vals.map (lkv f)))]) (j6 (V6 (items:=p.vals) (by
  show Option.bind (oA (z8 (gv 0) v6) m_values [.sh p.d,.sh D',.un]) sl0=_;rw[o8 (ds:=[p.d]) rfl,yj0 p h.f];rfl) h.f ?_)) (j4 (X3 (by rw[o8 (ds:=[p.d,.lst (p.vals.map (lkv f))]) rfl];exact c90 p h.f _))))
 refine R8 (lkv f) λv hv=>⟨[.sh v,.sh D'],rfl,rfl,?_⟩
 rcases h.lv v hv with rfl|⟨z,rfl⟩|⟨j,rfl,hj⟩
 ·rfl
 ·rfl
 ·unfold ifG
  rw[show ob (V4 isTup (gv 0)) [.sh (.tup [.str "at",.int (j:Int)]),.sh D']=some true from rfl];show Y4 _ _=_;exact R3 (cons_of rfl (cons_of (d:=.int (f j:Int)) (by
   rw[o4 (x:=D') (y:=.int (j:Int)) rfl rfl];exact hd j (u60 hv)) rfl)) (by show 2<=sizeLine;decide)
theorem xo0(p:Pt)(vs:List D)(h:vs.length=p.vals.length):(Pn.put p vs).vals=vs:=by
 cases p with
 | text w=>exact(List.eq_nil_of_length_eq_zero h).symm
 | row us=>rfl
 | table ps =>
  show ((ps.map (·.1)).zip vs).map (·.2)=vs;refine l6 ?_;have h':vs.length=(ps.map (·.2)).length:=h;simp only[List.length_map] at h' ⊢;omega
 | rcd c ps =>
  show ((ps.map (·.1)).zip vs).map (·.2)=vs;refine l6 ?_;have h':vs.length=(ps.map (·.2)).length:=h;simp only[List.length_map] at h' ⊢;omega
theorem p00{p:Pt}(h:Pw n p)(f:Nat->Nat)(hf:∀j∈tgs p.vals,f j<m):Pw m (rel f p):=by
 have e:(rel f p).vals=p.vals.map (lkv f):=xo0 p _ (by rw[List.length_map]);refine⟨by rw[e,List.length_map];exact h.few,λv hv=>?_⟩;rw[e] at hv;obtain⟨u,hu,rfl⟩:=A7.mp hv;rcases h.lv u hu with rfl|⟨z,rfl⟩|⟨i,rfl,hi⟩
 ·exact .inl rfl
 ·exact .inr (.inl ⟨z,rfl⟩)
 ·exact .inr (.inr ⟨f i,rfl,hf i (u60 hu)⟩)
def kd(l:List Nat):List O8:=l.map λ(i:Nat)=>Sum.inl (i:Int)
def td(l:List Nat):List D:=l.map λ_=>.bl true
theorem vw0(a b:List Nat):kd (a++b)=kd a++kd b:=by unfold kd;rw[List.map_append]
theorem wt0(o:List Nat)(x:Nat):V8 (kd o) (.inl (x:Int))=decide (x∈o):=by
 unfold V8 kd;rw[List.any_map];rw[Bool.eq_iff_iff,List.any_eq_true,decide_eq_true_eq];constructor
 ·rintro⟨y,hy,e⟩
  have e:=d4 e;injection e with e
  have:y=x:=by omega
  subst this;exact hy
 ·intro h;exact⟨x,h,N3 rfl⟩
def ded(S:List Nat):List Nat:=S.foldl (λa x=>if x∈a then a else a++[x]) []
theorem lm0:∀(S a:List Nat),(∀y,y∈S.foldl (λa x=>if x∈a then a else a++[x]) a↔y∈a∨y∈S)/\(S.foldl (λa x=>if x∈a then a else a++[x]) a).length<=a.length+S.length
 | [],a=>⟨λy=>by simp,by simp⟩
 | x::S,a=>by
  obtain⟨h1,h2⟩:=lm0 S (if x∈a then a else a++[x]);refine⟨λy=>?_,?_⟩
  ·rw[List.foldl_cons,h1]
   split
   ·rename_i hx
    constructor
    ·rintro (h|h)
     ·exact .inl h
     ·exact .inr (A3 _ h)
    ·rintro (h|h)
     ·exact .inl h
     ·rcases A4.mp h with rfl|h
      ·exact .inl hx
      ·exact .inr h
   ·rw[List.mem_append,List.mem_singleton,List.mem_cons,or_assoc]
  ·rw[List.foldl_cons]
   refine C0 h2 ?_;split
   ·simp only[List.length_cons];omega
   ·simp only[List.length_append,List.length_cons,List.length_nil];omega
theorem Zq0(S:List Nat)(y:Nat):y∈ded S↔y∈S:=by
 unfold ded;rw[(lm0 S []).1];simp
theorem aw0(S:List Nat):(ded S).length<=S.length:=by
 have:=(lm0 S []).2;rw[List.length_nil,Nat.zero_add] at this;exact this
def MT:GB:=(ob (o2 (zs0 (oA (z8 (gv 5) v6) Y0)) (gc (.int 0)) gtD))
def MBg(gw:GE):GS:=(v4 (W7 (zz0 5) (gN 6))
 (v4 (ifD (w80 (ob (o2 (gv 6) (gv 4) (y60 true))))
 (v4 (W7 (O9 (gc (.bl true))) (putAt 4 (gv 6)))
 (v4 (b8 (V5 3 (gv 6)))
 (v4 (b8 (o60 5 (oA (z8 (oA (z8 gw v6) yl0) v6) o70)))
 u9)))
 u9)
 u9))
def ms(W:D)(k l:Sl)(U o T:List Nat)(s:Sl):Ds:=[.sh W,k,l,.ow (.lst (nd o)),.ow (.dct (.inl (kd (U++o))) (nd U++td o)),.ow (.lst (nd T.reverse)),s]
section
variable{W:D}{k l:Sl}{U:List Nat}
theorem im0(s:Sl)(o T:List Nat):MT (ms W k l U o T s)=some (decide (0<T.length)):=by
 have e:zs0 (oA (z8 (gv 5) v6) Y0) (ms W k l U o T s)=some (.int (T.length:Int)):=by
  show some (D.int ((nd T.reverse).length:Int))=_;rw[S7,List.length_reverse]
 unfold MT ob;rw[o4 (x:=.int (T.length:Int)) (y:=.int 0) e rfl];show some (decide ((0:Int)<(T.length:Int)))=_;congr 1;rw[decide_eq_decide];omega
theorem Vc0(s:Sl)(o T:List Nat)(x:Nat):W7 (zz0 5) (gN 6) (ms W k l U o (x::T) s)=some (.nx (ms W k l U o T (.sh (.int (x:Int))))):=by
 have e1:owL 5 (ms W k l U o (x::T) s)=some (nd (x::T).reverse):=rfl;have e2:nd (x::T).reverse=nd T.reverse++[.int (x:Int)]:=by rw[List.reverse_cons,G6];rfl
 unfold W7 zz0;rw[e1,Option.bind_some,e2,List.getLast?_concat,List.dropLast_concat];rfl
theorem b50(o T:List Nat)(x:Nat):w80 (ob (o2 (gv 6) (gv 4) (y60 true))) (ms W k l U o T (.sh (.int (x:Int))))=some (decide (x∉U++o)):=by
 show some (xor true (V8 (kd (U++o)) (.inl (x:Int))))=_;rw[wt0,Bool.true_xor];congr 1
 by_cases h:x∈U++o
 ·rw[decide_eq_true h,decide_eq_false (λz=>z h)];rfl
 ·rw[decide_eq_false h,decide_eq_true h];rfl
theorem ef0{gw:GE}{P:Nat->Prop}{adj:Nat->List Nat}{S:List Nat}(hS:∀y,y∈U↔y∈S)(hU:U.length<=1000)(hA:∀x,P x->∃d,(∀s1 s2 s3 s4 s5:Sl,gw [.sh W,s1,s2,s3,s4,s5,.sh (.int (x:Int))]=some d)/\yl0 [d]=some (.lst (nd (adj x)))/\(adj x).length<=12/\∀j∈adj x,P j):∀{c:Nat} {o T r:List Nat},Dfs adj S c o T r->(∀x∈T,P x)->o.length+T.length<=10001->∀(m:Nat) (s:Sl),c<m->∃s',Z5 MT (MBg gw) m (ms W k l U o T s)=some (.nx (ms W k l U r [] s')):=by
 intro c o T r h
 induction h with
 | nil o =>
  intro _ _ m s hm;cases m with
  | zero=>omega
  | succ m =>
   refine⟨s,?_⟩;unfold Z5;rw[im0];rfl
 | @skip c o T r x hx hd ih =>
  intro hT hl m s hm;cases m with
  | zero=>omega
  | succ m =>
   rw[List.length_cons] at hl;obtain⟨s',e⟩:=ih (λy hy=>hT y (A3 _ hy)) (by omega) m (.sh (.int (x:Int))) (by omega);refine⟨s',?_⟩;have J:x∈U++o:=B1.mpr (hx.symm.imp (hS x).mpr id);have eb:MBg gw (ms W k l U o (x::T) s)=some (.nx (ms W k l U o T (.sh (.int (x:Int))))) :=
    v5 (Vc0 s o T x) (v5 (δ':=ms W k l U o T (.sh (.int (x:Int)))) (by rw[d7 (by rw[b50,decide_eq_false (λz=>z J)])];rfl) rfl)
   unfold Z5;rw[im0,decide_eq_true (by simp)];dsimp only;rw[eb];exact e
 | @visit c o T r x hx hxS hz hd ih =>
  intro hT hl m s hm;cases m with
  | zero=>omega
  | succ m =>
   have O:=hT x A5;obtain⟨d,M,a0,a1,Z⟩:=hA x O;have zs:(20000:Nat)<=sizeLine:=by decide
   rw[List.length_append] at hz;obtain⟨s',e⟩:=ih (λy hy=>by
    rcases B1.mp hy with q|q
    ·exact Z y q
    ·exact hT y (A3 _ q)) (by simp only[List.length_append,List.length_singleton];omega) m (.sh (.int (x:Int))) (by omega)
   refine⟨s',?_⟩;have J:x∉U++o:=λz=>(B1.mp z).elim (λq=>hxS ((hS x).mp q)) hx
   have p1:W7 (O9 (gc (.bl true))) (putAt 4 (gv 6)) (ms W k l U o T (.sh (.int (x:Int))))=some (.nx [.sh W,k,l,.ow (.lst (nd o)),.ow (.dct (.inl (kd (U++(o++[x])))) (nd U++td (o++[x]))),.ow (.lst (nd T.reverse)),.sh (.int (x:Int))]):=by
    have hk:V8 (kd (U++o)) (.inl (x:Int))=false:=by rw[wt0,decide_eq_false J]
    have e1:W8 (kd (U++o)) (.inl (x:Int))=kd (U++(o++[x])):=by
     unfold W8;rw[hk,if_neg (by simp),← List.append_assoc,vw0 (U++o)];rfl
    have e2:W9 (kd (U++o)) (nd U++td o) (.inl (x:Int)) (.bl true)=nd U++td (o++[x]):=by
     unfold W9;rw[hk,if_neg (by simp)];unfold td;rw[List.map_append,List.append_assoc];rfl
    unfold W7 O9;show ((if (kd (U++o)).length<sizeLine then some ([.sh W,k,l,.ow (.lst (nd o)),Sl.ow (.dct (.inl (W8 (kd (U++o)) (.inl (x:Int)))) (W9 (kd (U++o)) (nd U++td o) (.inl (x:Int)) (.bl true))),.ow (.lst (nd T.reverse)),.sh (.int (x:Int))]) else none).map Res.nx)=_;rw[if_pos (by unfold kd;rw[List.length_map,List.length_append];omega),e1,e2];rfl
   have p2:b8 (V5 3 (gv 6)) [.sh W,k,l,.ow (.lst (nd o)),.ow (.dct (.inl (kd (U++(o++[x])))) (nd U++td (o++[x]))),.ow (.lst (nd T.reverse)),.sh (.int (x:Int))]=some (.nx [.sh W,k,l,.ow (.lst (nd (o++[x]))),.ow (.dct (.inl (kd (U++(o++[x])))) (nd U++td (o++[x]))),.ow (.lst (nd T.reverse)),.sh (.int (x:Int))]):=by
    rw[Gw.yw0 (l:=nd o) (d:=.int (x:Int)) rfl rfl (by rw[S7];omega),G6];rfl
   have p3:b8 (o60 5 (oA (z8 (oA (z8 gw v6) yl0) v6) o70)) [.sh W,k,l,.ow (.lst (nd (o++[x]))),.ow (.dct (.inl (kd (U++(o++[x])))) (nd U++td (o++[x]))),.ow (.lst (nd T.reverse)),.sh (.int (x:Int))]=some (.nx (ms W k l U (o++[x]) (adj x++T) (.sh (.int (x:Int))))):=by
    have ev:oA (z8 (oA (z8 gw v6) yl0) v6) o70 [.sh W,k,l,.ow (.lst (nd (o++[x]))),.ow (.dct (.inl (kd (U++(o++[x])))) (nd U++td (o++[x]))),.ow (.lst (nd T.reverse)),.sh (.int (x:Int))]=some (.lst (nd (adj x).reverse)):=by
     rw[o8 (ds:=[.lst (nd (adj x))]) (cons_of (d:=.lst (nd (adj x))) (by
      rw[o8 (ds:=[d]) (cons_of (d:=d) (M _ _ _ _ _) rfl)];exact a0) rfl)]
     show some (D.lst (nd (adj x)).reverse)=_;rw[X70]
    unfold b8 o60;rw[ev];show Option.map _ (if (nd T.reverse).length+(nd (adj x).reverse).length<=sizeLine then _ else _)=_;rw[if_pos (by rw[S7,S7,List.length_reverse,List.length_reverse];omega),← G6,← List.reverse_append];rfl
   have eb:MBg gw (ms W k l U o (x::T) s)=some (.nx (ms W k l U (o++[x]) (adj x++T) (.sh (.int (x:Int))))) :=
    v5 (Vc0 s o T x) (v5 (δ':=ms W k l U (o++[x]) (adj x++T) (.sh (.int (x:Int)))) (by
     rw[Q6 (by rw[b50,decide_eq_true J])];exact v5 p1 (v5 p2 (v5 p3 rfl))) rfl)
   unfold Z5;rw[im0,decide_eq_true (by simp)];dsimp only;rw[eb];exact e
end
theorem uz0(h:Web ps)(S:List Nat)(hS:S.length<=1000){x c:Nat}(hx:x<ps.length)(hd:Dfs (J8 (wd ps)) S c [] [x] r)(hc:c<=5000):w40 [wd ps,.int (x:Int),.dct (.inl (kd (ded S))) (nd (ded S))]=some (.lst (nd r)):=by
 have hl:=aw0 S;obtain⟨s',e⟩:=ef0 (W:=wd ps) (k:=.sh (.int (x:Int))) (l:=.sh (.dct (.inl (kd (ded S))) (nd (ded S)))) (U:=ded S) (gw:=o2 (gv 0) (gv 6) ixD) (P:=λy=>y<ps.length) (Zq0 S) (by omega) (λy hy=>by
  obtain⟨e1,_,q⟩:=h.at hy;refine⟨_,λ_ _ _ _ _=>(o4 (x:=wd ps) (y:=.int (y:Int)) rfl rfl).trans e1,?_,?_,?_⟩
  ·rw[h.adj hy];exact dv0 q
  ·rw[h.adj hy];exact C0 (pn0 _) q.few
  ·exact Yt0 h.good y hy) hd (λy hy=>by rw[List.mem_singleton.mp hy];exact hx) (by simp) 100000 .un (by omega)
 refine O2 rfl (v5 (δ':=[.sh (wd ps),.sh (.int (x:Int)),.sh (.dct (.inl (kd (ded S))) (nd (ded S))),.ow (.lst []),.un,.un,.un]) rfl (v5 (δ':=[.sh (wd ps),.sh (.int (x:Int)),.sh (.dct (.inl (kd (ded S))) (nd (ded S))),.ow (.lst []),.ow (.dct (.inl (kd (ded S))) (nd (ded S))),.un,.un]) rfl (v5 (δ':=ms (wd ps) (.sh (.int (x:Int))) (.sh (.dct (.inl (kd (ded S))) (nd (ded S)))) (ded S) [] [x] .un) ?_ (v5 e (Q9 ?_)))))
 ·unfold ms
  rw[List.append_nil];show some (Res.nx [.sh (wd ps),.sh (.int (x:Int)),.sh (.dct (.inl (kd (ded S))) (nd (ded S))),.ow (.lst []),.ow (.dct (.inl (kd (ded S))) (nd (ded S))),.ow (.lst [.int (x:Int)]),.un])=_;have:nd (ded S)++td []=nd (ded S):=b5 _;rw[this];rfl
 ·rfl
theorem oo0{adj:Nat->List Nat}{S:List Nat}:∀{c:Nat} {o T r:List Nat},Dfs adj S c o T r->(∀i∈o,∀j∈adj i,j∈o∨j∈S∨j∈T)->(∃s,r=o++s)/\∀i∈r,∀j∈adj i,j∈r∨j∈S:=by
 intro c o T r h
 induction h with
 | nil o =>
  intro H;refine⟨⟨[],(b5 o).symm⟩,λi hi j hj=>?_⟩;rcases H i hi j hj with q|q|q
  ·exact .inl q
  ·exact .inr q
  ·cases q
 | @skip c o T r x hx hd ih =>
  intro H;refine ih λi hi j hj=>?_
  rcases H i hi j hj with q|q|q
  ·exact .inl q
  ·exact .inr (.inl q)
  ·rcases A4.mp q with rfl|q
   ·exact hx.imp id .inl
   ·exact .inr (.inr q)
 | @visit c o T r x hx hxS hz hd ih =>
  intro H;obtain⟨⟨s,e⟩,h2⟩:=ih λi hi j hj=>by
   rcases B1.mp hi with hi|hi
   ·rcases H i hi j hj with q|q|q
    ·exact .inl (E1 _ q)
    ·exact .inr (.inl q)
    ·rcases A4.mp q with rfl|q
     ·exact .inl (by simp)
     ·exact .inr (.inr (D2 _ q))
   ·rw[List.mem_singleton.mp hi] at hj
    exact .inr (.inr (E1 _ hj))
  exact⟨⟨x::s,by rw[e,List.append_assoc];rfl⟩,h2⟩
theorem walk(h:Web ps)(S:List Nat){x:Nat}(hx:x<ps.length):∃c r,Dfs (J8 (wd ps)) S c [] [x] r/\c<=5000/\r.Nodup/\(∀y∈r,y<ps.length/\y∉S)/\(∀i∈r,∀j∈J8 (wd ps) i,j∈r∨j∈S)/\(x∈S->r=[])/\(x∉S->∃s,r=x::s):=by
 obtain⟨c,r,h1,h2,h3,h4,_⟩:=V50 (J8 (wd ps)) S ps.length h.len.2 (λi hi=>by
  rw[h.adj hi];obtain⟨_,_,q⟩:=h.at hi;exact⟨C0 (pn0 _) q.few,qn0 q.lv⟩) 1000 [] [x] (by have:=h.len.2;simp only[List.length_cons,List.length_nil];omega) (by decide) T0 (λy hy=>by cases hy) (λy hy=>by rw[List.mem_singleton.mp hy];exact hx)
 obtain⟨_,f2⟩:=oo0 h1 λi hi=>by cases hi
 refine⟨c,r,h1,by omega,h3,h4,f2,λhS=>?_,λhS=>?_⟩
 ·cases h1 with
  | skip _ h=>cases h;rfl
  | visit _ q _ _=>exact absurd hS q
 ·cases h1 with
  | skip q _=>exact absurd (q.resolve_left (by simp)) hS
  | visit _ _ _ hd =>
   obtain⟨⟨s,e⟩,_⟩:=oo0 hd λi hi j hj=>by
    rw[show i=x from by simpa using hi] at hj;exact .inr (.inr (E1 _ hj))
   exact⟨s,e⟩
theorem jr0:∀(r:List Nat) (m j:Nat),j∈r->z60 (kd r) (nd (List.range' m r.length)) (.inl (j:Int))=some (.int ((m+r.idxOf j:Nat):Int))
 | [],_,_,h=>by cases h
 | u::r,m,j,h=>by
  rw[List.length_cons,List.range'_succ];show (if (Sum.inl (u:Int):O8)=.inl (j:Int) then some (D.int (m:Int)) else z60 (kd r) (nd (List.range' (m+1) r.length)) (.inl (j:Int)))=_
  by_cases e:u=j
  ·subst e;rw[if_pos rfl,List.idxOf_cons_self];rfl
  ·rw[if_neg (by intro q;injection q with q;omega),jr0 r (m+1) j ((A4.mp h).resolve_left (B6 e)),show (u::r).idxOf j=r.idxOf j+1 from by rw[List.idxOf_cons,beq_false_of_ne e];rfl]
   congr 2;omega
end K22
namespace K22
open Kk
open DL W
theorem Ur0{p:Pt}{nm:List Str}(h:Gw.Gd p (m:Int) nm):Pw m p:=by
 refine⟨?_,λv hv=>?_⟩
 ·have ok:=h.ok
  cases p with
  | text w=>show 0<=12;decide
  | row vs=>exact ok.1
  | table ps=>show (ps.map (·.2)).length<=12;rw[List.length_map];exact ok.len
  | rcd c ps=>show (ps.map (·.2)).length<=12;rw[List.length_map];exact ok.2.len
 ·have k:=h.vk v hv
  rcases nc0 k.ok with rfl|⟨i,rfl⟩|⟨i,rfl,hi⟩
  ·exact .inl rfl
  ·exact .inr (.inl ⟨i,rfl⟩)
  ·have:=k.lk i rfl
   exact .inr (.inr ⟨i.toNat,by rw[Int.toNat_of_nonneg hi],by omega⟩)
theorem p90{v:D}(h:Lv n v)(k:Nat):lean v (k+1)=true:=by
 rcases h with rfl|⟨z,rfl⟩|⟨j,rfl,_⟩<;>simp[lean,leans]
theorem vd0{k:Nat}(h:∀x∈l,lean x k=true):leans l k=true:=by
 induction l with
 | nil=>rfl
 | cons a l ih=>rw[leans,h a A5,ih λx hx=>h x (A3 _ hx)];rfl
theorem X60{p:Pt}(h:Pw n p)(k:Nat):lean p.d (k+4)=true:=by
 have lp:∀ps:List (Str×D),(∀v∈ps.map (·.2),Lv n v)->leans (ps.map pr) (k+2)=true:=λps hv=>vd0 λx hx=>by
  obtain⟨q,hq,rfl⟩:=A7.mp hx;have:=p90 (hv q.2 (A7.mpr ⟨q,hq,rfl⟩)) k;show leans [.str q.1,q.2] (k+1)=true;rw[leans,leans,leans,this];simp[lean]
 cases p with
 | text w=>simp[Pt.d,lean,leans]
 | row vs =>
  have e:leans vs (k+2)=true:=vd0 λx hx=>p90 (h.lv x hx) (k+1)
  simp[Pt.d,lean,leans,e]
 | table ps =>
  have e:=lp ps h.lv;simp[Pt.d,lean,leans,e]
 | rcd c ps =>
  have e:=lp ps h.lv;simp[Pt.d,lean,leans,e]
theorem a00(h:Web ps)(k:Nat):lean (wd ps) (k+5)=true:=by
 unfold wd;rw[lean];refine vd0 λx hx=>?_
 obtain⟨p,hp,rfl⟩:=A7.mp hx;exact X60 (h.pw p hp) k
end K22
namespace Bw
open DL W
theorem yh0{g:GE}{b:Bool}(h:g δ=some (.bl b)):ob g δ=some b:=by
 unfold ob;rw[h];rfl
end Bw
namespace Ta
open Kk
open DL W K22
def pN(p:Nat×Nat):D:=.tup [.int (p.1:Int),.int (p.2:Int)]
def k2(p:Nat×Nat):List O8:=[.inl (p.1:Int),.inl (p.2:Int)]
theorem v60{p q:Nat×Nat}(h:k2 p=k2 q):p=q:=by
 unfold k2 at h;injection h with h1 h2
 injection h2 with h2 _
 injection h1 with h1
 injection h2 with h2
 exact L1 (by omega) (by omega)
theorem ct0(ks:List (List O8))(k:List O8):V8 ks k=true↔k∈ks:=by
 unfold V8;rw[List.any_eq_true];constructor
 ·rintro⟨x,hx,e⟩
  rw[← of_decide_eq_true e];exact hx
 ·intro h
  exact⟨k,h,N3 rfl⟩
def Dc(L:List (Nat×Nat))(d:D):Prop:=∃ks vs,d=.dct (.inr ks) vs/\∀x,x∈ks↔∃p∈L,x=k2 p
theorem bq0{L:List (Nat×Nat)}{d:D}(h:Dc L d)(p:Nat×Nat):y60 true (pN p) d=some (.bl (decide (p∉L))):=by
 obtain⟨ks,vs,rfl,hk⟩:=h;show some (D.bl (xor true (V8 ks (k2 p))))=_
 by_cases z:p∈L
 ·rw[(ct0 ks _).mpr ((hk _).mpr ⟨p,z,rfl⟩),decide_eq_false (λq=>q z)];rfl
 ·have:V8 ks (k2 p)=false:=by
   cases e:V8 ks (k2 p) with
   | false=>rfl
   | true =>
    obtain⟨q,hq,e2⟩:=(hk _).mp ((ct0 ks _).mp e);exact absurd (v60 e2▸hq) z
  rw[this,decide_eq_true z];rfl
theorem i00{v:D}(h:Lv n v):Pn.Pl v:=by
 refine⟨p90 h 49,?_⟩;rcases h with rfl|⟨z,rfl⟩|⟨j,rfl,_⟩<;>simp[Pn.nb,Pn.nbs]
def xh0(p:Prop)(o:Option D):Prop:=(p->o=some (.bl true))/\(¬p->o=some (.bl false))
theorem Tr0{v w:D}(hv:Lv n v)(hw:Lv m w):xh0 (v≠w) (yb0 v w) :=
 ⟨λe=>Pn.Xp0 (i00 hv) (i00 hw) e,λe=>by
  have:=Classical.not_not.mp e;subst this;exact Pn.kd0 (i00 hv).le⟩
theorem je0{p:Prop}{g:GE}(h:xh0 p (g δ)):(p->ob g δ=some true)/\(¬p->ob g δ=some false) :=
 ⟨λz=>by unfold ob;rw[h.1 z];rfl,λz=>by unfold ob;rw[h.2 z];rfl⟩
def pa(ps:List Pt)(i:Nat):Pt:=ps.getD i (.row [])
theorem m9(h:Web ps)(hi:i<ps.length):ixD (wd ps) (.int (i:Int))=some (pa ps i).d/\Pw ps.length (pa ps i):=by
 obtain⟨a,_,c⟩:=h.at hi;have:pa ps i=ps[i]:=by unfold pa;simp[hi]
 rw[this];exact⟨a,c⟩
theorem v20(ps:List Pt)(δ:Ds)(h:gv i δ=some (wd ps)):oA (z8 (gv i) v6) Y0 δ=some (.int (ps.length:Int)):=by
 rw[o8 (ds:=[wd ps]) (cons_of h rfl)];show some (D.int ((ps.map Pt.d).length:Int))=_;rw[List.length_map]
end Ta
namespace Ta
open Kk
open DL W K22
theorem mx0{p:Pt}(h:Pw n p):J1 [p.d]=some (Pn.hd p):=by
 have zs:(1000:Nat)<=sizeLine:=by decide
 have hf:=h.few;have nc:∀ps:List (Str×D),R4 (vl0 0 1) noT (gv 0) [.un,.un] (ps.map pr)=some ((ps.map (·.1)).map .str):=λps=>by
  rw[R8 (λd=>match d with|.tup [a,_]=>a|_=>.non) (λd hd=>by
   obtain⟨q,_,rfl⟩:=A7.mp hd;exact⟨[.sh (.str q.1),.sh q.2],rfl,rfl,rfl⟩),List.map_map,List.map_map]
  rfl
 cases p with
 | text w=>kernel_rfl
 | row vs =>
  have hf:vs.length<=12:=hf;refine d8 rfl (j4 ?_);rw[Q6 (by kernel_rfl)];exact j4 (X3 (R3 (cons_of rfl (cons_of rfl rfl)) (by show 2<=sizeLine;omega)))
 | table ps =>
  have hf:(ps.map (·.2)).length<=12:=hf;rw[List.length_map] at hf;refine d8 rfl (v5 (δ':=[.sh (Pt.table ps).d]) (by rw[d7 (by kernel_rfl)];rfl) (v5 (δ':=[.sh (Pt.table ps).d]) (by rw[d7 (by kernel_rfl)];rfl) (j4 (X3 ?_))));rw[o4 (x:=.tup [.str "table"]) (y:=.tup [.tup ((ps.map (·.1)).map .str)]) rfl (R3 (cons_of (by
   rw[o8 (ds:=[.lst ((ps.map (·.1)).map .str)]) (cons_of (V6 (items:=ps.map pr) rfl (by rw[List.length_map];omega) (nc ps)) rfl)];rfl) rfl) (by show 1<=sizeLine;omega))]
  rfl
 | rcd c ps =>
  have hf:(ps.map (·.2)).length<=12:=hf;rw[List.length_map] at hf;refine d8 rfl (v5 (δ':=[.sh (Pt.rcd c ps).d]) (by rw[d7 (by kernel_rfl)];rfl) (v5 (δ':=[.sh (Pt.rcd c ps).d]) (by rw[d7 (by kernel_rfl)];rfl) (j4 (X3 ?_))));rw[o4 (x:=.tup [.str "record",.str c]) (y:=.tup [.tup ((ps.map (·.1)).map .str)]) rfl (R3 (cons_of (by
   rw[o8 (ds:=[.lst ((ps.map (·.1)).map .str)]) (cons_of (V6 (items:=ps.map pr) rfl (by rw[List.length_map];omega) (nc ps)) rfl)];rfl) rfl) (by show 1<=sizeLine;omega))]
  rfl
theorem rf0{p q:Pt}(h:Pn.hd p=Pn.hd q):p.vals.length=q.vals.length:=by
 have inj:∀{a b:List (Str×D)},D.tup ((a.map (·.1)).map .str)=D.tup ((b.map (·.1)).map .str)->(a.map (·.2)).length=(b.map (·.2)).length:=λ{a b} e=>by
  injection e with e
  have:=D5 List.length e
  simpa using this
 cases p with
 | text w =>
  cases q with
  | text w'=>rfl
  | row vs=>injection h with h;injection h with h _;injection h with h;exact absurd h (by decide +kernel)
  | table ps=>injection h with h;injection h with h _;injection h with h;exact absurd h (by decide +kernel)
  | rcd c ps=>injection h with h;injection h with h _;injection h with h;exact absurd h (by decide +kernel)
 | row vs =>
  cases q with
  | text w'=>injection h with h;injection h with h _;injection h with h;exact absurd h (by decide +kernel)
  | row ws =>
   injection h with h
   injection h with _ h
   injection h with h _
   injection h with h
   show vs.length=ws.length;omega
  | table ps=>injection h with h;injection h with h _;injection h with h;exact absurd h (by decide +kernel)
  | rcd c ps=>injection h with h;injection h with h _;injection h with h;exact absurd h (by decide +kernel)
 | table as =>
  cases q with
  | text w'=>injection h with h;injection h with h _;injection h with h;exact absurd h (by decide +kernel)
  | row vs=>injection h with h;injection h with h _;injection h with h;exact absurd h (by decide +kernel)
  | table ps =>
   injection h with h
   injection h with _ h
   injection h with h _
   exact inj h
  | rcd c ps=>injection h with h;injection h with h _;injection h with h;exact absurd h (by decide +kernel)
 | rcd c as =>
  cases q with
  | text w'=>injection h with h;injection h with h _;injection h with h;exact absurd h (by decide +kernel)
  | row vs=>injection h with h;injection h with h _;injection h with h;exact absurd h (by decide +kernel)
  | table ps=>injection h with h;injection h with h _;injection h with h;exact absurd h (by decide +kernel)
  | rcd c' ps =>
   injection h with h
   injection h with _ h
   injection h with _ h
   injection h with h _
   exact inj h
def gl1:D×D->Option (Nat×Nat)
 | (.tup [_,.int i],.tup [_,.int j])=>some (i.toNat,j.toNat)
 | _=>none
def gl(z:List (D×D)):List (Nat×Nat):=z.filterMap gl1
def nl(q:D×D):Prop:=(isTup q.1=true/\isTup q.2=true)∨q.1=q.2
def GB:GS:=(v4 (ifD (wb0 (ob (V4 isTup (o2 (gv 4) (gv 6) ixD))) (ob (V4 isTup (o2 (gv 5) (gv 6) ixD))))
 (v4 (b8 (V5 3 (Y4 (z8 (o2 (o2 (gv 4) (gv 6) ixD) (gc (.int 1)) ixD) (z8 (o2 (o2 (gv 5) (gv 6) ixD) (gc (.int 1)) ixD) v6)))))
 u9)
 (v4 (ifD (ob (o2 (o2 (gv 4) (gv 6) ixD) (o2 (gv 5) (gv 6) ixD) yb0))
 (v4 (j9 (gc .non))
 u9)
 u9)
 u9))
 u9)
theorem ms0(z:List (D×D)):(gl z).length<=z.length:=Dg0 _ _
theorem i20{vs ws:List D}(hv:∀v∈vs,Lv n v)(hw:∀w∈ws,Lv m w)(hl:vs.length=ws.length)(h12:vs.length<=12)(a b c:Sl)(i:Nat)(hi:i<vs.length) :
  (nl (vs[i],ws[i]'(by omega))->GB [a,b,c,.ow (.lst ((gl ((vs.zip ws).take i)).map pN)),.sh (.lst vs),.sh (.lst ws),.sh (.int (i:Int))]=some (.nx [a,b,c,.ow (.lst ((gl ((vs.zip ws).take (i+1))).map pN)),.sh (.lst vs),.sh (.lst ws),.sh (.int (i:Int))])) /\
  (¬nl (vs[i],ws[i]'(by omega))->GB [a,b,c,.ow (.lst ((gl ((vs.zip ws).take i)).map pN)),.sh (.lst vs),.sh (.lst ws),.sh (.int (i:Int))]=some (.rt .non)):=by
 have zs:(1000:Nat)<=sizeLine:=by decide
 have a0:i<ws.length:=by omega
 have g4:∀s:Sl,o2 (gv 4) (gv 6) ixD [a,b,c,s,.sh (.lst vs),.sh (.lst ws),.sh (.int (i:Int))]=some vs[i]:=λs=>by
  rw[o4 (x:=.lst vs) (y:=.int (i:Int)) rfl rfl];show atI vs (i:Int)=_;rw[zc0 (by omega) (by omega) .non,Int.toNat_natCast];simp[List.getD_eq_getElem?_getD,hi]
 have g5:∀s:Sl,o2 (gv 5) (gv 6) ixD [a,b,c,s,.sh (.lst vs),.sh (.lst ws),.sh (.int (i:Int))]=some ws[i]:=λs=>by
  rw[o4 (x:=.lst ws) (y:=.int (i:Int)) rfl rfl];show atI ws (i:Int)=_;rw[zc0 (by omega) (by omega) .non,Int.toNat_natCast];simp[List.getD_eq_getElem?_getD,a0]
 have tk:(vs.zip ws).take (i+1)=(vs.zip ws).take i++[(vs[i],ws[i])]:=by
  rw[List.take_succ,List.getElem?_eq_getElem (by rw[List.length_zip];omega),List.getElem_zip];rfl
 have J:gl ((vs.zip ws).take (i+1))=gl ((vs.zip ws).take i)++(gl1 (vs[i],ws[i])).toList:=by
  rw[tk];unfold gl;rw[List.filterMap_append];congr 1
 have O:=hv _ (B7 hi);have M:=hw _ (B7 a0);have a1:(gl ((vs.zip ws).take i)).length<=12:=C0 (ms0 _) (by rw[List.length_take,List.length_zip];omega);generalize gl ((vs.zip ws).take (i+1))=Z' at J ⊢;generalize gl ((vs.zip ws).take i)=Z at J a1 ⊢;generalize vs[i]=v at g4 J O ⊢;generalize ws[i]=w at g5 J M ⊢;have ht:wb0 (ob (V4 isTup (o2 (gv 4) (gv 6) ixD))) (ob (V4 isTup (o2 (gv 5) (gv 6) ixD))) [a,b,c,.ow (.lst (Z.map pN)),.sh (.lst vs),.sh (.lst ws),.sh (.int (i:Int))]=some (isTup v&&isTup w):=by
  refine Xx0 ?_ ?_
  ·unfold ob V4;rw[g4];rfl
  ·unfold ob V4;rw[g5];rfl
 by_cases hb:isTup v=true/\isTup w=true
 ·refine⟨λ_=>?_,λz=>absurd (.inl hb) z⟩
  rw[hb.1,hb.2] at ht;obtain⟨x,rfl,_⟩:∃j:Nat,v=.tup [.str "at",.int (j:Int)]/\j<n:=by
   rcases O with rfl|⟨z,rfl⟩|h
   ·exact absurd hb.1 (by simp)
   ·exact absurd hb.1 (by simp)
   ·exact h
  obtain⟨y,rfl,_⟩:∃j:Nat,w=.tup [.str "at",.int (j:Int)]/\j<m:=by
   rcases M with rfl|⟨z,rfl⟩|h
   ·exact absurd hb.2 (by simp)
   ·exact absurd hb.2 (by simp)
   ·exact h
  have e:gl1 (D.tup [.str "at",.int (x:Int)],D.tup [.str "at",.int (y:Int)])=some (x,y):=by
   unfold gl1;simp only[Int.toNat_natCast]
  rw[e] at J;rw[J];refine v5 (δ':=[a,b,c,.ow (.lst ((Z++[(x,y)]).map pN)),.sh (.lst vs),.sh (.lst ws),.sh (.int (i:Int))]) ?_ rfl;rw[Q6 ht];refine v5 ((Gw.yw0 (l:=Z.map pN) (d:=pN (x,y)) rfl ?_ (by rw[List.length_map];omega)).trans ?_) rfl
  ·exact R3 (cons_of (by rw[o4 (x:=.tup [.str "at",.int (x:Int)]) (y:=.int 1) (g4 _) rfl];rfl) (cons_of (by rw[o4 (x:=.tup [.str "at",.int (y:Int)]) (y:=.int 1) (g5 _) rfl];rfl) rfl)) (by show 2<=sizeLine;omega)
  ·rw[List.map_append];rfl
 ·have hl2:(isTup v&&isTup w)=false:=by
   cases e1:isTup v with
   | false=>rfl
   | true =>
    cases e2:isTup w with
    | false=>rfl
    | true=>exact absurd ⟨e1,e2⟩ hb
  rw[hl2] at ht;have en:gl1 (v,w)=none:=by
   rcases O with rfl|⟨z,rfl⟩|⟨j,rfl,_⟩<;>rcases M with rfl|⟨z',rfl⟩|⟨j',rfl,_⟩<;>first|rfl|exact absurd ⟨rfl,rfl⟩ hb
  rw[en] at J;have J:Z'=Z:=by rw[J];simp
  rw[J];have a2:nl (v,w)↔v=w:=⟨λz=>z.resolve_left hb,.inr⟩;rw[a2];obtain⟨t1,t2⟩:=je0 (g:=o2 (o2 (gv 4) (gv 6) ixD) (o2 (gv 5) (gv 6) ixD) yb0) (δ:=[a,b,c,.ow (.lst (Z.map pN)),.sh (.lst vs),.sh (.lst ws),.sh (.int (i:Int))]) (p:=v≠w) (by
   rw[o4 (x:=v) (y:=w) (g4 _) (g5 _)];exact Tr0 O M)
  refine⟨λz=>?_,λz=>?_⟩
  ·refine v5 (δ':=[a,b,c,.ow (.lst (Z.map pN)),.sh (.lst vs),.sh (.lst ws),.sh (.int (i:Int))]) ?_ rfl
   rw[d7 ht];refine v5 (δ':=[a,b,c,.ow (.lst (Z.map pN)),.sh (.lst vs),.sh (.lst ws),.sh (.int (i:Int))]) ?_ rfl;rw[d7 (t2 λq=>q z)];rfl
  ·refine j4 ?_
   rw[d7 ht];refine j4 ?_;rw[Q6 (t1 z)];rfl
theorem wr0(n:Nat):Y7 0 (n:Int)=(List.range' 0 n).map λ(k:Nat)=>D.int (k:Int):=by
 unfold Y7;rw[List.range_eq_range',show ((n:Int) - 0).toNat=n by omega];refine L5 λk _=>?_
 congr 1;omega
theorem j70{G:GS}(n:Nat)(st:Nat->Sl->Ds)(hf:∀i s d,gN j d (st i s)=some (st i (.sh d)))(ok:Nat->Prop)(r:D)(hG:∀i,i<n->(ok i->G (st i (.sh (.int (i:Int))))=some (.nx (st (i+1) (.sh (.int (i:Int))))))/\(¬ok i->G (st i (.sh (.int (i:Int))))=some (.rt r))) :
  ∀(m i:Nat) (s:Sl),i+m=n->((∀k,i<=k->k<n->ok k)->∃s',U3 (gN j) G ((List.range' i m).map λ(k:Nat)=>D.int (k:Int)) (st i s)=some (.nx (st n s')))/\(¬(∀k,i<=k->k<n->ok k)->U3 (gN j) G ((List.range' i m).map λ(k:Nat)=>D.int (k:Int)) (st i s)=some (.rt r))
 | 0,i,s,h=>by
  have:i=n:=by omega
  subst this;exact⟨λ_=>⟨s,rfl⟩,λz=>absurd (λk h1 h2=>by omega) z⟩
 | m+1,i,s,h=>by
  obtain⟨g1,g2⟩:=hG i (by omega);rw[List.range'_succ,List.map_cons];have un:U3 (gN j) G (D.int (i:Int)::(List.range' (i+1) m).map λ(k:Nat)=>D.int (k:Int)) (st i s)=(match G (st i (.sh (.int (i:Int)))) with|some (.nx δ')=>U3 (gN j) G ((List.range' (i+1) m).map λ(k:Nat)=>D.int (k:Int)) δ'|some (.ct δ')=>U3 (gN j) G ((List.range' (i+1) m).map λ(k:Nat)=>D.int (k:Int)) δ'|some (.bk δ')=>some (.nx δ')|r=>r):=by
   conv=>lhs;unfold U3
   rw[hf];rfl
  rw[un]
  by_cases hk:ok i
  ·rw[g1 hk]
   obtain⟨i1,i2⟩:=j70 n st hf ok r hG m (i+1) (.sh (.int (i:Int))) (by omega);refine⟨λz=>i1 λk h1 h2=>z k (by omega) h2,λz=>i2 λq=>z λk h1 h2=>?_⟩
   by_cases e:k=i
   ·subst e;exact hk
   ·exact q k (by omega) h2
  ·rw[g2 hk]
   exact⟨λz=>absurd (z i (A2 _) (by omega)) hk,λ_=>rfl⟩
theorem um0{p:Pt}(h:Pw n p):o7 [p.d]=some (.lst p.vals):=Gw.yn0 p h.f
theorem br0(hp:Web ps)(hq:Web qs){p:Nat×Nat}(h1:p.1<ps.length)(h2:p.2<qs.length) :
  (Pn.hd (pa ps p.1)=Pn.hd (pa qs p.2)/\(∀q∈(pa ps p.1).vals.zip (pa qs p.2).vals,nl q)->V2 [wd ps,wd qs,pN p]=some (.lst ((gl ((pa ps p.1).vals.zip (pa qs p.2).vals)).map pN))) /\
  (¬(Pn.hd (pa ps p.1)=Pn.hd (pa qs p.2)/\(∀q∈(pa ps p.1).vals.zip (pa qs p.2).vals,nl q))->V2 [wd ps,wd qs,pN p]=some .non):=by
 obtain⟨a1,a2⟩:=m9 hp h1;obtain⟨b1,b2⟩:=m9 hq h2;generalize pa ps p.1=P at a1 a2 ⊢;generalize pa qs p.2=R at b1 b2 ⊢;have g1:∀δ:Ds,o2 (gv 0) (o2 (gv 2) (gc (.int 0)) ixD) ixD (.sh (wd ps)::.sh (wd qs)::.sh (pN p)::δ)=some P.d:=fun δ=>by
  rw[o4 (x:=wd ps) (y:=.int (p.1:Int)) rfl rfl];exact a1
 have g2:∀δ:Ds,o2 (gv 1) (o2 (gv 2) (gc (.int 1)) ixD) ixD (.sh (wd ps)::.sh (wd qs)::.sh (pN p)::δ)=some R.d:=fun δ=>by
  rw[o4 (x:=wd qs) (y:=.int (p.2:Int)) rfl rfl];exact b1
 obtain⟨t1,t2⟩:=je0 (g:=o2 (oA (z8 (o2 (gv 0) (o2 (gv 2) (gc (.int 0)) ixD) ixD) v6) J1) (oA (z8 (o2 (gv 1) (o2 (gv 2) (gc (.int 1)) ixD) ixD) v6) J1) yb0) (δ:=[.sh (wd ps),.sh (wd qs),.sh (pN p),.ow (.lst []),.sh (.lst P.vals),.sh (.lst R.vals),.un]) (p:=Pn.hd P≠Pn.hd R) (by
  rw[o4 (x:=Pn.hd P) (y:=Pn.hd R) (by rw[o8 (ds:=[P.d]) (cons_of (g1 _) rfl)];exact mx0 a2) (by rw[o8 (ds:=[R.d]) (cons_of (g2 _) rfl)];exact mx0 b2)];exact⟨λe=>Pn.Xp0 (Pn.io0 P) (Pn.io0 R) e,λe=>by rw[Classical.not_not.mp e];exact Pn.kd0 (Pn.io0 R).le⟩)
 have s4:∀s:Sl,n6 (gN 4) (oA (z8 (o2 (gv 0) (o2 (gv 2) (gc (.int 0)) ixD) ixD) v6) o7) [.sh (wd ps),.sh (wd qs),.sh (pN p),.ow (.lst []),s,.un,.un]=some (.nx [.sh (wd ps),.sh (wd qs),.sh (pN p),.ow (.lst []),.sh (.lst P.vals),.un,.un]):=λs=>j6 (by
  rw[o8 (ds:=[P.d]) (cons_of (g1 _) rfl)];exact um0 a2)
 have s5:∀s:Sl,n6 (gN 5) (oA (z8 (o2 (gv 1) (o2 (gv 2) (gc (.int 1)) ixD) ixD) v6) o7) [.sh (wd ps),.sh (wd qs),.sh (pN p),.ow (.lst []),.sh (.lst P.vals),s,.un]=some (.nx [.sh (wd ps),.sh (wd qs),.sh (pN p),.ow (.lst []),.sh (.lst P.vals),.sh (.lst R.vals),.un]):=λs=>j6 (by
  rw[o8 (ds:=[R.d]) (cons_of (g2 _) rfl)];exact um0 b2)
 by_cases hh:Pn.hd P=Pn.hd R
 ·have hl:=rf0 hh
  have M:=a2.few;obtain⟨f1,f2⟩:=j70 (G:=GB) (j:=6) P.vals.length (λi s=>[.sh (wd ps),.sh (wd qs),.sh (pN p),.ow (.lst ((gl ((P.vals.zip R.vals).take i)).map pN)),.sh (.lst P.vals),.sh (.lst R.vals),s]) (λ_ _ _=>rfl)
   (λi=>∀(h:i<P.vals.length) (h':i<R.vals.length),nl (P.vals[i],R.vals[i])) .non (λi hi=>by
    obtain⟨u1,u2⟩:=i20 a2.lv b2.lv hl M (.sh (wd ps)) (.sh (wd qs)) (.sh (pN p)) i hi;exact⟨λz=>u1 (z hi (by omega)),λz=>u2 λq=>z λ_ _=>q⟩) P.vals.length 0 .un (Nat.zero_add _)
  rw[← wr0] at f1 f2;have e0:gl ((P.vals.zip R.vals).take 0)=[]:=rfl;have en:(P.vals.zip R.vals).take P.vals.length=P.vals.zip R.vals:=List.take_of_length_le (by rw[List.length_zip];omega);simp only[e0,en,List.map_nil] at f1 f2;have hr:T6 (z8 (oA (z8 (gv 4) v6) Y0) v6) [.sh (wd ps),.sh (wd qs),.sh (pN p),.ow (.lst []),.sh (.lst P.vals),.sh (.lst R.vals),.un]=some (Y7 0 (P.vals.length:Int)):=J7 (cons_of (Yr0 rfl) rfl) (by omega) (by omega);have J:(∀q∈P.vals.zip R.vals,nl q)↔∀k,0<=k->k<P.vals.length->∀(h:k<P.vals.length) (h':k<R.vals.length),nl (P.vals[k],R.vals[k]):=by
   constructor
   ·intro z k _ _ h h'
    refine z _ ?_;have:k<(P.vals.zip R.vals).length:=by rw[List.length_zip];omega
    have e:=B7 this
    rwa [List.getElem_zip] at e
   ·intro z q O
    obtain⟨k,hk,e⟩:=X2.mp O;rw[List.length_zip] at hk;rw[List.getElem_zip] at e;rw[← e];exact z k (C4 _) (by omega) (by omega) (by omega)
  refine⟨λz=>?_,λz=>?_⟩
  ·obtain⟨s',hs⟩:=f1 (J.mp z.2)
   refine d8 rfl (v5 (δ':=[.sh (wd ps),.sh (wd qs),.sh (pN p),.ow (.lst []),.un,.un,.un]) rfl (v5 (s4 _) (v5 (s5 _) (v5 (δ':=[.sh (wd ps),.sh (wd qs),.sh (pN p),.ow (.lst []),.sh (.lst P.vals),.sh (.lst R.vals),.un]) (by rw[d7 (t2 λq=>q hh)];rfl) (v5 (R0 hr hs) (j4 rfl))))))
  ·refine d8 rfl (v5 (δ':=[.sh (wd ps),.sh (wd qs),.sh (pN p),.ow (.lst []),.un,.un,.un]) rfl (v5 (s4 _) (v5 (s5 _) (v5 (δ':=[.sh (wd ps),.sh (wd qs),.sh (pN p),.ow (.lst []),.sh (.lst P.vals),.sh (.lst R.vals),.un]) (by rw[d7 (t2 λq=>q hh)];rfl) (j4 (R0 hr (f2 λq=>z ⟨hh,J.mpr q⟩)))))))
 ·refine⟨λz=>absurd z.1 hh,λ_=>?_⟩
  refine d8 rfl (v5 (δ':=[.sh (wd ps),.sh (wd qs),.sh (pN p),.ow (.lst []),.un,.un,.un]) rfl (v5 (s4 _) (v5 (s5 _) (j4 ?_))));rw[Q6 (t1 hh)];rfl
def tr(A:List (Nat×Nat)):List D:=A.map λ_=>.bl true
def dT(A:List (Nat×Nat)):D:=.dct (.inr (A.map k2)) (tr A)
theorem i30{A:List (Nat×Nat)}{p:Nat×Nat}(h:p∉A):W8 (A.map k2) (k2 p)=(A++[p]).map k2/\W9 (A.map k2) (tr A) (k2 p) (.bl true)=tr (A++[p]):=by
 have hf:V8 (A.map k2) (k2 p)=false:=by
  cases e:V8 (A.map k2) (k2 p) with
  | false=>rfl
  | true =>
   obtain⟨q,hq,e2⟩:=A7.mp ((ct0 _ _).mp e);exact absurd (v60 e2▸hq) h
 unfold W8 W9;rw[hf,if_neg (by simp),if_neg (by simp)];constructor
 ·rw[List.map_append];rfl
 ·unfold tr;rw[List.map_append];rfl
theorem j40{l:List α}{a:α}:(l++[a]).Nodup↔l.Nodup/\a∉l:=by
 rw[List.nodup_append];constructor
 ·rintro⟨h1,_,h3⟩
  exact⟨h1,λz=>h3 a z a (m3.mpr rfl) rfl⟩
 ·rintro⟨h1,h2⟩
  exact⟨h1,by simp,λx hx y hy e=>by rw[List.mem_singleton.mp hy] at e;exact h2 (e▸hx)⟩
theorem Xd0(A:List (Nat×Nat)):Dc A (dT A):=⟨_,_,rfl,λx=>by
 rw[List.mem_map];exact⟨λ⟨p,hp,e⟩=>⟨p,hp,e.symm⟩,λ⟨p,hp,e⟩=>⟨p,hp,e.symm⟩⟩⟩
end Ta
namespace Ta
open Kk
open DL W K22
theorem fg0(h:j<n):ixN n (j:Int)=some j:=by
 unfold ixN;rw[if_pos (by omega),if_pos (by omega),Int.toNat_natCast]
end Ta
namespace Ta
open Kk
open DL W K22
theorem be0(qs:List Pt)(j:Nat)(q:Pt):(qs.map Pt.d).set j q.d=(qs.set j q).map Pt.d:=by rw[List.map_set]
theorem gg0{g:GE}{gx:GE}{v:D}(h1:owL i δ=some ds)(h2:g δ=some (.int (j:Int)))(h3:j<ds.length)(h4:gx δ=some v):W7 (O9 gx) (setAt i g) δ=some (.nx (δ.set i (.ow (.lst (ds.set j v))))):=by
 unfold W7 O9;rw[h4];unfold setAt;rw[Option.map_some,Option.bind_some,h1,Option.bind_some,h2,Option.bind_some];simp only[];rw[fg0 h3];rfl
theorem c20(xs:List D)(n:Nat):cutD xs none (some (n:Int))=xs.take n:=by
 unfold cutD;show (xs.drop 0).take (sIx xs.length xs.length (some (n:Int)) - 0)=_;rw[List.drop_zero,Nat.sub_zero];unfold sIx;simp only[];rw[if_neg (by omega),Int.toNat_natCast]
 by_cases h:n<=xs.length
 ·rw[Nat.min_eq_left h]
 ·rw[Nat.min_eq_right (by omega),List.take_length,List.take_of_length_le (by omega)]
theorem d60(xs:List D)(n:Nat):cutD xs (some (n:Int)) none=xs.drop n:=by
 unfold cutD;show (xs.drop (sIx xs.length 0 (some (n:Int)))).take (xs.length - sIx xs.length 0 (some (n:Int)))=_;unfold sIx;simp only[];rw[if_neg (by omega),Int.toNat_natCast]
 by_cases h:n<=xs.length
 ·rw[Nat.min_eq_left h,List.take_of_length_le (by rw[List.length_drop];exact A2 _)]
 ·rw[Nat.min_eq_right (by omega),List.drop_length,List.take_nil,List.drop_of_length_le (by omega)]
theorem U20{g gh:GE}{xs:List D}(h1:g δ=some (.tup xs))(h2:gh δ=some (.int (n:Int))):M8 g K6 (someO gh) δ=some (.tup (xs.take n)):=by
 unfold M8 someO;rw[h1,h2,← c20];rfl
theorem af0{g gh:GE}{xs:List D}(h1:g δ=some (.tup xs))(h2:gh δ=some (.int (n:Int))):M8 g (someO gh) K6 δ=some (.tup (xs.drop n)):=by
 unfold M8 someO;rw[h1,h2,← d60];rfl
end Ta
namespace Ta
open Kk
open DL W K22
theorem f50(x m:Int)(hx:0<=x/\x<2 ^ 40)(hm:0<m):∃v,Q8 [.int x,.int m]=some v/\Gw.Vk v m:=Gw.k70 x m hx hm
theorem gy0(p:Pt)(h:p.few)(vs:List D)(hl:vs.length=p.vals.length):X4 [p.d,.lst vs]=some (Pn.put p vs).d:=Gw.ui0 p h vs (.inl hl)
theorem Uq0{v:D}(k:Gw.Vk v (m:Int)):Lv m v:=by
 rcases nc0 k.ok with rfl|⟨i,rfl⟩|⟨i,rfl,hi⟩
 ·exact .inl rfl
 ·exact .inr (.inl ⟨i,rfl⟩)
 ·have:=k.lk i rfl
  exact .inr (.inr ⟨i.toNat,by rw[Int.toNat_of_nonneg hi],by omega⟩)
theorem Xn0{p:Pt}(h:Pw n p){vs:List D}(hl:vs.length=p.vals.length)(hv:∀v∈vs,Lv n v):Pw n (Pn.put p vs):=by
 have e:=xo0 p vs hl;exact⟨by rw[e,hl];exact h.few,λv J=>by rw[e] at J;exact hv v J⟩
theorem eq_nil{vs:List D}(h:∀v∈vs,Lv n v):zy0 (.lst vs) (.lst [])=some (.bl (decide (vs=[]))):=by
 unfold zy0;have e:lean (.lst vs) 50=true:=by
  rw[lean];exact vd0 λx hx=>p90 (h x hx) 48
 rw[if_pos ⟨e,by simp[lean,leans]⟩];cases vs with
 | nil=>simp[deq,J5]
 | cons a vs=>simp[deq,J5]
theorem bb0{xs ys:List D}(h:xs.length+ys.length<=sizeLine):Z0 (.tup xs) (.tup ys)=some (.tup (xs++ys)):=by
 simp only[Z0];rw[if_pos h]
theorem i40(h:Web qs)(x:Int):∃rs,N6 [wd qs,.int x]=some (wd rs)/\Web rs/\rs.length=qs.length:=by
 have zs:(2000:Nat)<=sizeLine:=by decide
 have hq:=h.len;have b1:0<=x%(qs.length:Int):=E6 _ (by omega);have b2:x%(qs.length:Int)<qs.length:=E7 _ (by omega);obtain⟨k,hk⟩:∃k:Nat,x%(qs.length:Int)=(k:Int):=⟨(x%(qs.length:Int)).toNat,by omega⟩;have J:k<qs.length:=by omega
 obtain⟨e1,_,pw⟩:=h.at J;have gk:o2 (gv 1) (oA (z8 (gv 0) v6) Y0) d9 [.sh (wd qs),.sh (.int x),.un,.un,.un]=some (.int (k:Int)):=by
  rw[o4 (x:=.int x) (y:=.int (qs.length:Int)) rfl (v20 qs _ rfl),Gw.yt0 _ _ (by omega),hk]
 have gp:∀s2 s3:Sl,o2 (gv 0) (gv 2) ixD [.sh (wd qs),.sh (.int x),.sh (.int (k:Int)),s2,s3]=some qs[k].d:=λs2 s3=>by
  rw[o4 (x:=wd qs) (y:=.int (k:Int)) rfl rfl];exact e1
 have M:oA (z8 (o2 (gv 0) (gv 2) ixD) v6) o7 [.sh (wd qs),.sh (.int x),.sh (.int (k:Int)),.un,.un]=some (.lst qs[k].vals):=by
  rw[o8 (ds:=[qs[k].d]) (cons_of (gp _ _) rfl)];exact um0 pw
 have s1:n6 (gN 2) (o2 (gv 1) (oA (z8 (gv 0) v6) Y0) d9) [.sh (wd qs),.sh (.int x),.un,.un,.un]=some (.nx [.sh (wd qs),.sh (.int x),.sh (.int (k:Int)),.un,.un]):=j6 gk;have s2:T3 3 (oA (z8 (o2 (gv 0) (gv 2) ixD) v6) o7) [.sh (wd qs),.sh (.int x),.sh (.int (k:Int)),.un,.un]=some (.nx [.sh (wd qs),.sh (.int x),.sh (.int (k:Int)),.ow (.lst qs[k].vals),.un]):=by
  unfold T3;rw[M];rfl
 have t:w80 (ob (o2 (gv 3) (W6 v6) zy0)) [.sh (wd qs),.sh (.int x),.sh (.int (k:Int)),.ow (.lst qs[k].vals),.un]=some (decide (qs[k].vals=[])):=by
  show ob (o2 (gv 3) (W6 v6) zy0) [.sh (wd qs),.sh (.int x),.sh (.int (k:Int)),.sh (.lst qs[k].vals),.un]=_;exact Bw.yh0 (by rw[o4 (x:=.lst qs[k].vals) (y:=.lst []) rfl (tp0 rfl (by show 0<=sizeLine;omega))];exact eq_nil pw.lv)
 by_cases hn:qs[k].vals=[]
 ·refine⟨qs,d8 rfl (v5 s1 (v5 s2 (j4 ?_))),h,rfl⟩
  rw[Q6 (t.trans (by rw[decide_eq_true hn]))];exact j4 (X3 rfl)
 ·have Z:0<qs[k].vals.length:=List.length_pos_iff.mpr hn
  have c1:0<=x/60%(qs[k].vals.length:Int):=E6 _ (by omega);have c2:x/60%(qs[k].vals.length:Int)<qs[k].vals.length:=E7 _ (by omega);obtain⟨j,hj⟩:∃j:Nat,x/60%(qs[k].vals.length:Int)=(j:Int):=⟨(x/60%(qs[k].vals.length:Int)).toNat,by omega⟩;obtain⟨v,hv,vk⟩:=f50 (x/240%1000000) (qs.length:Int) (by omega) (by omega);have hl:(qs[k].vals.set j v).length=qs[k].vals.length:=List.length_set;have O:Pw qs.length (Pn.put qs[k] (qs[k].vals.set j v)):=Xn0 pw hl λu hu=>by
   rcases Di0 hu with z|rfl
   ·exact pw.lv u z
   ·exact Uq0 vk
  refine⟨qs.set k (Pn.put qs[k] (qs[k].vals.set j v)),d8 rfl (v5 s1 (v5 s2 (v5 (δ':=[.sh (wd qs),.sh (.int x),.sh (.int (k:Int)),.ow (.lst qs[k].vals),.un]) ?_ (v5 (δ':=[.sh (wd qs),.sh (.int x),.sh (.int (k:Int)),.ow (.lst qs[k].vals),.sh (.int (j:Int))]) (j6 ?_) (v5 (δ':=[.sh (wd qs),.sh (.int x),.sh (.int (k:Int)),.ow (.lst (qs[k].vals.set j v)),.sh (.int (j:Int))]) ?_ (j4 (X3 ?_))))))),⟨by rw[List.length_set];exact hq,λp hp=>?_⟩,List.length_set⟩
  ·rw[d7 (t.trans (by rw[decide_eq_false hn]))];rfl
  ·rw[o4 (x:=.int (x/60)) (y:=.int (qs[k].vals.length:Int)) (by rw[o4 (x:=.int x) (y:=.int 60) rfl rfl];rfl) rfl,Gw.yt0 _ _ (by omega),hj]
  ·rw[gg0 (ds:=qs[k].vals) (j:=j) (v:=v) rfl rfl (by omega) (by
    rw[o8 (ds:=[.int (x/240%1000000),.int (qs.length:Int)]) (cons_of (by
     rw[o4 (x:=.int (x/240)) (y:=.int 1000000) (by rw[o4 (x:=.int x) (y:=.int 240) rfl rfl];rfl) rfl];rfl) (cons_of (v20 qs _ rfl) rfl))]
    exact hv)]
   rfl
  ·show o2 _ _ _ [.sh (wd qs),.sh (.int x),.sh (.int (k:Int)),.sh (.lst (qs[k].vals.set j v)),.sh (.int (j:Int))]=_
   have g1:M8 (gv 0) K6 (someO (gv 2)) [.sh (wd qs),.sh (.int x),.sh (.int (k:Int)),.sh (.lst (qs[k].vals.set j v)),.sh (.int (j:Int))]=some (.tup ((qs.map Pt.d).take k)):=U20 rfl rfl;have g2:Y4 (z8 (oA (z8 (o2 (gv 0) (gv 2) ixD) (z8 (gv 3) v6)) X4) v6) [.sh (wd qs),.sh (.int x),.sh (.int (k:Int)),.sh (.lst (qs[k].vals.set j v)),.sh (.int (j:Int))]=some (.tup [(Pn.put qs[k] (qs[k].vals.set j v)).d]):=R3 (cons_of (by
    rw[o8 (ds:=[qs[k].d,.lst (qs[k].vals.set j v)]) (cons_of (gp _ _) rfl)];exact gy0 _ pw.f _ hl) rfl) (by show 1<=sizeLine;omega)
   have g3:M8 (gv 0) (someO (o2 (gv 2) (gc (.int 1)) Z0)) K6 [.sh (wd qs),.sh (.int x),.sh (.int (k:Int)),.sh (.lst (qs[k].vals.set j v)),.sh (.int (j:Int))]=some (.tup ((qs.map Pt.d).drop (k+1))):=af0 rfl (by rw[o4 (x:=.int (k:Int)) (y:=.int 1) rfl rfl];rfl);have l1:((qs.map Pt.d).take k).length<=60:=by rw[List.length_take,List.length_map];omega
   have l2:((qs.map Pt.d).drop (k+1)).length<=60:=by rw[List.length_drop,List.length_map];omega
   rw[o4 (o4 g1 g2 |>.trans (bb0 (by rw[List.length_singleton];omega))) g3,bb0 (by rw[List.length_append,List.length_singleton];omega)];have es:(qs.map Pt.d).take k++[(Pn.put qs[k] (qs[k].vals.set j v)).d]++(qs.map Pt.d).drop (k+1)=(qs.set k (Pn.put qs[k] (qs[k].vals.set j v))).map Pt.d:=by
    rw[← be0,List.set_eq_take_append_cons_drop (l:=qs.map Pt.d),if_pos (by rw[List.length_map];exact J),List.append_assoc];rfl
   rw[es];rfl
  ·rw[List.length_set]
   rcases Di0 hp with z|rfl
   ·exact h.pw p z
   ·exact O
def OT:DL.GB:=(ob (o2 (zs0 (oA (z8 (gv 2) v6) Y0)) (gc (.int 0)) gtD))
def OI:GS:=(v4 (ifD (ob (V4 isTup (gv 4)))
 (v4 (b8 (V5 2 (o2 (gv 4) (gc (.int 1)) ixD)))
 u9)
 u9)
 u9)
def OB:GS:=(v4 (W7 (zz0 2) (gN 3))
 (v4 (ifD (w80 (ob (o2 (gv 3) (gv 1) (ws0 true))))
 (v4 (b8 (V5 1 (gv 3)))
 (v4 (S6 (pt0 (z8 (oA (z8 (o2 (gv 0) (gv 3) ixD) v6) o7) v6)) (gN 4) OI)
 u9))
 u9)
 u9))
def os(W:D)(o T:List Nat)(s3 s4:Sl):Ds:=[.sh W,.ow (.lst (nd o)),.ow (.lst (nd T)),s3,s4]
theorem hh0(W:D)(o T:List Nat)(s3 s4:Sl):OT (os W o T s3 s4)=some (decide (0<T.length)):=by
 have e:zs0 (oA (z8 (gv 2) v6) Y0) (os W o T s3 s4)=some (.int (T.length:Int)):=by
  show some (D.int ((nd T).length:Int))=_;rw[S7]
 unfold OT ob;rw[o4 (x:=.int (T.length:Int)) (y:=.int 0) e rfl];show some (decide ((0:Int)<(T.length:Int)))=_;congr 1;rw[decide_eq_decide];omega
theorem u80{v:D}(vs:List D)(h:v=.non∨∃z,v=.int z):tgs (v::vs)=tgs vs:=by
 unfold tgs;rw[List.filterMap_cons];rcases h with rfl|⟨z,rfl⟩<;>rfl
theorem nt0(W:D)(o:List Nat)(s3:Sl):∀(us:List D) (T:List Nat) (s4:Sl),(∀v∈us,Lv n v)->T.length+us.length<=15000->∃s',U3 (gN 4) OI us (os W o T s3 s4)=some (.nx (os W o (T++tgs us) s3 s'))
 | [],T,s4,_,_=>⟨s4,by rw[show tgs []=[] from rfl,List.append_nil];rfl⟩
 | v::us,T,s4,h,hl=>by
  have zs:(20000:Nat)<=sizeLine:=by decide
  rw[List.length_cons] at hl;unfold U3;have h':∀v∈us,Lv n v:=λw hw=>h w (A3 _ hw)
  rcases h v A5 with e|⟨z,e⟩|⟨j,e,hj⟩
  ·obtain⟨s',k⟩:=nt0 W o s3 us T (.sh v) h' (by omega)
   refine⟨s',?_⟩;rw[u80 us (.inl e),← k];subst e;rfl
  ·obtain⟨s',k⟩:=nt0 W o s3 us T (.sh v) h' (by omega)
   refine⟨s',?_⟩;rw[u80 us (.inr ⟨z,e⟩),← k];subst e;rfl
  ·obtain⟨s',k⟩:=nt0 W o s3 us (T++[j]) (.sh v) h' (by rw[List.length_append,List.length_singleton];omega)
   refine⟨s',?_⟩;have eb:OI (os W o T s3 (.sh v))=some (.nx (os W o (T++[j]) s3 (.sh v))):=by
    subst e;refine v5 ?_ rfl;rw[Q6 (by rfl)];refine v5 ?_ rfl;rw[Gw.yw0 (l:=nd T) (d:=.int (j:Int)) rfl rfl (by rw[S7];omega),show nd T++[D.int (j:Int)]=nd (T++[j]) from by rw[G6];rfl];rfl
   rw[show gN 4 v (os W o T s3 s4)=some (os W o T s3 (.sh v)) from rfl,Option.bind_some,eb];dsimp only;rw[k];subst e;rw[tv0,List.append_assoc];rfl
theorem Zw0(vs:List D):tgs vs.reverse=(tgs vs).reverse:=by unfold tgs;rw[List.filterMap_reverse]
end Ta
namespace Fa
open Kk
open DL W K22 Ta
def WT:DL.GB:=(ob (o2 (zs0 (oA (z8 (gv 4) v6) Y0)) (gc (.int 0)) gtD))
def WF:GS:=(v4 (ifD (w80 (ob (o2 (gv 6) (gv 3) (y60 true))))
 (v4 (W7 (O9 (gc (.bl true))) (qo0 3 (gv 6)))
 (v4 (b8 (V5 4 (gv 6)))
 u9))
 u9)
 u9)
def WB:GS:=(v4 (W7 (rg0 0 1 (zz0 4) V2) (gN 5))
 (v4 (ifD (ob (o2 (gv 5) (gc .non) iw0))
 (v4 (j9 (gc .non))
 u9)
 u9)
 (v4 (S6 (K1 (gv 5)) (gN 6)
 WF)
 u9)))
def c2(p:Nat×Nat):Int×Int:=((p.1:Int),(p.2:Int))
theorem bf0{A:List (Nat×Nat)}(h:A.Nodup):(A.map c2).Nodup:=b4.mpr (h.imp λ{p q} J z=>J (by
 unfold c2 at z;injection z with z1 z2
 exact L1 (by omega) (by omega)))
theorem xm0(ns:List Int)(k:Int)(h0:0<=k):∃z,j8 [.lst (ns.map .int),.int k]=some (.int z):=Gw.xm0 ns k h0
theorem o80(c t:Int):∃nm,y40 [.int c,.int t]=some (.lst (nm.map .str))/\Gw.Pool nm:=Gw.o80 c t
theorem tm0(c k:Int)(hk:0<=k/\k<=1000000):∃x,0<=x/\x<2147483647/\V7 [.int c,.int k]=some (.int x):=Gw.tm0 c k hk
theorem k30(cs:List Int)(hc:0<cs.length/\cs.length<=1000)(m:Nat)(hm:0<m/\m<=1000)(nm:List Str)(hp:Gw.Pool nm) :
  ∃ps:List Pt,yp0 [.lst (cs.map .int),.int (m:Int),.lst (nm.map .str)]=some (.tup (ps.map Pt.d))/\ps.length=m/\∀p∈ps,Gw.Gd p (m:Int) nm:=Gw.k30 cs hc m hm nm hp
theorem Uf0(p:Pt)(h:p.few)(vs:List D)(hl:vs.length=p.vals.length):X4 [p.d,.lst vs]=some (Pn.put p vs).d:=Gw.ui0 p h vs (.inl hl)
theorem ep0(ns:List Int)(hl:ns.length<=63){M:Nat}(hM:0<M/\M<=12):∃ps,zo0 [.lst (ns.map .int),.int (M:Int)]=some (wd ps)/\Web ps/\ps.length<=M:=by
 have tm:∀t:Int,0<=t%(M:Int)/\t%(M:Int)<M:=λt=>⟨E6 _ (by omega),E7 _ (by omega)⟩
 have z:(1000:Nat)<=sizeLine:=by decide
 obtain⟨c0,h0⟩:=xm0 ns 0 (by decide);obtain⟨c1,h1⟩:=xm0 ns 1 (by decide);obtain⟨t,ht⟩:=xm0 ns 2 (by decide);obtain⟨c3,h3⟩:=xm0 ns 3 (by decide);obtain⟨nm,a4,O⟩:=o80 c0 c1;obtain⟨m,hm,a0⟩:∃m:Nat,(0<m/\m<=M)/\∀s4:Sl,o2 (gc (.int 1)) (o2 (gv 3) (gv 1) d9) Z0 [.sh (.lst (ns.map .int)),.sh (.int (M:Int)),.sh (.lst (nm.map .str)),.sh (.int t),s4]=some (.int (m:Int)):=by
  obtain⟨y1,y2⟩:=tm t;refine⟨(1+t%(M:Int)).toNat,by omega,λs4=>?_⟩;have e:(((1+t%(M:Int)).toNat:Nat):Int)=1+t%(M:Int):=by omega
  rw[e,o4 (x:=.int 1) (y:=.int (t%(M:Int))) rfl (by
   rw[o4 (x:=.int t) (y:=.int (M:Int)) rfl rfl];exact Gw.yt0 _ _ (by omega))]
  rfl
 obtain⟨cs,a1,a3⟩:∃cs:List Int,(0<cs.length/\cs.length<=1000)/\o2 (M8 (gv 0) (someO (gc (.int 9))) (someO (gc (.int 60)))) (W6 (z8 (oA (z8 (gv 0) (z8 (gc (.int 3)) v6)) j8) v6)) Z0 [.sh (.lst (ns.map .int)),.sh (.int (M:Int)),.sh (.lst (nm.map .str)),.sh (.int t),.sh (.int (m:Int))]=some (.lst (cs.map .int)):=by
  obtain⟨us,hu,a2⟩:∃us:List Int,us.length<=63/\cutD (ns.map D.int) (some 9) (some 60)=us.map .int:=by
   refine⟨(ns.drop (sIx (ns.map D.int).length 0 (some 9))).take (sIx (ns.map D.int).length (ns.map D.int).length (some 60) - sIx (ns.map D.int).length 0 (some 9)),?_,?_⟩
   ·rw[List.length_take,List.length_drop];omega
   ·unfold cutD
    rw[List.map_take,List.map_drop]
  refine⟨us++[c3],by simp;omega,?_⟩;rw[o4 (x:=.lst (us.map .int)) (y:=.lst [.int c3]) (by rw[← a2];rfl) (tp0 (cons_of (by rw[o8 (ds:=[.lst (ns.map .int),.int 3]) rfl];exact h3) rfl) (by show (1:Nat)<=_;omega))];simp only[Z0];rw[if_pos (by rw[List.length_map];show us.length+1<=_;omega),List.map_append];rfl
 obtain⟨ps,Z,J,hg⟩:=k30 cs a1 m ⟨hm.1,by omega⟩ nm O;refine⟨ps,d8 rfl (v5 (j6 (d:=.lst (nm.map .str)) ?_) (v5 (j6 (d:=.int t) ?_) (v5 (j6 (a0 _)) (j4 (X3 ?_))))),⟨by rw[J];omega,λp hp=>by rw[J];exact Ur0 (hg p hp)⟩,by rw[J];exact hm.2⟩
 ·rw[o8 (ds:=[.int c0,.int c1]) (cons_of (by rw[o8 (ds:=[.lst (ns.map .int),.int 0]) rfl];exact h0) (cons_of (by rw[o8 (ds:=[.lst (ns.map .int),.int 1]) rfl];exact h1) rfl))]
  exact a4
 ·rw[o8 (ds:=[.lst (ns.map .int),.int 2]) rfl]
  exact ht
 ·rw[o8 (ds:=[.lst (cs.map .int),.int (m:Int),.lst (nm.map .str)]) (cons_of (by exact a3) rfl)]
  exact Z
def UV:GS:=(v4 (n6 (gN 7) (o2 (o2 (gv 7) (gc (.int 48271)) Q7) (gc (.int 2147483647)) d9))
 (v4 (ifD (ob (V4 isTup (gv 8)))
 (v4 (n6 (gN 8) (Y4 (z8 (gc (.str "at")) (z8 (o2 (o2 (o2 (gv 8) (gc (.int 1)) ixD) (gv 1) Q7) (o2 (gv 7) (gv 1) d9) Z0) v6))))
 u9)
 u9)
 (v4 (b8 (V5 6 (gv 8)))
 u9)))
def uS(W:D)(T:Nat)(C Ps K Tn:Sl)(us:List D)(z:Int)(s8:Sl):Ds:=[.sh W,.sh (.int (T:Int)),C,Ps,K,Tn,.ow (.lst us),.sh (.int z),s8]
def Un1(T:Nat)(p0 p:Pt):Prop:=∃us:List D,p=Pn.put p0 us/\us.length=p0.vals.length/\us.map (lkv λj=>j/T)=p0.vals
theorem Vq0(W:D){T:Nat}(hT:0<T/\T<=7)(hn:n<=60)(C Ps K Tn:Sl)(us:List D)(z:Int){v:D}(hv:Lv n v)(hl:us.length<=100) :
  ∃z' v',UV (uS W T C Ps K Tn us z (.sh v))=some (.nx (uS W T C Ps K Tn (us++[v']) z' (.sh v')))/\Lv (n*T) v'/\lkv (λj=>j/T) v'=v:=by
 have zs:(1000:Nat)<=sizeLine:=by decide
 have e7:∀s8,o2 (o2 (gv 7) (gc (.int 48271)) Q7) (gc (.int 2147483647)) d9 (uS W T C Ps K Tn us z s8)=some (.int (z*48271%2147483647)):=λs8=>by
  rw[o4 (x:=.int (z*48271)) (y:=.int 2147483647) (by rw[o4 (x:=.int z) (y:=.int 48271) rfl rfl];exact Gw.mul_r _ _ (by decide)) rfl];exact Gw.yt0 _ _ (by decide)
 have app:∀(z':Int) (v':D),b8 (V5 6 (gv 8)) (uS W T C Ps K Tn us z' (.sh v'))=some (.nx (uS W T C Ps K Tn (us++[v']) z' (.sh v'))):=λz' v'=>by
  unfold b8 V5;rw[show owL 6 (uS W T C Ps K Tn us z' (.sh v'))=some us from rfl,Option.bind_some];show Option.map (λr:D×Ds=>Res.nx r.2) (if us.length<sizeLine then some (D.non,([.sh W,.sh (.int (T:Int)),C,Ps,K,Tn,.ow (.lst (us++[v'])),.sh (.int z'),.sh v']:Ds)) else none)=_;rw[if_pos (by omega)];rfl
 have plain:isTup v=false->UV (uS W T C Ps K Tn us z (.sh v))=some (.nx (uS W T C Ps K Tn (us++[v]) (z*48271%2147483647) (.sh v))):=λhi=>by
  refine v5 (δ':=uS W T C Ps K Tn us (z*48271%2147483647) (.sh v)) (j6 (e7 _)) (v5 (δ':=uS W T C Ps K Tn us (z*48271%2147483647) (.sh v)) ?_ (v5 (app _ _) rfl));rw[d7 (show ob (V4 isTup (gv 8)) (uS W T C Ps K Tn us (z*48271%2147483647) (.sh v))=some false from by
   show some (isTup v)=_;rw[hi])]
  rfl
 rcases hv with rfl|⟨i,rfl⟩|⟨j,rfl,hj⟩
 ·exact⟨_,_,plain rfl,.inl rfl,rfl⟩
 ·exact⟨_,_,plain rfl,.inr (.inl ⟨i,rfl⟩),rfl⟩
 ·obtain⟨w,hw⟩:∃w,w=z*48271%2147483647:=⟨_,rfl⟩
  have b1:0<=w%(T:Int):=E6 _ (by omega);have b2:w%(T:Int)<T:=E7 _ (by omega);obtain⟨r,hr⟩:∃r:Nat,w%(T:Int)=(r:Int):=⟨(w%(T:Int)).toNat,by omega⟩;have M:j*T+r<n*T:=by
   calc j*T+r<j*T+T:=by omega
    _=(j+1)*T:=by rw[Nat.add_mul,Nat.one_mul]
    _<=n*T:=Dj0 T (by omega)
  refine⟨w,.tup [.str "at",.int ((j*T+r:Nat):Int)],v5 (δ':=uS W T C Ps K Tn us w (.sh (.tup [.str "at",.int (j:Int)]))) (by rw[hw];exact j6 (e7 _)) (v5 (δ':=uS W T C Ps K Tn us w (.sh (.tup [.str "at",.int ((j*T+r:Nat):Int)]))) ?_ (v5 (app _ _) rfl)),.inr (.inr ⟨_,rfl,M⟩),by
   unfold lkv;simp only[Int.toNat_natCast];rw[show (j*T+r)/T=j from by rw[Nat.mul_comm,Nat.mul_add_div (by omega),Nat.div_eq_of_lt (by omega),Nat.add_zero]]⟩
  rw[Q6 (show ob (V4 isTup (gv 8)) (uS W T C Ps K Tn us w (.sh (.tup [.str "at",.int (j:Int)])))=some true from rfl)];refine v5 (δ':=uS W T C Ps K Tn us w (.sh (.tup [.str "at",.int ((j*T+r:Nat):Int)]))) (j6 ?_) rfl;have O:(n:Int)<=60:=by omega
  have J:(j:Int)<2 ^ 64:=by omega
  refine R3 (cons_of rfl (cons_of ?_ rfl)) (by show 2<=sizeLine;omega);rw[o4 (x:=.int ((j:Int)*(T:Int))) (y:=.int (r:Int)) (by
   rw[o4 (x:=.int (j:Int)) (y:=.int (T:Int)) rfl rfl];exact Gw.cy0 _ _ ⟨by omega,J⟩) (by
   rw[o4 (x:=.int w) (y:=.int (T:Int)) rfl rfl,Gw.yt0 _ _ (by omega),hr])]
  show some (D.int ((j:Int)*(T:Int)+(r:Int)))=_;rw[Int.natCast_add,Int.natCast_mul]
theorem d40(h:∀d∈l,tree d=true):trees l=true:=by
 induction l with
 | nil=>unfold trees;rfl
 | cons d l ih =>
  unfold trees;rw[h d A5,ih λe he=>h e (A3 _ he)];rfl
theorem zr0(h:∀d∈l,tree d=true):tree (.tup l)=true:=by unfold tree;exact d40 h
theorem xq0(s:Str):tree (.str s)=true:=by unfold tree;rfl
theorem ak0{v:D}(h:Lv n v):tree v=true:=by
 rcases h with rfl|⟨i,rfl⟩|⟨i,rfl,_⟩
 ·unfold tree;rfl
 ·unfold tree;rfl
 ·exact zr0 λd hd=>by
   simp only[List.mem_cons,List.not_mem_nil,or_false] at hd;rcases hd with rfl|rfl<;>(unfold tree;rfl)
theorem Zn0(p:Pt)(h:∀v∈p.vals,tree v=true):tree p.d=true:=by
 have J:∀ps:List (Str×D),(∀v∈ps.map (·.2),tree v=true)->tree (.tup (ps.map pr))=true:=λps hv=>zr0 λd hd=>by
  obtain⟨q,hq,rfl⟩:=A7.mp hd;refine zr0 λe he=>?_
  simp only[List.mem_cons,List.not_mem_nil,or_false] at he;rcases he with rfl|rfl
  ·exact xq0 _
  ·exact hv q.2 (A7.mpr ⟨q,hq,rfl⟩)
 cases p with
 | text w=>exact zr0 λd hd=>by simp only[List.mem_cons,List.not_mem_nil,or_false] at hd;rcases hd with rfl|rfl<;>exact xq0 _
 | row vs =>
   refine zr0 λd hd=>?_
   simp only[List.mem_cons,List.not_mem_nil,or_false] at hd;rcases hd with rfl|rfl
   ·exact xq0 _
   ·exact zr0 λv hv=>(h v hv)
 | table ps =>
   refine zr0 λd hd=>?_
   simp only[List.mem_cons,List.not_mem_nil,or_false] at hd;rcases hd with rfl|rfl
   ·exact xq0 _
   ·exact J ps h
 | rcd c ps =>
   refine zr0 λd hd=>?_
   simp only[List.mem_cons,List.not_mem_nil,or_false] at hd;rcases hd with rfl|rfl|rfl
   ·exact xq0 _
   ·exact xq0 _
   ·exact J ps h
theorem au0(W:D){T:Nat}(hT:0<T/\T<=7)(hn:n<=60)(C Ps K Tn:Sl)(z:Int)(s8:Sl)(vs:List D)(hv:∀v∈vs,Lv n v)(hl:vs.length<=12) :
  ∃us z' t8,U3 (gN 8) UV vs (uS W T C Ps K Tn [] z s8)=some (.nx (uS W T C Ps K Tn us z' t8))/\us.length=vs.length/\(∀u∈us,Lv (n*T) u)/\us.map (lkv λj=>j/T)=vs:=by
 obtain⟨δ',e,us,z',t8,rfl,h1,h2,h9⟩:=T9 (f:=gN 8) (G:=UV) (λi δ=>∃us z t8,δ=uS W T C Ps K Tn us z t8/\us.length=i/\(∀u∈us,Lv (n*T) u)/\us.map (lkv λj=>j/T)=vs.take i) vs 0 (uS W T C Ps K Tn [] z s8) (by
  rintro j d δ hj ⟨us,z,t8,rfl,h1,h2,h9⟩;have J:j<vs.length:=(D0.mp hj).1;obtain⟨z',v',e,h3,h8⟩:=Vq0 W hT hn C Ps K Tn us z (hv d (O0 hj)) (by omega);refine⟨_,_,rfl,e,us++[v'],z',_,rfl,by rw[List.length_append,List.length_singleton,h1],λu hu=>?_,by rw[List.map_append,h9,List.take_succ,Nat.zero_add,hj,List.map_cons,h8];rfl⟩;rcases B1.mp hu with hu|hu
  ·exact h2 u hu
  ·rw[List.mem_singleton.mp hu];exact h3) ⟨[],z,s8,rfl,rfl,(λu hu=>by cases hu),rfl⟩
 exact⟨us,z',t8,e,by omega,h2,by rw[h9,Nat.zero_add,List.take_length]⟩
def UT:GS:=(v4 (T3 6 (W6 v6))
 (v4 (n6 (gN 7) (oA (z8 (o2 (gv 2) (o2 (gv 5) (gv 5) Q7) Z0) (z8 (o2 (gv 4) (gc (.int 31)) Z0) v6)) V7))
 (v4 (S6 (K1 (oA (z8 (o2 (gv 0) (gv 4) ixD) v6) o7)) (gN 8)
 UV)
 (v4 (b8 (V5 3 (ri0 (oA (z8 (o2 (gv 0) (gv 4) ixD) (z8 (gv 6) v6)) X4))))
 u9))))
def tS(W:D)(T:Nat)(c:Int)(Ps:List Pt)(k t:Nat)(s6 s7 s8:Sl):Ds:=[.sh W,.sh (.int (T:Int)),.sh (.int c),.ow (.lst (Ps.map Pt.d)),.sh (.int (k:Int)),.sh (.int (t:Int)),s6,s7,s8]
theorem Vo0(hp:Web ps){T:Nat}(hT:0<T/\T<=7)(c:Int)(Ps:List Pt){k t:Nat}(hk:k<ps.length)(ht:t<T)(hl:Ps.length<=500)(s6 s7 s8:Sl) :
  ∃p t6 t7 t8,UT (tS (wd ps) T c Ps k t s6 s7 s8)=some (.nx (tS (wd ps) T c (Ps++[p]) k t t6 t7 t8))/\Pw (ps.length*T) p/\Un1 T ps[k] p:=by
 have zs:(1000:Nat)<=sizeLine:=by decide
 have J:=hp.len;obtain⟨hx,_,pw⟩:=hp.at hk;obtain⟨z,_,_,hz⟩:=tm0 (c+(t:Int)*(t:Int)) ((k:Int)+31) (by omega);obtain⟨us,z',t8,e,h1,h2,h9⟩:=au0 (wd ps) hT J.2 (.sh (.int c)) (.ow (.lst (Ps.map Pt.d))) (.sh (.int (k:Int))) (.sh (.int (t:Int))) z s8 ps[k].vals pw.lv pw.few;have q1:=xo0 ps[k] us h1;refine⟨Pn.put ps[k] us,.ow (.lst us),.sh (.int z'),t8,?_,⟨by rw[q1,h1];exact pw.few,by rw[q1];exact h2⟩,us,rfl,h1,h9⟩;refine v5 (δ':=tS (wd ps) T c Ps k t (.ow (.lst [])) s7 s8) rfl (v5 (δ':=uS (wd ps) T (.sh (.int c)) (.ow (.lst (Ps.map Pt.d))) (.sh (.int (k:Int))) (.sh (.int (t:Int))) [] z s8) (j6 (d:=.int z) ?_) (v5 (R0 (items:=ps[k].vals) ?_ e) (v5 (δ':=tS (wd ps) T c (Ps++[Pn.put ps[k] us]) k t (.ow (.lst us)) (.sh (.int z')) t8) ?_ rfl)))
 ·rw[o8 (ds:=[.int (c+(t:Int)*(t:Int)),.int ((k:Int)+31)]) (cons_of (by
   rw[o4 (x:=.int c) (y:=.int ((t:Int)*(t:Int))) rfl (by
    rw[o4 (x:=.int (t:Int)) (y:=.int (t:Int)) rfl rfl];exact Gw.cy0 _ _ (by omega))]
   rfl) (cons_of rfl rfl))]
  exact hz
 ·show (oA (z8 (o2 (gv 0) (gv 4) ixD) v6) o7 _).bind _=_
  rw[o8 (ds:=[ps[k].d]) (cons_of (by rw[o4 (x:=wd ps) (y:=.int (k:Int)) rfl rfl];exact hx) rfl),show o7 [ps[k].d]=some (.lst ps[k].vals) from Gw.yn0 _ pw.f];rfl
 ·have eb:ri0 (oA (z8 (o2 (gv 0) (gv 4) ixD) (z8 (gv 6) v6)) X4) (uS (wd ps) T (.sh (.int c)) (.ow (.lst (Ps.map Pt.d))) (.sh (.int (k:Int))) (.sh (.int (t:Int))) us z' t8)=some (Pn.put ps[k] us).d:=by
   refine ai0 ?_ (Zn0 _ (by rw[q1];exact λv hv=>ak0 (h2 v hv)));rw[o8 (ds:=[ps[k].d,.lst us]) (cons_of (by rw[o4 (x:=wd ps) (y:=.int (k:Int)) rfl rfl];exact hx) rfl)];exact Uf0 _ pw.f us h1
  unfold b8 V5;rw[show owL 3 (uS (wd ps) T (.sh (.int c)) (.ow (.lst (Ps.map Pt.d))) (.sh (.int (k:Int))) (.sh (.int (t:Int))) us z' t8)=some (Ps.map Pt.d) from rfl,Option.bind_some,eb];show Option.map (λr:D×Ds=>Res.nx r.2) (if (Ps.map Pt.d).length<sizeLine then some (D.non,([.sh (wd ps),.sh (.int (T:Int)),.sh (.int c),.ow (.lst (Ps.map Pt.d++[(Pn.put ps[k] us).d])),.sh (.int (k:Int)),.sh (.int (t:Int)),.ow (.lst us),.sh (.int z'),t8]:Ds)) else none)=_;rw[if_pos (by rw[List.length_map];omega)];show some (Res.nx [.sh (wd ps),.sh (.int (T:Int)),.sh (.int c),.ow (.lst (Ps.map Pt.d++[(Pn.put ps[k] us).d])),.sh (.int (k:Int)),.sh (.int (t:Int)),.ow (.lst us),.sh (.int z'),t8])=_;unfold tS;rw[List.map_append];rfl
def tR(W:D)(T:Nat)(c:Int)(Ps:List Pt)(s4 s5 s6 s7 s8:Sl):Ds:=[.sh W,.sh (.int (T:Int)),.sh (.int c),.ow (.lst (Ps.map Pt.d)),s4,s5,s6,s7,s8]
theorem Vy0(hp:Web ps){T:Nat}(hT:0<T/\T<=7)(c:Int)(Ps:List Pt){k:Nat}(hk:k<ps.length)(hl:Ps.length<=400)(hw:∀p∈Ps,Pw (ps.length*T) p)(s5 s6 s7 s8:Sl) :
  ∃Ps' t5 t6 t7 t8,U3 (gN 5) UT (Y7 0 (T:Int)) (tR (wd ps) T c Ps (.sh (.int (k:Int))) s5 s6 s7 s8)=some (.nx (tR (wd ps) T c Ps' (.sh (.int (k:Int))) t5 t6 t7 t8))/\Ps'.length=Ps.length+T/\(∀p∈Ps',Pw (ps.length*T) p)/\∃Q,Ps'=Ps++Q/\∀p∈Q,Un1 T (pa ps k) p:=by
 have M:(Y7 0 (T:Int)).length=T:=by rw[wr0,List.length_map,List.length_range']
 obtain⟨δ',e,Ps',t5,t6,t7,t8,rfl,h1,h2,h9⟩:=T9 (f:=gN 5) (G:=UT) (λi δ=>∃Ps' t5 t6 t7 t8,δ=tR (wd ps) T c Ps' (.sh (.int (k:Int))) t5 t6 t7 t8/\Ps'.length=Ps.length+i/\(∀p∈Ps',Pw (ps.length*T) p)/\∃Q,Ps'=Ps++Q/\∀p∈Q,Un1 T (pa ps k) p) (Y7 0 (T:Int)) 0 (tR (wd ps) T c Ps (.sh (.int (k:Int))) s5 s6 s7 s8) (by
  rintro j d δ hj ⟨Ps',t5,t6,t7,t8,rfl,h1,h2,Q,eQ,hQ⟩;obtain⟨O,rfl⟩:=wl0 hj;obtain⟨p,u6,u7,u8,e,h3,h8⟩:=Vo0 hp hT c Ps' hk (t:=j) (by omega) (by omega) t6 t7 t8;refine⟨_,_,rfl,e,Ps'++[p],_,u6,u7,u8,rfl,by rw[List.length_append,List.length_singleton];omega,λx hx=>?_,Q++[p],by rw[eQ,List.append_assoc],λx hx=>?_⟩
  ·rcases B1.mp hx with hx|hx
   ·exact h2 x hx
   ·rw[List.mem_singleton.mp hx];exact h3
  ·rcases B1.mp hx with hx|hx
   ·exact hQ x hx
   ·rw[List.mem_singleton.mp hx,show pa ps k=ps[k] from by unfold pa;simp[hk]];exact h8) ⟨Ps,s5,s6,s7,s8,rfl,rfl,hw,[],(b5 Ps).symm,λp J=>by cases J⟩
 exact⟨Ps',t5,t6,t7,t8,e,by rw[M] at h1;omega,h2,h9⟩
def UK:GS:=(v4 (S6 (T6 (z8 (gv 1) v6)) (gN 5)
 UT)
 u9)
theorem in0(hp:Web ps){T:Nat}(h32:ps.length*T<=60)(hT:0<T/\T<=7)(c:Int):∃qs,zb0 [wd ps,.int (T:Int),.int c]=some (wd qs)/\Web qs/\qs.length=ps.length*T/\∀j (h:j<qs.length),Un1 T (pa ps (j/T)) qs[j]:=by
 have zs:(1000:Nat)<=sizeLine:=by decide
 have O:=hp.len;have a0:(Y7 0 (ps.length:Int)).length=ps.length:=by rw[wr0,List.length_map,List.length_range']
 have a1:0<ps.length*T:=Nat.mul_pos O.1 hT.1;obtain⟨δ',e,J,t4,t5,t6,t7,t8,rfl,h1,h2,h9⟩:=T9 (f:=gN 4) (G:=UK) (λi δ=>∃J t4 t5 t6 t7 t8,δ=tR (wd ps) T c J t4 t5 t6 t7 t8/\J.length=i*T/\(∀p∈J,Pw (ps.length*T) p)/\∀j (h:j<J.length),Un1 T (pa ps (j/T)) J[j]) (Y7 0 (ps.length:Int)) 0 (tR (wd ps) T c [] .un .un .un .un .un) (by
  rintro j d δ hj ⟨J,t4,t5,t6,t7,t8,rfl,h1,h2,h9⟩;obtain⟨a2,rfl⟩:=wl0 hj;have M:j<ps.length:=by omega
  have a3:j*T<=60:=C0 (Dj0 T (K0 M)) h32;rw[Nat.zero_add] at h1;obtain⟨Q,u5,u6,u7,u8,e,h3,h4,Q',eQ,hQ⟩:=Vy0 hp hT c J M (by omega) h2 t5 t6 t7 t8;refine⟨_,_,rfl,v5 (R0 (items:=Y7 0 (T:Int)) (J7 (n:=(T:Int)) rfl (by omega) (by omega)) e) rfl,Q,_,u5,u6,u7,u8,rfl,?_,h4,λi hi=>?_⟩
  ·rw[h3,h1,Nat.zero_add,Nat.add_mul,Nat.one_mul]
  ·subst eQ
   by_cases hc:i<J.length
   ·rw[List.getElem_append_left hc];exact h9 i hc
   ·rw[List.getElem_append_right (by omega)]
    have:i/T=j:=by
     rw[List.length_append] at h3 hi;have h5:(j+1)*T=j*T+T:=by rw[Nat.add_mul,Nat.one_mul]
     have h6:i<(j+1)*T:=by omega
     have h7:i/T<j+1:=(Nat.div_lt_iff_lt_mul hT.1).mpr h6;have h8:j<=i/T:=(Nat.le_div_iff_mul_le hT.1).mpr (by omega);omega
    rw[this];exact hQ _ (B7 _)) ⟨[],.un,.un,.un,.un,.un,rfl,(by simp),(λp Z=>by cases Z),λj h=>by cases h⟩
 rw[Nat.zero_add,a0] at h1;refine⟨J,d8 rfl (v5 (δ':=tR (wd ps) T c [] .un .un .un .un .un) rfl (v5 (R0 (items:=Y7 0 (ps.length:Int)) (J7 (n:=(ps.length:Int)) (cons_of (v20 ps _ rfl) rfl) (by omega) (by omega)) e) (j4 (X3 ?_)))),⟨by omega,by rw[h1];exact h2⟩,h1,h9⟩;rfl
end Fa
namespace La
open DL W K22 Ta
def zp(ps qs:List Pt)(q:Nat×Nat):List (D×D):=(pa ps q.1).vals.zip (pa qs q.2).vals
theorem l40{v w:D}(hv:Lv n v)(hw:Lv m w):(∃i j:Nat,i<n/\j<m/\v=.tup [.str "at",.int (i:Int)]/\w=.tup [.str "at",.int (j:Int)]/\gl1 (v,w)=some (i,j))∨(gl1 (v,w)=none/\(isTup v&&isTup w)=false):=by
 rcases hv with rfl|⟨z,rfl⟩|⟨i,rfl,hi⟩
 ·exact .inr ⟨rfl,rfl⟩
 ·exact .inr ⟨rfl,rfl⟩
 ·rcases hw with rfl|⟨z,rfl⟩|⟨j,rfl,hj⟩
  ·exact .inr ⟨rfl,rfl⟩
  ·exact .inr ⟨rfl,rfl⟩
  ·exact .inl ⟨i,j,hi,hj,rfl,rfl,rfl⟩
inductive Rch (ps qs:List Pt) (p0:Nat×Nat):Nat×Nat->Prop
 | top:Rch ps qs p0 p0
 | go {q x:Nat×Nat}:Rch ps qs p0 q->x∈gl (zp ps qs q)->Rch ps qs p0 x
end La
namespace La
open DL W K22 Ta Fa
def okp(ps qs:List Pt)(q:Nat×Nat):Prop:=Pn.hd (pa ps q.1)=Pn.hd (pa qs q.2)/\∀v∈zp ps qs q,nl v
end La
namespace Ua
open Kk
open DL W K22
open Ta (pa m9)
def dr(ps:List Pt)(r:List Nat):List Pt:=r.map λk=>rel (λj=>r.idxOf j) (pa ps k)
structure Met(ps:List Pt)(r:List Nat):Prop where
 ex:∃c,Dfs (J8 (wd ps)) [] c [] [0] r/\c<=5000
 nd:r.Nodup
 lt:∀y∈r,y<ps.length
 cl:∀i∈r,∀j∈J8 (wd ps) i,j∈r
 hd:∃s,r=0::s
theorem qv0(h:Web ps):∃r,Met ps r:=by
 obtain⟨c,r,h1,h2,h3,h4,h5,_,h7⟩:=walk h [] h.len.1;exact⟨r,⟨c,h1,h2⟩,h3,λy hy=>(h4 y hy).1,λi hi j hj=>(h5 i hi j hj).resolve_right (by simp),h7 (by simp)⟩
theorem Met.zero(m:Met ps r):0∈r:=by obtain⟨s,rfl⟩:=m.hd;exact A5
theorem y00(h:Web ps)(hi:i<ps.length):J8 (wd ps) i=tgs (pa ps i).vals:=by
 rw[h.adj hi];unfold pa;simp[hi]
theorem jf0{adj:Nat->List Nat}{S:List Nat}{c:Nat}{o T:List Nat}(h:Dfs adj S c o T r):∃s,r=o++s:=by
 induction h with
 | nil o=>exact⟨[],(b5 o).symm⟩
 | skip _ _ ih=>exact ih
 | @visit c o T r x _ _ _ _ ih =>
  obtain⟨s,e⟩:=ih;exact⟨x::s,by rw[e,List.append_assoc];rfl⟩
theorem Yf0{adj adj':Nat->List Nat}(f:Nat->Nat){c:Nat}{o T:List Nat}(h:Dfs adj [] c o T r):(∀a∈r,∀b∈r,f a=f b->a=b)->(∀i∈r,adj' (f i)=(adj i).map f)->Dfs adj' [] c (o.map f) (T.map f) (r.map f):=by
 induction h with
 | nil o=>intro _ _;exact .nil _
 | @skip c o T r x hx hd ih =>
  intro hi ha;exact .skip (.inl (L6 (hx.resolve_right (by simp)))) (ih hi ha)
 | @visit c o T r x hx hS hz hd ih =>
  intro hi ha;obtain⟨s,e⟩:=jf0 hd;have J:x∈r:=by rw[e];simp
  have M:∀y∈o,y∈r:=λy hy=>by rw[e];simp[hy]
  have k:=ih hi ha;refine .visit (λz=>?_) (by simp) ?_ ?_
  ·obtain⟨y,hy,e2⟩:=A7.mp z
   exact hx (hi y (M y hy) x J e2▸hy)
  ·rw[ha x J]
   simp only[List.length_append,List.length_map] at hz ⊢;exact hz
  ·rw[ha x J]
   rw[List.map_append,List.map_append] at k;exact k
theorem po0(f:Nat->Nat):∀{vs:List D},(∀v∈vs,Lv n v)->tgs (vs.map (lkv f))=(tgs vs).map f
 | [],_=>rfl
 | v::vs,h=>by
  have ih:=po0 f (vs:=vs) λu hu=>h u (A3 _ hu)
  rw[List.map_cons];rcases h v A5 with rfl|⟨z,rfl⟩|⟨j,rfl,hj⟩
  ·rw[Ta.u80 _ (.inl rfl),show lkv f D.non=.non from rfl,Ta.u80 _ (.inl rfl),ih]
  ·rw[Ta.u80 _ (.inr ⟨z,rfl⟩),show lkv f (D.int z)=.int z from rfl,Ta.u80 _ (.inr ⟨z,rfl⟩),ih]
  ·rw[show lkv f (.tup [.str "at",.int (j:Int)])=.tup [.str "at",.int (f j:Int)] from by unfold lkv;simp only[Int.toNat_natCast],tv0,tv0,ih]
   rfl
theorem v70(f:Nat->Nat)(p:Pt):(rel f p).vals=p.vals.map (lkv f):=xo0 p _ (by rw[List.length_map])
theorem vb0:∀(a:List Str) (b:List D),a.length=b.length->(a.zip b).map (·.1)=a
 | [],_,_=>by simp
 | _::_,[],h=>by simp at h
 | a::as,b::bs,h=>by simp at h;simp[vb0 as bs h]
theorem Yc0(p:Pt)(vs us:List D)(h:vs.length=p.vals.length):Pn.put (Pn.put p vs) us=Pn.put p us:=by
 cases p with
 | text w=>rfl
 | row us=>rfl
 | table ps =>
  show Pt.table _=Pt.table _;rw[vb0 _ _ (by rw[List.length_map];have:vs.length=(ps.map (·.2)).length:=h;rw[this,List.length_map])]
 | rcd c ps =>
  show Pt.rcd _ _=Pt.rcd _ _;rw[vb0 _ _ (by rw[List.length_map];have:vs.length=(ps.map (·.2)).length:=h;rw[this,List.length_map])]
theorem l80(p:Pt)(vs:List D)(h:vs.length=p.vals.length):Pn.hd (Pn.put p vs)=Pn.hd p:=by
 cases p with
 | text w=>rfl
 | row us=>show D.tup [_,.int (vs.length:Int)]=_;rw[h];rfl
 | table ps =>
  show D.tup [_,.tup ((((ps.map (·.1)).zip vs).map (·.1)).map .str)]=_;rw[vb0 _ _ (by rw[List.length_map];have:vs.length=(ps.map (·.2)).length:=h;rw[this,List.length_map])];rfl
 | rcd c ps =>
  show D.tup [_,_,.tup ((((ps.map (·.1)).zip vs).map (·.1)).map .str)]=_;rw[vb0 _ _ (by rw[List.length_map];have:vs.length=(ps.map (·.2)).length:=h;rw[this,List.length_map])];rfl
theorem qs0(f:Nat->Nat)(p:Pt):Pn.hd (rel f p)=Pn.hd p:=l80 p _ (by rw[List.length_map])
theorem J6(f:Nat->Nat)(j:Nat):lkv f (.tup [.str "at",.int (j:Int)])=.tup [.str "at",.int (f j:Int)]:=by unfold lkv;simp only[Int.toNat_natCast]
theorem pp0{p:Pt}(h:Pw n p)(f g:Nat->Nat):rel g (rel f p)=rel (λj=>g (f j)) p:=by
 unfold rel;rw[xo0 p _ (by rw[List.length_map]),Yc0 _ _ _ (by rw[List.length_map]),List.map_map];congr 1;refine L5 λv hv=>?_
 rcases h.lv v hv with rfl|⟨z,rfl⟩|⟨j,rfl,hj⟩
 ·rfl
 ·rfl
 ·show lkv g (lkv f _)=_
  rw[J6,J6,J6]
theorem tt0{p:Pt}(h:Pw n p){f g:Nat->Nat}(e:∀j∈tgs p.vals,f j=g j):rel f p=rel g p:=by
 unfold rel;congr 1;refine L5 λv hv=>?_
 rcases h.lv v hv with rfl|⟨z,rfl⟩|⟨j,rfl,hj⟩
 ·rfl
 ·rfl
 ·rw[J6,J6,e j (u60 hv)]
theorem cu0{f:Nat->Nat}:∀{r:List Nat},(∀a∈r,∀b∈r,f a=f b->a=b)->r.Nodup->(r.map f).Nodup
 | [],_,_=>T0
 | a::r,hi,h=>by
  rw[List.nodup_cons] at h;rw[List.map_cons,List.nodup_cons];refine⟨λz=>?_,cu0 (λx hx y hy=>hi x (A3 _ hx) y (A3 _ hy)) h.2⟩;obtain⟨b,hb,e⟩:=A7.mp z;exact h.1 (hi b (A3 _ hb) a A5 e▸hb)
structure Iso(ps qs:List Pt)(r:List Nat)(f:Nat->Nat):Prop where
 img:∀i∈r,f i<qs.length/\pa qs (f i)=rel f (pa ps i)
 inj:∀a∈r,∀b∈r,f a=f b->a=b
 zero:f 0=0
theorem idx_map(f:Nat->Nat):∀(r:List Nat) (j:Nat),j∈r->(∀a∈r,f a=f j->a=j)->(r.map f).idxOf (f j)=r.idxOf j
 | [],_,h,_=>by cases h
 | a::r,j,h,hi=>by
  rw[List.map_cons,List.idxOf_cons,List.idxOf_cons]
  by_cases e:a=j
  ·subst e;simp
  ·have ne:f a≠f j:=λz=>e (hi a A5 z)
   rw[beq_false_of_ne e,beq_false_of_ne ne];show _+1=_+1;rw[idx_map f r j ((A4.mp h).resolve_left (B6 e)) λb hb=>hi b (A3 _ hb)]
theorem u50{f:Nat->Nat}(hp:Web ps)(hq:Web qs)(m:Met ps r)(I:Iso ps qs r f):Met qs (r.map f)/\dr qs (r.map f)=dr ps r:=by
 have adj:∀i∈r,J8 (wd qs) (f i)=(J8 (wd ps) i).map f:=λi hi=>by
  rw[y00 hq (I.img i hi).1,y00 hp (m.lt i hi),(I.img i hi).2,v70];exact po0 f (m9 hp (m.lt i hi)).2.lv
 refine⟨⟨?_,cu0 I.inj m.nd,λy hy=>?_,λy hy j hj=>?_,?_⟩,?_⟩
 ·obtain⟨c,h1,h2⟩:=m.ex
  refine⟨c,?_,h2⟩;have:=Yf0 (adj':=J8 (wd qs)) f h1 I.inj adj;rw[List.map_nil,List.map_cons,List.map_nil,I.zero] at this;exact this
 ·obtain⟨i,hi,rfl⟩:=A7.mp hy
  exact(I.img i hi).1
 ·obtain⟨i,hi,rfl⟩:=A7.mp hy
  rw[adj i hi] at hj;obtain⟨k,hk,rfl⟩:=A7.mp hj;exact L6 (m.cl i hi k hk)
 ·obtain⟨s,rfl⟩:=m.hd
  exact⟨s.map f,by rw[List.map_cons,I.zero]⟩
 ·unfold dr
  rw[List.map_map];refine L5 λi hi=>?_
  show rel _ (pa qs (f i))=_;rw[(I.img i hi).2,pp0 (m9 hp (m.lt i hi)).2];refine tt0 (m9 hp (m.lt i hi)).2 λj hj=>?_
  have J:j∈r:=m.cl i hi j (by rw[y00 hp (m.lt i hi)];exact hj);exact idx_map f r j J λa ha e=>I.inj a ha j J e
theorem yy0(hp:Web ps)(m:Met ps r):Web (dr ps r)/\(dr ps r).length=r.length:=by
 have hl:r.length<=ps.length:=by
  have:=sub_len m.nd (m:=List.range ps.length) λy hy=>C3.mpr (m.lt y hy)
  rwa [Ao0] at this
 have e:(dr ps r).length=r.length:=by unfold dr;rw[List.length_map]
 refine⟨⟨?_,λp J=>?_⟩,e⟩
 ·rw[e]
  have:=hp.len.2;exact⟨Ap0 m.zero,by omega⟩
 ·rw[e]
  obtain⟨i,hi,rfl⟩:=A7.mp J;refine p00 (m9 hp (m.lt i hi)).2 _ λj hj=>?_
  exact b6 (m.cl i hi j (by rw[y00 hp (m.lt i hi)];exact hj))
theorem vv0(hp:Web ps)(m:Met ps r):Iso ps (dr ps r) r λj=>r.idxOf j:=by
 refine⟨λi hi=>?_,λa ha b hb e=>?_,?_⟩
 ·have h1:r.idxOf i<r.length:=b6 hi
  refine⟨by rw[(yy0 hp m).2];exact h1,?_⟩;have:pa (dr ps r) (r.idxOf i)=(dr ps r)[r.idxOf i]'(by rw[(yy0 hp m).2];exact h1):=by unfold pa;simp[(yy0 hp m).2,h1]
  rw[this];unfold dr;rw[List.getElem_map,List.getElem_idxOf h1]
 ·have h1:r.idxOf a<r.length:=b6 ha
  have h2:r.idxOf b<r.length:=b6 hb;rw[← List.getElem_idxOf h1,← List.getElem_idxOf h2];congr 1
 ·obtain⟨s,rfl⟩:=m.hd
  exact List.idxOf_cons_self
theorem f80(v:D)(h:Lv n v):lkv (λj=>j) v=v:=by
 rcases h with rfl|⟨z,rfl⟩|⟨j,rfl,hj⟩
 ·rfl
 ·rfl
 ·rw[J6]
end Ua
namespace Ua
open Kk
open DL W K22
open Ta (pa m9 xh0)
theorem K9{p:Pt}(h:Pw n p)(f:Nat->Nat)(D':D)(hd:∀j∈tgs p.vals,O1 D' (.int (j:Int))=some (.int (f j:Int))):W2 [p.d,D']=some (rel f p).d:=K22.K9 h f D' hd
theorem uz0(h:Web ps)(m:Met ps r):w40 [wd ps,.int 0,.dct (.inl []) []]=some (.lst (nd r)):=by
 obtain⟨c,h1,h2⟩:=m.ex;exact K22.uz0 h [] (by decide) h.len.1 h1 h2
theorem q20(h:Web ps)(m:Met ps r):xt0 [wd ps,.int 0]=some (.lst (nd r)) :=
 O2 rfl (Q9 (zv0 (by rw[o8 (ds:=[wd ps,.int 0,.dct (.inl []) []]) rfl];exact uz0 h m)))
theorem bn0(W:D)(o T':List Nat)(x:Nat)(s3 s4:Sl):W7 (zz0 2) (gN 3) (Ta.os W o (T'++[x]) s3 s4)=some (.nx (Ta.os W o T' (.sh (.int (x:Int))) s4)):=by
 unfold W7 zz0;rw[show owL 2 (Ta.os W o (T'++[x]) s3 s4)=some (nd (T'++[x])) from rfl,Option.bind_some,G6,show nd [x]=[D.int (x:Int)] from rfl,List.getLast?_concat,List.dropLast_concat];rfl
theorem bg0(W:D)(o T':List Nat)(x:Nat)(s4:Sl):w80 (ob (o2 (gv 3) (gv 1) (ws0 true))) (Ta.os W o T' (.sh (.int (x:Int))) s4)=some (decide (x∉o)):=by
 show ob (o2 (gv 3) (gv 1) (ws0 true)) [.sh W,.sh (.lst (nd o)),.sh (.lst (nd T')),.sh (.int (x:Int)),G5 s4]=_;refine Bw.yh0 ?_;rw[o4 (x:=.int (x:Int)) (y:=.lst (nd o)) rfl rfl];simp only[ws0];rw[if_pos ⟨rfl,l20 o⟩,Va0,Bool.true_xor];congr 2
 by_cases q:x∈o
 ·rw[decide_eq_true q,decide_eq_false (λz=>z q)];rfl
 ·rw[decide_eq_false q,decide_eq_true q];rfl
theorem Uz0(W:D)(o T':List Nat)(x:Nat)(s4:Sl)(h:o.length<=15000):b8 (V5 1 (gv 3)) (Ta.os W o T' (.sh (.int (x:Int))) s4)=some (.nx (Ta.os W (o++[x]) T' (.sh (.int (x:Int))) s4)):=by
 have zs:(20000:Nat)<=sizeLine:=by decide
 rw[Gw.yw0 (l:=nd o) (d:=.int (x:Int)) rfl rfl (by rw[S7];omega),show nd o++[D.int (x:Int)]=nd (o++[x]) from by rw[G6];rfl];rfl
theorem T00(h:Web ps){c:Nat}{o T:List Nat}(d:Dfs (J8 (wd ps)) [] c o T r):(∀x∈T,x<ps.length)->o.length+T.length<=10001->∀(f:Nat) (s3 s4:Sl),c<f->∃s3' s4',Z5 Ta.OT Ta.OB f (Ta.os (wd ps) o T.reverse s3 s4)=some (.nx (Ta.os (wd ps) r [] s3' s4')):=by
 have zs:(20000:Nat)<=sizeLine:=by decide
 induction d with
 | nil o =>
  intro _ _ f s3 s4 hf;obtain⟨g,rfl⟩:∃g,f=g+1:=⟨f - 1,by omega⟩;refine⟨s3,s4,?_⟩;unfold Z5;rw[Ta.hh0];rfl
 | @skip c o T r x hx hd ih =>
  intro hT hl f s3 s4 hf;obtain⟨g,rfl⟩:∃g,f=g+1:=⟨f - 1,by omega⟩;rw[List.length_cons] at hl;obtain⟨s3',s4',e⟩:=ih (λy hy=>hT y (A3 _ hy)) (by omega) g (.sh (.int (x:Int))) s4 (by omega);refine⟨s3',s4',?_⟩;have q:x∈o:=hx.resolve_right (by simp);have eb:Ta.OB (Ta.os (wd ps) o (x::T).reverse s3 s4)=some (.nx (Ta.os (wd ps) o T.reverse (.sh (.int (x:Int))) s4)):=by
   rw[List.reverse_cons];exact v5 (bn0 _ o T.reverse x s3 s4) (v5 (δ':=Ta.os (wd ps) o T.reverse (.sh (.int (x:Int))) s4) (by rw[d7 ((bg0 _ o T.reverse x s4).trans (by rw[decide_eq_false (λz=>z q)]))];rfl) rfl)
  unfold Z5;rw[Ta.hh0,decide_eq_true (by simp)];dsimp only;rw[eb];exact e
 | @visit c o T r x hx hS hz hd ih =>
  intro hT hl f s3 s4 hf;obtain⟨g,rfl⟩:∃g,f=g+1:=⟨f - 1,by omega⟩;have J:=hT x A5;obtain⟨e1,_,pw⟩:=h.at J;have Z:=pw.few;have O:=pn0 ps[x].vals;have ea:J8 (wd ps) x=tgs ps[x].vals:=h.adj J;rw[List.length_cons] at hl;obtain⟨s',ef⟩:=Ta.nt0 (n:=ps.length) (wd ps) (o++[x]) (.sh (.int (x:Int))) ps[x].vals.reverse T.reverse s4 (λv hv=>pw.lv v (List.mem_reverse.mp hv)) (by rw[List.length_reverse,List.length_reverse];omega);rw[Ta.Zw0] at ef;have M:(o++[x]).length+(J8 (wd ps) x++T).length<=10001:=by
   rw[List.length_append] at hz ⊢;rw[List.length_append,List.length_singleton];omega
  obtain⟨s3',s4',e⟩:=ih (λy hy=>by
   rcases B1.mp hy with z|z
   ·rw[ea] at z;exact qn0 pw.lv y z
   ·exact hT y (A3 _ z)) M g (.sh (.int (x:Int))) s' (by omega)
  refine⟨s3',s4',?_⟩;rw[List.reverse_append,ea] at e;have p3:pt0 (z8 (oA (z8 (o2 (gv 0) (gv 3) ixD) v6) Kk.o7) v6) (Ta.os (wd ps) (o++[x]) T.reverse (.sh (.int (x:Int))) s4)=some ps[x].vals.reverse:=by
   unfold pt0;rw[cons_of (d:=.lst ps[x].vals) (ds:=[]) (by
    rw[o8 (ds:=[ps[x].d]) (cons_of (by rw[o4 (x:=wd ps) (y:=.int (x:Int)) rfl rfl];exact e1) rfl)];exact Ta.um0 pw) rfl]
   rfl
  have eb:Ta.OB (Ta.os (wd ps) o (x::T).reverse s3 s4)=some (.nx (Ta.os (wd ps) (o++[x]) (T.reverse++(tgs ps[x].vals).reverse) (.sh (.int (x:Int))) s')):=by
   rw[List.reverse_cons];exact v5 (bn0 _ o T.reverse x s3 s4) (v5 (δ':=Ta.os (wd ps) (o++[x]) (T.reverse++(tgs ps[x].vals).reverse) (.sh (.int (x:Int))) s') (by
    rw[Q6 ((bg0 _ o T.reverse x s4).trans (by rw[decide_eq_true hx]))];exact v5 (Uz0 _ o T.reverse x s4 (by omega)) (v5 (R0 p3 ef) rfl)) rfl)
  unfold Z5;rw[Ta.hh0,decide_eq_true (by simp)];dsimp only;rw[eb];exact e
theorem rq0(h:Web ps)(m:Met ps r):zt0 [wd ps]=some (.lst (nd r)):=by
 obtain⟨c,h1,h2⟩:=m.ex;obtain⟨s3,s4,e⟩:=T00 h h1 (λx hx=>by rw[List.mem_singleton.mp hx];exact h.len.1) (by simp) 100000 .un .un (by omega);exact O2 rfl (v5 (δ':=[.sh (wd ps),.ow (.lst []),.un,.un,.un]) rfl (v5 (δ':=Ta.os (wd ps) [] [0] .un .un) rfl (v5 e (Q9 rfl))))
def nums(r:List Nat)(i:Nat):D:=.dct (.inl (kd (r.take i))) (nd (List.range' 0 i))
theorem o50(hn:r.Nodup)(hj:j<r.length):W8 (kd (r.take j)) (.inl (r[j]:Int))=kd (r.take (j+1))/\W9 (kd (r.take j)) (nd (List.range' 0 j)) (.inl (r[j]:Int)) (.int (j:Int))=nd (List.range' 0 (j+1)):=by
 have J:r[j]∉r.take j:=λz=>by
  have q:(r.take j++r.drop j).Nodup:=by rw[List.take_append_drop];exact hn
  exact(m4.mp q).2.2 _ z _ (by rw[List.drop_eq_getElem_cons hj];exact A5) rfl
 have hk:V8 (kd (r.take j)) (.inl (r[j]:Int))=false:=by rw[wt0,decide_eq_false J]
 have tk:r.take (j+1)=r.take j++[r[j]]:=by rw[List.take_succ,List.getElem?_eq_getElem hj];rfl
 constructor
 ·unfold W8;rw[hk,if_neg (by simp),tk,vw0];rfl
 ·unfold W9;rw[hk,if_neg (by simp),List.range'_concat,G6,Nat.one_mul,Nat.zero_add];rfl
theorem pq0(hj:j∈r):O1 (nums r r.length) (.int (j:Int))=some (.int ((r.idxOf j:Nat):Int)):=by
 show z60 (kd (r.take r.length)) (nd (List.range' 0 r.length)) (.inl (j:Int))=_;rw[List.take_length,jr0 r 0 j hj,Nat.zero_add]
theorem qj0{ks:List O8}{vs:List D}{k:Nat}{v:D}{g:GE}{gx:GE}(h1:δ[i]?=some (.ow (.dct (.inl ks) vs)))(h2:gx δ=some v)(h3:g δ=some (.int (k:Int)))(h4:ks.length<sizeLine) :
  W7 (O9 gx) (putAt i g) δ=some (.nx (δ.set i (.ow (.dct (.inl (W8 ks (.inl (k:Int)))) (W9 ks vs (.inl (k:Int)) v))))):=by
 have e:ut0 i δ=some (ks,vs):=by unfold ut0;rw[h1]
 unfold W7 O9;rw[h2,Option.map_some,Option.bind_some];unfold DL.putAt;rw[e,Option.bind_some,h3,Option.bind_some];simp only[zw0,Option.bind_some];rw[if_pos h4];rfl
theorem pj0(h:Web ps)(m:Met ps r){mf:List D->Option D}(hm:∀i∈r,mf [(pa ps i).d,nums r r.length]=some (rel (λj=>r.idxOf j) (pa ps i)).d) :
  R4 (gN 0) noT (oA (z8 (o2 (gv 1) (gv 0) ixD) (z8 (gv 2) v6)) mf) [.un,.sh (wd ps),.sh (nums r r.length)] (nd r)=some ((dr ps r).map Pt.d):=by
 rw[R8 (λd=>match d with|.int i=>(rel (λj=>r.idxOf j) (pa ps i.toNat)).d|_=>.non) (λd hd=>by
  obtain⟨i,hi,rfl⟩:=A7.mp hd;refine⟨[.sh (.int (i:Int)),.sh (wd ps),.sh (nums r r.length)],rfl,rfl,?_⟩;rw[o8 (ds:=[(pa ps i).d,nums r r.length]) (cons_of (by rw[o4 (x:=wd ps) (y:=.int (i:Int)) rfl rfl];exact(m9 h (m.lt i hi)).1) rfl),hm i hi];rfl)]
 unfold nd dr;rw[List.map_map,List.map_map];rfl
theorem Met.len(h:Web ps)(m:Met ps r):r.length<=ps.length/\r.length<=60:=by
 have:=sub_len m.nd (m:=List.range ps.length) λy hy=>C3.mpr (m.lt y hy)
 rw[List.length_range] at this;exact⟨this,C0 this h.len.2⟩
theorem Met.tg(h:Web ps)(m:Met ps r)(hi:i∈r)(hj:j∈tgs (pa ps i).vals):j∈r:=m.cl i hi j (by rw[y00 h (m.lt i hi)];exact hj)
theorem lt0(r:List Nat):(yv0 (nd r)).length=r.length:=by unfold yv0;rw[List.length_map,List.length_range,S7]
theorem dy0{d:D}(h:(yv0 (nd r))[j]?=some d):∃hj:j<r.length,d=.tup [.int (j:Int),.int (r[j]:Int)]:=by
 have J:j<r.length:=by
  have:=(D0.mp h).1
  rwa [lt0] at this
 refine⟨J,?_⟩;unfold yv0 at h;rw[List.getElem?_map,List.getElem?_range (by rw[S7];exact J)] at h;have e:(nd r).getD j .non=.int (r[j]:Int):=by unfold nd;simp[J]
 rw[← e];exact(A8 h).symm
theorem Ze0{gA:GA}(δ:Ds)(r:List Nat)(h:gA δ=some [.lst (nd r)]):qt0 gA δ=some (yv0 (nd r)):=by
 unfold qt0;rw[h];rfl
def NB:GS:=(v4 (W7 (O9 (gv 4)) (DL.putAt 3 (gv 5))) u9)
theorem rn0(h:Web ps)(m:Met ps r):xk0 [wd ps,.int 0]=some (wd (dr ps r)):=by
 have zs:(2000:Nat)<=sizeLine:=by decide
 obtain⟨_,M⟩:=m.len h;obtain⟨δ',l1,s4,s5,rfl⟩:=T9 (f:=vl0 4 5) (G:=NB) (λi δ=>∃s4 s5:Sl,δ=[.sh (wd ps),.sh (.int 0),.sh (.lst (nd r)),.ow (nums r i),s4,s5]) (yv0 (nd r)) 0 [.sh (wd ps),.sh (.int 0),.sh (.lst (nd r)),.ow (nums r 0),.un,.un] (by
  rintro j d δ hj ⟨s4,s5,rfl⟩;rw[Nat.zero_add];obtain⟨J,rfl⟩:=dy0 hj;obtain⟨e1,e2⟩:=o50 m.nd J;refine⟨[.sh (wd ps),.sh (.int 0),.sh (.lst (nd r)),.ow (nums r j),.sh (.int (j:Int)),.sh (.int (r[j]:Int))],_,rfl,v5 (qj0 (ks:=kd (r.take j)) (vs:=nd (List.range' 0 j)) (k:=r[j]) (v:=.int (j:Int)) rfl rfl rfl (by unfold kd;rw[List.length_map,List.length_take];omega)) rfl,.sh (.int (j:Int)),.sh (.int (r[j]:Int)),?_⟩;rw[e1,e2];rfl) ⟨.un,.un,rfl⟩
 rw[Nat.zero_add,lt0] at l1;refine d8 rfl (v5 (j6 (d:=.lst (nd r)) (am0 ?_ (l20 r))) (v5 (δ':=[.sh (wd ps),.sh (.int 0),.sh (.lst (nd r)),.ow (nums r 0),.un,.un]) rfl (v5 (R0 (items:=yv0 (nd r)) ?_ l1) (j4 (X3 ?_)))))
 ·show oA (z8 (gv 0) (z8 (gv 1) v6)) xt0 [.sh (wd ps),.sh (.int 0),.un,.un,.un,.un]=_
  rw[o8 (ds:=[wd ps,.int 0]) rfl];exact q20 h m
 ·exact Ze0 _ r rfl
 ·show oA _ U8 [.sh (wd ps),.sh (.int 0),.sh (.lst (nd r)),.sh (nums r r.length),G5 s4,G5 s5]=_
  rw[o8 (ds:=[.lst ((dr ps r).map Pt.d)]) (cons_of (V6 (items:=nd r) rfl (by rw[S7];omega) (pj0 h m λi hi=>K9 (m9 h (m.lt i hi)).2 _ _ λj hj=>pq0 (m.tg h hi hj))) rfl)];rfl
def RB:GS:=(v4 (W7 (O9 (zs0 (oA (z8 (gv 2) v6) sv0))) (DL.putAt 2 (gv 3))) u9)
end Ua
namespace Ua
open Kk
open DL W K22 SoT
open Ta (pa m9 xh0 pN)
theorem Zm0{p:Pt}(h:Pw n p):Pn.nb p.d=true:=by
 have v:∀x∈p.vals,Pn.nb x=true:=λx hx=>(Ta.i00 (h.lv x hx)).nb
 have J:∀ps:List (Str×D),(∀x∈ps.map (·.2),Pn.nb x=true)->Pn.nb (.tup (ps.map pr))=true:=λps hv=>Pn.G7 λd hd=>by
  obtain⟨q,hq,rfl⟩:=A7.mp hd;refine Pn.G7 λe he=>?_
  rcases A4.mp he with rfl|he
  ·exact Pn.zg0 _
  ·rw[List.mem_singleton.mp he]
   exact hv _ (A7.mpr ⟨q,hq,rfl⟩)
 cases p with
 | text w=>refine Pn.G7 λe he=>?_;rcases A4.mp he with rfl|he;exact Pn.zg0 _;rw[List.mem_singleton.mp he];exact Pn.zg0 _
 | row vs=>refine Pn.G7 λe he=>?_;rcases A4.mp he with rfl|he;exact Pn.zg0 _;rw[List.mem_singleton.mp he];exact Pn.G7 v
 | table ps=>refine Pn.G7 λe he=>?_;rcases A4.mp he with rfl|he;exact Pn.zg0 _;rw[List.mem_singleton.mp he];exact J ps v
 | rcd c ps =>
  refine Pn.G7 λe he=>?_
  rcases A4.mp he with rfl|he
  ·exact Pn.zg0 _
  ·rcases A4.mp he with rfl|he
   ·exact Pn.zg0 _
   ·rw[List.mem_singleton.mp he];exact J ps v
theorem tn0(h:Web ps):Pn.Pl (wd ps):=⟨a00 h 45,Pn.G7 λd hd=>by
 obtain⟨p,hp,rfl⟩:=A7.mp hd;exact Zm0 (h.pw p hp)⟩
end Ua
namespace Ea
open DL W K22
open Ta (pa m9 xh0 gl gl1 nl pN k2 v60)
open La
def lnk(j:Nat):D:=.tup [.str "at",.int (j:Int)]
end Ea
namespace Ma
open DL W K22
open Ta (pa m9 xh0 gl gl1 nl pN k2 v60)
open La
open Ea (lnk)
theorem fc0(i j:Nat):gl1 (lnk i,lnk j)=some (i,j):=rfl
end Ma
namespace Ea
open DL W K22
open Ta (pa m9 xh0 gl gl1 nl pN k2 v60)
open La
open Ua (Met dr)
theorem k00{p q:Pt}(h:Pn.hd p=Pn.hd q):Pn.put p q.vals=q:=by
 have key:∀qs:List (Str×D),∀ns:List Str,ns.map D.str=(qs.map (·.1)).map D.str->ns.zip (qs.map (·.2))=qs:=λqs=>by
  induction qs with
  | nil=>intro ns _;simp
  | cons a qs ih =>
   intro ns hn;cases ns with
   | nil=>simp at hn
   | cons n ns =>
    rw[List.map_cons,List.map_cons,List.map_cons] at hn;injection hn with h1 h2
    injection h1 with h1
    rw[List.map_cons,List.zip_cons_cons,ih ns h2,h1]
 cases p<;>cases q<;>unfold Pn.hd at h<;>injection h with h<;>first
  | (injection h with h1 _;injection h1 with h1;exact absurd h1 (by decide))
  | skip
 ·injection h with _ h;injection h with h _;injection h with h;rw[h];rfl
 ·rfl
 ·rename_i a b
  injection h with _ h;injection h with h _;injection h with h
  show Pt.table ((a.map (·.1)).zip (b.map (·.2)))=_;rw[key b _ h]
 ·rename_i c a c' b
  injection h with _ h;injection h with h1 h;injection h with h _;injection h with h;injection h1 with h1
  show Pt.rcd c ((a.map (·.1)).zip (b.map (·.2)))=_;rw[key b _ h,h1]
end Ea
namespace Ka
open Kk
open DL W K22
open Ta (pa m9 xh0 gl gl1 nl pN)
open La (zp Rch okp l40)
open Ea (lnk k00)
open Ma (fc0)
open Ua (y00 v70 qs0 J6 f80 po0 pp0 tt0 l80)
inductive F2 (R:D->D->Prop):List D->List D->Prop
 | nil:F2 R [] []
 | cons {a b:D} {l m:List D}:R a b->F2 R l m->F2 R (a::l) (b::m)
theorem F2.mono{R S:D->D->Prop}{m:List D}(h:F2 R l m):(∀a∈l,∀b∈m,R a b->S a b)->F2 S l m:=by
 induction h with
 | nil=>intro _;exact .nil
 | cons h1 _ ih=>intro k;exact .cons (k _ A5 _ A5 h1) (ih λa ha b hb=>k a (A3 _ ha) b (A3 _ hb))
theorem F2.symm{R S:D->D->Prop}{m:List D}(h:F2 R l m)(k:∀a b,R a b->S b a):F2 S m l:=by
 induction h with
 | nil=>exact .nil
 | cons h1 _ ih=>exact .cons (k _ _ h1) ih
theorem F2.trans{R S T:D->D->Prop}{m:List D}(h:F2 R l m)(k:∀a b c,R a b->S b c->T a c):∀{o:List D},F2 S m o->F2 T l o:=by
 induction h with
 | nil=>intro o h2;cases h2;exact .nil
 | cons h1 _ ih=>intro o h2;cases h2 with|cons a b=>exact .cons (k _ _ _ h1 a) (ih b)
def Mv(R:Nat->Nat->Prop)(v w:D):Prop:=(∃i j,v=lnk i/\w=lnk j/\R i j)∨(v=w/\isTup v=false)
structure Lk(R:Nat->Nat->Prop)(p q:Pt):Prop where
 hd:Pn.hd p=Pn.hd q
 vs:F2 (Mv R) p.vals q.vals
theorem wg0(h:lnk i=lnk j):i=j:=by
 unfold lnk at h;injection h with h;injection h with _ h;injection h with h _;injection h with h
 exact n5.mp h
theorem lg0(R:Nat->Nat->Prop):∀{vs ws:List D},vs.length=ws.length->(∀v∈vs,Lv n v)->(∀w∈ws,Lv m w) ->
  (F2 (Mv R) vs ws↔(∀x∈vs.zip ws,nl x)/\∀y∈gl (vs.zip ws),R y.1 y.2)
 | [],[],_,_,_=>⟨λ_=>⟨(λx hx=>by cases hx),λy hy=>by cases hy⟩,λ_=>.nil⟩
 | [],_::_,h,_,_=>by cases h
 | _::_,[],h,_,_=>by cases h
 | v::vs,w::ws,hl,hv,hw=>by
  have ih:=lg0 R (vs:=vs) (ws:=ws) (by simpa using hl) (λa ha=>hv a (A3 _ ha)) (λa ha=>hw a (A3 _ ha));have key:Mv R v w↔nl (v,w)/\∀y,gl1 (v,w)=some y->R y.1 y.2:=by
   rcases l40 (hv v A5) (hw w A5) with⟨i,j,_,_,rfl,rfl,e⟩|⟨e,t⟩
   ·constructor
    ·rintro (⟨i',j',e1,e2,r⟩|⟨_,z⟩)
     ·have:=wg0 (i:=i) (j:=i') e1
      have:=wg0 (i:=j) (j:=j') e2
      subst_vars;exact⟨.inl ⟨rfl,rfl⟩,λy hy=>by rw[e] at hy;cases hy;exact r⟩
     ·cases z
    ·rintro⟨_,r⟩
     exact .inl ⟨i,j,rfl,rfl,r _ e⟩
   ·constructor
    ·rintro (⟨i',j',rfl,rfl,r⟩|⟨z,z2⟩)
     ·rw[fc0] at e;cases e
     ·exact⟨.inr z,λy hy=>by rw[e] at hy;cases hy⟩
    ·rintro⟨q|q,_⟩
     ·dsimp only at q;rw[q.1,q.2] at t;cases t
     ·dsimp only at q
      subst q;exact .inr ⟨rfl,by cases h:isTup v with|false=>rfl|true=>rw[h] at t;cases t⟩
  have cg:∀y,y∈gl ((v,w)::vs.zip ws)↔gl1 (v,w)=some y∨y∈gl (vs.zip ws):=λy=>by
   unfold gl;rw[List.filterMap_cons];cases gl1 (v,w) with
   | none=>simp
   | some z =>
    rw[List.mem_cons,Option.some_inj];exact⟨λh=>h.imp Eq.symm id,λh=>h.imp Eq.symm id⟩
  rw[List.zip_cons_cons];constructor
  ·intro h
   cases h with
   | cons h1 h2 =>
    obtain⟨k1,k2⟩:=key.mp h1;obtain⟨i1,i2⟩:=ih.mp h2;refine⟨λx hx=>?_,λy hy=>?_⟩
    ·rcases A4.mp hx with rfl|hx
     ·exact k1
     ·exact i1 x hx
    ·rcases (cg y).mp hy with hy|hy
     ·exact k2 y hy
     ·exact i2 y hy
  ·rintro⟨h1,h2⟩
   exact .cons (key.mpr ⟨h1 _ A5,λy hy=>h2 y ((cg y).mpr (.inl hy))⟩) (ih.mpr ⟨λx hx=>h1 x (A3 _ hx),λy hy=>h2 y ((cg y).mpr (.inr hy))⟩)
theorem p10{p q:Pt}(hp:Pw n p)(hq:Pw m q)(R:Nat->Nat->Prop):Lk R p q↔Pn.hd p=Pn.hd q/\(∀x∈p.vals.zip q.vals,nl x)/\∀y∈gl (p.vals.zip q.vals),R y.1 y.2 :=
 ⟨λh=>⟨h.hd,(lg0 R (Ta.rf0 h.hd) hp.lv hq.lv).mp h.vs⟩,λh=>⟨h.1,(lg0 R (Ta.rf0 h.1) hp.lv hq.lv).mpr h.2⟩⟩
theorem Lk.mono{R:Nat->Nat->Prop}{p q:Pt}(h:Lk R p q)(k:∀i j,i∈tgs p.vals->j∈tgs q.vals->R i j->S i j):Lk S p q :=
 ⟨h.hd,h.vs.mono λa ha b hb r=>r.imp (λ⟨i,j,e1,e2,r⟩=>⟨i,j,e1,e2,k i j (u60 (show lnk i∈p.vals from e1▸ha)) (u60 (show lnk j∈q.vals from e2▸hb)) r⟩) id⟩
theorem Lk.symm{R:Nat->Nat->Prop}{p q:Pt}(h:Lk R p q)(k:∀i j,R i j->S j i):Lk S q p :=
 ⟨h.hd.symm,h.vs.symm λa b r=>r.imp (λ⟨i,j,e1,e2,r⟩=>⟨j,i,e2,e1,k i j r⟩) λ⟨e,t⟩=>⟨e.symm,e▸t⟩⟩
theorem Lk.trans{R T:Nat->Nat->Prop}{p q r:Pt}(h:Lk R p q)(h':Lk S q r)(k:∀i j l,R i j->S j l->T i l):Lk T p r :=
 ⟨h.hd.trans h'.hd,h.vs.trans (λa b c x y=>by
  rcases x with⟨i,j,rfl,rfl,x⟩|⟨rfl,t⟩
  ·rcases y with⟨j',l,e,rfl,y⟩|⟨_,t⟩
   ·have:=wg0 e;subst this
    exact .inl ⟨i,l,rfl,rfl,k _ _ _ x y⟩
   ·cases t
  ·rcases y with⟨j',l,rfl,rfl,y⟩|⟨rfl,_⟩
   ·cases t
   ·exact .inr ⟨rfl,t⟩) h'.vs⟩
def A(ps qs:List Pt)(a b:Nat):Prop:=a<ps.length/\b<qs.length/\∀x,Rch ps qs (a,b) x->okp ps qs x
theorem gr0{x y z:Nat×Nat}(h:Rch ps qs x y)(h':Rch ps qs y z):Rch ps qs x z:=by
 induction h' with
 | top=>exact h
 | go _ g ih=>exact .go ih g
theorem Uw0{vs ws:List D}(hv:∀v∈vs,Lv n v)(hw:∀w∈ws,Lv m w){y:Nat×Nat}(hy:y∈gl (vs.zip ws)):y.1<n/\y.2<m:=by
 obtain⟨u,hu,e⟩:=S2.mp hy;obtain⟨h1,h2⟩:=i7 (show (u.1,u.2)∈vs.zip ws from hu);rcases l40 (hv _ h1) (hw _ h2) with⟨i,j,hi,hj,_,_,e2⟩|⟨e2,_⟩
 ·rw[show (u.1,u.2)=u from rfl,e] at e2;cases e2;exact⟨hi,hj⟩
 ·rw[show (u.1,u.2)=u from rfl,e] at e2;cases e2
theorem A.lk(hp:Web ps)(hq:Web qs){a b:Nat}(h:A ps qs a b):Lk (A ps qs) (pa ps a) (pa qs b):=by
 have p1:=(m9 hp h.1).2;have p2:=(m9 hq h.2.1).2;refine(p10 p1 p2 _).mpr ⟨(h.2.2 _ .top).1,(h.2.2 _ .top).2,λy hy=>?_⟩;obtain⟨i1,i2⟩:=Uw0 p1.lv p2.lv hy;exact⟨i1,i2,λx hx=>h.2.2 x (gr0 (.go .top hy) hx)⟩
theorem A.of(hp:Web ps)(hq:Web qs)(R:Nat->Nat->Prop)(h:∀a b,R a b->a<ps.length/\b<qs.length/\Lk R (pa ps a) (pa qs b)){a b:Nat}(r:R a b):A ps qs a b:=by
 have go:∀x,Rch ps qs (a,b) x->R x.1 x.2:=λx hx=>by
  induction hx with
  | top=>exact r
  | @go q x _ g ih =>
   obtain⟨h1,h2,h3⟩:=h _ _ ih;exact((p10 (m9 hp h1).2 (m9 hq h2).2 _).mp h3).2.2 x g
 refine⟨(h a b r).1,(h a b r).2.1,λx hx=>?_⟩;obtain⟨h1,h2,h3⟩:=h _ _ (go x hx);have:=(p10 (m9 hp h1).2 (m9 hq h2).2 _).mp h3;exact⟨this.1,this.2.1⟩
theorem A.symm(hp:Web ps)(hq:Web qs){a b:Nat}(h:A ps qs a b):A qs ps b a :=
 A.of hq hp (λb a=>A ps qs a b) (λb a r=>⟨r.2.1,r.1,(r.lk hp hq).symm λi j z=>z⟩) h
theorem A.trans{rs:List Pt}(hp:Web ps)(hq:Web qs)(hr:Web rs){a b c:Nat}(h:A ps qs a b)(h':A qs rs b c):A ps rs a c :=
 A.of hp hr (λa c=>∃b,A ps qs a b/\A qs rs b c) (λa c ⟨b,r,s⟩=>⟨r.1,s.2.1,(r.lk hp hq).trans (s.lk hq hr) λi j l z z'=>⟨j,z,z'⟩⟩) ⟨b,h,h'⟩
theorem m00{p:Pt}(h:Pw n p)(hj:j∈tgs p.vals):j<n:=qn0 h.lv j hj
theorem Xb0{p q:Pt}(h:Pn.hd p=Pn.hd q){vs:List D}(hl:vs.length=q.vals.length):Pn.put p vs=Pn.put q vs:=by
 have:=k00 (p:=p) (q:=Pn.put q vs) (by rw[l80 q vs hl];exact h)
 rwa [xo0 q vs hl] at this
theorem qb0{p q:Pt}(hp:Pw n p)(hq:Pw m q)(f g:Nat->Nat):rel f p=rel g q↔Lk (λi j=>f i=g j) p q:=by
 have key:∀{vs ws:List D},(∀v∈vs,Lv n v)->(∀w∈ws,Lv m w)->(vs.map (lkv f)=ws.map (lkv g)↔F2 (Mv λi j=>f i=g j) vs ws):=λ{vs}=>by
  induction vs with
  | nil =>
   intro ws _ _;cases ws with
   | nil=>exact⟨λ_=>.nil,λ_=>rfl⟩
   | cons=>exact⟨(λh=>by cases h),λh=>by cases h⟩
  | cons v vs ih =>
   intro ws hv hw;cases ws with
   | nil=>exact⟨(λh=>by cases h),λh=>by cases h⟩
   | cons w ws =>
    have i:=ih (ws:=ws) (λa ha=>hv a (A3 _ ha)) λa ha=>hw a (A3 _ ha)
    have k:lkv f v=lkv g w↔Mv (λi j=>f i=g j) v w:=by
     rcases hv v A5 with rfl|⟨z,rfl⟩|⟨a,rfl,_⟩<;>rcases hw w A5 with rfl|⟨y,rfl⟩|⟨b,rfl,_⟩
     ·exact⟨λ_=>.inr ⟨rfl,rfl⟩,λ_=>rfl⟩
     ·exact⟨(λh=>by cases h),λh=>by rcases h with⟨i,j,e,_⟩|⟨e,_⟩<;>cases e⟩
     ·exact⟨(λh=>by rw[J6] at h;cases h),λh=>by rcases h with⟨i,j,e,_⟩|⟨e,_⟩<;>cases e⟩
     ·exact⟨(λh=>by cases h),λh=>by rcases h with⟨i,j,e,_⟩|⟨e,_⟩<;>cases e⟩
     ·exact⟨λh=>.inr ⟨h,rfl⟩,λh=>by rcases h with⟨i,j,e,_⟩|⟨e,_⟩;cases e;exact e⟩
     ·exact⟨(λh=>by rw[J6] at h;cases h),λh=>by rcases h with⟨i,j,e,_⟩|⟨e,_⟩<;>cases e⟩
     ·exact⟨(λh=>by rw[J6] at h;cases h),λh=>by rcases h with⟨i,j,_,e,_⟩|⟨e,_⟩<;>cases e⟩
     ·exact⟨(λh=>by rw[J6] at h;cases h),λh=>by rcases h with⟨i,j,_,e,_⟩|⟨e,_⟩<;>cases e⟩
     ·rw[J6,J6]
      constructor
      ·intro h;exact .inl ⟨a,b,rfl,rfl,wg0 h⟩
      ·rintro (⟨i,j,e1,e2,r⟩|⟨_,z⟩)
       ·have:=wg0 (i:=a) (j:=i) e1
        have:=wg0 (i:=b) (j:=j) e2
        subst_vars;rw[r]
       ·cases z
    rw[List.map_cons,List.map_cons,List.cons_eq_cons,k,i];exact⟨λh=>.cons h.1 h.2,λh=>by cases h with|cons a b=>exact⟨a,b⟩⟩
 constructor
 ·intro h
  have h1:=qs0 f p;have h2:=v70 f p;rw[h,qs0] at h1;rw[h,v70] at h2;exact⟨h1.symm,(key hp.lv hq.lv).mp h2.symm⟩
 ·intro h
  have:=(key hp.lv hq.lv).mpr h.vs;unfold rel;rw[this];exact Xb0 h.hd (by rw[List.length_map])
theorem f90{p:Pt}(h:Pw n p):rel (λj=>j) p=p:=by
 unfold rel;rw[show p.vals.map (lkv λj=>j)=p.vals from (L5 (g:=id) λv hv=>f80 v (h.lv v hv)).trans (List.map_id _)];exact k00 rfl
theorem A.map(hp:Web ps)(hq:Web qs)(r:Nat->Prop)(f:Nat->Nat)(h:∀a,r a->a<ps.length/\f a<qs.length/\pa qs (f a)=rel f (pa ps a)/\∀j∈tgs (pa ps a).vals,r j){a:Nat}(ha:r a):A ps qs a (f a):=by
 refine A.of hp hq (λa b=>r a/\b=f a) (λa b ⟨ra,e⟩=>?_) ⟨ha,rfl⟩;subst e;obtain⟨h1,h2,h3,h4⟩:=h a ra;refine⟨h1,h2,?_⟩;have:=(qb0 (m9 hp h1).2 (m9 hq h2).2 f λj=>j).mp (by rw[f90 (m9 hq h2).2];exact h3.symm);exact this.mono λi j hi _ e=>⟨h4 i hi,e.symm⟩
end Ka
namespace Ka
open Kk
open DL W K22
open Ta (pa m9)
section
variable{X Y:Type}
def fk(L:Nat->X):List Nat->List Nat->List Nat
 | F,[]=>F
 | F,k::r=>@ite _ (∃b,b∈F/\L b=L k) (Classical.propDecidable _) (fk L F r) (fk L (F++[k]) r)
def ix(L:Nat->X)(k:Nat):List Nat->Nat
 | []=>0
 | b::F=>@ite _ (L b=L k) (Classical.propDecidable _) 0 (ix L k F+1)
theorem K5{L:Nat->X}{k:Nat}(h:∃b,b∈F/\L b=L k):fk L F (k::r)=fk L F r:=by
 rw[fk];exact if_pos h
theorem O7{L:Nat->X}{k:Nat}(h:¬∃b,b∈F/\L b=L k):fk L F (k::r)=fk L (F++[k]) r:=by
 rw[fk];exact if_neg h
theorem ze0{L:Nat->X}{k b:Nat}(h:L b=L k):ix L k (b::F)=0:=by
 rw[ix];exact if_pos h
theorem z70{L:Nat->X}{k b:Nat}(h:L b≠L k):ix L k (b::F)=ix L k F+1:=by
 rw[ix];exact if_neg h
theorem ub0(L:Nat->X):∀(r s F:List Nat),fk L F (r++s)=fk L (fk L F r) s
 | [],s,F=>rfl
 | k::r,s,F=>by
  by_cases h:∃b,b∈F/\L b=L k
  ·rw[List.cons_append,K5 h,K5 h];exact ub0 L r s F
  ·rw[List.cons_append,O7 h,O7 h];exact ub0 L r s _
theorem ql0(L:Nat->X):∀(r F:List Nat),∃s,fk L F r=F++s
 | [],F=>⟨[],(b5 F).symm⟩
 | k::r,F=>by
  by_cases h:∃b,b∈F/\L b=L k
  ·rw[K5 h];exact ql0 L r F
  ·rw[O7 h]
   obtain⟨s,e⟩:=ql0 L r (F++[k]);exact⟨k::s,by rw[e,List.append_assoc];rfl⟩
theorem lc0(L:Nat->X):∀(r F:List Nat) (x:Nat),x∈fk L F r->x∈F∨x∈r
 | [],F,x,h=>.inl h
 | k::r,F,x,h=>by
  by_cases c:∃b,b∈F/\L b=L k
  ·rw[K5 c] at h;exact(lc0 L r F x h).imp id (A3 _)
  ·rw[O7 c] at h
   rcases lc0 L r _ x h with z|z
   ·rcases B1.mp z with z|z
    ·exact .inl z
    ·exact .inr (by rw[List.mem_singleton.mp z];exact A5)
   ·exact .inr (A3 _ z)
theorem ew0(L:Nat->X)(r F:List Nat){x:Nat}(h:x∈F):x∈fk L F r:=by
 obtain⟨s,e⟩:=ql0 L r F;rw[e];exact E1 _ h
theorem G4(L:Nat->X):∀(r F:List Nat) (k:Nat),k∈r->∃b,b∈fk L F r/\L b=L k
 | [],F,k,h=>by cases h
 | a::r,F,k,h=>by
  by_cases c:∃b,b∈F/\L b=L a
  ·rw[K5 c]
   rcases A4.mp h with rfl|h
   ·obtain⟨b,hb,e⟩:=c;exact⟨b,ew0 L r F hb,e⟩
   ·exact G4 L r F k h
  ·rw[O7 c]
   rcases A4.mp h with rfl|h
   ·exact⟨k,ew0 L r _ (by simp),rfl⟩
   ·exact G4 L r _ k h
def Un(L:Nat->X)(F:List Nat):Prop:=F.Pairwise λa b=>L a≠L b
theorem g90(L:Nat->X):∀(r F:List Nat),Un L F->Un L (fk L F r)
 | [],F,h=>h
 | k::r,F,h=>by
  by_cases c:∃b,b∈F/\L b=L k
  ·rw[K5 c];exact g90 L r F h
  ·rw[O7 c]
   refine g90 L r _ (Cl0.mpr ⟨h,Cm0 _ _,λa ha b hb=>?_⟩);rw[List.mem_singleton.mp hb];exact λe=>c ⟨a,ha,e⟩
theorem yz0{L:Nat->X}(h:Un L F):F.Nodup:=h.imp λz e=>z (by rw[e])
theorem qf0{L:Nat->X}:∀{F:List Nat},Un L F->∀a∈F,∀b∈F,L a=L b->a=b
 | [],_,a,ha,_,_,_=>by cases ha
 | x::F,h,a,ha,b,hb,e=>by
  rw[Un,List.pairwise_cons] at h;rcases A4.mp ha with q1|q1<;>rcases A4.mp hb with q2|q2
  ·rw[q1,q2]
  ·exact absurd (q1▸e) (h.1 b q2)
  ·exact absurd (q2▸e.symm) (h.1 a q1)
  ·exact qf0 h.2 a q1 b q2 e
theorem nz0{L:Nat->X}{k:Nat}:∀{F:List Nat},(∃b,b∈F/\L b=L k)->∃h:ix L k F<F.length,L F[ix L k F]=L k
 | [],⟨_,h,_⟩=>by cases h
 | x::F,h=>by
  by_cases c:L x=L k
  ·refine⟨by rw[ze0 c];exact Dl0 _,?_⟩
   simp only[ze0 c,List.getElem_cons_zero];exact c
  ·obtain⟨b,hb,e⟩:=h
   have J:b∈F:=(A4.mp hb).resolve_left λz=>c (z▸e)
   obtain⟨i1,i2⟩:=nz0 (L:=L) (k:=k) (F:=F) ⟨b,J,e⟩;refine⟨by rw[z70 c,List.length_cons];omega,?_⟩;simp only[z70 c,List.getElem_cons_succ];exact i2
theorem bh0{L:Nat->X}:∀{F:List Nat} (h:Un L F) {i:Nat} (hi:i<F.length),ix L F[i] F=i
 | [],_,i,hi=>by cases hi
 | x::F,h,0,hi=>ze0 rfl
 | x::F,h,i+1,hi=>by
  rw[Un,List.pairwise_cons] at h;rw[List.getElem_cons_succ,z70 (h.1 _ (B7 _)),bh0 h.2]
theorem q30{L:Nat->X}{k:Nat}(s:List Nat):∀{F:List Nat},(∃b,b∈F/\L b=L k)->ix L k (F++s)=ix L k F
 | [],⟨_,h,_⟩=>by cases h
 | x::F,h=>by
  rw[List.cons_append]
  by_cases c:L x=L k
  ·rw[ze0 c,ze0 c]
  ·obtain⟨b,hb,e⟩:=h
   rw[z70 c,z70 c,q30 s ⟨b,(A4.mp hb).resolve_left λz=>c (z▸e),e⟩]
theorem T60{L:Nat->X}{a b:Nat}:∀{F:List Nat},(∃c,c∈F/\L c=L a)->(∃c,c∈F/\L c=L b)->(ix L a F=ix L b F↔L a=L b):=by
 intro F ha hb;constructor
 ·intro h
  obtain⟨h1,e1⟩:=nz0 ha;obtain⟨h2,e2⟩:=nz0 hb;rw[← e1,← e2];simp only[h]
 ·intro h
  clear ha hb
  induction F with
  | nil=>rfl
  | cons x F ih =>
   by_cases c:L x=L a
   ·rw[ze0 c,ze0 (c.trans h)]
   ·rw[z70 c,z70 λz=>c (z.trans h.symm),ih]
theorem rz0{L:Nat->X}{M:Nat->Y}:∀(r F:List Nat),(∀a,a∈F∨a∈r->∀b,b∈F∨b∈r->(L a=L b↔M a=M b))->fk L F r=fk M F r
 | [],F,_=>rfl
 | k::r,F,h=>by
  have e:(∃b,b∈F/\L b=L k)↔∃b,b∈F/\M b=M k:=Aq0 λb=>Ar0 λhb=>h b (.inl hb) k (.inr A5)
  by_cases c:∃b,b∈F/\L b=L k
  ·rw[K5 c,K5 (e.mp c)]
   exact rz0 r F λa ha b hb=>h a (ha.imp id (A3 _)) b (hb.imp id (A3 _))
  ·rw[O7 c,O7 λz=>c (e.mpr z)]
   have up:∀a,a∈F++[k]∨a∈r->a∈F∨a∈k::r:=λa ha=>by
    rcases ha with ha|ha
    ·rcases B1.mp ha with ha|ha
     ·exact .inl ha
     ·exact .inr (by rw[List.mem_singleton.mp ha];exact A5)
    ·exact .inr (A3 _ ha)
   exact rz0 r _ λa ha b hb=>h a (up a ha) b (up b hb)
theorem wv0{L:Nat->X}{M:Nat->Y}{k:Nat}:∀{F:List Nat},(∀a∈F,L a=L k↔M a=M k)->ix L k F=ix M k F
 | [],_=>rfl
 | x::F,h=>by
  have e:=h x A5
  by_cases c:L x=L k
  ·rw[ze0 c,ze0 (e.mp c)]
  ·rw[z70 c,z70 λz=>c (e.mpr z),wv0 λa ha=>h a (A3 _ ha)]
theorem t00{L:Nat->X}{M:Nat->Y}:∀(r F G:List Nat),(∀a,a∈G∨a∈r->∀b,b∈G∨b∈r->M a=M b->L a=L b)->(∀x∈F,x∈G)->(∀b∈G,∃c,c∈F/\L c=L b)->∀x∈fk L F r,x∈fk M G r
 | [],F,G,_,hs,_=>hs
 | k::r,F,G,h,hs,hc=>by
  have tail:∀a,a∈G∨a∈r->a∈G∨a∈k::r:=λa ha=>ha.imp id (A3 _)
  have up:∀a,a∈G++[k]∨a∈r->a∈G∨a∈k::r:=λa ha=>by
   rcases ha with ha|ha
   ·rcases B1.mp ha with ha|ha
    ·exact .inl ha
    ·exact .inr (by rw[List.mem_singleton.mp ha];exact A5)
   ·exact .inr (A3 _ ha)
  by_cases c:∃b,b∈F/\L b=L k
  ·rw[K5 c]
   by_cases d:∃b,b∈G/\M b=M k
   ·rw[K5 d]
    exact t00 r F G (λa ha b hb=>h a (tail a ha) b (tail b hb)) hs hc
   ·rw[O7 d]
    refine t00 r F _ (λa ha b hb=>h a (up a ha) b (up b hb)) (λx hx=>E1 _ (hs x hx)) λb hb=>?_
    rcases B1.mp hb with hb|hb
    ·exact hc b hb
    ·rw[List.mem_singleton.mp hb];exact c
  ·have d:¬∃b,b∈G/\M b=M k:=λ⟨b,hb,e⟩=>c (by
    obtain⟨x,hx,e2⟩:=hc b hb;exact⟨x,hx,e2.trans (h b (.inl hb) k (.inr A5) e)⟩)
   rw[O7 c,O7 d];refine t00 r _ _ (λa ha b hb=>h a (up a ha) b (up b hb)) (λx hx=>?_) λb hb=>?_
   ·rcases B1.mp hx with hx|hx
    ·exact E1 _ (hs x hx)
    ·exact D2 _ hx
   ·rcases B1.mp hb with hb|hb
    ·obtain⟨x,hx,e⟩:=hc b hb;exact⟨x,E1 _ hx,e⟩
    ·exact⟨b,D2 _ hb,rfl⟩
def gp(L:Nat->X)(r:List Nat)(k:Nat):Nat:=ix L k (fk L [] r)
theorem yo0(L:Nat->X){a b:Nat}(ha:a∈r)(hb:b∈r):gp L r a=gp L r b↔L a=L b:=T60 (G4 L r [] a ha) (G4 L r [] b hb)
theorem M5(L:Nat->X)(r:List Nat):Un L (fk L [] r):=g90 L r [] List.Pairwise.nil
theorem X7(L:Nat->X){x:Nat}(h:x∈fk L [] r):x∈r:=(lc0 L r [] x h).resolve_left (by simp)
theorem vf0{L:Nat->X}{M:Nat->Y}(h:∀a∈r,∀b∈r,(L a=L b↔M a=M b)):fk L [] r=fk M [] r:=rz0 r [] λa ha b hb=>h a (ha.resolve_left (by simp)) b (hb.resolve_left (by simp))
theorem lz0{L:Nat->X}{M:Nat->Y}(h:∀a∈r,∀b∈r,(L a=L b↔M a=M b)){k:Nat}(hk:k∈r):gp L r k=gp M r k:=by
 unfold gp;rw[vf0 h];exact wv0 λa ha=>h a (X7 M ha) k hk
theorem tq0{L:Nat->X}{M:Nat->Y}(h:∀a∈r,∀b∈r,M a=M b->L a=L b):∀x∈fk L [] r,x∈fk M [] r :=
 t00 r [] [] (λa ha b hb=>h a (ha.resolve_left (by simp)) b (hb.resolve_left (by simp))) (λx hx=>by cases hx) λx hx=>by cases hx
theorem sub_len'{l m:List Nat}(hn:l.Nodup)(hs:∀x∈l,x∈m):l.length<=m.length:=sub_len hn hs
theorem vo0{L:Nat->X}{M:Nat->Y}(h:∀a∈r,∀b∈r,M a=M b->L a=L b)(hl:(fk M [] r).length<=(fk L [] r).length):∀a∈r,∀b∈r,(L a=L b↔M a=M b):=by
 have sub:=tq0 h;have back:∀x∈fk M [] r,x∈fk L [] r:=λx hx=>As0 λhn=>by
  have nd:(x::fk L [] r).Nodup:=E3.mpr ⟨hn,yz0 (M5 L r)⟩;have:=sub_len' nd (m:=fk M [] r) λy hy=>by
   rcases A4.mp hy with rfl|hy
   ·exact hx
   ·exact sub y hy
  rw[List.length_cons] at this;omega
 intro a ha b hb;refine⟨λe=>?_,h a ha b hb⟩;obtain⟨a',J,ea⟩:=G4 M r [] a ha;obtain⟨b',O,eb⟩:=G4 M r [] b hb;have i1:=h a' (X7 M J) a ha ea;have i2:=h b' (X7 M O) b hb eb;have:=qf0 (M5 L r) a' (back a' J) b' (back b' O) (i1.trans (e.trans i2.symm));rw[← ea,← eb,this]
end
end Ka
namespace Ka
open Kk
open DL W K22
open Ta (pa m9)
open La (zp Rch okp)
open Ua (Met dr Iso y00 v70 qs0 pp0 tt0 u50 vv0 yy0 qv0)
theorem map_inj{X Y:Type}{f:X->Y}(h:∀a b,f a=f b->a=b):∀{l m:List X},l.map f=m.map f->l=m
 | [],[],_=>rfl
 | [],_::_,e=>by cases e
 | _::_,[],e=>by cases e
 | a::l,b::m,e=>by
  rw[List.map_cons,List.map_cons] at e;injection e with e1 e2
  rw[h a b e1,map_inj h e2]
theorem eq0(a b:Str×D)(h:pr a=pr b):a=b:=by
 unfold pr at h;injection h with h;injection h with h1 h;injection h with h2 _;injection h1 with h1
 exact L1 h1 h2
theorem ns0(p q:Pt)(h:p.d=q.d):p=q:=by
 cases p<;>cases q<;>unfold Pt.d at h<;>injection h with h<;>first
  | (injection h with h1 _;injection h1 with h1;exact absurd h1 (by decide))
  | skip
 ·injection h with _ h;injection h with h _;injection h with h;rw[h]
 ·injection h with _ h;injection h with h _;injection h with h;rw[h]
 ·injection h with _ h;injection h with h _;injection h with h;rw[map_inj eq0 h]
 ·injection h with _ h;injection h with h1 h;injection h with h _;injection h with h;injection h1 with h1;rw[map_inj eq0 h,h1]
theorem mr0(h:wd ps=wd qs):ps=qs:=by
 unfold wd at h;injection h with h
 exact map_inj ns0 h
def L0(ps:List Pt)(k:Nat):D:=Pn.hd (pa ps k)
def Lg(ps:List Pt)(g:Nat->Nat)(k:Nat):D:=(rel g (pa ps k)).d
def gs(ps:List Pt)(r:List Nat):Nat->Nat->Nat
 | 0=>gp (L0 ps) r
 | n+1=>gp (Lg ps (gs ps r n)) r
def LL(ps:List Pt)(r:List Nat):Nat->Nat->D
 | 0=>L0 ps
 | n+1=>Lg ps (gs ps r n)
theorem wc0(ps:List Pt)(r:List Nat)(n:Nat):gs ps r n=gp (LL ps r n) r:=by cases n<;>rfl
theorem w00(hp:Web ps){a b:Nat}(ha:a<ps.length)(hb:b<ps.length)(f g:Nat->Nat):Lg ps g a=Lg ps g b↔Lk (λi j=>g i=g j) (pa ps a) (pa ps b) :=
 ⟨λh=>(qb0 (m9 hp ha).2 (m9 hp hb).2 g g).mp (ns0 _ _ h),λh=>by unfold Lg;rw[(qb0 (m9 hp ha).2 (m9 hp hb).2 g g).mpr h]⟩
section
theorem ya0(hp:Web ps)(m:Met ps r){a:Nat}(ha:a∈r)(hi:i∈tgs (pa ps a).vals):i∈r:=m.cl a ha i (by rw[y00 hp (m.lt a ha)];exact hi)
theorem lp0(hp:Web ps)(m:Met ps r):∀(n:Nat),∀a∈r,∀b∈r,gs ps r (n+1) a=gs ps r (n+1) b->gs ps r n a=gs ps r n b
 | 0,a,ha,b,hb,h=>by
  rw[wc0,yo0 _ ha hb] at h;rw[wc0,yo0 _ ha hb];exact((w00 hp (m.lt a ha) (m.lt b hb) id _).mp h).hd
 | n+1,a,ha,b,hb,h=>by
  rw[wc0,yo0 _ ha hb] at h;rw[wc0,yo0 _ ha hb];refine(w00 hp (m.lt a ha) (m.lt b hb) id _).mpr (((w00 hp (m.lt a ha) (m.lt b hb) id _).mp h).mono λi j hi hj e=>lp0 hp m n i (ya0 hp m ha hi) j (ya0 hp m hb hj) e)
def cn(ps:List Pt)(r:List Nat)(n:Nat):Nat:=(fk (gs ps r n) [] r).length
theorem cw0(hp:Web ps)(m:Met ps r)(n:Nat)(h:¬∀a∈r,gs ps r (n+1) a=gs ps r n a):cn ps r n<cn ps r (n+1):=by
 refine Nat.lt_of_not_le λhl=>h λk hk=>?_
 have:=vo0 (lp0 hp m n) hl;rw[wc0 ps r (n+1),wc0 ps r n];refine lz0 (λa ha b hb=>?_) hk;have h1:=yo0 (LL ps r (n+1)) ha hb;have h2:=yo0 (LL ps r n) ha hb;rw[← wc0] at h1 h2;rw[← h1,← h2];exact(this a ha b hb).symm
theorem g80(n:Nat):cn ps r n<=r.length:=sub_len (yz0 (M5 _ r)) λx hx=>X7 _ hx
theorem rounds(hp:Web ps)(m:Met ps r):∃N,N<=60/\(∀a∈r,gs ps r (N+1) a=gs ps r N a)/\∀n,n<N->¬∀a∈r,gs ps r (n+1) a=gs ps r n a:=by
 have key:∀d n,r.length - cn ps r n<=d->n<=cn ps r n->(∀i,i<n->¬∀a∈r,gs ps r (i+1) a=gs ps r i a)->∃N,N<=r.length/\(∀a∈r,gs ps r (N+1) a=gs ps r N a)/\∀n,n<N->¬∀a∈r,gs ps r (n+1) a=gs ps r n a:=λd=>by
  induction d with
  | zero =>
   intro n h1 h2 h3;have:=g80 (ps:=ps) (r:=r) n;refine⟨n,by omega,As0 λh=>?_,h3⟩;have:=cw0 hp m n h;have:=g80 (ps:=ps) (r:=r) (n+1);omega
  | succ d ih =>
   intro n h1 h2 h3;have:=g80 (ps:=ps) (r:=r) n
   by_cases h:∀a∈r,gs ps r (n+1) a=gs ps r n a
   ·exact⟨n,by omega,h,h3⟩
   ·have:=cw0 hp m n h
    refine ih (n+1) (by omega) (by omega) λi hi=>?_
    by_cases e:i=n
    ·rw[e];exact h
    ·exact h3 i (by omega)
 obtain⟨N,h1,h2⟩:=key r.length 0 (by omega) (by omega) λi hi=>absurd hi (by omega)
 have:=(Ua.Met.len hp m).2;exact⟨N,by omega,h2⟩
structure St(ps:List Pt)(r:List Nat)(g:Nat->Nat):Prop where
 st:∀a∈r,gp (Lg ps g) r a=g a
 co:∀a∈r,∀b∈r,A ps ps a b->g a=g b
theorem bi0(hp:Web ps)(m:Met ps r):∀(n:Nat),∀a∈r,∀b∈r,A ps ps a b->gs ps r n a=gs ps r n b
 | 0,a,ha,b,hb,h=>by rw[wc0,yo0 _ ha hb];exact(h.lk hp hp).hd
 | n+1,a,ha,b,hb,h=>by
  rw[wc0,yo0 _ ha hb];exact(w00 hp (m.lt a ha) (m.lt b hb) id _).mpr ((h.lk hp hp).mono λi j hi hj e=>bi0 hp m n i (ya0 hp m ha hi) j (ya0 hp m hb hj) e)
theorem Ue0(hp:Web ps)(m:Met ps r){N:Nat}(h:∀a∈r,gs ps r (N+1) a=gs ps r N a):St ps r (gs ps r N):=⟨h,bi0 hp m N⟩
variable{g:Nat->Nat}
theorem St.eq(s:St ps r g){a b:Nat}(ha:a∈r)(hb:b∈r):g a=g b↔Lg ps g a=Lg ps g b:=by
 rw[← s.st a ha,← s.st b hb];exact yo0 _ ha hb
theorem St.alike(hp:Web ps)(m:Met ps r)(s:St ps r g){a b:Nat}(ha:a∈r)(hb:b∈r):g a=g b↔A ps ps a b:=by
 refine⟨λh=>A.of hp hp (λa b=>a∈r/\b∈r/\g a=g b) (λa b ⟨ha,hb,e⟩=>⟨m.lt a ha,m.lt b hb,?_⟩) ⟨ha,hb,h⟩,s.co a ha b hb⟩;exact((w00 hp (m.lt a ha) (m.lt b hb) id _).mp ((s.eq ha hb).mp e)).mono λi j hi hj e=>⟨ya0 hp m ha hi,ya0 hp m hb hj,e⟩
def fs(r:List Nat)(g:Nat->Nat):List Nat:=fk g [] r
theorem St.fse(s:St ps r g):fs r g=fk (Lg ps g) [] r:=vf0 λa ha b hb=>s.eq ha hb
theorem St.g_lt(s:St ps r g){a:Nat}(ha:a∈r):∃h:g a<(fs r g).length,g (fs r g)[g a]=g a:=by
 have:g a=ix (Lg ps g) a (fs r g):=by rw[s.fse];exact(s.st a ha).symm
 obtain⟨h1,h2⟩:=nz0 (L:=Lg ps g) (k:=a) (F:=fs r g) (by rw[s.fse];exact G4 _ r [] a ha);have hm:(fs r g)[ix (Lg ps g) a (fs r g)]∈r:=X7 g (B7 h1);refine⟨by rw[this];exact h1,?_⟩;have e:=(s.eq hm ha).mpr h2;simp only[← this] at e;exact e
theorem St.g_at(s:St ps r g)(hi:i<(fs r g).length):g (fs r g)[i]=i:=by
 have hm:(fs r g)[i]∈r:=X7 g (B7 hi);have:=s.st _ hm;unfold gp at this;rw[← s.fse,bh0 (by rw[s.fse];exact M5 _ r) hi] at this;exact this.symm
def ls(ps:List Pt)(r:List Nat)(g:Nat->Nat):List Pt:=(fs r g).map λk=>rel g (pa ps k)
theorem s00:(ls ps r g).length=(fs r g).length:=At0 _
theorem gt0(hp:Web ps)(m:Met ps r):0<(fs r g).length/\(fs r g).length<=r.length:=by
 refine⟨?_,sub_len (yz0 (M5 g r)) λx hx=>X7 g hx⟩;obtain⟨b,hb,_⟩:=G4 g r [] 0 m.zero;exact Ap0 hb
theorem vz0(hp:Web ps)(m:Met ps r)(s:St ps r g):Web (ls ps r g):=by
 have l1:=gt0 (g:=g) hp m;have l2:=(Ua.Met.len hp m).2;refine⟨by rw[s00];omega,λp M=>?_⟩;rw[s00];obtain⟨i,hi,rfl⟩:=A7.mp M;have J:=X7 g hi;exact p00 (m9 hp (m.lt i J)).2 _ λj hj=>(s.g_lt (ya0 hp m J hj)).1
theorem bk0(hp:Web ps)(m:Met ps r)(s:St ps r g){a:Nat}(ha:a∈r):g a<(ls ps r g).length/\pa (ls ps r g) (g a)=rel g (pa ps a):=by
 obtain⟨h1,h2⟩:=s.g_lt ha;have hm:(fs r g)[g a]∈r:=X7 g (B7 h1);refine⟨by rw[s00];exact h1,?_⟩;have e:pa (ls ps r g) (g a)=rel g (pa ps (fs r g)[g a]):=by
  unfold ls;rw[show pa ((fs r g).map λk=>rel g (pa ps k)) (g a)=((fs r g).map λk=>rel g (pa ps k)).getD (g a) (.row []) from rfl];simp[h1]
 rw[e];exact ns0 _ _ ((s.eq hm ha).mp h2)
theorem oc0(m:Met ps r)(s:St ps r g):g 0=0:=by
 obtain⟨t,e⟩:=m.hd;have hn:¬∃b,b∈([]:List Nat)/\g b=g 0:=λ⟨b,hb,_⟩=>by cases hb
 obtain⟨u,eu⟩:=ql0 g t [0];have:fs r g=0::u:=by
  unfold fs;rw[e,O7 hn];exact eu
 have k:=s.g_at (i:=0) (by rw[this];exact Dl0 _);simp only[this,List.getElem_cons_zero] at k;exact k
theorem vc0(hp:Web ps)(m:Met ps r)(s:St ps r g){a:Nat}(ha:a∈r):A ps (ls ps r g) a (g a) :=
 A.map hp (vz0 hp m s) (·∈r) g (λa ha=>⟨m.lt a ha,(bk0 hp m s ha).1,(bk0 hp m s ha).2,λj hj=>ya0 hp m ha hj⟩) ha
theorem s80(hp:Web ps)(m:Met ps r)(s:St ps r g)(h:A (ls ps r g) (ls ps r g) i j):i=j:=by
 have wl:=vz0 hp m s;have h1:i<(fs r g).length:=by rw[← s00 (ps:=ps)];exact h.1
 have h2:j<(fs r g).length:=by rw[← s00 (ps:=ps)];exact h.2.1
 have a1:=vc0 hp m s (X7 g (B7 h1));have a2:=vc0 hp m s (X7 g (B7 h2));have e1:=s.g_at h1;have e2:=s.g_at h2;rw[e1] at a1;rw[e2] at a2;have:=(s.alike hp m (X7 g (B7 h1)) (X7 g (B7 h2))).mpr ((a1.trans hp wl wl h).trans hp wl hp (a2.symm hp wl));rw[e1,e2] at this;exact this
end
theorem Zp0(m:Met ps r)(P:Nat->Prop)(h0:P 0)(h:∀i∈r,P i->∀j∈J8 (wd ps) i,P j):∀i∈r,P i:=by
 obtain⟨c,d,_⟩:=m.ex;have key:∀{c:Nat} {o T s:List Nat},Dfs (J8 (wd ps)) [] c o T s->(∀x∈s,x∈r)->(∀x∈o,P x)->(∀x∈T,P x)->∀x∈s,P x:=λ{c o T s} d=>by
  induction d with
  | nil o=>intro _ h1 _;exact h1
  | skip _ _ ih=>intro hs h1 h2;exact ih hs h1 λx hx=>h2 x (A3 _ hx)
  | @visit c o T s x hx _ _ hd ih =>
   intro hs h1 h2;obtain⟨u,e⟩:=Ua.jf0 hd;have px:=h2 x A5;refine ih hs (λy hy=>?_) λy hy=>?_
   ·rcases B1.mp hy with hy|hy
    ·exact h1 y hy
    ·rw[List.mem_singleton.mp hy];exact px
   ·rcases B1.mp hy with hy|hy
    ·exact h x (hs x (by rw[e];simp)) px y hy
    ·exact h2 y (A3 _ hy)
 exact key d (λx hx=>hx) (λx hx=>by cases hx) λx hx=>by rw[List.mem_singleton.mp hx];exact h0
theorem ur0(hp:Web ps)(hq:Web qs)(up:∀i j,A ps ps i j->i=j)(uq:∀i j,A qs qs i j->i=j)(h:A ps qs 0 0){s:List Nat}(mp:Met ps r)(mq:Met qs s)(hs:∀s',Met qs s'->dr qs s'=dr qs s):dr ps r=dr qs s:=by
 have ex:∀i∈r,∃j,A ps qs i j:=Zp0 mp _ ⟨0,h⟩ λi hi ⟨j,a⟩ k hk=>by
  rw[y00 hp (mp.lt i hi)] at hk;have l:=(a.lk hp hq).vs;have key:∀{vs ws:List D},F2 (Mv (A ps qs)) vs ws->∀k∈tgs vs,∃j,A ps qs k j:=λ{vs ws} f=>by
   induction f with
   | nil=>intro k hk;cases hk
   | @cons a b l m h1 _ ih =>
    intro k hk;rcases h1 with⟨i,j,rfl,rfl,q⟩|⟨rfl,t⟩
    ·rw[show Ea.lnk i=.tup [.str "at",.int (i:Int)] from rfl,tv0] at hk
     rcases A4.mp hk with rfl|hk
     ·exact⟨j,q⟩
     ·exact ih k hk
    ·refine ih k ?_
     cases a with
     | tup l=>cases t
     | _=>exact hk
  exact key l k hk
 obtain⟨f,hf⟩:=Au0 (r:=λi j=>i∈r->A ps qs i j) λi=>by
  by_cases hi:i∈r
  ·obtain⟨j,a⟩:=ex i hi;exact⟨j,λ_=>a⟩
  ·exact⟨0,λz=>absurd z hi⟩
 have one:∀{i j:Nat},i∈r->A ps qs i j->j=f i:=λ{i j} hi a=>uq j (f i) ((a.symm hp hq).trans hq hp hq (hf i hi))
 have I:Iso ps qs r f:=by
  refine⟨λi hi=>⟨(hf i hi).2.1,?_⟩,λa ha b hb e=>?_,(one mp.zero h).symm⟩
  ·have pw:=m9 hq (hf i hi).2.1
   have:=(qb0 (m9 hp (mp.lt i hi)).2 pw.2 f λj=>j).mpr (((hf i hi).lk hp hq).mono λk j hk _ a=>(one (mp.cl i hi k (by rw[y00 hp (mp.lt i hi)];exact hk)) a).symm);rw[f90 pw.2] at this;exact this.symm
  ·have h1:=hf a ha
   rw[e] at h1;exact up a b (h1.trans hp hq hp ((hf b hb).symm hp hq))
 obtain⟨i1,i2⟩:=u50 hp hq mp I;rw[← i2];exact hs _ i1
theorem rv0(hp:Web ps)(m:Met ps r):A ps (dr ps r) 0 0:=by
 have I:=vv0 hp m;have:=A.map hp (yy0 hp m).1 (·∈r) (λj=>r.idxOf j) (λa ha=>⟨m.lt a ha,(I.img a ha).1,(I.img a ha).2,λj hj=>ya0 hp m ha hj⟩) m.zero;have z:r.idxOf 0=0:=I.zero;rw[z] at this;exact this
end Ka
namespace Ka
open Kk
open DL W K22
open Ta (pa m9)
open Ua (Met dr)
mutual
theorem sm0:∀(d d':D) (t:TrK.T),toT d=some t->toT d'=some t->d=d'
 | .non,d',t,e,e'=>by
  unfold toT at e;cases e;cases d'<;>unfold toT at e'<;>first|rfl|cases e'|skip
  obtain⟨_,_,z⟩:=C6.mp e';cases z
 | .int i,d',t,e,e'=>by
  unfold toT at e;cases e;cases d'<;>unfold toT at e'<;>first|(cases e';rfl)|cases e'|skip
  obtain⟨_,_,z⟩:=C6.mp e';cases z
 | .str x,d',t,e,e'=>by
  unfold toT at e;cases e;cases d'<;>unfold toT at e'<;>first|(cases e';rfl)|cases e'|skip
  obtain⟨_,_,z⟩:=C6.mp e';cases z
 | .tup ds,d',t,e,e'=>by
  unfold toT at e;obtain⟨l,e1,e2⟩:=C6.mp e;subst e2;cases d' with
  | tup es =>
   unfold toT at e';obtain⟨l',e3,e4⟩:=C6.mp e';cases e4;rw[m90 ds es l e1 e3]
  | _=>unfold toT at e';cases e'
 | .bl _,d',t,e,_=>by unfold toT at e;cases e
 | .lst _,d',t,e,_=>by unfold toT at e;cases e
 | .dct _ _,d',t,e,_=>by unfold toT at e;cases e
 | .fn _ _,d',t,e,_=>by unfold toT at e;cases e
theorem m90:∀(ds es:List D) (l:List TrK.T),U9 ds=some l->U9 es=some l->ds=es
 | [],es,l,e,e'=>by
  unfold U9 at e;cases e;cases es with
  | nil=>rfl
  | cons d es =>
   unfold U9 at e';cases e1:toT d with
   | none=>rw[e1] at e';cases e'
   | some t =>
    rw[e1,Option.bind_some] at e';obtain⟨_,_,z⟩:=C6.mp e';cases z
 | d::ds,es,l,e,e'=>by
  unfold U9 at e;cases e1:toT d with
  | none=>rw[e1] at e;cases e
  | some t =>
   rw[e1,Option.bind_some] at e;obtain⟨m,e2,e3⟩:=C6.mp e;subst e3;cases es with
   | nil=>unfold U9 at e';cases e'
   | cons d' es =>
    unfold U9 at e';cases e4:toT d' with
    | none=>rw[e4] at e';cases e'
    | some t' =>
     rw[e4,Option.bind_some] at e';obtain⟨m',e5,e6⟩:=C6.mp e';cases e6;rw[sm0 d d' t e1 e4,m90 ds es m e2 e5]
end
def Tr(k:Nat)(d:D):Prop:=∃t,toT d=some t/\TrK.dep t<=k
theorem Tr.mono{k l:Nat}(h:k<=l){d:D}(x:Tr k d):Tr l d:=let ⟨t,e,q⟩:=x;⟨t,e,C0 q h⟩
theorem O6(s:Str):Tr 0 (.str s):=⟨.str s,by unfold toT;rfl,by unfold TrK.dep;exact A2 _⟩
theorem s30(i:Int):Tr 0 (.int i):=⟨.int i,by unfold toT;rfl,by unfold TrK.dep;exact A2 _⟩
theorem K4{k:Nat}(h:∀d∈ds,Tr k d):Tr (k+1) (.tup ds):=by
 have key:∀ds:List D,(∀d∈ds,Tr k d)->∃l,U9 ds=some l/\TrK.uy0 l<=k:=λds=>by
  induction ds with
  | nil=>intro _;exact⟨[],by unfold U9;rfl,by unfold TrK.uy0;exact C4 _⟩
  | cons d ds ih =>
   intro h;obtain⟨t,e1,q1⟩:=h d A5;obtain⟨l,e2,q2⟩:=ih λx hx=>h x (A3 _ hx)
   refine⟨t::l,by unfold U9;rw[e1,Option.bind_some,e2];rfl,?_⟩;unfold TrK.uy0;omega
 obtain⟨l,e,q⟩:=key ds h;refine⟨.tup l,by unfold toT;rw[e];rfl,?_⟩;unfold TrK.dep;omega
theorem m60{v:D}(h:Lv n v):Tr 1 v:=by
 rcases h with rfl|⟨z,rfl⟩|⟨j,rfl,_⟩
 ·exact⟨.non,by unfold toT;rfl,by unfold TrK.dep;omega⟩
 ·exact(s30 z).mono (by omega)
 ·refine K4 (k:=0) λd hd=>?_
  rcases A4.mp hd with rfl|hd
  ·exact O6 _
  ·rw[List.mem_singleton.mp hd];exact s30 _
theorem sd0{ps:List (Str×D)}(h:∀p∈ps,Lv n p.2):Tr 3 (.tup (ps.map pr)):=K4 (k:=2) λd hd=>by
 obtain⟨p,hp,rfl⟩:=A7.mp hd;refine K4 (k:=1) λe he=>?_
 rcases A4.mp he with rfl|he
 ·exact(O6 _).mono (by omega)
 ·rw[List.mem_singleton.mp he];exact m60 (h p hp)
theorem Vg0{p:Pt}(h:Pw n p):Tr 8 p.d:=by
 have two:∀(s:Str) (d:D),Tr 3 d->Tr 8 (.tup [.str s,d]):=λs d x=>(K4 (k:=3) λe he=>by
  rcases A4.mp he with rfl|he
  ·exact(O6 _).mono (by omega)
  ·rw[List.mem_singleton.mp he];exact x).mono (by omega)
 cases p with
 | text w=>exact two _ _ ((O6 w).mono (by omega))
 | row vs=>exact two _ _ ((K4 (k:=1) λv hv=>m60 (h.lv v hv)).mono (by omega))
 | table ps=>exact two _ _ (sd0 (n:=n) λp hp=>h.lv p.2 (L6 hp))
 | rcd c ps =>
  refine(K4 (k:=3) λe he=>?_).mono (by omega);rcases A4.mp he with rfl|he
  ·exact(O6 _).mono (by omega)
  ·rcases A4.mp he with rfl|he
   ·exact(O6 _).mono (by omega)
   ·rw[List.mem_singleton.mp he];exact sd0 (n:=n) λp hp=>h.lv p.2 (L6 hp)
theorem U00(p:Pt):Tr 8 (Pn.hd p):=by
 have nm:∀l:List Str,Tr 3 (.tup (l.map D.str)):=λl=>(K4 (k:=0) λd hd=>by obtain⟨s,_,rfl⟩:=A7.mp hd;exact O6 s).mono (by omega)
 have two:∀(s:Str) (d:D),Tr 3 d->Tr 8 (.tup [.str s,d]):=λs d x=>(K4 (k:=3) λe he=>by
  rcases A4.mp he with rfl|he
  ·exact(O6 _).mono (by omega)
  ·rw[List.mem_singleton.mp he];exact x).mono (by omega)
 cases p with
 | text w=>exact two _ _ ((O6 w).mono (by omega))
 | row vs=>exact two _ _ ((s30 _).mono (by omega))
 | table ps=>exact two _ _ (nm _)
 | rcd c ps =>
  refine(K4 (k:=3) λe he=>?_).mono (by omega);rcases A4.mp he with rfl|he
  ·exact(O6 _).mono (by omega)
  ·rcases A4.mp he with rfl|he
   ·exact(O6 _).mono (by omega)
   ·rw[List.mem_singleton.mp he];exact nm _
theorem Wz0(p:Pt):∃ds,Pn.hd p=.tup ds:=by cases p<;>exact⟨_,rfl⟩
theorem fz0(p:Pt):∃ds,p.d=.tup ds:=by cases p<;>exact⟨_,rfl⟩
theorem uu0{t:Nat->TrK.T}:∀{F:List Nat},(∀k∈F,toT (L k)=some (t k))->U9 (F.map L)=some (F.map t)
 | [],_=>by rw[List.map_nil,List.map_nil];unfold U9;rfl
 | k::F,h=>by
  rw[List.map_cons,List.map_cons];unfold U9;rw[h k A5,Option.bind_some,uu0 λa ha=>h a (A3 _ ha)];rfl
theorem wi0{t:Nat->TrK.T}{k:Nat}:∀(F:List Nat) (s:Nat),((∃b,b∈F/\t b=t k)->zp0 (F.map t) (nd (List.range' s F.length)) (t k)=some (.int ((s+ix t k F:Nat):Int)))/\((¬∃b,b∈F/\t b=t k)->zp0 (F.map t) (nd (List.range' s F.length)) (t k)=none)
 | [],s=>⟨(λ⟨_,h,_⟩=>by cases h),λ_=>by rw[List.map_nil];unfold zp0;rfl⟩
 | x::F,s=>by
  have ih:=wi0 (t:=t) (k:=k) F (s+1);have e:nd (List.range' s (x::F).length)=.int (s:Int)::nd (List.range' (s+1) F.length):=by
   rw[List.length_cons,List.range'_succ];rfl
  rw[e,List.map_cons];constructor
  ·rintro⟨b,hb,eb⟩
   unfold zp0
   by_cases c:t x=t k
   ·rw[if_pos c,ze0 c];rfl
   ·rw[if_neg c,z70 c,ih.1 ⟨b,(A4.mp hb).resolve_left λz=>c (z▸eb),eb⟩]
    congr 3;omega
  ·intro h
   unfold zp0;rw[if_neg λc=>h ⟨x,A5,c⟩];exact ih.2 λ⟨b,hb,eb⟩=>h ⟨b,A3 _ hb,eb⟩
def gS(r:List Nat)(L:Nat->D)(F:List Nat)(ks:List Nat)(s4 s5:Sl):Ds:=[.sh (.lst (nd r)),.sh (.lst (r.map L)),.ow (.tup [.lst (F.map L),.lst (nd (List.range' 0 F.length))]),.ow (.dct (.inl (kd ks)) (nd (ks.map λk=>ix L k F))),s4,s5]
def GB:GS:=(v4 (W7 (xj0 2 (gv 5) (z30 2)) (putAt 3 (gv 4)))
 u9)
theorem i20{r:List Nat}{ks:List Nat}{k:Nat}(hL:∀a,a∈F∨a=k->Tr 8 (L a)/\∃ds,L a=.tup ds)(hk:k∉ks)(hF:∀a∈ks,∃b,b∈F/\L b=L a)(l1:F.length<=100)(l2:ks.length<=100) :
  GB (gS r L F ks (.sh (.int (k:Int))) (.sh (L k)))=some (.nx (gS r L (fk L F [k]) (ks++[k]) (.sh (.int (k:Int))) (.sh (L k)))):=by
 have zs:(1000:Nat)<=sizeLine:=by decide
 obtain⟨t,ht⟩:=Au0 (r:=λa u=>(a∈F∨a=k)->toT (L a)=some u/\TrK.dep u<=8) λa=>by
  by_cases ha:a∈F∨a=k
  ·obtain⟨u,e,q⟩:=(hL a ha).1;exact⟨u,λ_=>⟨e,q⟩⟩
  ·exact⟨.non,λz=>absurd z ha⟩
 obtain⟨tk,td⟩:=ht k (.inr rfl);obtain⟨ds,ed⟩:=(hL k (.inr rfl)).2;have tl:∀b,b∈F->(t b=t k↔L b=L k):=λb hb=>⟨λe=>sm0 _ _ (t k) (by rw[← e];exact(ht b (.inl hb)).1) tk,λe=>by
  have:=(ht b (.inl hb)).1;rw[e,tk] at this;exact(A8 this).symm⟩
 have hc:(∃b,b∈F/\L b=L k)↔∃b,b∈F/\t b=t k:=Aq0 λb=>Ar0 λhb=>(tl b hb).symm
 have M:=uu0 (L:=L) (t:=t) (F:=F) λa ha=>(ht a (.inl ha)).1
 have O:ix t k F=ix L k F:=wv0 tl;have sd:xj0 2 (gv 5) (z30 2) (gS r L F ks (.sh (.int (k:Int))) (.sh (L k)))=(match zp0 (F.map t) (nd (List.range' 0 F.length)) (t k) with
   | some x=>some (x,gS r L F ks (.sh (.int (k:Int))) (.sh (L k)))
   | none=>some (.int (F.length:Int),(gS r L F ks (.sh (.int (k:Int))) (.sh (L k))).set 2 (.ow (.tup [.lst (F.map L++[L k]),.lst (nd (List.range' 0 F.length)++[.int (F.length:Int)])])))):=by
  unfold xj0;rw[show (gS r L F ks (.sh (.int (k:Int))) (.sh (L k)))[2]?=some (.ow (.tup [.lst (F.map L),.lst (nd (List.range' 0 F.length))])) from rfl];dsimp only;rw[show gv 5 (gS r L F ks (.sh (.int (k:Int))) (.sh (L k)))=some (L k) from rfl,Option.bind_some,show z30 2 (gS r L F ks (.sh (.int (k:Int))) (.sh (L k)))=some (.int ((F.map L).length:Int)) from rfl,Option.bind_some,List.length_map];rw[ed] at tk ⊢;dsimp only;rw[tk,Option.bind_some,M,Option.bind_some,if_pos ⟨td,by omega⟩]
  all_goals (cases zp0 (F.map t) (nd (List.range' 0 F.length)) (t k)<;>rfl)
 have J:V8 (kd ks) (.inl (k:Int))=false:=by rw[wt0,decide_eq_false hk]
 have put:∀(F':List Nat) (v:Nat),(∀a∈ks,ix L a F'=ix L a F)->ix L k F'=v->putAt 3 (gv 4) (.int (v:Int)) [.sh (.lst (nd r)),.sh (.lst (r.map L)),.ow (.tup [.lst (F'.map L),.lst (nd (List.range' 0 F'.length))]),.ow (.dct (.inl (kd ks)) (nd (ks.map λk=>ix L k F))),.sh (.int (k:Int)),.sh (L k)]=some (gS r L F' (ks++[k]) (.sh (.int (k:Int))) (.sh (L k))):=λF' v h1 h2=>by
  show (if (kd ks).length<sizeLine then some ([.sh (.lst (nd r)),.sh (.lst (r.map L)),.ow (.tup [.lst (F'.map L),.lst (nd (List.range' 0 F'.length))]),.ow (.dct (.inl (W8 (kd ks) (.inl (k:Int)))) (W9 (kd ks) (nd (ks.map λk=>ix L k F)) (.inl (k:Int)) (.int (v:Int)))),.sh (.int (k:Int)),.sh (L k)]:Ds) else none)=_;rw[if_pos (by unfold kd;rw[List.length_map];omega)];unfold W8 W9 gS;rw[J,if_neg (by simp),if_neg (by simp),vw0,List.map_append,G6,← h2];rw[show ks.map (λk=>ix L k F')=ks.map (λk=>ix L k F) from L5 h1];rfl
 refine v5 ?_ rfl;unfold W7;rw[sd]
 by_cases c:∃b,b∈F/\L b=L k
 ·rw[(wi0 F 0).1 (hc.mp c)]
  rw[K5 c,Nat.zero_add,O];show Option.map Res.nx (putAt 3 (gv 4) (.int ((ix L k F:Nat):Int)) (gS r L F ks (.sh (.int (k:Int))) (.sh (L k))))=_;unfold gS;rw[put F (ix L k F) (λ_ _=>rfl) rfl];rfl
 ·rw[(wi0 F 0).2 λz=>c (hc.mpr z)]
  rw[O7 c];have e2:nd (List.range' 0 F.length)++[.int (F.length:Int)]=nd (List.range' 0 (F++[k]).length):=by
   rw[List.length_append,List.length_singleton,List.range'_concat,G6,Nat.one_mul,Nat.zero_add];rfl
  have e1:F.map L++[L k]=(F++[k]).map L:=by rw[List.map_append];rfl
  show Option.map Res.nx (putAt 3 (gv 4) (.int (F.length:Int)) [.sh (.lst (nd r)),.sh (.lst (r.map L)),.ow (.tup [.lst (F.map L++[L k]),.lst (nd (List.range' 0 F.length)++[.int (F.length:Int)])]),.ow (.dct (.inl (kd ks)) (nd (ks.map λk=>ix L k F))),.sh (.int (k:Int)),.sh (L k)])=_;rw[e1,e2,put (F++[k]) F.length (λa ha=>q30 [k] (hF a ha)) ?_]
  ·rfl
  ·have key:∀G:List Nat,(¬∃b,b∈G/\L b=L k)->ix L k (G++[k])=G.length:=λG=>by
    induction G with
    | nil=>intro _;exact ze0 rfl
    | cons x G ih =>
     intro h;rw[List.cons_append,z70 λz=>h ⟨x,A5,z⟩,ih λ⟨b,hb,e⟩=>h ⟨b,A3 _ hb,e⟩,List.length_cons]
   exact key F c
def gD(r:List Nat)(g:Nat->Nat):D:=.dct (.inl (kd r)) (nd (r.map g))
theorem p40(hr:r.Nodup)(hl:r.length<=60)(hL:∀k∈r,Tr 8 (L k)/\∃ds,L k=.tup ds):z00 [.lst (nd r),.lst (r.map L)]=some (gD r (gp L r)):=by
 have zs:(1000:Nat)<=sizeLine:=by decide
 have items:iu0 (z8 (gv 0) (z8 (gv 1) v6)) (gS r L [] [] .un .un)=some (r.map λ(k:Nat)=>D.tup [.int (k:Int),L k]):=by
  show m70 [.lst (nd r),.lst (r.map L)]=_;unfold m70 nd;simp only[];congr 1
  induction r with
  | nil=>rfl
  | cons a r ih =>
   rw[List.map_cons,List.map_cons,List.map_cons,List.zip_cons_cons,List.map_cons];rw[ih (E3.mp hr).2 (by rw[List.length_cons] at hl;omega) λk hk=>hL k (A3 _ hk)]
 obtain⟨δ',l1,s4,s5,rfl⟩:=T9 (f:=vl0 4 5) (G:=GB) (λi δ=>∃s4 s5:Sl,δ=gS r L (fk L [] (r.take i)) (r.take i) s4 s5) (r.map λ(k:Nat)=>D.tup [.int (k:Int),L k]) 0 (gS r L [] [] .un .un) (by
  rintro j d δ hj ⟨s4,s5,rfl⟩;rw[Nat.zero_add];have J:j<r.length:=by
   have:=(D0.mp hj).1
   rwa [At0] at this
  rw[List.getElem?_map,List.getElem?_eq_getElem J] at hj;cases hj;have tk:r.take (j+1)=r.take j++[r[j]]:=by rw[List.take_succ,List.getElem?_eq_getElem J];rfl
  have M:r[j]∉r.take j:=λz=>by
   have q:(r.take j++r.drop j).Nodup:=by rw[List.take_append_drop];exact hr
   exact(m4.mp q).2.2 _ z _ (by rw[List.drop_eq_getElem_cons J];exact A5) rfl
  have sub:∀a∈fk L [] (r.take j),a∈r:=λa ha=>Y3 (X7 L ha)
  have lf:(fk L [] (r.take j)).length<=r.length:=sub_len (yz0 (M5 L _)) sub;refine⟨gS r L (fk L [] (r.take j)) (r.take j) (.sh (.int (r[j]:Int))) (.sh (L r[j])),_,rfl,i20 (r:=r) (L:=L) (k:=r[j]) (λa ha=>?_) M (λa ha=>G4 L (r.take j) [] a ha) (by omega) (by rw[List.length_take];omega),.sh (.int (r[j]:Int)),.sh (L r[j]),?_⟩
  ·rcases ha with ha|rfl
   ·exact hL a (sub a ha)
   ·exact hL _ (B7 J)
  ·rw[tk,ub0]) ⟨.un,.un,rfl⟩
 rw[Nat.zero_add,List.length_map,List.take_length] at l1;exact O2 rfl (v5 (δ':=[.sh (.lst (nd r)),.sh (.lst (r.map L)),.ow (.tup [.lst [],.lst []]),.un,.un,.un]) rfl (v5 (δ':=gS r L [] [] .un .un) rfl (v5 (R0 items l1) (Q9 rfl))))
end Ka
namespace Ka
open Kk
open DL W K22
open Ta (pa m9)
open Ua (Met dr)
theorem pm0{p:Pt}(h:Pw n p):u10 [p.d]=some (Pn.hd p):=Pn.pm0 p h.f
theorem K9{p:Pt}(h:Pw n p)(f:Nat->Nat)(D':D)(hd:∀j∈tgs p.vals,O1 D' (.int (j:Int))=some (.int (f j:Int))):W2 [p.d,D']=some (rel f p).d:=K22.K9 h f D' hd
theorem q20(h:Web ps)(m:Met ps r):xt0 [wd ps,.int 0]=some (.lst (nd r)):=Ua.q20 h m
theorem rn0(h:Web ps)(m:Met ps r):xk0 [wd ps,.int 0]=some (wd (dr ps r)):=Ua.rn0 h m
theorem get_map(g:Nat->Nat):∀{r:List Nat} {j:Nat},j∈r->z60 (kd r) (nd (r.map g)) (.inl (j:Int))=some (.int (g j:Int))
 | [],j,h=>by cases h
 | a::r,j,h=>by
  show (if (Sum.inl (a:Int):O8)=.inl (j:Int) then some (D.int (g a:Int)) else z60 (kd r) (nd (r.map g)) (.inl (j:Int)))=_
  by_cases e:a=j
  ·rw[e,if_pos rfl]
  ·rw[if_neg λz=>e (by injection z with z;omega)]
   exact get_map g ((A4.mp h).resolve_left (B6 e))
theorem ua0(g:Nat->Nat)(h:j∈r):O1 (gD r g) (.int (j:Int))=some (.int (g j:Int)):=get_map g h
theorem pd0:∀l:List Nat,xd0 (nd l)=some (l.map λ(i:Nat)=>(i:Int))
 | []=>rfl
 | a::l=>by
  show (xd0 (nd l)).map _=_;rw[pd0 l];rfl
theorem map_eq_iff(f g:Nat->Nat):∀r:List Nat,(r.map f=r.map g↔∀a∈r,f a=g a):=λr=>List.map_inj_left
theorem eb0(f g:Nat->Nat)(r:List Nat):((∀a∈r,f a=g a)->neK (gD r f) (gD r g)=some (.bl false))/\((¬∀a∈r,f a=g a)->neK (gD r f) (gD r g)=some (.bl true)):=by
 have e:neK (gD r f) (gD r g)=some (.bl (decide (List.map (λ(i:Nat)=>(i:Int)) (r.map f)≠List.map (λ(i:Nat)=>(i:Int)) (r.map g)))):=by
  show (if kd r=kd r then (xd0 (nd (r.map f))).bind λm=>(xd0 (nd (r.map g))).bind λn=>some (D.bl (decide (m≠n))) else none)=_;rw[if_pos rfl,pd0,pd0,Option.bind_some,Option.bind_some]
 have:(List.map (λ(i:Nat)=>(i:Int)) (r.map f)≠List.map (λ(i:Nat)=>(i:Int)) (r.map g))↔¬∀a∈r,f a=g a:=by
  rw[← map_eq_iff f g r];exact not_congr ⟨map_inj λa b h=>n5.mp h,λh=>by rw[h]⟩
 rw[e];exact⟨λc=>by rw[decide_eq_false (λz=>this.mp z c)],λc=>by rw[decide_eq_true (this.mpr c)]⟩
section
theorem aj0(hp:Web ps)(m:Met ps r):R4 (gN 0) noT (oA (z8 (o2 (gv 1) (gv 0) ixD) v6) u10) [.un,.sh (wd ps)] (nd r)=some (r.map (L0 ps)):=by
 rw[R8 (λd=>match d with|.int i=>L0 ps i.toNat|_=>.non) (λd hd=>by
  obtain⟨i,hi,rfl⟩:=A7.mp hd;refine⟨[.sh (.int (i:Int)),.sh (wd ps)],rfl,rfl,?_⟩;rw[o8 (ds:=[(pa ps i).d]) (cons_of (by rw[o4 (x:=wd ps) (y:=.int (i:Int)) rfl rfl];exact(m9 hp (m.lt i hi)).1) rfl),pm0 (m9 hp (m.lt i hi)).2];rfl)]
 unfold nd;rw[List.map_map];rfl
theorem d10(hp:Web ps)(m:Met ps r)(g:Nat->Nat):R4 (gN 0) noT (oA (z8 (o2 (gv 1) (gv 0) ixD) (z8 (gv 2) v6)) W2) [.un,.sh (wd ps),.sh (gD r g)] (nd r)=some (r.map (Lg ps g)):=by
 rw[R8 (λd=>match d with|.int i=>Lg ps g i.toNat|_=>.non) (λd hd=>by
  obtain⟨i,hi,rfl⟩:=A7.mp hd;refine⟨[.sh (.int (i:Int)),.sh (wd ps),.sh (gD r g)],rfl,rfl,?_⟩;rw[o8 (ds:=[(pa ps i).d,gD r g]) (cons_of (by rw[o4 (x:=wd ps) (y:=.int (i:Int)) rfl rfl];exact(m9 hp (m.lt i hi)).1) rfl),K9 (m9 hp (m.lt i hi)).2 g _ λj hj=>ua0 g (ya0 hp m hi hj)];rfl)]
 unfold nd;rw[List.map_map];rfl
theorem Wn0(hp:Web ps)(m:Met ps r)(g:Nat->Nat):∀k∈r,Tr 8 (Lg ps g k)/\∃ds,Lg ps g k=.tup ds:=λk hk=>by
 refine⟨?_,fz0 _⟩;have pw:=(m9 hp (m.lt k hk)).2;have hx:∃n,∀j∈tgs (pa ps k).vals,g j<n:=by
  have:∀l:List Nat,∃n,∀j∈l,g j<n:=λl=>by
   induction l with
   | nil=>exact⟨0,λj hj=>by cases hj⟩
   | cons a l ih =>
    obtain⟨n,h⟩:=ih;refine⟨max n (g a+1),λj hj=>?_⟩;rcases A4.mp hj with rfl|hj
    ·omega
    ·have:=h j hj;omega
  exact this _
 obtain⟨n,h⟩:=hx;exact Vg0 (p00 (m:=n) pw g h)
theorem kb0(hp:Web ps)(m:Met ps r)(g:Nat->Nat)(s3:Sl):n6 (gN 3) (oA (z8 (gv 1) (z8 (Y8 1 [0,2] (K1 (gv 1)) (gN 0) noT (oA (z8 (o2 (gv 1) (gv 0) ixD) (z8 (gv 2) v6)) W2)) v6)) z00) [.sh (wd ps),.sh (.lst (nd r)),.sh (gD r g),s3]=some (.nx [.sh (wd ps),.sh (.lst (nd r)),.sh (gD r g),.sh (gD r (gp (Lg ps g) r))]):=by
 have zs:(1000:Nat)<=sizeLine:=by decide
 have J:=(Ua.Met.len hp m).2;refine j6 (d:=gD r (gp (Lg ps g) r)) ?_;rw[o8 (ds:=[.lst (nd r),.lst (r.map (Lg ps g))]) (cons_of rfl (cons_of (V6 (items:=nd r) rfl (by rw[S7];omega) (d10 hp m g)) rfl))];exact p40 m.nd J (Wn0 hp m g)
def LT:DL.GB:=(ob (o2 (gv 3) (gv 2) neK))
def LW:GS:=(v4 (n6 (gN 2) (gv 3))
 (v4 (n6 (gN 3) (oA (z8 (gv 1) (z8 (Y8 1 [0,2] (K1 (gv 1)) (gN 0) noT (oA (z8 (o2 (gv 1) (gv 0) ixD) (z8 (gv 2) v6)) W2)) v6)) z00))
 u9))
def lS(ps:List Pt)(r:List Nat)(n:Nat):Ds:=[.sh (wd ps),.sh (.lst (nd r)),.sh (gD r (gs ps r n)),.sh (gD r (gs ps r (n+1)))]
theorem b90(n:Nat):((∀a∈r,gs ps r (n+1) a=gs ps r n a)->LT (lS ps r n)=some false)/\((¬∀a∈r,gs ps r (n+1) a=gs ps r n a)->LT (lS ps r n)=some true):=by
 have e:o2 (gv 3) (gv 2) neK (lS ps r n)=neK (gD r (gs ps r (n+1))) (gD r (gs ps r n)):=o4 rfl rfl;have k:=eb0 (gs ps r (n+1)) (gs ps r n) r;exact⟨λh=>Bw.yh0 (e.trans (k.1 h)),λh=>Bw.yh0 (e.trans (k.2 h))⟩
theorem Vm0(hp:Web ps)(m:Met ps r)(n:Nat):LW (lS ps r n)=some (.nx (lS ps r (n+1))) :=
 v5 (δ':=[.sh (wd ps),.sh (.lst (nd r)),.sh (gD r (gs ps r (n+1))),.sh (gD r (gs ps r (n+1)))]) rfl (v5 (kb0 hp m (gs ps r (n+1)) _) rfl)
theorem er0(hp:Web ps)(m:Met ps r):∃g,St ps r g/\y90 [wd ps,.lst (nd r)]=some (gD r g):=by
 have zs:(1000:Nat)<=sizeLine:=by decide
 have J:=(Ua.Met.len hp m).2;obtain⟨N,hN,h1,h2⟩:=rounds hp m;refine⟨gs ps r N,Ue0 hp m h1,?_⟩;have loop:∀d n f,n+d=N->d<f->Z5 LT LW f (lS ps r n)=some (.nx (lS ps r N)):=λd=>by
  induction d with
  | zero =>
   intro n f hn hf;obtain⟨f,rfl⟩:∃e,f=e+1:=⟨f - 1,by omega⟩;have:n=N:=by omega
   subst this;unfold Z5;rw[(b90 n).1 h1]
  | succ d ih =>
   intro n f hn hf;obtain⟨f,rfl⟩:∃e,f=e+1:=⟨f - 1,by omega⟩;unfold Z5;rw[(b90 n).2 (h2 n (by omega))];dsimp only;rw[Vm0 hp m];exact ih (n+1) f (by omega) (by omega)
 refine d8 rfl (v5 (δ':=[.sh (wd ps),.sh (.lst (nd r)),.sh (gD r (gs ps r 0)),.un]) (j6 (d:=gD r (gs ps r 0)) ?_) (v5 (δ':=lS ps r 0) (kb0 hp m (gs ps r 0) .un) (v5 (loop N 0 100000 (by omega) (by omega)) (j4 rfl))));rw[o8 (ds:=[.lst (nd r),.lst (r.map (L0 ps))]) (cons_of rfl (cons_of (V6 (items:=nd r) rfl (by rw[S7];omega) (aj0 hp m)) rfl))];exact p40 m.nd J λk hk=>⟨U00 _,Wz0 _⟩
variable{g:Nat->Nat}
def fS(ps:List Pt)(r:List Nat)(g:Nat->Nat)(F:List Nat)(s4:Sl):Ds:=[.sh (wd ps),.sh (.lst (nd r)),.sh (gD r g),.ow (.dct (.inl (kd (F.map g))) (nd F)),s4]
def FB:GS:=(v4 (b8 (mk0 3 (o2 (gv 2) (gv 4) O1) (gv 4)))
 u9)
theorem W60(g:Nat->Nat){k:Nat}(h:∃b,b∈F/\g b=g k):∃b,z60 (kd (F.map g)) (nd F) (.inl (g k:Int))=some (.int ((b:Nat):Int)):=by
 induction F with
 | nil=>obtain⟨_,h,_⟩:=h;cases h
 | cons a F ih =>
  show ∃b:Nat,(if (Sum.inl (g a:Int):O8)=.inl (g k:Int) then some (D.int (a:Int)) else z60 (kd (F.map g)) (nd F) (.inl (g k:Int)))=_
  by_cases e:g a=g k
  ·rw[e,if_pos rfl];exact⟨a,rfl⟩
  ·rw[if_neg λz=>e (by injection z with z;omega)]
   obtain⟨b,hb,eb⟩:=h;exact ih ⟨b,(A4.mp hb).resolve_left λz=>e (z▸eb),eb⟩
theorem op0(g:Nat->Nat):∀{F:List Nat} (h:Un g F) {i:Nat} (hi:i<F.length),z60 (kd (F.map g)) (nd F) (.inl (g F[i]:Int))=some (.int (F[i]:Int))
 | [],_,i,hi=>by cases hi
 | a::F,h,0,hi=>by
  show (if (Sum.inl (g a:Int):O8)=.inl (g a:Int) then some (D.int (a:Int)) else _)=_;rw[if_pos rfl];rfl
 | a::F,h,i+1,hi=>by
  rw[Un,List.pairwise_cons] at h;have hi':i<F.length:=by rw[List.length_cons] at hi;omega
  have ne:=h.1 F[i] (B7 hi');rw[List.getElem_cons_succ];show (if (Sum.inl (g a:Int):O8)=.inl (g F[i]:Int) then some (D.int (a:Int)) else z60 (kd (F.map g)) (nd F) (.inl (g F[i]:Int)))=_;rw[if_neg λz=>ne (by injection z with z;omega)];exact op0 g h.2 hi'
theorem U80(F:List Nat)(hF:F.length<=100){k:Nat}(hk:k∈r):FB (fS ps r g F (.sh (.int (k:Int))))=some (.nx (fS ps r g (fk g F [k]) (.sh (.int (k:Int))))):=by
 have zs:(1000:Nat)<=sizeLine:=by decide
 have e1:o2 (gv 2) (gv 4) O1 (fS ps r g F (.sh (.int (k:Int))))=some (.int (g k:Int)):=by
  rw[o4 (x:=gD r g) (y:=.int (k:Int)) rfl rfl];exact ua0 g hk
 have hh:V8 (kd (F.map g)) (.inl (g k:Int))=decide (g k∈F.map g):=wt0 _ _;refine v5 (δ':=fS ps r g (fk g F [k]) (.sh (.int (k:Int)))) ?_ rfl;unfold b8 mk0;rw[show ut0 3 (fS ps r g F (.sh (.int (k:Int))))=some (kd (F.map g),nd F) from rfl,Option.bind_some,e1,Option.bind_some,show gv 4 (fS ps r g F (.sh (.int (k:Int))))=some (.int (k:Int)) from rfl,Option.bind_some];show Option.map (λr:D×Ds=>Res.nx r.2) (if (kd (F.map g)).length<sizeLine then (if V8 (kd (F.map g)) (.inl (g k:Int))=true then (z60 (kd (F.map g)) (nd F) (.inl (g k:Int))).map λx=>(x,fS ps r g F (.sh (.int (k:Int)))) else some (.int (k:Int),[.sh (wd ps),.sh (.lst (nd r)),.sh (gD r g),.ow (.dct (.inl (W8 (kd (F.map g)) (.inl (g k:Int)))) (W9 (kd (F.map g)) (nd F) (.inl (g k:Int)) (.int (k:Int)))),.sh (.int (k:Int))])) else none)=_;rw[if_pos (by unfold kd;rw[List.length_map,List.length_map];omega)];have hm:(g k∈F.map g)↔∃b,b∈F/\g b=g k:=A7
 by_cases c:∃b,b∈F/\g b=g k
 ·rw[hh,decide_eq_true (hm.mpr c),if_pos rfl,K5 c]
  obtain⟨b,hb⟩:=W60 g c;rw[hb];rfl
 ·have hf:V8 (kd (F.map g)) (.inl (g k:Int))=false:=by rw[hh,decide_eq_false λz=>c (hm.mp z)]
  rw[hf,if_neg (by simp),O7 c];unfold W8 W9;rw[hf,if_neg (by simp),if_neg (by simp)];show some (Res.nx [.sh (wd ps),.sh (.lst (nd r)),.sh (gD r g),.ow (.dct (.inl (kd (F.map g)++[.inl (g k:Int)])) (nd F++[.int (k:Int)])),.sh (.int (k:Int))])=some (Res.nx (fS ps r g (F++[k]) (.sh (.int (k:Int)))));unfold fS;rw[List.map_append,vw0,G6];rfl
theorem t10(hp:Web ps):∃r g,Met ps r/\St ps r g/\∃r',Met (ls ps r g) r'/\wn0 [wd ps]=some (wd (dr (ls ps r g) r')):=by
 have zs:(1000:Nat)<=sizeLine:=by decide
 obtain⟨r,m⟩:=Ua.qv0 hp;obtain⟨g,s,hg⟩:=er0 hp m;have wl:=vz0 hp m s;obtain⟨r',m'⟩:=Ua.qv0 wl;have Z:=(Ua.Met.len hp m).2;have fl:=gt0 (g:=g) hp m;refine⟨r,g,m,s,r',m',?_⟩;obtain⟨δ',l1,s4,rfl⟩:=T9 (f:=gN 4) (G:=FB) (λi δ=>∃s4:Sl,δ=fS ps r g (fk g [] (r.take i)) s4) (nd r) 0 (fS ps r g [] .un) (by
  rintro j d δ hj ⟨s4,rfl⟩;rw[Nat.zero_add];have M:j<r.length:=by
   have:=(D0.mp hj).1
   rwa [S7] at this
  unfold nd at hj;rw[List.getElem?_map,List.getElem?_eq_getElem M] at hj;cases hj;have tk:r.take (j+1)=r.take j++[r[j]]:=by rw[List.take_succ,List.getElem?_eq_getElem M];rfl
  have lf:(fk g [] (r.take j)).length<=r.length:=sub_len (yz0 (M5 g _)) λa ha=>Y3 (X7 g ha)
  refine⟨fS ps r g (fk g [] (r.take j)) (.sh (.int (r[j]:Int))),_,rfl,U80 _ (by omega) (B7 M),.sh (.int (r[j]:Int)),?_⟩;rw[tk,ub0]) ⟨.un,rfl⟩
 rw[Nat.zero_add,S7,List.take_length] at l1;have O:T6 (z8 (oA (z8 (gv 3) v6) sv0) v6) [.sh (wd ps),.sh (.lst (nd r)),.sh (gD r g),.sh (.dct (.inl (kd ((fs r g).map g))) (nd (fs r g))),G5 s4]=some (Y7 0 ((fs r g).length:Int)):=by
  refine J7 (n:=((fs r g).length:Int)) (cons_of ?_ rfl) (by omega) (by omega);show some (D.int ((kd ((fs r g).map g)).length:Int))=_;unfold kd;rw[List.length_map,List.length_map]
 have cm:R4 (gN 0) noT (oA (z8 (o2 (gv 1) (o2 (gv 3) (gv 0) O1) ixD) (z8 (gv 2) v6)) W2) [.un,.sh (wd ps),.sh (gD r g),.sh (.dct (.inl (kd ((fs r g).map g))) (nd (fs r g)))] (Y7 0 ((fs r g).length:Int))=some ((ls ps r g).map Pt.d):=by
  rw[R8 (λd=>match d with|.int i=>(rel g (pa ps ((fs r g).getD i.toNat 0))).d|_=>.non) (λd hd=>by
   rw[Ta.wr0] at hd;obtain⟨i,hi,rfl⟩:=A7.mp hd;have J:i<(fs r g).length:=by
    have:=List.mem_range'_1.mp hi;omega
   have hm:(fs r g)[i]∈r:=X7 g (B7 J);refine⟨[.sh (.int (i:Int)),.sh (wd ps),.sh (gD r g),.sh (.dct (.inl (kd ((fs r g).map g))) (nd (fs r g)))],rfl,rfl,?_⟩;have e3:o2 (gv 3) (gv 0) O1 [.sh (.int (i:Int)),.sh (wd ps),.sh (gD r g),.sh (.dct (.inl (kd ((fs r g).map g))) (nd (fs r g)))]=some (.int ((fs r g)[i]:Int)):=by
    have:=op0 g (M5 g r) (i:=i) J;have e:=s.g_at J;unfold fs at e J ⊢;rw[e] at this;exact this
   rw[o8 (ds:=[(pa ps (fs r g)[i]).d,gD r g]) (cons_of (by rw[o4 (x:=wd ps) (y:=.int ((fs r g)[i]:Int)) rfl e3];exact(m9 hp (m.lt _ hm)).1) rfl),K9 (m9 hp (m.lt _ hm)).2 g _ λj hj=>ua0 g (ya0 hp m hm hj)];simp[J])]
  refine D5 some ?_;rw[Ta.wr0,List.map_map];unfold ls;rw[List.map_map];refine P7 (by simp) λi h1 h2=>?_
  rw[List.length_map] at h2;simp[h2]
 refine d8 rfl (v5 (δ':=[.sh (wd ps),.sh (.lst (nd r)),.un,.un,.un]) (j6 (d:=.lst (nd r)) ?_) (v5 (δ':=[.sh (wd ps),.sh (.lst (nd r)),.sh (gD r g),.un,.un]) (j6 (d:=gD r g) ?_) (v5 (δ':=fS ps r g [] .un) rfl (v5 (R0 (items:=nd r) rfl l1) (j4 (X3 ?_))))))
 ·rw[o8 (ds:=[wd ps]) rfl]
  exact q20 hp m
 ·rw[o8 (ds:=[wd ps,.lst (nd r)]) rfl]
  exact hg
 ·show oA _ _ [.sh (wd ps),.sh (.lst (nd r)),.sh (gD r g),.sh (.dct (.inl (kd ((fs r g).map g))) (nd (fs r g))),G5 s4]=_
  rw[o8 (ds:=[wd (ls ps r g)]) (cons_of (by
   rw[o8 (ds:=[.lst ((ls ps r g).map Pt.d)]) (cons_of (V6 (items:=Y7 0 ((fs r g).length:Int)) O (by rw[Ta.wr0,List.length_map,List.length_range'];omega) cm) rfl)];rfl) rfl)]
  exact rn0 wl m'
end
end Ka
namespace Kk
open DL W
section
def p30:GS:=(v4 (T3 2 (W6 v6))
 (v4 (S6 (K1 (oA (z8 (gv 0) v6) o7)) (gN 3)
 (v4 (ifD (ob (V4 isTup (gv 3)))
 (v4 (n6 (gN 3) (Y4 (z8 (gc (.str "at")) (z8 (o2 (gv 1) (o2 (gv 3) (gc (.int 1)) ixD) O1) v6))))
 u9)
 u9)
 (v4 (b8 (V5 2 (gv 3)))
 u9)))
 (v4 (j9 (vp0 (oA (z8 (gv 0) (z8 (gv 2) v6)) X4)))
 u9)))
def qi0:List Str:=["_law_part_here", "_law_numbers", "_law_some", "_law_value_here"]
def K7:List D->Option D:=mkF 2 qi0 p30
def rb0:GS:=(v4 (T3 3 (q80 (gv 2) (gc (.bl true))))
 (v4 (T3 4 (W6 (z8 (gv 2) v6)))
 (v4 (Z5 (ob (o2 (zs0 (oA (z8 (gv 4) v6) Y0)) (gc (.int 0)) gtD))
 (v4 (W7 (rg0 0 1 (zz0 4) V2) (gN 5))
 (v4 (ifD (ob (o2 (gv 5) (gc .non) iw0))
 (v4 (j9 (gc .non))
 u9)
 u9)
 (v4 (S6 (K1 (gv 5)) (gN 6)
 (v4 (ifD (w80 (ob (o2 (gv 6) (gv 3) (y60 true))))
 (v4 (W7 (O9 (gc (.bl true))) (qo0 3 (gv 6)))
 (v4 (b8 (V5 4 (gv 6)))
 u9))
 u9)
 u9))
 u9))) 100000)
 (v4 (j9 (vp0 (oA (z8 (oA (z8 (gv 3) v6) ti0) v6) tr0)))
 u9))))
def vn0:List Str:=["_law_one", "_law_other", "_law_pair", "_law_known", "_law_waiting", "_law_more", "_law_fresh"]
def xy0:List D->Option D:=mkF 3 vn0 rb0
def v90:GS:=(v4 (n6 (gN 1) (oA (z8 (gv 0) v6) zt0))
 (v4 (T3 2 (gc (.dct (.inl []) [])))
 (v4 (S6 (K1 (gv 1)) (gN 3)
 (v4 (W7 (O9 (zs0 (oA (z8 (gv 2) v6) sv0))) (putAt 2 (gv 3)))
 u9))
 (v4 (j9 (vp0 (oA (z8 (Y8 1 [0,2] (K1 (gv 1)) (gN 0) noT (oA (z8 (o2 (gv 1) (gv 0) ixD) (z8 (gv 2) v6)) K7)) v6) U8)))
 u9))))
def yc0:List Str:=["_law_web_here", "_law_order_here", "_law_numbers", "_law_k"]
def N7:List D->Option D:=mkF 1 yc0 v90
def w90:GS:=(v4 (T3 1 (gc (.dct (.inl []) [])))
 (v4 (S6 (T6 (z8 (oA (z8 (gv 0) v6) Y0) v6)) (gN 2)
 (v4 (W7 (O9 (gc (.int 0))) (putAt 1 (gv 2)))
 u9))
 (v4 (n6 (gN 3) (gc (.int 0)))
 (v4 (pi0 1 (Z5 (ob (gc (.bl true)))
 (v4 (o10 4)
 (v4 (T3 5 (gc (.dct (.inl []) [])))
 (v4 (S6 (T6 (z8 (oA (z8 (gv 0) v6) Y0) v6)) (gN 2)
 (v4 (n6 (gN 6) (Y4 (z8 (o2 (gv 1) (gv 2) O1) (z8 (oA (z8 (o2 (gv 0) (gv 2) ixD) (z8 (gv 1) v6)) K7) v6))))
 (v4 (W7 (xj0 4 (gv 6) (z30 4)) (putAt 5 (gv 2)))
 u9)))
 (v4 (pi0 5 (n6 (gN 1) (gv 5)))
 (v4 (ifD (ob (o2 (z30 4) (gv 3) eqD))
 (v4 (j9 (gv 3))
 u9)
 u9)
 (v4 (n6 (gN 3) (z30 4))
 u9)))))) 100000))
 u9))))
def wa0:List Str:=["_law_web_here", "_law_sorts", "_law_k", "_law_many", "_law_known", "_law_fresh", "_law_key"]
def R7:List D->Option D:=mkF 1 wa0 w90
def ug0:GS:=(v4 (ifD (yf0 (xx0 (ob (V4 isTup (gv 0)))) (ob (o2 (gv 0) (Y4 v6) zy0)))
 (v4 (j9 (gc (.bl false)))
 u9)
 u9)
 (v4 (S6 (tupI (gv 0)) (gN 1)
 (v4 (ifD (yf0 (xx0 (ob (V4 isTup (gv 1)))) (yf0 (ob (o2 (oA (z8 (gv 1) v6) Y0) (gc (.int 2)) ltD)) (xx0 (ob (V4 isStr (o2 (gv 1) (gc (.int 0)) ixD))))))
 (v4 (j9 (gc (.bl false)))
 u9)
 u9)
 (v4 (S6 (K1 (oA (z8 (gv 1) v6) o7)) (gN 2)
 (v4 (ifD (yf0 (ob (V4 isBool (gv 2))) (wb0 (ob (V4 isTup (gv 2))) (ob (V4 isBool (o2 (gv 2) (gc (.int 1)) ixD)))))
 (v4 (j9 (gc (.bl false)))
 u9)
 u9)
 u9))
 u9)))
 (v4 (j9 (gc (.bl true)))
 u9)))
def u90:List Str:=["_law_found", "_law_part_here", "_law_value_here"]
def zu0:List D->Option D:=mkF 1 u90 ug0
def bl0:GS:=(v4 (n6 (gN 1) (oA (z8 (gv 0) (z8 (gc (.int 4)) v6)) j8))
 (v4 (n6 (gN 2) (oA (z8 (oA (z8 (gv 0) (z8 (gc (.int 9)) v6)) zo0) (z8 (o2 (gc (.int 1)) (o2 (gv 1) (gc (.int 6)) d9) Z0) (z8 (oA (z8 (gv 0) (z8 (gc (.int 5)) v6)) j8) v6))) zb0))
 (v4 (ifD (ob (o2 (o2 (o2 (gv 1) (gc (.int 6)) W4) (gc (.int 2)) d9) (gc (.int 1)) zy0))
 (v4 (n6 (gN 2) (oA (z8 (gv 2) (z8 (oA (z8 (oA (z8 (gv 0) (z8 (gc (.int 6)) v6)) j8) (z8 (gc (.int 9)) v6)) V7) v6)) N6))
 u9)
 u9)
 (v4 (n6 (gN 3) (oA (z8 (gv 2) v6) wn0))
 (v4 (ifD (yf0 (xx0 (ob (oA (z8 (gv 3) v6) zu0))) (ob (o2 (oA (z8 (gv 3) v6) N7) (gv 3) yb0)))
 (v4 (j9 (gc (.bl false)))
 u9)
 u9)
 (v4 (ifD (yf0 (ob (o2 (oA (z8 (gv 3) (z8 (gv 2) (z8 (Y4 (z8 (gc (.int 0)) (z8 (gc (.int 0)) v6))) v6))) xy0) (gc .non) iw0)) (ob (o2 (oA (z8 (gv 3) v6) R7) (oA (z8 (gv 3) v6) Y0) yb0)))
 (v4 (j9 (gc (.bl false)))
 u9)
 u9)
 (v4 (ifD (ob (o2 (oA (z8 (gv 3) v6) wn0) (gv 3) yb0))
 (v4 (j9 (gc (.bl false)))
 u9)
 u9)
 (v4 (n6 (gN 4) (oA (z8 (gv 2) v6) N7))
 (v4 (j9 (orG (o2 (oA (z8 (gv 4) v6) R7) (oA (z8 (gv 4) v6) Y0) ltD) (o2 (gv 3) (gv 4) zy0)))
 u9)))))))))
def b20:List Str:=["_law_script", "_law_turn", "_law_web_here", "_law_found", "_law_own"]
def sj0:List D->Option D:=mkF 1 b20 bl0
end
end Kk
namespace Kk
open DL W K22
open Ta (pa m9 xh0 gl gl1 nl pN k2 br0 ms0 bq0 j40 dT Xd0 tr i30)
open La (zp Rch okp)
open Ka (A)
open Fa (WT WF WB c2 bf0)
open Ua (Met dr nums NB o50 qj0 pq0 pj0 RB)
def EB:GS:=(v4 (ifD (ob (V4 isTup (gv 3)))
 (v4 (n6 (gN 3) (Y4 (z8 (gc (.str "at")) (z8 (o2 (gv 1) (o2 (gv 3) (gc (.int 1)) ixD) O1) v6))))
 u9)
 u9)
 (v4 (b8 (V5 2 (gv 3)))
 u9))
theorem fx0{p:Pt}(h:Pw n p)(f:Nat->Nat)(D':D)(hd:∀j∈tgs p.vals,O1 D' (.int (j:Int))=some (.int (f j:Int))):K7 [p.d,D']=some (rel f p).d:=by
 have zs:(1000:Nat)<=sizeLine:=by decide
 obtain⟨δ',l1,l2⟩:=T9 (f:=gN 3) (G:=EB) (λi δ=>∃s3:Sl,δ=[.sh p.d,.sh D',.ow (.lst ((p.vals.take i).map (lkv f))),s3]) p.vals 0 [.sh p.d,.sh D',.ow (.lst []),.un] (by
  rintro j v δ hj ⟨s3,rfl⟩;have hv:=O0 hj;have J:=(D0.mp hj).1;have hf:=h.few;rw[Nat.zero_add];have app:∀w:D,b8 (V5 2 (gv 3)) [.sh p.d,.sh D',.ow (.lst ((p.vals.take j).map (lkv f))),.sh w]=some (.nx [.sh p.d,.sh D',.ow (.lst ((p.vals.take j).map (lkv f)++[w])),.sh w]):=λw=>Gw.yw0 (l:=(p.vals.take j).map (lkv f)) (d:=w) rfl rfl (by rw[List.length_map,List.length_take];omega)
  have tk:(p.vals.take (j+1)).map (lkv f)=(p.vals.take j).map (lkv f)++[lkv f v]:=by rw[List.take_succ,hj,List.map_append];rfl
  refine⟨[.sh p.d,.sh D',.ow (.lst ((p.vals.take j).map (lkv f))),.sh v],[.sh p.d,.sh D',.ow (.lst ((p.vals.take j).map (lkv f)++[lkv f v])),.sh (lkv f v)],rfl,?_,.sh (lkv f v),by rw[tk]⟩;refine v5 (δ':=[.sh p.d,.sh D',.ow (.lst ((p.vals.take j).map (lkv f))),.sh (lkv f v)]) ?_ (v5 (app _) rfl);rcases h.lv v hv with rfl|⟨z,rfl⟩|⟨i,rfl,hi⟩
  ·rw[d7 (by rfl)];rfl
  ·rw[d7 (by rfl)];rfl
  ·rw[Q6 (by rfl)]
   refine v5 (j6 (d:=.tup [.str "at",.int (f i:Int)]) (R3 (cons_of rfl (cons_of (d:=.int (f i:Int)) ?_ rfl)) (by show 2<=sizeLine;decide))) rfl;rw[o4 (x:=D') (y:=.int (i:Int)) rfl rfl];exact hd i (u60 hv)) ⟨_,rfl⟩
 obtain⟨s3,rfl⟩:=l2;rw[Nat.zero_add,List.take_length] at l1;refine d8 rfl (v5 (δ':=[.sh p.d,.sh D',.ow (.lst []),.un]) rfl (v5 (R0 (items:=p.vals) (by
  show Option.bind (oA (z8 (gv 0) v6) o7 [.sh p.d,.sh D',.ow (.lst []),.un]) sl0=_;rw[o8 (ds:=[p.d]) rfl,show o7 [p.d]=some (.lst p.vals) from Gw.yn0 p h.f];rfl) l1) (j4 (X3 ?_))))
 show oA (z8 (gv 0) (z8 (gv 2) v6)) X4 (frz _)=_;rw[o8 (ds:=[p.d,.lst (p.vals.map (lkv f))]) rfl];exact Gw.ui0 p h.f _ (.inl (by rw[List.length_map]))
theorem rq0(h:Web ps)(m:Met ps r):zt0 [wd ps]=some (.lst (nd r)):=Ua.rq0 h m
theorem wk0(h:Web ps)(m:Met ps r):N7 [wd ps]=some (wd (dr ps r)):=by
 have zs:(2000:Nat)<=sizeLine:=by decide
 obtain⟨_,M⟩:=m.len h;obtain⟨δ',l1,s3,rfl⟩:=T9 (f:=gN 3) (G:=RB) (λi δ=>∃s3:Sl,δ=[.sh (wd ps),.sh (.lst (nd r)),.ow (nums r i),s3]) (nd r) 0 [.sh (wd ps),.sh (.lst (nd r)),.ow (nums r 0),.un] (by
  rintro j d δ hj ⟨s3,rfl⟩;rw[Nat.zero_add];have J:j<r.length:=by
   have:=(D0.mp hj).1
   rwa [S7] at this
  have ed:d=.int (r[j]:Int):=by
   unfold nd at hj;rw[List.getElem?_map,List.getElem?_eq_getElem J] at hj;exact(A8 hj).symm
  subst ed;obtain⟨e1,e2⟩:=o50 m.nd J;refine⟨[.sh (wd ps),.sh (.lst (nd r)),.ow (nums r j),.sh (.int (r[j]:Int))],_,rfl,v5 (qj0 (ks:=kd (r.take j)) (vs:=nd (List.range' 0 j)) (k:=r[j]) (v:=.int (j:Int)) rfl ?_ rfl (by unfold kd;rw[List.length_map,List.length_take];omega)) rfl,.sh (.int (r[j]:Int)),?_⟩
  ·show some (D.int (((kd (r.take j)).length:Nat):Int))=_
   rw[show (kd (r.take j)).length=j from by unfold kd;rw[List.length_map,List.length_take];omega]
  ·rw[e1,e2]
   rfl) ⟨.un,rfl⟩
 rw[Nat.zero_add,S7] at l1;refine d8 rfl (v5 (j6 (d:=.lst (nd r)) ?_) (v5 (δ':=[.sh (wd ps),.sh (.lst (nd r)),.ow (nums r 0),.un]) rfl (v5 (R0 (items:=nd r) rfl l1) (j4 (X3 ?_)))))
 ·rw[o8 (ds:=[wd ps]) rfl]
  exact rq0 h m
 ·show oA _ U8 [.sh (wd ps),.sh (.lst (nd r)),.sh (nums r r.length),G5 s3]=_
  rw[o8 (ds:=[.lst ((dr ps r).map Pt.d)]) (cons_of (V6 (items:=nd r) rfl (by rw[S7];omega) (pj0 h m λi hi=>fx0 (m9 h (m.lt i hi)).2 _ _ λj hj=>pq0 (m.tg h hi hj))) rfl)];rfl
def w2(W W' P:D)(B V:List (Nat×Nat))(m f:Sl):Ds:=[.sh W,.sh W',.sh P,.ow (dT B),.ow (.lst (V.map pN)),m,f]
theorem Uj0(W W' P:D)(B V:List (Nat×Nat))(m f:Sl):WT (w2 W W' P B V m f)=some (decide (0<V.length)):=by
 unfold WT ob;rw[o4 (x:=.int (V.length:Int)) (y:=.int 0) (by
  show some (D.int ((V.map pN).length:Int))=_;rw[List.length_map]) rfl]
 show some (decide ((0:Int)<(V.length:Int)))=_;congr 1;rw[decide_eq_decide];omega
theorem Vs0(W W' P:D)(B V:List (Nat×Nat))(m:Sl)(q:Nat×Nat)(hB:B.length<=5000)(hV:V.length<=5000) :
  (q∈B->WF (w2 W W' P B V m (.sh (pN q)))=some (.nx (w2 W W' P B V m (.sh (pN q))))) /\
  (q∉B->WF (w2 W W' P B V m (.sh (pN q)))=some (.nx (w2 W W' P (B++[q]) (V++[q]) m (.sh (pN q))))):=by
 have zs:(9000:Nat)<=sizeLine:=by decide
 have ht:w80 (ob (o2 (gv 6) (gv 3) (y60 true))) (w2 W W' P B V m (.sh (pN q)))=some (decide (q∉B)):=by
  show ob (o2 (gv 6) (gv 3) (y60 true)) [.sh W,.sh W',.sh P,.sh (dT B),.sh (.lst (V.map pN)),G5 m,.sh (pN q)]=_;exact Bw.yh0 (by rw[o4 (x:=pN q) (y:=dT B) rfl rfl];exact bq0 (Xd0 B) q)
 refine⟨λh=>?_,λh=>?_⟩
 ·rw[decide_eq_false (λz=>z h)] at ht
  refine v5 (δ':=w2 W W' P B V m (.sh (pN q))) ?_ rfl;rw[d7 ht];rfl
 ·rw[decide_eq_true h] at ht
  refine v5 (δ':=w2 W W' P (B++[q]) (V++[q]) m (.sh (pN q))) ?_ rfl;rw[Q6 ht];refine v5 (δ':=w2 W W' P (B++[q]) V m (.sh (pN q))) ?_ (v5 (δ':=w2 W W' P (B++[q]) (V++[q]) m (.sh (pN q))) ?_ rfl)
  ·show Option.map Res.nx (if (B.map k2).length<sizeLine then some ([.sh W,.sh W',.sh P,.ow (.dct (.inr (W8 (B.map k2) (k2 q))) (W9 (B.map k2) (tr B) (k2 q) (.bl true))),.ow (.lst (V.map pN)),m,.sh (pN q)]:Ds) else none)=_
   rw[if_pos (by rw[List.length_map];omega),(i30 h).1,(i30 h).2];rfl
  ·unfold b8 V5
   rw[show owL 4 (w2 W W' P (B++[q]) V m (.sh (pN q)))=some (V.map pN) from rfl,Option.bind_some];show Option.map (λr:D×Ds=>Res.nx r.2) (if (V.map pN).length<sizeLine then some (D.non,([.sh W,.sh W',.sh P,.ow (dT (B++[q])),.ow (.lst (V.map pN++[pN q])),m,.sh (pN q)]:Ds)) else none)=_;rw[if_pos (by rw[List.length_map];omega)];show some (Res.nx [.sh W,.sh W',.sh P,.ow (dT (B++[q])),.ow (.lst (V.map pN++[pN q])),m,.sh (pN q)])=_;unfold w2;rw[List.map_append];rfl
theorem pg0(W W' P:D)(m:Sl)(R:Nat×Nat->Prop):∀(M B V:List (Nat×Nat)) (f:Sl),(∀x∈M,R x)->(∀x∈B,R x)->(∀x∈V,R x)->B.Nodup->B.length+M.length<=5000->V.length+M.length<=5000 ->
  ∃B' V' f',U3 (gN 6) WF (M.map pN) (w2 W W' P B V m f)=some (.nx (w2 W W' P B' V' m f'))/\(∀x∈B',R x)/\(∀x∈V',R x)/\B'.Nodup/\B.length<=B'.length/\B'.length+V.length=B.length+V'.length
 | [],B,V,f,_,hB,hV,hn,_,_=>⟨B,V,f,rfl,hB,hV,hn,A2 _,rfl⟩
 | q::M,B,V,f,hM,hB,hV,hn,l1,l2=>by
  rw[List.length_cons] at l1 l2;obtain⟨w1,w2'⟩:=Vs0 W W' P B V m q (by omega) (by omega);have un:∀δ',WF (w2 W W' P B V m (.sh (pN q)))=some (.nx δ')->U3 (gN 6) WF ((q::M).map pN) (w2 W W' P B V m f)=U3 (gN 6) WF (M.map pN) δ':=fun δ' h=>by
   rw[List.map_cons]
   conv=>lhs;unfold U3
   show (match WF (w2 W W' P B V m (.sh (pN q))) with|some (.nx δ')=>U3 (gN 6) WF (M.map pN) δ'|some (.ct δ')=>U3 (gN 6) WF (M.map pN) δ'|some (.bk δ')=>some (.nx δ')|r=>r)=_;rw[h]
  have J:∀x∈M,R x:=λp hp=>hM p (A3 _ hp)
  have hq:=hM q A5
  by_cases h:q∈B
  ·obtain⟨B',V',f',e,r1,r2,r3,r4,r5⟩:=pg0 W W' P m R M B V (.sh (pN q)) J hB hV hn (by omega) (by omega)
   exact⟨B',V',f',(un _ (w1 h)).trans e,r1,r2,r3,r4,r5⟩
  ·have O:∀L:List (Nat×Nat),(∀x∈L,R x)->∀x∈L++[q],R x:=λL hL p hp=>by
    rcases B1.mp hp with hp|hp
    ·exact hL p hp
    ·rw[List.mem_singleton.mp hp];exact hq
   obtain⟨B',V',f',e,r1,r2,r3,r4,r5⟩:=pg0 W W' P m R M (B++[q]) (V++[q]) (.sh (pN q)) J (O B hB) (O V hV) (j40.mpr ⟨hn,h⟩) (by rw[List.length_append,List.length_singleton];omega) (by rw[List.length_append,List.length_singleton];omega);rw[List.length_append,List.length_singleton] at r4 r5;rw[List.length_append,List.length_singleton] at r5;exact⟨B',V',f',(un _ (w2' h)).trans e,r1,r2,r3,by omega,by omega⟩
theorem Vj0(hp:Web ps)(hq:Web qs)(P:D){B V:List (Nat×Nat)}{q:Nat×Nat}(m f:Sl)(hB:∀x∈B,A ps qs x.1 x.2)(hV:∀x∈V,A ps qs x.1 x.2)(ha:A ps qs q.1 q.2)(hn:B.Nodup)(l1:B.length<=4000)(l2:V.length<=4000) :
  ∃B' V' m' f',WB (w2 (wd ps) (wd qs) P B (V++[q]) m f)=some (.nx (w2 (wd ps) (wd qs) P B' V' m' f'))/\(∀x∈B',A ps qs x.1 x.2)/\(∀x∈V',A ps qs x.1 x.2)/\B'.Nodup/\B.length<=B'.length/\B'.length+V.length=B.length+V'.length:=by
 obtain⟨g1,_⟩:=br0 hp hq ha.1 ha.2.1;have O:zz0 4 (w2 (wd ps) (wd qs) P B (V++[q]) m f)=some (pN q,w2 (wd ps) (wd qs) P B V m f):=by
  unfold zz0;rw[show owL 4 (w2 (wd ps) (wd qs) P B (V++[q]) m f)=some ((V++[q]).map pN) from rfl,Option.bind_some,List.map_append,List.map_cons,List.map_nil];show Option.map _ ((V.map pN++[pN q]).getLast?)=_;rw[List.getLast?_concat,List.dropLast_concat];rfl
 have J:∀d:D,Kk.V2 [wd ps,wd qs,pN q]=some d->W7 (rg0 0 1 (zz0 4) Kk.V2) (gN 5) (w2 (wd ps) (wd qs) P B (V++[q]) m f)=some (.nx (w2 (wd ps) (wd qs) P B V (.sh d) f)):=λd hd=>by
  have e:rg0 0 1 (zz0 4) Kk.V2 (w2 (wd ps) (wd qs) P B (V++[q]) m f)=some (d,w2 (wd ps) (wd qs) P B V m f):=by
   unfold rg0;rw[show gv 0 (w2 (wd ps) (wd qs) P B (V++[q]) m f)=some (wd ps) from rfl,Option.bind_some,show gv 1 (w2 (wd ps) (wd qs) P B (V++[q]) m f)=some (wd qs) from rfl,Option.bind_some,O,Option.bind_some];show Option.map _ (Kk.V2 [wd ps,wd qs,pN q])=_;rw[show Kk.V2 [wd ps,wd qs,pN q]=some d from hd];rfl
  unfold W7;rw[e];rfl
 have l:=(Ka.p10 (m9 hp ha.1).2 (m9 hq ha.2.1).2 _).mp (ha.lk hp hq);have Z:(gl ((pa ps q.1).vals.zip (pa qs q.2).vals)).length<=12:=C0 (ms0 _) (by rw[List.length_zip];have:=(m9 hp ha.1).2.few;omega);have e1:=J _ (g1 ⟨l.1,l.2.1⟩);have hM:=l.2.2;generalize gl ((pa ps q.1).vals.zip (pa qs q.2).vals)=M at e1 hM Z;obtain⟨B',V',f',e2,r1,r2,r3,r4,r5⟩:=pg0 (wd ps) (wd qs) P (.sh (.lst (M.map pN))) (λx=>A ps qs x.1 x.2) M B V f hM hB hV hn (by omega) (by omega);refine⟨B',V',_,f',v5 e1 (v5 (δ':=w2 (wd ps) (wd qs) P B V (.sh (.lst (M.map pN))) f) ?_ (v5 (R0 (items:=M.map pN) rfl e2) rfl)),r1,r2,r3,r4,r5⟩;rw[d7 (by rfl)];rfl
theorem s50(hp:Web ps)(hq:Web qs)(up:∀i j,A ps ps i j->i=j){B:List (Nat×Nat)}(hn:B.Nodup)(hB:∀x∈B,A ps qs x.1 x.2):B.length<=qs.length:=by
 have M:(B.map (·.2)).Nodup:=b4.mpr (hn.imp_of_mem λ{a b} ha hb J e=>J (L1 (up _ _ ((hB a ha).trans hp hq hp (by rw[show a.2=b.2 from e];exact(hB b hb).symm hp hq))) e));have:=sub_len M (m:=List.range qs.length) λy hy=>by
  obtain⟨x,hx,rfl⟩:=A7.mp hy;exact C3.mpr (hB x hx).2.1
 rwa [At0,Ao0] at this
theorem Z60(hp:Web ps)(hq:Web qs)(up:∀i j,A ps ps i j->i=j)(P:D):∀(f:Nat) (B V:List (Nat×Nat)) (m g:Sl),(∀x∈B,A ps qs x.1 x.2)->(∀x∈V,A ps qs x.1 x.2)->B.Nodup->V.length<=B.length->(60 - B.length)+V.length<f ->
  ∃B' m' g',Z5 WT WB f (w2 (wd ps) (wd qs) P B V m g)=some (.nx (w2 (wd ps) (wd qs) P B' [] m' g'))/\(∀x∈B',A ps qs x.1 x.2)/\B'.Nodup:=by
 intro f
 induction f with
 | zero=>intro B V m g _ _ _ _ h;omega
 | succ f ih =>
  intro B V m g hB hV hn hl h;have hz:=s50 hp hq up hn hB;have M:=hq.len.2;unfold Z5;rw[Uj0]
  by_cases h0:0<V.length
  ·rw[decide_eq_true h0]
   obtain⟨V0,q,rfl⟩:∃V0 q,V=V0++[q]:=⟨V.dropLast,V.getLast (List.length_pos_iff.mp h0),(List.dropLast_concat_getLast _).symm⟩;rw[List.length_append,List.length_singleton] at h hl;dsimp only;obtain⟨B',V',m',g',e,r1,r2,r3,r4,r5⟩:=Vj0 hp hq P (q:=q) m g hB (λx hx=>hV x (E1 _ hx)) (hV q (by simp)) hn (by omega) (by omega);rw[e];have J:=s50 hp hq up r3 r1;exact ih B' V' m' g' r1 r2 r3 (by omega) (by omega)
  ·rw[decide_eq_false h0]
   have:V=[]:=U2.mp (by omega);subst this;exact⟨B,m,g,rfl,hB,hn⟩
theorem az0(hp:Web ps)(hq:Web qs)(up:∀i j,A ps ps i j->i=j)(ha:A ps qs 0 0):∃l,xy0 [wd ps,wd qs,pN (0,0)]=some (.lst l):=by
 have one:∀x,x∈[(0,0)]->A ps qs x.1 x.2:=λx hx=>by rw[List.mem_singleton.mp hx];exact ha
 have J:∀rest:GS,v4 (T3 3 (q80 (gv 2) (gc (.bl true)))) (v4 (T3 4 (W6 (z8 (gv 2) v6))) rest) (Z6 vn0 [wd ps,wd qs,pN (0,0)])=rest (w2 (wd ps) (wd qs) (pN (0,0)) [(0,0)] [(0,0)] .un .un):=λrest=>rfl
 obtain⟨B,m,g,e,r1,r2⟩:=Z60 hp hq up (pN (0,0)) 100000 [(0,0)] [(0,0)] .un .un one one (E3.mpr ⟨by simp,T0⟩) (A2 _) (by simp only[List.length_singleton];omega);have hz:=s50 hp hq up r2 r1;have M:=hq.len.2;refine⟨(SoT.srt (B.map c2)).map pD,d8 rfl ((J _).trans (v5 e (j4 (X3 ?_))))⟩
 ·show oA (z8 (oA (z8 (gv 3) v6) ti0) v6) tr0 [.sh (wd ps),.sh (wd qs),.sh (pN (0,0)),.sh (dT B),.sh (.lst []),G5 m,G5 g]=_
  have e1:oA (z8 (gv 3) v6) ti0 [.sh (wd ps),.sh (wd qs),.sh (pN (0,0)),.sh (dT B),.sh (.lst []),G5 m,G5 g]=some (.lst ((B.map c2).map pD)):=by
   show some (D.lst ((B.map k2).map ktD))=_;rw[List.map_map,List.map_map];rfl
  rw[o8 (ds:=[.lst ((B.map c2).map pD)]) (cons_of e1 rfl),Zh0 (bf0 r2) (by rw[List.length_map];omega)]
end Kk
namespace Kk
open DL W K22
open Ta (pa m9)
open Ka (A Lk Lg L0 fk ix gp Tr sm0 uu0 wi0 gD ua0 K5 O7 ub0 G4 X7 M5 yz0 qf0 q30 wv0 yo0 lz0 tq0 vo0 vf0 w00 m00 O6 s30 K4 m60 sd0 fz0 ns0)
theorem Vd0{p:Pt}(h:Pw n p):Tr 4 p.d:=by
 have two:∀(s:Str) (d:D),Tr 3 d->Tr 4 (.tup [.str s,d]):=λs d x=>K4 (k:=3) λe he=>by
  rcases A4.mp he with rfl|he
  ·exact(O6 _).mono (by omega)
  ·rw[List.mem_singleton.mp he];exact x
 cases p with
 | text w=>exact two _ _ ((O6 w).mono (by omega))
 | row vs=>exact two _ _ ((K4 (k:=1) λv hv=>m60 (h.lv v hv)).mono (by omega))
 | table ps=>exact two _ _ (sd0 (n:=n) λp hp=>h.lv p.2 (L6 hp))
 | rcd c ps =>
  refine K4 (k:=3) λe he=>?_
  rcases A4.mp he with rfl|he
  ·exact(O6 _).mono (by omega)
  ·rcases A4.mp he with rfl|he
   ·exact(O6 _).mono (by omega)
   ·rw[List.mem_singleton.mp he];exact sd0 (n:=n) λp hp=>h.lv p.2 (L6 hp)
def SK(ps:List Pt)(s:Nat->Nat)(k:Nat):D:=.tup [.int (s k:Int),Lg ps s k]
theorem mv0{s:Nat->Nat}{a b:Nat}:SK ps s a=SK ps s b↔s a=s b/\Lg ps s a=Lg ps s b:=by
 unfold SK;constructor
 ·intro h
  injection h with h;injection h with h1 h;injection h with h2 _;injection h1 with h1
  exact⟨n5.mp h1,h2⟩
 ·rintro⟨h1,h2⟩
  rw[h1,h2]
def Rg(n:Nat):List Nat:=List.range' 0 n
theorem M6{k:Nat}:k∈Rg n↔k<n:=by unfold Rg;rw[List.mem_range'_1];omega
theorem uc0(n:Nat):(Rg n).length=n:=List.length_range'
theorem i70(n:Nat):(Rg n).Nodup:=List.nodup_range'
def ss(ps:List Pt):Nat->Nat->Nat
 | 0=>λ_=>0
 | n+1=>gp (SK ps (ss ps n)) (Rg ps.length)
def cc(ps:List Pt):Nat->Nat
 | 0=>0
 | n+1=>(fk (SK ps (ss ps n)) [] (Rg ps.length)).length
theorem m20(n:Nat){a b:Nat}(ha:a∈Rg ps.length)(hb:b∈Rg ps.length):ss ps (n+1) a=ss ps (n+1) b↔SK ps (ss ps n) a=SK ps (ss ps n) b:=yo0 _ ha hb
theorem q60(n:Nat):cc ps (n+1)=(fk (ss ps (n+1)) [] (Rg ps.length)).length:=by
 show (fk (SK ps (ss ps n)) [] (Rg ps.length)).length=_;rw[vf0 λa ha b hb=>(m20 n ha hb).symm]
theorem mw0(n:Nat):∀a∈Rg ps.length,∀b∈Rg ps.length,ss ps (n+1) a=ss ps (n+1) b->ss ps n a=ss ps n b:=λa ha b hb h=>(mv0.mp ((m20 n ha hb).mp h)).1
theorem nv0(n:Nat):cc ps n<=ps.length:=by
 cases n with
 | zero=>exact C4 _
 | succ n =>
  have:=sub_len (yz0 (M5 (SK ps (ss ps n)) (Rg ps.length))) λx hx=>X7 _ hx
  rwa [uc0] at this
theorem b60(n:Nat):cc ps n<=cc ps (n+1):=by
 cases n with
 | zero=>exact C4 _
 | succ n =>
  rw[q60,q60];exact sub_len (yz0 (M5 _ _)) (tq0 (mw0 (n+1)))
theorem e90(hp:Web ps):0<cc ps 1:=by
 obtain⟨b,hb,_⟩:=G4 (SK ps (ss ps 0)) (Rg ps.length) [] 0 (M6.mpr hp.len.1);exact Ap0 hb
theorem X90(hp:Web ps):∃N,N<=60/\cc ps (N+1)=cc ps N/\∀n,n<N->cc ps (n+1)≠cc ps n:=by
 have J:=hp.len.2;have key:∀d n,ps.length - cc ps n<=d->n<=cc ps n->(∀i,i<n->cc ps (i+1)≠cc ps i)->∃N,N<=ps.length/\cc ps (N+1)=cc ps N/\∀n,n<N->cc ps (n+1)≠cc ps n:=λd=>by
  induction d with
  | zero =>
   intro n h1 h2 h3;have a1:=nv0 (ps:=ps) n;have a2:=nv0 (ps:=ps) (n+1);have a3:=b60 (ps:=ps) n;exact⟨n,by omega,by omega,h3⟩
  | succ d ih =>
   intro n h1 h2 h3;have a1:=nv0 (ps:=ps) n;have a3:=b60 (ps:=ps) n
   by_cases h:cc ps (n+1)=cc ps n
   ·exact⟨n,by omega,h,h3⟩
   ·refine ih (n+1) (by omega) (by omega) λi hi=>?_
    by_cases e:i=n
    ·rw[e];exact h
    ·exact h3 i (by omega)
 obtain⟨N,h1,h2⟩:=key ps.length 0 (by omega) (by omega) λi hi=>absurd hi (by omega)
 exact⟨N,by omega,h2⟩
theorem iq0(hp:Web ps):∀(n:Nat) (a b:Nat),A ps ps a b->ss ps n a=ss ps n b
 | 0,a,b,_=>rfl
 | n+1,a,b,h=>(m20 n (M6.mpr h.1) (M6.mpr h.2.1)).mpr (mv0.mpr ⟨iq0 hp n a b h,(w00 hp h.1 h.2.1 id _).mpr ((h.lk hp hp).mono λi j _ _ e=>iq0 hp n i j e)⟩)
theorem T40(hp:Web ps){N:Nat}(h:cc ps (N+1)=cc ps N){a b:Nat}(ha:a<ps.length)(hb:b<ps.length)(e:ss ps N a=ss ps N b):A ps ps a b:=by
 obtain⟨M,rfl⟩:∃M,N=M+1:=by
  cases N with
  | zero=>have:=e90 hp;rw[h] at this;exact absurd this (C7 0)
  | succ M=>exact⟨M,rfl⟩
 have sg:=vo0 (mw0 (ps:=ps) (M+1)) (by rw[← q60,← q60,h];exact A2 _);refine A.of hp hp (λa b=>a<ps.length/\b<ps.length/\ss ps (M+1) a=ss ps (M+1) b) (λa b ⟨ha,hb,e⟩=>⟨ha,hb,?_⟩) ⟨ha,hb,e⟩;have k:=(sg a (M6.mpr ha) b (M6.mpr hb)).mp e;have l:=(mv0.mp ((m20 (M+1) (M6.mpr ha) (M6.mpr hb)).mp k)).2;exact((w00 hp ha hb id _).mp l).mono λi j hi hj e=>⟨m00 (m9 hp ha).2 hi,m00 (m9 hp hb).2 hj,e⟩
theorem eh0(hp:Web ps){N:Nat}(h:cc ps (N+1)=cc ps N):cc ps N=ps.length↔∀i j,A ps ps i j->i=j:=by
 obtain⟨M,rfl⟩:∃M,N=M+1:=by
  cases N with
  | zero=>have:=e90 hp;rw[h] at this;exact absurd this (C7 0)
  | succ M=>exact⟨M,rfl⟩
 rw[q60];constructor
 ·intro e i j a
  have back:∀x∈Rg ps.length,x∈fk (ss ps (M+1)) [] (Rg ps.length):=λx hx=>As0 λhn=>by
   have nd:(x::fk (ss ps (M+1)) [] (Rg ps.length)).Nodup:=E3.mpr ⟨hn,yz0 (M5 _ _)⟩;have:=sub_len nd (m:=Rg ps.length) λy hy=>by
    rcases A4.mp hy with rfl|hy
    ·exact hx
    ·exact X7 _ hy
   rw[List.length_cons,uc0] at this;omega
  exact qf0 (M5 _ _) i (back i (M6.mpr a.1)) j (back j (M6.mpr a.2.1)) (iq0 hp _ i j a)
 ·intro u
  have l1:=sub_len (i70 ps.length) (m:=fk (ss ps (M+1)) [] (Rg ps.length)) λx hx=>by
   obtain⟨b,hb,e⟩:=G4 (ss ps (M+1)) (Rg ps.length) [] x hx;have:=u b x (T40 hp h (M6.mp (X7 _ hb)) (M6.mp hx) e);exact this▸hb
  have l2:=sub_len (yz0 (M5 (ss ps (M+1)) (Rg ps.length))) λx hx=>X7 _ hx
  rw[uc0] at l1 l2;omega
theorem Wt0{gk:GE}{k:Nat}(h1:δ[i]?=some (.ow (.tup [.lst (F.map L),.lst (nd (List.range' 0 F.length))])))(h2:gk δ=some (L k))(hL:∀a,a∈F∨a=k->Tr 8 (L a)/\∃ds,L a=.tup ds)(l1:F.length<=100) :
  ((∃b,b∈F/\L b=L k)->xj0 i gk (z30 i) δ=some (.int (ix L k F:Int),δ))/\((¬∃b,b∈F/\L b=L k)->xj0 i gk (z30 i) δ=some (.int (F.length:Int),δ.set i (.ow (.tup [.lst ((F++[k]).map L),.lst (nd (List.range' 0 (F++[k]).length))])))):=by
 have zs:(1000:Nat)<=sizeLine:=by decide
 obtain⟨t,ht⟩:=Au0 (r:=λa u=>(a∈F∨a=k)->toT (L a)=some u/\TrK.dep u<=8) λa=>by
  by_cases ha:a∈F∨a=k
  ·obtain⟨u,e,q⟩:=(hL a ha).1;exact⟨u,λ_=>⟨e,q⟩⟩
  ·exact⟨.non,λz=>absurd z ha⟩
 obtain⟨tk,td⟩:=ht k (.inr rfl);obtain⟨ds,ed⟩:=(hL k (.inr rfl)).2;have tl:∀b,b∈F->(t b=t k↔L b=L k):=λb hb=>⟨λe=>sm0 _ _ (t k) (by rw[← e];exact(ht b (.inl hb)).1) tk,λe=>by
  have:=(ht b (.inl hb)).1;rw[e,tk] at this;exact(A8 this).symm⟩
 have hc:(∃b,b∈F/\L b=L k)↔∃b,b∈F/\t b=t k:=Aq0 λb=>Ar0 λhb=>(tl b hb).symm
 have J:=uu0 (L:=L) (t:=t) (F:=F) λa ha=>(ht a (.inl ha)).1
 have M:ix t k F=ix L k F:=wv0 tl;have sd:xj0 i gk (z30 i) δ=(match zp0 (F.map t) (nd (List.range' 0 F.length)) (t k) with
   | some x=>some (x,δ)
   | none=>some (.int (F.length:Int),δ.set i (.ow (.tup [.lst (F.map L++[L k]),.lst (nd (List.range' 0 F.length)++[.int (F.length:Int)])])))):=by
  unfold xj0 z30;rw[h1];dsimp only;rw[h2,Option.bind_some,Option.bind_some,List.length_map];rw[ed] at tk ⊢;dsimp only;rw[tk,Option.bind_some,J,Option.bind_some,if_pos ⟨td,by omega⟩]
  all_goals (cases zp0 (F.map t) (nd (List.range' 0 F.length)) (t k)<;>rfl)
 rw[sd];refine⟨λc=>?_,λc=>?_⟩
 ·rw[(wi0 F 0).1 (hc.mp c),Nat.zero_add,M]
 ·rw[(wi0 F 0).2 λz=>c (hc.mpr z)]
  rw[show nd (List.range' 0 F.length)++[.int (F.length:Int)]=nd (List.range' 0 (F++[k]).length) from by
   rw[List.length_append,List.length_singleton,List.range'_concat,G6,Nat.one_mul,Nat.zero_add];rfl,show F.map L++[L k]=(F++[k]).map L from by rw[List.map_append];rfl]
theorem jt0{X:Type}{L:Nat->X}{k:Nat}:∀{F:List Nat},(¬∃b,b∈F/\L b=L k)->ix L k (F++[k])=F.length
 | [],_=>Ka.ze0 rfl
 | x::F,h=>by rw[List.cons_append,Ka.z70 λz=>h ⟨x,A5,z⟩,jt0 λ⟨b,hb,e⟩=>h ⟨b,A3 _ hb,e⟩,List.length_cons]
def mS(ps:List Pt)(s:Nat->Nat)(c:Nat)(F ks:List Nat)(s2 s6:Sl):Ds:=[.sh (wd ps),.sh (gD (Rg ps.length) s),s2,.sh (.int (c:Int)),.ow (.tup [.lst (F.map (SK ps s)),.lst (nd (List.range' 0 F.length))]),.ow (.dct (.inl (kd ks)) (nd (ks.map λk=>ix (SK ps s) k F))),s6]
def MB:GS:=(v4 (n6 (gN 6) (Y4 (z8 (o2 (gv 1) (gv 2) O1) (z8 (oA (z8 (o2 (gv 0) (gv 2) ixD) (z8 (gv 1) v6)) K7) v6))))
 (v4 (W7 (xj0 4 (gv 6) (z30 4)) (putAt 5 (gv 2)))
 u9))
theorem Uh0(hp:Web ps)(s:Nat->Nat){k:Nat}(hk:k<ps.length):Tr 8 (SK ps s k)/\∃ds,SK ps s k=.tup ds:=by
 refine⟨(K4 (k:=4) λe he=>?_).mono (by omega),_,rfl⟩;rcases A4.mp he with rfl|he
 ·exact(s30 _).mono (by omega)
 ·rw[List.mem_singleton.mp he]
  have:∀l:List Nat,∃n,∀j∈l,s j<n:=λl=>by
   induction l with
   | nil=>exact⟨0,λj hj=>by cases hj⟩
   | cons a l ih =>
    obtain⟨n,h⟩:=ih;refine⟨max n (s a+1),λj hj=>?_⟩;rcases A4.mp hj with rfl|hj
    ·omega
    ·have:=h j hj;omega
  obtain⟨n,h⟩:=this (tgs (pa ps k).vals);exact Vd0 (p00 (m:=n) (m9 hp hk).2 s h)
theorem T20(hp:Web ps)(s:Nat->Nat)(c:Nat){ks:List Nat}{k:Nat}(hk:k<ps.length)(hks:k∉ks)(hsub:∀a∈F,a<ps.length)(hF:∀a∈ks,∃b,b∈F/\SK ps s b=SK ps s a)(l1:F.length<=100)(l2:ks.length<=100)(s6:Sl) :
  MB (mS ps s c F ks (.sh (.int (k:Int))) s6)=some (.nx (mS ps s c (fk (SK ps s) F [k]) (ks++[k]) (.sh (.int (k:Int))) (.sh (SK ps s k)))):=by
 have zs:(1000:Nat)<=sizeLine:=by decide
 have e1:Y4 (z8 (o2 (gv 1) (gv 2) O1) (z8 (oA (z8 (o2 (gv 0) (gv 2) ixD) (z8 (gv 1) v6)) K7) v6)) (mS ps s c F ks (.sh (.int (k:Int))) s6)=some (SK ps s k):=by
  refine R3 (cons_of ?_ (cons_of ?_ rfl)) (by show 2<=sizeLine;omega)
  ·rw[o4 (x:=gD (Rg ps.length) s) (y:=.int (k:Int)) rfl rfl]
   exact ua0 s (M6.mpr hk)
  ·rw[o8 (ds:=[(pa ps k).d,gD (Rg ps.length) s]) (cons_of (by rw[o4 (x:=wd ps) (y:=.int (k:Int)) rfl rfl];exact(m9 hp hk).1) rfl)]
   exact fx0 (m9 hp hk).2 s _ λj hj=>ua0 s (M6.mpr (m00 (m9 hp hk).2 hj))
 have J:V8 (kd ks) (.inl (k:Int))=false:=by rw[wt0,decide_eq_false hks]
 obtain⟨d1,d2⟩:=Wt0 (δ:=mS ps s c F ks (.sh (.int (k:Int))) (.sh (SK ps s k))) (i:=4) (gk:=gv 6) (L:=SK ps s) (F:=F) (k:=k) rfl rfl (λa ha=>Uh0 hp s (ha.elim (hsub a) λe=>e▸hk)) l1;have put:∀(F':List Nat) (v:Nat),(∀a∈ks,ix (SK ps s) a F'=ix (SK ps s) a F)->ix (SK ps s) k F'=v->putAt 5 (gv 2) (.int (v:Int)) [.sh (wd ps),.sh (gD (Rg ps.length) s),.sh (.int (k:Int)),.sh (.int (c:Int)),.ow (.tup [.lst (F'.map (SK ps s)),.lst (nd (List.range' 0 F'.length))]),.ow (.dct (.inl (kd ks)) (nd (ks.map λk=>ix (SK ps s) k F))),.sh (SK ps s k)]=some (mS ps s c F' (ks++[k]) (.sh (.int (k:Int))) (.sh (SK ps s k))):=λF' v h1 h2=>by
  show (if (kd ks).length<sizeLine then some ([.sh (wd ps),.sh (gD (Rg ps.length) s),.sh (.int (k:Int)),.sh (.int (c:Int)),.ow (.tup [.lst (F'.map (SK ps s)),.lst (nd (List.range' 0 F'.length))]),.ow (.dct (.inl (W8 (kd ks) (.inl (k:Int)))) (W9 (kd ks) (nd (ks.map λk=>ix (SK ps s) k F)) (.inl (k:Int)) (.int (v:Int)))),.sh (SK ps s k)]:Ds) else none)=_;rw[if_pos (by unfold kd;rw[List.length_map];omega)];unfold W8 W9 mS;rw[J,if_neg (by simp),if_neg (by simp),vw0,List.map_append,G6,← h2];rw[show ks.map (λk=>ix (SK ps s) k F')=ks.map (λk=>ix (SK ps s) k F) from L5 h1];rfl
 refine v5 (j6 e1) (v5 (δ':=mS ps s c (fk (SK ps s) F [k]) (ks++[k]) (.sh (.int (k:Int))) (.sh (SK ps s k))) ?_ rfl);show Option.bind (xj0 4 (gv 6) (z30 4) (mS ps s c F ks (.sh (.int (k:Int))) (.sh (SK ps s k)))) _=_
 by_cases h:∃b,b∈F/\SK ps s b=SK ps s k
 ·rw[d1 h,K5 h]
  show Option.map Res.nx (putAt 5 (gv 2) (.int ((ix (SK ps s) k F:Nat):Int)) (mS ps s c F ks (.sh (.int (k:Int))) (.sh (SK ps s k))))=_;rw[show mS ps s c F ks (.sh (.int (k:Int))) (.sh (SK ps s k))=[.sh (wd ps),.sh (gD (Rg ps.length) s),.sh (.int (k:Int)),.sh (.int (c:Int)),.ow (.tup [.lst (F.map (SK ps s)),.lst (nd (List.range' 0 F.length))]),.ow (.dct (.inl (kd ks)) (nd (ks.map λk=>ix (SK ps s) k F))),.sh (SK ps s k)] from rfl,put F (ix (SK ps s) k F) (λ_ _=>rfl) rfl];rfl
 ·rw[d2 h,O7 h]
  show Option.map Res.nx (putAt 5 (gv 2) (.int (F.length:Int)) [.sh (wd ps),.sh (gD (Rg ps.length) s),.sh (.int (k:Int)),.sh (.int (c:Int)),.ow (.tup [.lst ((F++[k]).map (SK ps s)),.lst (nd (List.range' 0 (F++[k]).length))]),.ow (.dct (.inl (kd ks)) (nd (ks.map λk=>ix (SK ps s) k F))),.sh (SK ps s k)])=_;rw[put (F++[k]) F.length (λa ha=>q30 [k] (hF a ha)) (jt0 h)];rfl
theorem gz0(n:Nat):Y7 0 (n:Int)=nd (Rg n):=Ta.wr0 n
theorem cv0{d:D}(h:(nd r)[j]?=some d):∃hj:j<r.length,d=.int (r[j]:Int):=by
 have J:j<r.length:=by
  have:=(D0.mp h).1
  rwa [S7] at this
 refine⟨J,?_⟩;unfold nd at h;rw[List.getElem?_map,List.getElem?_eq_getElem J] at h;exact(A8 h).symm
theorem le0(hr:r.Nodup)(hj:j<r.length):r.take (j+1)=r.take j++[r[j]]/\r[j]∉r.take j:=by
 refine⟨by rw[List.take_succ,List.getElem?_eq_getElem hj];rfl,λz=>?_⟩;have q:(r.take j++r.drop j).Nodup:=by rw[List.take_append_drop];exact hr
 exact(m4.mp q).2.2 _ z _ (by rw[List.drop_eq_getElem_cons hj];exact A5) rfl
theorem Wq0(hp:Web ps)(s:Nat->Nat)(c:Nat)(s2 s6:Sl):∃t2 t6,U3 (gN 2) MB (Y7 0 (ps.length:Int)) (mS ps s c [] [] s2 s6)=some (.nx (mS ps s c (fk (SK ps s) [] (Rg ps.length)) (Rg ps.length) t2 t6)):=by
 have O:=hp.len.2;rw[gz0];obtain⟨δ',l1,t2,t6,rfl⟩:=T9 (f:=gN 2) (G:=MB) (λi δ=>∃s2 s6:Sl,δ=mS ps s c (fk (SK ps s) [] ((Rg ps.length).take i)) ((Rg ps.length).take i) s2 s6) (nd (Rg ps.length)) 0 (mS ps s c [] [] s2 s6) (by
  rintro j d δ hj ⟨s2,s6,rfl⟩;rw[Nat.zero_add];obtain⟨J,rfl⟩:=cv0 hj;obtain⟨tk,M⟩:=le0 (i70 ps.length) J;have sub:∀a∈fk (SK ps s) [] ((Rg ps.length).take j),a∈Rg ps.length:=λa ha=>Y3 (X7 _ ha)
  have lf:=sub_len (yz0 (M5 (SK ps s) ((Rg ps.length).take j))) sub;rw[uc0] at lf;have lr:=uc0 ps.length;refine⟨mS ps s c (fk (SK ps s) [] ((Rg ps.length).take j)) ((Rg ps.length).take j) (.sh (.int ((Rg ps.length)[j]:Int))) s6,_,rfl,T20 hp s c (M6.mp (B7 J)) M (λa ha=>M6.mp (sub a ha)) (λa ha=>G4 _ _ [] a ha) (by omega) (by rw[List.length_take];omega) s6,.sh (.int ((Rg ps.length)[j]:Int)),.sh (SK ps s (Rg ps.length)[j]),?_⟩;rw[tk,ub0]) ⟨s2,s6,rfl⟩
 rw[Nat.zero_add,S7,List.take_length] at l1;exact⟨t2,t6,l1⟩
def MW:GS:=(v4 (o10 4)
 (v4 (T3 5 (gc (.dct (.inl []) [])))
 (v4 (S6 (T6 (z8 (oA (z8 (gv 0) v6) Y0) v6)) (gN 2)
 MB)
 (v4 (pi0 5 (n6 (gN 1) (gv 5)))
 (v4 (ifD (ob (o2 (z30 4) (gv 3) eqD))
 (v4 (j9 (gv 3))
 u9)
 u9)
 (v4 (n6 (gN 3) (z30 4))
 u9))))))
def xS(ps:List Pt)(n:Nat)(s2 s4 s5 s6:Sl):Ds:=[.sh (wd ps),.sh (gD (Rg ps.length) (ss ps n)),s2,.sh (.int (cc ps n:Int)),s4,s5,s6]
theorem bs0(hp:Web ps)(n:Nat)(s2 s4 s5 s6:Sl):(cc ps (n+1)=cc ps n->MW (xS ps n s2 s4 s5 s6)=some (.rt (.int (cc ps n:Int))))/\(cc ps (n+1)≠cc ps n->∃t2 t4 t5 t6,MW (xS ps n s2 s4 s5 s6)=some (.nx (xS ps (n+1) t2 t4 t5 t6))):=by
 have M:=hp.len.2;obtain⟨t2,t6,lo⟩:=Wq0 hp (ss ps n) (cc ps n) s2 s6;have e4:∀(s1 s5:Sl),z30 4 [.sh (wd ps),s1,t2,.sh (.int (cc ps n:Int)),.ow (.tup [.lst ((fk (SK ps (ss ps n)) [] (Rg ps.length)).map (SK ps (ss ps n))),.lst (nd (List.range' 0 (fk (SK ps (ss ps n)) [] (Rg ps.length)).length))]),s5,t6]=some (.int (cc ps (n+1):Int)):=λs1 s5=>by
  show some (D.int (((fk (SK ps (ss ps n)) [] (Rg ps.length)).map (SK ps (ss ps n))).length:Int))=_;rw[List.length_map];rfl
 have J:∀(rest:GS),v4 (o10 4) (v4 (T3 5 (gc (.dct (.inl []) []))) (v4 (S6 (T6 (z8 (oA (z8 (gv 0) v6) Y0) v6)) (gN 2) MB) (v4 (pi0 5 (n6 (gN 1) (gv 5))) rest))) (xS ps n s2 s4 s5 s6)=rest [.sh (wd ps),.sh (gD (Rg ps.length) (ss ps (n+1))),t2,.sh (.int (cc ps n:Int)),.ow (.tup [.lst ((fk (SK ps (ss ps n)) [] (Rg ps.length)).map (SK ps (ss ps n))),.lst (nd (List.range' 0 (fk (SK ps (ss ps n)) [] (Rg ps.length)).length))]),.sh (gD (Rg ps.length) (ss ps (n+1))),t6]:=λrest =>
  v5 (δ':=[.sh (wd ps),.sh (gD (Rg ps.length) (ss ps n)),s2,.sh (.int (cc ps n:Int)),.ow (.tup [.lst [],.lst []]),s5,s6]) rfl (v5 (δ':=mS ps (ss ps n) (cc ps n) [] [] s2 s6) rfl (v5 (R0 (items:=Y7 0 (ps.length:Int)) (J7 (n:=(ps.length:Int)) (cons_of (Ta.v20 ps _ rfl) rfl) (by omega) (by omega)) lo) (v5 rfl rfl)))
 have te:∀(s1 s5:Sl),ob (o2 (z30 4) (gv 3) eqD) [.sh (wd ps),s1,t2,.sh (.int (cc ps n:Int)),.ow (.tup [.lst ((fk (SK ps (ss ps n)) [] (Rg ps.length)).map (SK ps (ss ps n))),.lst (nd (List.range' 0 (fk (SK ps (ss ps n)) [] (Rg ps.length)).length))]),s5,t6]=some (decide (cc ps (n+1)=cc ps n)):=λs1 s5=>Bw.yh0 (by
  rw[o4 (x:=.int (cc ps (n+1):Int)) (y:=.int (cc ps n:Int)) (e4 s1 s5) rfl];show some (D.bl ((cc ps (n+1):Int)==(cc ps n:Int)))=_;congr 2;rw[Bool.eq_iff_iff,beq_iff_eq,decide_eq_true_eq];exact n5)
 unfold MW;rw[J];refine⟨λh=>j4 ?_,λh=>?_⟩
 ·rw[Q6 ((te _ _).trans (by rw[decide_eq_true h]))]
  rfl
 ·refine⟨_,_,_,_,v5 (δ':=[.sh (wd ps),.sh (gD (Rg ps.length) (ss ps (n+1))),t2,.sh (.int (cc ps n:Int)),.ow (.tup [.lst ((fk (SK ps (ss ps n)) [] (Rg ps.length)).map (SK ps (ss ps n))),.lst (nd (List.range' 0 (fk (SK ps (ss ps n)) [] (Rg ps.length)).length))]),.sh (gD (Rg ps.length) (ss ps (n+1))),t6]) ?_ (v5 (j6 (e4 _ _)) rfl)⟩
  rw[d7 ((te _ _).trans (by rw[decide_eq_false h]))];rfl
def ZB:GS:=(v4 (W7 (O9 (gc (.int 0))) (putAt 1 (gv 2))) u9)
theorem c70{gt:DL.GB}{G:GS}{f:Nat}(h:gt δ=some true)(hb:G δ=some (.nx δ')):Z5 gt G (f+1) δ=Z5 gt G f δ':=by
 conv=>lhs;unfold Z5
 rw[h];dsimp only;rw[hb]
theorem c00{gt:DL.GB}{G:GS}{f:Nat}{d:D}(h:gt δ=some true)(hb:G δ=some (.rt d)):Z5 gt G (f+1) δ=some (.rt d):=by
 conv=>lhs;unfold Z5
 rw[h];dsimp only;rw[hb]
theorem gx0(hp:Web ps){N:Nat}(h1:cc ps (N+1)=cc ps N)(h2:∀n,n<N->cc ps (n+1)≠cc ps n):∀(d n f:Nat) (s2 s4 s5 s6:Sl),n+d=N->d<f->Z5 (ob (gc (.bl true))) MW f (xS ps n s2 s4 s5 s6)=some (.rt (.int (cc ps N:Int)))
 | 0,n,0,_,_,_,_,_,hf=>absurd hf (C7 0)
 | 0,n,f+1,s2,s4,s5,s6,hn,hf=>by
  have:n=N:=hn;subst this;exact c00 rfl ((bs0 hp n s2 s4 s5 s6).1 h1)
 | d+1,n,0,_,_,_,_,_,hf=>absurd hf (Nat.not_lt_zero _)
 | d+1,n,f+1,s2,s4,s5,s6,hn,hf=>by
  obtain⟨t2,t4,t5,t6,e⟩:=(bs0 hp n s2 s4 s5 s6).2 (h2 n (by omega));exact(c70 rfl e).trans (gx0 hp h1 h2 d (n+1) f t2 t4 t5 t6 (by omega) (by omega))
theorem Xg0(hp:Web ps){N:Nat}(hN:N<=60)(h1:cc ps (N+1)=cc ps N)(h2:∀n,n<N->cc ps (n+1)≠cc ps n)(t2:Sl)(q:Nat)(hq:N<q):pi0 1 (Z5 (ob (gc (.bl true))) MW q) [.sh (wd ps),.ow (gD (Rg ps.length) λ_=>0),t2,.sh (.int 0),.un,.un,.un]=some (.rt (.int (cc ps N:Int))) :=
 gx0 hp h1 h2 N 0 q t2 .un .un .un (by omega) hq
theorem j60(hp:Web ps):∃c:Nat,R7 [wd ps]=some (.int (c:Int))/\c<=ps.length/\(c=ps.length↔∀i j,A ps ps i j->i=j):=by
 have zs:(1000:Nat)<=sizeLine:=by decide
 have Z:=hp.len.2;obtain⟨N,hN,h1,h2⟩:=X90 hp;refine⟨cc ps N,?_,nv0 N,eh0 hp h1⟩;obtain⟨δ',l1,t2,rfl⟩:=T9 (f:=gN 2) (G:=ZB) (λi δ=>∃s2:Sl,δ=[.sh (wd ps),.ow (gD ((Rg ps.length).take i) λ_=>0),s2,.un,.un,.un,.un]) (nd (Rg ps.length)) 0 [.sh (wd ps),.ow (.dct (.inl []) []),.un,.un,.un,.un,.un] (by
  rintro j d δ hj ⟨s2,rfl⟩;rw[Nat.zero_add];obtain⟨O,rfl⟩:=cv0 hj;obtain⟨tk,M⟩:=le0 (i70 ps.length) O;have lr:=uc0 ps.length;refine⟨[.sh (wd ps),.ow (gD ((Rg ps.length).take j) λ_=>0),.sh (.int ((Rg ps.length)[j]:Int)),.un,.un,.un,.un],_,rfl,v5 (Ua.qj0 (ks:=kd ((Rg ps.length).take j)) (vs:=nd (((Rg ps.length).take j).map λ_=>0)) (k:=(Rg ps.length)[j]) (v:=.int 0) rfl rfl rfl (by unfold kd;rw[List.length_map,List.length_take];omega)) rfl,.sh (.int ((Rg ps.length)[j]:Int)),?_⟩;have J:V8 (kd ((Rg ps.length).take j)) (.inl ((Rg ps.length)[j]:Int))=false:=by rw[wt0,decide_eq_false M]
  unfold W8 W9;rw[J,if_neg (by simp),if_neg (by simp)];unfold gD;rw[tk,vw0,List.map_append,G6];rfl) ⟨.un,rfl⟩
 rw[Nat.zero_add,S7,List.take_length,← gz0] at l1;exact d8 rfl (v5 (δ':=[.sh (wd ps),.ow (.dct (.inl []) []),.un,.un,.un,.un,.un]) rfl (v5 (R0 (items:=Y7 0 (ps.length:Int)) (J7 (n:=(ps.length:Int)) (cons_of (Ta.v20 ps _ rfl) rfl) (by omega) (by omega)) l1) (v5 (δ':=[.sh (wd ps),.ow (gD (Rg ps.length) λ_=>0),t2,.sh (.int 0),.un,.un,.un]) rfl (j4 (Xg0 hp hN h1 h2 t2 100000 (by omega))))))
end Kk
namespace Kk
open DL W K22
open Ta (pa m9 pN)
open Ka (A mr0 ur0 rv0 ls vz0 vc0 oc0 s80)
open Ua (Met dr u50 vv0 yy0 qv0 tn0)
theorem rp0(ns:List Int)(k:Int)(h0:0<=k):∃z,j8 [.lst (ns.map .int),.int k]=some (.int z):=Gw.xm0 ns k h0
theorem Y70(c k:Int)(hk:0<=k/\k<=1000000):∃x,0<=x/\x<2147483647/\V7 [.int c,.int k]=some (.int x):=Gw.tm0 c k hk
theorem kv0(h:Web qs)(x:Int):∃rs,N6 [wd qs,.int x]=some (wd rs)/\Web rs/\rs.length=qs.length:=Ta.i40 h x
theorem gu0(ns:List Int)(hl:ns.length<=63){M:Nat}(hM:0<M/\M<=12):∃ps,zo0 [.lst (ns.map .int),.int (M:Int)]=some (wd ps)/\Web ps/\ps.length<=M:=Fa.ep0 ns hl hM
theorem h50(hp:Web ps){T:Nat}(h:ps.length*T<=60)(hT:0<T/\T<=7)(c:Int):∃qs,zb0 [wd ps,.int (T:Int),.int c]=some (wd qs)/\Web qs/\qs.length=ps.length*T:=by
 obtain⟨qs,e,w,l,_⟩:=Fa.in0 hp h hT c;exact⟨qs,e,w,l⟩
theorem t10(hp:Web ps):∃r g,Met ps r/\Ka.St ps r g/\∃r',Met (ls ps r g) r'/\wn0 [wd ps]=some (wd (dr (ls ps r g) r')):=Ka.t10 hp
def IB:GS:=(v4 (ifD (yf0 (ob (V4 isBool (gv 2))) (wb0 (ob (V4 isTup (gv 2))) (ob (V4 isBool (o2 (gv 2) (gc (.int 1)) ixD)))))
 (v4 (j9 (gc (.bl false)))
 u9)
 u9)
 u9)
def IA:GS:=(v4 (ifD (yf0 (xx0 (ob (V4 isTup (gv 1)))) (yf0 (ob (o2 (oA (z8 (gv 1) v6) Y0) (gc (.int 2)) ltD)) (xx0 (ob (V4 isStr (o2 (gv 1) (gc (.int 0)) ixD))))))
 (v4 (j9 (gc (.bl false)))
 u9)
 u9)
 (v4 (S6 (K1 (oA (z8 (gv 1) v6) o7)) (gN 2)
 IB)
 u9))
theorem Ub0(a b:Sl){v:D}(h:Lv n v):IB [a,b,.sh v]=some (.nx [a,b,.sh v]):=by
 rcases h with rfl|⟨z,rfl⟩|⟨j,rfl,_⟩<;>rfl
theorem jn0(a b:Sl):∀(vs:List D) (c:Sl),(∀v∈vs,Lv n v)->∃c',U3 (gN 2) IB vs [a,b,c]=some (.nx [a,b,c'])
 | [],c,_=>⟨c,rfl⟩
 | v::vs,c,h=>by
  obtain⟨c',e⟩:=jn0 a b vs (.sh v) λu hu=>h u (A3 _ hu)
  refine⟨c',?_⟩
  conv=>lhs;unfold U3
  show (match IB [a,b,.sh v] with|some (.nx δ')=>U3 (gN 2) IB vs δ'|some (.ct δ')=>U3 (gN 2) IB vs δ'|some (.bk δ')=>some (.nx δ')|r=>r)=_;rw[Ub0 a b (h v A5)];exact e
theorem Up0(a c:Sl){p:Pt}(h:Pw n p):∃c',IA [a,.sh p.d,c]=some (.nx [a,.sh p.d,c']):=by
 obtain⟨c',e⟩:=jn0 a (.sh p.d) p.vals c h.lv;refine⟨c',v5 (δ':=[a,.sh p.d,c]) ?_ (v5 (R0 (items:=p.vals) ?_ e) rfl)⟩
 ·rw[d7 (by cases p<;>rfl)];rfl
 ·show Option.bind (oA (z8 (gv 1) v6) o7 [a,.sh p.d,c]) sl0=_
  rw[o8 (ds:=[p.d]) rfl,show o7 [p.d]=some (.lst p.vals) from Gw.yn0 p h.f];rfl
theorem jo0(a:Sl):∀(ps:List Pt) (b c:Sl),(∀p∈ps,Pw n p)->∃b' c',U3 (gN 1) IA (ps.map Pt.d) [a,b,c]=some (.nx [a,b',c'])
 | [],b,c,_=>⟨b,c,rfl⟩
 | p::ps,b,c,h=>by
  obtain⟨c1,e1⟩:=Up0 a c (h p A5);obtain⟨b',c',e⟩:=jo0 a ps (.sh p.d) c1 λu hu=>h u (A3 _ hu)
  refine⟨b',c',?_⟩;rw[List.map_cons]
  conv=>lhs;unfold U3
  show (match IA [a,.sh p.d,c] with|some (.nx δ')=>U3 (gN 1) IA (ps.map Pt.d) δ'|some (.ct δ')=>U3 (gN 1) IA (ps.map Pt.d) δ'|some (.bk δ')=>some (.nx δ')|r=>r)=_;rw[e1];exact e
theorem bu0(h:Web ps):zu0 [wd ps]=some (.bl true):=by
 obtain⟨b',c',e⟩:=jo0 (.sh (wd ps)) ps .un .un h.pw;refine d8 rfl (v5 (δ':=[.sh (wd ps),.un,.un]) ?_ (v5 (R0 (items:=ps.map Pt.d) rfl e) (j4 rfl)))
 change ifD _ _ _ [.sh (wd ps),.un,.un]=_
 rw[d7 (by
  unfold yf0;rw[show xx0 (ob (V4 isTup (gv 0))) [.sh (wd ps),.un,.un]=some false from rfl,Option.bind_some,if_neg (by simp)];refine Bw.yh0 ?_;rw[o4 (x:=wd ps) (y:=.tup []) rfl rfl];refine Pn.Tz0 (tn0 h) ⟨by rfl,by rfl⟩ λz=>?_
  unfold wd at z;injection z with z
  have:=h.len.1;rw[List.map_eq_nil_iff.mp z] at this;exact absurd this (C7 0))]
 rfl
theorem ej0(h:r.Nodup)(hi:i<r.length):r.idxOf r[i]=i:=by
 have h1:r.idxOf r[i]<r.length:=b6 (B7 hi);exact(i5 (h₀:=h1) (h₁:=hi) h).mp (List.getElem_idxOf h1)
def kS(ns:List Int)(t:Int)(qs W:List Pt)(s4:Sl):Ds:=[.sh (.lst (ns.map .int)),.sh (.int t),.sh (wd qs),.sh (wd W),s4]
theorem dx0(ns:List Int)(hl:ns.length<=63):sj0 [.lst (ns.map .int)]=some (.bl true):=by
 have zs:(4000:Nat)<=sizeLine:=by decide
 obtain⟨ps,O,a8,l9⟩:=gu0 ns hl (M:=9) (by decide);obtain⟨t,ht⟩:=rp0 ns 4 (by decide);obtain⟨c5,h5⟩:=rp0 ns 5 (by decide);obtain⟨c6,h6⟩:=rp0 ns 6 (by decide);obtain⟨x6,_,_,a7⟩:=Y70 c6 9 (by decide);obtain⟨T,hT,eT⟩:∃T:Nat,(0<T/\T<=6)/\1+t%6=(T:Int):=⟨(1+t%6).toNat,by omega,by omega⟩;have lT:ps.length*T<=54:=Nat.mul_le_mul l9 hT.2;obtain⟨q1,a4,w1,n1⟩:=h50 a8 (T:=T) (by omega) ⟨hT.1,by omega⟩ c5;obtain⟨q3,a0,w3,n3⟩:=kv0 w1 x6;have ce:∀(k z:Int) (δ:Ds),j8 [.lst (ns.map .int),.int k]=some (.int z)->oA (z8 (gv 0) (z8 (gc (.int k)) v6)) j8 (.sh (.lst (ns.map .int))::δ)=some (.int z):=λk z δ h=>by rw[o8 (ds:=[.lst (ns.map .int),.int k]) rfl];exact h
 obtain⟨qs,wq,e5⟩:∃qs:List Pt,Web qs/\ifD (ob (o2 (o2 (o2 (gv 1) (gc (.int 6)) W4) (gc (.int 2)) d9) (gc (.int 1)) zy0))
   (v4 (n6 (gN 2) (oA (z8 (gv 2) (z8 (oA (z8 (oA (z8 (gv 0) (z8 (gc (.int 6)) v6)) j8) (z8 (gc (.int 9)) v6)) V7) v6)) N6)) u9) u9
   [.sh (.lst (ns.map .int)),.sh (.int t),.sh (wd q1),.un,.un]=some (.nx [.sh (.lst (ns.map .int)),.sh (.int t),.sh (wd qs),.un,.un]):=by
  have hb:ob (o2 (o2 (o2 (gv 1) (gc (.int 6)) W4) (gc (.int 2)) d9) (gc (.int 1)) zy0) [.sh (.lst (ns.map .int)),.sh (.int t),.sh (wd q1),.un,.un]=some (t/6%2==1):=Bw.yh0 (by
   rw[o4 (x:=.int (t/6%2)) (y:=.int 1) (by rw[o4 (x:=.int (t/6)) (y:=.int 2) (by rw[o4 (x:=.int t) (y:=.int 6) rfl rfl];exact Gw.ek0 _ _ (by decide)) rfl];exact Gw.yt0 _ _ (by decide)) rfl];rfl)
  cases hc:(t/6%2==1) with
  | true =>
   rw[hc] at hb;refine⟨q3,w3,?_⟩;rw[Q6 hb];refine v5 (j6 (d:=wd q3) ?_) rfl;rw[o8 (ds:=[wd q1,.int x6]) (cons_of rfl (cons_of (by
    rw[o8 (ds:=[.int c6,.int 9]) (cons_of (ce 6 c6 _ h6) rfl)];exact a7) rfl))]
   exact a0
  | false =>
   rw[hc] at hb;refine⟨q1,w1,?_⟩;rw[d7 hb];rfl
 obtain⟨r,g,m,s,r',m',eL⟩:=t10 wq;have wl:=vz0 wq m s;have wW:=(yy0 wl m').1;have a1:=vc0 wq m s m.zero;rw[oc0 m s] at a1;have a2:=a1.trans wq wl wW (rv0 wl m');have a3:=a2.symm wq wW;obtain⟨mW,dW⟩:=u50 wl wW m' (vv0 wl m');have uW:∀i j,A (dr (ls qs r g) r') (dr (ls qs r g) r') i j->i=j:=by
  have back:∀i,i<(dr (ls qs r g) r').length->∃k∈r',r'.idxOf k=i/\A (ls qs r g) (dr (ls qs r g) r') k i:=λi hi=>by
   rw[(yy0 wl m').2] at hi;have I:=vv0 wl m';have:=A.map wl wW (·∈r') (λj=>r'.idxOf j) (λa ha=>⟨m'.lt a ha,(I.img a ha).1,(I.img a ha).2,λj hj=>Ka.ya0 wl m' ha hj⟩) (B7 hi);rw[ej0 m'.nd hi] at this;exact⟨r'[i],B7 hi,ej0 m'.nd hi,this⟩
  intro i j a;obtain⟨k,_,ek,ak⟩:=back i a.1;obtain⟨l,_,el,al⟩:=back j a.2.1;have:=s80 wq m s ((ak.trans wl wW wW a).trans wl wW wl (al.symm wl wW));rw[← ek,← el,this]
 generalize hW:dr (ls qs r g) r'=W at eL wW a2 a3 mW dW uW;obtain⟨c,ec,cl,ci⟩:=j60 wW;have hc:c=W.length:=ci.mpr uW;obtain⟨rW,gW,m2,s2,r2,a6,a5⟩:=t10 wW;have same:wd (dr (ls W rW gW) r2)=wd W:=by
  have J:=vz0 wW m2 s2;have b1:=vc0 wW m2 s2 m2.zero;rw[oc0 m2 s2] at b1;have k:=ur0 J wW (λi j=>s80 wW m2 s2) uW (b1.symm wW J) a6 mW λs' ms=>by
   have h1:=wk0 wW ms;rw[wk0 wW mW] at h1;exact(mr0 (A8 h1)).symm
  rw[k,dW]
 have wO:=(yy0 wq m).1;obtain⟨mO,dO⟩:=u50 wq wO m (vv0 wq m);obtain⟨d,ed,dl,di⟩:=j60 wO;have own:d=(dr qs r).length->W=dr qs r:=λz=>by
  have uO:=di.mp z;have k:=ur0 wW wO uW uO (a3.trans wW wq wO (rv0 wq m)) mW mO λs' ms=>by
   have h1:=wk0 wO ms;rw[wk0 wO mO] at h1;exact(mr0 (A8 h1)).symm
  rw[dW,dO] at k;exact k
 obtain⟨sh,Z⟩:=az0 wW wq uW a3;have ln:∀(X:List Pt) (i:Nat) (δ:Ds),gv i δ=some (wd X)->oA (z8 (gv i) v6) Y0 δ=some (.int (X.length:Int)):=λX i δ h=>Ta.v20 X δ h
 refine d8 rfl (v5 (δ':=[.sh (.lst (ns.map .int)),.sh (.int t),.un,.un,.un]) (j6 (d:=.int t) (ce 4 t _ ht)) (v5 (δ':=[.sh (.lst (ns.map .int)),.sh (.int t),.sh (wd q1),.un,.un]) (j6 (d:=wd q1) ?_) (v5 e5 (v5 (δ':=kS ns t qs W .un) (j6 (d:=wd W) ?_) (v5 (δ':=kS ns t qs W .un) ?_ (v5 (δ':=kS ns t qs W .un) ?_ (v5 (δ':=kS ns t qs W .un) ?_ (v5 (δ':=kS ns t qs W (.sh (wd (dr qs r)))) (j6 (d:=wd (dr qs r)) ?_) (j4 (X3 ?_))))))))))
 ·rw[o8 (ds:=[wd ps,.int (T:Int),.int c5]) (cons_of (by rw[o8 (ds:=[.lst (ns.map .int),.int 9]) rfl];exact O) (cons_of (by
   rw[o4 (x:=.int 1) (y:=.int (t%6)) rfl (by rw[o4 (x:=.int t) (y:=.int 6) rfl rfl];exact Gw.yt0 _ _ (by decide)),← eT];rfl) (cons_of (ce 5 c5 _ h5) rfl)))]
  exact a4
 ·rw[o8 (ds:=[wd qs]) rfl]
  exact eL
 ·change ifD _ _ _ (kS ns t qs W .un)=_
  rw[d7 (by
   unfold yf0 xx0;rw[Bw.yh0 (b:=true) (by rw[o8 (ds:=[wd W]) rfl];exact bu0 wW)];show Option.bind (some false) _=_;rw[Option.bind_some,if_neg (by simp)];refine Bw.yh0 ?_;rw[o4 (x:=wd W) (y:=wd W) (by rw[o8 (ds:=[wd W]) rfl,wk0 wW mW,dW]) rfl];exact Pn.kd0 (tn0 wW).le)]
  rfl
 ·change ifD _ _ _ (kS ns t qs W .un)=_
  rw[d7 (by
   unfold yf0;rw[Bw.yh0 (b:=false) (by
    rw[o4 (x:=.lst sh) (y:=.non) (by
     rw[o8 (ds:=[wd W,wd qs,pN (0,0)]) (cons_of rfl (cons_of rfl (cons_of (R3 (cons_of rfl (cons_of rfl rfl)) (by show 2<=sizeLine;omega)) rfl)))];exact Z) rfl]
    rfl),Option.bind_some,if_neg (by simp)]
   refine Bw.yh0 ?_;rw[o4 (x:=.int (c:Int)) (y:=.int (W.length:Int)) (by rw[o8 (ds:=[wd W]) rfl];exact ec) (ln W 3 _ rfl),hc];exact Pn.kd0 (by simp[lean]))]
  rfl
 ·change ifD _ _ _ (kS ns t qs W .un)=_
  rw[d7 (Bw.yh0 (b:=false) (by
   rw[o4 (x:=wd W) (y:=wd W) (by rw[o8 (ds:=[wd W]) rfl,a5,same]) rfl];exact Pn.kd0 (tn0 wW).le))]
  rfl
 ·rw[o8 (ds:=[wd qs]) rfl]
  exact wk0 wq m
 ·show orG _ _ (kS ns t qs W (.sh (wd (dr qs r))))=_
  have e1:o2 (oA (z8 (gv 4) v6) R7) (oA (z8 (gv 4) v6) Y0) ltD (kS ns t qs W (.sh (wd (dr qs r))))=some (.bl (decide ((d:Int)<((dr qs r).length:Int)))):=by
   rw[o4 (x:=.int (d:Int)) (y:=.int ((dr qs r).length:Int)) (by rw[o8 (ds:=[wd (dr qs r)]) rfl];exact ed) (ln (dr qs r) 4 _ rfl)];rfl
  by_cases z:d=(dr qs r).length
  ·unfold orG
   rw[Bw.yh0 (b:=false) (by rw[e1,decide_eq_false (by omega)]),Option.bind_some,if_neg (by simp)];rw[o4 (x:=wd W) (y:=wd (dr qs r)) rfl rfl,← own z];exact Pn.S00 (tn0 wW).le
  ·unfold orG
   rw[Bw.yh0 (b:=true) (by rw[e1,decide_eq_true (by omega)]),Option.bind_some,if_pos rfl]
end Kk
namespace Kk
open L2 DL W
def top(i:Nat):Stmt:=PySem.Challenge.pw_graphpack_k15_least_webs.main.body.getD i (.Pass ⟨0,0,0,0⟩)
theorem b_bool:bootBuiltins "bool"=some (.type "bool"):=by decide +kernel
theorem b_dict:bootBuiltins "dict"=some (.type "dict"):=by decide +kernel
theorem b_int:bootBuiltins "int"=some (.type "int"):=by decide +kernel
theorem b_list:bootBuiltins "list"=some (.type "list"):=by decide +kernel
theorem b_sorted:bootBuiltins "sorted"=some (.builtin "sorted"):=by decide +kernel
theorem b_str:bootBuiltins "str"=some (.type "str"):=by decide +kernel
theorem b_tuple:bootBuiltins "tuple"=some (.type "tuple"):=by decide +kernel
theorem b_zip:bootBuiltins "zip"=some (.type "zip"):=by decide +kernel
structure Txt(mg:Str->Option Value):Prop where
 b_bool:mg "bool"=none
 b_dict:mg "dict"=none
 b_enumerate:mg "enumerate"=none
 b_int:mg "int"=none
 b_isinstance:mg "isinstance"=none
 b_len:mg "len"=none
 b_list:mg "list"=none
 b_range:mg "range"=none
 b_reversed:mg "reversed"=none
 b_sorted:mg "sorted"=none
 b_str:mg "str"=none
 b_tuple:mg "tuple"=none
 b_zip:mg "zip"=none
theorem fsc{P:List Str}(a:sc.kind=.function)(b:sc.isCoroutine=false)(c:sc.isGenerator=false)(d:N.take P.length=P)(e:N.Nodup/\(∀x∈P,sc.names.lookup x=some .local∨sc.names.lookup x=some .cell)/\∀y∈sc.names,y.2≠.free):FnScope N P sc:=⟨a,b,c,e.1,d,e.2.1,e.2.2⟩
theorem cok(a:scope.kind=.function)(b:N'.length=n+caps.length)(c:(∀y∈scope.names,y.2≠.cell)/\(∀y∈scope.names,y.2=.local->scope.names.lookup y.1=some .local)/\(∀y∈scope.names,y.2=.free->sc.names.lookup y.1=some .cell∨sc.names.lookup y.1=some .free)/\N'.Nodup/\∀k∈List.range caps.length,N'[n+k]?=(caps[k]?).bind (N[·]?)/\(N'[n+k]?).all (λy=>scope.names.lookup y==some .free)=true):CompOk sc scope N N' n caps:=⟨a,c.1,c.2.1,c.2.2.1,c.2.2.2.1,b,c.2.2.2.2⟩
section
variable{P:Program}{w:World}
theorem nr0:FnScope ww0 ["part"] (p6 (top 1)):=fsc rfl rfl rfl rfl (by decide +kernel)
theorem nk0(F:Fun K "pair_names" "pair_names" (top 1) fa fd)(T:Txt mg)  : FnOk P w K mg base CX0 1 fa fd ["part"] (spN K N8) :=
 okN (k:=0) (G:=sf0) F nr0 (λcdv A outer s H E hr=>(z7 (j5 (PWD.pt (wy0 (m7 Q5 U7 (o5 (z9 0) v9) g8) (wj0 (m7 Q5 U7 (o5 (z9 0) v9) g8))))
   (z7 (M4 (R6 v7))
   v8)
   v8)
   (z7 (M4 (v40 (sc:=p6 (top 1)) (N:=ww0) (N':=["pair"]) (n:=1) (caps:=[]) (by exact cok rfl rfl (by decide +kernel)) (by decide) (vx0 (o5 (z9 0) (v10 v9))) (λcl s H ex=>p7 0 (by decide +kernel:(["pair"]:List Str).Nodup)) (λcl s H ex=>Q0) (λcl s H ex=>(o5 (z9 0) v9))))
   v8))) (λds d h=>y20 h)
theorem Yk0:FnScope ea0 ["part"] (p6 (top 2)):=fsc rfl rfl rfl rfl (by decide +kernel)
theorem Zs0(F:Fun K "head" "head" (top 2) fa fd)(T:Txt mg)(C_pair_names:FnN P w K mg base "pair_names" 1 ["part"] N8):FnOk P w K mg base CX0 2 fa fd ["part"] (spD K u10) :=
 okD (k:=1) (G:=fv0) F Yk0 (λcdv A outer s H E hr=>(z7 (j5 (m7 Q5 U7 (o5 (z9 0) v9) g8)
   (z7 (m5 (X6 (w6 g8 (w6 (o5 (z9 0) v9) v7))))
   v8)
   v8)
   (z7 (j5 (m7 Q5 U7 (o5 (z9 0) v9) g8)
   (z7 (m5 (X6 (w6 g8 (w6 (S8 T.b_len (w6 (o5 (z9 0) v9) v7)) v7))))
   v8)
   v8)
   (z7 (j5 (m7 Q5 U7 (o5 (z9 0) v9) g8)
   (z7 (m5 (X6 (w6 g8 (w6 (V1 Z9 G3 T.b_tuple b_tuple (w6 (R9 C_pair_names hr (by decide) (w6 (z9 0) v7)) v7)) v7))))
   v8)
   v8)
   (z7 (m5 (X6 (w6 g8 (w6 (o5 (z9 0) v9) (w6 (V1 Z9 G3 T.b_tuple b_tuple (w6 (R9 C_pair_names hr (by decide) (w6 (z9 0) v7)) v7)) v7)))))
   v8))))) (λds d h=>V3 h)
theorem fa0:FnScope ru0 ["part"] (p6 (top 3)):=fsc rfl rfl rfl rfl (by decide +kernel)
theorem go0(F:Fun K "values" "values" (top 3) fa fd)(T:Txt mg)  : FnOk P w K mg base CX0 1 fa fd ["part"] (spN K m_values) :=
 okN (k:=0) (G:=l70) F fa0 (λcdv A outer s H E hr=>(z7 (j5 (m7 Q5 U7 (o5 (z9 0) v9) g8)
   (z7 (M4 (R6 v7))
   v8)
   v8)
   (z7 (j5 (m7 Q5 U7 (o5 (z9 0) v9) g8)
   (z7 (M4 (ki0 T.b_list b_list (o5 (z9 0) v9)))
   v8)
   v8)
   (z7 (M4 (v40 (sc:=p6 (top 3)) (N:=ru0) (N':=["pair"]) (n:=1) (caps:=[]) (by exact cok rfl rfl (by decide +kernel)) (by decide) (vx0 (o5 (z9 0) (v10 v9))) (λcl s H ex=>p7 0 (by decide +kernel:(["pair"]:List Str).Nodup)) (λcl s H ex=>Q0) (λcl s H ex=>(o5 (z9 0) v9))))
   v8)))) (λds d h=>y20 h)
theorem u30:FnScope t80 ["part", "some"] (p6 (top 4)):=fsc rfl rfl rfl rfl (by decide +kernel)
theorem o90(F:Fun K "with_values" "with_values" (top 4) fa fd)(T:Txt mg)(C_pair_names:FnN P w K mg base "pair_names" 1 ["part"] N8):FnOk P w K mg base CX0 2 fa fd ["part", "some"] (spD K zd0) :=
 okD (k:=1) (G:=t50) F u30 (λcdv A outer s H E hr=>(z7 (j5 (m7 Q5 U7 (o5 (z9 0) v9) g8)
   (z7 (m5 (z9 0))
   v8)
   v8)
   (z7 (j5 (m7 Q5 U7 (o5 (z9 0) v9) g8)
   (z7 (m5 (X6 (w6 g8 (w6 (V1 Z9 G3 T.b_tuple b_tuple (w6 (z9 1) v7)) v7))))
   v8)
   v8)
   (z7 (n8 (e60 o00 fn0 T.b_tuple T.b_zip b_tuple b_zip (w6 (R9 C_pair_names hr (by decide) (w6 (z9 0) v7)) (w6 (z9 1) v7))) (p7 2 u30.nd))
   (z7 (j5 (m7 Q5 U7 (o5 (z9 0) v9) g8)
   (z7 (m5 (X6 (w6 g8 (w6 (z9 2) v7))))
   v8)
   v8)
   (z7 (m5 (X6 (w6 g8 (w6 (o5 (z9 0) v9) (w6 (z9 2) v7)))))
   v8)))))) (λds d h=>V3 h)
theorem cl0:FnScope pv0 ["part"] (p6 (top 5)):=fsc rfl rfl rfl rfl (by decide +kernel)
theorem dc0(F:Fun K "links" "links" (top 5) fa fd)(T:Txt mg)(C_values:FnN P w K mg base "values" 1 ["part"] m_values):FnOk P w K mg base CX0 2 fa fd ["part"] (spN K yl0) :=
 okN (k:=1) (G:=jm0) F cl0 (λcdv A outer s H E hr=>(z7 (M4 (v40 (sc:=p6 (top 5)) (N:=pv0) (N':=["value"]) (n:=1) (caps:=[]) (by exact cok rfl rfl (by decide +kernel)) (by decide) (R5 (R9 C_values hr (by decide) (w6 (z9 0) v7))) (λcl s H ex=>p7 0 (by decide +kernel:(["value"]:List Str).Nodup)) (λcl s H ex=>(aa0 (Q3 (J4 N5 b_tuple T.b_isinstance T.b_tuple (z9 0))))) (λcl s H ex=>(o5 (z9 0) v9))))
   v8)) (λds d h=>y20 h)
theorem Xv0:FnScope bc0 ["web", "k"] (p6 (top 6)):=fsc rfl rfl rfl rfl (by decide +kernel)
theorem ee0(F:FunV K "met" "met" (top 6) fa fd dV)(T:Txt mg)(C_met_but:FnN P w K mg base "met_but" 3 ["web", "k", "left"] w40):FnOk P w K mg base CX0 4 fa fd ["web", "k"] (spN K xt0) :=
 Tc0 (k:=3) (G:=b40) F Xv0 (λcdv A outer s H E hr=>(z7 (M4 (qw0 C_met_but hr (by decide) (w6 (z9 0) (w6 (z9 1) (w6 c40 v7)))))
   v8)) (λds d h=>y20 h)
theorem yu0:FnScope n80 ["web", "k", "left"] (p6 (top 7)):=fsc rfl rfl rfl rfl (by decide +kernel)
theorem h00(F:Fun K "met_but" "met_but" (top 7) fa fd)(T:Txt mg)(C_links:FnN P w K mg base "links" 2 ["part"] yl0):FnOk P w K mg base CX0 3 fa fd ["web", "k", "left"] (spN K w40) :=
 okN (k:=2) (G:=oe0) F yu0 (λcdv A outer s H E hr=>(z7 (W0 3 (R6 v7) yu0.nd)
   (z7 (W0 4 (he0 T.b_dict b_dict (z9 2)) yu0.nd)
   (z7 (W0 5 (R6 (w6 (z9 1) v7)) yu0.nd)
   (z7 (w60 100000 B8 (m7 i80 ls0 (v50 (S8 T.b_len (w6 (z9 5) v7))) v9)
   (z7 (M7 (lf0 5) (mz0 (p7 6 yu0.nd)))
   (z7 (j5 (sp0 (mf0 (zl0 hr) (z9 6) (z9 4)))
   (z7 (M7 (wh0 yq0) (wo0 4 (zl0 hr) (z9 6)))
   (z7 (U5 (z80 3 (z9 6)))
   (z7 (U5 (Yo0 5 (PDF.pd (cq0 T.b_list T.b_reversed (R9 C_links hr (by decide) (w6 (o5 (z9 0) (z9 6)) v7))))))
   v8)))
   v8)
   v8)))
   (z7 (va0 3)
   v8)))))) (λds d h=>y20 h)
theorem rd0:FnScope uq0 ["part", "numbers"] (p6 (top 8)):=fsc rfl rfl rfl rfl (by decide +kernel)
theorem kr0(F:Fun K "relinked" "relinked" (top 8) fa fd)(T:Txt mg)(C_values:FnN P w K mg base "values" 1 ["part"] m_values)(C_with_values:FnD P w K mg base "with_values" 2 ["part", "some"] zd0):FnOk P w K mg base CX0 3 fa fd ["part", "numbers"] (spD K W2) :=
 okD (k:=2) (G:=qh0) F rd0 (λcdv A outer s H E hr=>(z7 (da0 2 rd0.nd (sc:=p6 (top 8)) (N:=uq0) (N':=["value", "numbers"]) (n:=1) (caps:=[1]) (by exact cok rfl rfl (by decide +kernel)) (by decide) (R5 (R9 C_values hr (by decide) (w6 (z9 0) v7))) (λcl s H ex=>p7 0 (by decide +kernel:(["value", "numbers"]:List Str).Nodup)) (λcl s H ex=>Q0) (λcl s H ex=>(Ua0 (Q3 (J4 N5 b_tuple T.b_isinstance T.b_tuple (z9 0))) (X6 (w6 g8 (w6 (ue0 (zl0 hr) (z9 1) (o5 (z9 0) v9)) v7))) (z9 0))))
   (z7 (m5 (Z1 C_with_values hr (by decide) (w6 (z9 0) (w6 (z9 2) v7))))
   v8))) (λds d h=>V3 h)
theorem uo0:FnScope ps0 ["web", "k"] (p6 (top 9)):=fsc rfl rfl rfl rfl (by decide +kernel)
theorem li0(F:FunV K "drawn" "drawn" (top 9) fa fd dV)(T:Txt mg)(C_met:FnN P w K mg base "met" 4 ["web", "k"] xt0)(C_relinked:FnD P w K mg base "relinked" 3 ["part", "numbers"] W2):FnOk P w K mg base CX0 5 fa fd ["web", "k"] (spD K xk0) :=
 Ty0 (k:=4) (G:=jy0) F uo0 (λcdv A outer s H E hr=>(z7 (n8 (cd0 (qw0 C_met hr (by decide) (w6 (z9 0) (w6 (z9 1) v7)))).pd (p7 2 uo0.nd))
   (z7 (W0 3 ym0 uo0.nd)
   (z7 (V9 B8 rfl (df0 T.b_enumerate (w6 (z9 2) v7)) (uv0 4 5 uo0.nd (by decide))
   (z7 (M7 (wh0 (z9 4)) (wo0 3 (zl0 hr) (z9 5)))
   v8))
   (z7 (z50 (V1 Z9 G3 T.b_tuple b_tuple (w6 (zk0 (sc:=p6 (top 9)) (N:=ps0) (N':=["part", "web", "numbers"]) (n:=1) (caps:=[0,3]) (by exact cok rfl rfl (by decide +kernel)) (by decide) (R5 (z9 2)) (λcl s H ex=>p7 0 (by decide +kernel:(["part", "web", "numbers"]:List Str).Nodup)) (λcl s H ex=>Q0) (λcl s H ex=>(Z1 C_relinked hr (by decide) (w6 (o5 (z9 1) (z9 0)) (w6 (z9 2) v7))))) v7)))
   v8))))) (λds d h=>V3 h)
theorem wp0:FnScope pz0 ["web"] (p6 (top 11)):=fsc rfl rfl rfl rfl (by decide +kernel)
theorem dg0(F:Fun K "least" "least" (top 11) fa fd)(T:Txt mg)(C_look_groups:FnD P w K mg base "look_groups" 4 ["web", "order"] y90)(C_relinked:FnD P w K mg base "relinked" 3 ["part", "numbers"] W2)(Cd_drawn:di0 P w K mg base "drawn" 5 ["web", "k"] xk0 [(.int 0)])(Cd_met:iv0 P w K mg base "met" 4 ["web", "k"] xt0 [(.int 0)]):FnOk P w K mg base CX0 6 fa fd ["web"] (spD K wn0) :=
 okD (k:=5) (G:=jp0) F wp0 (λcdv A outer s H E hr=>(z7 (n8 (Yl0 Cd_met hr (by decide) (w6 (z9 0) v7)) (p7 1 wp0.nd))
   (z7 (n8 (Z1 C_look_groups hr (by decide) (w6 (z9 0) (w6 (z9 1) v7))) (p7 2 wp0.nd))
   (z7 (W0 3 ym0 wp0.nd)
   (z7 (V9 B8 rfl (R5 (z9 1)) (p7 4 wp0.nd)
   (z7 (U5 (Ve0 3 (ue0 (zl0 hr) (z9 2) (z9 4)) (z9 4)))
   v8))
   (z7 (z50 (Yy0 Cd_drawn hr (by decide) (w6 (V1 Z9 G3 T.b_tuple b_tuple (w6 (zk0 (sc:=p6 (top 11)) (N:=pz0) (N':=["group", "web", "groups", "firsts"]) (n:=1) (caps:=[0,2,3]) (by exact cok rfl rfl (by decide +kernel)) (by decide) (T7 T.b_range (w6 (rw0 n70 j90 T.b_len j0 (w6 (z9 3) v7)) v7)) (λcl s H ex=>p7 0 (by decide +kernel:(["group", "web", "groups", "firsts"]:List Str).Nodup)) (λcl s H ex=>Q0) (λcl s H ex=>(Z1 C_relinked hr (by decide) (w6 (o5 (z9 1) (ue0 (zl0 hr) (z9 3) (z9 0))) (w6 (z9 2) v7))))) v7)) v7)))
   v8)))))) (λds d h=>V3 h)
theorem J3:FnScope za0 ["web", "order"] (p6 (top 12)):=fsc rfl rfl rfl rfl (by decide +kernel)
theorem pw0(F:Fun K "look_groups" "look_groups" (top 12) fa fd)(T:Txt mg)(C_grouped:FnN P w K mg base "grouped" 1 ["order", "looks"] z00)(C_head:FnD P w K mg base "head" 2 ["part"] u10)(C_relinked:FnD P w K mg base "relinked" 3 ["part", "numbers"] W2):FnOk P w K mg base CX0 4 fa fd ["web", "order"] (spD K y90) :=
 okD (k:=3) (G:=t40) F J3 (λcdv A outer s H E hr=>(z7 (n8 (R9 C_grouped hr (by decide) (w6 (z9 1) (w6 (zk0 (sc:=p6 (top 12)) (N:=za0) (N':=["k", "web"]) (n:=1) (caps:=[0]) (by exact cok rfl rfl (by decide +kernel)) (by decide) (R5 (z9 1)) (λcl s H ex=>p7 0 (by decide +kernel:(["k", "web"]:List Str).Nodup)) (λcl s H ex=>Q0) (λcl s H ex=>(Z1 C_head hr (by decide) (w6 (o5 (z9 1) (z9 0)) v7)))) v7))) (p7 2 J3.nd))
   (z7 (n8 (R9 C_grouped hr (by decide) (w6 (z9 1) (w6 (zk0 (sc:=p6 (top 12)) (N:=za0) (N':=["k", "web", "groups"]) (n:=1) (caps:=[0,2]) (by exact cok rfl rfl (by decide +kernel)) (by decide) (R5 (z9 1)) (λcl s H ex=>p7 0 (by decide +kernel:(["k", "web", "groups"]:List Str).Nodup)) (λcl s H ex=>Q0) (λcl s H ex=>(Z1 C_relinked hr (by decide) (w6 (o5 (z9 1) (z9 0)) (w6 (z9 2) v7))))) v7))) (p7 3 J3.nd))
   (z7 (w60 100000 B8 (m7 (Xz0 (P4 (C9 _ 64) hr.units)) ac0 (z9 3) (z9 2))
   (z7 (n8 (z9 3) (p7 2 J3.nd))
   (z7 (n8 (R9 C_grouped hr (by decide) (w6 (z9 1) (w6 (zk0 (sc:=p6 (top 12)) (N:=za0) (N':=["k", "web", "groups"]) (n:=1) (caps:=[0,2]) (by exact cok rfl rfl (by decide +kernel)) (by decide) (R5 (z9 1)) (λcl s H ex=>p7 0 (by decide +kernel:(["k", "web", "groups"]:List Str).Nodup)) (λcl s H ex=>Q0) (λcl s H ex=>(Z1 C_relinked hr (by decide) (w6 (o5 (z9 1) (z9 0)) (w6 (z9 2) v7))))) v7))) (p7 3 J3.nd))
   v8)))
   (z7 (m5 (z9 2))
   v8))))) (λds d h=>V3 h)
theorem wd0:FnScope on0 ["order", "looks"] (p6 (top 13)):=fsc rfl rfl rfl rfl (by decide +kernel)
theorem i10(F:Fun K "grouped" "grouped" (top 13) fa fd)(T:Txt mg)  : FnOk P w K mg base CX0 1 fa fd ["order", "looks"] (spN K z00) :=
 okN (k:=0) (G:=ow0) F wd0 (λcdv A outer s H E hr=>(z7 (md0 2 wd0.nd)
   (z7 (W0 3 ym0 wd0.nd)
   (z7 (V9 B8 rfl (Zx0 T.b_zip (w6 (z9 0) (w6 (z9 1) v7))) (uv0 4 5 wd0.nd (by decide))
   (z7 (M7 (ja0 2 (P4 (A40 (by decide:12<=64) _) hr.units) (z9 5) (sr0 2 T.b_len)) (wo0 3 (zl0 hr) (z9 4)))
   v8))
   (z7 (va0 3)
   v8))))) (λds d h=>y20 h)
theorem qp0:FnScope vs0 ["_law_script", "_law_k"] (p6 (top 15)):=fsc rfl rfl rfl rfl (by decide +kernel)
theorem qk0(F:Fun K "_law_cell_at" "_law_cell_at" (top 15) fa fd)(T:Txt mg)  : FnOk P w K mg base CX0 1 fa fd ["_law_script", "_law_k"] (spD K j8) :=
 okD (k:=0) (G:=vr0) F qp0 (λcdv A outer s H E hr=>(z7 (j5 (m7 ve0 w50 (z9 1) (S8 T.b_len (w6 (z9 0) v7)))
   (z7 (m5 (o5 (z9 0) (z9 1)))
   v8)
   v8)
   (z7 (m5 v9)
   v8))) (λds d h=>V3 h)
theorem W3:FnScope xw0 ["_law_cell", "_law_turn"] (p6 (top 16)):=fsc rfl rfl rfl rfl (by decide +kernel)
theorem kf0(F:Fun K "_law_pool" "_law_pool" (top 16) fa fd)(T:Txt mg)  : FnOk P w K mg base CX0 1 fa fd ["_law_cell", "_law_turn"] (spN K y40) :=
 okN (k:=0) (G:=rc0) F W3 (λcdv A outer s H E hr=>(z7 (n8 g8 (p7 2 W3.nd))
   (z7 (n8 (X8 v9 (Z7 (z9 0) v9)) (p7 3 W3.nd))
   (z7 (n8 (S9 (z9 0) v9) (p7 0 W3.nd))
   (z7 (W0 4 (R6 v7) W3.nd)
   (z7 (V9 B8 rfl (T7 T.b_range (w6 (z9 3) v7)) (p7 5 W3.nd)
   (z7 (U5 (z80 4 (Z7 (z9 0) v9)))
   (z7 (n8 (S9 (z9 0) v9) (p7 0 W3.nd))
   v8)))
   (z7 (n8 (v50 (Y10 g8 (w6 (zk0 (sc:=p6 (top 16)) (N:=xw0) (N':=["_law_k", "_law_signs"]) (n:=1) (caps:=[2]) (by exact cok rfl rfl (by decide +kernel)) (by decide) (R5 (z9 4)) (λcl s H ex=>p7 0 (by decide +kernel:(["_law_k", "_law_signs"]:List Str).Nodup)) (λcl s H ex=>Q0) (λcl s H ex=>(o5 (z9 1) (z9 0)))) v7))) (p7 6 W3.nd))
   (z7 (j5 (m7 Q5 U7 (Z7 (S9 (z9 1) v9) v9) v9)
   (z7 (M4 (v40 (sc:=p6 (top 16)) (N:=xw0) (N':=["_law_k", "_law_word"]) (n:=1) (caps:=[6]) (by exact cok rfl rfl (by decide +kernel)) (by decide) (ia0 T.b_range (w6 v9 (w6 v9 v7))) (λcl s H ex=>p7 0 (by decide +kernel:(["_law_k", "_law_word"]:List Str).Nodup)) (λcl s H ex=>Q0) (λcl s H ex=>(z10 (a80 v9 (z9 1)) ye0 (z40 (z9 0))))))
   v8)
   v8)
   (z7 (n8 (Z7 (z9 1) (z9 3)) (p7 7 W3.nd))
   (z7 (W0 8 (R6 v7) W3.nd)
   (z7 (V9 B8 rfl (T7 T.b_range (w6 v9 v7)) (p7 5 W3.nd)
   (z7 (n8 (o5 (z9 2) (Z7 (X8 (v50 (o5 (z9 4) (z9 7))) (J9 v9 (z9 5))) v9)) (p7 9 W3.nd))
   (z7 (U5 (z80 8 (X8 (X8 (z10 (z9 6) ye0 (z40 (z9 7))) (z9 9)) (z10 (z9 6) (z40 (X8 (z9 7) v9)) ye0))))
   v8)))
   (z7 (va0 8)
   v8)))))))))))) (λds d h=>y20 h)
theorem ku0:FnScope q70 ["_law_cell", "_law_k"] (p6 (top 17)):=fsc rfl rfl rfl rfl (by decide +kernel)
theorem kp0(F:Fun K "_law_mix" "_law_mix" (top 17) fa fd)(T:Txt mg)  : FnOk P w K mg base CX0 1 fa fd ["_law_cell", "_law_k"] (spD K V7) :=
 okD (k:=0) (G:=p80) F ku0 (λcdv A outer s H E hr=>(z7 (m5 (Z7 (J9 (X8 (Z7 (z9 0) v9) v9) (X8 v9 (J9 v9 (z9 1)))) v9))
   v8)) (λds d h=>V3 h)
theorem t20:FnScope tz0 ["_law_number", "_law_many"] (p6 (top 18)):=fsc rfl rfl rfl rfl (by decide +kernel)
theorem ni0(F:Fun K "_law_value" "_law_value" (top 18) fa fd)(T:Txt mg)  : FnOk P w K mg base CX0 1 fa fd ["_law_number", "_law_many"] (spD K Q8) :=
 okD (k:=0) (G:=tw0) F t20 (λcdv A outer s H E hr=>(z7 (n8 (Z7 (z9 0) v9) (p7 2 t20.nd))
   (z7 (j5 (m7 ve0 w50 (z9 2) v9)
   (z7 (m5 (X6 (w6 g8 (w6 (Z7 (S9 (z9 0) v9) (z9 1)) v7))))
   v8)
   v8)
   (z7 (j5 (m7 Q5 U7 (z9 2) v9)
   (z7 (m5 vu0)
   v8)
   v8)
   (z7 (j5 (m7 ve0 w50 (z9 2) v9)
   (z7 (m5 (f70 (Z7 (S9 (z9 0) v9) v9) v9))
   v8)
   v8)
   (z7 (m5 (J9 (Z7 (eu0 (S9 (z9 0) v9) v9) (eu0 v9 v9)) (f70 v9 (J9 v9 (Z7 (S9 (z9 0) v9) v9)))))
   v8)))))) (λds d h=>V3 h)
theorem zx0:FnScope t30 ["_law_number", "_law_count", "_law_many"] (p6 (top 19)):=fsc rfl rfl rfl rfl (by decide +kernel)
theorem py0(F:Fun K "_law_values" "_law_values" (top 19) fa fd)(T:Txt mg)(C__law_value:FnD P w K mg base "_law_value" 1 ["_law_number", "_law_many"] Q8):FnOk P w K mg base CX0 2 fa fd ["_law_number", "_law_count", "_law_many"] (spN K z90) :=
 okN (k:=1) (G:=t70) F zx0 (λcdv A outer s H E hr=>(z7 (W0 3 (R6 v7) zx0.nd)
   (z7 (V9 B8 rfl (T7 T.b_range (w6 (z9 1) v7)) (p7 4 zx0.nd)
   (z7 (n8 (Z7 (J9 (z9 0) v9) v9) (p7 0 zx0.nd))
   (z7 (U5 (z80 3 (Z1 C__law_value hr (by decide) (w6 (z9 0) (w6 (z9 2) v7)))))
   v8)))
   (z7 (va0 3)
   v8)))) (λds d h=>y20 h)
theorem xb0:FnScope vi0 ["_law_number", "_law_some", "_law_pool_here"] (p6 (top 20)):=fsc rfl rfl rfl rfl (by decide +kernel)
theorem lr0(F:Fun K "_law_part" "_law_part" (top 20) fa fd)(T:Txt mg)  : FnOk P w K mg base CX0 1 fa fd ["_law_number", "_law_some", "_law_pool_here"] (spD K y30) :=
 okD (k:=0) (G:=sz0) F xb0 (λcdv A outer s H E hr=>(z7 (n8 (Z7 (z9 0) v9) (p7 3 xb0.nd))
   (z7 (j5 (m7 Q5 U7 (z9 3) v9)
   (z7 (m5 (X6 (w6 g8 (w6 (o5 (se0 (w6 g8 (w6 g8 (w6 g8 (w6 (X8 (o5 (z9 2) v9) g8) v7))))) (Z7 (S9 (z9 0) v9) v9)) v7))))
   v8)
   v8)
   (z7 (j5 (m7 ve0 w50 (z9 3) v9)
   (z7 (m5 (X6 (w6 g8 (w6 (V1 Z9 G3 T.b_tuple b_tuple (w6 (z9 1) v7)) v7))))
   v8)
   v8)
   (z7 (n8 (J9 (Z7 (S9 (z9 0) v9) v9) v9) (p7 4 xb0.nd))
   (z7 (n8 (V1 Z9 G3 T.b_tuple b_tuple (w6 (zk0 (sc:=p6 (top 20)) (N:=vi0) (N':=["_law_k", "_law_some", "_law_pool_here", "_law_start"]) (n:=1) (caps:=[1,2,4]) (by exact cok rfl rfl (by decide +kernel)) (by decide) (T7 T.b_range (w6 (S8 T.b_len (w6 (z9 1) v7)) v7)) (λcl s H ex=>p7 0 (by decide +kernel:(["_law_k", "_law_some", "_law_pool_here", "_law_start"]:List Str).Nodup)) (λcl s H ex=>Q0) (λcl s H ex=>(X6 (w6 (o5 (z9 2) (Z7 (X8 (z9 3) (z9 0)) v9)) (w6 (o5 (z9 1) (z9 0)) v7))))) v7)) (p7 5 xb0.nd))
   (z7 (j5 (m7 ve0 w50 (z9 3) v9)
   (z7 (m5 (X6 (w6 g8 (w6 (z9 5) v7))))
   v8)
   v8)
   (z7 (m5 (X6 (w6 g8 (w6 (o5 (z9 2) (Z7 (S9 (z9 0) v9) v9)) (w6 (z9 5) v7)))))
   v8)))))))) (λds d h=>V3 h)
theorem K8:FnScope p50 ["_law_cells", "_law_many", "_law_pool_here"] (p6 (top 21)):=fsc rfl rfl rfl rfl (by decide +kernel)
theorem ky0(F:Fun K "_law_web" "_law_web" (top 21) fa fd)(T:Txt mg)(C__law_mix:FnD P w K mg base "_law_mix" 1 ["_law_cell", "_law_k"] V7)(C__law_part:FnD P w K mg base "_law_part" 1 ["_law_number", "_law_some", "_law_pool_here"] y30)(C__law_values:FnN P w K mg base "_law_values" 2 ["_law_number", "_law_count", "_law_many"] z90):FnOk P w K mg base CX0 3 fa fd ["_law_cells", "_law_many", "_law_pool_here"] (spD K yp0) :=
 okD (k:=2) (G:=q90) F K8 (λcdv A outer s H E hr=>(z7 (W0 3 (R6 v7) K8.nd)
   (z7 (V9 B8 rfl (T7 T.b_range (w6 (z9 1) v7)) (p7 4 K8.nd)
   (z7 (n8 (Z1 C__law_mix hr (by decide) (w6 (X8 (o5 (z9 0) (Z7 (z9 4) (S8 T.b_len (w6 (z9 0) v7)))) (J9 (z9 4) (S9 (z9 4) (S8 T.b_len (w6 (z9 0) v7))))) (w6 (z9 4) v7))) (p7 5 K8.nd))
   (z7 (n8 (o5 (se0 (w6 v9 (w6 v9 (w6 v9 (w6 v9 (w6 v9 (w6 v9 (w6 v9 (w6 v9 v7))))))))) (Z7 (S9 (z9 5) v9) v9)) (p7 6 K8.nd))
   (z7 (j5 (m7 Q5 U7 (Z7 (S9 (z9 5) v9) v9) v9)
   (z7 (n8 (o5 (se0 (w6 v9 (w6 v9 v7))) (V1 gw0 Xw0 T.b_int b_int (w6 (kg0 ve0 w50 (Z7 (z9 5) v9) v9) v7))) (p7 6 K8.nd))
   v8)
   v8)
   (z7 (n8 (R9 C__law_values hr (by decide) (w6 (X8 (S9 (z9 5) v9) v9) (w6 (z9 6) (w6 (z9 1) v7)))) (p7 7 K8.nd))
   (z7 (U5 (z80 3 (Z1 C__law_part hr (by decide) (w6 (z9 5) (w6 (z9 7) (w6 (z9 2) v7))))))
   v8))))))
   (z7 (z50 (V1 Z9 G3 T.b_tuple b_tuple (w6 (z9 3) v7)))
   v8)))) (λds d h=>V3 h)
theorem l90:FnScope vk0 ["_law_part_here"] (p6 (top 22)):=fsc rfl rfl rfl rfl (by decide +kernel)
theorem kh0(F:Fun K "_law_vals" "_law_vals" (top 22) fa fd)(T:Txt mg)  : FnOk P w K mg base CX0 1 fa fd ["_law_part_here"] (spN K o7) :=
 okN (k:=0) (G:=ra0) F l90 (λcdv A outer s H E hr=>(z7 (j5 (m7 Q5 U7 (o5 (z9 0) v9) g8)
   (z7 (M4 (R6 v7))
   v8)
   v8)
   (z7 (j5 (m7 Q5 U7 (o5 (z9 0) v9) g8)
   (z7 (M4 (ki0 T.b_list b_list (o5 (z9 0) v9)))
   v8)
   v8)
   (z7 (M4 (v40 (sc:=p6 (top 22)) (N:=vk0) (N':=["_law_name", "_law_value_here"]) (n:=2) (caps:=[]) (by exact cok rfl rfl (by decide +kernel)) (by decide) (vx0 (o5 (z9 0) (v10 v9))) (λcl s H ex=>uv0 0 1 (by decide +kernel:(["_law_name", "_law_value_here"]:List Str).Nodup) (by decide)) (λcl s H ex=>Q0) (λcl s H ex=>(z9 1))))
   v8)))) (λds d h=>y20 h)
theorem lx0:FnScope vq0 ["_law_part_here"] (p6 (top 23)):=fsc rfl rfl rfl rfl (by decide +kernel)
theorem ln0(F:Fun K "_law_head" "_law_head" (top 23) fa fd)(T:Txt mg)  : FnOk P w K mg base CX0 1 fa fd ["_law_part_here"] (spD K J1) :=
 okD (k:=0) (G:=r00) F lx0 (λcdv A outer s H E hr=>(z7 (j5 (m7 Q5 U7 (o5 (z9 0) v9) g8)
   (z7 (m5 (X6 (w6 g8 (w6 (S8 T.b_len (w6 (o5 (z9 0) v9) v7)) v7))))
   v8)
   v8)
   (z7 (j5 (m7 Q5 U7 (o5 (z9 0) v9) g8)
   (z7 (m5 (z9 0))
   v8)
   v8)
   (z7 (m5 (X8 (z10 (z9 0) ye0 (z40 (v10 v9))) (X6 (w6 (V1 Z9 G3 T.b_tuple b_tuple (w6 (zk0 (sc:=p6 (top 23)) (N:=vq0) (N':=["_law_name", "_law_value_here"]) (n:=2) (caps:=[]) (by exact cok rfl rfl (by decide +kernel)) (by decide) (vx0 (o5 (z9 0) (v10 v9))) (λcl s H ex=>uv0 0 1 (by decide +kernel:(["_law_name", "_law_value_here"]:List Str).Nodup) (by decide)) (λcl s H ex=>Q0) (λcl s H ex=>(z9 0))) v7)) v7))))
   v8)))) (λds d h=>V3 h)
theorem k80:FnScope vj0 ["_law_part_here", "_law_some"] (p6 (top 24)):=fsc rfl rfl rfl rfl (by decide +kernel)
theorem mb0(F:Fun K "_law_with" "_law_with" (top 24) fa fd)(T:Txt mg)  : FnOk P w K mg base CX0 1 fa fd ["_law_part_here", "_law_some"] (spD K X4) :=
 okD (k:=0) (G:=sy0) F k80 (λcdv A outer s H E hr=>(z7 (j5 (m7 Q5 U7 (o5 (z9 0) v9) g8)
   (z7 (m5 (z9 0))
   v8)
   v8)
   (z7 (j5 (m7 Q5 U7 (o5 (z9 0) v9) g8)
   (z7 (m5 (X6 (w6 g8 (w6 (V1 Z9 G3 T.b_tuple b_tuple (w6 (z9 1) v7)) v7))))
   v8)
   v8)
   (z7 (m5 (X8 (z10 (z9 0) ye0 (z40 (v10 v9))) (X6 (w6 (V1 Z9 G3 T.b_tuple b_tuple (w6 (zk0 (sc:=p6 (top 24)) (N:=vj0) (N':=["_law_k", "_law_part_here", "_law_some"]) (n:=1) (caps:=[0,1]) (by exact cok rfl rfl (by decide +kernel)) (by decide) (T7 T.b_range (w6 (S8 T.b_len (w6 (z9 1) v7)) v7)) (λcl s H ex=>p7 0 (by decide +kernel:(["_law_k", "_law_part_here", "_law_some"]:List Str).Nodup)) (λcl s H ex=>Q0) (λcl s H ex=>(X6 (w6 (o5 (o5 (o5 (z9 1) (v10 v9)) (z9 0)) v9) (w6 (o5 (z9 2) (z9 0)) v7))))) v7)) v7))))
   v8)))) (λds d h=>V3 h)
theorem xu0:FnScope qi0 ["_law_part_here", "_law_numbers"] (p6 (top 25)):=fsc rfl rfl rfl rfl (by decide +kernel)
theorem ko0(F:Fun K "_law_led" "_law_led" (top 25) fa fd)(T:Txt mg)(C__law_vals:FnN P w K mg base "_law_vals" 1 ["_law_part_here"] o7)(C__law_with:FnD P w K mg base "_law_with" 1 ["_law_part_here", "_law_some"] X4):FnOk P w K mg base CX0 2 fa fd ["_law_part_here", "_law_numbers"] (spD K K7) :=
 okD (k:=1) (G:=p30) F xu0 (λcdv A outer s H E hr=>(z7 (W0 2 (R6 v7) xu0.nd)
   (z7 (V9 B8 rfl (R5 (R9 C__law_vals hr (by decide) (w6 (z9 0) v7))) (p7 3 xu0.nd)
   (z7 (j5 (Q3 (J4 N5 b_tuple T.b_isinstance T.b_tuple (z9 3)))
   (z7 (n8 (X6 (w6 g8 (w6 (ue0 (zl0 hr) (z9 1) (o5 (z9 3) v9)) v7))) (p7 3 xu0.nd))
   v8)
   v8)
   (z7 (U5 (z80 2 (z9 3)))
   v8)))
   (z7 (z50 (Z1 C__law_with hr (by decide) (w6 (z9 0) (w6 (z9 2) v7))))
   v8)))) (λds d h=>V3 h)
theorem U0:FnScope ta0 ["_law_web_here", "_law_times", "_law_cell"] (p6 (top 26)):=fsc rfl rfl rfl rfl (by decide +kernel)
theorem pk0(F:Fun K "_law_unfold" "_law_unfold" (top 26) fa fd)(T:Txt mg)(C__law_mix:FnD P w K mg base "_law_mix" 1 ["_law_cell", "_law_k"] V7)(C__law_vals:FnN P w K mg base "_law_vals" 1 ["_law_part_here"] o7)(C__law_with:FnD P w K mg base "_law_with" 1 ["_law_part_here", "_law_some"] X4):FnOk P w K mg base CX0 2 fa fd ["_law_web_here", "_law_times", "_law_cell"] (spD K zb0) :=
 okD (k:=1) (G:=t90) F U0 (λcdv A outer s H E hr=>(z7 (W0 3 (R6 v7) U0.nd)
   (z7 (V9 B8 rfl (T7 T.b_range (w6 (S8 T.b_len (w6 (z9 0) v7)) v7)) (p7 4 U0.nd)
   (z7 (V9 B8 rfl (T7 T.b_range (w6 (z9 1) v7)) (p7 5 U0.nd)
   (z7 (W0 6 (R6 v7) U0.nd)
   (z7 (n8 (Z1 C__law_mix hr (by decide) (w6 (X8 (z9 2) (J9 (z9 5) (z9 5))) (w6 (X8 (z9 4) v9) v7))) (p7 7 U0.nd))
   (z7 (V9 B8 rfl (R5 (R9 C__law_vals hr (by decide) (w6 (o5 (z9 0) (z9 4)) v7))) (p7 8 U0.nd)
   (z7 (n8 (Z7 (J9 (z9 7) v9) v9) (p7 7 U0.nd))
   (z7 (j5 (Q3 (J4 N5 b_tuple T.b_isinstance T.b_tuple (z9 8)))
   (z7 (n8 (X6 (w6 g8 (w6 (X8 (J9 (o5 (z9 8) v9) (z9 1)) (Z7 (z9 7) (z9 1))) v7))) (p7 8 U0.nd))
   v8)
   v8)
   (z7 (U5 (z80 6 (z9 8)))
   v8))))
   (z7 (U5 (z80 3 (ad0 (Z1 C__law_with hr (by decide) (w6 (o5 (z9 0) (z9 4)) (w6 (z9 6) v7))))))
   v8)))))
   v8))
   (z7 (z50 (V1 Z9 G3 T.b_tuple b_tuple (w6 (z9 3) v7)))
   v8)))) (λds d h=>V3 h)
theorem y70:FnScope sa0 ["_law_script", "_law_most"] (p6 (top 27)):=fsc rfl rfl rfl rfl (by decide +kernel)
theorem nj0(F:Fun K "_law_small" "_law_small" (top 27) fa fd)(T:Txt mg)(C__law_cell_at:FnD P w K mg base "_law_cell_at" 1 ["_law_script", "_law_k"] j8)(C__law_pool:FnN P w K mg base "_law_pool" 1 ["_law_cell", "_law_turn"] y40)(C__law_web:FnD P w K mg base "_law_web" 3 ["_law_cells", "_law_many", "_law_pool_here"] yp0):FnOk P w K mg base CX0 4 fa fd ["_law_script", "_law_most"] (spD K zo0) :=
 okD (k:=3) (G:=tx0) F y70 (λcdv A outer s H E hr=>(z7 (n8 (R9 C__law_pool hr (by decide) (w6 (Z1 C__law_cell_at hr (by decide) (w6 (z9 0) (w6 v9 v7))) (w6 (Z1 C__law_cell_at hr (by decide) (w6 (z9 0) (w6 v9 v7))) v7))) (p7 2 y70.nd))
   (z7 (n8 (Z1 C__law_cell_at hr (by decide) (w6 (z9 0) (w6 v9 v7))) (p7 3 y70.nd))
   (z7 (n8 (X8 v9 (Z7 (z9 3) (z9 1))) (p7 4 y70.nd))
   (z7 (m5 (Z1 C__law_web hr (by decide) (w6 (X8 (z10 (z9 0) (z40 v9) (z40 v9)) (se0 (w6 (Z1 C__law_cell_at hr (by decide) (w6 (z9 0) (w6 v9 v7))) v7))) (w6 (z9 4) (w6 (z9 2) v7)))))
   v8))))) (λds d h=>V3 h)
theorem zm0:FnScope u00 ["_law_web_here", "_law_cell"] (p6 (top 28)):=fsc rfl rfl rfl rfl (by decide +kernel)
theorem qd0(F:Fun K "_law_changed" "_law_changed" (top 28) fa fd)(T:Txt mg)(C__law_vals:FnN P w K mg base "_law_vals" 1 ["_law_part_here"] o7)(C__law_value:FnD P w K mg base "_law_value" 1 ["_law_number", "_law_many"] Q8)(C__law_with:FnD P w K mg base "_law_with" 1 ["_law_part_here", "_law_some"] X4):FnOk P w K mg base CX0 2 fa fd ["_law_web_here", "_law_cell"] (spD K N6) :=
 okD (k:=1) (G:=u20) F zm0 (λcdv A outer s H E hr=>(z7 (n8 (Z7 (z9 1) (S8 T.b_len (w6 (z9 0) v7))) (p7 2 zm0.nd))
   (z7 (W0 3 (qw0 C__law_vals hr (by decide) (w6 (o5 (z9 0) (z9 2)) v7)) zm0.nd)
   (z7 (j5 (sp0 (m7 (qq0 hr.units) sk0 (z9 3) (se0 v7)))
   (z7 (m5 (z9 0))
   v8)
   v8)
   (z7 (n8 (Z7 (S9 (z9 1) v9) (v50 (S8 T.b_len (w6 (z9 3) v7)))) (p7 4 zm0.nd))
   (z7 (M7 (wh0 (Z1 C__law_value hr (by decide) (w6 (Z7 (S9 (z9 1) v9) v9) (w6 (S8 T.b_len (w6 (z9 0) v7)) v7)))) (Z00 3 (z9 4)))
   (z7 (z50 (X8 (X8 (z10 (z9 0) ye0 (z40 (z9 2))) (X6 (w6 (Z1 C__law_with hr (by decide) (w6 (o5 (z9 0) (z9 2)) (w6 (z9 3) v7))) v7))) (z10 (z9 0) (z40 (X8 (z9 2) v9)) ye0)))
   v8))))))) (λds d h=>V3 h)
theorem zi0:FnScope tu0 ["_law_one", "_law_other", "_law_pair"] (p6 (top 29)):=fsc rfl rfl rfl rfl (by decide +kernel)
theorem no0(F:Fun K "_law_go_on" "_law_go_on" (top 29) fa fd)(T:Txt mg)(C__law_head:FnD P w K mg base "_law_head" 1 ["_law_part_here"] J1)(C__law_vals:FnN P w K mg base "_law_vals" 1 ["_law_part_here"] o7):FnOk P w K mg base CX0 2 fa fd ["_law_one", "_law_other", "_law_pair"] (spD K V2) :=
 okD (k:=1) (G:=to0) F zi0 (λcdv A outer s H E hr=>(z7 (W0 3 (R6 v7) zi0.nd)
   (z7 (n8 (R9 C__law_vals hr (by decide) (w6 (o5 (z9 0) (o5 (z9 2) v9)) v7)) (p7 4 zi0.nd))
   (z7 (n8 (R9 C__law_vals hr (by decide) (w6 (o5 (z9 1) (o5 (z9 2) v9)) v7)) (p7 5 zi0.nd))
   (z7 (j5 (m7 (td0 hr.units) u70 (Z1 C__law_head hr (by decide) (w6 (o5 (z9 0) (o5 (z9 2) v9)) v7)) (Z1 C__law_head hr (by decide) (w6 (o5 (z9 1) (o5 (z9 2) v9)) v7)))
   (z7 (m5 vu0)
   v8)
   v8)
   (z7 (V9 B8 rfl (T7 T.b_range (w6 (S8 T.b_len (w6 (z9 4) v7)) v7)) (p7 6 zi0.nd)
   (z7 (j5 (PWD.pt (j10 (Q3 (J4 N5 b_tuple T.b_isinstance T.b_tuple (o5 (z9 4) (z9 6)))) (lb0 (Q3 (J4 N5 b_tuple T.b_isinstance T.b_tuple (o5 (z9 5) (z9 6)))))))
   (z7 (U5 (z80 3 (X6 (w6 (o5 (o5 (z9 4) (z9 6)) v9) (w6 (o5 (o5 (z9 5) (z9 6)) v9) v7)))))
   v8)
   (z7 (j5 (m7 (td0 hr.units) u70 (o5 (z9 4) (z9 6)) (o5 (z9 5) (z9 6)))
   (z7 (m5 vu0)
   v8)
   v8)
   v8))
   v8))
   (z7 (z50 (z9 3))
   v8))))))) (λds d h=>V3 h)
theorem zn0:FnScope vn0 ["_law_one", "_law_other", "_law_pair"] (p6 (top 30)):=fsc rfl rfl rfl rfl (by decide +kernel)
theorem kk0(F:Fun K "_law_shut" "_law_shut" (top 30) fa fd)(T:Txt mg)(C__law_go_on:FnD P w K mg base "_law_go_on" 2 ["_law_one", "_law_other", "_law_pair"] V2):FnOk P w K mg base CX0 3 fa fd ["_law_one", "_law_other", "_law_pair"] (spD K xy0) :=
 okD (k:=2) (G:=rb0) F zn0 (λcdv A outer s H E hr=>(z7 (W0 3 (e80 (P4 (C9 _ 64) hr.units) (z9 2) yq0) zn0.nd)
   (z7 (W0 4 (R6 (w6 (z9 2) v7)) zn0.nd)
   (z7 (w60 100000 B8 (m7 i80 ls0 (v50 (S8 T.b_len (w6 (z9 4) v7))) v9)
   (z7 (M7 (Ya0 0 1 C__law_go_on hr (by decide) (lf0 4)) (mz0 (p7 5 zn0.nd)))
   (z7 (j5 (m7 es0 jh0 (z9 5) vu0)
   (z7 (m5 vu0)
   v8)
   v8)
   (z7 (V9 B8 rfl (R5 (z9 5)) (p7 6 zn0.nd)
   (z7 (j5 (sp0 (mf0 (zl0 hr) (z9 6) (z9 3)))
   (z7 (M7 (wh0 yq0) (cm0 3 (zl0 hr) (z9 6)))
   (z7 (U5 (z80 4 (z9 6)))
   v8))
   v8)
   v8))
   v8))))
   (z7 (z50 (PDF.pd (fs0 T.b_sorted b_sorted (V1 (iz0 rfl) d80 T.b_list b_list (w6 (z9 3) v7)))))
   v8))))) (λds d h=>V3 h)
theorem zh0:FnScope sh0 ["_law_web_here"] (p6 (top 31)):=fsc rfl rfl rfl rfl (by decide +kernel)
theorem nl0(F:Fun K "_law_order" "_law_order" (top 31) fa fd)(T:Txt mg)(C__law_vals:FnN P w K mg base "_law_vals" 1 ["_law_part_here"] o7):FnOk P w K mg base CX0 2 fa fd ["_law_web_here"] (spN K zt0) :=
 okN (k:=1) (G:=si0) F zh0 (λcdv A outer s H E hr=>(z7 (W0 1 (R6 v7) zh0.nd)
   (z7 (W0 2 (R6 (w6 v9 v7)) zh0.nd)
   (z7 (w60 100000 B8 (m7 i80 ls0 (v50 (S8 T.b_len (w6 (z9 2) v7))) v9)
   (z7 (M7 (lf0 2) (mz0 (p7 3 zh0.nd)))
   (z7 (j5 (sp0 (m7 mu0 (gi0 true) (z9 3) (z9 1)))
   (z7 (U5 (z80 1 (z9 3)))
   (z7 (V9 B8 rfl (ao0 T.b_reversed (w6 (R9 C__law_vals hr (by decide) (w6 (o5 (z9 0) (z9 3)) v7)) v7)) (p7 4 zh0.nd)
   (z7 (j5 (Q3 (J4 N5 b_tuple T.b_isinstance T.b_tuple (z9 4)))
   (z7 (U5 (z80 2 (o5 (z9 4) v9)))
   v8)
   v8)
   v8))
   v8))
   v8)
   v8)))
   (z7 (va0 1)
   v8))))) (λds d h=>y20 h)
theorem J2:FnScope yc0 ["_law_web_here"] (p6 (top 32)):=fsc rfl rfl rfl rfl (by decide +kernel)
theorem sx0(F:Fun K "_law_from_root" "_law_from_root" (top 32) fa fd)(T:Txt mg)(C__law_led:FnD P w K mg base "_law_led" 2 ["_law_part_here", "_law_numbers"] K7)(C__law_order:FnN P w K mg base "_law_order" 2 ["_law_web_here"] zt0):FnOk P w K mg base CX0 3 fa fd ["_law_web_here"] (spD K N7) :=
 okD (k:=2) (G:=v90) F J2 (λcdv A outer s H E hr=>(z7 (n8 (R9 C__law_order hr (by decide) (w6 (z9 0) v7)) (p7 1 J2.nd))
   (z7 (W0 2 ym0 J2.nd)
   (z7 (V9 B8 rfl (R5 (z9 1)) (p7 3 J2.nd)
   (z7 (M7 (wh0 (v50 (rw0 n70 j90 T.b_len j0 (w6 (z9 2) v7)))) (wo0 2 (zl0 hr) (z9 3)))
   v8))
   (z7 (z50 (V1 Z9 G3 T.b_tuple b_tuple (w6 (zk0 (sc:=p6 (top 32)) (N:=yc0) (N':=["_law_k", "_law_web_here", "_law_numbers"]) (n:=1) (caps:=[0,2]) (by exact cok rfl rfl (by decide +kernel)) (by decide) (R5 (z9 1)) (λcl s H ex=>p7 0 (by decide +kernel:(["_law_k", "_law_web_here", "_law_numbers"]:List Str).Nodup)) (λcl s H ex=>Q0) (λcl s H ex=>(Z1 C__law_led hr (by decide) (w6 (o5 (z9 1) (z9 0)) (w6 (z9 2) v7))))) v7)))
   v8))))) (λds d h=>V3 h)
theorem Z3:FnScope wa0 ["_law_web_here"] (p6 (top 33)):=fsc rfl rfl rfl rfl (by decide +kernel)
theorem tl0(F:Fun K "_law_many_sorts" "_law_many_sorts" (top 33) fa fd)(T:Txt mg)(C__law_led:FnD P w K mg base "_law_led" 2 ["_law_part_here", "_law_numbers"] K7):FnOk P w K mg base CX0 3 fa fd ["_law_web_here"] (spD K R7) :=
 okD (k:=2) (G:=w90) F Z3 (λcdv A outer s H E hr=>(z7 (W0 1 ym0 Z3.nd)
   (z7 (V9 B8 rfl (T7 T.b_range (w6 (S8 T.b_len (w6 (z9 0) v7)) v7)) (p7 2 Z3.nd)
   (z7 (M7 (wh0 v9) (wo0 1 (zl0 hr) (z9 2)))
   v8))
   (z7 (n8 v9 (p7 3 Z3.nd))
   (z7 (kc0 1 (w60 100000 B8 (Q3 yq0)
   (z7 (md0 4 Z3.nd)
   (z7 (W0 5 ym0 Z3.nd)
   (z7 (V9 B8 rfl (T7 T.b_range (w6 (S8 T.b_len (w6 (z9 0) v7)) v7)) (p7 2 Z3.nd)
   (z7 (n8 (X6 (w6 (ue0 (zl0 hr) (z9 1) (z9 2)) (w6 (Z1 C__law_led hr (by decide) (w6 (o5 (z9 0) (z9 2)) (w6 (z9 1) v7))) v7))) (p7 6 Z3.nd))
   (z7 (M7 (ja0 4 (P4 (A40 (by decide:12<=64) _) hr.units) (z9 6) (sr0 4 T.b_len)) (wo0 5 (zl0 hr) (z9 2)))
   v8)))
   (z7 (kc0 5 (n8 (z9 5) (p7 1 Z3.nd)))
   (z7 (j5 (m7 Q5 U7 (sr0 4 T.b_len) (z9 3))
   (z7 (m5 (z9 3))
   v8)
   v8)
   (z7 (n8 (sr0 4 T.b_len) (p7 3 Z3.nd))
   v8))))))))
   v8))))) (λds d h=>V3 h)
theorem yr0:FnScope u90 ["_law_found"] (p6 (top 34)):=fsc rfl rfl rfl rfl (by decide +kernel)
theorem qe0(F:Fun K "_law_is_kind" "_law_is_kind" (top 34) fa fd)(T:Txt mg)(C__law_vals:FnN P w K mg base "_law_vals" 1 ["_law_part_here"] o7):FnOk P w K mg base CX0 2 fa fd ["_law_found"] (spD K zu0) :=
 okD (k:=1) (G:=ug0) F yr0 (λcdv A outer s H E hr=>(z7 (j5 (PWD.pt (wy0 (ss0 (Q3 (J4 N5 b_tuple T.b_isinstance T.b_tuple (z9 0)))) (wj0 (m7 (qq0 hr.units) sk0 (z9 0) (X6 v7)))))
   (z7 (m5 yq0)
   v8)
   v8)
   (z7 (V9 B8 rfl (vx0 (z9 0)) (p7 1 yr0.nd)
   (z7 (j5 (PWD.pt (wy0 (ss0 (Q3 (J4 N5 b_tuple T.b_isinstance T.b_tuple (z9 1)))) (wy0 (m7 ve0 w50 (S8 T.b_len (w6 (z9 1) v7)) v9) (wj0 (ss0 (Q3 (J4 Yj0 b_str T.b_isinstance T.b_str (o5 (z9 1) v9))))))))
   (z7 (m5 yq0)
   v8)
   v8)
   (z7 (V9 B8 rfl (R5 (R9 C__law_vals hr (by decide) (w6 (z9 1) v7))) (p7 2 yr0.nd)
   (z7 (j5 (PWD.pt (wy0 (Q3 (J4 mc0 b_bool T.b_isinstance T.b_bool (z9 2))) (wj0 (PWD.pt (j10 (Q3 (J4 N5 b_tuple T.b_isinstance T.b_tuple (z9 2))) (lb0 (Q3 (J4 mc0 b_bool T.b_isinstance T.b_bool (o5 (z9 2) v9)))))))))
   (z7 (m5 yq0)
   v8)
   v8)
   v8))
   v8)))
   (z7 (m5 yq0)
   v8)))) (λds d h=>V3 h)
theorem uf0:FnScope b20 ["_law_script"] (p6 (top 35)):=fsc rfl rfl rfl rfl (by decide +kernel)
theorem Yw0(F:Fun K "law" "law" (top 35) fa fd)(T:Txt mg)(C__law_cell_at:FnD P w K mg base "_law_cell_at" 1 ["_law_script", "_law_k"] j8)(C__law_changed:FnD P w K mg base "_law_changed" 2 ["_law_web_here", "_law_cell"] N6)(C__law_from_root:FnD P w K mg base "_law_from_root" 3 ["_law_web_here"] N7)(C__law_is_kind:FnD P w K mg base "_law_is_kind" 2 ["_law_found"] zu0)(C__law_many_sorts:FnD P w K mg base "_law_many_sorts" 3 ["_law_web_here"] R7)(C__law_mix:FnD P w K mg base "_law_mix" 1 ["_law_cell", "_law_k"] V7)(C__law_shut:FnD P w K mg base "_law_shut" 3 ["_law_one", "_law_other", "_law_pair"] xy0)(C__law_small:FnD P w K mg base "_law_small" 4 ["_law_script", "_law_most"] zo0)(C__law_unfold:FnD P w K mg base "_law_unfold" 2 ["_law_web_here", "_law_times", "_law_cell"] zb0)(C_least:FnD P w K mg base "least" 6 ["web"] wn0):FnOk P w K mg base CX0 7 fa fd ["_law_script"] (spD K sj0) :=
 okD (k:=6) (G:=bl0) F uf0 (λcdv A outer s H E hr=>(z7 (n8 (Z1 C__law_cell_at hr (by decide) (w6 (z9 0) (w6 v9 v7))) (p7 1 uf0.nd))
   (z7 (n8 (Z1 C__law_unfold hr (by decide) (w6 (Z1 C__law_small hr (by decide) (w6 (z9 0) (w6 v9 v7))) (w6 (X8 v9 (Z7 (z9 1) v9)) (w6 (Z1 C__law_cell_at hr (by decide) (w6 (z9 0) (w6 v9 v7))) v7)))) (p7 2 uf0.nd))
   (z7 (j5 (m7 (qq0 hr.units) sk0 (Z7 (S9 (z9 1) v9) v9) v9)
   (z7 (n8 (Z1 C__law_changed hr (by decide) (w6 (z9 2) (w6 (Z1 C__law_mix hr (by decide) (w6 (Z1 C__law_cell_at hr (by decide) (w6 (z9 0) (w6 v9 v7))) (w6 v9 v7))) v7))) (p7 2 uf0.nd))
   v8)
   v8)
   (z7 (n8 (Z1 C_least hr (by decide) (w6 (z9 2) v7)) (p7 3 uf0.nd))
   (z7 (j5 (PWD.pt (wy0 (ss0 (Q3 (Z1 C__law_is_kind hr (by decide) (w6 (z9 3) v7)))) (wj0 (m7 (td0 hr.units) u70 (Z1 C__law_from_root hr (by decide) (w6 (z9 3) v7)) (z9 3)))))
   (z7 (m5 yq0)
   v8)
   v8)
   (z7 (j5 (PWD.pt (wy0 (m7 es0 jh0 (Z1 C__law_shut hr (by decide) (w6 (z9 3) (w6 (z9 2) (w6 (X6 (w6 v9 (w6 v9 v7))) v7)))) vu0) (wj0 (m7 (td0 hr.units) u70 (Z1 C__law_many_sorts hr (by decide) (w6 (z9 3) v7)) (S8 T.b_len (w6 (z9 3) v7))))))
   (z7 (m5 yq0)
   v8)
   v8)
   (z7 (j5 (m7 (td0 hr.units) u70 (Z1 C_least hr (by decide) (w6 (z9 3) v7)) (z9 3))
   (z7 (m5 yq0)
   v8)
   v8)
   (z7 (n8 (Z1 C__law_from_root hr (by decide) (w6 (z9 2) v7)) (p7 4 uf0.nd))
   (z7 (m5 (U10 (kg0 ve0 w50 (Z1 C__law_many_sorts hr (by decide) (w6 (z9 4) v7)) (S8 T.b_len (w6 (z9 4) v7))) (Wf0 (kg0 (qq0 hr.units) sk0 (z9 3) (z9 4)))))
   v8)))))))))) (λds d h=>V3 h)
end
theorem us1:∀{us:List α},us.length=1->∃a,us=[a]
 | [a],_=>⟨a,rfl⟩
theorem us2:∀{us:List α},us.length=2->∃a b,us=[a,b]
 | [a,b],_=>⟨a,b,rfl⟩
theorem us3:∀{us:List α},us.length=3->∃a b c,us=[a,b,c]
 | [a,b,c],_=>⟨a,b,c,rfl⟩
def Hd(K:W.Frag)(x:Str)(st:Stmt):Prop:=∃f fd,Fun K x x st f fd/\W.nsIn K mainGlobals x=some (some (.ref f))
theorem W5{f:Addr}{kV:Value}(a:W.nsIn K mainGlobals x=some (some (.ref f)))(l:K.lookup f=some ⟨oc,od,.func (W.fnOf x x (U6 st) (Y6 st) (p6 st) .none kV doc pm an cdv ct),osl⟩)(c:W.codeIn K cdv x=true)(k:W.keepIn K (.ref f)=true):Hd K x st:=⟨f,_,fl0 l c k,a⟩
section
variable(P9:Program)(w9:World)(b9:Heap){h:Heap}{f:Addr}{ps:List Str}{m:List D->Option D}(X9:K.In h)(G9:h.Ns mainGlobals mg)(F9:Fun K x x st f fd)(a9:W.nsIn K mainGlobals x=some (some (.ref f)))
include X9 G9 F9 a9
theorem cD1(o:FnOk P9 w9 K mg b9 CX0 n f fd ps (spD K m))(hl:ps.length=1)(b:∀(kV doc pm:Value) (an:Option Addr) (cdv ct u:Value),bindArgs (W.fnOf x x (U6 st) (Y6 st) (p6 st) .none kV doc pm an cdv ct) ⟨[u],[]⟩=pure (ps.zip [u])):FnD P9 w9 K mg b9 x n ps m:=⟨f,fd,o,D7 X9 G9 a9,F9.kp,F9.binds λ_ _ _ _ _ _ us h=>by obtain⟨u,rfl⟩:=us1 (h.trans hl);exact b _ _ _ _ _ _ _⟩
theorem cD2(o:FnOk P9 w9 K mg b9 CX0 n f fd ps (spD K m))(hl:ps.length=2)(b:∀(kV doc pm:Value) (an:Option Addr) (cdv ct u v:Value),bindArgs (W.fnOf x x (U6 st) (Y6 st) (p6 st) .none kV doc pm an cdv ct) ⟨[u,v],[]⟩=pure (ps.zip [u,v])):FnD P9 w9 K mg b9 x n ps m:=⟨f,fd,o,D7 X9 G9 a9,F9.kp,F9.binds λ_ _ _ _ _ _ us h=>by obtain⟨u,v,rfl⟩:=us2 (h.trans hl);exact b _ _ _ _ _ _ _ _⟩
theorem cD3(o:FnOk P9 w9 K mg b9 CX0 n f fd ps (spD K m))(hl:ps.length=3)(b:∀(kV doc pm:Value) (an:Option Addr) (cdv ct u v w:Value),bindArgs (W.fnOf x x (U6 st) (Y6 st) (p6 st) .none kV doc pm an cdv ct) ⟨[u,v,w],[]⟩=pure (ps.zip [u,v,w])):FnD P9 w9 K mg b9 x n ps m:=⟨f,fd,o,D7 X9 G9 a9,F9.kp,F9.binds λ_ _ _ _ _ _ us h=>by obtain⟨u,v,w,rfl⟩:=us3 (h.trans hl);exact b _ _ _ _ _ _ _ _ _⟩
theorem cN1(o:FnOk P9 w9 K mg b9 CX0 n f fd ps (spN K m))(hl:ps.length=1)(b:∀(kV doc pm:Value) (an:Option Addr) (cdv ct u:Value),bindArgs (W.fnOf x x (U6 st) (Y6 st) (p6 st) .none kV doc pm an cdv ct) ⟨[u],[]⟩=pure (ps.zip [u])):FnN P9 w9 K mg b9 x n ps m:=⟨f,fd,o,D7 X9 G9 a9,F9.kp,F9.binds λ_ _ _ _ _ _ us h=>by obtain⟨u,rfl⟩:=us1 (h.trans hl);exact b _ _ _ _ _ _ _⟩
theorem cN2(o:FnOk P9 w9 K mg b9 CX0 n f fd ps (spN K m))(hl:ps.length=2)(b:∀(kV doc pm:Value) (an:Option Addr) (cdv ct u v:Value),bindArgs (W.fnOf x x (U6 st) (Y6 st) (p6 st) .none kV doc pm an cdv ct) ⟨[u,v],[]⟩=pure (ps.zip [u,v])):FnN P9 w9 K mg b9 x n ps m:=⟨f,fd,o,D7 X9 G9 a9,F9.kp,F9.binds λ_ _ _ _ _ _ us h=>by obtain⟨u,v,rfl⟩:=us2 (h.trans hl);exact b _ _ _ _ _ _ _ _⟩
theorem cN3(o:FnOk P9 w9 K mg b9 CX0 n f fd ps (spN K m))(hl:ps.length=3)(b:∀(kV doc pm:Value) (an:Option Addr) (cdv ct u v w:Value),bindArgs (W.fnOf x x (U6 st) (Y6 st) (p6 st) .none kV doc pm an cdv ct) ⟨[u,v,w],[]⟩=pure (ps.zip [u,v,w])):FnN P9 w9 K mg b9 x n ps m:=⟨f,fd,o,D7 X9 G9 a9,F9.kp,F9.binds λ_ _ _ _ _ _ us h=>by obtain⟨u,v,w,rfl⟩:=us3 (h.trans hl);exact b _ _ _ _ _ _ _ _ _⟩
end
theorem all_mk{l:W.OpenLaw}{w:World}{h:Heap}(X:K.In h)(G:h.Ns mainGlobals mg)(hfa:mg "law"=some (.ref fa))
  {f5 f8 f32:Addr}
  {od5 an5 od8 an8 od32 an32:Option Addr} {sl5 sl8 sl32:Array (Option Value)} {oc5 kV5 dc5 pm5 cd5 ct5 oc8 kV8 dc8 pm8 cd8 ct8 oc32 kV32 dc32 pm32 cd32 ct32:Value}
  (h0:Hd K "pair_names" (top 1))
  (h1:Hd K "head" (top 2))
  (h2:Hd K "values" (top 3))
  (h3:Hd K "with_values" (top 4))
  (h4:Hd K "links" (top 5))
  {T5:Addr} {tc5:Value} {td5:Option Addr} {tn5:Nat} {ts5:Array (Option Value)} {tt5_0:Tok}
  (a5:W.nsIn K mainGlobals "met"=some (some (.ref f5))) (l5:K.lookup f5=some ⟨oc5,od5,.func (W.fnOf "met" "met" (U6 (top 6)) (Y6 (top 6)) (p6 (top 6)) (.ref T5) kV5 dc5 pm5 an5 cd5 ct5),sl5⟩) (c5:W.codeIn K cd5 "met"=true) (k5:W.keepIn K (.ref f5)=true)
  (t5:K.lookup T5=some ⟨tc5,td5,.seq #[.int 0 tt5_0] tn5,ts5⟩)
  (h6:Hd K "met_but" (top 7))
  (h7:Hd K "relinked" (top 8))
  {T8:Addr} {tc8:Value} {td8:Option Addr} {tn8:Nat} {ts8:Array (Option Value)} {tt8_0:Tok}
  (a8:W.nsIn K mainGlobals "drawn"=some (some (.ref f8))) (l8:K.lookup f8=some ⟨oc8,od8,.func (W.fnOf "drawn" "drawn" (U6 (top 9)) (Y6 (top 9)) (p6 (top 9)) (.ref T8) kV8 dc8 pm8 an8 cd8 ct8),sl8⟩) (c8:W.codeIn K cd8 "drawn"=true) (k8:W.keepIn K (.ref f8)=true)
  (t8:K.lookup T8=some ⟨tc8,td8,.seq #[.int 0 tt8_0] tn8,ts8⟩)
  (h9:Hd K "least" (top 11))
  (h10:Hd K "look_groups" (top 12))
  (h11:Hd K "grouped" (top 13))
  (h12:Hd K "_law_cell_at" (top 15))
  (h13:Hd K "_law_pool" (top 16))
  (h14:Hd K "_law_mix" (top 17))
  (h15:Hd K "_law_value" (top 18))
  (h16:Hd K "_law_values" (top 19))
  (h17:Hd K "_law_part" (top 20))
  (h18:Hd K "_law_web" (top 21))
  (h19:Hd K "_law_vals" (top 22))
  (h20:Hd K "_law_head" (top 23))
  (h21:Hd K "_law_with" (top 24))
  (h22:Hd K "_law_led" (top 25))
  (h23:Hd K "_law_unfold" (top 26))
  (h24:Hd K "_law_small" (top 27))
  (h25:Hd K "_law_changed" (top 28))
  (h26:Hd K "_law_go_on" (top 29))
  (h27:Hd K "_law_shut" (top 30))
  (h28:Hd K "_law_order" (top 31))
  (h29:Hd K "_law_from_root" (top 32))
  (h30:Hd K "_law_many_sorts" (top 33))
  (h31:Hd K "_law_is_kind" (top 34))
  (a32:W.nsIn K mainGlobals "law"=some (some (.ref f32))) (l32:K.lookup f32=some ⟨oc32,od32,.func (W.fnOf "law" "law" (U6 (top 35)) (Y6 (top 35)) (p6 (top 35)) .none kV32 dc32 pm32 an32 cd32 ct32),sl32⟩) (c32:W.codeIn K cd32 "law"=true) (k32:W.keepIn K (.ref f32)=true)
  (z_bool:W.nsIn K mainGlobals "bool"=some none)
  (z_dict:W.nsIn K mainGlobals "dict"=some none)
  (z_enumerate:W.nsIn K mainGlobals "enumerate"=some none)
  (z_int:W.nsIn K mainGlobals "int"=some none)
  (z_isinstance:W.nsIn K mainGlobals "isinstance"=some none)
  (z_len:W.nsIn K mainGlobals "len"=some none)
  (z_list:W.nsIn K mainGlobals "list"=some none)
  (z_range:W.nsIn K mainGlobals "range"=some none)
  (z_reversed:W.nsIn K mainGlobals "reversed"=some none)
  (z_sorted:W.nsIn K mainGlobals "sorted"=some none)
  (z_str:W.nsIn K mainGlobals "str"=some none)
  (z_tuple:W.nsIn K mainGlobals "tuple"=some none)
  (z_zip:W.nsIn K mainGlobals "zip"=some none)
  : ∃fd:FuncData,(∀(s:Shared) (v:Value),BindsTo s fd ⟨[v],[]⟩ [("_law_script",v)])/\∀base:Heap,K.In base->base.Ns mainGlobals mg->FnOk l.prog w K mg base CX0 7 fa fd ["_law_script"] (spD K sj0):=by
 have e:=hfa.symm.trans (D7 X G a32);cases e;have T:Txt mg:=⟨D3 X G z_bool,D3 X G z_dict,D3 X G z_enumerate,D3 X G z_int,D3 X G z_isinstance,D3 X G z_len,D3 X G z_list,D3 X G z_range,D3 X G z_reversed,D3 X G z_sorted,D3 X G z_str,D3 X G z_tuple,D3 X G z_zip⟩;obtain⟨f0,g0,F0,a0⟩:=h0;obtain⟨f1,g1,F1,a1⟩:=h1;obtain⟨f2,g2,F2,a2⟩:=h2;obtain⟨f3,g3,F3,a3⟩:=h3;obtain⟨f4,g4,F4,a4⟩:=h4;have F5:=ji0 (st:=top 6) l5 c5 k5;obtain⟨f6,g6,F6,a6⟩:=h6;obtain⟨f7,g7,F7,a7⟩:=h7;have F8:=ji0 (st:=top 9) l8 c8 k8;obtain⟨f9,g9,F9,a9⟩:=h9;obtain⟨x6,H4,q6,s4⟩:=h10;obtain⟨u1,H5,q4,t2⟩:=h11;obtain⟨y1,w3,n7,s0⟩:=h12;obtain⟨u8,H6,p4,s6⟩:=h13;obtain⟨v1,v2,q8,r2⟩:=h14;obtain⟨u2,H8,n0,t7⟩:=h15;obtain⟨x7,H7,n2,s8⟩:=h16;obtain⟨H3,u3,m1,r7⟩:=h17;obtain⟨I1,z1,p1,s1⟩:=h18;obtain⟨y4,z4,n3,r1⟩:=h19;obtain⟨I6,I3,n4,s9⟩:=h20;obtain⟨H9,w5,m2,s7⟩:=h21;obtain⟨I5,z2,o1,t1⟩:=h22;obtain⟨I2,w7,q7,s3⟩:=h23;obtain⟨w4,I4,q2,r6⟩:=h24;obtain⟨u7,y7,q3,r3⟩:=h25;obtain⟨w1,z3,m0,t4⟩:=h26;obtain⟨u4,y3,p3,s2⟩:=h27;obtain⟨y2,u5,m6,t3⟩:=h28;obtain⟨z6,z5,o0,r4⟩:=h29;obtain⟨w0,u6,q1,s5⟩:=h30;obtain⟨B2,y5,n1,r5⟩:=h31;have t6:=fl0 (st:=top 35) l32 c32 k32;refine⟨W.fnOf "law" "law" (U6 (top 35)) (Y6 (top 35)) (p6 (top 35)) .none kV32 dc32 pm32 an32 cd32 ct32,λs v=>.of_eq rfl,λbase _ _=>?_⟩;have b1:=cN1 l.prog w base X G F0 a0 (nk0 F0 T) rfl (by intros;rfl);have e2:=cN1 l.prog w base X G F2 a2 (go0 F2 T) rfl (by intros;rfl);have h8:=cN2 l.prog w base X G q4 t2 (i10 q4 T) rfl (by intros;rfl);have Z:=cD2 l.prog w base X G n7 s0 (qk0 n7 T) rfl (by intros;rfl);have e6:=cN2 l.prog w base X G p4 s6 (kf0 p4 T) rfl (by intros;rfl);have b0:=cD2 l.prog w base X G q8 r2 (kp0 q8 T) rfl (by intros;rfl);have b2:=cD2 l.prog w base X G n0 t7 (ni0 n0 T) rfl (by intros;rfl);have e7:=cD3 l.prog w base X G m1 r7 (lr0 m1 T) rfl (by intros;rfl);have J:=cN1 l.prog w base X G n3 r1 (kh0 n3 T) rfl (by intros;rfl);have g5:=cD1 l.prog w base X G n4 s9 (ln0 n4 T) rfl (by intros;rfl);have O:=cD2 l.prog w base X G m2 s7 (mb0 m2 T) rfl (by intros;rfl);have l9:=cD1 l.prog w base X G F1 a1 (Zs0 F1 T b1) rfl (by intros;rfl);have d1:=cD2 l.prog w base X G F3 a3 (o90 F3 T b1) rfl (by intros;rfl);have j2:=cN1 l.prog w base X G F4 a4 (dc0 F4 T e2) rfl (by intros;rfl);have d0:=cN3 l.prog w base X G n2 s8 (py0 n2 T b2) rfl (by intros;rfl);have c1:=cD2 l.prog w base X G o1 t1 (ko0 o1 T J O) rfl (by intros;rfl);have e0:=cD3 l.prog w base X G q7 s3 (pk0 q7 T b0 J O) rfl (by intros;rfl);have c4:=cD2 l.prog w base X G q3 r3 (qd0 q3 T J b2 O) rfl (by intros;rfl);have e1:=cD3 l.prog w base X G m0 t4 (no0 m0 T g5 J) rfl (by intros;rfl);have e3:=cN1 l.prog w base X G m6 t3 (nl0 m6 T J) rfl (by intros;rfl);have c3:=cD1 l.prog w base X G n1 r5 (qe0 n1 T J) rfl (by intros;rfl);have c6:=cN3 l.prog w base X G F6 a6 (h00 F6 T j2) rfl (by intros;rfl);have M:=cD2 l.prog w base X G F7 a7 (kr0 F7 T e2 d1) rfl (by intros;rfl);have h5:=cD3 l.prog w base X G p1 s1 (ky0 p1 T b0 e7 d0) rfl (by intros;rfl);have e5:=cD3 l.prog w base X G p3 s2 (kk0 p3 T e1) rfl (by intros;rfl);have c0:=cD1 l.prog w base X G o0 r4 (sx0 o0 T c1 e3) rfl (by intros;rfl);have b3:=cD1 l.prog w base X G q1 s5 (tl0 q1 T c1) rfl (by intros;rfl);have j1:FnN l.prog w K mg base "met" 4 ["web", "k"] xt0:=⟨f5,_,ee0 F5 T c6,D7 X G a5,k5,λs us X hl=>match us,hl with|[_,_],_=>n9 X rfl t5 rfl rfl rfl⟩;have l3:iv0 l.prog w K mg base "met" 4 ["web", "k"] xt0 [(.int 0)]:=⟨f5,_,[.int 0 tt5_0],[.int 0],ee0 F5 T c6,D7 X G a5,k5,λs us X hl=>by obtain⟨u0,rfl⟩:=us1 (show us.length=1 by rw[List.length_append] at hl;simpa using hl);exact n9 X rfl t5 rfl rfl rfl,by repeat (first|exact .nil|refine .cons (by first|exact⟨_,rfl⟩|rfl) ?_),λH B=>by simp[p8,o6,o9,X5]⟩;have d2:=cD2 l.prog w base X G q6 s4 (pw0 q6 T h8 l9 M) rfl (by intros;rfl);have e4:=cD2 l.prog w base X G q2 r6 (nj0 q2 T Z e6 h5) rfl (by intros;rfl);have q9:FnD l.prog w K mg base "drawn" 5 ["web", "k"] xk0:=⟨f8,_,li0 F8 T j1 M,D7 X G a8,k8,λs us X hl=>match us,hl with|[_,_],_=>n9 X rfl t8 rfl rfl rfl⟩;have i3:di0 l.prog w K mg base "drawn" 5 ["web", "k"] xk0 [(.int 0)]:=⟨f8,_,[.int 0 tt8_0],[.int 0],li0 F8 T j1 M,D7 X G a8,k8,λs us X hl=>by obtain⟨u0,rfl⟩:=us1 (show us.length=1 by rw[List.length_append] at hl;simpa using hl);exact n9 X rfl t8 rfl rfl rfl,by repeat (first|exact .nil|refine .cons (by first|exact⟨_,rfl⟩|rfl) ?_),λH B=>by simp[p8,o6,o9,X5]⟩;have l0:=cD1 l.prog w base X G F9 a9 (dg0 F9 T d2 M i3 l3) rfl (by intros;rfl);exact Yw0 t6 T Z c4 c0 c3 b3 b0 e5 e4 e0 l0
theorem ke0:∀ns:List Int,Rps K H B (ns.map D.int) (ns.map V.int)
 | []=>by rw[List.map_nil,List.map_nil,o6]
 | n::ns=>by
  rw[List.map_cons,List.map_cons,p8];exact⟨_,_,rfl,by rw[o9],ke0 ns⟩
theorem gc0{ns:List Int}(hK:me0 K=true)(hS:SqL K H a (ns.map V.int))(hm:sj0 [.lst (ns.map .int)]=some (.bl true)):spD K sj0 [.ref a] H (λv _=>v=.bl true) λ_ _ _=>False:=by
 refine⟨λ_=>False,[.lst (ns.map .int)],.bl true,λ_ z=>z.elim,?_,hm,λv H' _ r=>by rw[Y5] at r;exact r⟩;rw[p8];refine⟨_,[],rfl,?_,by rw[o6]⟩;rw[Z8];exact⟨a,ns.map V.int,rfl,script_at hK hS,ke0 ns⟩
end Kk
open PySem.W PyProof.Rows
theorem PySem.W.Fast.tw1407986194764967128:True:=trivial
theorem PySem.W.Fast.tw11495651529684614879:True:=trivial
theorem PySem.W.Fast.tw12115955093493911010:True:=trivial
theorem PySem.W.Fast.tw15103177438540808061:True:=trivial
theorem PySem.W.Fast.tw4009825642062512507:True:=trivial
theorem PySem.W.Fast.tw492529738503683335:True:=trivial
theorem PySem.W.Fast.tw17829711905090669212:True:=trivial
theorem PySem.W.Fast.tw13775938714235053979:True:=trivial
theorem PySem.W.Fast.tw16357338033236534209:True:=trivial
theorem PySem.W.Fast.tw6509378357687694318:True:=trivial
theorem PySem.W.Fast.tw7914466734086202725:True:=trivial
theorem PySem.W.Fast.tw2386535068614485259:True:=trivial
theorem PySem.W.Fast.tw17348400280269920141:True:=trivial
theorem PySem.W.Fast.tw17585586777185491531:True:=trivial
theorem PySem.W.Fast.tw4768470229214213619:True:=trivial
theorem PySem.W.Fast.tw932717609730830149:True:=trivial
theorem PySem.W.Fast.tw10647619104400537165:True:=trivial
theorem PySem.W.Fast.tw8432150005409288720:True:=trivial
theorem PySem.W.Fast.tw16369244089365233483:True:=trivial
theorem PySem.W.Fast.tw18359637926510408954:True:=trivial
theorem PySem.W.Fast.tw8898082592308697119:True:=trivial
theorem PySem.W.Fast.tw17902419738168988562:True:=trivial
theorem PySem.W.Fast.tw2321241864716902147:True:=trivial
theorem PySem.W.Fast.tw1798432108839592811:True:=trivial
theorem PySem.W.Fast.tw327071790271491316:True:=trivial
theorem PySem.W.Fast.tw11357975475540687685:True:=trivial
theorem PySem.W.Fast.tw11211324406337709133:True:=trivial
theorem PySem.W.Fast.tw15702876324702856362:True:=trivial
theorem PySem.W.Fast.tw2353278616549715295:True:=trivial
theorem PySem.W.Fast.tw514997827644874996:True:=trivial
set_option maxRecDepth 100000 in
theorem PySem.Challenge.cw_graphpack_k15_least_webs_holds : PySem.Challenge.rw_graphpack_k15_least_webs.Holds := by
 w_on;o_law;k_head;(case hw=>w_witness2)
 k_fill
 refine DL.c60 (l:=PySem.Challenge.rw_graphpack_k15_least_webs) (n:=63) (k:=7) (x := "_law_script") (CX:=L2.CX0) (sp:=λK=>DL.spD K Kk.sj0) rfl (by decide) rfl ⟨rfl,by decide,by decide⟩ (λw h Y=>W.kIn_of Y) ?F ?S ?C
 case F =>
  intro w mg fa h KX G hmg;refine' Kk.all_mk KX G hmg ?h0 ?h1 ?h2 ?h3 ?h4 ?a5 ?l5 ?c5 ?k5 ?t5 ?h6 ?h7 ?a8 ?l8 ?c8 ?k8 ?t8 ?h9 ?h10 ?h11 ?h12 ?h13 ?h14 ?h15 ?h16 ?h17 ?h18 ?h19 ?h20 ?h21 ?h22 ?h23 ?h24 ?h25 ?h26 ?h27 ?h28 ?h29 ?h30 ?h31 ?a32 ?l32 ?c32 ?k32 ?z_bool ?z_dict ?z_enumerate ?z_int ?z_isinstance ?z_len ?z_list ?z_range ?z_reversed ?z_sorted ?z_str ?z_tuple ?z_zip
  (case h0=>exact Kk.W5 (by k_is) (by k_is) (by k_is) (by k_is))
  (case h1=>exact Kk.W5 (by k_is) (by k_is) (by k_is) (by k_is))
  (case h2=>exact Kk.W5 (by k_is) (by k_is) (by k_is) (by k_is))
  (case h3=>exact Kk.W5 (by k_is) (by k_is) (by k_is) (by k_is))
  (case h4=>exact Kk.W5 (by k_is) (by k_is) (by k_is) (by k_is))
  (case a5=>k_is)
  (case l5=>k_is)
  (case c5=>k_is)
  (case k5=>k_is)
  (case t5=>k_is)
  (case h6=>exact Kk.W5 (by k_is) (by k_is) (by k_is) (by k_is))
  (case h7=>exact Kk.W5 (by k_is) (by k_is) (by k_is) (by k_is))
  (case a8=>k_is)
  (case l8=>k_is)
  (case c8=>k_is)
  (case k8=>k_is)
  (case t8=>k_is)
  (case h9=>exact Kk.W5 (by k_is) (by k_is) (by k_is) (by k_is))
  (case h10=>exact Kk.W5 (by k_is) (by k_is) (by k_is) (by k_is))
  (case h11=>exact Kk.W5 (by k_is) (by k_is) (by k_is) (by k_is))
  (case h12=>exact Kk.W5 (by k_is) (by k_is) (by k_is) (by k_is))
  (case h13=>exact Kk.W5 (by k_is) (by k_is) (by k_is) (by k_is))
  (case h14=>exact Kk.W5 (by k_is) (by k_is) (by k_is) (by k_is))
  (case h15=>exact Kk.W5 (by k_is) (by k_is) (by k_is) (by k_is))
  (case h16=>exact Kk.W5 (by k_is) (by k_is) (by k_is) (by k_is))
  (case h17=>exact Kk.W5 (by k_is) (by k_is) (by k_is) (by k_is))
  (case h18=>exact Kk.W5 (by k_is) (by k_is) (by k_is) (by k_is))
  (case h19=>exact Kk.W5 (by k_is) (by k_is) (by k_is) (by k_is))
  (case h20=>exact Kk.W5 (by k_is) (by k_is) (by k_is) (by k_is))
  (case h21=>exact Kk.W5 (by k_is) (by k_is) (by k_is) (by k_is))
  (case h22=>exact Kk.W5 (by k_is) (by k_is) (by k_is) (by k_is))
  (case h23=>exact Kk.W5 (by k_is) (by k_is) (by k_is) (by k_is))
  (case h24=>exact Kk.W5 (by k_is) (by k_is) (by k_is) (by k_is))
  (case h25=>exact Kk.W5 (by k_is) (by k_is) (by k_is) (by k_is))
  (case h26=>exact Kk.W5 (by k_is) (by k_is) (by k_is) (by k_is))
  (case h27=>exact Kk.W5 (by k_is) (by k_is) (by k_is) (by k_is))
  (case h28=>exact Kk.W5 (by k_is) (by k_is) (by k_is) (by k_is))
  (case h29=>exact Kk.W5 (by k_is) (by k_is) (by k_is) (by k_is))
  (case h30=>exact Kk.W5 (by k_is) (by k_is) (by k_is) (by k_is))
  (case h31=>exact Kk.W5 (by k_is) (by k_is) (by k_is) (by k_is))
  (case a32=>k_is)
  (case l32=>k_is)
  (case c32=>k_is)
  (case k32=>k_is)
  (case z_bool=>k_is)
  (case z_dict=>k_is)
  (case z_enumerate=>k_is)
  (case z_int=>k_is)
  (case z_isinstance=>k_is)
  (case z_len=>k_is)
  (case z_list=>k_is)
  (case z_range=>k_is)
  (case z_reversed=>k_is)
  (case z_sorted=>k_is)
  (case z_str=>k_is)
  (case z_tuple=>k_is)
  (case z_zip=>k_is)
 case S=>exact λw H a ns hl hS=>Kk.gc0 (by kernel_rfl) hS (Kk.dx0 ns hl)
 case C=>exact λ_ _ _ _ z=>z
#print axioms PySem.Challenge.cw_graphpack_k15_least_webs_holds
