import PyProof.Rows.All
import Wide.All
import OpenK.AllK
import Wide.FinOn
import Lean
import PyProof.EqAt
import PyProof.EqKinds
import PyProof.TupleCall
import PyProof.NeKinds
import PyProof.Rows.SetFrom
import KE.KRevIter
import PyProof.ZipIter
import PyProof.TupleOfGen
import PyProof.Rows.ZipGen
import PyProof.EnumMake
import PyProof.EnumFor
import PyProof.ListRange
import PyProof.LayNew
import KE.KDictOf
import KE.KIntText
import KE.IntTextLaws
import PyProof.StrCalls2
import PyProof.Rows.StrNews2
import PyProof.StrLawsTight
import PyProof.ExcArgsOwn
import PyProof.ExcAttrAll.ValueError
import PyProof.IsInstanceT
import PyProof.RulesAs
import PyProof.Rows.Tup
import OpenK.KOwn
import PyProof.ExcInit
import OpenK.KCls
import OpenK.KMake
import PyProof.InstStoreFacts
import PyProof.ListMulRight
import PyProof.AttrMissHeap
import PyProof.RaisesMany
import PyProof.RulesTry
import PyProof.NsDelKeeps
import PyProof.Rows.FStr
import OpenK.KWalk
import PyProof.AutoListH
import PyProof.CallFns
import PyProof.Rows.SortStr
import KE.KDictSum
import PyProof.Draws
import PyProof.Rows.CallKwBuiltin
import PyProof.SumWalkG
import KE.KDictLaws
import PyProof.DictTruth
import PyProof.Rows.SortShellK
import PyProof.Rows.SortWalk
import PyProof.Rows.StrSplitAre
import PySem.Challenge.RW_graphpack_k08_texts_that_show_no_web
set_option maxHeartbeats 0
set_option bootstrap.genMatcherCode false
set_option genSizeOf false
set_option compiler.postponeCompile true
set_option compiler.extract_closed false
set_option linter.all false
noncomputable section
open PySem
noncomputable def A0:=@PySem.wpAny_bind
noncomputable def A1:=@Nat.le_refl
noncomputable def A2:=@PySem.W.mg_of
noncomputable def A3:=@PySem.wpAny_pure
noncomputable def A4:=@PySem.Heap.lt_size
noncomputable def A5:=@List.mem_cons_self
noncomputable def A6:=@List.mem_map
noncomputable def A7:=@List.mem_cons_of_mem
noncomputable def A8:=@Bool.false_ne_true
noncomputable def A9:=@Nat.le_trans
noncomputable def B0:=@PySem.Heap.get?_push_of_some
noncomputable def B1:=@List.mem_cons
noncomputable def B2:=@Option.some.inj
noncomputable def B3:=@Ne.symm
noncomputable def B4:=@List.mem_range
noncomputable def B5:=@Nat.lt_of_lt_of_le
noncomputable def B6:=@Nat.ne_of_lt
noncomputable def B7:=@congrArg
noncomputable def B8:=@PySem.wpAny_mono
noncomputable def B9:=@PySem.wpAny_loadPart_at
noncomputable def C0:=@List.mem_append_right
noncomputable def C1:=@Nat.lt_irrefl
noncomputable def C3:=@Nat.zero_le
noncomputable def C4:=@Int.emod_nonneg
noncomputable def C5:=@Int.emod_lt_of_pos
noncomputable def C6:=@PySem.Heap.get?_push_size
noncomputable def C7:=@List.mem_append
noncomputable def C8:=@PySem.mem_of_lookup
noncomputable def C9:=@PySem.typeIs_str
noncomputable def D0:=@PySem.call_meets
noncomputable def D2:=@PySem.PassesOwn.never
noncomputable def D3:=@PySem.W.mg_none_of
noncomputable def D4:=@Nat.mul_le_mul_right
noncomputable def D5:=@PySem.wpAny_field
noncomputable def D6:=@PySem.wpAny_newObj_type
noncomputable def D7:=@PySem.F.slot_str_split
noncomputable def D8:=@Nat.ne_of_gt
noncomputable def D9:=@Nat.le_of_eq
noncomputable def E1:=@List.getElem?_eq_getElem
noncomputable def E2:=@PySem.W.kia_one
noncomputable def E3:=@List.length_eq_zero_iff
noncomputable def E4:=@decide_eq_true
noncomputable def E5:=@decide_eq_false
noncomputable def E6:=@PySem.wpAny_truthy_bool
noncomputable def E7:=@PySem.wpAny_holding
noncomputable def E9:=@PySem.codeAny_mono
noncomputable def G0:=@PySem.wpAny_Call_Name_kw
noncomputable def H0:=@List.nodup_cons
noncomputable def I0:=@PySem.typeIs_int
noncomputable def K0:=@List.all_eq_true
noncomputable def K2:=@List.getElem?_eq_some_iff
noncomputable def L0:=@PyProof.Rows.slot_tuple_getitem
noncomputable def L1:=@PySem.Heap.get?_update_other
noncomputable def L3:=@List.map_congr_left
noncomputable def L4:=@List.mem_append_left
noncomputable def L5:=@PySem.wpAny_standAt
noncomputable def L6:=@PySem.wpAny_passesOwn
noncomputable def L7:=@List.mem_of_getElem?
noncomputable def L8:=@LawfulBEq.eq_of_beq
noncomputable def L9:=@PySem.SeqAt.EqAt.same
noncomputable def M0:=@PySem.Obj.data_mapFields
noncomputable def M1:=@List.mem_singleton
noncomputable def M2:=@List.cons_ne_nil
noncomputable def N0:=@PySem.F.type_str_split
noncomputable def N1:=@PySem.F.slot_str_startswith
noncomputable def N2:=@PySem.F.type_str_startswith
noncomputable def N3:=@PySem.codeAny_builtin
noncomputable def N4:=@PySem.SeqAt.EqAt.int_str
noncomputable def N9:=@PySem.SeqAt.EqAt.str_int
noncomputable def O0:=@PySem.Heap.get?_none_of_le
noncomputable def P1:=@List.mem_filterMap
noncomputable def P2:=@PySem.Calls.spliced_nil
noncomputable def P3:=@PySem.Calls.spliced_cons
noncomputable def P4:=@PySem.concat_meets
noncomputable def P5:=@PySem.wpAny_comprehension_free
noncomputable def P6:=@Option.map_eq_some_iff
noncomputable def P7:=@PySem.F.slot_int_rmul
noncomputable def P8:=@Nat.le_succ
noncomputable def P9:=@Nat.lt_succ_of_lt
noncomputable def Q1:=@PySem.Heap.get?_update_self
noncomputable def Q2:=@PySem.Obj.isFreed_of_fields
noncomputable def R1:=@PyProof.Rows.part_short
noncomputable def S0:=@List.mem_map_of_mem
noncomputable def S1:=@PySem.F.slot_str_index
noncomputable def S2:=@PySem.F.type_str_index
noncomputable def S3:=@PySem.F.typeOf_object_class
noncomputable def S4:=@PySem.codeAny_call_builtin
noncomputable def T0:=@PySem.call_isinstance
noncomputable def U1:=@PySem.isinstance_outer
noncomputable def U2:=@Nat.le_of_lt
noncomputable def X1:=@PySem.wpAny_assign_Name
noncomputable def X2:=@PySem.wpAny_pyIter_list
noncomputable def X9:=@PyProof.Rows.callWith_type1
noncomputable def Y2:=@List.of_mem_zip
noncomputable def Y3:=@PySem.noFill_tuple_add
noncomputable def b3:=@PySem.seq_tuple_add
noncomputable def b4:=@PySem.F.slot_tuple_add
noncomputable def b5:=@PySem.F.entry_tuple_add
noncomputable def b6:=@PySem.F.args_tuple_add_2
noncomputable def d4:=@PySem.wpAny_typeOf
noncomputable def d5:=@PySem.SeqAt.EqAt.none_bool
noncomputable def d6:=@PySem.SeqAt.EqAt.none_int
noncomputable def e7:=@PySem.SeqAt.EqAt.none_str
noncomputable def e8:=@PySem.SeqAt.EqAt.bool_none
noncomputable def e9:=@PySem.SeqAt.EqAt.bool_bool
noncomputable def g4:=@PySem.SeqAt.EqAt.bool_int
noncomputable def g5:=@PySem.SeqAt.EqAt.bool_str
noncomputable def g7:=@PySem.SeqAt.EqAt.int_none
noncomputable def g9:=@PySem.SeqAt.EqAt.int_bool
noncomputable def i0:=@PySem.SeqAt.EqAt.int_int
noncomputable def i3:=@PySem.SeqAt.EqAt.str_none
noncomputable def i4:=@PySem.SeqAt.EqAt.str_bool
noncomputable def i5:=@PySem.SeqAt.EqAt.str_str
noncomputable def i6:=@PySem.codeAny_compStart_list
noncomputable def i7:=@PySem.F.plainAttrs_str
noncomputable def i8:=@PyProof.Rows.F.plain_set_update_loop
noncomputable def i9:=@PySem.F.entry_str_split
noncomputable def j0:=@PySem.F.args_str_split_2
noncomputable def j3:=@ne_true_of_eq_false
noncomputable def m3:=@PySem.wpAny_setField
noncomputable def m4:=@PyProof.Rows.boot_isinstance
noncomputable def n0:=@of_decide_eq_true
noncomputable def n5:=@Nat.lt_trichotomy
noncomputable def n9:=@List.dropLast_concat_getLast
noncomputable def o0:=@List.count_eq_zero
noncomputable def o1:=@Classical.axiomOfChoice
noncomputable def o3:=@PySem.F.slot_str_endswith
noncomputable def p4:=@PySem.F.type_str_endswith
noncomputable def p9:=@beq_eq_false_iff_ne
noncomputable def r0:=@PySem.Calls.Name_function_global
noncomputable def v0:=@PyProof.Rows.callWith_builtin1
noncomputable def w8:=@PySem.wpAny_callSpecial?_slot
noncomputable def y2:=@PySem.Calls.evalArgs_plain
noncomputable def y8:=@PySem.wpAny_newFunctionEnv
noncomputable def y9:=@List.getD_eq_getElem?_getD
noncomputable def A00:=@List.getElem_mem
noncomputable def A60:=@PySem.F.plainAttrs_list
noncomputable def A70:=@PySem.F.slot_tuple_mul
noncomputable def A80:=@PySem.F.slot_tuple_rmul
noncomputable def A90:=@PySem.wpAny_binaryOp_repeat_ref
noncomputable def Ap0:=@PySem.SeqAt.RcAt.lists_lengths
noncomputable def Aq0:=@PyProof.Rows.F.entry_set_update_loop
noncomputable def Ar0:=@PyProof.Rows.SetOf_congr
noncomputable def At0:=@PySem.F.slot_int_mul
noncomputable def Ax0:=@List.contains_iff_mem
noncomputable def Az0:=@List.length_pos_iff
noncomputable def B00:=@List.dropWhile_sublist
noncomputable def B10:=@PySem.F.slot_str_partition
noncomputable def B20:=@PySem.F.type_str_partition
set_option Elab.async false
set_option linter.all false
set_option maxRecDepth 100000
namespace XC
noncomputable def zy0:List Str:=["__class__", "__getattribute__", "__getattr__"]
variable{h h' base:Heap}{tl us:List Value}{b o e c tg iter elt:Expr}{prog q:Program}{A:Around}{E Q:Value->Shared->Prop}{a it dx sl fa I z i1 i2 l1 l2 L rr:Addr}{n t' i j k m x1:Nat}{y root x name qual x2 c':Str}{v u vl vu:Value}{R:Result->Shared->Prop}{tk:Tok}{mg:Str->Option Value}{rs N ps loose N':List Str}{od:Option Addr}{items ys:Array Value}{α β γ:Type}{pins:List (Addr×Obj)}{ch fp F:List Addr}{s' s2:Shared}{pos p pos' tpos apos p2 cpos py spos px pos2 np p0:Pos}{rest:List Stmt}{es ifs elts:List Expr}{K:W.Frag}{l caps idx:List Nat}{lo hi:Option Int}{fd:FuncData}{sc scope:Scope}{XP:(Str->Option Value)->Heap->Prop}{YP:World->Heap->Prop}{tn:Nat->Heap->Prop}{RR:Value->Addr->Result->Shared->Prop}{ok':Addr->Prop}{ts:List (List Nat)}{many:Int}
abbrev bmV:List Value:=[.type "ValueError",.type "Exception",.type "BaseException",.type "object"]
inductive Row (h:Heap):List Value->Prop
 | end:Row h bmV
 | own {C:Addr} {cls:Value} {dd:Option Addr} {cd:ClassData} {sl:Array (Option Value)} {m:Str->Option Value} {tl:List Value} :
   h.get? C=some { cls:=cls,dict:=dd,data:=.cls cd,slots:=sl }->h.Ns cd.ns m->(∀n∈zy0,m n=none)->Row h tl->Row h (.ref C::tl)
structure Cl(h:Heap)(C:Addr)(tl:List Value):Prop where
 obj:∃(nm q:Str) (N:Addr) (bs:List Value) (hdct:Bool) (sn:List Str) (sub:List Value) (ab:Bool) (col:Option Bool) (dd:Option Addr) (k0 k1 k2 k3 k5:Option Value) (newId:String),
  h.get? C=some (excClassObj nm q C N bs tl hdct sn sub ab col dd k0 k1 k2 k3 k5 newId)
 row:Row h (.ref C::tl)
theorem Row.has(r:Row h tl){T:String}{b:Bool}(hb:bmV.contains (.type T)=b):tl.contains (.type T)=b:=by
 induction r with
 | «end»=>exact hb
 | own _ _ _ _ ih=>rw[List.contains_cons,ih];rfl
section
variable{w:World}{g:Array GenState}{d:Drawn}{t:Nat}{os:OsState}{C:Addr}{o:Obj}
theorem Row.along{M:Model}{n:Str}{y:Option Value}{Q:Option Value->Shared->Prop}(hn:n∈zy0)(hy:lookupAlong bmV n=pure y)(hq:Q y ⟨h,g,d,t,os⟩)(r:Row h tl):wpAny M A (lookupAlong tl n) Q E ⟨h,g,d,t,os⟩:=by
 induction r with
 | «end»=>rw[hy];exact A3 hq
 | own h1 h2 h3 _ ih =>
  rw[lookupAlong_cons];refine A0 (wpAny_classOwn_cls h1 h2 ?_);rw[h3 n hn];exact ih
theorem Cl.look{M:Model}{n:Str}{y:Option Value}{Q:Option Value->Shared->Prop}(c:Cl h C tl)(hn:n∈zy0)(hy:typeLookup (.type "ValueError") n=pure y)(hq:Q y ⟨h,g,d,t,os⟩):wpAny M A (typeLookup (.ref C) n) Q E ⟨h,g,d,t,os⟩:=by
 obtain⟨nm,q,N,bs,U,sn,sub,ab,Y,dd,k0,k1,k2,k3,k5,S,hC⟩:=c.obj;have O:lookupAlong bmV n=pure y:=by
  rw[typeLookup_eq,F.excBase_ValueError.mroIs] at hy;exact hy
 rw[typeLookup_eq];exact A0 (wpAny_mroOf_exc hC (c.row.along hn O hq))
theorem Cl.sub{M:Model}{Q:Bool->Shared->Prop}(c:Cl h C tl)(hq:Q ((Value.ref C::tl).contains v) ⟨h,g,d,t,os⟩):wpAny M A (isSubtype (.ref C) v) Q E ⟨h,g,d,t,os⟩:=by
 obtain⟨nm,q,N,bs,S,sn,sub,ab,U,dd,k0,k1,k2,k3,k5,O,hC⟩:=c.obj;exact wpAny_isSubtype_exc hC hq
theorem Cl.isT(c:Cl h C tl):(⟨h,g,d,t,os⟩:Shared).TypeIs (.ref C) "type" := by
 obtain⟨nm,q,N,bs,S,sn,sub,ab,U,dd,k0,k1,k2,k3,k5,O,hC⟩:=c.obj;exact⟨_,hC,rfl⟩
theorem Cl.hasT(c:Cl h C tl){T:String}{b:Bool}(hb:bmV.contains (.type T)=b):(Value.ref C::tl).contains (.type T)=b:=c.row.has hb
theorem c80:typeLookup (.type "ValueError") "__class__"=pure (some (.builtin "object.__class__")):=by rw[typeLookup_type,builtinLookup_eq_fast];kernel_rfl
theorem n1:("__class__" : Str)∈zy0:=.head _
theorem n2:("__getattribute__" : Str)∈zy0:=.tail _ (.head _)
theorem n3:("__getattr__" : Str)∈zy0:=.tail _ (.tail _ (.head _))
theorem get_class(c:Cl h C tl)(hx:h.get? a=some o)(hc:o.cls=.ref C)(hq:R (.ok (.ret (.ref C))) ⟨h,g,d,t,os⟩) :
  codeAny (model prog w) A (.call (.builtin "getset_descriptor.__get__") ⟨[.builtin "object.__class__",.ref a,.ref C],[]⟩) R ⟨h,g,d,t,os⟩:=by
 have ty:(⟨h,g,d,t,os⟩:Shared).TypeIs (.builtin "object.__class__") "getset_descriptor" := S3;have O:(Value.ref C::tl).contains (.type (".".intercalate ("object.__class__".cutAt '.').dropLast))=true:=by rw[F.owner_object_class];exact c.hasT (by decide +kernel)
 refine S4 F.slot_gs_get.plain F.entry_gs_get (F.slot_gs_get.check _ _ _ _ _ _ _ _ ty (F.args_gs_get _ _ _) ?_)
 repeat (any_goals (first|with_reducible assumption|(with_reducible refine B9 hx ?_;rw[hc])|(with_reducible refine c.sub ?_;rw[O])|wp_step))
 refine⟨Code.quiet_builtin _ (by decide +kernel),N3 F.entry_object_class ?_⟩;unfold Builtin.«object.__class__»
 repeat (any_goals (first|with_reducible assumption|(with_reducible refine B9 hx ?_;rw[hc])|wp_step))
theorem gk0{tk:Tok}{Q:Fin->Shared->Prop}(c:Cl h C tl)(hx:h.get? a=some o)(hc:o.cls=.ref C)(hq:Q (.done (.ret (.ref C))) ⟨h,g,d,t,os⟩) :
  wpAny (model prog w) A (Builtin.«object.__getattribute__» ⟨[.ref a,.str "__class__" tk],[]⟩) Q E ⟨h,g,d,t,os⟩:=by
 have ty:(⟨h,g,d,t,os⟩:Shared).TypeIs (.builtin "object.__class__") "getset_descriptor" := S3;have f5:=S3;have f6:=F.slot_gs_get.lookup;have f7:=F.slot_gs_set.lookup
 repeat (any_goals (first|with_reducible assumption|(with_reducible refine B9 hx ?_;rw[hc])|with_reducible refine c.look n1 c80 ?_|wp_step))
 refine get_class c hx hc ?_
 repeat (any_goals (first|with_reducible assumption|wp_step))
theorem gv0{M:Model}{Q:Unit->Shared->Prop}(c:Cl h C tl)(hx:h.get? a=some o)(hc:o.cls=.ref C)(hq:Q () ⟨h,g,d,t,os⟩):wpAny M A (checkBuiltinCall "BaseException.__getattribute__" ⟨[.ref a,v],[]⟩) Q E ⟨h,g,d,t,os⟩:=by
 have k1:builtinKind "BaseException.__getattribute__"=some .slot:=by decide +kernel
 have k2:splitId "BaseException.__getattribute__"=some ("BaseException", "__getattribute__"):=by decide +kernel
 have k3:(Value.ref C::tl).contains (.type "BaseException")=true:=c.hasT (by decide +kernel);have k4:=F.args_bexc_ga (.ref a) v;simp only[checkBuiltinCall,k1,k2];refine A0 ?_;unfold isInstance
 repeat (first|(with_reducible refine B9 hx ?_;rw[hc])|(with_reducible refine c.sub ?_;rw[k3])|wp_step)
 exact hq
theorem iv0{tk:Tok}(c:Cl h C tl)(hx:h.get? a=some o)(hc:o.cls=.ref C)(hq:R (.ok (.ret (.ref C))) ⟨h,g,d,t,os⟩) :
  codeAny (model prog w) A (.call (.builtin "BaseException.__getattribute__") ⟨[.ref a,.str "__class__" tk],[]⟩) R ⟨h,g,d,t,os⟩ :=
 S4 F.attr_ValueError.ga.plain F.entry_bexc_ga (gv0 c hx hc (gk0 c hx hc hq))
theorem dx0{tk:Tok}{fill expr:Bool}(c:Cl h C tl)(hx:h.get? a=some o)(hc:o.cls=.ref C)(hq:Q (.ref C) ⟨h,g,d,t,os⟩) :
  wpAny (model prog w) A (getAttrBy (.ref a) (.str "__class__" tk) fill expr) Q E ⟨h,g,d,t,os⟩:=by
 have f3:=F.attr_ValueError.ga.bind (.ref a);have z0:(expr&&onTheHeap (Value.builtin "BaseException.__getattribute__"))=false:=by cases expr<;>rfl
 have z2:(Value.builtin "BaseException.__getattribute__"==Value.builtin "object.__getattribute__")=false:=by decide +kernel
 have z1:(onTheHeap (Value.ref C)&&Value.builtin "BaseException.__getattribute__"==Value.builtin "object.__getattribute__")=false:=by rw[z2];rfl
 repeat (any_goals (first|with_reducible assumption|(with_reducible refine B9 hx ?_;rw[hc])|with_reducible refine c.look n2 F.attr_ValueError.ga.lookup ?_|with_reducible refine c.look n3 F.attrBase_ValueError.noGetattr ?_|wp_step))
 refine iv0 c hx hc ?_
 repeat (any_goals (first|with_reducible assumption|wp_step))
theorem p70{Q:Option Value->Shared->Prop}(c:Cl h C tl)(hx:h.get? a=some o)(hc:o.cls=.ref C)(hq:Q (some (.ref C)) ⟨h,g,d,t+1,os⟩):wpAny (model prog w) A (getAttr? (.ref a) "__class__") Q E ⟨h,g,d,t,os⟩:=by
 unfold getAttr? getAttrBy?
 repeat (any_goals (first|with_reducible assumption|with_reducible apply dx0 c hx hc|wp_step))
end
section
variable{w:World}{g:Array GenState}{d:Drawn}{t:Nat}{os:OsState}{C W:Addr}{o:Obj}{tw:List Value}
theorem ez0:(Value.ref C::tl).contains (.ref C)=true:=by simp
theorem me0{dep:Int}{tk:Tok}{Q:Fin->Shared->Prop}(c:Cl h C tl)(cw:Cl h W tw)(hx:h.get? a=some o)(hc:o.cls=.ref C)
  (hq:∀t',Q (.done (.ret (.bool ((Value.ref C::tl).contains (.ref W))))) ⟨h,g,d,t',os⟩) :
  wpAny (model prog w) A (Builtin.«isinstance.nested» ⟨[.ref a,.ref W,.int dep tk],[]⟩) Q E ⟨h,g,d,t,os⟩:=by
 obtain⟨c8,qW,NW,a8,Z,a5,a1,d2,a2,e1,b0,d3,e4,e0,a6,U,S⟩:=cw.obj;obtain⟨e2,qC,NC,c6,a0,a7,a3,b9,a4,a9,b1,c7,e3,c9,d1,Y,O⟩:=c.obj;have hW:=cw.isT (g:=g) (d:=d) (t:=t) (os:=os);have c0:=cw.isT (g:=g) (d:=d) (t:=t+1) (os:=os);have b2:=c.isT (g:=g) (d:=d) (t:=t+1) (os:=os)
 by_cases e:C=W
 ·subst e
  rw[ez0] at hq;have z:=hq t;have s1:(Value.ref C==Value.ref C)=true:=by simp
  repeat (any_goals (first|with_reducible assumption|(with_reducible refine B9 hx ?_;rw[hc])|wp_step))
 ·have s1:(Value.ref C==Value.ref W)=false:=by simp[e]
  cases hb:(Value.ref C::tl).contains (.ref W) with
  | true =>
   rw[hb] at hq;have z:=hq t
   repeat (any_goals (first|with_reducible assumption|(with_reducible refine B9 hx ?_;rw[hc])|with_reducible refine B9 S ?_|with_reducible refine B9 O ?_|(with_reducible refine c.sub ?_;rw[hb])|wp_step))
  | false =>
   rw[hb] at hq;have z:=hq (t+1)
   repeat (any_goals (first|with_reducible assumption|(with_reducible refine B9 hx ?_;rw[hc])|with_reducible refine B9 S ?_|with_reducible refine B9 O ?_|(with_reducible refine c.sub ?_;rw[hb])|with_reducible apply p70 c hx hc|wp_step))
theorem e90{T:String}{b:Bool}{dep:Int}{tk:Tok}{Q:Fin->Shared->Prop}(c:Cl h C tl)(hx:h.get? a=some o)(hc:o.cls=.ref C)(hty:typeOf (.type T)=pure (.type "type"))(hT:bmV.contains (.type T)=b)
  (hq:∀t',Q (.done (.ret (.bool b))) ⟨h,g,d,t',os⟩) :
  wpAny (model prog w) A (Builtin.«isinstance.nested» ⟨[.ref a,.type T,.int dep tk],[]⟩) Q E ⟨h,g,d,t,os⟩:=by
 obtain⟨b0,qC,NC,a5,U,a0,Y,a4,Z,a1,a2,a6,a9,a7,a8,S,O⟩:=c.obj;have a3:=c.isT (g:=g) (d:=d) (t:=t+1) (os:=os);have s1:(Value.ref C==Value.type T)=false:=by simp
 have hb:=c.hasT hT;cases b with
 | true =>
  have z:=hq t
  repeat (any_goals (first|with_reducible assumption|(with_reducible refine B9 hx ?_;rw[hc])|with_reducible refine B9 O ?_|(with_reducible refine c.sub ?_;rw[hb])|wp_step))
 | false =>
  have z:=hq (t+1)
  repeat (any_goals (first|with_reducible assumption|(with_reducible refine B9 hx ?_;rw[hc])|with_reducible refine B9 O ?_|(with_reducible refine c.sub ?_;rw[hb])|with_reducible apply p70 c hx hc|wp_step))
end
section
variable{w:World}{s:Shared}{C W:Addr}{o:Obj}{tw:List Value}
theorem aj0{Q:Value->Shared->Prop}(c:Cl s.heap C tl)(cw:Cl s.heap W tw)(hx:s.heap.get? a=some o)(hc:o.cls=.ref C)
  (hq:∀t',Q (.bool ((Value.ref C::tl).contains (.ref W))) { s with toks:=t' }):wpAny (model prog w) A (call (.builtin "isinstance") [.ref a,.ref W]) Q E s:=by
 refine T0 (S:=λ_ R s'=>s'=s/\∀t',R (.ok (.ret (.bool ((Value.ref C::tl).contains (.ref W))))) { s with toks:=t' }) (λP' w' A' R s' hs=>?_) ⟨rfl,hq⟩;obtain⟨rfl,hr⟩:=hs;obtain⟨h,g,d,t,os⟩:=s';exact U1 (me0 c cw hx hc λt'=>hr t') (by intro e;cases e)
theorem db0{T:String}{b:Bool}{Q:Value->Shared->Prop}(c:Cl s.heap C tl)(hx:s.heap.get? a=some o)(hc:o.cls=.ref C)(hty:typeOf (.type T)=pure (.type "type"))(hT:bmV.contains (.type T)=b)
  (hq:∀t',Q (.bool b) { s with toks:=t' }):wpAny (model prog w) A (call (.builtin "isinstance") [.ref a,.type T]) Q E s:=by
 refine T0 (S:=λ_ R s'=>s'=s/\∀t',R (.ok (.ret (.bool b))) { s with toks:=t' }) (λP' w' A' R s' hs=>?_) ⟨rfl,hq⟩;obtain⟨rfl,hr⟩:=hs;obtain⟨h,g,d,t,os⟩:=s';exact U1 (e90 c hx hc hty hT λt'=>hr t') (by intro e;cases e)
noncomputable def sy0(h:Heap):List Addr->Prop
 | []=>True
 | W::Ws=>(∃tw,Cl h W tw)/\sy0 h Ws
theorem j80(c:Cl h C tl)(hx:h.get? a=some o)(hc:o.cls=.ref C):∀Ws:List Addr,sy0 h Ws ->
  AnswersAll (λs=>s.heap=h) (.ref a) (Ws.map Value.ref) (Ws.map λW=>(Value.ref C::tl).contains (.ref W))
 | [],_=>trivial
 | W::Ws,⟨⟨tw,cw⟩,r⟩=>by
  refine⟨λdep tk P' w' A' R s' hs=>?_,j80 c hx hc Ws r⟩;obtain⟨rfl,hr⟩:=hs;obtain⟨h,g,d,t,os⟩:=s';exact me0 c cw hx hc λt'=>hr t'
theorem any_map(f:Addr->Bool):∀Ws:List Addr,((Ws.map f).any id)=Ws.any f
 | []=>rfl
 | W::Ws=>by simp[any_map f Ws]
theorem a90{Ws:List Addr}{tp:Addr}{Q:Value->Shared->Prop}(c:Cl s.heap C tl)(hw:sy0 s.heap Ws)(hx:s.heap.get? a=some o)(hc:o.cls=.ref C)
  (htp:PyProof.Rows.IsTup s.heap tp (Ws.map Value.ref).toArray)
  (hq:∀t',Q (.bool (Ws.any λW=>(Value.ref C::tl).contains (.ref W))) { s with toks:=t' }):wpAny (model prog w) A (call (.builtin "isinstance") [.ref a,.ref tp]) Q E s:=by
 refine T0 (S:=λ_ R s'=>s'=s/\∀t',R (.ok (.ret (.bool (Ws.any λW=>(Value.ref C::tl).contains (.ref W))))) { s with toks:=t' }) (λP' w' A' R s' hs=>?_) ⟨rfl,hq⟩;obtain⟨rfl,hr⟩:=hs;refine U1 ?_ (by intro e;cases e);obtain⟨nm,q,N,bs,a0,sn,sub,ab,a1,dd,k0,k1,k2,k3,k5,Z,O⟩:=c.obj;have al:=j80 c hx hc Ws hw;rw[← any_map] at hr;generalize (Ws.map λW=>(Value.ref C::tl).contains (.ref W))=vs at al hr;obtain⟨h,g,d,t,os⟩:=s';obtain⟨⟨Y,a3,U,a4⟩,ht,h2,tn,h3⟩:=htp;obtain rfl:Y=.type "tuple" := h2;obtain rfl:U=.seq (Ws.map Value.ref).toArray tn:=h3;have a2:(⟨h,g,d,t,os⟩:Shared).TypeIs (.ref tp) "tuple" := ⟨_,ht,rfl⟩;have f1:=F.isi_sub_tuple;have s1:(Value.ref C==Value.ref tp)=false:=by
  have:C≠tp:=λe=>by
   subst e;rw[O] at ht;exact absurd (B7 Obj.cls (B2 ht)) (by simp)
  simp[this]
 repeat (any_goals (first|with_reducible assumption|(with_reducible refine B9 hx ?_;rw[hc])|wp_step))
 refine wpAny_arrayLoop ?_;simp only[Option.getD_some,List.toList_toArray];refine isinstance_items (P:=λs=>s.heap=h) (dep:=0) (λs tk e=>e) (Ws.map Value.ref) vs _ _ al rfl λt'=>?_
 have z:=hr t';cases hv:vs.any id with
 | true =>
  rw[hv] at z;simp only[if_true]
  repeat (any_goals (first|with_reducible assumption|wp_step))
 | false =>
  rw[hv] at z;simp only[Bool.false_eq_true,if_false]
  repeat (any_goals (first|with_reducible assumption|wp_step))
theorem j40{g:Array GenState}{d:Drawn}{t:Nat}{os:OsState}{M:Model}{Q:Bool->Shared->Prop}(c:Cl h C tl)(cw:Cl h W tw)(hx:h.get? a=some o)(hc:o.cls=.ref C)
  (hq:Q ((Value.ref C::tl).contains (.ref W)) ⟨h,g,d,t,os⟩):wpAny M A (excMatches (.ref a) (.ref W)) Q E ⟨h,g,d,t,os⟩:=by
 obtain⟨a4,qW,NW,a2,U,a0,Y,a5,Z,a8,a3,a6,a9,a7,a1,S,O⟩:=cw.obj;have hB:(Value.ref W::tw).contains (.type "BaseException")=true:=cw.hasT (by decide +kernel);have f:=tc_notTuple;unfold excMatches
 repeat (first|(with_reducible refine B9 hx ?_;rw[hc])|with_reducible refine B9 O ?_|(with_reducible refine cw.sub ?_;rw[hB])|with_reducible refine c.sub ?_|wp_step)
 cases hb:(Value.ref C::tl).contains (.ref W)<;>(rw[hb] at hq;wp_walk;exact hq)
end
end XC
variable{h h' base:Heap}{tl us:List Value}{b o e c tg iter elt:Expr}{prog q:Program}{A:Around}{E Q:Value->Shared->Prop}{a it dx sl fa I z i1 i2 l1 l2 L rr:Addr}{n t' i j k m x1:Nat}{y root x name qual x2 c':Str}{v u vl vu:Value}{R:Result->Shared->Prop}{tk:Tok}{mg:Str->Option Value}{rs N ps loose N':List Str}{od:Option Addr}{items ys:Array Value}{α β γ:Type}{pins:List (Addr×Obj)}{ch fp F:List Addr}{s' s2:Shared}{pos p pos' tpos apos p2 cpos py spos px pos2 np p0:Pos}{rest:List Stmt}{es ifs elts:List Expr}{K:W.Frag}{l caps idx:List Nat}{lo hi:Option Int}{fd:FuncData}{sc scope:Scope}{XP:(Str->Option Value)->Heap->Prop}{YP:World->Heap->Prop}{tn:Nat->Heap->Prop}{RR:Value->Addr->Result->Shared->Prop}{ok':Addr->Prop}{ts:List (List Nat)}{many:Int}
namespace XC
open PySem.W
noncomputable def i90(K:Frag):List Value->Bool
 | []=>false
 | v::r=>(v::r)==bmV||match v with
  | .ref A=>(match K.lookup A with
   | some ⟨_,_,.cls cd,_⟩=>nsOkIn K cd.ns&&zy0.all (λn=>nsIn K cd.ns n==some none)&&i90 K r
   | _=>false)
  | _=>false
theorem fh0{K:Frag}(X:K.In h):∀{l:List Value},i90 K l=true->Row h l
 | [],e=>by cases e
 | v::r,e=>by
  unfold i90 at e;rcases Bool.or_eq_true_iff.mp e with q|q
  ·rw[beq_iff_eq.mp q]
   exact .end
  ·split at q
   ·split at q
    ·rename_i ho
     simp only[Bool.and_eq_true,List.all_eq_true,beq_iff_eq] at q;exact .own (X _ _ ho) (.of_isNs (isNs_of_in X q.1.1)) (λn hn=>nsMap_none_of_in X q.1.1 (q.1.2 n hn)) (fh0 X q.2)
    ·cases q
   ·cases q
noncomputable def clB(K:Frag)(C:Addr)(tl:List Value):Bool:=match K.lookup C with
 | some ⟨.type "type",_,.cls cd,sl⟩=>(match sl.toList with
  | [_,_,_,_,some (.builtin _),_]=>cd.mro==.ref C::tl&&!cd.hasDel&&i90 K (.ref C::tl)
  | _=>false)
 | _=>false
theorem ck0{K:Frag}{C:Addr}(X:K.In h)(e:clB K C tl=true):Cl h C tl:=by
 unfold clB at e;split at e
 ·rename_i dd cd sl ho
  split at e
  ·rename_i k0 k1 k2 k3 n k5 hs
   simp only[Bool.and_eq_true,beq_iff_eq,Bool.not_eq_true'] at e;obtain⟨⟨hm,O⟩,hr⟩:=e;obtain⟨nm,bs,mro,ns,qn,hd,sn,sub,ab,U,Y⟩:=cd;dsimp only at hm O;subst hm O;have S:sl=#[k0,k1,k2,k3,some (.builtin n),k5]:=by
    obtain⟨l⟩:=sl;simp only at hs;rw[hs]
   subst S;exact⟨⟨nm,qn,ns,bs,hd,sn,sub,ab,U,dd,k0,k1,k2,k3,k5,_,X _ _ ho⟩,fh0 X hr⟩
  ·cases e
 ·cases e
structure Rs(h:Heap)(C:Addr)(tl:List Value):Prop where
 obj:∃(nm q:Str) (N:Addr) (bs:List Value) (hdct:Bool) (sn:List Str) (sub:List Value) (ab:Bool) (col:Option Bool) (dd:Option Addr) (k0 k1 k2 k3 k5:Option Value) (mN:Str->Option Value),
  h.get? C=some (excClassObj nm q C N bs tl hdct sn sub ab col dd k0 k1 k2 k3 k5 "ValueError.__new__")/\h.Ns N mN/\mN "__init__"=none/\OwnTail h bmV tl
noncomputable def rsB(K:Frag)(C:Addr)(tl:List Value):Bool:=match K.lookup C with
 | some ⟨.type "type",_,.cls cd,sl⟩=>(match sl.toList with
  | [_,_,_,_,some (.builtin n),_]=>cd.mro==.ref C::tl&&n == "ValueError.__new__"&&!cd.hasDel&&tailIn K bmV tl&&nsOkIn K cd.ns&&nsIn K cd.ns "__init__"==some none
  | _=>false)
 | _=>false
theorem W20{K:Frag}{C:Addr}(X:K.In h)(e:rsB K C tl=true):Rs h C tl:=by
 unfold rsB at e;split at e
 ·rename_i dd cd sl ho
  split at e
  ·rename_i k0 k1 k2 k3 n k5 hs
   simp only[Bool.and_eq_true,beq_iff_eq,Bool.not_eq_true'] at e;obtain⟨⟨⟨⟨⟨hm,rfl⟩,O⟩,ht⟩,hok⟩,S⟩:=e;obtain⟨nm,bs,mro,ns,qn,hd,sn,sub,ab,U,Z⟩:=cd;dsimp only at hm O hok S;subst hm O;have Y:sl=#[k0,k1,k2,k3,some (.builtin "ValueError.__new__"),k5]:=by
    obtain⟨l⟩:=sl;simp only at hs;rw[hs]
   subst Y;exact⟨⟨nm,qn,ns,bs,hd,sn,sub,ab,U,dd,k0,k1,k2,k3,k5,_,X _ _ ho,.of_isNs (isNs_of_in X hok),nsMap_none_of_in X hok S,tail_of_in X ht⟩⟩
  ·cases e
 ·cases e
noncomputable def Yr0(K:Frag)(r:Addr)(c:Str):Bool:=match nsIn K mainGlobals c with
 | some (some (.ref C))=>clB K C (.ref r::bmV)
 | _=>false
noncomputable def Yg0(K:Frag)(r:Addr)(c:Str):Bool:=match nsIn K mainGlobals c with
 | some (some (.ref C))=>rsB K C (.ref r::bmV)
 | _=>false
noncomputable def ev0(K:Frag)(root:Str)(cs rs:List Str):Bool:=match nsIn K mainGlobals root with
 | some (some (.ref r))=>clB K r bmV&&cs.all (Yr0 K r)&&rs.all (Yg0 K r)&&(root::cs).all λc=>(root::cs).all λc'=>c==c'||!(nsIn K mainGlobals c==nsIn K mainGlobals c')
 | _=>false
structure At(K:Frag)(mg:Str->Option Value)(c:Str)(C:Addr)(tl:List Value):Prop where
 mg:mg c=some (.ref C)
 ns:nsIn K mainGlobals c=some (some (.ref C))
 cl:∀h:Heap,K.In h->Cl h C tl
structure Tab(K:Frag)(mg:Str->Option Value)(root:Str)(r:Addr)(cs rs:List Str):Prop where
 top:At K mg root r bmV
 all:∀c∈cs,∃C,At K mg c C (.ref r::bmV)
 rai:∀c∈rs,∃C,nsIn K mainGlobals c=some (some (.ref C))/\∀h:Heap,K.In h->Rs h C (.ref r::bmV)
 diff:∀c∈root::cs,∀c'∈root::cs,nsIn K mainGlobals c=nsIn K mainGlobals c'->c=c'
theorem tab_of{K:Frag}{cs:List Str}(X:K.In h)(G:h.Ns mainGlobals mg)(e:ev0 K root cs rs=true):∃r,Tab K mg root r cs rs:=by
 unfold ev0 at e;split at e
 ·rename_i r hr
  simp only[Bool.and_eq_true,List.all_eq_true] at e;obtain⟨⟨⟨h1,h2⟩,h3⟩,h4⟩:=e;refine⟨r,⟨⟨mg_of X G hr,hr,λh X=>ck0 X h1⟩,λc hc=>?_,λc hc=>?_,λc hc c' O q=>?_⟩⟩
  ·have q:=h2 c hc
   unfold Yr0 at q;split at q
   ·rename_i C hC
    exact⟨C,mg_of X G hC,hC,λh X=>ck0 X q⟩
   ·cases q
  ·have q:=h3 c hc
   unfold Yg0 at q;split at q
   ·rename_i C hC
    exact⟨C,hC,λh X=>W20 X q⟩
   ·cases q
  ·have z:=h4 c hc c' O
   rw[q] at z;simp only[beq_self_eq_true,Bool.not_true,Bool.or_false,beq_iff_eq] at z;exact z
 ·cases e
end XC
namespace L2
open Spec PyProof.Rows
abbrev Key:=Sum Int Str
noncomputable def cr0:Key->Value->Bool
 | .inl k,v=>Value.isInt k v
 | .inr x,v=>Value.isStrOf x v
noncomputable def V40(w:World):Key->Int
 | .inl k=>hashInt k
 | .inr x=>hashStr w x
theorem K6:∀{k:Key} {v:Value},cr0 k v=true->(∃i t,k=Sum.inl i/\v=Value.int i t)∨(∃x t,k=Sum.inr x/\v=Value.str x t)
 | .inl i,v,h=>by
  obtain⟨t,e⟩:=Value.isInt_shape (k:=i) (v:=v) h;exact .inl ⟨i,t,rfl,e⟩
 | .inr x,v,h=>by
  obtain⟨t,e⟩:=Value.isStrOf_shape (x:=x) (v:=v) h;exact .inr ⟨x,t,rfl,e⟩
theorem Y10(a b:Int):decide ((Sum.inl a:Key)=Sum.inl b)=(a==b):=by
 by_cases e:a=b
 ·subst e;simp
 ·have h:¬(Sum.inl a:Key)=Sum.inl b:=λq=>e (Sum.inl.inj q)
  rw[decide_eq_false h];exact(p9.mpr e).symm
theorem Yx0(a b:Str):decide ((Sum.inr a:Key)=Sum.inr b)=decide (a=b):=by
 by_cases e:a=b
 ·subst e;simp
 ·have h:¬(Sum.inr a:Key)=Sum.inr b:=λq=>e (Sum.inr.inj q)
  rw[decide_eq_false h,decide_eq_false e]
theorem X80(a:Int)(b:Str):decide ((Sum.inl a:Key)=Sum.inr b)=false:=E5 (λq=>nomatch q)
theorem Y90(a:Str)(b:Int):decide ((Sum.inr a:Key)=Sum.inl b)=false:=E5 (λq=>nomatch q)
noncomputable def jh0(prog:Program)(w:World):PySem.KeyKind prog w Key where
 is:=cr0
 hash:=V40 w
 inj:=λv a b ha hb=>by
  rcases K6 ha with⟨i,t,rfl,rfl⟩|⟨x,t,rfl,rfl⟩
  ·rcases K6 hb with⟨j,u,rfl,e⟩|⟨y,u,rfl,e⟩
   ·injection e with e1 _;rw[e1]
   ·exact nomatch e
  ·rcases K6 hb with⟨j,u,rfl,e⟩|⟨y,u,rfl,e⟩
   ·exact nomatch e
   ·injection e with e1 _;rw[e1]
 byValue:=λk v h=>by
  rcases K6 h with⟨i,t,rfl,rfl⟩|⟨x,t,rfl,rfl⟩<;>rfl
 pyHash:=λhv h=>by
  rcases K6 hv with⟨i,t,rfl,rfl⟩|⟨x,t,rfl,rfl⟩
  ·exact wpAny_pyHash_int h
  ·exact wpAny_pyHash_str h
 eqBool:=λhu hv h=>by
  rcases K6 hu with⟨i,t,rfl,rfl⟩|⟨x,t,rfl,rfl⟩
  ·rcases K6 hv with⟨j,u,rfl,rfl⟩|⟨y,u,rfl,rfl⟩
   ·rw[Y10] at h;exact wpAny_eqBool_int h
   ·rw[X80] at h;exact N4 i t y u _ _ _ _ h
  ·rcases K6 hv with⟨j,u,rfl,rfl⟩|⟨y,u,rfl,rfl⟩
   ·rw[Y90] at h;exact N9 x t j u _ _ _ _ h
   ·rw[Yx0] at h;exact wpAny_eqBool_str h
 «strs»:=λk x t v h=>by
  rcases K6 h with⟨i,u,rfl,e⟩|⟨y,u,rfl,e⟩
  ·exact nomatch e
  ·injection e with e1 _
   subst e1;cases v<;>rfl
inductive V where
 | non|bl (b:Bool)|int (i:Int)|str (x:Str)|byt (b:Array UInt8)|flt (b:UInt64)|ref (a:Addr)|ty (n:String)
 deriving DecidableEq
variable{xs:List L2.V}{σ:List (Option L2.V)}{kvs:List (L2.Key×L2.V)}
noncomputable def RelV:V->Value->Prop
 | .non,u=>u=Value.none
 | .bl b,u=>u=Value.bool b
 | .int i,u=>∃t,u=Value.int i t
 | .str x,u=>∃t,u=Value.str x t
 | .byt b,u=>∃t,u=Value.bytes b t
 | .flt b,u=>∃t,u=Value.float b t
 | .ref a,u=>u=Value.ref a
 | .ty n,u=>u=Value.type n
abbrev Vals:List V->List Value->Prop:=Paired RelV
theorem Vals.length(r:Vals xs us):xs.length=us.length:=Paired.length r
theorem Vals.get:∀{xs:List V} {us:List Value} {i:Nat} {x:V},Vals xs us->xs[i]?=some x->∃u,us[i]?=some u/\RelV x u
 | _,_,_,_,.nil,e=>by simp at e
 | _,_,0,_,.cons r _,e=>by simp at e;subst e;exact⟨_,rfl,r⟩
 | _,_,i+1,x,.cons _ t,e=>by
  obtain⟨u,h1,h2⟩:=Vals.get (i:=i) (x:=x) t (by simpa using e);exact⟨u,by simpa using h1,h2⟩
theorem Vals.set{x:V}(r:RelV x u):∀{xs:List V} {us:List Value} (i:Nat),Vals xs us->Vals (xs.set i x) (us.set i u)
 | _,_,_,.nil=>.nil
 | _,_,0,.cons _ t=>.cons r t
 | _,_,i+1,.cons q t=>.cons q (Vals.set r i t)
theorem Vals.append:∀{xs ys:List V} {us ws:List Value},Vals xs us->Vals ys ws->Vals (xs++ys) (us++ws)
 | _,_,_,_,.nil,s=>s
 | _,_,_,_,.cons r t,s=>.cons r (Vals.append t s)
theorem Vals.take:∀{xs:List V} {us:List Value} (n:Nat),Vals xs us->Vals (xs.take n) (us.take n)
 | _,_,0,_=>.nil
 | _,_,_+1,.nil=>.nil
 | _,_,n+1,.cons r t=>.cons r (Vals.take n t)
theorem Vals.drop:∀{xs:List V} {us:List Value} (n:Nat),Vals xs us->Vals (xs.drop n) (us.drop n)
 | _,_,0,r=>r
 | _,_,_+1,.nil=>.nil
 | _,_,n+1,.cons _ t=>Vals.drop n t
noncomputable def Yp0:Option V->Option Value->Prop
 | some v,some u=>RelV v u
 | none,none=>True
 | _,_=>False
noncomputable def KV{κ:Type}:List (κ×V)->List (κ×Value)->Prop:=Paired λ(p:κ×V) (q:κ×Value)=>p.1=q.1/\RelV p.2 q.2
noncomputable def kV:Key->V
 | .inl i=>.int i
 | .inr x=>.str x
inductive HO where
 | lst (xs:List V)
 | tup (xs:List V)
 | dK (kvs:List (Key×V))|dT (kvs:List (List Key×V))
 | set (S:Int->Bool) (n:Nat)
 | ins (C dx:Addr) (fs:List (Str×V))
 | own (x:Addr)
 | xd (fs:List (Str×V))
 | met (f x:Addr)
 | rng (lo hi:Int)
 | frz (o:Obj) (u:HO)
 | tbl (ps:Array Value)
 | ext (φ:Heap->Prop)
abbrev Hp:=Addr->Option HO
noncomputable def upd(H:Hp)(a:Addr)(o:HO):Hp:=λb=>if b=a then some o else H b
variable{H H' H1 H2 H₀:L2.Hp}
theorem V1{o:HO}:upd H a o a=some o:=by unfold upd;rw[if_pos rfl]
theorem W4{b:Addr}{o:HO}(h:b≠a):upd H a o b=H b:=by unfold upd;rw[if_neg h]
theorem O6{b:Addr}{o:HO}(h:H a=some o)(h':H b=none):a≠b:=by
 intro e;subst e;rw[h] at h';cases h'
noncomputable def IsTupN(h:Heap)(a:Addr)(items:Array Value):Prop:=∃o,h.get? a=some o/\o.cls=.type "tuple"/\∃n,o.data=.seq items n/\o.dict=none
theorem IsTupN.tup(x:IsTupN h a items):IsTup h a items:=let ⟨o,e,c,n,d,_⟩:=x;⟨o,e,c,n,d⟩
theorem IsTupN.new(h:Heap)(items:Array Value):IsTupN (h.push { cls:=.type "tuple",data:=.seq items }) h.objs.size items:=⟨_,C6 _ rfl,rfl,_,rfl,rfl⟩
section
variable(P:Program)(w:World)
noncomputable def ObjOk(H:Hp)(h:Heap)(a:Addr):HO->Prop
 | .lst xs=>xs.length<=sizeLine/\∃(its:List Value) (n:Nat),Vals xs its/\h.get? a=some { cls:=.type "list",data:=.seq its.toArray n }
 | .tup xs=>xs.length<=sizeLine/\∃its:List Value,Vals xs its/\IsTupN h a its.toArray
 | .dK kvs=>kvs.length<=sizeLine/\(a==sysModules)=false/\∃vs,KV kvs vs/\h.DictOf (jh0 P w) a vs
 | .dT kvs=>kvs.length<=sizeLine/\(a==sysModules)=false/\∃xs:List (List Key×Addr×Value),
   Paired (λ(p:List Key×V) (q:List Key×Addr×Value)=>p.1=q.1/\H q.2.1=some (.tup (p.1.map kV))/\RelV p.2 q.2.2) kvs xs /\
   ∃o es ep,h.get? a=some o/\o.ExactDict/\o.data=.dict es ep/\es.toList=xs.map (entryOfKey (tupleKind (jh0 P w)))/\(xs.map (·.1)).Nodup
 | .set S n=>h.SetOf (intKind P w) a S n
 | .ins C dx fs=>H dx=some (.own a)/\fs.length<=1000/\dx≠a/\h.get? a=some (W.instObj C dx) /\
   ∃mA,h.Ns1 dx mA/\(∀f,Yp0 (fs.lookup f) (mA f))/\PySem.Within mA (fs.map (·.1))
 | .own _=>∃o,h.get? a=some o
 | .xd fs=>∃mA,h.Ns1 a mA/\∀f,Yp0 (fs.lookup f) (mA f)
 | .rng lo hi=>∃t u v,h.get? a=some { cls:=.type "range",data:=.fields #[.int lo t,.int hi u,.int 1 v] }
 | .frz o u=>h.get? a=some o/\ObjOk H h a u
 | .tbl ps=>h.get? a=some { cls:=.none,data:=.fields ps }
 | .met f x=>h.get? a=some (W.methodObj (.ref f) (.ref x))
 | .ext φ=>φ h/\(∃o,h.get? a=some o)/\∀h1 h2:Heap,φ h1->(∀o,h1.get? a=some o->h2.get? a=some o)->φ h2
noncomputable def HOk(H:Hp)(h:Heap):Prop:=∀a o,H a=some o->ObjOk P w H h a o
end
section
variable{P:Program}{w:World}{o:HO}
theorem ObjOk.lt(x:ObjOk P w H h a o):a<h.objs.size:=by
 cases o with
 | lst xs=>obtain⟨_,_,_,_,e⟩:=x;exact A4 e
 | tup xs=>obtain⟨_,_,_,p⟩:=x;exact p.tup.lt
 | dK kvs=>obtain⟨_,_,_,_,o,_,_,e,_⟩:=x;exact A4 e
 | dT kvs=>obtain⟨_,_,_,_,o,_,_,e,_⟩:=x;exact A4 e
 | set S n=>obtain⟨o,_,_,_,e,_⟩:=x;exact A4 e
 | ins C dx fs=>obtain⟨_,_,_,e,_⟩:=x;exact A4 e
 | own y=>obtain⟨_,e⟩:=x;exact A4 e
 | xd fs=>obtain⟨_,⟨_,_,_,e,_⟩,_⟩:=x;exact A4 e
 | rng lo hi=>obtain⟨_,_,_,e⟩:=x;exact A4 e
 | frz ob u=>obtain⟨e,_⟩:=x;exact A4 e
 | tbl ps=>exact A4 (show h.get? a=some _ from x)
 | met f y=>exact A4 (show h.get? a=some _ from x)
 | ext φ=>obtain⟨_,⟨_,e⟩,_⟩:=x;exact A4 e
theorem Paired.mapP{F G:α->β->Prop}:∀{l₁:List α} {l₂:List β},Paired F l₁ l₂->(∀a b,F a b->G a b)->Paired G l₁ l₂
 | _,_,.nil,_=>.nil
 | _,_,.cons r t,f=>.cons (f _ _ r) (Paired.mapP t f)
theorem ObjOk.stay(x:ObjOk P w H h a o)(k:∀b u,(b=a∨H b=some (.own a))->h.get? b=some u->h'.get? b=some u)
  (ho:∀b,H b=some (.own a)->H' b=some (.own a)) (ht:∀b xs,H b=some (.tup xs)->H' b=some (.tup xs)):ObjOk P w H' h' a o:=by
 induction o with
 | lst xs=>obtain⟨z,its,n,r,e⟩:=x;exact⟨z,its,n,r,k _ _ (.inl rfl) e⟩
 | tup xs=>obtain⟨z,its,r,ob,e,c⟩:=x;exact⟨z,its,r,ob,k _ _ (.inl rfl) e,c⟩
 | dK kvs=>obtain⟨z,y,vs,r,ob,es,ep,e,c⟩:=x;exact⟨z,y,vs,r,ob,es,ep,k _ _ (.inl rfl) e,c⟩
 | dT kvs =>
  obtain⟨z,y,xs,r,ob,es,ep,e,c⟩:=x;exact⟨z,y,xs,Paired.mapP r λp q z=>⟨z.1,ht _ _ z.2.1,z.2.2⟩,ob,es,ep,k _ _ (.inl rfl) e,c⟩
 | set S n=>obtain⟨ob,es,ep,t,e,c⟩:=x;exact⟨ob,es,ep,t,k _ _ (.inl rfl) e,c⟩
 | ins C dx fs =>
  obtain⟨d,z,ne,e,mA,⟨od,es,ep,e2,c⟩,r⟩:=x;exact⟨ho _ d,z,ne,k _ _ (.inl rfl) e,mA,⟨od,es,ep,k _ _ (.inr d) e2,c⟩,r⟩
 | own y=>obtain⟨ob,e⟩:=x;exact⟨ob,k _ _ (.inl rfl) e⟩
 | xd fs=>obtain⟨mA,⟨od,es,ep,e,c⟩,r⟩:=x;exact⟨mA,⟨od,es,ep,k _ _ (.inl rfl) e,c⟩,r⟩
 | rng lo hi=>obtain⟨t,u,v,e⟩:=x;exact⟨t,u,v,k _ _ (.inl rfl) e⟩
 | frz ob u ih=>obtain⟨e,q⟩:=x;exact⟨k _ _ (.inl rfl) e,ih q⟩
 | tbl ps =>
  have e:h.get? a=some { cls:=.none,data:=.fields ps }:=x;show h'.get? a=some { cls:=.none,data:=.fields ps };exact k a _ (.inl rfl) e
 | met f y =>
  have e:h.get? a=some (W.methodObj (.ref f) (.ref y)):=x;show h'.get? a=some (W.methodObj (.ref f) (.ref y));exact k a _ (.inl rfl) e
 | ext φ=>obtain⟨p,⟨o,e⟩,st⟩:=x;exact⟨st _ _ p λo q=>k _ _ (.inl rfl) q,⟨o,k _ _ (.inl rfl) e⟩,st⟩
theorem HOk.lt(x:HOk P w H h)(e:H a=some o):a<h.objs.size:=(x a o e).lt
theorem HOk.fresh(x:HOk P w H h)(e:h.objs.size<=a):H a=none:=by
 cases q:H a with
 | none=>rfl
 | some u=>exact absurd (B5 (x.lt q) e) (C1 _)
theorem HOk.kept(x:HOk P w H h)(k:∀b u,h.get? b=some u->h'.get? b=some u):HOk P w H h':=λa o e =>
 (x a o e).stay (λb u _ q=>k b u q) (λ_ q=>q) λ_ _ q=>q
theorem HOk.laid(x:HOk P w H h)(k:∀b u,h.get? b=some u->h'.get? b=some u)(hp:h.objs.size<=a)(new:ObjOk P w (upd H a o) h' a o):HOk P w (upd H a o) h':=λb u e=>by
 have hn:=x.fresh hp
 by_cases hb:b=a
 ·subst hb;rw[V1] at e;cases e;exact new
 ·rw[W4 hb] at e
  exact(x b u e).stay (λc v _ q=>k c v q) (λc q=>by rw[W4 (O6 q hn)];exact q) λc xs q=>by rw[W4 (O6 q hn)];exact q
end
noncomputable def Rd(H:Hp)(a:Addr)(u:HO):Prop:=H a=some u∨∃o,H a=some (.frz o u)
theorem Rd.ok{P:Program}{w:World}{u:HO}(r:Rd H a u)(x:HOk P w H h):ObjOk P w H h a u:=by
 rcases r with r|⟨o,r⟩
 ·exact x a u r
 ·obtain⟨_,q⟩:=x a _ r
  exact q
noncomputable def Mut:Option HO->Prop
 | some (.lst _)=>True
 | some (.dK _)=>True
 | some (.dT _)=>True
 | some (.set _ _)=>True
 | some (.ins _ _ _)=>True
 | some (.ext _)=>True
 | _=>False
section
variable{P:Program}{w:World}{x e:Addr}{o':HO}
theorem HOk.write(ok:HOk P w H h)(mu:Mut (H x))(he:e=x∨H e=some (.own x))(k:∀b u,b≠e->h.get? b=some u->h'.get? b=some u)(heo:∃u,h'.get? e=some u)
  (new:ObjOk P w (upd H x o') h' x o'):HOk P w (upd H x o') h':=λb u q=>by
 have O:∀c y,H c=some (.own y)->c≠x:=λc y r z=>by subst z;rw[r] at mu;exact mu
 have S:∀c xs,H c=some (.tup xs)->c≠x:=λc xs r z=>by subst z;rw[r] at mu;exact mu
 by_cases hb:b=x
 ·subst hb;rw[V1] at q;cases q;exact new
 ·rw[W4 hb] at q
  by_cases hbe:b=e
  ·have q':H b=some (.own x):=by
    rcases he with z|z
    ·exact absurd (hbe.trans z) hb
    ·rw[hbe];exact z
   rw[q] at q';cases q';obtain⟨v,hv⟩:=heo;exact⟨v,by rw[hbe];exact hv⟩
  ·refine(ok b u q).stay (λc v hc r=>k c v ?_ r) (λc r=>by rw[W4 (O c b r)];exact r) λc xs r=>by rw[W4 (S c xs r)];exact r
   rcases hc with rfl|hc
   ·exact hbe
   ·rintro rfl
    rcases he with z|z
    ·exact O c b hc z
    ·rw[hc] at z;cases z;exact hb rfl
end
structure Un(fs ex:List Addr)(H H':Hp)(h h':Heap):Prop where
 keep:∀b o,h.get? b=some o->H b=none->b∉fs->b∉ex->h'.get? b=some o
 slot:∀b o,h.get? b=some o->H b=none->b∈fs->b∉ex->∃sl,h'.get? b=some { o with slots:=sl }
 free:∀b o,h.get? b=some o->H b=none->b∉ex->H' b=none
 there:∀b o,h.get? b=some o->b∉ex->∃o',h'.get? b=some o'
 tups:∀b xs,H b=some (.tup xs)->H' b=some (.tup xs)
 frzs:∀b o u,H b=some (.frz o u)->H' b=some (.frz o u)
 tbls:∀b ps,H b=some (.tbl ps)->∃more,H' b=some (.tbl (ps++more))
section
variable{fs fs' ex ex':List Addr}{h1 h2:Heap}{x e:Addr}{o:HO}
theorem Un.any(u:Un fs ex H H1 h h1){b:Addr}{ob:Obj}(q:h.get? b=some ob)(n:H b=none)(hx:b∉ex):∃sl,h1.get? b=some { ob with slots:=sl }:=by
 by_cases hb:b∈fs
 ·exact u.slot b ob q n hb hx
 ·exact⟨ob.slots,u.keep b ob q n hb hx⟩
theorem Un.kept(k:∀b u,h.get? b=some u->h'.get? b=some u):Un fs ex H H h h' :=
 ⟨λb ob q _ _ _=>k b ob q,λb ob q _ _ _=>⟨ob.slots,k b ob q⟩,λ_ _ _ n _=>n,λb ob q _=>⟨ob,k b ob q⟩,λ_ _ q=>q,λ_ _ _ q=>q,λ_ ps q=>⟨#[],by rw[q];simp⟩⟩
theorem Un.refl:Un fs ex H H h h:=Un.kept λ_ _ q=>q
theorem Un.laid(k:∀b u,h.get? b=some u->h'.get? b=some u)(hp:h.objs.size<=a)(hn:H a=none):Un fs ex H (upd H a o) h h' where
 keep:=λb u q _ _ _=>k b u q
 slot:=λb u q _ _ _=>⟨u.slots,k b u q⟩
 free:=λb u q n _=>by rw[W4 (B6 (B5 (A4 q) hp))];exact n
 there:=λb u q _=>⟨u,k b u q⟩
 tups:=λb xs q=>by rw[W4 (O6 q hn)];exact q
 frzs:=λb u xs q=>by rw[W4 (O6 q hn)];exact q
 tbls:=λb ps q=>⟨#[],by rw[W4 (O6 q hn),q];simp⟩
theorem Un.write(mu:Mut (H x))(he:e=x∨H e=some (.own x))(k:∀b u,b≠e->h.get? b=some u->h'.get? b=some u)(heo:∃u,h'.get? e=some u):Un fs ex H (upd H x o) h h':=by
 have hx:∀b,H b=none->b≠x:=λb n z=>by subst z;rw[n] at mu;exact mu
 have hb:∀b,H b=none->b≠e:=λb n z=>by
  subst z;rcases he with r|r
  ·exact hx b n r
  ·rw[n] at r;cases r
 have hm:∀b u,H b=some u->¬Mut (some u)->b≠x:=λb u q nm z=>by subst z;rw[q] at mu;exact nm mu
 refine⟨λb u q n _ _=>k b u (hb b n) q,λb u q n _ _=>⟨u.slots,k b u (hb b n) q⟩,λb u q n _=>by rw[W4 (hx b n)];exact n,λb u q _=>?_,
  λb xs q=>by rw[W4 (hm b _ q λz=>z)];exact q,λb u xs q=>by rw[W4 (hm b _ q λz=>z)];exact q,λb ps q=>⟨#[],by rw[W4 (hm b _ q λz=>z),q];simp⟩⟩
 by_cases hbe:b=e
 ·subst hbe;exact heo
 ·exact⟨u,k b u hbe q⟩
end
noncomputable def trk(h:Heap)(H:Hp):List Addr:=(List.range h.objs.size).filter λa=>(H a).isSome
noncomputable def uv0(h:Heap)(H:Hp):Heap:=W.hideAll h (trk h H)
theorem fm0(h:Heap)(H:Hp):(uv0 h H).objs.size=h.objs.size:=W.hideAll_size _ _
theorem dl0{b:Addr}{o:Obj}(e:h.get? b=some o)(n:H b=none):(uv0 h H).get? b=some o :=
 W.hideAll_get _ e λhm=>by
  have q:(H b).isSome=true:=(List.mem_filter.mp hm).2;rw[n] at q;simp at q
theorem bk0{b:Addr}{o:Obj}(e:(uv0 h H).get? b=some o):h.get? b=some o/\H b=none:=by
 have e':h.get? b=some o:=W.of_hideAll (trk h H) e;refine⟨e',?_⟩;cases q:H b with
 | none=>rfl
 | some x =>
  have hm:b∈trk h H:=List.mem_filter.mpr ⟨B4.mpr (A4 e'),by simp[q]⟩;have z:(uv0 h H).get? b=none:=W.hideAll_none (trk h H) hm;rw[z] at e;cases e
structure Mod(K:W.Frag)(mg:Str->Option Value)(base:Heap):Prop where
 kin:K.In base
 glob:base.Ns mainGlobals mg
 blt:∃mb,base.Ns builtinsNs mb/\∀x:Str,x ≠"__name__"->mb x=bootBuiltins x
 nolimit:base.NoLimit
structure Cx where
 prog:Program
 w:World
 K:W.Frag
 mg:Str->Option Value
 base:Heap
 A:Around
 N:List Str
 s₀:Shared
 H₀:Hp
 env:Env
 outer:List Env
 stack:List Env
 ex:List Addr
 fn:Str->Bool
 calm:Bool
 pn:List (Addr×Obj)
 xe:Value->Shared->Prop
variable{X:L2.Cx}
noncomputable def frs(l:List Env):List Addr:=l.filterMap (·.frame)
abbrev Cx.fs(X:Cx):List Addr:=frs X.outer
noncomputable def Vis(sc:Scope)(x:Str):Prop:=sc.names.lookup x=some .local∨sc.names.lookup x=some .cell∨sc.names.lookup x=some .free
noncomputable def Loc(sc:Scope)(x:Str):Prop:=sc.names.lookup x=some .local∨sc.names.lookup x=some .cell
noncomputable def Look(env:Env)(h:Heap)(m:Str->Option Value)(x:Str)(u:Value):Prop :=
 (env.kindOf x=some .local/\m x=some u)∨((env.kindOf x=some .cell∨env.kindOf x=some .free)/\∃c,env.cells.lookup x=some c/\h.IsCell c (some u))
structure Cx.Ok(X:Cx):Prop where
 mod:Mod X.K X.mg X.base
 kind:X.env.scope.kind=.function
 glob:X.env.globals=mainGlobals
 blt:X.env.builtins=builtinsNs
 above:X.s₀.heap.objs.size<=X.env.locals
 inj:∀x y c,X.env.cells.lookup x=some c->X.env.cells.lookup y=some c->x=y
 has:∀x,(X.env.kindOf x=some .cell∨X.env.kindOf x=some .free)->∃c,X.env.cells.lookup x=some c
 cab:∀x c,X.fn x=true->X.env.cells.lookup x=some c->X.s₀.heap.objs.size<=c
 hd:X.calm=true->X.A.handled=none
 frames:X.A.frames=some X.stack
 stk:X.stack=X.outer∨(X.stack=X.env::X.outer/\X.env.frame=some X.env.locals)
 exf:∀b∈X.ex,b≠X.env.locals/\∀x c,X.env.cells.lookup x=some c->c≠b
 bs:∀b o,X.base.get? b=some o->X.s₀.heap.get? b=some o/\X.H₀ b=none
 bsz:X.base.objs.size<=X.s₀.heap.objs.size
 noex:∀b o,X.base.get? b=some o->b∉X.ex
 exfs:∀b∈X.ex,b∉X.fs
 funs:X.s₀.heap.FunFrames X.base X.outer
 frf:∀b∈X.fs,X.H₀ b=none
structure Inv(X:Cx)(pins:List (Addr×Obj))(σ:List (Option V))(H:Hp)(s:Shared):Prop where
 ok:X.Ok
 os:s.os=X.s₀.os
 bare:AllBare s.gens
 base:Un X.fs X.ex X.H₀ H X.s₀.heap s.heap
 loc:∃m,s.heap.Ns X.env.locals m/\∀(i:Nat) (x:Str) (v:V),X.N[i]?=some x->σ[i]?=some (some v)->Vis X.env.scope x->∃u,RelV v u/\Look X.env s.heap m x u
 cell:∀x c,X.env.cells.lookup x=some c->∃v,s.heap.IsCell c v
 free:H X.env.locals=none
 freeC:∀x c,X.env.cells.lookup x=some c->H c=none
 pin:∀p∈X.pn++pins,s.heap.get? p.1=some p.2/\H p.1=none/\p.1≠X.env.locals/\p.1∉X.fs/\∀v,p.2.data≠.cell v
 hok:HOk X.prog X.w H s.heap
 len:σ.length=X.N.length
section
variable{s:Shared}
theorem Cx.Ok.nofr(ok:X.Ok){b:Addr}{o:Obj}(e:X.base.get? b=some o):b∉X.fs:=λhb=>by
 have:=(ok.funs.mem hb).1;rw[e] at this;cases this
theorem Inv.bs(I:Inv X pins σ H s):∀b o,X.base.get? b=some o->s.heap.get? b=some o/\H b=none:=λb o e =>
 ⟨I.base.keep b o (I.ok.bs b o e).1 (I.ok.bs b o e).2 (I.ok.nofr e) (I.ok.noex b o e),I.base.free b o (I.ok.bs b o e).1 (I.ok.bs b o e).2 (I.ok.noex b o e)⟩
theorem Inv.bk(I:Inv X pins σ H s):∀b o,X.base.get? b=some o->s.heap.get? b=some o:=λb o e=>(I.bs b o e).1
theorem Inv.mod(I:Inv X pins σ H s):Mod X.K X.mg X.base:=I.ok.mod
theorem Inv.kIn(I:Inv X pins σ H s):X.K.In s.heap:=I.ok.mod.kin.keeps I.bk
theorem Inv.lt(I:Inv X pins σ H s):X.env.locals<s.heap.objs.size:=let ⟨_,hn,_⟩:=I.loc;hn.lt
theorem Inv.sz(I:Inv X pins σ H s):X.s₀.heap.objs.size<=s.heap.objs.size:=A9 I.ok.above (U2 I.lt)
theorem Inv.nofs(I:Inv X pins σ H s)(h:s.heap.objs.size<=a):a∉X.fs:=λhb=>by
 obtain⟨_,o,ho,_⟩:=I.ok.funs.mem hb;exact absurd (B5 (A4 ho) (A9 I.sz h)) (C1 _)
theorem Inv.cne(I:Inv X pins σ H s):∀x c,X.env.cells.lookup x=some c->c≠X.env.locals:=λx c e z=>by
 obtain⟨v,o,ho,hd⟩:=I.cell x c e;obtain⟨m,⟨o',es,ep,O,S,_⟩,_⟩:=I.loc;rw[z,O] at ho;cases ho;rw[S] at hd;cases hd
theorem Inv.funs(I:Inv X pins σ H s):s.heap.FunFrames X.base X.outer:=by
 have all:∀(l:List Env),(∀b∈frs l,b∈X.fs)->X.s₀.heap.FunFrames X.base l->s.heap.FunFrames X.base l:=by
  intro l
  induction l with
  | nil=>intro _ _;trivial
  | cons env r ih =>
   intro hs hl;obtain⟨hk,⟨L,o,hf,hn,ho,hd⟩,hr⟩:=hl;have hL:L∈X.fs:=hs L (by unfold frs;rw[List.filterMap_cons,hf];exact A5);obtain⟨sl,e⟩:=I.base.slot L o ho (I.ok.frf L hL) hL λz=>I.ok.exfs L z hL
   exact⟨hk,⟨L,_,hf,hn,e,hd⟩,ih (λb hb=>hs b (by unfold frs;rw[List.filterMap_cons,hf];exact A7 _ hb)) hr⟩
 exact all X.outer (λ_ hb=>hb) I.ok.funs
theorem Inv.stack(I:Inv X pins σ H s):s.heap.FunFrames X.base X.stack:=by
 rcases I.ok.stk with e|⟨e,hf⟩
 ·rw[e];exact I.funs
 ·rw[e]
  obtain⟨m,hn,_⟩:=I.loc;refine .cons (by rw[I.ok.kind];decide) hf hn ?_ I.funs;exact O0 (A9 I.ok.bsz I.ok.above)
theorem Inv.stkSub(I:Inv X pins σ H s):∀b∈frs X.stack,b∈X.env.locals::X.fs:=λb hb=>by
 rcases I.ok.stk with e|⟨e,hf⟩
 ·rw[e] at hb;exact A7 _ hb
 ·rw[e] at hb
  unfold frs at hb;rw[List.filterMap_cons,hf] at hb;exact hb
theorem Inv.stkFree(I:Inv X pins σ H s):∀b∈frs X.stack,H b=none:=λb hb=>by
 rcases B1.mp (I.stkSub b hb) with e|hb
 ·rw[e];exact I.free
 ·obtain⟨_,o,ho,_⟩:=I.ok.funs.mem hb
  exact I.base.free b o ho (I.ok.frf b hb) λz=>I.ok.exfs b z hb
theorem Inv.step{g':Array GenState}{t':Nat}{d':Drawn}{ch:List Addr}(I:Inv X pins σ H s)
  (hch:∀b∈ch,(b∈X.ex∨X.s₀.heap.objs.size<=b)/\b≠X.env.locals/\(∀x c,X.env.cells.lookup x=some c->c≠b)/\∀p∈X.pn++pins,p.1≠b)
  (keep:∀b o,b≠X.env.locals->b∉X.fs->b∉ch->s.heap.get? b=some o->H b=none->h'.get? b=some o)
  (slot:∀b o,b≠X.env.locals->b∈X.fs->b∉ch->s.heap.get? b=some o->H b=none->∃sl,h'.get? b=some { o with slots:=sl }) (free:∀b o,b∉ch->s.heap.get? b=some o->H b=none->H' b=none)
  (there:∀b o,b∉ch->s.heap.get? b=some o->∃o',h'.get? b=some o')
  (tups:∀b xs,H b=some (.tup xs)->H' b=some (.tup xs)) (frzs:∀b o u,H b=some (.frz o u)->H' b=some (.frz o u)) (tbls:∀b ps,H b=some (.tbl ps)->∃more,H' b=some (.tbl (ps++more)))
  (ns:∀m,s.heap.Ns X.env.locals m->h'.Ns X.env.locals m) (hok:HOk X.prog X.w H' h') (hg:AllBare g') :
  Inv X pins σ H' { s with heap:=h',gens:=g',drawn:=d',toks:=t' }:=by
 have Y:∀b o,X.s₀.heap.get? b=some o->b≠X.env.locals:=λb o e=>B6 (B5 (A4 e) I.ok.above)
 have S:∀b o,X.s₀.heap.get? b=some o->b∉X.ex->b∉ch:=λb o e hx hb=>by
  rcases (hch b hb).1 with z|z
  ·exact hx z
  ·exact absurd (B5 (A4 e) z) (C1 _)
 have U:∀x c,X.env.cells.lookup x=some c->∀v,s.heap.IsCell c v->h'.IsCell c v:=λx c e v ⟨o,ho,hd⟩=>by
  have O:c∉ch:=λz=>(hch c z).2.2.1 x c e rfl
  by_cases hc:c∈X.fs
  ·obtain⟨sl,q⟩:=slot c o (I.cne x c e) hc O ho (I.freeC x c e)
   exact⟨_,q,hd⟩
  ·exact⟨o,keep c o (I.cne x c e) hc O ho (I.freeC x c e),hd⟩
 refine⟨I.ok,I.os,hg,⟨λb o e n hb hx=>?_,λb o e n hb hx=>?_,λb o e n hx=>?_,λb o e hx=>?_,λb xs e=>tups b xs (I.base.tups b xs e),λb o xs e=>frzs b o xs (I.base.frzs b o xs e),λb ps e=>?_⟩,?_,λx c e=>?_,?_,λx c e=>?_,λp hp=>?_,hok,I.len⟩
 ·exact keep b o (Y b o e) hb (S b o e hx) (I.base.keep b o e n hb hx) (I.base.free b o e n hx)
 ·obtain⟨sl,e1⟩:=I.base.slot b o e n hb hx
  obtain⟨Z,e2⟩:=slot b _ (Y b o e) hb (S b o e hx) e1 (I.base.free b o e n hx);exact⟨Z,e2⟩
 ·obtain⟨o',e1⟩:=I.base.there b o e hx
  exact free b o' (S b o e hx) e1 (I.base.free b o e n hx)
 ·obtain⟨o',e1⟩:=I.base.there b o e hx
  exact there b o' (S b o e hx) e1
 ·obtain⟨m1,e1⟩:=I.base.tbls b ps e
  obtain⟨m2,e2⟩:=tbls b _ e1;exact⟨m1++m2,by rw[e2,Array.append_assoc]⟩
 ·obtain⟨m,hn,hl⟩:=I.loc
  refine⟨m,ns m hn,λi x v e1 e2 e3=>?_⟩;obtain⟨u,r,l⟩:=hl i x v e1 e2 e3;refine⟨u,r,?_⟩;rcases l with l|⟨k,c,e,z⟩
  ·exact .inl l
  ·exact .inr ⟨k,c,e,U x c e _ z⟩
 ·obtain⟨v,z⟩:=I.cell x c e
  exact⟨v,U x c e v z⟩
 ·obtain⟨m,⟨o,_,_,ho,_⟩,_⟩:=I.loc
  exact free _ o (λz=>(hch _ z).2.1 rfl) ho I.free
 ·obtain⟨v,o,ho,hd⟩:=I.cell x c e
  exact free c o (λz=>(hch c z).2.2.1 x c e rfl) ho (I.freeC x c e)
 ·obtain⟨e,n,ne,nf,d⟩:=I.pin p hp
  have O:p.1∉ch:=λz=>(hch p.1 z).2.2.2 p hp rfl
  exact⟨keep p.1 p.2 ne nf O e n,free p.1 p.2 O e n,ne,nf,d⟩
theorem Inv.un(I:Inv X pins σ H s)(u:Un X.fs [] H H' s.heap h')(hok:HOk X.prog X.w H' h'):Inv X pins σ H' { s with heap:=h',toks:=t' }:=by
 obtain⟨m,⟨o,es,ep,ho,r⟩,_⟩:=id I.loc;obtain⟨sl,hL⟩:=u.any ho I.free (by simp);exact I.step (g':=s.gens) (d':=s.drawn) (ch:=[]) (λ_ z=>nomatch z) (λb o _ hb _ e n=>u.keep b o e n hb (by simp)) (λb o _ hb _ e n=>u.slot b o e n hb (by simp)) (λb o _ e n=>u.free b o e n (by simp)) (λb o _ e=>u.there b o e (by simp)) u.tups u.frzs u.tbls (λm' hm=>by
  obtain⟨o',U,S,O,r'⟩:=hm;rw[ho] at O;cases O;exact⟨_,U,S,hL,r'⟩) hok I.bare
theorem Inv.call{g':Array GenState}{t':Nat}{d':Drawn}(I:Inv X pins σ H s)(u:Un (frs X.stack) ch H H' s.heap h')(hok:HOk X.prog X.w H' h')(hg:AllBare g')
  (hch:∀b∈ch,(b∈X.ex∨X.s₀.heap.objs.size<=b)/\b≠X.env.locals/\(∀x c,X.env.cells.lookup x=some c->c≠b)/\∀p∈X.pn++pins,p.1≠b) :
  Inv X pins σ H' { s with heap:=h',gens:=g',drawn:=d',toks:=t' }:=by
 obtain⟨m,⟨o,es,ep,ho,r⟩,_⟩:=id I.loc;obtain⟨sl,hL⟩:=u.any ho I.free λz=>(hch _ z).2.1 rfl
 exact I.step (ch:=ch) hch (λb o hL hb hc e n=>u.keep b o e n (λz=>(B1.mp (I.stkSub b z)).elim hL hb) hc) (λb o _ _ hc e n=>u.any e n hc) (λb o hc e n=>u.free b o e n hc) (λb o hc e=>u.there b o e hc) u.tups u.frzs u.tbls (λm' hm=>by
  obtain⟨o',U,S,O,r'⟩:=hm;rw[ho] at O;cases O;exact⟨_,U,S,hL,r'⟩) hok hg
theorem Inv.turned{t':Nat}(I:Inv X pins σ H s)(k:∀b o,b≠it->s.heap.get? b=some o->h'.get? b=some o)(hn:H it=none)(hL:it≠X.env.locals)
  (h1:it∈X.ex∨X.s₀.heap.objs.size<=it) (h2:∀x c,X.env.cells.lookup x=some c->c≠it) (h3:∀p∈X.pn++pins,p.1≠it):Inv X pins σ H { s with heap:=h',toks:=t' }:=by
 have O:∀b u,H b=some u->b≠it:=λb u e z=>by rw[z,hn] at e;cases e
 refine I.step (g':=s.gens) (d':=s.drawn) (ch:=[it]) (λb hb=>?_) (λb o _ _ hc e _=>k b o (λz=>hc (by simp[z])) e) (λb o _ _ hc e _=>⟨o.slots,k b o (λz=>hc (by simp[z])) e⟩) (λ_ _ _ _ n=>n)
  (λb o hc e=>⟨o,k b o (λz=>hc (by simp[z])) e⟩) (λ_ _ e=>e) (λ_ _ _ e=>e) (λb ps e=>⟨#[],by rw[e];simp⟩) (λm hm=>?_) (λb u e=>?_) I.bare
 ·have e:b=it:=by simpa using hb
  subst e;exact⟨h1,hL,h2,h3⟩
 ·obtain⟨o,es,ep,ho,r⟩:=hm
  exact⟨o,es,ep,k _ o (B3 hL) ho,r⟩
 ·refine(I.hok b u e).stay (λc v hc q=>k c v ?_ q) (λ_ q=>q) λ_ _ q=>q
  rcases hc with z|z
  ·rw[z];exact O b u e
  ·exact O c _ z
theorem Inv.tok(I:Inv X pins σ H s)(t:Nat):Inv X pins σ H { s with toks:=t }:=I.un (h':=s.heap) (t':=t) Un.refl I.hok
theorem Inv.kept(I:Inv X pins σ H s)(k:∀b u,s.heap.get? b=some u->h'.get? b=some u):Inv X pins σ H { s with heap:=h',toks:=t' }:=I.un (Un.kept k) (I.hok.kept k)
theorem Inv.laid{o:HO}{t':Nat}(I:Inv X pins σ H s)(k:∀b u,s.heap.get? b=some u->h'.get? b=some u)(hp:s.heap.objs.size<=a)(new:ObjOk X.prog X.w (upd H a o) h' a o) :
  Inv X pins σ (upd H a o) { s with heap:=h',toks:=t' }:=I.un (Un.laid k hp (I.hok.fresh hp)) (I.hok.laid k hp new)
theorem Inv.write{x e:Addr}{o:HO}{t':Nat}(I:Inv X pins σ H s)(mu:Mut (H x))(he:e=x∨H e=some (.own x))(k:∀b u,b≠e->s.heap.get? b=some u->h'.get? b=some u)(heo:∃u,h'.get? e=some u)
  (new:ObjOk X.prog X.w (upd H x o) h' x o):Inv X pins σ (upd H x o) { s with heap:=h',toks:=t' }:=I.un (Un.write mu he k heo) (I.hok.write mu he k heo new)
theorem Inv.weak{σ':List (Option V)}(I:Inv X pins σ H s)(hl:σ'.length=σ.length)(w:∀(i:Nat) v,σ'[i]?=some (some v)->σ[i]?=some (some v)):Inv X pins σ' H s :=
 ⟨I.ok,I.os,I.bare,I.base,let ⟨m,hn,hl'⟩:=I.loc;⟨m,hn,λi x v e1 e2 e3=>hl' i x v e1 (w i v e2) e3⟩,I.cell,I.free,I.freeC,I.pin,I.hok,hl.trans I.len⟩
theorem Inv.pins_of{pins':List (Addr×Obj)}(I:Inv X pins σ H s)(h:∀p∈pins',s.heap.get? p.1=some p.2/\H p.1=none/\p.1≠X.env.locals/\p.1∉X.fs/\∀v,p.2.data≠.cell v):Inv X pins' σ H s :=
 ⟨I.ok,I.os,I.bare,I.base,I.loc,I.cell,I.free,I.freeC,λp hp=>(C7.mp hp).elim (λz=>I.pin p (L4 _ z)) (h p),I.hok,I.len⟩
theorem q40(hN:N.Nodup)(a:N[i]?=some x)(b:N[j]?=some x):i=j:=by
 obtain⟨h1,e1⟩:=K2.mp a;obtain⟨h2,e2⟩:=K2.mp b;exact(List.getElem_inj hN).mp (e1.trans e2.symm)
theorem se0{M:Model}{A:Around}{E:Value->Shared->Prop}{v:V}{Q:Unit->Shared->Prop}(I:Inv X pins σ H s)(hN:X.N.Nodup)(hi:X.N[i]?=some x)(hx:Loc X.env.scope x)(r:RelV v u)
  (h:∀s',Inv X pins (σ.set i (some v)) H s'->(∃a,Heap.SameBut a s.heap s'.heap/\(a=X.env.locals∨X.env.cells.lookup x=some a))->Q () s') (hf:X.fn x=true∨X.env.scope.names.lookup x=some .local:=by first|exact .inl rfl|exact .inr rfl|assumption):wpAny M A (storeName X.env x u) Q E s:=by
 obtain⟨m,hn,hl⟩:=id I.loc;have a0:(X.env.scope.kind==.class||(X.env.scope.kind==.module&&X.env.locals != X.env.globals))=false:=by rw[I.ok.kind];rfl
 have hiσ:i<σ.length:=by rw[I.len];exact(K2.mp hi).1
 have cne:=I.cne;have O:∀{a:Addr} {h':Heap},(∃o,s.heap.get? a=some o/\H a=none)->Heap.SameBut a s.heap h'->HOk X.prog X.w H h':=λ{a h'} ha hs b ob e=>by
  obtain⟨_,_,S⟩:=ha;refine(I.hok b ob e).stay (λc w' hc q=>(hs.2 c ?_).trans q) (λ_ q=>q) λ_ _ q=>q
  rintro rfl;rcases hc with rfl|hc
  ·rw[S] at e;cases e
  ·rw[S] at hc;cases hc
 rcases hx with hk|hk
 ·refine wpAny_storeName_local hk hn (λh' a3 hs=>?_) a0
  obtain⟨oL,_,_,a2,_⟩:=id hn;refine h _ ⟨I.ok,I.os,I.bare,⟨λb o e n hb hx=>?_,λb o e n hb hx=>?_,I.base.free,λb o e hx=>?_,I.base.tups,I.base.frzs,I.base.tbls⟩,⟨_,a3,λj y v' e1 e2 e3=>?_⟩,λy c e=>?_,I.free,I.freeC,λp hp=>?_,O ⟨oL,a2,I.free⟩ hs,by simpa using I.len⟩ ⟨_,hs,.inl rfl⟩
  ·exact(hs.2 b (B6 (B5 (A4 e) I.ok.above))).trans (I.base.keep b o e n hb hx)
  ·obtain⟨sl,e1⟩:=I.base.slot b o e n hb hx
   exact⟨sl,(hs.2 b (B6 (B5 (A4 e) I.ok.above))).trans e1⟩
  ·obtain⟨o',e1⟩:=I.base.there b o e hx
   exact⟨o',(hs.2 b (B6 (B5 (A4 e) I.ok.above))).trans e1⟩
  ·by_cases hj:j=i
   ·subst hj
    rw[hi] at e1;cases e1;rw[List.getElem?_set_self hiσ] at e2;cases e2;exact⟨u,r,.inl ⟨hk,by simp⟩⟩
   ·rw[List.getElem?_set_ne (B3 hj)] at e2
    obtain⟨u',r',q⟩:=hl j y v' e1 e2 e3;refine⟨u',r',?_⟩;rcases q with⟨k,e⟩|⟨k,c,e,z⟩
    ·refine .inl ⟨k,?_⟩
     have:y≠x:=λe=>hj (q40 hN e1 (e▸hi))
     simp[this,e]
    ·exact .inr ⟨k,c,e,z.sameBut hs (cne y c e)⟩
  ·obtain⟨w',z⟩:=I.cell y c e
   exact⟨w',z.sameBut hs (cne y c e)⟩
  ·obtain⟨e,n,ne,nf,d⟩:=I.pin p hp
   exact⟨(hs.2 p.1 ne).trans e,n,ne,nf,d⟩
 ·have U:X.fn x=true:=by
   rcases hf with z|z
   ·exact z
   ·rw[z] at hk;cases hk
  obtain⟨c,hc⟩:=I.ok.has x (.inl hk);obtain⟨w',z⟩:=I.cell x c hc;refine wpAny_storeName_cell I.ok.kind hk hc z (λh' Z hs=>?_);obtain⟨oc,Y,a1⟩:=id z;refine h { s with heap:=h' } ⟨I.ok,I.os,I.bare,⟨λb o e n hb hx=>?_,λb o e n hb hx=>?_,I.base.free,λb o e hx=>?_,I.base.tups,I.base.frzs,I.base.tbls⟩,⟨m,hn.sameBut hs (B3 (cne x c hc)),λj y v' e1 e2 e3=>?_⟩,λy c' e=>?_,I.free,I.freeC,λp hp=>?_,O ⟨oc,Y,I.freeC x c hc⟩ hs,by simpa using I.len⟩ ⟨c,hs,.inr hc⟩
  ·exact(hs.2 b (B6 (B5 (A4 e) (I.ok.cab x c U hc)))).trans (I.base.keep b o e n hb hx)
  ·obtain⟨sl,e1⟩:=I.base.slot b o e n hb hx
   exact⟨sl,(hs.2 b (B6 (B5 (A4 e) (I.ok.cab x c U hc)))).trans e1⟩
  ·obtain⟨o',e1⟩:=I.base.there b o e hx
   exact⟨o',(hs.2 b (B6 (B5 (A4 e) (I.ok.cab x c U hc)))).trans e1⟩
  ·by_cases hj:j=i
   ·subst hj
    rw[hi] at e1;cases e1;rw[List.getElem?_set_self hiσ] at e2;cases e2;exact⟨u,r,.inr ⟨.inl hk,c,hc,Z⟩⟩
   ·rw[List.getElem?_set_ne (B3 hj)] at e2
    obtain⟨u',r',q⟩:=hl j y v' e1 e2 e3;refine⟨u',r',?_⟩;rcases q with q|⟨k,c',e,z'⟩
    ·exact .inl q
    ·refine .inr ⟨k,c',e,z'.sameBut hs ?_⟩
     rintro rfl;exact hj (q40 hN e1 (I.ok.inj _ _ _ e hc▸hi))
  ·by_cases hcc:c'=c
   ·subst hcc;exact⟨_,Z⟩
   ·obtain⟨w2,z2⟩:=I.cell y c' e
    exact⟨w2,z2.sameBut hs hcc⟩
  ·obtain⟨e,n,ne,nf,d⟩:=I.pin p hp
   refine⟨(hs.2 p.1 ?_).trans e,n,ne,nf,d⟩;intro q;rw[q,Y] at e;have q':oc=p.2:=B2 e;exact d w' (by rw[← q'];exact a1)
theorem rp0{M:Model}{A:Around}{E:Value->Shared->Prop}{v:V}{Q:Unit->Shared->Prop}(I:Inv X pins σ H s)(hN:X.N.Nodup)(hi:X.N[i]?=some x)(hx:Loc X.env.scope x)(r:RelV v u)
  (h:∀s',Inv X pins (σ.set i (some v)) H s'->Q () s') (hf:X.fn x=true∨X.env.scope.names.lookup x=some .local:=by first|exact .inl rfl|exact .inr rfl|assumption):wpAny M A (storeName X.env x u) Q E s :=
 se0 I hN hi hx r (λs' I' _=>h s' I') hf
theorem Inv.call'(I:Inv X pins σ H s)(ho:s'.os=s.os)(u:Un (frs X.stack) ch H H' s.heap s'.heap)(hok:HOk X.prog X.w H' s'.heap)(hg:AllBare s'.gens)
  (hch:∀b∈ch,(b∈X.ex∨X.s₀.heap.objs.size<=b)/\b≠X.env.locals/\(∀x c,X.env.cells.lookup x=some c->c≠b)/\∀p∈X.pn++pins,p.1≠b):Inv X pins σ H' s':=by
 obtain⟨h',g',d',t',o'⟩:=s';have e:o'=s.os:=ho;subst e;exact I.call (g':=g') (t':=t') (d':=d') u hok hg hch
end
abbrev XK:=Value->Option Addr->Hp->Prop
abbrev St:=List (Option V)
abbrev VK:=V->Hp->Prop
abbrev TE:=St->Hp->VK->Prop
variable{r:List L2.V->L2.Hp->L2.VK->Prop}
abbrev TT:=St->Hp->(Bool->Hp->Prop)->Prop
variable{ta tb te td ty:L2.TE}
abbrev TA:=St->Hp->(List V->Hp->Prop)->Prop
variable{tt:L2.TT}
structure Ends where
 nx:St->Hp->Prop
 rt:VK
 bk:St->Hp->Prop:=λ_ _=>False
 ct:St->Hp->Prop:=λ_ _=>False
variable{t:L2.TA}
abbrev TS:=Ends->St->Hp->Prop
noncomputable def EP(X:Cx)(pins:List (Addr×Obj))(σ:St)(Q:VK)(u:Value)(s':Shared):Prop:=∃v H',Inv X pins σ H' s'/\RelV v u/\Q v H'
noncomputable def TP(X:Cx)(pins:List (Addr×Obj))(σ:St)(Q:Bool->Hp->Prop)(b:Bool)(s':Shared):Prop:=∃H',Inv X pins σ H' s'/\Q b H'
noncomputable def AP(X:Cx)(pins:List (Addr×Obj))(σ:St)(Q:List V->Hp->Prop)(us:List Value)(s':Shared):Prop:=∃vs H',Inv X pins σ H' s'/\Vals vs us/\Q vs H'
noncomputable def SP(X:Cx)(pins:List (Addr×Obj))(D:Ends)(f:Flow)(s':Shared):Prop :=
 match f with
 | .next=>∃σ' H',Inv X pins σ' H' s'/\D.nx σ' H'
 | .brk=>∃σ' H',Inv X pins σ' H' s'/\D.bk σ' H'
 | .cont=>∃σ' H',Inv X pins σ' H' s'/\D.ct σ' H'
 | .ret u=>∃v σ' H',Inv X pins σ' H' s'/\RelV v u/\D.rt v H'
noncomputable def PE(X:Cx)(e:Expr)(t:TE):Prop :=
 ∀(pins:List (Addr×Obj)) (s:Shared) (σ:St) (H:Hp) (Q:VK),Inv X pins σ H s->t σ H Q->wpAny (model X.prog X.w) X.A (eval e X.env) (EP X pins σ Q) X.xe s
noncomputable def PT(X:Cx)(e:Expr)(t:TT):Prop :=
 ∀(pins:List (Addr×Obj)) (s:Shared) (σ:St) (H:Hp) (Q:Bool->Hp->Prop),Inv X pins σ H s->t σ H Q->wpAny (model X.prog X.w) X.A (isTrue e X.env (eval e X.env)) (TP X pins σ Q) X.xe s
noncomputable def PW(X:Cx)(e:Expr)(t:TT):Prop :=
 ∀(whole:Sem Value) (pins:List (Addr×Obj)) (s:Shared) (σ:St) (H:Hp) (Q:Bool->Hp->Prop),Inv X pins σ H s->t σ H Q->wpAny (model X.prog X.w) X.A (isTrue e X.env whole) (TP X pins σ Q) X.xe s
theorem PW.pt{t:TT}(h:PW X e t):PT X e t:=h _
noncomputable def PA(X:Cx)(es:List Expr)(t:TA):Prop :=
 ∀(pos:Pos) (pins:List (Addr×Obj)) (s:Shared) (σ:St) (H:Hp) (Q:List V->Hp->Prop),Inv X pins σ H s->t σ H Q->wpAny (model X.prog X.w) X.A (spliced (backTo pos (starEach es X.env))) (AP X pins σ Q) X.xe s
noncomputable def PS(X:Cx)(st:Stmt)(t:TS):Prop :=
 ∀(pins:List (Addr×Obj)) (s:Shared) (σ:St) (H:Hp) (D:Ends),Inv X pins σ H s->t D σ H->wpAny (model X.prog X.w) X.A (exec st X.env) (SP X pins D) X.xe s
noncomputable def PSs(X:Cx)(st:List Stmt)(t:TS):Prop :=
 ∀(pins:List (Addr×Obj)) (s:Shared) (σ:St) (H:Hp) (D:Ends),Inv X pins σ H s->t D σ H->wpAny (model X.prog X.w) X.A (execs st X.env) (SP X pins D) X.xe s
theorem thn{t:Sem α}{Q Q':α->Shared->Prop}{M:Model}{s:Shared}(h:wpAny M A t Q E s)(hQ:∀a s,Q a s->Q' a s):wpAny M A t Q' E s:=B8 h hQ λ_ _ x=>x
section
noncomputable def Wp0(i:Nat):TE:=fun σ H Q=>∃v,σ[i]?=some (some v)/\Q v H
noncomputable def tC(v:V):TE:=λ_ H Q=>Q v H
theorem vg0(hN:X.N[i]?=some x)(hv:Vis X.env.scope x)(hd:(x==("__debug__" : Str))=false:=by decide)(hcd:(x==("__classdict__" : Str))=false:=by decide):PE X (.Name x pos) (Wp0 i):=by
 intro pins s σ H Q I h;obtain⟨v,e,h⟩:=h;obtain⟨m,hn,hl⟩:=I.loc;obtain⟨u,r,l⟩:=hl i x v hN e hv;have S:EP X pins σ Q u s:=⟨v,H,I,r,h⟩;rcases l with⟨hk,hm⟩|⟨hk,c,hc,O⟩
 ·exact wpAny_Name (wpAny_loadName_local I.ok.kind hk hn hm S) hd
 ·rcases hk with hk|hk
  ·exact wpAny_Name (wpAny_loadName_cell I.ok.kind hk hc O S) hd
  ·exact wpAny_Name (wpAny_loadName_free I.ok.kind hk hc O S hcd) hd
theorem X40{i j pos}:PE X (.Constant (.int i) j pos) (tC (.int i)):=λ_ _ _ H _ I h=>wpAny_Constant_int ⟨.int i,H,I.tok _,⟨_,rfl⟩,h⟩
theorem Xl0{b j pos}:PE X (.Constant (.bool b) j pos) (tC (.bl b)):=λ_ _ _ H _ I h=>Constant_bool ⟨.bl b,H,I,rfl,h⟩
theorem Yj0{j pos}:PE X (.Constant .none j pos) (tC .non):=λ_ _ _ H _ I h=>Constant_none ⟨.non,H,I,rfl,h⟩
theorem Yt0{x j pos}:PE X (.Constant (.str x) j pos) (tC (.str x)):=λ_ _ _ H _ I h=>Calls.Constant_str ⟨.str x,H,I.tok _,⟨_,rfl⟩,h⟩
noncomputable def Gl(X:Cx)(x:Str):Prop:=X.env.kindOf x=some .globalImplicit
theorem xy0{E:Value->Shared->Prop}{s:Shared}{σ:St}{pos:Pos}(I:Inv X pins σ H s)(hg:Gl X x)(hm:X.mg x=some u)(h:Q u s)
  (hd:(x==("__debug__" : Str))=false:=by decide):wpAny (model X.prog X.w) X.A (eval (.Name x pos) X.env) Q E s :=
 r0 I.ok.kind hg (Calls.loadGlobal_global (by rw[I.ok.glob];exact I.mod.glob.keeps I.bk) hm h) hd
theorem vc0{E:Value->Shared->Prop}{s:Shared}{σ:St}{pos:Pos}(I:Inv X pins σ H s)(hg:Gl X x)(hm:X.mg x=none)(hv:bootBuiltins x=some u)(h:Q u s)
  (hn:x ≠"__name__" := by decide) (hd:(x==("__debug__" : Str))=false:=by decide):wpAny (model X.prog X.w) X.A (eval (.Name x pos) X.env) Q E s:=by
 obtain⟨mb,h1,h2⟩:=I.mod.blt;exact r0 I.ok.kind hg (Calls.loadGlobal_builtin (by rw[I.ok.glob];exact I.mod.glob.keeps I.bk) hm (by rw[I.ok.blt];exact h1.keeps I.bk) ((h2 x hn).trans hv) h) hd
theorem jk0{v:V}(hg:Gl X x)(hm:X.mg x=some u)(r:RelV v u)(hd:(x==("__debug__" : Str))=false:=by decide):PE X (.Name x pos) (tC v) :=
 λ_ _ _ H _ I h=>xy0 I hg hm ⟨v,H,I,r,h⟩ hd
theorem af0{v:V}(hg:Gl X x)(hm:X.mg x=none)(hv:bootBuiltins x=some u)(r:RelV v u)(hn:x ≠"__name__" := by decide)(hd:(x==("__debug__" : Str))=false:=by decide):PE X (.Name x pos) (tC v) :=
 λ_ _ _ H _ I h=>vc0 I hg hm hv ⟨v,H,I,r,h⟩ hn hd
variable{a:Expr}
noncomputable def tB(t:TE):TT:=fun σ H Q=>t σ H λx H1=>∃c,x=.bl c/\Q c H1
theorem Y60{t:TE}(h:PE X e t)(he:∀whole,isTrue e X.env whole=(do let v ← whole;standAt e.pos;holding [v] (truthy v)):=by intro _;rfl):PT X e (tB t):=by
 intro pins s σ H Q I hw;refine isTrue_plain (thn (h pins s σ H _ I hw) λv s1 ⟨x,H1,I1,r1,q1⟩=>?_) (he _);obtain⟨d,rfl,q⟩:=q1;cases r1;exact E6 ⟨H1,I1,q⟩
variable{tA tB':TT}{rest:List Expr}
noncomputable def V30(t u:TT):TT:=fun σ H Q=>t σ H λc H1=>if c=true then u σ H1 Q else Q false H1
noncomputable def tOr(t u:TT):TT:=fun σ H Q=>t σ H λc H1=>if c=true then Q true H1 else u σ H1 Q
noncomputable def Wz0(t:TT):TT:=fun σ H Q=>t σ H λc H1=>Q (!c) H1
theorem ai0(ha:PT X a tA):PW X (.BoolOp .And [a] pos) tA:=by
 intro wh pins s σ H Q I h;refine isTrue_and (thn (ha pins s σ H Q I h) λc s1 e=>?_);cases c with
 | true=>exact isTrue_and_nil e
 | false=>exact e
theorem X60(ha:PT X a tA):PW X (.BoolOp .Or [a] pos) tA:=by
 intro wh pins s σ H Q I h;refine isTrue_or (thn (ha pins s σ H Q I h) λc s1 e=>?_);cases c with
 | false=>exact isTrue_or_nil e
 | true=>exact e
theorem Zh0(ha:PT X a tA)(hb:PW X (.BoolOp .And (b::rest) pos) tB'):PW X (.BoolOp .And (a::b::rest) pos) (V30 tA tB'):=by
 intro wh pins s σ H Q I h;refine isTrue_and (thn (ha pins s σ H _ I h) λc s1 ⟨H1,I1,q1⟩=>?_);cases c with
 | true=>exact hb wh pins s1 σ H1 Q I1 q1
 | false=>exact⟨H1,I1,q1⟩
theorem Xz0(ha:PT X a tA)(hb:PW X (.BoolOp .Or (b::rest) pos) tB'):PW X (.BoolOp .Or (a::b::rest) pos) (tOr tA tB'):=by
 intro wh pins s σ H Q I h;refine isTrue_or (thn (ha pins s σ H _ I h) λc s1 ⟨H1,I1,q1⟩=>?_);cases c with
 | true=>exact⟨H1,I1,q1⟩
 | false=>exact hb wh pins s1 σ H1 Q I1 q1
theorem Y20(ha:PT X a tA):PT X (.UnaryOp .Not a pos) (Wz0 tA):=by
 intro pins s σ H Q I h;exact isTrue_not (ha pins s σ H (λc H1=>Q (!c) H1) I h)
noncomputable def Wd0(ta tb:TE):TE:=fun σ H Q=>ta σ H λx H1=>∃c,x=.bl c/\if c=true then tb σ H1 Q else Q (.bl false) H1
noncomputable def Ww0(ta tb:TE):TE:=fun σ H Q=>ta σ H λx H1=>∃c,x=.bl c/\if c=true then Q (.bl true) H1 else tb σ H1 Q
noncomputable def Xt0(ta:TE):TE:=fun σ H Q=>ta σ H λx H1=>∃c,x=.bl c/\Q (.bl (!c)) H1
theorem X10{op}{t:TE}(h:PE X a t):PE X (.BoolOp op [a] pos) t:=λpins s σ H Q I hw=>BoolOp_one (h pins s σ H Q I hw)
theorem Zf0(ha:PE X a ta)(hb:PE X (.BoolOp .And (b::rest) pos) tb):PE X (.BoolOp .And (a::b::rest) pos) (Wd0 ta tb):=by
 intro pins s σ H Q I h;refine BoolOp_and (thn (ha pins s σ H _ I h) λv s1 ⟨x,H1,I1,r1,q1⟩=>?_);obtain⟨c,rfl,q1⟩:=q1;cases r1;refine E6 ?_;cases c with
 | true=>exact hb pins s1 σ H1 Q I1 q1
 | false=>exact⟨.bl false,H1,I1,rfl,q1⟩
theorem W10(ha:PE X a ta)(hb:PE X (.BoolOp .Or (b::rest) pos) tb):PE X (.BoolOp .Or (a::b::rest) pos) (Ww0 ta tb):=by
 intro pins s σ H Q I h;refine BoolOp_or (thn (ha pins s σ H _ I h) λv s1 ⟨x,H1,I1,r1,q1⟩=>?_);obtain⟨c,rfl,q1⟩:=q1;cases r1;refine E6 ?_;cases c with
 | false=>exact hb pins s1 σ H1 Q I1 q1
 | true=>exact⟨.bl true,H1,I1,rfl,q1⟩
theorem Zo0(ha:PE X a ta):PE X (.UnaryOp .Not a pos) (Xt0 ta):=by
 intro pins s σ H Q I h;refine UnaryOp_ (thn (ha pins s σ H _ I h) λv s1 ⟨x,H1,I1,r1,q1⟩=>?_);obtain⟨c,rfl,q1⟩:=q1;cases r1;exact not_of (E6 ⟨.bl (!c),H1,I1,rfl,q1⟩)
end
noncomputable def SqL(K:W.Frag)(H:Hp)(a:Addr)(xs:List V):Prop :=
 Rd H a (.lst xs) ∨
  ∃(o:Obj) (its:Array Value) (n:Nat),K.lookup a=some o/\o.cls=.type "list"/\o.dict=none/\o.data=.seq its n/\its.size<=sizeLine/\Vals xs its.toList
noncomputable def SqT(K:W.Frag)(H:Hp)(a:Addr)(xs:List V):Prop :=
 Rd H a (.tup xs) ∨
  ∃(o:Obj) (its:Array Value) (n:Nat),K.lookup a=some o/\o.cls=.type "tuple"/\o.data=.seq its n/\its.size<=sizeLine/\Vals xs its.toList
noncomputable def V90:Value->Option V
 | .none=>some .non
 | .bool b=>some (.bl b)
 | .int i _=>some (.int i)
 | .str x _=>some (.str x)
 | .bytes b _=>some (.byt b)
 | .float b _=>some (.flt b)
 | .ref a=>some (.ref a)
 | .type n=>some (.ty n)
 | _=>none
theorem RelV.abs{x:V}(r:RelV x u):V90 u=some x:=by
 cases x with
 | non=>cases r;rfl
 | bl _=>cases r;rfl
 | int _=>obtain⟨t,rfl⟩:=r;rfl
 | str _=>obtain⟨t,rfl⟩:=r;rfl
 | byt _=>obtain⟨t,rfl⟩:=r;rfl
 | flt _=>obtain⟨t,rfl⟩:=r;rfl
 | ref _=>cases r;rfl
 | ty _=>cases r;rfl
theorem RelV.inj{x y:V}(r:RelV x u)(q:RelV y u):x=y:=B2 (r.abs.symm.trans q.abs)
theorem Vals.inj:∀{xs ys:List V} {us:List Value},Vals xs us->Vals ys us->xs=ys
 | _,_,_,.nil,.nil=>rfl
 | _,_,_,.cons r t,.cons r' t'=>by rw[r.inj r',Vals.inj t t']
section
variable{σ:St}{s:Shared}{ys:List V}
theorem Inv.list(I:Inv X pins σ H s)(h:SqL X.K H a xs):∃its:List Value,Vals xs its/\PlainL s.heap a its.toArray/\xs.length<=sizeLine:=by
 rcases h with h|⟨o,its,n,hk,hc,hd,hs,hz,r⟩
 ·obtain⟨z,its,n,r,e⟩:=h.ok I.hok
  exact⟨its,r,⟨_,n,e,rfl,rfl,rfl⟩,z⟩
 ·refine⟨its.toList,r,⟨o,n,I.kIn a o hk,hc,hd,by simpa using hs⟩,?_⟩
  have e:=r.length;simp only[Array.length_toList] at e;omega
theorem Inv.tuple(I:Inv X pins σ H s)(h:SqT X.K H a xs):∃its:List Value,Vals xs its/\IsTup s.heap a its.toArray/\xs.length<=sizeLine:=by
 rcases h with h|⟨o,its,n,hk,hc,hs,hz,r⟩
 ·obtain⟨z,its,r,p⟩:=h.ok I.hok
  exact⟨its,r,p.tup,z⟩
 ·refine⟨its.toList,r,⟨o,I.kIn a o hk,hc,n,by simpa using hs⟩,?_⟩
  have e:=r.length;simp only[Array.length_toList] at e;omega
theorem Inv.list_inj(I:Inv X pins σ H s)(h:SqL X.K H a xs)(h':SqL X.K H a ys):xs=ys:=by
 obtain⟨its,r,⟨o,n,e,_,_,d⟩,_⟩:=I.list h;obtain⟨O,r',⟨o',n',e',_,_,d'⟩,_⟩:=I.list h';rw[e] at e';cases e';rw[d] at d';injection d' with d1 _
 have:its=O:=by simpa using B7 Array.toList d1
 subst this;exact r.inj r'
theorem Inv.tuple_inj(I:Inv X pins σ H s)(h:SqT X.K H a xs)(h':SqT X.K H a ys):xs=ys:=by
 obtain⟨its,r,⟨o,e,_,n,d⟩,_⟩:=I.tuple h;obtain⟨O,r',⟨o',e',_,n',d'⟩,_⟩:=I.tuple h';rw[e] at e';cases e';rw[d] at d';injection d' with d1 _
 have:its=O:=by simpa using B7 Array.toList d1
 subst this;exact r.inj r'
end
abbrev Cx.wish(X:Cx)(E:Value->Shared->Prop):Cx:={ X with xe:=E }
abbrev Cx.nox(X:Cx):Cx:=X.wish λ_ _=>False
theorem Cx.Ok.wish(ok:X.Ok)(E:Value->Shared->Prop):(X.wish E).Ok :=
 ⟨ok.mod,ok.kind,ok.glob,ok.blt,ok.above,ok.inj,ok.has,ok.cab,ok.hd,ok.frames,ok.stk,ok.exf,ok.bs,ok.bsz,ok.noex,ok.exfs,ok.funs,ok.frf⟩
theorem Cx.Ok.unwish(ok:(X.wish E).Ok):X.Ok :=
 ⟨ok.mod,ok.kind,ok.glob,ok.blt,ok.above,ok.inj,ok.has,ok.cab,ok.hd,ok.frames,ok.stk,ok.exf,ok.bs,ok.bsz,ok.noex,ok.exfs,ok.funs,ok.frf⟩
section
variable{σ:St}{s:Shared}
theorem Inv.wish(I:Inv X pins σ H s)(E:Value->Shared->Prop):Inv (X.wish E) pins σ H s:=⟨I.ok.wish E,I.os,I.bare,I.base,I.loc,I.cell,I.free,I.freeC,I.pin,I.hok,I.len⟩
theorem Inv.unwish(I:Inv (X.wish E) pins σ H s):Inv X pins σ H s:=⟨I.ok.unwish,I.os,I.bare,I.base,I.loc,I.cell,I.free,I.freeC,I.pin,I.hok,I.len⟩
theorem SP.unwish{D:Ends}{f:Flow}(h:SP (X.wish E) pins D f s'):SP X pins D f s':=by
 cases f with
 | next=>obtain⟨σ',H',I,q⟩:=h;exact⟨σ',H',I.unwish,q⟩
 | brk=>obtain⟨σ',H',I,q⟩:=h;exact⟨σ',H',I.unwish,q⟩
 | cont=>obtain⟨σ',H',I,q⟩:=h;exact⟨σ',H',I.unwish,q⟩
 | ret u=>obtain⟨v,σ',H',I,r,q⟩:=h;exact⟨v,σ',H',I.unwish,r,q⟩
theorem PSs.nox{st:List Stmt}{t:TS}(h:PSs X.nox st t):PSs X st t:=λpins s σ H D I hw =>
 B8 (h pins s σ H D (I.wish _) hw) (λ_ _ q=>q.unwish) λ_ _ z=>False.elim z
end
section
variable{st:Stmt}{t u:TS}
noncomputable def W40:TS:=λD σ H=>D.nx σ H
noncomputable def Ws0(t u:TS):TS:=λD σ H=>t { D with nx:=u D } σ H
theorem o30:PSs X [] W40:=λ_ _ σ H _ I h=>wpAny_execs_nil ⟨σ,H,I,h⟩
theorem G5(h1:PS X st t)(h2:PSs X rest u):PSs X (st::rest) (Ws0 t u):=by
 intro pins s σ H D I h;refine wpAny_execs_cons (thn (h1 pins s σ H { D with nx:=u D } I h) λf s1 q=>?_);cases f with
 | next =>
  obtain⟨σ',H',I',q⟩:=q;exact h2 pins s1 σ' H' D I' q
 | ret v=>exact q
 | brk=>exact q
 | cont=>exact q
theorem Inv.quiet{σ:St}{s:Shared}(I:Inv X pins σ H s):interactive X.env=false:=by simp[interactive,I.ok.kind]
noncomputable def Xj0(te:TE):TS:=λD σ H=>te σ H λ_ H1=>D.nx σ H1
theorem br0(he:PE X e te)(hs:swapsWith e none pos.line X.env=pure false:=by rfl):PS X (.Expr e pos) (Xj0 te):=by
 intro pins s σ H D I h;exact wpAny_Expr_any (thn (he pins s σ H _ I h) λv s1 ⟨x,H1,I1,r1,q1⟩=>⟨σ,H1,I1,q1⟩) I.quiet hs
noncomputable def Wn0(te:TE):TS:=λD σ H=>te σ H D.rt
theorem lx0(he:PE X e te):PS X (.Return (some e) pos) (Wn0 te):=by
 intro pins s σ H D I h;exact wpAny_Return_some (thn (he pins s σ H _ I h) λv s1 ⟨x,H1,I1,r1,q1⟩=>⟨x,σ,H1,I1,r1,q1⟩)
noncomputable def Wx0(c:TT)(t u:TS):TS:=λD σ H=>c σ H λb H1=>if b=true then t D σ H1 else u D σ H1
theorem cz0{a b:List Stmt}{tc:TT}(hc:PT X c tc)(ha:PSs X a t)(hb:PSs X b u):PS X (.If c a b pos) (Wx0 tc t u):=by
 intro pins s σ H D I h;refine wpAny_If (thn (hc pins s σ H _ I h) λd s1 ⟨H1,I1,q1⟩=>?_);cases d with
 | true=>exact ha pins s1 σ H1 D I1 q1
 | false=>exact hb pins s1 σ H1 D I1 q1
noncomputable def Xg0:TS:=λ_ _ _=>False
theorem ze0{sts:List Stmt}:PSs X sts Xg0:=λ_ _ _ _ _ _ h=>h.elim
end
abbrev TG:=V->St->Hp->(St->Hp->Prop)->Prop
abbrev TGs:=List V->St->Hp->(St->Hp->Prop)->Prop
noncomputable def PG(X:Cx)(target:Expr)(t:TG):Prop :=
 ∀(pins:List (Addr×Obj)) (s:Shared) (σ:St) (H:Hp) (v:V) (u:Value) (Q:St->Hp->Prop),Inv X pins σ H s->RelV v u->t v σ H Q ->
  wpAny (model X.prog X.w) X.A (assign target X.env u) (λ_ s'=>∃σ' H',Inv X pins σ' H' s'/\Q σ' H') X.xe s
noncomputable def PGs(X:Cx)(ts:List Expr)(t:TGs):Prop :=
 ∀(pins:List (Addr×Obj)) (s:Shared) (σ:St) (H:Hp) (vs:List V) (us:List Value) (Q:St->Hp->Prop),Inv X pins σ H s->Vals vs us->t vs σ H Q ->
  wpAny (model X.prog X.w) X.A (assignInOrder ((assignEach ts X.env).map (·.2)) us) (λ_ s'=>∃σ' H',Inv X pins σ' H' s'/\Q σ' H') X.xe s
abbrev eh0:=V->V->V->Hp->(Hp->Prop)->Prop
noncomputable def Yb0(X:Cx)(t:eh0):Prop :=
 ∀(pins:List (Addr×Obj)) (s:Shared) (σ:St) (H:Hp) (o i v:V) (ov iv u:Value) (Q:Hp->Prop),Inv X pins σ H s->RelV o ov->RelV i iv->RelV v u->t o i v H Q ->
  wpAny (model X.prog X.w) X.A (setItem ov iv u) (λ_ s'=>∃H',Inv X pins σ H' s'/\Q H') X.xe s
noncomputable def Xs0(i:Nat):TG:=λv σ H Q=>Q (σ.set i (some v)) H
theorem xh0(hN:X.N.Nodup)(hi:X.N[i]?=some x)(hx:Loc X.env.scope x)(hf:X.fn x=true∨X.env.scope.names.lookup x=some .local:=by first|exact .inl rfl|exact .inr rfl|assumption):PG X (.Name x pos) (Xs0 i):=by
 intro pins s σ H v u Q I r h;exact X1 (rp0 I hN hi hx r (λs' I'=>⟨_,H,I',h⟩) hf)
noncomputable def Wm0:TGs:=λvs σ H Q=>vs=[]/\Q σ H
noncomputable def We0(t:TG)(u:TGs):TGs:=λvs σ H Q=>∃v r,vs=v::r/\t v σ H fun σ' H'=>u r σ' H' Q
theorem Z50:PGs X [] Wm0:=by
 intro pins s σ H vs us Q I r h;obtain⟨e,h⟩:=h;subst e;cases r;exact assignInOrder_nil ⟨σ,H,I,h⟩
theorem mp0{t:TG}{u:TGs}(h1:PG X e t)(h2:PGs X es u)
  (hs:(assignEach (e::es) X.env).map (·.2)=assign e X.env::(assignEach es X.env).map (·.2):=by rfl):PGs X (e::es) (We0 t u):=by
 intro pins s σ H vs us Q I r h;obtain⟨v,vr,e1,h⟩:=h;subst e1;cases r with
 | cons r rr =>
  rw[hs];refine assignInOrder_cons (thn (h1 pins s σ H _ _ _ I r h) λ_ s1 ⟨σ1,H1,I1,q1⟩=>?_);exact h2 pins s1 σ1 H1 _ _ Q I1 rr q1
noncomputable def Vc0(K:W.Frag)(n:Nat)(t:TGs):TG:=λv σ H Q=>∃a xs,v=.ref a/\SqT K H a xs/\xs.length=n/\t xs σ H Q
theorem Yv0{k:Nat}{t:TGs}{n:Nat}(hc:X.calm=true)(h:PGs X es t)
  (hn:(assignEach es X.env).length=n:=by rfl) (hst:(assignEach es X.env).findIdx? (·.1)=none:=by rfl):PG X (.Tuple es k pos) (Vc0 X.K n t):=by
 intro pins s σ H v u Q I r hw;obtain⟨a,xs,e1,hq,hl,hw⟩:=hw;subst e1;cases r;obtain⟨its,rv,ht,hz⟩:=I.tuple hq;refine assign_Tuple_tuple (I.ok.hd hc) ht (by simp[hn,← hl,rv.length]) hst λh' hx=>?_
 have I1:Inv X pins σ H { s with heap:=h' }:=I.kept (t':=s.toks) λb o e=>hx b o (B6 (A4 e)) e
 exact h pins _ σ H xs _ Q I1 (by simpa using rv) hw
noncomputable def Wo0(to ti:TE)(t:eh0):TG:=λv σ H Q=>to σ H λo H1=>ti σ H1 λi H2=>t o i v H2 λH3=>Q σ H3
theorem Zn0{i:Expr}{to ti:TE}{t:eh0}(ho:PE X o to)(hi:PE X i ti)(hs:Yb0 X t)
  (ha:∀v,assign (.Subscript o i pos) X.env v=(do
   let ov ← holding [v] (eval o X.env)
   let iv ← holding [v,ov] (eval i X.env)
   standAt pos
   holding [v,ov,iv] (setItem ov iv v)
   release [v,ov,iv] []):=by intro _;rfl):PG X (.Subscript o i pos) (Wo0 to ti t):=by
 intro pins s σ H v u Q I r h;rw[ha];refine A0 (E7 (thn (ho pins s σ H _ I h) λov s1 ⟨x,H1,I1,r1,q1⟩=>?_));refine A0 (E7 (thn (hi pins s1 σ H1 _ I1 q1) λiv s2 ⟨y,H2,I2,r2,q2⟩=>?_));refine A0 (L5 (A0 (E7 (thn (hs pins s2 σ H2 x y v ov iv u _ I2 r1 r2 r q2) λ_ s3 ⟨H3,I3,q3⟩=>?_))));exact wpAny_release ⟨σ,H3,I3,q3⟩
noncomputable def Wy0(te:TE)(g:TG):TS:=λD σ H=>te σ H λx H1=>g x σ H1 D.nx
theorem un0{g:TG}(he:PE X e te)(hg:PG X tg g)(hs:swapsWithSole [tg] e pos.line X.env=pure false:=by rfl)(hw:swappedStores [tg] e X.env=pure none:=by rfl)
  (h1:(assignEach [tg] X.env).map (·.2)=[assign tg X.env]:=by rfl):PS X (.Assign [tg] e pos) (Wy0 te g):=by
 intro pins s σ H D I h;refine wpAny_Assign_stores (thn (he pins s σ H _ I h) λv s1 ⟨x,H1,I1,r1,q1⟩=>?_) hs hw;rw[h1];exact thn (hg pins s1 σ H1 x v _ I1 r1 q1) λ_ s2 q=>q
structure It where
 go:Nat->Hp->Prop
 yld:Nat->Hp->V->Hp->Prop
 stop:Nat->Hp->Prop
variable{J:L2.It}
noncomputable def xu0(X:Cx)(pins:List (Addr×Obj))(H:Hp)(b:Addr):Prop :=
 H b=none/\b≠X.env.locals/\b∉X.fs/\(b∈X.ex∨X.s₀.heap.objs.size<=b)/\(∀x c,X.env.cells.lookup x=some c->c≠b)/\∀p∈X.pn++pins,p.1≠b
theorem Inv.fpOk{σ:St}{s:Shared}{b:Addr}(I:Inv X pins σ H s)(hb:s.heap.objs.size<=b)(hn:H' b=none):xu0 X pins H' b:=by
 refine⟨hn,D8 (B5 I.lt hb),I.nofs hb,.inr (A9 I.sz hb),λx c e z=>?_,λp hp z=>?_⟩
 ·obtain⟨v,q⟩:=I.cell x c e
  exact absurd (B5 q.lt (by rw[z];exact hb)) (C1 _)
 ·exact absurd (B5 (A4 (I.pin p hp).1) (by rw[z];exact hb)) (C1 _)
structure Turn(P:Program)(w:World)(K:W.Frag)(tg:Expr)(J:It)(fp:List Addr)(it:Addr)(tn:Nat->Heap->Prop):Prop where
 mem:it∈fp
 obj:∀i h,tn i h->∀b∈fp,∃o,h.get? b=some o/\∀v,o.data≠.cell v
 keep:∀i h h',tn i h->(∀b∈fp,∀o,h.get? b=some o->h'.get? b=some o)->tn i h'
 item:∀(X:Cx),X.prog=P->X.w=w->X.K=K->X.calm=true->∀(i:Nat) (pins:List (Addr×Obj)) (s:Shared) (σ:St) (H:Hp) (E:Value->Shared->Prop),Inv X pins σ H s->(∀b∈fp,xu0 X pins H b)->tn i s.heap->J.go i H ->
  wpAny (model P w) X.A (pyNext (.ref it)) (λr s1=>∃u,r=some u /\
   wpAny (model P w) X.A (letOwnedTupleGo tg (.ref it) u) (λ_ s2=>∃x H',Inv X pins σ H' s2/\RelV x u/\J.yld i H x H'/\tn (i+1) s2.heap/\∀b∈fp,H' b=none) E s1) E s
 done:∀(X:Cx),X.prog=P->X.w=w->X.K=K->X.calm=true->∀(i:Nat) (pins:List (Addr×Obj)) (s:Shared) (σ:St) (H:Hp) (E:Value->Shared->Prop),Inv X pins σ H s->(∀b∈fp,xu0 X pins H b)->tn i s.heap->J.stop i H ->
  wpAny (model P w) X.A (pyNext (.ref it)) (λr s1=>r=none/\Inv X pins σ H s1) E s
 self:∀(A:Around) (i:Nat) (s:Shared) (Q:Value->Shared->Prop) (E:Value->Shared->Prop),tn i s.heap->Q (.ref it) s->wpAny (model P w) A (pyIter (.ref it)) Q E s
abbrev TI:=St->Hp->(It->Hp->Prop)->Prop
noncomputable def PIE(X:Cx)(pins:List (Addr×Obj))(σ:St)(tg:Expr)(R:It->Hp->Prop)(itv:Value)(s2:Shared):Prop :=
 ∃(it:Addr) (fp:List Addr) (tn:Nat->Heap->Prop) (J:It) (H':Hp),itv=.ref it/\Inv X pins σ H' s2/\Turn X.prog X.w X.K tg J fp it tn/\tn 0 s2.heap/\(∀b∈fp,xu0 X pins H' b)/\R J H'
variable{wi:L2.TI}
noncomputable def PI(X:Cx)(tg iter:Expr)(wi:TI):Prop :=
 ∀(pins:List (Addr×Obj)) (s:Shared) (σ:St) (H:Hp) (R:It->Hp->Prop),Inv X pins σ H s->wi σ H R ->
  wpAny (model X.prog X.w) X.A (eval iter X.env) (λv s1=>wpAny (model X.prog X.w) X.A (pyIter v) (PIE X pins σ tg R) X.xe s1) X.xe s
theorem m60{M:Model}{A:Around}{E:Value->Shared->Prop}{s:Shared}{tg:Expr}{u:Value}{o:Obj}{n:String}{vs:Array Value}{Q:Unit->Shared->Prop}(ho:s.heap.get? it=some o)(hc:o.cls=.type n)(hd:o.data=.fields vs)
  (hn:["enumerate", "zip", "dict_itemiterator", "dict_reverseitemiterator", "odict_iterator", "itertools.zip_longest", "itertools.pairwise"].contains n=false) (hQ:Q () s):wpAny M A (letOwnedTupleGo tg (.ref it) u) Q E s:=by
 unfold letOwnedTupleGo;cases tg<;>first
  | exact A3 hQ
  | (cases u<;>first
    | exact A3 hQ
    | (refine A0 (wpAny_load ho ?_)
       rw[hc,hd];show wpAny M A (if (["enumerate", "zip", "dict_itemiterator", "dict_reverseitemiterator", "odict_iterator", "itertools.zip_longest", "itertools.pairwise"].contains n&&vs[0]?==some (rawInt _))=true then _ else _) Q E s;rw[if_neg (by intro h;rw[hn,Bool.false_and] at h;cases h)];exact A3 hQ))
noncomputable def Itl(K:W.Frag)(a:Addr):It :=
 ⟨λi H=>∃xs x,SqL K H a xs/\xs[i]?=some x,λi H x H'=>H'=H/\∀xs,SqL K H a xs->xs[i]?=some x,λi H=>∃xs,SqL K H a xs/\xs.length<=i⟩
noncomputable def Itt(K:W.Frag)(a:Addr):It :=
 ⟨λi H=>∃xs x,SqT K H a xs/\xs[i]?=some x,λi H x H'=>H'=H/\∀xs,SqT K H a xs->xs[i]?=some x,λi H=>∃xs,SqT K H a xs/\xs.length<=i⟩
noncomputable def Itr(lo:Int)(n:Nat):It:=⟨λi _=>i<n,λi H x H'=>H'=H/\x=.int (lo+i),λi _=>n<=i⟩
theorem gp0{P:Program}{w:World}(a it:Addr):Turn P w K tg (Itl K a) [it] it (λi h=>h.IsListIter it a i) where
 mem:=by simp
 obj:=λi h st b hb=>by
  have e:b=it:=by simpa using hb
  subst e;obtain⟨o,e,c,d⟩:=st;exact⟨o,e,λv z=>by rw[d] at z;cases z⟩
 keep:=λi h h' st k=>st.at λo e=>k it (by simp) o e
 item:=by
  intro X hP hw hK hc i pins s σ H E I hf st hg;subst hP hw hK;obtain⟨xs,x,hq,hx⟩:=hg;obtain⟨its,rv,p,hz⟩:=I.list hq;obtain⟨u,hu,ru⟩:=rv.get hx;obtain⟨f0,f1,f2,f3,f4,f5⟩:=hf it (by simp);refine wpAny_pyNext_list_item st p.isList (x:=u) (by simpa using hu) λh' O sb=>?_
  have I1:Inv X pins σ H { s with heap:=h' }:=I.turned (t':=s.toks) (λb o hb e=>(sb.2 b hb).trans e) f0 f1 f3 f4 f5;obtain⟨o,e,c,d⟩:=id O;exact⟨u,rfl,m60 (s:={ s with heap:=h' }) e c d (by decide) ⟨x,H,I1,ru,⟨rfl,λys hy=>by rw[I.list_inj hy hq];exact hx⟩,O,λb hb=>(hf b hb).1⟩⟩
 done:=by
  intro X hP hw hK hc i pins s σ H E I hf st hg;subst hP hw hK;obtain⟨xs,hq,hx⟩:=hg;obtain⟨its,rv,p,hz⟩:=I.list hq;obtain⟨f0,f1,f2,f3,f4,f5⟩:=hf it (by simp);have hl:=rv.length;exact wpAny_pyNext_list_end (I.ok.hd hc) st p.isList (by simp;omega) λh' eb=>⟨rfl,I.turned (t':=s.toks) (λb o hb e=>eb b o hb e) f0 f1 f3 f4 f5⟩
 self:=λ_ _ _ _ _ st h=>wpAny_pyIter_listiter st h
theorem io0{P:Program}{w:World}(a it:Addr):Turn P w K tg (Itt K a) [it] it (λi h=>h.IsTupleIter it a i) where
 mem:=by simp
 obj:=λi h st b hb=>by
  have e:b=it:=by simpa using hb
  subst e;obtain⟨o,e,c,d⟩:=st;exact⟨o,e,λv z=>by rw[d] at z;cases z⟩
 keep:=λi h h' st k=>st.at λo e=>k it (by simp) o e
 item:=by
  intro X hP hw hK hc i pins s σ H E I hf st hg;subst hP hw hK;obtain⟨xs,x,hq,hx⟩:=hg;obtain⟨its,rv,p,hz⟩:=I.tuple hq;obtain⟨u,hu,ru⟩:=rv.get hx;obtain⟨f0,f1,f2,f3,f4,f5⟩:=hf it (by simp);refine wpAny_pyNext_tuple_item st (show s.heap.IsTuple a its.toArray from p) (x:=u) (by simpa using hu) λh' O sb=>?_
  have I1:Inv X pins σ H { s with heap:=h' }:=I.turned (t':=s.toks) (λb o hb e=>(sb.2 b hb).trans e) f0 f1 f3 f4 f5;obtain⟨o,e,c,d⟩:=id O;exact⟨u,rfl,m60 (s:={ s with heap:=h' }) e c d (by decide) ⟨x,H,I1,ru,⟨rfl,λys hy=>by rw[I.tuple_inj hy hq];exact hx⟩,O,λb hb=>(hf b hb).1⟩⟩
 done:=by
  intro X hP hw hK hc i pins s σ H E I hf st hg;subst hP hw hK;obtain⟨xs,hq,hx⟩:=hg;obtain⟨its,rv,p,hz⟩:=I.tuple hq;obtain⟨f0,f1,f2,f3,f4,f5⟩:=hf it (by simp);have hl:=rv.length;exact wpAny_pyNext_tuple_end (I.ok.hd hc) st (show s.heap.IsTuple a its.toArray from p) (by simp;omega) λh' eb=>⟨rfl,I.turned (t':=s.toks) (λb o hb e=>eb b o hb e) f0 f1 f3 f4 f5⟩
 self:=λ_ _ _ _ _ st h=>wpAny_pyIter_tupleiter st h
theorem ia0{P:Program}{w:World}(it:Addr)(lo:Int)(n:Nat):Turn P w K tg (Itr lo n) [it] it (λi h=>IsRangeIter h it (lo+(i:Nat)*1) ((n:Int) - (i:Nat)) 1) where
 mem:=by simp
 obj:=λi h st b hb=>by
  have e:b=it:=by simpa using hb
  subst e;exact⟨_,st,λv z=>by
   have z':Data.fields _=Data.cell v:=z;cases z'⟩
 keep:=λi h h' st k=>k it (by simp) _ st
 item:=by
  intro X hP hw hK hc i pins s σ H E I hf st hg;subst hP hw hK;obtain⟨f0,f1,f2,f3,f4,f5⟩:=hf it (by simp);have W:=Walks.range (prog:=X.prog) (w:=X.w) (I.ok.hd hc) it lo 1 n;refine W.item i s _ _ hg st λv h' tk hv O kk=>?_
  obtain⟨t,rfl⟩:=hv;have I1:Inv X pins σ H { s with heap:=h',toks:=tk }:=I.turned (λb o hb e=>kk b o (by simpa using hb) e) f0 f1 f3 f4 f5;refine⟨_,rfl,m60 (s:={ s with heap:=h',toks:=tk }) (n := "range_iterator") O rfl rfl (by decide) ⟨.int (lo+i),H,I1,⟨t,?_⟩,⟨rfl,rfl⟩,O,λb hb=>(hf b hb).1⟩⟩;rw[Int.mul_one]
 done:=by
  intro X hP hw hK hc i pins s σ H E I hf st hg;subst hP hw hK;obtain⟨f0,f1,f2,f3,f4,f5⟩:=hf it (by simp);exact wpAny_pyNext_range_end (I.ok.hd hc) st (by have:n<=i:=hg;omega) λh' eb=>⟨rfl,I.turned (t':=s.toks) (λb o hb e=>eb b o hb e) f0 f1 f3 f4 f5⟩
 self:=λ_ _ _ _ _ st h=>wpAny_pyIter_rangeiter st h
noncomputable def Wj0(K:W.Frag)(tl:TE):TI:=fun σ H R=>tl σ H λx H1=>∃a,x=.ref a/\(∃xs,SqL K H1 a xs)/\R (Itl K a) H1
noncomputable def V10(K:W.Frag)(tl:TE):TI:=fun σ H R=>tl σ H λx H1=>∃a,x=.ref a/\(∃xs,SqT K H1 a xs)/\R (Itt K a) H1
theorem Z60{l:Expr}{tl:TE}(hl:PE X l tl):PI X tg l (Wj0 X.K tl):=by
 intro pins s σ H R I h;refine thn (hl pins s σ H _ I h) λv s1 ⟨x,H1,I1,r1,q1⟩=>?_
 obtain⟨a,e,⟨xs,hq⟩,q⟩:=q1;subst e;cases r1;obtain⟨its,rv,p,hz⟩:=I1.list hq;refine X2 p.isList ?_;refine⟨s1.heap.objs.size,[s1.heap.objs.size],_,_,H1,rfl,I1.kept (t':=s1.toks) λb o e=>B0 _ e,gp0 a _,⟨_,C6 _ rfl,rfl,rfl⟩,λb hb=>?_,q⟩;have e:b=s1.heap.objs.size:=by simpa using hb
 subst e;exact I1.fpOk (A1 _) (I1.hok.fresh (A1 _))
theorem X00{l:Expr}{tl:TE}(hl:PE X l tl):PI X tg l (V10 X.K tl):=by
 intro pins s σ H R I h;refine thn (hl pins s σ H _ I h) λv s1 ⟨x,H1,I1,r1,q1⟩=>?_
 obtain⟨a,e,⟨xs,hq⟩,q⟩:=q1;subst e;cases r1;obtain⟨its,rv,p,hz⟩:=I1.tuple hq;refine wpAny_pyIter_tuple (show s1.heap.IsTuple a its.toArray from p) ?_;refine⟨s1.heap.objs.size,[s1.heap.objs.size],_,_,H1,rfl,I1.kept (t':=s1.toks) λb o e=>B0 _ e,io0 a _,⟨_,C6 _ rfl,rfl,rfl⟩,λb hb=>?_,q⟩;have e:b=s1.heap.objs.size:=by simpa using hb
 subst e;exact I1.fpOk (A1 _) (I1.hok.fresh (A1 _))
theorem do0{σ:St}{s:Shared}{R:It->Hp->Prop}{E:Value->Shared->Prop}{lo hi:Int}{t u v:Tok}{tk:Nat}(I:Inv X pins σ H s)(h1:-(2 ^ 62)<=lo)(h2:lo<2 ^ 62)(h3:-(2 ^ 62)<=hi)(h4:hi<2 ^ 62)
  (q:R (Itr lo (hi - lo).toNat) H):wpAny (model X.prog X.w) X.A (pyIter (.ref s.heap.objs.size)) (PIE X pins σ tg R) E { s with heap:=s.heap.push { cls:=.type "range",data:=.fields #[.int lo t,.int hi u,.int 1 v] },toks:=tk }:=by
 refine wpAny_pyIter_range (IsRange.new ..) (small_one h1 h2 h3 h4) ?_;have I1:Inv X pins σ H { s with heap:=s.heap.push { cls:=.type "range",data:=.fields #[.int lo t,.int hi u,.int 1 v] },toks:=tk }:=I.kept λb o e=>B0 _ e
 refine⟨(s.heap.push { cls:=.type "range",data:=.fields #[.int lo t,.int hi u,.int 1 v] }).objs.size,[(s.heap.push { cls:=.type "range",data:=.fields #[.int lo t,.int hi u,.int 1 v] }).objs.size],_,_,H,rfl,
  I1.kept (t':=tk) λb o e=>B0 _ e,ia0 _ lo (hi - lo).toNat,?_,λb hb=>?_,q⟩
 ·have e1:lo+((0:Nat):Int)*1=lo:=by simp
  have e2:(((hi - lo).toNat:Nat):Int) - ((0:Nat):Int)=Builtin.Range.rangeSize lo hi 1:=by rw[rangeSize_one];split<;>omega
  show IsRangeIter _ _ (lo+((0:Nat):Int)*1) ((((hi - lo).toNat:Nat):Int) - ((0:Nat):Int)) 1;rw[e1,e2];exact C6 _ rfl
 ·have e:b=(s.heap.push { cls:=.type "range",data:=.fields #[.int lo t,.int hi u,.int 1 v] }).objs.size:=by simpa using hb
  subst e;exact I1.fpOk (A1 _) (I1.hok.fresh (A1 _))
noncomputable def Xk0(ta:TA):TI:=fun σ H R=>ta σ H λvs H1=>∃j:Int,vs=[.int j]/\-(2 ^ 62)<=j/\j<2 ^ 62/\R (Itr 0 j.toNat) H1
theorem fq0{a:Expr}{ta:TA}(hg:Gl X "range")(hm:X.mg "range"=none)(ha:PA X [a] ta)(hs:starEach [a] X.env=[(false,eval a X.env)]:=by rfl):PI X tg (.Call (.Name "range" p) [a] [] pos) (Xk0 ta):=by
 intro pins s σ H R I h;refine Call_ (vc0 I hg hm boot_range (X9 (thn (ha pos pins s σ H _ I h) λus s1 ⟨vs,H1,I1,r1,q1⟩=>?_) hs rfl));obtain⟨j,e,q1,q2,q⟩:=q1;subst e;cases r1 with
 | cons r rr =>
  cases rr;obtain⟨t,rfl⟩:=r;exact call_range_1 (do0 I1 (by omega) (by omega) q1 q2 (by simpa using q))
noncomputable def V50(wi:TI)(g:TG)(tb:TS):TS:=λD σ H=>wi σ H λJ H1=>∃W:Nat->Nat->St->Hp->Prop,(∃m,W 0 m σ H1)/\∀i m σ H,W i m σ H ->
 (J.stop i H/\D.nx σ H)∨(J.go i H/\∃N:St->Hp->Prop,(∀σ' H',N σ' H'->∃m',m'<m/\W (i+1) m' σ' H')/\∀x H',J.yld i H x H'->g x σ H' fun σ2 H2=>tb { D with nx:=N,ct:=N,bk:=D.nx } σ2 H2)
noncomputable def vb0(fp:List Addr)(h:Heap):List (Addr×Obj):=fp.filterMap λb=>(h.get? b).map λo=>(b,o)
theorem z80{b:Addr}{o:Obj}(hb:b∈fp)(e:h.get? b=some o):(b,o)∈vb0 fp h:=P1.mpr ⟨b,hb,by rw[e];rfl⟩
theorem e30{p:Addr×Obj}(hp:p∈vb0 fp h):p.1∈fp/\h.get? p.1=some p.2:=by
 obtain⟨b,hb,e⟩:=P1.mp hp;cases q:h.get? b with
 | none=>rw[q] at e;cases e
 | some o =>
  rw[q] at e;have e':(b,o)=p:=B2 e;subst e';exact⟨hb,q⟩
theorem Inv.pinned{σ:St}{s:Shared}(I:Inv X pins σ H s)(hf:∀b∈fp,xu0 X pins H b)(ho:∀b∈fp,∃o,s.heap.get? b=some o/\∀v,o.data≠.cell v):Inv X (pins++vb0 fp s.heap) σ H s :=
 I.pins_of λp hp=>(C7.mp hp).elim (λz=>I.pin p (C0 _ z)) λz=>by
  obtain⟨hb,e⟩:=e30 z;obtain⟨f0,f1,f2,_⟩:=hf p.1 hb;obtain⟨o,e',d⟩:=ho p.1 hb;rw[e] at e';cases e';exact⟨e,f0,f1,f2,d⟩
theorem Inv.unpinned{pl:List (Addr×Obj)}{σ:St}{s:Shared}(I:Inv X (pins++pl) σ H s):Inv X pins σ H s:=I.pins_of λp hp=>I.pin p (C0 _ (L4 _ hp))
theorem Zd0{body:List Stmt}{g:TG}{tb:TS}{pos:Pos}(hp:PassesOwn (model X.prog X.w) X.A X.env X.xe)(hc:X.calm=true)(hi:PI X tg iter wi)(hg:PG X tg g)(hb:PSs X body tb)
  (hs:∀x,foldedSetIterable iter X.env x=pure x:=by intro _;rfl):PS X (.For tg iter body [] pos) (V50 wi g tb):=by
 intro pins s σ H D I h;refine wpAny_For (thn (hi pins s σ H _ I h) λv s1 h1=>thn h1 λa3 s2 h2=>?_) hs;obtain⟨it,fp,tn,J,H2,e,I2,T,a2,f2,W,⟨m0,w0⟩,Z⟩:=h2;subst e;have O:∀{H':Hp},(∀b∈fp,H' b=none)->∀b∈fp,xu0 X pins H' b:=λhn b hb=>⟨hn b hb,(f2 b hb).2⟩
 refine codeAny_forLoop_any (λn s'=>∃i σ' H',Inv X pins σ' H' s'/\tn i s'.heap/\(∀b∈fp,H' b=none)/\W i n σ' H') ?_ m0 ⟨0,σ,H2,I2,a2,λb hb=>(f2 b hb).1,w0⟩;rintro n s3 ⟨i,σ3,H3,I3,U,Y,w3⟩;rcases Z i n σ3 H3 w3 with⟨stop,qn⟩|⟨go,N,hN,step⟩
 ·refine L6 hp (thn (T.done X rfl rfl rfl hc i pins s3 σ3 H3 X.xe I3 (O Y) U stop) λr s4 ⟨hr,I4⟩=>?_)
  subst hr;exact wpAny_execs_nil ⟨σ3,H3,I4,qn⟩
 ·refine L6 hp (thn (T.item X rfl rfl rfl hc i pins s3 σ3 H3 X.xe I3 (O Y) U go) λr s4 ⟨u,hr,h4⟩=>?_)
  subst hr;refine L6 hp (thn h4 λ_ s5 ⟨x,H5,I5,r5,y5,S,a0⟩=>?_);have a1:=I5.pinned (O a0) (T.obj _ _ S);refine L6 hp (thn (hg _ s5 σ3 H5 x u _ a1 r5 (step x H5 y5)) λ_ s6 ⟨σ6,H6,I6,q6⟩=>?_);refine L6 hp (thn (hb _ s6 σ6 H6 _ I6 q6) λf s7 q7=>?_);have again:∀{σ7:St} {H7:Hp},Inv X (pins++vb0 fp s5.heap) σ7 H7 s7->N σ7 H7->∃m,m<n/\∃i σ' H',Inv X pins σ' H' s7/\tn i s7.heap/\(∀b∈fp,H' b=none)/\W i m σ' H':=λ{σ7 H7} I7 n7=>by
   obtain⟨m',hm,w7⟩:=hN σ7 H7 n7;refine⟨m',hm,i+1,σ7,H7,I7.unpinned,T.keep _ _ _ S λb hb o e=>(I7.pin (b,o) (C0 _ (C0 _ (z80 hb e)))).1,λb hb=>?_,w7⟩;obtain⟨o,e,d⟩:=T.obj _ _ S b hb;exact(I7.pin (b,o) (C0 _ (C0 _ (z80 hb e)))).2.1
  cases f with
  | next=>obtain⟨σ7,H7,I7,n7⟩:=q7;exact again I7 n7
  | cont=>obtain⟨σ7,H7,I7,n7⟩:=q7;exact again I7 n7
  | brk=>obtain⟨σ7,H7,I7,q7⟩:=q7;exact⟨σ7,H7,I7.unpinned,q7⟩
  | ret v=>obtain⟨x7,σ7,H7,I7,r7,q7⟩:=q7;exact⟨x7,σ7,H7,I7.unpinned,r7,q7⟩
abbrev R2:=V->V->Hp->VK->Prop
noncomputable def OpR(X:Cx)(f:Value->Value->Sem Value)(r:R2):Prop :=
 ∀(pins:List (Addr×Obj)) (s:Shared) (σ:St) (H:Hp) (x y:V) (v u:Value) (Q:VK),Inv X pins σ H s->RelV x v->RelV y u->r x y H Q ->
  wpAny (model X.prog X.w) X.A (f v u) (EP X pins σ Q) X.xe s
noncomputable def UnR(X:Cx)(f:Value->Sem Value)(r:V->Hp->VK->Prop):Prop :=
 ∀(pins:List (Addr×Obj)) (s:Shared) (σ:St) (H:Hp) (x:V) (v:Value) (Q:VK),Inv X pins σ H s->RelV x v->r x H Q ->
  wpAny (model X.prog X.w) X.A (f v) (EP X pins σ Q) X.xe s
noncomputable def CallR(X:Cx)(f:Value)(r:List V->Hp->VK->Prop):Prop :=
 ∀(pins:List (Addr×Obj)) (s:Shared) (σ:St) (H:Hp) (xs:List V) (us:List Value) (Q:VK),Inv X pins σ H s->Vals xs us->r xs H Q ->
  wpAny (model X.prog X.w) X.A (call f us) (EP X pins σ Q) X.xe s
noncomputable def tOp(r:R2)(ta tb:TE):TE:=fun σ H Q=>ta σ H λx H1=>tb σ H1 λy H2=>r x y H2 Q
noncomputable def tUn(r:V->Hp->VK->Prop)(ta:TE):TE:=fun σ H Q=>ta σ H λx H1=>r x H1 Q
noncomputable def rI(C:Int->Int->Prop)(g:Int->Int->V):R2:=λx y H Q=>∃i j,x=.int i/\y=.int j/\C i j/\Q (g i j) H
noncomputable def rI0(g:Int->Int->V):R2:=λx y H Q=>∃i j,x=.int i/\y=.int j/\Q (g i j) H
noncomputable def rU(g:Int->V):V->Hp->VK->Prop:=λx H Q=>∃i,x=.int i/\Q (g i) H
section
variable{a:Expr}{tc:TE}
theorem cc0(ha:PE X a ta)(hb:PE X b tb){s:Shared}{σ:St}{R:V->V->Hp->Prop}(I:Inv X pins σ H s)
  (h:ta σ H λx H1=>tb σ H1 λy H2=>R x y H2) {Q:Value->Shared->Prop} {f:Value->Value->Sem Value}
  (hf:∀v u s2 x y H2,Inv X pins σ H2 s2->RelV x v->RelV y u->R x y H2->wpAny (model X.prog X.w) X.A (f v u) Q X.xe s2) :
  wpAny (model X.prog X.w) X.A (eval a X.env) (λv s₁=>wpAny (model X.prog X.w) X.A (eval b X.env) (λu s₂=>wpAny (model X.prog X.w) X.A (f v u) Q X.xe s₂) X.xe s₁) X.xe s:=by
 refine thn (ha pins s σ H _ I h) λv s1 ⟨x,H1,I1,r1,q1⟩=>?_
 refine thn (hb pins s1 σ H1 _ I1 q1) λu s2 ⟨y,H2,I2,r2,q2⟩=>?_
 exact hf v u s2 x y H2 I2 r1 r2 q2
theorem Wh0{op:Operator}{r:R2}(ho:OpR X (binaryOp op) r)(ha:PE X a ta)(hb:PE X b tb):PE X (.BinOp a op b pos) (tOp r ta tb):=by
 intro pins s σ H Q I h;exact wpAny_BinOp (cc0 ha hb I h λv u s2 x y H2 I2 rx ry q=>ho pins s2 σ H2 x y v u Q I2 rx ry q)
theorem cl0{op:UnaryOp}{r:V->Hp->VK->Prop}(ho:UnR X (unaryOp op) r)(ha:PE X a ta):PE X (.UnaryOp op a pos) (tUn r ta):=by
 intro pins s σ H Q I h;exact UnaryOp_ (thn (ha pins s σ H _ I h) λv s1 ⟨x,H1,I1,r1,q1⟩=>ho pins s1 σ H1 x v Q I1 r1 q1)
theorem opI{f:Value->Value->Sem Value}{C:Int->Int->Prop}{g:Int->Int->Int}
  (rule:∀(i j:Int) (t u:Tok) (s:Shared) (Q:Value->Shared->Prop) (E:Value->Shared->Prop),C i j->Q (.int (g i j) s.toks) { s with toks:=s.toks+1 }->wpAny (model X.prog X.w) X.A (f (.int i t) (.int j u)) Q E s) :
  OpR X f (rI C λi j=>.int (g i j)):=by
 intro pins s σ H x y v u Q I rx ry h;obtain⟨i,j,rfl,rfl,hc,q⟩:=h;obtain⟨t,rfl⟩:=rx;obtain⟨t',rfl⟩:=ry;exact rule i j t t' s _ _ hc ⟨.int (g i j),H,I.tok _,⟨_,rfl⟩,q⟩
theorem Yq0{f:Value->Value->Sem Value}{g:Int->Int->Int}
  (rule:∀(i j:Int) (t u:Tok) (s:Shared) (Q:Value->Shared->Prop) (E:Value->Shared->Prop),Q (.int (g i j) s.toks) { s with toks:=s.toks+1 }->wpAny (model X.prog X.w) X.A (f (.int i t) (.int j u)) Q E s) :
  OpR X f (rI0 λi j=>.int (g i j)):=by
 intro pins s σ H x y v u Q I rx ry h;obtain⟨i,j,rfl,rfl,q⟩:=h;obtain⟨t,rfl⟩:=rx;obtain⟨t',rfl⟩:=ry;exact rule i j t t' s _ _ ⟨.int (g i j),H,I.tok _,⟨_,rfl⟩,q⟩
theorem iu0{f:Value->Value->Sem Value}{g:Int->Int->Bool}
  (rule:∀(i j:Int) (t u:Tok) (s:Shared) (Q:Value->Shared->Prop) (E:Value->Shared->Prop),Q (.bool (g i j)) s->wpAny (model X.prog X.w) X.A (f (.int i t) (.int j u)) Q E s) :
  OpR X f (rI0 λi j=>.bl (g i j)):=by
 intro pins s σ H x y v u Q I rx ry h;obtain⟨i,j,rfl,rfl,q⟩:=h;obtain⟨t,rfl⟩:=rx;obtain⟨t',rfl⟩:=ry;exact rule i j t t' s _ _ ⟨.bl (g i j),H,I,rfl,q⟩
noncomputable def cj0(i j:Int):Prop:=0<j/\j<1073741824
noncomputable def CMul(i j:Int):Prop:=(-(2 ^ 64)<i/\i<2 ^ 64)∨(-(2 ^ 64)<j/\j<2 ^ 64)
theorem CMul.ok{i j:Int}(h:CMul i j):IntMulOk i j:=by
 rcases h with⟨h1,h2⟩|⟨h1,h2⟩
 ·exact .of_left (intBits_le_64 h1 h2)
 ·exact .of_right (intBits_le_64 h1 h2)
theorem Ze0:OpR X (binaryOp .Add) (rI0 λi j=>.int (i+j)):=Yq0 λ_ _ _ _ _ _ _ q=>add_int q
theorem Xd0:OpR X (binaryOp .Sub) (rI0 λi j=>.int (i - j)):=Yq0 λ_ _ _ _ _ _ _ q=>sub_int q
theorem Zq0:OpR X (binaryOp .Mult) (rI CMul λi j=>.int (i*j)):=opI λ_ _ _ _ _ _ _ hc q=>mul_int q hc.ok
theorem ar0:OpR X (binaryOp .FloorDiv) (rI cj0 λi j=>.int (i/j)):=opI λi j _ _ _ _ _ hc q=>by
 have h1:(0:Int)<j:=hc.1;have h2:j<1073741824:=hc.2;exact floordiv_int (by omega) (by rw[Int.fdiv_eq_ediv_of_nonneg i (by omega)];exact q) (.inl (PyProof.noPylong_small (by omega)))
theorem X50:OpR X (binaryOp .Mod) (rI (λ_ j=>0<j) λi j=>.int (i%j)):=opI λi j _ _ _ _ _ hc q=>by
 have h1:(0:Int)<j:=hc;exact mod_int' (by omega) (by rw[Int.fmod_eq_emod_of_nonneg i (by omega)];exact q)
theorem unI{f:Value->Sem Value}{g:Int->Int}
  (rule:∀(i:Int) (t:Tok) (s:Shared) (Q:Value->Shared->Prop) (E:Value->Shared->Prop),Q (.int (g i) s.toks) { s with toks:=s.toks+1 }->wpAny (model X.prog X.w) X.A (f (.int i t)) Q E s) :
  UnR X f (rU λi=>.int (g i)):=by
 intro pins s σ H x v Q I rx h;obtain⟨i,rfl,q⟩:=h;obtain⟨t,rfl⟩:=rx;exact rule i t s _ _ ⟨.int (g i),H,I.tok _,⟨_,rfl⟩,q⟩
theorem fx0:UnR X (unaryOp .USub) (rU λi=>.int (-i)):=unI λ_ _ _ _ _ q=>neg_int q
end
noncomputable def ca0:V->V->Bool
 | .non,.non=>true|.non,.int _=>true|.int _,.non=>true|.non,.bl _=>true|.bl _,.non=>true|.non,.str _=>true|.str _,.non=>true
 | .int _,.int _=>true|.bl _,.bl _=>true|.str _,.str _=>true|.byt _,.byt _=>true
 | .int _,.str _=>true|.str _,.int _=>true|.bl _,.str _=>true|.str _,.bl _=>true
 | _,_=>false
noncomputable def rEq:R2:=λx y H Q=>ca0 x y=true/\Q (.bl (decide (x=y))) H
noncomputable def rNe:R2:=λx y H Q=>ca0 x y=true/\Q (.bl (!decide (x=y))) H
theorem jq0{i j:Int}:decide (V.int i=V.int j)=(i==j):=by
 rw[Bool.eq_iff_iff];simp
theorem fe0{i j:Bool}:decide (V.bl i=V.bl j)=(i==j):=by
 rw[Bool.eq_iff_iff];simp
theorem jw0{i j:Str}:decide (V.str i=V.str j)=(i==j):=by
 rw[Bool.eq_iff_iff];simp
theorem ji0{i j:Array UInt8}:decide (V.byt i=V.byt j)=(i.toList==j.toList):=by
 rw[Bool.eq_iff_iff];cases i;cases j;simp
section
variable{a:Expr}{tc:TE}
theorem W6{σ:St}{s:Shared}{Q:VK}{k k':Bool}(I:Inv X pins σ H s)(q:Q (.bl k) H)(e:k=k'):EP X pins σ Q (.bool k') s:=by
 subst e;exact⟨.bl k,H,I,rfl,q⟩
theorem S6:OpR X (compareOp .Eq) rEq:=by
 intro pins s σ H x y v u Q I rx ry h;obtain⟨hs,q⟩:=h;cases x with
 | non =>
  cases rx;cases y with
  | non=>cases ry;exact PySem.EqNone.eq_none_none (W6 I q (by simp))
  | bl j=>cases ry;exact PySem.EqNone.eq_none_bool (W6 I q (by simp))
  | int j=>obtain⟨t',rfl⟩:=ry;exact PySem.EqNone.eq_none_int (W6 I q (by simp))
  | str j=>obtain⟨t',rfl⟩:=ry;exact PySem.EqNone.eq_none_str (W6 I q (by simp))
  | _=>exact absurd (show false=true from hs) A8
 | bl i =>
  cases rx;cases y with
  | non=>cases ry;exact PySem.EqNone.eq_bool_none (W6 I q (by simp))
  | bl j=>cases ry;exact eq_bool (W6 I q fe0)
  | str j=>obtain⟨t',rfl⟩:=ry;exact PySem.EqMixed.eq_bool_str (W6 I q (by simp))
  | _=>exact absurd (show false=true from hs) A8
 | int i =>
  obtain⟨t,rfl⟩:=rx;cases y with
  | non=>cases ry;exact PySem.EqNone.eq_int_none (W6 I q (by simp))
  | int j=>obtain⟨t',rfl⟩:=ry;exact eq_int (W6 I q jq0)
  | str j=>obtain⟨t',rfl⟩:=ry;exact PySem.EqMixed.eq_int_str (W6 I q (by simp))
  | _=>exact absurd (show false=true from hs) A8
 | str i =>
  obtain⟨t,rfl⟩:=rx;cases y with
  | non=>cases ry;exact PySem.EqNone.eq_str_none (W6 I q (by simp))
  | bl j=>cases ry;exact PySem.EqMixed.eq_str_bool (W6 I q (by simp))
  | int j=>obtain⟨t',rfl⟩:=ry;exact PySem.EqMixed.eq_str_int (W6 I q (by simp))
  | str j=>obtain⟨t',rfl⟩:=ry;exact eq_str (W6 I q jw0)
  | _=>exact absurd (show false=true from hs) A8
 | byt i =>
  obtain⟨t,rfl⟩:=rx;cases y with
  | byt j=>obtain⟨t',rfl⟩:=ry;exact W.eq_bytes (W6 I q ji0)
  | _=>exact absurd (show false=true from hs) A8
 | _=>cases y<;>exact absurd (show false=true from hs) A8
theorem so0:OpR X (compareOp .NotEq) rNe:=by
 intro pins s σ H x y v u Q I rx ry h;obtain⟨hs,q⟩:=h;cases x with
 | non =>
  cases rx;cases y with
  | non=>cases ry;exact PySem.EqNone.ne_none_none (W6 I q (by simp))
  | bl j=>cases ry;exact PySem.EqNone.ne_none_bool (W6 I q (by simp))
  | int j=>obtain⟨t',rfl⟩:=ry;exact PySem.EqNone.ne_none_int (W6 I q (by simp))
  | str j=>obtain⟨t',rfl⟩:=ry;exact PySem.EqNone.ne_none_str (W6 I q (by simp))
  | _=>exact absurd (show false=true from hs) A8
 | bl i =>
  cases rx;cases y with
  | non=>cases ry;exact PySem.EqNone.ne_bool_none (W6 I q (by simp))
  | bl j=>cases ry;exact ne_bool (W6 I q (B7 not fe0))
  | str j=>obtain⟨t',rfl⟩:=ry;exact PySem.EqMixed.ne_bool_str (W6 I q (by simp))
  | _=>exact absurd (show false=true from hs) A8
 | int i =>
  obtain⟨t,rfl⟩:=rx;cases y with
  | non=>cases ry;exact PySem.EqNone.ne_int_none (W6 I q (by simp))
  | int j=>obtain⟨t',rfl⟩:=ry;exact ne_int (W6 I q (B7 not jq0))
  | str j=>obtain⟨t',rfl⟩:=ry;exact PySem.EqMixed.ne_int_str (W6 I q (by simp))
  | _=>exact absurd (show false=true from hs) A8
 | str i =>
  obtain⟨t,rfl⟩:=rx;cases y with
  | non=>cases ry;exact PySem.EqNone.ne_str_none (W6 I q (by simp))
  | bl j=>cases ry;exact PySem.EqMixed.ne_str_bool (W6 I q (by simp))
  | int j=>obtain⟨t',rfl⟩:=ry;exact PySem.EqMixed.ne_str_int (W6 I q (by simp))
  | str j=>obtain⟨t',rfl⟩:=ry;exact ne_str (W6 I q (B7 not jw0))
  | _=>exact absurd (show false=true from hs) A8
 | byt i =>
  obtain⟨t,rfl⟩:=rx;cases y with
  | byt j=>obtain⟨t',rfl⟩:=ry;exact W.ne_bytes (W6 I q (B7 not ji0))
  | _=>exact absurd (show false=true from hs) A8
 | _=>cases y<;>exact absurd (show false=true from hs) A8
theorem ir0:OpR X (compareOp .Lt) (rI0 λi j=>.bl (decide (i<j))):=iu0 λ_ _ _ _ _ _ _ q=>lt_int q
theorem qz0:OpR X (compareOp .LtE) (rI0 λi j=>.bl (decide (i<=j))):=iu0 λ_ _ _ _ _ _ _ q=>le_int q
theorem sp0:OpR X (compareOp .Gt) (rI0 λi j=>.bl (decide (j<i))):=iu0 λ_ _ _ _ _ _ _ q=>gt_int q
theorem cv0:OpR X (compareOp .GtE) (rI0 λi j=>.bl (decide (j<=i))):=iu0 λ_ _ _ _ _ _ _ q=>ge_int q
theorem sk0:OpR X (compareOp .In) (λx y H Q=>∃i j,x=.str i/\y=.str j/\Q (.bl (!(Builtin.Str.occurrences j i 0 j.length 1).isEmpty)) H):=by
 intro pins s σ H x y v u Q I rx ry h;obtain⟨i,j,rfl,rfl,q⟩:=h;obtain⟨t,rfl⟩:=rx;obtain⟨t',rfl⟩:=ry;exact in_str (W6 I q rfl)
theorem uj0:OpR X (compareOp .Is) (λx y H Q=>y=.non/\Q (.bl (decide (x=.non))) H):=by
 intro pins s σ H x y v u Q I rx ry h;obtain⟨rfl,q⟩:=h;cases ry;refine is_none_gen (W6 I q ?_);cases x<;>first
  | (cases rx;rfl)
  | (obtain⟨t,rfl⟩:=rx;rfl)
theorem pn0:OpR X (compareOp .IsNot) (λx y H Q=>y=.non/\Q (.bl (!decide (x=.non))) H):=by
 intro pins s σ H x y v u Q I rx ry h;obtain⟨rfl,q⟩:=h;cases ry;refine isnot_none_gen (W6 I q ?_);cases x<;>first
  | (cases rx;rfl)
  | (obtain⟨t,rfl⟩:=rx;rfl)
theorem y90:OpR X (compareOp .NotIn) (λx y H Q=>∃i j,x=.str i/\y=.str j/\Q (.bl (!(!(Builtin.Str.occurrences j i 0 j.length 1).isEmpty))) H):=by
 intro pins s σ H x y v u Q I rx ry h;obtain⟨i,j,rfl,rfl,q⟩:=h;obtain⟨t,rfl⟩:=rx;obtain⟨t',rfl⟩:=ry;exact notIn_str (W6 I q rfl)
theorem OpR.or{f:Value->Value->Sem Value}{r r':R2}(h:OpR X f r)(h':OpR X f r'):OpR X f (λx y H Q=>r x y H Q∨r' x y H Q):=by
 intro pins s σ H x y v u Q I rx ry q;rcases q with q|q
 ·exact h pins s σ H x y v u Q I rx ry q
 ·exact h' pins s σ H x y v u Q I rx ry q
theorem ge0(b:Expr){op:CmpOp}(h:op≠.In:=by decide)(h2:op≠.NotIn:=by decide):behindInMarks op b=false:=by
 have e1:(op==CmpOp.In)=false:=by cases op<;>first|rfl|exact absurd rfl h
 have e2:(op==CmpOp.NotIn)=false:=by cases op<;>first|rfl|exact absurd rfl h2
 cases b<;>simp[behindInMarks,e1,e2]
theorem Z70{op:CmpOp}{r:R2}(ho:OpR X (compareOp op) r)(ha:PE X a ta)(hb:PE X b tb)(hm:behindInMarks op b=false):PE X (.Compare a [op] [b] pos) (tOp r ta tb):=by
 intro pins s σ H Q I h;exact wpAny_Compare1 (cc0 ha hb I h λv u s2 x y H2 I2 rx ry q=>ho pins s2 σ H2 x y v u Q I2 rx ry q) hm
noncomputable def Wb0(t:TE):TT:=fun σ H Q=>t σ H λx H'=>∃k,x=.bl k/\Q k H'
theorem bq0{op:CmpOp}{r:R2}(ho:OpR X (compareOp op) r)(ha:PE X a ta)(hb:PE X b tb)(hm:behindInMarks op b=false):PT X (.Compare a [op] [b] pos) (Wb0 (tOp r ta tb)):=by
 intro pins s σ H Q I h;refine wpAny_isTrue_Compare1 (thn (ha pins s σ H _ I h) λv s1 ⟨x,H1,I1,r1,q1⟩=>thn (hb pins s1 σ H1 _ I1 q1) λu s2 ⟨y,H2,I2,r2,q2⟩ =>
  thn (ho pins s2 σ H2 x y v u _ I2 r1 r2 q2) λc s3 ⟨z,H3,I3,r3,k,e,q3⟩=>?_) hm
 subst e;cases r3;exact E6 ⟨H3,I3,q3⟩
noncomputable def ga0(r r':R2)(ta tb tc:TE):TE:=fun σ H Q=>ta σ H λx H1=>tb σ H1 λy H2=>r x y H2 λz H3=>∃k,z=.bl k /\
 (if k=true then tc σ H3 λw' H4=>r' y w' H4 Q else Q (.bl false) H3)
theorem eq0{op op':CmpOp}{r r':R2}(ho:OpR X (compareOp op) r)(ho':OpR X (compareOp op') r')(ha:PE X a ta)(hb:PE X b tb)(hc:PE X c tc)
  (hm:lastMarks [op,op'] [b,c]=false:=by with_unfolding_all rfl):PE X (.Compare a [op,op'] [b,c] pos) (ga0 r r' ta tb tc):=by
 intro pins s σ H Q I h;refine Compare_chain (thn (ha pins s σ H _ I h) λv s1 ⟨x,H1,I1,r1,q1⟩=>chain_link (thn (hb pins s1 σ H1 _ I1 q1) λu s2 ⟨y,H2,I2,r2,q2⟩ =>
  thn (ho pins s2 σ H2 x y v u _ I2 r1 r2 q2) λd s3 ⟨z,H3,I3,r3,k,e,q3⟩=>?_)) hm
 subst e;cases r3;refine E6 ?_;cases k with
 | false=>exact ite_ff ⟨.bl false,H3,I3,rfl,q3⟩
 | true=>exact ite_tt (chain_last (thn (hc pins s3 σ H3 _ I3 q3) λw' s4 ⟨z',H4,I4,r4,q4⟩=>ho' pins s4 σ H4 y z' u w' Q I4 r2 r4 q4))
theorem uh0:(sizeLine:Nat)<2 ^ 63:=by rw[sizeLine_eq];decide
theorem iz0:OpR X (binaryOp .Add) (λx y H Q=>∃i j,x=.str i/\y=.str j/\i.length+j.length<=sizeLine/\Q (.str (i++j)) H):=by
 intro pins s σ H x y v u Q I rx ry h;obtain⟨i,j,rfl,rfl,hz,q⟩:=h;obtain⟨t,rfl⟩:=rx;obtain⟨t',rfl⟩:=ry;exact add_str (λt' tk=>⟨.str (i++j),H,I.tok _,⟨_,rfl⟩,q⟩) hz
theorem vals1{x:V}(r:Vals [x] us):∃u,us=[u]/\RelV x u:=by
 cases r with
 | cons r1 r2=>cases r2;exact⟨_,rfl,r1⟩
theorem vn0:CallR X (.type "int") (λxs H Q=>(∃i,xs=[.int i]/\Q (.int i) H)∨∃k,xs=[.bl k]/\Q (.int (if k then 1 else 0)) H):=by
 intro pins s σ H xs us Q I r h;rcases h with⟨i,rfl,q⟩|⟨k,rfl,q⟩
 ·obtain⟨u,rfl,t,rfl⟩:=vals1 r
  exact call_int_int ⟨.int i,H,I,⟨_,rfl⟩,q⟩
 ·obtain⟨u,rfl,r1⟩:=vals1 r
  cases r1;exact call_int_bool ⟨.int (if k then 1 else 0),H,I.tok _,⟨_,rfl⟩,q⟩
theorem yy0:CallR X (.type "str") (λxs H Q=>∃i,xs=[.int i]/\i.natAbs.log2<1920/\Q (.str (toString i)) H):=by
 intro pins s σ H xs us Q I r h;obtain⟨i,rfl,hz,q⟩:=h;obtain⟨u,rfl,t,rfl⟩:=vals1 r;exact PySem.P.str_of_int hz ⟨.str _,H,I.tok _,⟨_,rfl⟩,q⟩
end
structure Room(k:Nat)(A:Around):Prop where
 hd:A.handled=none
 dp:A.depth+3*k+5<recursionLimit
 un:A.units+16*k+200<cLine
theorem Room.mono(r:Room k A)(h:j<=k):Room j A:=⟨r.hd,by have:=r.dp;omega,by have:=r.un;omega⟩
theorem Room.deeper(r:Room (k+1) A)(env:Env):Room k (A.deeper env) :=
 ⟨r.hd,by have:=r.dp;show A.depth+1+3*k+5<_;omega,by have:=r.un;show A.units+3+16*k+200<_;omega⟩
theorem Room.depth(r:Room k A):A.depth<recursionLimit:=by have:=r.dp;omega
theorem Room.units(r:Room k A):A.units+64<cLine:=by have:=r.un;omega
noncomputable def Zu0:TA:=λ_ H Q=>Q [] H
noncomputable def Xv0(ta:TE)(tr:TA):TA:=fun σ H Q=>ta σ H λx H1=>tr σ H1 λxs H2=>Q (x::xs) H2
theorem yw0:PA X [] Zu0:=λ_ _ _ _ H Q I h=>P2 ⟨[],H,I,.nil,h⟩
theorem J9(ha:PE X e te)(hr:PA X es t)(hs:starEach (e::es) X.env=(false,eval e X.env)::starEach es X.env:=by rfl):PA X (e::es) (Xv0 te t):=by
 intro pos pins s σ H Q I h;rw[hs];show wpAny _ _ (spliced ((false,eval e X.env)::backTo pos (starEach es X.env))) _ _ s;refine P3 (thn (ha pins s σ H _ I h) λu s1 ⟨x,H1,I1,r1,q1⟩=>?_);exact thn (hr pos pins s1 σ H1 _ I1 q1) λus s2 ⟨xs,H2,I2,r2,q2⟩=>⟨x::xs,H2,I2,.cons r1 r2,q2⟩
noncomputable def V20(t:TA):TE:=fun σ H Q=>t σ H λxs H1=>xs.length<=sizeLine/\∀p,H1 p=none->Q (.ref p) (upd H1 p (.tup xs))
noncomputable def Wv0(t:TA):TE:=fun σ H Q=>t σ H λxs H1=>xs.length<=sizeLine/\∀p,H1 p=none->Q (.ref p) (upd H1 p (.lst xs))
theorem ll0{x1}(h:PA X es t):PE X (.Tuple es x1 pos) (V20 t):=by
 intro pins s σ H Q I hq;refine wpAny_Tuple_spliced (thn (h pos pins s σ H _ I hq) λus s1 ⟨xs,H1,I1,r,z,q⟩=>⟨by rw[← r.length];exact z,?_⟩);have hf:H1 s1.heap.objs.size=none:=I1.hok.fresh (A1 _);refine⟨.ref s1.heap.objs.size,upd H1 s1.heap.objs.size (.tup xs),I1.laid (t':=s1.toks) (λb u e=>B0 _ e) (A1 _) ?_,rfl,q _ hf⟩;exact⟨z,us,r,⟨_,C6 _ rfl,rfl,_,rfl,rfl⟩⟩
theorem gz0(h:PA X es t):PE X (.List es pos) (Wv0 t):=by
 intro pins s σ H Q I hq;refine wpAny_List_spliced (thn (h pos pins s σ H _ I hq) λus s1 ⟨xs,H1,I1,r,z,q⟩=>⟨by rw[← r.length];exact z,?_⟩);have hf:H1 s1.heap.objs.size=none:=I1.hok.fresh (A1 _);refine⟨.ref s1.heap.objs.size,upd H1 s1.heap.objs.size (.lst xs),I1.laid (t':=s1.toks) (λb u e=>B0 _ e) (A1 _) ?_,rfl,q _ hf⟩;exact⟨z,us,0,r,C6 _ rfl⟩
abbrev Sp:=List V->Hp->VK->XK->Prop
abbrev CXT:=List Env->Hp->Shared->XK->Value->Shared->Prop
variable{sp:L2.Sp}
structure Env0(P:Program)(w:World)(K:W.Frag)(mg:Str->Option Value)(base:Heap)(A:Around)(outer:List Env)(s:Shared)(H:Hp):Prop where
 frames:A.frames=some outer
 mod:Mod K mg base
 bs:∀b o,base.get? b=some o->s.heap.get? b=some o/\H b=none
 bsz:base.objs.size<=s.heap.objs.size
 funs:s.heap.FunFrames base outer
 frf:∀b∈frs outer,H b=none
 hok:HOk P w H s.heap
 bare:AllBare s.gens
variable{CX:L2.CXT}
noncomputable def CE(outer:List Env)(P:Program)(w:World)(H:Hp)(s:Shared)(Q:VK)(u:Value)(s':Shared):Prop :=
 ∃v H',s'.os=s.os/\AllBare s'.gens/\Un (frs outer) [] H H' s.heap s'.heap/\HOk P w H' s'.heap/\RelV v u/\Q v H'
noncomputable def CR(CX:CXT)(outer:List Env)(P:Program)(w:World)(H:Hp)(s:Shared)(Q:VK)(E:XK)(r:Result)(s':Shared):Prop :=
 match r with
 | .ok (.ret u)=>CE outer P w H s Q u s'
 | .ok _=>False
 | .error e=>CX outer H s E e s'
structure FnOk(P:Program)(w:World)(K:W.Frag)(mg:Str->Option Value)(base:Heap)(CX:CXT)(k:Nat)(f:Addr)(fd:FuncData)(ps:List Str)(sp:Sp):Prop where
 len:∀vs H Q E,sp vs H Q E->vs.length=ps.length
 run:∀(A:Around) (outer:List Env) (s:Shared) (H:Hp) (args:Args) (us:List Value) (vs:List V) (Q:VK) (E:XK),Room k A->Env0 P w K mg base A outer s H->BindsTo s fd args (ps.zip us)->Vals vs us->sp vs H Q E ->
  codeAny (model P w) A (.call (.ref f) args) (CR CX outer P w H s Q E) s
section
variable{σ:St}{s:Shared}
theorem Inv.env0(I:Inv X pins σ H s):Env0 X.prog X.w X.K X.mg X.base X.A X.stack s H :=
 ⟨I.ok.frames,I.ok.mod,I.bs,A9 I.ok.bsz I.sz,I.stack,I.stkFree,I.hok,I.bare⟩
theorem Inv.after{Q:VK}(I:Inv X pins σ H s)(h:CE X.stack X.prog X.w H s Q u s'):EP X pins σ Q u s':=by
 obtain⟨v,H',os,bare,un,hok,r,q⟩:=h;obtain⟨hh,g,d,t,O⟩:=s';obtain rfl:O=s.os:=os;exact⟨v,H',I.call (h':=hh) (g':=g) (d':=d) (t':=t) (ch:=[]) un hok bare (λb z=>absurd z (by simp)),r,q⟩
end
noncomputable def cp0(sp:Sp)(dvs:List V)(E:XK)(t:TA):TE:=fun σ H Q=>t σ H λvs H1=>sp (vs++dvs) H1 Q E
noncomputable def Binds(K:W.Frag)(fd:FuncData)(ps:List Str)(ds:List Value):Prop :=
 ∀(s:Shared) (us:List Value),K.In s.heap->(us++ds).length=ps.length->BindsTo s fd ⟨us,[]⟩ (ps.zip (us++ds))
theorem Binds.all(h:∀us:List Value,us.length=ps.length->bindArgs fd ⟨us,[]⟩=pure (ps.zip us)):Binds K fd ps []:=λs us _ hl=>by
 rw[List.append_nil] at hl ⊢;exact .of_eq (h us hl)
noncomputable def pf0(CX:CXT)(X:Cx)(E:XK):Prop:=∀(pins:List (Addr×Obj)) (σ:St) (H:Hp) (s:Shared) (e:Value) (s':Shared),Inv X pins σ H s->CX X.stack H s E e s'->X.xe e s'
section
variable{f C:Addr}{dvs:List V}{ds:List Value}{E:XK}{m:Str}
theorem ec0{pins:List (Addr×Obj)}{σ:St}{H:Hp}{s:Shared}{Q:VK}{us:List Value}{vs:List V}(F:FnOk X.prog X.w X.K X.mg X.base CX k f fd ps sp)(hr:Room k X.A)(hb:Binds X.K fd ps ds)(hd:Vals dvs ds)(hx:pf0 CX X E)
  (I:Inv X pins σ H s) (r:Vals vs us) (h:sp (vs++dvs) H Q E):wpAny (model X.prog X.w) X.A (call (.ref f) us) (EP X pins σ Q) X.xe s:=by
 have r2:Vals (vs++dvs) (us++ds):=r.append hd;have hl:(us++ds).length=ps.length:=by rw[← r2.length];exact F.len _ _ _ _ h
 refine wpAny_call (E9 (F.run X.A X.stack s H ⟨us,[]⟩ (us++ds) (vs++dvs) Q E hr I.env0 (hb s us I.kIn hl) r2 h) λr s' hq=>?_);cases r with
 | error e=>exact hx pins σ H s e s' I hq
 | ok fl =>
  cases fl with
  | ret u=>exact I.after hq
  | next=>exact False.elim hq
  | brk=>exact False.elim hq
  | cont=>exact False.elim hq
theorem al0(F:FnOk X.prog X.w X.K X.mg X.base CX k f fd ps sp)(hr:Room k X.A)(hg:Gl X x)(hm:X.mg x=some (.ref f))(hk:W.keepIn X.K (.ref f)=true)(hb:Binds X.K fd ps ds)(hd:Vals dvs ds)(hx:pf0 CX X E)
  (ha:PA X (e::es) t) (hdb:(x==("__debug__" : Str))=false:=by decide) (he:starEach (e::es) X.env=(false,eval e X.env)::starEach es X.env:=by rfl) (hpl:(backTo pos (starEach es X.env)).any (·.1)=false:=by rfl) :
  PE X (.Call (.Name x p) (e::es) [] pos) (cp0 sp dvs E t):=by
 intro pins s σ H Q I h;refine G0 (xy0 I hg hm ?_ hdb);refine W.callWith_K (h₀:=X.base) I.ok.mod.kin hk (thn (ha pos pins s σ H _ I h) λus s1 ⟨vs,H1,I1,r,q⟩=>⟨I1.kIn,?_⟩) he hpl;exact ec0 F hr hb hd hx I1 r q
theorem dr0(F:FnOk X.prog X.w X.K X.mg X.base CX k f fd ps sp)(hr:Room k X.A)(hg:Gl X x)(hm:X.mg x=some (.ref f))(hk:W.keepIn X.K (.ref f)=true)(hb:Binds X.K fd ps ds)(hd:Vals dvs ds)(hx:pf0 CX X E)
  (hdb:(x==("__debug__" : Str))=false:=by decide):PE X (.Call (.Name x p) [] [] pos) (cp0 sp dvs E Zu0):=by
 intro pins s σ H Q I h;refine G0 (xy0 I hg hm ?_ hdb);exact W.callWith_K0 I.kIn hk (ec0 (us:=[]) F hr hb hd hx I .nil h)
end
structure FnScope(N P:List Str)(sc:Scope):Prop where
 kind:sc.kind=.function
 co:sc.isCoroutine=false
 gen:sc.isGenerator=false
 nd:N.Nodup
 pre:N.take P.length=P
 par:∀x∈P,sc.names.lookup x=some .local∨sc.names.lookup x=some .cell
 nofree:∀y∈sc.names,y.2≠.free
theorem ol0{kindOf:Str->Option NameKind}:∀{binds:List (Str×Value)} {m:Str->Option Value},(∀v,(x,v)∉binds)->bindL kindOf binds m x=m x
 | [],_,_=>rfl
 | (n,v)::r,m,h=>by
  unfold bindL;rw[ol0 λw hw=>h w (A7 _ hw)];split
  ·have:x≠n:=by rintro rfl;exact h v A5
   simp[this]
  ·rfl
theorem n70{kindOf:Str->Option NameKind}:∀{binds:List (Str×Value)} {m:Str->Option Value},(∀v,(x,v)∉binds)->bindC kindOf binds m x=m x
 | [],_,_=>rfl
 | (n,v)::r,m,h=>by
  unfold bindC;rw[n70 λw hw=>h w (A7 _ hw)];split
  ·rfl
  ·have:x≠n:=by rintro rfl;exact h v A5
   simp[this]
theorem nh0{kindOf:Str->Option NameKind}:∀{P:List Str} {vs:List Value} {i:Nat} {m:Str->Option Value},P.Nodup->P[i]?=some x->vs[i]?=some v->kindOf x=some .local ->
  bindL kindOf (P.zip vs) m x=some v
 | [],_,_,_,_,h,_,_=>by simp at h
 | _::_,[],_,_,_,_,h,_=>by simp at h
 | p::P,w::vs,0,m,nd,h1,h2,hk=>by
  simp at h1 h2;subst h1;subst h2;show bindL kindOf ((p,w)::P.zip vs) m p=_;unfold bindL;rw[ol0 λv hv=>(H0.mp nd).1 (Y2 hv).1,if_pos hk];simp
 | p::P,w::vs,i+1,m,nd,h1,h2,hk=>by
  show bindL kindOf ((p,w)::P.zip vs) m x=_;unfold bindL;exact nh0 (i:=i) (H0.mp nd).2 (by simpa using h1) (by simpa using h2) hk
theorem na0{kindOf:Str->Option NameKind}:∀{P:List Str} {vs:List Value} {i:Nat} {m:Str->Option Value},P.Nodup->P[i]?=some x->vs[i]?=some v->kindOf x≠some .local ->
  bindC kindOf (P.zip vs) m x=some v
 | [],_,_,_,_,h,_,_=>by simp at h
 | _::_,[],_,_,_,_,h,_=>by simp at h
 | p::P,w::vs,0,m,nd,h1,h2,hk=>by
  simp at h1 h2;subst h1;subst h2;show bindC kindOf ((p,w)::P.zip vs) m p=_;unfold bindC;rw[n70 λv hv=>(H0.mp nd).1 (Y2 hv).1,if_neg hk];simp
 | p::P,w::vs,i+1,m,nd,h1,h2,hk=>by
  show bindC kindOf ((p,w)::P.zip vs) m x=_;unfold bindC;exact na0 (i:=i) (H0.mp nd).2 (by simpa using h1) (by simpa using h2) hk
noncomputable def start(N:List Str)(vs:List V):St:=vs.map some++List.replicate (N.length - vs.length) none
noncomputable def sa0(CX:CXT)(P:Program)(w:World)(K:W.Frag)(mg:Str->Option Value)(base:Heap)(N:List Str)(qual:Str)(scope:Scope)(f:Addr)(cd:Value)(A:Around)(outer:List Env)(s:Shared)(H:Hp)(E:XK):Cx where
 prog:=P
 w:=w
 K:=K
 mg:=mg
 base:=base
 A:=A.deeper (envOfC qual scope s.heap.objs.size f cd)
 N:=N
 s₀:=s
 H₀:=H
 env:=envOfC qual scope s.heap.objs.size f cd
 outer:=outer
 stack:=envOfC qual scope s.heap.objs.size f cd::outer
 ex:=[]
 calm:=true
 fn:=λ_=>true
 pn:=[]
 xe:=λe s'=>wpAny (model P w) (A.deeper (envOfC qual scope s.heap.objs.size f cd)) (leaving (envOfC qual scope s.heap.objs.size f cd) e) (λ_ s''=>CX outer H s E e s'') (λe' s''=>CX outer H s E e' s'') s'
theorem k40(h:sc.names.lookup x=some .cell):∃c,(cellsFrom n sc.names []).lookup x=some c:=by
 have q:=W.cellsFrom_some sc.names n [] (.inl h);exact Option.isSome_iff_exists.mp q
theorem gn0{CX:CXT}{P:Program}{w:World}{K:W.Frag}{mg:Str->Option Value}{base:Heap}{N ps:List Str}{qual:Str}{scope:Scope}{f:Addr}{cd:Value}{A:Around}{outer:List Env}{s s1:Shared}{H:Hp}{E:XK}{us:List Value}{vs:List V}
  (S:FnScope N ps scope) (hd:A.handled=none) (e0:Env0 P w K mg base A outer s H) (hl:vs.length=ps.length) (r:Vals vs us)
  (x:InCallC s s.heap.objs.size (bindL (envOfC qual scope s.heap.objs.size f cd).kindOf (ps.zip us) λ_=>none) (cellsFrom (s.heap.objs.size+1) scope.names []) (bindC (envOfC qual scope s.heap.objs.size f cd).kindOf (ps.zip us) λ_=>none) s1) :
  Inv (sa0 CX P w K mg base N qual scope f cd A outer s H E) [] (start N vs) H s1:=by
 have Y:ps.length<=N.length:=by have:=B7 List.length S.pre;rw[List.length_take] at this;omega
 obtain⟨h1,tk,rfl,hk⟩:=x.done;have O:∀b:Addr,b∉(sa0 CX P w K mg base N qual scope f cd A outer s H E).ex:=λb z=>absurd (show b∈([]:List Addr) from z) (by simp)
 refine⟨⟨e0.mod,S.kind,rfl,rfl,A1 _,λy z c h1 h2=>?_,λy hy=>?_,λy c _ h=>?_,λ_=>hd,Around.frames_deeper e0.frames,.inr ⟨rfl,rfl⟩,λb z=>absurd z (O b),e0.bs,e0.bsz,λb _ _=>O b,λb z=>absurd z (O b),e0.funs,e0.frf⟩,
  rfl,e0.bare,Un.kept hk,⟨_,x.toInCall.ns,λi y v h1 h2 h3=>?_⟩,λy c h=>⟨_,x.cell y c h⟩,e0.hok.fresh (A1 _),λy c h=>?_,λp hp=>absurd (show p∈([]:List (Addr×Obj)) from hp) (by simp),e0.hok.kept hk,?_⟩
 ·exact name_of_addr x.apart (C8 h1) (C8 h2)
 ·have hy:scope.names.lookup y=some .cell∨scope.names.lookup y=some .free:=hy
  rcases hy with hy|hy
  ·exact k40 hy
  ·exact absurd rfl (S.nofree _ (C8 hy))
 ·exact U2 (x.above y c (C8 h))
 ·have hi:i<vs.length:=by
   unfold start at h2
   by_cases hi:i<vs.length
   ·exact hi
   ·rw[List.getElem?_append_right (by simpa using hi)] at h2
    rw[List.getElem?_replicate] at h2;split at h2<;>cases h2
  have ha:vs[i]?=some v:=by
   unfold start at h2;rw[List.getElem?_append_left (by simpa using hi),List.getElem?_map] at h2;cases e:vs[i]? with
   | none=>rw[e] at h2;cases h2
   | some a=>rw[e] at h2;cases h2;rfl
  obtain⟨u,hu,rv⟩:=r.get ha;have hp:ps[i]?=some y:=by
   rw[← S.pre,List.getElem?_take_of_lt (by omega)];exact h1
  have U:ps.Nodup:=by rw[← S.pre];exact S.nd.sublist (List.take_sublist _ _)
  refine⟨u,rv,?_⟩;rcases S.par y (L7 hp) with k|k
  ·exact .inl ⟨k,nh0 U hp hu k⟩
  ·obtain⟨c,e⟩:=k40 (n:=s.heap.objs.size+1) k
   refine .inr ⟨.inl k,c,e,?_⟩;have q:=x.cell y c e;rw[na0 U hp hu (by show scope.names.lookup y≠_;rw[k];decide)] at q;exact q
 ·exact e0.hok.fresh (U2 (x.above y c (C8 h)))
 ·unfold start
  show _=N.length;rw[List.length_append,List.length_map,List.length_replicate];omega
theorem co0{CX:CXT}{P:Program}{w:World}{K:W.Frag}{mg:Str->Option Value}{base:Heap}{k:Nat}{f:Addr}{name qual:Str}{params:Arguments}{body:List Stmt}{scope:Scope}{dV kV doc pm cdv ct oc:Value}{an od:Option Addr}
  {osl:Array (Option Value)} {N ps:List Str} {sp:Sp} (lk:K.lookup f=some ⟨oc,od,.func (W.fnOf name qual params body scope dV kV doc pm an cdv ct),osl⟩) (hcd:W.codeIn K cdv qual=true) (S:FnScope N ps scope)
  (len:∀vs H Q E,sp vs H Q E->vs.length=ps.length)
  (hbody:∀(A:Around) (outer:List Env) (s:Shared) (H:Hp) (vs:List V) (Q:VK) (E:XK),Room k (A.deeper (envOfC qual scope s.heap.objs.size f cdv))->sp vs H Q E ->
   ∃t,PSs (sa0 CX P w K mg base N qual scope f cdv A outer s H E) body t/\t { nx:=λ_ H'=>Q .non H',rt:=Q } (start N vs) H) :
  FnOk P w K mg base CX (k+1) f (W.fnOf name qual params body scope dV kV doc pm an cdv ct) ps sp:=by
 refine⟨len,λA outer s H a0 us vs Q E hr e0 hb r Y=>?_⟩;have hl:=len _ _ _ _ Y;have KX:K.In s.heap:=e0.mod.kin.keeps λb o e=>(e0.bs b o e).1
 have Z:s.heap.NoLimit:=e0.mod.nolimit.keeps λb o e=>(e0.bs b o e).1
 have O:∀y∈ps.zip us,scope.names.lookup y.1=some .local∨(scope.names.lookup y.1=some .cell/\((cellsFrom (s.heap.objs.size+1) scope.names []).lookup y.1).isSome=true):=λ⟨n,v⟩ hy=>by
  rcases S.par n (Y2 hy).1 with q|q
  ·exact .inl q
  ·exact .inr ⟨q,W.cellsFrom_some _ _ _ (.inl q)⟩
 refine codeAny_call_function hr.depth (KX _ _ lk) rfl S.co S.gen rfl (W.codeRec_of KX hcd) (hb _ _ _ _ ?_);refine wpAny_newFunctionEnv_cells S.kind O λenv he s1 x=>?_
 subst he;refine⟨Z.keeps x.toInCall.keep,codeAny_func ?_⟩;obtain⟨t,ht,hq⟩:=hbody A outer s H vs Q E (hr.deeper _) Y;have I:Inv (sa0 CX P w K mg base N qual scope f cdv A outer s H E) [] (start N vs) H s1:=gn0 S hr.hd e0 hl r x;refine B8 (ht [] s1 (start N vs) H _ I hq) (λfl s' hs=>?_) λe s' hs=>hs
 have U:∀{σ':St} {H':Hp} {v:V} {u:Value},Inv (sa0 CX P w K mg base N qual scope f cdv A outer s H E) [] σ' H' s'->RelV v u->Q v H'->CE outer P w H s Q u s' :=
  λ{σ' H' v u} J rv q=>⟨v,H',J.os,J.bare,J.base,J.hok,rv,q⟩
 cases fl with
 | ret u =>
  obtain⟨v,σ',H',J,rv,q⟩:=hs;exact U J rv q
 | next =>
  obtain⟨σ',H',J,q⟩:=hs;exact U (v:=V.non) (u:=Value.none) J rfl q
 | brk =>
  obtain⟨_,_,_,q⟩:=hs;exact False.elim q
 | cont =>
  obtain⟨_,_,_,q⟩:=hs;exact False.elim q
section
variable{id T:String}
noncomputable def tCB(r:List V->Hp->VK->Prop)(t:TA):TE:=fun σ H Q=>t σ H λvs H1=>r vs H1 Q
theorem v60(hc:CallR X (.builtin id) r)(hg:Gl X x)(hm:X.mg x=none)(hv:bootBuiltins x=some (.builtin id))(ha:PA X (e::es) t)(hn:x ≠"__name__" := by decide)(hdb:(x==("__debug__" : Str))=false:=by decide)
  (he:starEach (e::es) X.env=(false,eval e X.env)::starEach es X.env:=by rfl) (hpl:(backTo pos (starEach es X.env)).any (·.1)=false:=by rfl):PE X (.Call (.Name x p) (e::es) [] pos) (tCB r t):=by
 intro pins s σ H Q I h;refine G0 (vc0 I hg hm hv ?_ hn hdb);exact v0 (thn (ha pos pins s σ H _ I h) λus s1 ⟨vs,H1,I1,r1,q1⟩=>hc pins s1 σ H1 vs us Q I1 r1 q1) he hpl
theorem oz0(hc:CallR X (.type T) r)(hg:Gl X x)(hm:X.mg x=none)(hv:bootBuiltins x=some (.type T))(ha:PA X (e::es) t)(hn:x ≠"__name__" := by decide)(hdb:(x==("__debug__" : Str))=false:=by decide)
  (he:starEach (e::es) X.env=(false,eval e X.env)::starEach es X.env:=by rfl) (hpl:(backTo pos (starEach es X.env)).any (·.1)=false:=by rfl):PE X (.Call (.Name x p) (e::es) [] pos) (tCB r t):=by
 intro pins s σ H Q I h;refine G0 (vc0 I hg hm hv ?_ hn hdb);exact X9 (thn (ha pos pins s σ H _ I h) λus s1 ⟨vs,H1,I1,r1,q1⟩=>hc pins s1 σ H1 vs us Q I1 r1 q1) he hpl
end
end L2
variable{t:L2.TA}{r:List L2.V->L2.Hp->L2.VK->Prop}{xs:List L2.V}{H H' H1 H2 H₀:L2.Hp}{X:L2.Cx}{σ:List (Option L2.V)}{ta tb te td ty:L2.TE}{wi:L2.TI}{CX:L2.CXT}{sp:L2.Sp}{tt:L2.TT}{J:L2.It}{kvs:List (L2.Key×L2.V)}
namespace HT
open PyProof.Rows
section
variable{w:World}{s:Shared}
theorem b90{t b:Addr}{vs ws:List Value}{Q:Value->Shared->Prop}(ht:IsTup s.heap t vs.toArray)(hb:IsTup s.heap b ws.toArray)(hv:vs≠[])
  (h1:ws=[]->Q (.ref t) s) (h2:ws≠[]->Q (.ref s.heap.objs.size) { s with heap:=s.heap.push { cls:=.type "tuple",data:=.seq (vs++ws).toArray } })
  (hsz:vs.length+ws.length<=sizeLine):wpAny (model prog w) A (binaryOp .Add (.ref t) (.ref b)) Q E s:=by
 obtain⟨⟨cls,dd,data,sl⟩,ho,hc,n,hd⟩:=id ht;obtain⟨⟨a0,Y,data2,S⟩,O,U,n2,Z⟩:=id hb;simp only at hc hd U Z;subst hc hd U Z;have e:vs.toArray++ws.toArray=(vs++ws).toArray:=by simp
 by_cases hw:ws=[]
 ·exact P4 ⟨_,ho,rfl⟩ ⟨_,O,rfl⟩ Y3 b3 b4 b5 (b6 _ _)
   (tuple_addW1 t b vs.toArray ws.toArray n n2 dd Y sl S (by simpa using hv) (by simp[hw])) ⟨ho,O,h1 hw⟩
 ·refine P4 ⟨_,ho,rfl⟩ ⟨_,O,rfl⟩ Y3 b3 b4 b5 (b6 _ _)
   (tuple_addW2 t b vs.toArray ws.toArray n n2 dd Y sl S (by simpa using hv) (by simpa using hw) (by rw[List.size_toArray,List.size_toArray];exact hsz)) ⟨ho,O,?_⟩
  rw[e];exact h2 hw
noncomputable def sIx(n d:Nat):Option Int->Nat
 | none=>d
 | some v=>if v<0 then (v+(n:Int)).toNat else min v.toNat n
theorem Zx0(n d:Nat)(hd:d<=n)(o:Option Int):sIx n d o<=n:=by
 cases o with
 | none=>exact hd
 | some v =>
  show (if v<0 then (v+(n:Int)).toNat else min v.toNat n)<=n
  by_cases hv:v<0
  ·rw[if_pos hv];omega
  ·rw[if_neg hv];exact Nat.min_le_right _ _
theorem jz0(v:Int)(n d:Nat):(if v<0 then max (v+(n:Int)) 0 else min v (n:Int))=((sIx n d (some v):Nat):Int):=by
 show (if v<0 then max (v+(n:Int)) 0 else min v (n:Int))=(((if v<0 then (v+(n:Int)).toNat else min v.toNat n):Nat):Int)
 by_cases hv:v<0
 ·simp only[if_pos hv];omega
 ·simp only[if_neg hv];omega
theorem ik0(lo hi:Option Int)(n:Nat):Builtin.Slice.sliceAdjust lo hi 1 (n:Int)=(((sIx n 0 lo:Nat):Int),((sIx n n hi:Nat):Int)):=by
 have h1:¬((1:Int)<0):=by omega
 unfold Builtin.Slice.sliceAdjust;simp only[h1,if_false];refine Prod.ext ?_ ?_
 ·cases lo with
  | none=>rfl
  | some v=>exact jz0 v n 0
 ·cases hi with
  | none=>rfl
  | some v=>exact jz0 v n n
theorem il0(i j:Nat):Builtin.Slice.slicePlaces (i:Int) (j:Int) 1=j - i:=by
 unfold Builtin.Slice.slicePlaces;have h1:(1:Int) > 0:=by omega
 simp only[h1,if_true,Int.ediv_one];split<;>omega
theorem pg0{o:Option Int}{Q:Option Int->Shared->Prop}(p:IsPart v o)(h:Q o s):wpAny (model prog w) A (Builtin.Slice.slicePartIndex v) Q E s:=by
 cases p with
 | none=>exact slicePart_none h
 | int i t=>exact slicePart_int h
theorem vk0{n:Nat}{Q:Int×Int×Nat->Shared->Prop}(hs:s.heap.IsSliceOf sl vl vu .none)(pl:IsPart vl lo)(pu:IsPart vu hi)
  (h:Q (((sIx n 0 lo:Nat):Int),1,sIx n n hi - sIx n 0 lo) s):wpAny (model prog w) A (Builtin.Slice.sliceApplied (.ref sl) (pure (n:Int))) Q E s:=by
 obtain⟨os,S,U,O⟩:=id hs;unfold Builtin.Slice.sliceApplied Builtin.Slice.sliceFields;refine A0 (A0 (D5 S O (x:=vl) rfl (A0 (D5 S O (x:=vu) rfl (A0 (D5 S O (x:=.none) rfl (A3 ?_)))))));refine A0 (slicePart_none ?_);show wpAny _ _ (if ((1:Int)==0)=true then _ else _) _ _ s;rw[if_neg (by decide)];refine A0 (pg0 pl (A0 (pg0 pu (A0 (A3 ?_)))));show wpAny _ _ (match Builtin.Slice.sliceAdjust lo hi 1 (n:Int) with|(lo,hi)=>pure (lo,(1:Int),Builtin.Slice.slicePlaces lo hi 1)) _ _ s;rw[ik0 lo hi n];show wpAny _ _ (pure (((sIx n 0 lo:Nat):Int),(1:Int),Builtin.Slice.slicePlaces ((sIx n 0 lo:Nat):Int) ((sIx n n hi:Nat):Int) 1)) _ _ s;rw[il0];exact A3 h
theorem ei0(xs:Array Value)(i k:Nat):((List.range k).filterMap λ(m:Nat)=>xs[((i:Int)+(m:Int)*1).toNat]?).toArray=((xs.toList.drop i).take k).toArray:=by
 have e:(λ(m:Nat)=>xs[((i:Int)+(m:Int)*1).toNat]?)=λm=>xs[i+m]?:=by
  funext m
  have:((i:Int)+(m:Int)*1).toNat=i+m:=by omega
  rw[this]
 rw[e];have:=pick_run xs i k;rw[List.filterMap_map] at this;have e2:((λx=>xs[x]?) ∘ λx=>i+x)=λm=>xs[i+m]?:=rfl
 rw[e2] at this;rw[this]
theorem rc0{t:Addr}{Q:Value->Shared->Prop}(ht:IsTup s.heap t items)(hs:s.heap.IsSliceOf sl vl vu .none)(pl:IsPart vl lo)(pu:IsPart vu hi)
  (hw:¬(sIx items.size 0 lo=0/\sIx items.size items.size hi=items.size))
  (h:Q (.ref s.heap.objs.size) { s with heap:=s.heap.push { cls:=.type "tuple",data:=.seq ((items.toList.drop (sIx items.size 0 lo)).take (sIx items.size items.size hi - sIx items.size 0 lo)).toArray } })
  (hsz:items.size<=sizeLine):wpAny (model prog w) A (getItem (.ref t) (.ref sl)) Q E s:=by
 have O:sizeOk (.seq ((items.toList.drop (sIx items.size 0 lo)).take (sIx items.size items.size hi - sIx items.size 0 lo)).toArray):=by
  show ((items.toList.drop (sIx items.size 0 lo)).take (sIx items.size items.size hi - sIx items.size 0 lo)).toArray.size<=sizeLine;rw[List.size_toArray,List.length_take,List.length_drop,Array.length_toList];omega
 have hj:sIx items.size items.size hi<=items.size:=Zx0 _ _ (A1 _) hi;obtain⟨os,Y,U,a0⟩:=id hs;have S:s.TypeIs (.ref sl) "slice" := ⟨os,Y,U⟩;unfold getItem
 try with_reducible refine E7 ?_
 first|refine A0 (A3 ?_)|skip
 refine A0 (wpAny_sequenceKey ht.typeIs (by decide) ?_);refine A0 (w8 (name:=Str.ofString "__getitem__") ht.typeIs L0
  (wpAny_call_entry L0 ht.typeIs entry_tuple_getitem ?_ (args_tuple_getitem _ _)))
 show wpAny _ _ (Builtin.Tuple.tupleItemsOf (.ref t)>>=_) _ _ s;refine A0 (tupleItemsOf_ ht ?_);refine A0 (d4 S ?_);rw[if_pos (by decide)];refine A0 (vk0 hs pl pu ?_);have Z:¬((((sIx items.size 0 lo:Nat):Int)==0&&(1:Int)==1&&(sIx items.size items.size hi - sIx items.size 0 lo)==items.size)=true):=by
  intro q;rw[Bool.and_eq_true,Bool.and_eq_true] at q;have q1:((sIx items.size 0 lo:Nat):Int)=0:=L8 q.1.1;have q2:sIx items.size items.size hi - sIx items.size 0 lo=items.size:=L8 q.2;exact hw ⟨by omega,by omega⟩
 show wpAny _ _ (if (((sIx items.size 0 lo:Nat):Int)==0&&(1:Int)==1&&(sIx items.size items.size hi - sIx items.size 0 lo)==items.size)=true then _ else _) _ _ s;rw[if_neg Z,ei0]
 first
  | exact A0 (m:=Builtin.Tuple.tupleExact _) (D6 (A3 ⟨_,rfl,A3 h⟩) O)
  | exact A0 (m:=Builtin.Tuple.tupleExact _) (D6 (A0 (A3 (A3 ⟨_,rfl,A3 h⟩))) O)
  | exact A0 (A0 (m:=Builtin.Tuple.tupleExact _) (D6 (A3 (A3 ⟨_,rfl,A3 h⟩)) O))
  | exact A0 (A0 (m:=Builtin.Tuple.tupleExact _) (D6 (A3 ⟨_,rfl,A3 h⟩) O))
end
end HT
namespace L2
open Spec PyProof.Rows
abbrev TO:=St->Hp->(Option Int->Hp->Prop)->Prop
noncomputable def PO(X:Cx)(e:Option Expr)(t:TO):Prop :=
 ∀(pins:List (Addr×Obj)) (s:Shared) (σ:St) (H:Hp) (Q:Option Int->Hp->Prop),Inv X pins σ H s->t σ H Q ->
  wpAny (model X.prog X.w) X.A (evalPart e X.env) (λu s'=>∃o H',Inv X pins σ H' s'/\IsPart u o/\Q o H') X.xe s
noncomputable def ba0:TO:=λ_ H Q=>Q none H
noncomputable def Wf0(t:TE):TO:=fun σ H Q=>t σ H λx H1=>∃i,x=.int i/\Q (some i) H1
section
variable{lo hi:Option Expr}{tl th:TO}
theorem bs0:PO X none ba0:=by
 intro pins s σ H Q I h;rw[evalPart_none];exact A3 ⟨none,H,I,.none,h⟩
theorem bh0(h:PE X e te):PO X (some e) (Wf0 te):=by
 intro pins s σ H Q I hw;rw[evalPart_some];refine thn (h pins s σ H _ I hw) λu s1 ⟨x,H1,I1,r1,q1⟩=>?_
 obtain⟨i,rfl,q⟩:=q1;obtain⟨t,rfl⟩:=r1;exact⟨some i,H1,I1,.int i t,q⟩
noncomputable def SlR(X:Cx)(r:V->Option Int->Option Int->Hp->VK->Prop):Prop :=
 ∀(pins:List (Addr×Obj)) (s:Shared) (σ:St) (H:Hp) (x:V) (v vl vu:Value) (lo hi:Option Int) (sl:Addr) (Q:VK),Inv X pins σ H s->RelV x v->s.heap.IsSliceOf sl vl vu .none->IsPart vl lo->IsPart vu hi->r x lo hi H Q ->
  ∃T id,typeLookup (.type T) "__getitem__"=pure (some (.builtin id))/\s.TypeIs v T/\wpAny (model X.prog X.w) X.A (getItem v (.ref sl)) (EP X pins σ Q) X.xe s
theorem SlR.or{r r':V->Option Int->Option Int->Hp->VK->Prop}(h:SlR X r)(h':SlR X r'):SlR X (λx lo hi H Q=>r x lo hi H Q∨r' x lo hi H Q):=by
 intro pins s σ H x v vl vu lo hi sl Q I rx hs pl pu q;rcases q with q|q
 ·exact h pins s σ H x v vl vu lo hi sl Q I rx hs pl pu q
 ·exact h' pins s σ H x v vl vu lo hi sl Q I rx hs pl pu q
noncomputable def tSl(r:V->Option Int->Option Int->Hp->VK->Prop)(te:TE)(tl th:TO):TE:=fun σ H Q=>te σ H λx H1=>tl σ H1 λl H2=>th σ H2 λu H3=>r x l u H3 Q
theorem ef0{r:V->Option Int->Option Int->Hp->VK->Prop}(hr:SlR X r)(he:PE X e te)(hl:PO X lo tl)(hu:PO X hi th):PE X (.Subscript e (.Slice lo hi none p2) pos) (tSl r te tl th):=by
 intro pins s σ H Q I h;refine Subscript_ (thn (he pins s σ H _ I h) λv s1 ⟨x,H1,I1,r1,q1⟩=>?_);refine wpAny_Slice (thn (hl pins s1 σ H1 _ I1 q1) λvl s2 ⟨l,H2,I2,pl,q2⟩=>thn (hu pins s2 σ H2 _ I2 q2) λvu s3 ⟨u,H3,I3,pu,q3⟩=>?_);rw[evalPart_none];refine A3 ?_;have I4:Inv X pins σ H3 { s3 with heap:=s3.heap.push { cls:=.type "slice",data:=.fields #[vl,vu,.none] } }:=I3.kept (t':=s3.toks) λb ob q=>B0 _ q
 obtain⟨T,id,hT,ht,hg⟩:=hr pins { s3 with heap:=s3.heap.push { cls:=.type "slice",data:=.fields #[vl,vu,.none] } } σ H3 x v vl vu l u s3.heap.objs.size Q I4 r1 (Heap.IsSliceOf.new ..) pl pu q3;show wpAny (model X.prog X.w) X.A (subscriptTail e (.Slice lo hi none p2) v (.ref s3.heap.objs.size)) (EP X pins σ Q) X.xe { s3 with heap:=s3.heap.push { cls:=.type "slice",data:=.fields #[vl,vu,.none] } };exact tail_any (ops:=[.ref s3.heap.objs.size,v]) ht hT hg (by with_unfolding_all rfl)
noncomputable def s80(xs:List V)(lo hi:Option Int):List V:=(xs.drop (HT.sIx xs.length 0 lo)).take (HT.sIx xs.length xs.length hi - HT.sIx xs.length 0 lo)
theorem rg0(xs:List V)(lo hi:Option Int):(s80 xs lo hi).length<=xs.length:=by
 unfold s80;rw[List.length_take,List.length_drop];omega
noncomputable def V80(K:W.Frag):V->Option Int->Option Int->Hp->VK->Prop:=λx lo hi H Q=>∃a xs,x=.ref a/\SqT K H a xs /\
 ¬(HT.sIx xs.length 0 lo=0/\HT.sIx xs.length xs.length hi=xs.length)/\∀p,H p=none->Q (.ref p) (upd H p (.tup (s80 xs lo hi)))
theorem Zy0:SlR X (V80 X.K):=by
 intro pins s σ H x v vl vu lo hi sl Q I rx hs pl pu h;obtain⟨a,xs,rfl,hx,hw,q⟩:=h;cases rx;obtain⟨its,r,ht,hz⟩:=I.tuple hx;have O:its.toArray.size=xs.length:=by rw[List.size_toArray];exact r.length.symm
 refine⟨"tuple",_,L0.lookup,ht.typeIs,?_⟩;refine HT.rc0 ht hs pl pu (by rw[O];exact hw) ?_ (by rw[O];exact hz);rw[O];refine⟨.ref s.heap.objs.size,_,I.laid (t':=s.toks) (o:=.tup (s80 xs lo hi)) (λb ob q=>B0 _ q) (A1 _) ?_,rfl,q _ (I.hok.fresh (A1 _))⟩;exact⟨A9 (rg0 xs lo hi) hz,_,(r.drop (HT.sIx xs.length 0 lo)).take (HT.sIx xs.length xs.length hi - HT.sIx xs.length 0 lo),IsTupN.new _ _⟩
noncomputable def cy0(K:W.Frag):R2:=λx y H Q=>∃a b xs ys,x=.ref a/\y=.ref b/\SqT K H a xs/\SqT K H b ys/\xs≠[]/\xs.length+ys.length<=sizeLine /\
 (ys=[]->Q (.ref a) H)/\(ys≠[]->∀p,H p=none->Q (.ref p) (upd H p (.tup (xs++ys))))
theorem Vals.nil_iff(r:Vals xs us):us=[]↔xs=[]:=by
 cases r with
 | nil=>simp
 | cons _ _=>simp
theorem ay0:OpR X (binaryOp .Add) (cy0 X.K):=by
 intro pins s σ H x y v u Q I rx ry h;obtain⟨a,b,xs,ys,rfl,rfl,ha,hb,hx,hz,q1,q2⟩:=h;cases rx;cases ry;obtain⟨its,r1,p1,_⟩:=I.tuple ha;obtain⟨O,r2,p2,_⟩:=I.tuple hb;refine HT.b90 p1 p2 (λz=>hx (r1.nil_iff.mp z)) (λz=>⟨.ref a,H,I,rfl,q1 (r2.nil_iff.mp z)⟩) (λz=>?_) (by rw[← r1.length,← r2.length];exact hz);refine⟨.ref s.heap.objs.size,_,I.laid (t':=s.toks) (o:=.tup (xs++ys)) (λb ob q=>B0 _ q) (A1 _) ?_,rfl,q2 (λw=>z (r2.nil_iff.mpr w)) _ (I.hok.fresh (A1 _))⟩;exact⟨by rw[List.length_append];exact hz,_,r1.append r2,IsTupN.new _ _⟩
end
noncomputable def ixN(n:Nat)(i:Int):Option Nat:=if 0<=i then (if i<n then some i.toNat else none) else if -(n:Int)<=i then some (i+n).toNat else none
noncomputable def atI{α:Type}(xs:List α)(i:Int):Option α:=(ixN xs.length i).bind λj=>xs[j]?
theorem jp0{i:Int}(h:ixN n i=some j):seqIndex? i n=some j/\j<n/\-(n:Int)<=i/\i<n:=by
 unfold ixN at h
 by_cases h0:0<=i
 ·rw[if_pos h0] at h
  by_cases h1:i<n
  ·rw[if_pos h1] at h
   have e:i.toNat=j:=B2 h;exact⟨by rw[seqIndex_of h0 h1,e],by omega,by omega,h1⟩
  ·rw[if_neg h1] at h;cases h
 ·rw[if_neg h0] at h
  by_cases h1:-(n:Int)<=i
  ·rw[if_pos h1] at h
   have e:(i+n).toNat=j:=B2 h;exact⟨by rw[seqIndex_neg (by omega) h1,e],by omega,h1,by omega⟩
  ·rw[if_neg h1] at h;cases h
theorem pj0{xs:List α}{i:Int}{v:α}(h:atI xs i=some v):∃j,seqIndex? i xs.length=some j/\xs[j]?=some v/\j<xs.length/\-(xs.length:Int)<=i/\i<xs.length:=by
 unfold atI at h;cases e:ixN xs.length i with
 | none=>rw[e] at h;cases h
 | some j =>
  rw[e] at h;obtain⟨h1,h2,h3,h4⟩:=jp0 e;exact⟨j,h1,h,h2,h3,h4⟩
noncomputable def o60(b:Expr):Prop:=∀o i,subscripted b false o i=operate [o,i] (getItem o i)
noncomputable def IxR(X:Cx)(r:R2):Prop :=
 ∀(value slice:Expr) (pins:List (Addr×Obj)) (s:Shared) (σ:St) (H:Hp) (x y:V) (v u:Value) (Q:VK),Inv X pins σ H s->RelV x v->RelV y u->r x y H Q ->
  subscripted slice false v u=operate [v,u] (getItem v u)->wpAny (model X.prog X.w) X.A (subscriptTail value slice v u) (EP X pins σ Q) X.xe s
noncomputable def MtR(X:Cx)(id:String)(r:V->List V->Hp->VK->Prop):Prop :=
 ∀(pins:List (Addr×Obj)) (s:Shared) (σ:St) (H:Hp) (x:V) (xs:List V) (v:Value) (us:List Value) (Q:VK),Inv X pins σ H s->RelV x v->Vals xs us->r x xs H Q ->
  wpAny (model X.prog X.w) X.A (call (.builtin id) (v::us)) (EP X pins σ Q) X.xe s
section
variable{a:Expr}
theorem IxR.or{r r':R2}(h:IxR X r)(h':IxR X r'):IxR X (λx y H Q=>r x y H Q∨r' x y H Q):=by
 intro value slice pins s σ H x y v u Q I rx ry q hs;rcases q with q|q
 ·exact h value slice pins s σ H x y v u Q I rx ry q hs
 ·exact h' value slice pins s σ H x y v u Q I rx ry q hs
theorem Wi0{r:R2}(hr:IxR X r)(ha:PE X a ta)(hb:PE X b tb)(hs:o60 b):PE X (.Subscript a b pos) (tOp r ta tb):=by
 intro pins s σ H Q I h;exact Subscript_ (cc0 ha hb I h λv u s2 x y H2 I2 rx ry q=>hr a b pins s2 σ H2 x y v u Q I2 rx ry q (hs _ _))
noncomputable def X20(K:W.Frag):R2:=λx y H Q=>∃p xs i v,x=.ref p/\y=.int i/\SqL K H p xs/\atI xs i=some v/\Q v H
noncomputable def X70(K:W.Frag):R2:=λx y H Q=>∃p xs i v,x=.ref p/\y=.int i/\SqT K H p xs/\atI xs i=some v/\Q v H
noncomputable def Y80:R2:=λx y H Q=>∃z i c,x=.str z/\y=.int i/\z.length<=sizeLine/\atI z.cps.toList i=some c/\Q (.str ⟨#[c]⟩) H
theorem ap0:IxR X (X20 X.K):=by
 intro value slice pins s σ H x y v u Q I rx ry h hs;obtain⟨p,xs,i,z,rfl,rfl,hq,he,q⟩:=h;cases rx;obtain⟨t,rfl⟩:=ry;obtain⟨its,r,pl,hz⟩:=I.list hq;obtain⟨j,h1,h2,h3,h4,h5⟩:=pj0 he;obtain⟨w,ew,S⟩:=r.get h2;have hl:=r.length;have hn:=uh0;have O:EP X pins σ Q w s:=⟨z,H,I,S,q⟩
 by_cases h0:0<=i
 ·have hj:i.toNat=j:=by
   rw[seqIndex_of h0 h5] at h1;exact B2 h1
  exact item_listR pl.isList h0 (by omega) (by rw[hj];simpa using ew) O hs
 ·have hj:(i+(its.toArray.size:Int)).toNat=j:=by
   rw[seqIndex_neg (by omega) h4] at h1;rw[List.size_toArray,← hl];exact B2 h1
  exact subscriptTail_builtinR (x:=w) pl.isList.typeIs slot_list_getitem.lookup
   (wpAny_getItem_list_neg (Q:=λr s'=>r=w/\EP X pins σ Q r s') pl.isList (by omega) (by rw[List.size_toArray]<;>omega) (by omega) (by rw[hj];simpa using ew) ⟨rfl,O⟩) hs
theorem Zw0:IxR X (X70 X.K):=by
 intro value slice pins s σ H x y v u Q I rx ry h hs;obtain⟨p,xs,i,z,rfl,rfl,hq,he,q⟩:=h;cases rx;obtain⟨t,rfl⟩:=ry;obtain⟨its,r,pl,hz⟩:=I.tuple hq;obtain⟨j,h1,h2,h3,h4,h5⟩:=pj0 he;obtain⟨w,ew,O⟩:=r.get h2;have hl:=r.length;have hn:=uh0;have S:EP X pins σ Q w s:=⟨z,H,I,O,q⟩;exact subscriptTail_builtinR (x:=w) pl.typeIs slot_tuple_getitem.lookup
  (getItem_tuple (j:=j) (Q:=λr s'=>r=w/\EP X pins σ Q r s') pl (by omega) (by omega) (by rw[List.size_toArray,← hl];exact h1) (by simpa using ew) ⟨rfl,S⟩) hs
theorem Zv0:IxR X Y80:=by
 intro value slice pins s σ H x y v u Q I rx ry h hs;obtain⟨z,i,c,rfl,rfl,hz,he,q⟩:=h;obtain⟨t,rfl⟩:=rx;obtain⟨t',rfl⟩:=ry;obtain⟨j,h1,h2,h3,h4,h5⟩:=pj0 he;have hl:z.cps.toList.length=z.length:=by simp[Str.length]
 rw[hl] at h1 h4 h5;have hn:=uh0;exact tail_any (C9 s z t) slot_str_getitem.lookup (getItem_str (c:=c) (by
  have e1:decide (i < -(2 ^ 63:Int))=false:=E5 (by omega);have e2:decide (i ≥ 2 ^ 63)=false:=E5 (by omega);rw[e1,e2,Bool.or_false]) (by rw[h1];simpa using h2) ⟨.str ⟨#[c]⟩,H,I.tok _,⟨_,rfl⟩,q⟩) hs
noncomputable def rIx(K:W.Frag):R2:=λx y H Q=>X20 K x y H Q∨X70 K x y H Q∨Y80 x y H Q
theorem Xc0:IxR X (rIx X.K):=ap0.or (Zw0.or Zv0)
theorem hf0(its:List Value)(n j:Nat)(u:Value):Obj.mapSeq (·.setIfInBounds j u) { cls:=.type "list",data:=.seq its.toArray n }={ cls:=.type "list",data:=.seq (its.set j u).toArray n }:=by
 simp[Obj.mapSeq]
theorem Inv.lst{σ:St}{s:Shared}{p:Addr}(I:Inv X pins σ H s)(h:H p=some (.lst xs)) :
  ∃(its:List Value) (n:Nat),Vals xs its/\s.heap.get? p=some { cls:=.type "list",data:=.seq its.toArray n }/\xs.length<=sizeLine:=by
 obtain⟨z,its,n,r,e⟩:=I.hok p _ h;exact⟨its,n,r,e,z⟩
theorem Inv.lstUpd{σ:St}{s:Shared}{p:Addr}{ys:List V}{its its':List Value}{n n':Nat}{f:Obj->Obj}(I:Inv X pins σ H s)(h:H p=some (.lst xs))
  (ho:s.heap.get? p=some { cls:=.type "list",data:=.seq its.toArray n }) (hf:f { cls:=.type "list",data:=.seq its.toArray n }={ cls:=.type "list",data:=.seq its'.toArray n' }) (r:Vals ys its') (hz:ys.length<=sizeLine) (t:Nat) :
  Inv X pins σ (upd H p (.lst ys)) { s with heap:=s.heap.update p f,toks:=t }:=by
 have e:(s.heap.update p f).get? p=some { cls:=.type "list",data:=.seq its'.toArray n' }:=by
  rw[Heap.get?_update_self f ho (by rw[hf]<;>rfl),hf]
 refine I.write (x:=p) (e:=p) (by rw[h];trivial) (.inl rfl) (λb u hb q=>(L1 _ _ (B3 hb)).trans q) ⟨_,e⟩ ?_;exact⟨hz,its',n',r,e⟩
noncomputable def Wc0:V->V->V->Hp->(Hp->Prop)->Prop:=λo i v H Q=>∃p xs k j,o=.ref p/\i=.int k/\H p=some (.lst xs)/\ixN xs.length k=some j/\Q (upd H p (.lst (xs.set j v)))
theorem set_list:Yb0 X Wc0:=by
 intro pins s σ H o i v ov iv u Q I ro ri rv h;obtain⟨p,xs,k,j,rfl,rfl,hp,hj,q⟩:=h;cases ro;obtain⟨t,rfl⟩:=ri;obtain⟨its,n,r,ho,hz⟩:=I.lst hp;obtain⟨h1,h2,h3,h4⟩:=jp0 hj;have hl:=r.length;have hn:=uh0;have I':Inv X pins σ (upd H p (.lst (xs.set j v))) { s with heap:=s.heap.update p (Obj.mapSeq (·.setIfInBounds j u)) } :=
  I.lstUpd hp ho (hf0 its n j u) (r.set rv j) (by rw[List.length_set];exact hz) s.toks
 by_cases h0:0<=k
 ·have hk:k.toNat=j:=by
   rw[seqIndex_of h0 h4] at h1;exact B2 h1
  exact W.ki_setAt ho h0 (by omega) (by rw[List.size_toArray,← hl];exact h4) (by rw[hk];exact⟨_,I',q⟩)
 ·have hk:(k+(its.toArray.size:Int)).toNat=j:=by
   rw[seqIndex_neg (by omega) h3] at h1;rw[List.size_toArray,← hl];exact B2 h1
  exact W.ki_setBack ho (by omega) (by rw[List.size_toArray,← hl];exact h3) (by omega) (by rw[hk];exact⟨_,I',q⟩)
theorem ln0(lo hi:Option Int)(n:Nat):(sliceBounds lo hi none n).1=((HT.sIx n 0 lo:Nat):Int)/\(sliceBounds lo hi none n).2.1=((HT.sIx n n hi:Nat):Int)/\(sliceBounds lo hi none n).2.2=1:=by
 refine⟨?_,?_,rfl⟩
 ·cases lo with
  | none=>simp[sliceBounds,HT.sIx]
  | some i =>
   simp only[sliceBounds,HT.sIx,Option.getD_none,show (1:Int) > 0 by decide,if_true]
   by_cases h:i<0
   ·simp only[h,if_true]<;>omega
   ·simp only[h,if_false]<;>omega
 ·cases hi with
  | none=>simp[sliceBounds,HT.sIx]
  | some i =>
   simp only[sliceBounds,HT.sIx,Option.getD_none,show (1:Int) > 0 by decide,if_true]
   by_cases h:i<0
   ·simp only[h,if_true]<;>omega
   ·simp only[h,if_false]<;>omega
theorem ny0(its:List Value)(lo hi:Option Int):slicePick its.toArray lo hi none=((its.drop (HT.sIx its.length 0 lo)).take (HT.sIx its.length its.length hi - HT.sIx its.length 0 lo)).toArray:=by
 obtain⟨h1,h2,h3⟩:=ln0 lo hi its.toArray.size;unfold slicePick;rw[h1,h2,h3];simp only[sliceRange_one,pick_run,List.size_toArray]<;>rfl
noncomputable def Wt0(K:W.Frag):V->Option Int->Option Int->Hp->VK->Prop:=λx lo hi H Q=>∃a xs,x=.ref a/\SqL K H a xs/\∀p,H p=none->Q (.ref p) (upd H p (.lst (s80 xs lo hi)))
theorem ag0:SlR X (Wt0 X.K):=by
 intro pins s σ H x v vl vu lo hi sl Q I rx hs pl pu h;obtain⟨a,xs,rfl,hx,q⟩:=h;cases rx;obtain⟨its,r,ht,hz⟩:=I.list hx;have O:=r.length;refine⟨"list",_,slot_list_getitem.lookup,ht.isList.typeIs,?_⟩;refine wpAny_getItem_list_slice ht.isList hs pl pu .none (by simp) ?_ (by rw[List.size_toArray]<;>omega);rw[ny0,← O];refine⟨.ref s.heap.objs.size,_,I.laid (t':=s.toks) (o:=.lst (s80 xs lo hi)) (λb ob q=>B0 _ q) (A1 _) ?_,rfl,q _ (I.hok.fresh (A1 _))⟩;exact⟨A9 (rg0 xs lo hi) hz,_,0,(r.drop (HT.sIx xs.length 0 lo)).take (HT.sIx xs.length xs.length hi - HT.sIx xs.length 0 lo),C6 _ rfl⟩
noncomputable def w60:V->Bool
 | .non=>true
 | .bl _=>true
 | .int _=>true
 | .str _=>true
 | _=>false
noncomputable def eqV:V->V->Bool
 | .non,.non=>true
 | .bl a,.bl b=>a==b
 | .bl a,.int b=>(if a then 1 else 0)==b
 | .int a,.bl b=>a==(if b then 1 else 0)
 | .int a,.int b=>a==b
 | .str a,.str b=>a==b
 | _,_=>false
theorem Y50{s:Shared}{y x:V}(ry:RelV y u)(rx:RelV x v)(fy:w60 y=true)(fx:w60 x=true):SeqAt.EqAt A s u v (eqV y x):=by
 cases y with
 | non =>
  cases ry;cases x with
  | non=>cases rx;exact L9 _
  | bl b=>cases rx;exact d5 b
  | int b=>obtain⟨t,rfl⟩:=rx;exact d6 b t
  | str b=>obtain⟨t,rfl⟩:=rx;exact e7 b t
  | _=>exact absurd (show false=true from fx) A8
 | bl a =>
  cases ry;cases x with
  | non=>cases rx;exact e8 a
  | bl b=>cases rx;exact e9 a b
  | int b=>obtain⟨t,rfl⟩:=rx;exact g4 a b t
  | str b=>obtain⟨t,rfl⟩:=rx;exact g5 a b t
  | _=>exact absurd (show false=true from fx) A8
 | int a =>
  obtain⟨t',rfl⟩:=ry;cases x with
  | non=>cases rx;exact g7 a t'
  | bl b=>cases rx;exact g9 a t' b
  | int b=>obtain⟨t,rfl⟩:=rx;exact i0 a t' b t
  | str b=>obtain⟨t,rfl⟩:=rx;exact N4 a t' b t
  | _=>exact absurd (show false=true from fx) A8
 | str a =>
  obtain⟨t',rfl⟩:=ry;cases x with
  | non=>cases rx;exact i3 a t'
  | bl b=>cases rx;exact i4 a t' b
  | int b=>obtain⟨t,rfl⟩:=rx;exact N9 a t' b t
  | str b=>obtain⟨t,rfl⟩:=rx;exact i5 a t' b t
  | _=>exact absurd (show false=true from fx) A8
 | _=>exact absurd (show false=true from fy) A8
noncomputable def eqU(x:V)(u:Value):Bool:=match u with
 | .none=>eqV .non x
 | .bool b=>eqV (.bl b) x
 | .int i _=>eqV (.int i) x
 | .str z _=>eqV (.str z) x
 | _=>false
theorem f60{x y:V}(r:RelV y u)(f:w60 y=true):eqU x u=eqV y x:=by
 cases y with
 | non=>cases r;rfl
 | bl b=>cases r;rfl
 | int i=>obtain⟨t,rfl⟩:=r;rfl
 | str z=>obtain⟨t,rfl⟩:=r;rfl
 | _=>exact absurd (show false=true from f) A8
theorem oe0{x:V}:∀{xs:List V} {us:List Value},Vals xs us->xs.all w60=true->us.any (eqU x)=xs.any λy=>eqV y x
 | _,_,.nil,_=>rfl
 | y::xs,u::us,.cons r t,f=>by
  rw[List.all_cons,Bool.and_eq_true] at f;rw[List.any_cons,List.any_cons,f60 r f.1,oe0 t f.2]
theorem ru0{s:Shared}{x:V}(rx:RelV x v)(fx:w60 x=true):∀{xs:List V} {us:List Value},Vals xs us->xs.all w60=true->∀u∈us,SeqAt.EqAt A s u v (eqU x u)
 | _,_,.nil,_=>λu hu=>by cases hu
 | y::xs,u::us,.cons r t,f=>λu' hu=>by
  rw[List.all_cons,Bool.and_eq_true] at f;rcases B1.mp hu with rfl|hu
  ·rw[f60 r f.1];exact Y50 r rx f.1 fx
  ·exact ru0 rx fx t f.2 u' hu
noncomputable def inV(x:V)(xs:List V):Bool:=xs.any λy=>eqV y x
noncomputable def rIn(K:W.Frag)(neg:Bool):R2:=λx y H Q=>∃p xs,y=.ref p/\(SqL K H p xs∨SqT K H p xs)/\w60 x=true/\xs.all w60=true/\Q (.bl (if neg then !inV x xs else inV x xs)) H
theorem gb0:OpR X (compareOp .In) (rIn X.K false):=by
 intro pins s σ H x y v u Q I rx ry h;obtain⟨p,xs,rfl,hq,fx,fs,q⟩:=h;cases ry;rcases hq with hq|hq
 ·obtain⟨its,r,pl,hz⟩:=I.list hq
  refine SeqAt.in_listAt (eqU x) pl.isList (λw hw=>ru0 rx fx r fs w (by simpa using hw)) ⟨.bl _,H,I,rfl,?_⟩;rw[show its.toArray.any (eqU x)=its.any (eqU x) by simp,oe0 r fs];exact q
 ·obtain⟨its,r,pl,hz⟩:=I.tuple hq
  refine SeqAt.in_tupleAt (eqU x) pl (λw hw=>ru0 rx fx r fs w (by simpa using hw)) ⟨.bl _,H,I,rfl,?_⟩;rw[show its.toArray.any (eqU x)=its.any (eqU x) by simp,oe0 r fs];exact q
theorem li0:CallR X (.builtin "len") (λxs H Q=>∃p ys,xs=[.ref p]/\(SqL X.K H p ys∨SqT X.K H p ys)/\Q (.int ys.length) H):=by
 intro pins s σ H xs us Q I r h;obtain⟨p,ys,rfl,hq,q⟩:=h;obtain⟨u,rfl,rx⟩:=vals1 r;cases rx;have hn:=uh0;rcases hq with hq|hq
 ·obtain⟨its,r',pl,hz⟩:=I.list hq
  have O:=r'.length;exact Calls.call_len_list pl.isList (by simp only[List.size_toArray]<;>omega) ⟨.int ys.length,H,I.tok _,⟨s.toks+1,by rw[List.size_toArray,O]⟩,q⟩
 ·obtain⟨its,r',pl,hz⟩:=I.tuple hq
  have O:=r'.length;exact len_tuple pl (by simp only[List.size_toArray]<;>omega) ⟨.int ys.length,H,I.tok _,⟨s.toks+1,by rw[List.size_toArray,O]⟩,q⟩
theorem kh0:CallR X (.builtin "len") (λxs H Q=>∃z,xs=[.str z]/\z.length<=sizeLine/\Q (.int z.length) H):=by
 intro pins s σ H xs us Q I r h;obtain⟨z,rfl,hz,q⟩:=h;obtain⟨u,rfl,t,rfl⟩:=vals1 r;have hn:=uh0;exact len_str (by omega) ⟨.int z.length,H,I.tok _,⟨_,rfl⟩,q⟩
theorem CallR.or{f:Value}{r':List V->Hp->VK->Prop}(h:CallR X f r)(h':CallR X f r'):CallR X f (λxs H Q=>r xs H Q∨r' xs H Q):=by
 intro pins s σ H xs us Q I rs q;rcases q with q|q
 ·exact h pins s σ H xs us Q I rs q
 ·exact h' pins s σ H xs us Q I rs q
theorem lq0:CallR X (.type "list") (λxs H Q=>∃p ys,xs=[.ref p]/\(SqL X.K H p ys∨SqT X.K H p ys)/\∀l,H l=none->Q (.ref l) (upd H l (.lst ys))):=by
 intro pins s σ H xs us Q I r h;obtain⟨p,ys,rfl,hq,q⟩:=h;obtain⟨u,rfl,rx⟩:=vals1 r;cases rx;have O:∀(its:List Value),Vals ys its->ys.length<=sizeLine->∀(h':Heap) (c':Nat),(∀b o',s.heap.get? b=some o'->h'.get? b=some o') ->
   h'.get? s.heap.objs.size=some { cls:=.type "list",dict:=none,data:=.seq its.toArray c',slots:=#[] }->EP X pins σ Q (.ref s.heap.objs.size) { s with heap:=h' }:=λits r' hz h' c' kp e =>
  ⟨.ref s.heap.objs.size,_,I.laid (t':=s.toks) kp (A1 _) (show ObjOk X.prog X.w _ h' _ (.lst ys) from ⟨hz,its,c',r',e⟩),rfl,q _ (I.hok.fresh (A1 _))⟩
 rcases hq with hq|hq
 ·obtain⟨its,r',pl,hz⟩:=I.list hq
  have S:=r'.length;obtain⟨o,ho,hc,n,hd⟩:=pl.isList;exact call_list_seq p (.inl rfl) ho hc hd (λh' c' kp e=>O its r' hz h' c' kp e) (by simp only[List.size_toArray]<;>omega)
 ·obtain⟨its,r',pl,hz⟩:=I.tuple hq
  have S:=r'.length;obtain⟨o,ho,hc,n,hd⟩:=pl;exact call_list_seq p (.inr rfl) ho hc hd (λh' c' kp e=>O its r' hz h' c' kp e) (by simp only[List.size_toArray]<;>omega)
theorem z10:CallR X (.type "tuple") (λxs H Q=>∃p ys,xs=[.ref p]/\((SqL X.K H p ys/\∀l,H l=none->Q (.ref l) (upd H l (.tup ys)))∨(SqT X.K H p ys/\Q (.ref p) H))):=by
 intro pins s σ H xs us Q I r h;obtain⟨p,ys,rfl,h⟩:=h;obtain⟨u,rfl,rx⟩:=vals1 r;cases rx;rcases h with⟨hq,q⟩|⟨hq,q⟩
 ·obtain⟨its,r',pl,hz⟩:=I.list hq
  have O:=r'.length;refine call_tuple_list pl.isList (λh' kp=>?_) (by simp only[List.size_toArray]<;>omega);have I1:Inv X pins σ H { s with heap:=h' }:=I.kept (t':=s.toks) kp;have I2:Inv X pins σ (upd H h'.objs.size (.tup ys)) { s with heap:=h'.push { cls:=.type "tuple",data:=.seq its.toArray } } :=
   I1.laid (t':=s.toks) (λb o e=>B0 _ e) (A1 _) (show ObjOk X.prog X.w _ _ _ (.tup ys) from ⟨hz,its,r',IsTupN.new _ _⟩)
  exact⟨.ref h'.objs.size,_,I2,rfl,q _ (I1.hok.fresh (A1 _))⟩
 ·obtain⟨its,r',pl,hz⟩:=I.tuple hq
  exact call_tuple_same pl ⟨.ref p,H,I,rfl,q⟩
noncomputable def tyV(K:W.Frag)(T:String)(x:V)(H:Hp):Prop:=match x with
 | .str _=>T = "str"
 | .int _=>T = "int"
 | .ref p=>(T = "list"/\∃xs,SqL K H p xs)∨(T = "tuple"/\∃o,K.lookup p=some o/\o.cls=.type "tuple"/\o.dict=none) ∨
   (T = "dict"/\((∃kvs,H p=some (.dK kvs))∨∃kvs,H p=some (.dT kvs)))∨(T = "set"/\∃S n,H p=some (.set S n))
 | _=>False
theorem Y00{σ:St}{s:Shared}{T:String}{x:V}(I:Inv X pins σ H s)(r:RelV x v)(ty:tyV X.K T x H) :
  s.TypeIs v T/\∀a,v=.ref a->∃ob,s.heap.get? a=some ob/\ob.dict=none:=by
 cases x with
 | str z =>
  obtain⟨t,rfl⟩:=r;cases (show T = "str" from ty);exact⟨C9 s z t,λ_ e=>nomatch e⟩
 | int i =>
  obtain⟨t,rfl⟩:=r;cases (show T = "int" from ty);exact⟨I0 s i t,λ_ e=>nomatch e⟩
 | ref p =>
  cases r;rcases ty with⟨rfl,xs,hq⟩|⟨rfl,o,hk,hc,hd⟩|⟨rfl,hk⟩|⟨rfl,S,n,hk⟩
  ·obtain⟨its,_,pl,_⟩:=I.list hq
   refine⟨pl.isList.typeIs,λa e=>?_⟩;cases e;obtain⟨o,n,e,c,hd,_⟩:=pl;exact⟨o,e,hd⟩
  ·refine⟨⟨o,I.kIn p o hk,hc⟩,λa e=>?_⟩
   cases e;exact⟨o,I.kIn _ o hk,hd⟩
  ·have z:∃o,s.heap.get? p=some o/\o.ExactDict:=by
    rcases hk with⟨kvs,hk⟩|⟨kvs,hk⟩
    ·obtain⟨_,_,_,_,o,_,_,e,ex,_⟩:=I.hok p _ hk
     exact⟨o,e,ex⟩
    ·obtain⟨_,_,_,_,o,_,_,e,ex,_⟩:=I.hok p _ hk
     exact⟨o,e,ex⟩
   obtain⟨o,e,ex⟩:=z;refine⟨⟨o,e,ex.1⟩,λa e2=>?_⟩;cases e2;exact⟨o,e,ex.2.1⟩
  ·obtain⟨o,_,_,_,e,ex,_⟩:=I.hok p _ hk
   refine⟨⟨o,e,ex.1⟩,λa e2=>?_⟩;cases e2;exact⟨o,e,ex.2.1⟩
 | _=>exact False.elim ty
noncomputable def tBM(K:W.Frag)(T:String)(r:V->List V->Hp->VK->Prop)(to:TE)(t:TA):TE:=fun σ H Q=>to σ H λx H1=>tyV K T x H1/\t σ H1 λxs H2=>r x xs H2 Q
variable{to:TE}{T id:String}{r:V->List V->Hp->VK->Prop}
theorem p90(pa:PlainAttrs T)(slot:Slot T name id)(hty:typeOf (.builtin id)=pure (.type "method_descriptor"))(hm:MtR X id r)(ho:PE X o to)(ha:PA X (e::es) t)
  (hbase:attributeBase o name X.env (eval o X.env)=eval o X.env:=by rfl)
  (hfew:((backTo cpos (starEach (e::es) X.env)).all (λx=>!x.1)&&(backToKw cpos (keywordEach [] X.env)).all (λx=>x.1.isSome)
  &&decide ((e::es).length+([]:List Keyword).length+(if ([]:List Keyword).isEmpty then 0 else 1)<30))=true:=by rfl)
  (hline:(apos.endLine==cpos.line)=true:=by rfl) (hs:starEach (e::es) X.env=(false,eval e X.env)::starEach es X.env:=by rfl) (hplain:(backTo cpos (starEach es X.env)).any (·.1)=false:=by rfl) :
  PE X (.Call (.Attribute o name apos) (e::es) [] cpos) (tBM X.K T r to t):=by
 intro pins s σ H Q I h;refine wpAny_Call_method_late hbase hfew hline rfl (thn (ho pins s σ H _ I h) λv s1 ⟨x,H1,I1,r1,ty,q1⟩=>?_);obtain⟨h1,h2⟩:=Y00 I1 r1 ty;refine⟨T,id,pa,slot,hty,h1,h2,?_⟩;have hA:=ha cpos pins s1 σ H1 _ I1 q1;rw[hs] at hA ⊢;refine Calls.callWith_builtin (by show (false||(backTo cpos (starEach es X.env)).any (·.1))=false;rw[hplain]<;>rfl) (y2 ?_);exact thn hA λus s2 ⟨vs,H2,I2,r2,q2⟩=>hm pins s2 σ H2 x vs v us Q I2 r1 r2 q2
end
noncomputable def MtM(X:Cx)(id:String)(r:V->List V->Hp->VK->Prop):Prop :=
 ∀(pins:List (Addr×Obj)) (s:Shared) (σ:St) (H:Hp) (x:V) (xs:List V) (v:Value) (us:List Value) (Q:VK),Inv X pins σ H s->RelV x v->Vals xs us->r x xs H Q ->
  wpAny (model X.prog X.w) X.A (call (.builtin id) (v::us)) (EP X pins σ Q) X.xe s
theorem Vals.one:∀{x:V} {us:List Value},Vals [x] us->∃u,us=[u]/\RelV x u
 | _,_,.cons r .nil=>⟨_,rfl,r⟩
theorem Vals.two:∀{x y:V} {us:List Value},Vals [x,y] us->∃u v,us=[u,v]/\RelV x u/\RelV y v
 | _,_,_,.cons r (.cons q .nil)=>⟨_,_,rfl,r,q⟩
theorem Vals.zero:∀{us:List Value},Vals [] us->us=[]
 | _,.nil=>rfl
theorem Vals.rep(h:Vals xs us):∀k:Nat,Vals (List.replicate k xs).flatten (List.replicate k us).flatten
 | 0=>.nil
 | k+1=>by
  rw[List.replicate_succ,List.replicate_succ,List.flatten_cons,List.flatten_cons];exact Vals.append h (Vals.rep h k)
theorem foldl_rep(its:List Value):∀(k:Nat) (acc:List Value),
  List.foldl (λx1 x2=>x1++x2) acc.toArray (List.replicate k its.toArray)=(acc++(List.replicate k its).flatten).toArray
 | 0,acc=>by simp
 | k+1,acc=>by
  have e:acc.toArray++its.toArray=(acc++its).toArray:=by simp
  have e2:(acc++its)++(List.replicate k its).flatten=acc++(List.replicate (k+1) its).flatten:=by
   rw[List.replicate_succ,List.flatten_cons,List.append_assoc]
  rw[← e2,← foldl_rep its k (acc++its),← e,List.replicate_succ,List.foldl_cons]
section
variable{σ:St}{s:Shared}{l b:Addr}{ys zs:List V}
theorem Inv.lset{its its':List Value}{n:Nat}{f:Array Value->Array Value}{t':Nat}(I:Inv X pins σ H s)(hH:H l=some (.lst xs))
  (e:s.heap.get? l=some { cls:=.type "list",data:=.seq its.toArray n }) (hf:f its.toArray=its'.toArray) (hv:Vals ys its') (hz:ys.length<=sizeLine) :
  Inv X pins σ (upd H l (.lst ys)) { s with heap:=s.heap.update l (Obj.mapSeq f),toks:=t' }:=by
 have q:=PySem.IsL.update e f;rw[hf] at q;refine I.write (x:=l) (e:=l) (by rw[hH];exact trivial) (.inl rfl) (λb' u hb hu=>(L1 s.heap (Obj.mapSeq f) (B3 hb)).trans hu) ⟨_,q⟩ ?_;exact⟨hz,its',_,hv,q⟩
theorem Inv.lnew{its:List Value}{t':Nat}(I:Inv X pins σ H s)(hv:Vals ys its)(hz:ys.length<=sizeLine) :
  Inv X pins σ (upd H s.heap.objs.size (.lst ys)) { s with heap:=s.heap.push { cls:=.type "list",data:=.seq its.toArray },toks:=t' } :=
 I.laid (λ_ _ q=>B0 _ q) (A1 _) ⟨hz,its,0,hv,C6 _ rfl⟩
theorem Inv.fresh(I:Inv X pins σ H s):H s.heap.objs.size=none:=I.hok.fresh (A1 _)
theorem Inv.lstM(I:Inv X pins σ H s)(hH:H l=some (.lst xs)):xs.length<=sizeLine/\∃(its:List Value) (n:Nat),Vals xs its/\xs.length=its.length/\s.heap.get? l=some { cls:=.type "list",data:=.seq its.toArray n }:=by
 obtain⟨z,its,n,r,e⟩:=I.hok l _ hH;exact⟨z,its,n,r,r.length,e⟩
theorem dv0(h:n<=sizeLine):Builtin.List.listTooLong n=false:=by
 unfold Builtin.List.listTooLong;exact E5 (by omega)
end
noncomputable def aw0:V->List V->Hp->VK->Prop:=λx vs H Q=>∃l xs y,x=.ref l/\vs=[y]/\H l=some (.lst xs)/\xs.length<sizeLine/\Q .non (upd H l (.lst (xs++[y])))
theorem vw0:MtM X "list.append" aw0:=by
 intro pins s σ H x vs v us Q I rx rv h;obtain⟨l,xs,y,rfl,rfl,hH,hz,q⟩:=h;cases rx;obtain⟨u,rfl,ru⟩:=rv.one;obtain⟨z,its,n,r,hl,e⟩:=I.lstM hH;refine D0 F.slot_list_append ⟨_,e,rfl⟩ F.entry_list_append (F.args_list_append_2 _ _) (PySem.list_append l its.toArray n u (by rw[List.size_toArray];omega)) ⟨e,?_⟩;refine⟨.non,_,I.lset (its':=its++[u]) hH e (by simp) (r.append (.cons ru .nil)) ?_,rfl,q⟩;rw[List.length_append,List.length_singleton];omega
theorem len_rep(xs:List α)(k:Nat):(List.replicate k xs).flatten.length=k*xs.length:=by
 induction k with
 | zero=>simp
 | succ k ih=>rw[List.replicate_succ,List.flatten_cons,List.length_append,ih,Nat.succ_mul,Nat.add_comm]
end L2
namespace Att
open PySem.W PySem.Calls PyProof.Rows
theorem p10{P:Params}:∀(ns:List Int) (vs:List Value),WellAll P h vs (ns.map WData.int)->IntsAre vs ns:=by
 intro ns
 induction ns with
 | nil =>
  intro vs w;rw[List.map_nil] at w;cases w;exact .nil
 | cons n ns ih =>
  intro vs w;rw[List.map_cons] at w;cases w with
  | cons a b =>
   cases a;exact .cons _ _ (ih _ b)
theorem fr0{l:OpenLaw}(hn:l.most=some n){P:Params}{h:Heap}{args:List WData}{vals:List Value}
  (hpre:l.row.toRowW.claim.pre args=true) (hwl:WellAll P h vals args) :
  ∃a vs ns,vals=[Value.ref a]/\args=[WData.list (ns.map WData.int)]/\h.get? a=some { cls:=.type "list",data:=.seq vs.toArray }/\IntsAre vs ns/\ns.length<=n:=by
 have S:WShape.hasAll [] args [.list .int]=true:=(pre_splitW hpre).1;have hc:l.pre.holds [] { args:=args }=true:=(pre_splitW hpre).2;obtain⟨d,r,rfl,h1,h2⟩:=hasAllW_cons S;obtain rfl:=hasAllW_nil h2;obtain⟨xs,rfl,h3⟩:=hasW_list h1;obtain⟨ns,rfl⟩:=items_int h3;have O:ns.length<=n:=by
  unfold OpenLaw.pre at hc;have h4:(WTm.not (.lt (.lit (.int (n:Int))) (.len (.arg 0)))).holds [] { args:=[.list (ns.map .int)] }=true:=by
   have h4:=(holds_andW hc).1;rw[hn] at h4;exact h4
  have h5:=condW_of h4 (w_not (w_lt w_lit (w_len_list (w_arg rfl))));rw[List.length_map] at h5;refine Nat.le_of_not_lt λq=>?_
  have q':(n:Int)<((ns.length:Nat):Int):=by omega
  first
   | (rw[decide_eq_true q'] at h5;exact absurd h5 (by decide))
   | (simp at h5;omega)
 cases hwl with
 | cons w1 w2 =>
  cases w2;cases w1 with
  | list ho hall=>exact⟨_,_,ns,rfl,rfl,ho,p10 ns _ hall,O⟩
theorem e20(l:OpenLaw)(args:List WData):l.row.toRowW.claim.post args (.bool true) args=true :=
 postW_of (r:=l.row.toRowW) (X:=(true==true))
  (show WShape.has [] (.bool true) .bool=true by first|rfl|decide|simp[WShape.has,WShape.arms,WShape.armsAll])
  (show (WTm.eq .res (.lit (.bool true))).value [] { args:=args,res:=some (.bool true),after:=args }=some (.bool (true==true)) from w_eq_bool (w_res rfl) w_lit) rfl
theorem kw0{l:OpenLaw}{n:Nat}{q:Program}{loose:List Str}{XP:(Str->Option Value)->Heap->Prop}{YP:World->Heap->Prop}{d:DefRec}
  (hn:l.most=some n) (hdf:d.params.defaults=[])
  (call:∀(w:World) (s₀ s₁:Shared) (mg mb:Str->Option Value) (fa:Addr) (o:Obj) (pm cd doc:Value) (a:Addr) (vs:List Value) (ns:List Int),
   Ground q loose [] XP w s₀ mg mb s₁.heap->YP w s₁.heap ->
   s₁.heap.get? fa=some o->o.data=.func (docDef d.name d.params d.body d.scope pm cd doc)->s₁.heap.CodeRec cd d.name->mg d.name=some (.ref fa) ->
   s₁.heap.get? a=some { cls:=.type "list",data:=.seq vs.toArray }->IntsAre vs ns->ns.length<=n->s₁.gens=#[] ->
   codeAny (model l.prog w) callerA (.call (.ref fa) ⟨[.ref a],[]⟩) (λr s'=>r=.ok (.ret (.bool true))/\OldK s₁.heap s'.heap/\s'.os=s₁.os/\AllBare s'.gens) s₁) :
  WalkO q loose XP YP l.row.toRowW d [] (λf vs=>PySem.call f vs):=by
 intro w s₀ s₁ mg mb G Y fa o pm cd doc dV kV ho hd a1 hD a0 hg a4 vals as Z a3 a5 a2 a6;obtain rfl:dV=.none:=Dflts.none hD hdf;obtain rfl:kV=.none:=Dflts.noKw hD;obtain⟨a,vs,ns,rfl,rfl,U,O,S⟩:=fr0 hn Z a2;refine enter_call (E9 (call w s₀ s₁ mg mb fa o pm cd doc a vs ns G Y ho (fd_plain hd) a1 a0 U O S hg) λr s' hq=>?_);obtain⟨rfl,h2,h3,h4⟩:=hq;exact⟨.inl ⟨.bool true,.bool true,[],rfl,λ_=>rfl,.bool true,e20 l _,λ_=>⟨List.Pairwise.nil,λ_ hm=>(nomatch hm)⟩⟩,h2,h3,h4⟩
end Att
namespace L2
open Spec PyProof.Rows
theorem nc0:∀{vs:List Value} {ns:List Int},IntsAre vs ns->Vals (ns.map V.int) vs
 | _,_,.nil=>.nil
 | _,_,.cons n t h=>.cons ⟨t,rfl⟩ (nc0 h)
noncomputable def Only(H:Hp):Prop:=∀b,H b=none∨∃o xs,H b=some (.frz o (.lst xs))
theorem ds0{P:Program}{w:World}{K:W.Frag}{mg mb:Str->Option Value}{CX:CXT}{k:Nat}{fa a:Addr}{fd:FuncData}{x:Str}{sp:Sp}{s₁:Shared}{vs:List Value}{ns:List Int}
  (KX:K.In s₁.heap) (hns:s₁.heap.Ns mainGlobals mg) (hb:s₁.heap.Ns builtinsNs mb) (hbb:∀x:Str,x ≠"__name__"->mb x=bootBuiltins x) (hlim:s₁.heap.NoLimit) (hg:s₁.gens=#[])
  (ha:s₁.heap.get? a=some { cls:=.type "list",data:=.seq vs.toArray }) (hi:IntsAre vs ns) (hl:ns.length<=sizeLine) (hr:Room k callerA)
  (F:∀base:Heap,K.In base->base.Ns mainGlobals mg->FnOk P w K mg base CX k fa fd [x] sp) (hbind:∀(s:Shared) (u:Value),BindsTo s fd ⟨[u],[]⟩ [(x,u)])
  (hsp:∀H:Hp,Only H->SqL K H a (ns.map V.int)->sp [.ref a] H (λv _=>v=.bl true) λ_ _ _=>False)
  (hCX:∀H e s',CX [] H s₁ (λ_ _ _=>False) e s'->False) :
  codeAny (model P w) callerA (.call (.ref fa) ⟨[.ref a],[]⟩) (λr s'=>r=.ok (.ret (.bool true))/\OldK s₁.heap s'.heap/\s'.os=s₁.os/\AllBare s'.gens) s₁:=by
 have rv:=nc0 hi;have Z:=hi.length;have U:∀H:Hp,Only H->SqL K H a (ns.map V.int)->HOk P w H s₁.heap->(∀b,H b≠none->b=a)->(H a≠none->K.lookup a=none) ->
   codeAny (model P w) callerA (.call (.ref fa) ⟨[.ref a],[]⟩) (λr s'=>r=.ok (.ret (.bool true))/\OldK s₁.heap s'.heap/\s'.os=s₁.os/\AllBare s'.gens) s₁:=by
  intro H hO hS hok hA hK;have O:∀{b:Addr} {o:Obj},s₁.heap.get? b=some o->H b=none->(uv0 s₁.heap H).get? b=some o:=λe n=>dl0 e n
  have a1:∀{b:Addr} {o:Obj} {es:Array DictEntry} {ep:Nat},s₁.heap.get? b=some o->o.data=.dict es ep->H b=none:=λ{b o es ep} e d=>by
   cases q:H b with
   | none=>rfl
   | some u =>
    have e':b=a:=hA b (by rw[q];simp);subst e';rw[ha] at e;cases e;have d':Data.seq vs.toArray _=Data.dict es ep:=d;cases d'
  have S:∀{b:Addr} {m:Str->Option Value},s₁.heap.Ns b m->(uv0 s₁.heap H).Ns b m:=λ{b m} ⟨o,es,ep,e,d,r⟩=>⟨o,es,ep,O e (a1 e d),d,r⟩
  have Y:K.In (uv0 s₁.heap H):=λb o e=>O (KX b o e) (by
   cases q:H b with
   | none=>rfl
   | some u =>
    have e':b=a:=hA b (by rw[q];simp);subst e';rw[hK (by rw[q];simp)] at e;cases e)
  have hM:Mod K mg (uv0 s₁.heap H):=⟨Y,S hns,⟨mb,S hb,hbb⟩,let ⟨mc,h1,h2⟩:=hlim;⟨mc,S h1,h2⟩⟩;have e0:Env0 P w K mg (uv0 s₁.heap H) callerA [] s₁ H:=⟨rfl,hM,λb o e=>bk0 e,D9 (fm0 _ _),trivial,λb hb=>absurd (show b∈([]:List Addr) from hb) (by simp),hok,.of_eq hg⟩;refine E9 ((F _ Y (S hns)).run callerA [] s₁ H ⟨[.ref a],[]⟩ [.ref a] [.ref a] _ _ hr e0 (hbind s₁ (.ref a)) (.cons rfl .nil) (hsp H hO hS)) λr s' h=>?_
  cases r with
  | error e=>exact(hCX H e s' h).elim
  | ok fl =>
   cases fl with
   | next=>exact False.elim h
   | brk=>exact False.elim h
   | cont=>exact False.elim h
   | ret u =>
    obtain⟨v,H',os,bare,un,a0,r',q⟩:=h;have q':v=.bl true:=q;subst q';obtain rfl:u=Value.bool true:=r';refine⟨rfl,OldK.of_keep λb o e=>?_,os,bare⟩;cases q:H b with
    | none=>exact un.keep b o e q (by intro z;exact absurd (show b∈([]:List Addr) from z) (by simp)) (by simp)
    | some u =>
     rcases hO b with z|⟨ob,xs,z⟩
     ·rw[q] at z;cases z
     ·have z2:=un.frzs b ob _ z
      obtain⟨e1,_⟩:=hok b _ z;obtain⟨e2,_⟩:=a0 b _ z2;rw[e] at e1;cases e1;exact e2
 cases hk:K.lookup a with
 | some o =>
  have e:=KX a o hk;rw[ha] at e;cases e;refine U (λ_=>none) (λ_=>.inl rfl) (.inr ⟨_,vs.toArray,_,hk,rfl,rfl,rfl,by rw[List.size_toArray,Z];exact hl,by simpa using rv⟩) (λb u z=>by have z':(none:Option HO)=some u:=z;cases z') (λb z=>absurd rfl z) λz=>absurd rfl z
 | none =>
  refine U (λb=>if b=a then some (.frz { cls:=.type "list",data:=.seq vs.toArray } (.lst (ns.map V.int))) else none) (λb=>?_) (.inl (.inr ⟨{ cls:=.type "list",data:=.seq vs.toArray },if_pos rfl⟩)) (λb u z=>?_) (λb z=>?_) λ_=>hk
  ·by_cases hb:b=a
   ·exact .inr ⟨_,_,if_pos hb⟩
   ·exact .inl (if_neg hb)
  ·by_cases hb:b=a
   ·have z':=(if_pos hb).symm.trans z
    cases z';subst hb;exact⟨ha,by rw[List.length_map];exact hl,vs,_,rv,ha⟩
   ·have z':=(if_neg hb).symm.trans z
    cases z'
  ·by_cases hb:b=a
   ·exact hb
   ·exact absurd (if_neg hb) z
theorem Z30{l:W.OpenLaw}{n k:Nat}{q:Program}{loose:List Str}{XP:(Str->Option Value)->Heap->Prop}{YP:World->Heap->Prop}{d:DefRec}{K:Params->W.Frag}{CX:World->CXT}{sp:World->Sp}{x:Str}
  (hn:l.most=some n) (hn2:n<=sizeLine) (hdf:d.params.defaults=[]) (hr:Room k callerA)
  (hY:∀(w:World) (h:Heap),YP w h->(K w.params).In h)
  (F:∀(w:World) (mg:Str->Option Value) (fa:Addr) (h:Heap),(K w.params).In h->h.Ns mainGlobals mg->mg d.name=some (.ref fa) ->
   ∃fd:FuncData,(∀(s:Shared) (u:Value),BindsTo s fd ⟨[u],[]⟩ [(x,u)]) /\
    ∀base:Heap,(K w.params).In base->base.Ns mainGlobals mg->FnOk l.prog w (K w.params) mg base (CX w) k fa fd [x] (sp w))
  (hsp:∀(w:World) (H:Hp) (a:Addr) (ns:List Int),ns.length<=n->Only H->SqL (K w.params) H a (ns.map V.int)->sp w [.ref a] H (λv _=>v=.bl true) λ_ _ _=>False)
  (hCX:∀(w:World) (H:Hp) (s:Shared) (e:Value) (s':Shared),CX w [] H s (λ_ _ _=>False) e s'->False) :
  W.WalkO q loose XP YP l.row.toRowW d [] (λf vs=>PySem.call f vs):=by
 refine Att.kw0 hn hdf λw s₀ s₁ mg mb fa o pm cd a1 a vs ns G Y ho hd a0 Z U S O hg=>?_
 have KX:=hY w _ Y;obtain⟨fd,hb,hF⟩:=F w mg fa _ KX G.T.g Z;exact ds0 KX G.T.g G.T.b G.T.builtins G.T.nolimit hg U S (A9 O hn2) hr hF hb (λH hO hS=>hsp w H a ns O hO hS) λH e s'=>hCX w H s₁ e s'
theorem eo0{l:W.OpenLaw}{n k:Nat}{q:Program}{loose:List Str}{XP:(Str->Option Value)->Heap->Prop}{YP:World->Heap->Prop}{d:DefRec}{K:Params->W.Frag}{CX:CXT}{sp:W.Frag->Sp}{x:Str}
  (hn:l.most=some n) (hn2:n<=sizeLine) (hdf:d.params.defaults=[]) (hr:Room k callerA)
  (hY:∀(w:World) (h:Heap),YP w h->(K w.params).In h)
  (F:∀(w:World) (mg:Str->Option Value) (fa:Addr) (h:Heap),(K w.params).In h->h.Ns mainGlobals mg->mg d.name=some (.ref fa) ->
   ∃fd:FuncData,(∀(s:Shared) (u:Value),BindsTo s fd ⟨[u],[]⟩ [(x,u)]) /\
    ∀base:Heap,(K w.params).In base->base.Ns mainGlobals mg->FnOk l.prog w (K w.params) mg base CX k fa fd [x] (sp (K w.params)))
  (hsp:∀(K:W.Frag) (H:Hp) (a:Addr) (ns:List Int),ns.length<=n->Only H->SqL K H a (ns.map V.int)->sp K [.ref a] H (λv _=>v=.bl true) λ_ _ _=>False)
  (hCX:∀(H:Hp) (s:Shared) (e:Value) (s':Shared),CX [] H s (λ_ _ _=>False) e s'->False) :
  W.WalkO q loose XP YP l.row.toRowW d [] (λf vs=>PySem.call f vs) :=
 Z30 (K:=K) (CX:=λ_=>CX) (sp:=λw=>sp (K w.params)) hn hn2 hdf hr hY F (λw H a ns h1 h2 h3=>hsp (K w.params) H a ns h1 h2 h3) λ_ H s e s'=>hCX H s e s'
noncomputable def d7(s:Stmt):Arguments:=match s with
 | .FunctionDef _ a _ _ _ _ _ _ _ _=>a
 | _=>{ posonlyargs:=[],args:=[],vararg:=none,kwonlyargs:=[],kw_defaults:=[],kwarg:=none,defaults:=[] }
noncomputable def j6(s:Stmt):List Stmt:=match s with
 | .FunctionDef _ _ b _ _ _ _ _ _ _=>b
 | _=>[]
noncomputable def u0(s:Stmt):Scope:=match s with
 | .FunctionDef _ _ _ _ _ _ sc _ _ _=>sc
 | _=>{ kind:=.function,names:=[],isGenerator:=false,isCoroutine:=false }
abbrev CX0:CXT:=λ_ _ _ _ _ _=>False
abbrev E0:XK:=λ_ _ _=>False
theorem b60:pf0 CX0 X E0:=λ_ _ _ _ _ _ _ h=>h.elim
structure Fun(K:W.Frag)(x qual:Str)(st:Stmt)(f:Addr)(fd:FuncData):Prop where
 ex:∃(oc:Value) (od:Option Addr) (kV doc pm:Value) (an:Option Addr) (cdv ct:Value) (osl:Array (Option Value)),
  fd=W.fnOf x qual (d7 st) (j6 st) (u0 st) .none kV doc pm an cdv ct/\K.lookup f=some ⟨oc,od,.func fd,osl⟩/\W.codeIn K cdv qual=true
 kp:W.keepIn K (.ref f)=true
section
variable{P:Program}{w:World}
theorem Fun.ok{st:Stmt}{f:Addr}{k:Nat}(F:Fun K x qual st f fd)(S:FnScope N ps (u0 st))(len:∀vs H Q E,sp vs H Q E->vs.length=ps.length)
  (hbody:∀(cdv:Value) (A:Around) (outer:List Env) (s:Shared) (H:Hp) (vs:List V) (Q:VK) (E:XK),Room k (A.deeper (envOfC qual (u0 st) s.heap.objs.size f cdv))->sp vs H Q E ->
   ∃t,PSs (sa0 CX0 P w K mg base N qual (u0 st) f cdv A outer s H E).nox (j6 st) t/\t { nx:=λ_ H'=>Q .non H',rt:=Q } (start N vs) H):FnOk P w K mg base CX0 (k+1) f fd ps sp:=by
 obtain⟨oc,od,kV,Z,pm,an,cdv,ct,Y,rfl,lk,O⟩:=F.ex;refine co0 lk O S len λA outer s H vs Q E hr U=>?_
 obtain⟨t,h,q⟩:=hbody cdv A outer s H vs Q E hr U;exact⟨t,h.nox,q⟩
theorem Fun.binds{st:Stmt}{f:Addr}{ps:List Str}(F:Fun K x qual st f fd)
  (h:∀(kV doc pm:Value) (an:Option Addr) (cdv ct:Value) (us:List Value),us.length=ps.length->bindArgs (W.fnOf x qual (d7 st) (j6 st) (u0 st) .none kV doc pm an cdv ct) ⟨us,[]⟩=pure (ps.zip us)):Binds K fd ps []:=by
 obtain⟨oc,od,kV,doc,pm,an,cdv,ct,O,rfl,lk,S⟩:=F.ex;exact .all (h kV doc pm an cdv ct)
theorem Y7{st:Stmt}{f:Addr}{oc:Value}{an:Option Addr}{osl:Array (Option Value)}{kV doc pm cdv ct:Value}(l:K.lookup f=some ⟨oc,od,.func (W.fnOf x qual (d7 st) (j6 st) (u0 st) .none kV doc pm an cdv ct),osl⟩)
  (c:W.codeIn K cdv qual=true) (k:W.keepIn K (.ref f)=true):Fun K x qual st f (W.fnOf x qual (d7 st) (j6 st) (u0 st) .none kV doc pm an cdv ct):=⟨⟨oc,od,kV,doc,pm,an,cdv,ct,osl,rfl,l,c⟩,k⟩
end
noncomputable def Same(H H':Hp):Prop:=∀b o,H b=some o->H' b=some o
theorem Same.refl(H:Hp):Same H H:=λ_ _ h=>h
theorem Same.trans(a:Same H H1)(b:Same H1 H2):Same H H2:=λc o h=>b c o (a c o h)
theorem Same.free(e:Same H H'){l:Addr}(h:H' l=Option.none):H l=Option.none:=by
 cases q:H l with
 | none=>rfl
 | some o =>
  rw[e l o q] at h;cases h
noncomputable def Its(x:Str):It:=⟨λi _=>i<x.cps.size,λi H v H'=>H'=H/\∃c,x.cps[i]?=some c/\v=.str ⟨#[c]⟩,λi _=>x.cps.size<=i⟩
theorem l40{P:Program}{w:World}{K:W.Frag}{tg:Expr}(it:Addr)(T:String)(hT:T = "str_ascii_iterator"∨T = "str_iterator")(x:Str)(t:Tok) :
  Turn P w K tg (Its x) [it] it (λi h=>h.IsStrIter it T x t i) where
 mem:=by simp
 obj:=λi h st b hb=>by
  have e:b=it:=by simpa using hb
  subst e;obtain⟨o,e,c,d⟩:=st;exact⟨o,e,λv z=>by rw[d] at z;cases z⟩
 keep:=λi h h' st k=>by
  obtain⟨o,e,r⟩:=st;exact⟨o,k it (by simp) o e,r⟩
 item:=by
  intro X hP hw hK hc i pins s σ H E I hf st hg;subst hP hw hK;have Y:i<x.cps.size:=hg;have hx:x.cps[i]?=some x.cps[i]:=by simp[Y]
  obtain⟨f0,f1,f2,f3,f4,f5⟩:=hf it (by simp);have S:∀h',h'.IsStrIter it T x t (i+1)->Heap.SameBut it s.heap h' ->
    ∃u,(some (Value.str ⟨#[x.cps[i]]⟩ s.toks))=some u/\wpAny (model X.prog X.w) X.A (letOwnedTupleGo tg (.ref it) u) (λ_ s2=>∃x_1 H',Inv X pins σ H' s2/\RelV x_1 u/\(Its x).yld i H x_1 H'/\s2.heap.IsStrIter it T x t (i+1)/\∀b∈[it],H' b=none) E { s with heap:=h',toks:=s.toks+1 }:=by
   intro h' O sb;have I1:Inv X pins σ H { s with heap:=h',toks:=s.toks+1 }:=I.turned (λb o hb e=>(sb.2 b hb).trans e) f0 f1 f3 f4 f5;obtain⟨o,e,c,d⟩:=id O;refine⟨_,rfl,m60 (s:={ s with heap:=h',toks:=s.toks+1 }) (n:=T) e c d (by rcases hT with rfl|rfl<;>decide) ⟨.str ⟨#[x.cps[i]]⟩,H,I1,⟨_,rfl⟩,⟨rfl,_,hx,rfl⟩,O,λb hb=>(hf b hb).1⟩⟩
  rcases hT with rfl|rfl
  ·exact wpAny_pyNext_ascii_item st hx λh' O sb=>S h' O sb
  ·exact wpAny_pyNext_wide_item st hx λh' O sb=>S h' O sb
 done:=by
  intro X hP hw hK hc i pins s σ H E I hf st hg;subst hP hw hK;have U:x.cps.size<=i:=hg;have hx:x.cps[i]?=none:=by simp[U]
  obtain⟨f0,f1,f2,f3,f4,f5⟩:=hf it (by simp);rcases hT with rfl|rfl
  ·exact wpAny_pyNext_ascii_end (I.ok.hd hc) st hx λh' eb=>⟨rfl,I.turned (t':=s.toks) (λb o hb e=>eb b o hb e) f0 f1 f3 f4 f5⟩
  ·exact wpAny_pyNext_wide_end (I.ok.hd hc) st hx λh' eb=>⟨rfl,I.turned (t':=s.toks) (λb o hb e=>eb b o hb e) f0 f1 f3 f4 f5⟩
 self:=λ_ _ _ _ _ st h=>by
  rcases hT with rfl|rfl
  ·exact wpAny_pyIter_striter_ascii st h
  ·exact wpAny_pyIter_striter_wide st h
noncomputable def Wq0(te:TE):TI:=fun σ H R=>te σ H λv H1=>∃x,v=.str x/\R (Its x) H1
theorem Yu0(he:PE X e te):PI X tg e (Wq0 te):=by
 intro pins s σ H R I h;refine thn (he pins s σ H _ I h) λv s1 ⟨y,H1,I1,r1,q1⟩=>?_
 obtain⟨x,rfl,q⟩:=q1;obtain⟨t,rfl⟩:=r1;have fp:∀(o:Obj),∀b∈[s1.heap.objs.size],xu0 X pins H1 b:=λo b hb=>by
  have e:b=s1.heap.objs.size:=by simpa using hb
  subst e;exact I1.fpOk (A1 _) (I1.hok.fresh (A1 _))
 cases ha:x.cps.all (·<128) with
 | true =>
  exact wpAny_pyIter_ascii ha ⟨s1.heap.objs.size,[s1.heap.objs.size],_,_,H1,rfl,I1.kept (t':=s1.toks) λb o e=>B0 _ e,l40 _ "str_ascii_iterator" (.inl rfl) x t,⟨_,C6 _ rfl,rfl,rfl⟩,fp default,q⟩
 | false =>
  exact wpAny_pyIter_wide ha ⟨s1.heap.objs.size,[s1.heap.objs.size],_,_,H1,rfl,I1.kept (t':=s1.toks) λb o e=>B0 _ e,l40 _ "str_iterator" (.inr rfl) x t,⟨_,C6 _ rfl,rfl,rfl⟩,fp default,q⟩
noncomputable def X8(X:Cx)(scope:Scope)(cl:List (Str×Addr))(N':List Str)(s:Shared)(H:Hp)(ex:List Addr):Cx :=
 { X with N:=N',s₀:=s,H₀:=H,env:=compEnvC scope cl s.heap.objs.size X.env,outer:=X.stack,ex:=ex,fn:=λ_=>false,pn:=[],xe:=λ_ _=>False }
structure CompOk(sc scope:Scope)(N N':List Str)(n:Nat)(caps:List Nat):Prop where
 kind:scope.kind=.function
 nocell:∀y∈scope.names,y.2≠.cell
 loc:∀y∈scope.names,y.2=.local->scope.names.lookup y.1=some .local
 free:∀y∈scope.names,y.2=.free->sc.names.lookup y.1=some .cell∨sc.names.lookup y.1=some .free
 nd:N'.Nodup
 len:N'.length=n+caps.length
 cap:∀k∈List.range caps.length,N'[n+k]?=(caps[k]?).bind (N[·]?)/\(N'[n+k]?).all (λy=>scope.names.lookup y==some .free)=true
noncomputable def X3(n:Nat)(caps:List Nat)(σ:St):St:=List.replicate n none++caps.map λj=>(σ[j]?).join
theorem nf0(n:Nat)(caps:List Nat)(σ:St):(X3 n caps σ).length=n+caps.length:=by simp[X3]
theorem vf0{env:Env}:∀(names:List (Str×NameKind)),(∀x∈names,x.2=.free->∃c,env.cells.lookup x.1=some c)->∀acc:List (Str×Addr),
  ∃cl:List (Str×Addr),(forIn names acc (λ(x:Str×NameKind) (cs:List (Str×Addr))=>if (x.2==.free)=true then do let a ← cellOf env x.1;pure (ForInStep.yield ((x.1,a)::cs)) else pure (ForInStep.yield cs)):Sem (List (Str×Addr)))=pure cl /\
   (∀y c,cl.lookup y=some c->env.cells.lookup y=some c∨acc.lookup y=some c)/\(∀x∈names,x.2=.free->∃c,cl.lookup x.1=some c)/\(∀y c,acc.lookup y=some c->∃c',cl.lookup y=some c')
 | [],_,acc=>⟨acc,rfl,λ_ _ h=>.inr h,(λ_ h=>nomatch h),λ_ c h=>⟨c,h⟩⟩
 | (n,k)::r,h,acc=>by
  cases hk:(k==NameKind.free) with
  | true =>
   have hk':k=.free:=by simpa using hk
   obtain⟨c,hc⟩:=h (n,k) A5 hk';obtain⟨cl,e,h1,h2,h3⟩:=vf0 r (λx hx=>h x (A7 _ hx)) ((n,c)::acc);refine⟨cl,?_,λy d hy=>?_,λx hx hf=>?_,λy d hy=>?_⟩
   ·rw[List.forIn_cons]
    simp only[hk,if_true,cellOf,hc,pure_bind];exact e
   ·rcases h1 y d hy with z|z
    ·exact .inl z
    ·rw[List.lookup_cons] at z
     cases q:(y==n) with
     | true =>
      rw[q] at z;cases z;have:y=n:=by simpa using q
      subst this;exact .inl hc
     | false =>
      rw[q] at z;exact .inr z
   ·rcases B1.mp hx with rfl|hx
    ·exact h3 n c (by simp[List.lookup_cons])
    ·exact h2 x hx hf
   ·by_cases q:y=n
    ·subst q
     exact h3 y c (by simp[List.lookup_cons])
    ·refine h3 y d ?_
     have:(y==n)=false:=by simpa using q
     rw[List.lookup_cons,this];exact hy
  | false =>
   obtain⟨cl,e,h1,h2,h3⟩:=vf0 r (λx hx=>h x (A7 _ hx)) acc;refine⟨cl,?_,h1,λx hx hf=>?_,h3⟩
   ·rw[List.forIn_cons]
    simp only[hk,Bool.false_eq_true,if_false,pure_bind];exact e
   ·rcases B1.mp hx with rfl|hx
    ·have:k=.free:=hf
     rw[this] at hk;exact absurd hk (by decide)
    ·exact h2 x hx hf
theorem yu0{env:Env}(h:∀x∈scope.names,x.2=.free->∃c,env.cells.lookup x.1=some c) :
  ∃cl:List (Str×Addr),closureFor scope env=pure cl/\(∀y c,cl.lookup y=some c->env.cells.lookup y=some c)/\∀x∈scope.names,x.2=.free->∃c,cl.lookup x.1=some c:=by
 obtain⟨cl,e,h1,h2,_⟩:=vf0 scope.names h [];refine⟨cl,?_,λy c hy=>(h1 y c hy).elim id (λz=>nomatch z),h2⟩;simp only[closureFor];rw[← bind_pure (forIn _ _ _)] at e
 first
  | exact e
  | (refine Eq.trans ?_ e;rfl)
theorem J8{env:Env}:∀(names:List (Str×NameKind)) (x:Str),
  (names.map λ(n,k)=>if (k==NameKind.free&&env.scope.kind==.function&&env.kindOf n==some .cell) then (n,NameKind.cell) else (n,k)).lookup x =
   (names.lookup x).map λk=>if (k==NameKind.free&&env.scope.kind==.function&&env.kindOf x==some .cell)=true then NameKind.cell else k
 | [],_=>rfl
 | (n,k)::r,x=>by
  have ih:=@J8 env r x;have l1:List.lookup x (((n,k)::r).map λ(n,k)=>if (k==NameKind.free&&env.scope.kind==.function&&env.kindOf n==some .cell) then (n,NameKind.cell) else (n,k)) =
    List.lookup x ((if (k==NameKind.free&&env.scope.kind==.function&&env.kindOf n==some .cell)=true then (n,NameKind.cell) else (n,k))::r.map λ(n,k)=>if (k==NameKind.free&&env.scope.kind==.function&&env.kindOf n==some .cell) then (n,NameKind.cell) else (n,k)):=rfl
  rw[l1,List.lookup_cons (as:=r)]
  by_cases hc:(k==NameKind.free&&env.scope.kind==.function&&env.kindOf n==some .cell)=true
  ·rw[if_pos hc,List.lookup_cons]
   cases hx:x==n with
   | true =>
    have e:x=n:=by simpa using hx
    subst e;show some NameKind.cell=some (if (k==NameKind.free&&env.scope.kind==.function&&env.kindOf x==some .cell)=true then NameKind.cell else k);rw[if_pos hc]
   | false=>exact ih
  ·rw[if_neg hc,List.lookup_cons]
   cases hx:x==n with
   | true =>
    have e:x=n:=by simpa using hx
    subst e;show some k=some (if (k==NameKind.free&&env.scope.kind==.function&&env.kindOf x==some .cell)=true then NameKind.cell else k);rw[if_neg hc]
   | false=>exact ih
section
variable{w:World}{s:Shared}
theorem s90{elt target iter:Expr}{ifs:List Expr}{scope:Scope}{pos:Pos}{it acc:Value}{env:Env}(I:Nat->Shared->Prop)
  (turn:∀n s,I n s->wpAny (model prog w) A (pyNext it) (λr s₁=>match r with
   | none=>R (.ok .next) s₁
   | some v=>wpAny (model prog w) A (letOwnedTupleGo target it v) (λ_ s₁'=>wpAny (model prog w) A (assign target env v) (λ_ s₂ =>
     wpAny (model prog w) A (forIn ifs true λc r=>if r=true then do let ok ← isTrue c env (eval c env);pure (ForInStep.yield ok) else pure (ForInStep.yield r)) (λok s₃ =>
      if ok=true then wpAny (model prog w) A (eval elt env) (λx s₄ =>
       wpAny (model prog w) A (call (.builtin "list.append") [acc,x]) (λ_ s₅=>∃m,m<n/\I m s₅) (λ_ _=>False) s₄) (λ_ _=>False) s₃
      else ∃m,m<n/\I m s₃) (λ_ _=>False) s₂) (λ_ _=>False) s₁') (λ_ _=>False) s₁) (λ_ _=>False) s)
  (n:Nat) (h:I n s) :
  codeAny (model prog w) A (.compLoop (.ListComp elt [⟨target,iter,ifs,0⟩] scope pos) 0 it acc env) R s:=by
 refine codeAny_loop rfl I (λn s hI=>?_) n h;show wpAny _ A ((compTurn (.ListComp elt [⟨target,iter,ifs,0⟩] scope pos) 0 it acc env).onRaise (λx=>do noteFrame x env;theTreesLotGoes x)) _ _ s;refine wpAny_noted ?_;rw[compTurn_list];refine A0 (L5 (A0 (B8 (turn n s hI) (λr s₁ h₁=>?_) λ_ _ h'=>h'.elim)));cases r with
 | none=>exact A3 h₁
 | some v =>
  refine A0 (B8 h₁ (λ_ s₁' O=>?_) λ_ _ h'=>h'.elim);refine A0 (B8 O (λ_ s₂ h₂=>A0 (B8 h₂ (λok s₃ h₃=>?_) λ_ _ h'=>h'.elim)) λ_ _ h'=>h'.elim);cases ok with
  | false=>exact A3 ⟨rfl,h₃⟩
  | true =>
   exact A0 (A0 (B8 h₃ (λx s₄ h₄=>A0 (B8 h₄ (λ_ s₅ h₅=>A3 (A3 ⟨rfl,h₅⟩)) λ_ _ h'=>h'.elim)) λ_ _ h'=>h'.elim))
end
noncomputable def PF(X:Cx)(ifs:List Expr)(t:TT):Prop :=
 ∀(pins:List (Addr×Obj)) (s:Shared) (σ:St) (H:Hp) (Q:Bool->Hp->Prop),Inv X pins σ H s->t σ H Q ->
  wpAny (model X.prog X.w) X.A (forIn ifs true λc r=>if r=true then do let ok ← isTrue c X.env (eval c X.env);pure (ForInStep.yield ok) else pure (ForInStep.yield r)) (TP X pins σ Q) X.xe s
theorem Zb0:PF X [] λ_ H Q=>Q true H:=λ_ _ _ H _ I h=>wpAny_tests_nil ⟨H,I,h⟩
theorem Yd0{t:TT}(h:PT X c t):PF X [c] t:=λpins s σ H Q I q=>wpAny_tests_one (h pins s σ H Q I q)
noncomputable def Wk(σ σ':St):Prop:=σ'.length=σ.length/\∀(j:Nat) (v:V),σ[j]?=some (some v)->σ'[j]?=some (some v)
noncomputable def m80(n:Nat)(caps:List Nat)(wi:TI)(g:TG)(tt:TT)(te:TE):TE:=fun σ H Q=>wi σ H λJ H1=>∀D,H1 D=none ->
 ∃W:Nat->Nat->List V->Hp->Prop,(∃m,W 0 m [] (upd H1 D (.lst [])))/\∀i m ys H2,W i m ys H2 ->
  (J.stop i H2/\Q (.ref D) H2)∨(J.go i H2/\∀x H3,J.yld i H2 x H3->g x (X3 n caps σ) H3 fun σ4 H4=>Wk (X3 n caps σ) σ4/\tt σ4 H4 λb H5 =>
   if b=true then te σ4 H5 λy H6=>H6 D=some (.lst ys)/\ys.length<sizeLine/\∃m',m'<m/\W (i+1) m' (ys++[y]) (upd H6 D (.lst (ys++[y]))) else ∃m',m'<m/\W (i+1) m' ys H5)
section
variable{g:TG}
noncomputable def qh0(X:Cx)(pins:List (Addr×Obj))(H:Hp)(C:Addr):Prop :=
 H C=none/\C≠X.env.locals/\X.s₀.heap.objs.size<=C/\(∀x c,X.env.cells.lookup x=some c->c≠C)/\∀p∈X.pn++pins,p.1≠C
theorem n60{pins:List (Addr×Obj)}{σ:St}{H2:Hp}{s2:Shared}{it:Addr}{fp:List Addr}{tn:Nat->Heap->Prop}{J:It}{cl:List (Str×Addr)}{Q:VK}{RR:Value->Addr->Result->Shared->Prop}{E:Value->Shared->Prop}
  (hc:X.calm=true) (hsc:X.env.scope=sc) (ok:CompOk sc scope X.N N' n caps)
  (hcl1:∀y c,cl.lookup y=some c->X.env.cells.lookup y=some c) (hcl2:∀x∈scope.names,x.2=.free->∃c,cl.lookup x.1=some c)
  (hg:∀s H ex,PG (X8 X scope cl N' s H ex) tg g) (ht:∀s H ex,PF (X8 X scope cl N' s H ex) ifs tt) (he:∀s H ex,PE (X8 X scope cl N' s H ex) elt te)
  (I2:Inv X pins σ H2 s2) (T:Turn X.prog X.w X.K tg J fp it tn) (st2:tn 0 s2.heap) (f2:∀b∈fp,xu0 X pins H2 b)
  (q:∀D,H2 D=none->∃W:Nat->Nat->List V->Hp->Prop,(∃m,W 0 m [] (upd H2 D (.lst [])))/\∀i m ys H2,W i m ys H2 ->
   (J.stop i H2/\Q (.ref D) H2)∨(J.go i H2/\∀x H3,J.yld i H2 x H3->g x (X3 n caps σ) H3 fun σ4 H4=>Wk (X3 n caps σ) σ4/\tt σ4 H4 λb H5 =>
    if b=true then te σ4 H5 λy H6=>H6 D=some (.lst ys)/\ys.length<sizeLine/\∃m',m'<m/\W (i+1) m' (ys++[y]) (upd H6 D (.lst (ys++[y]))) else ∃m',m'<m/\W (i+1) m' ys H5))
  (hend:∀(D C:Addr) (H':Hp) (s':Shared) (m:Str->Option Value),Inv X pins σ H' s'->qh0 X pins H' C->s'.heap.Ns C m->Q (.ref D) H'->RR (.ref D) C (.ok .next) s') :
  wpAny (model X.prog X.w) X.A (newList []) (λacc s₃=>wpAny (model X.prog X.w) X.A (newFunctionEnv scope X.env.globals cl [] X.env.qual none .none (some X.env)) (λcenv s₄ =>
   codeAny (model X.prog X.w) X.A (.compStart (.ListComp elt [⟨tg,iter,ifs,0⟩] scope pos) 0 (.ref it) acc { cenv with scope:=relabel scope X.env }) (RR acc cenv.locals) s₄) E s₃) E s2:=by
 refine D6 (y8 ok.nocell (by intro y hy;simp at hy) (λh₁ Y a0=>?_) ok.kind);dsimp only at Y a0 ⊢;obtain⟨D,hD⟩:∃D,D=s2.heap.objs.size:=⟨_,rfl⟩;have I3:Inv X pins σ (upd H2 s2.heap.objs.size (.lst [])) { s2 with heap:=s2.heap.push { cls:=.type "list",data:=.seq ([]:List Value).toArray } }:=I2.lnew (its:=[]) (t':=s2.toks) .nil (C3 _);have e4:H2 s2.heap.objs.size=none:=I2.fresh;obtain⟨W,⟨m0,w0⟩,b1⟩:=q s2.heap.objs.size e4;generalize hs3:({ s2 with heap:=s2.heap.push { cls:=.type "list",data:=.seq ([]:List Value).toArray } }:Shared)=s3 at *;have b9:s2.heap.push { cls:=.type "list",data:=.seq ([]:List Value).toArray }=s3.heap:=by rw[← hs3]
 have k2:s2.toks=s3.toks:=by rw[← hs3]
 rw[b9] at Y a0 ⊢;generalize hH3:upd H2 s2.heap.objs.size (HO.lst [])=H3 at *;rw[← hD] at b1 hH3 e4 ⊢;have U:∀b o,s3.heap.get? b=some o->h₁.get? b=some o:=λb o e=>a0.extBut b o (B6 (A4 e)) (B0 _ e)
 have a7:∀b o,s2.heap.get? b=some o->s3.heap.get? b=some o:=λb o e=>by rw[← b9];exact B0 _ e
 have e6:∀b∈fp,b<s3.heap.objs.size:=λb hb=>by
  obtain⟨o,e,_⟩:=T.obj _ _ st2 b hb;exact A4 (a7 b o e)
 have h4:∀b∈fp,b≠D:=λb hb z=>by
  obtain⟨o,e,_⟩:=T.obj _ _ st2 b hb;rw[z,hD] at e;exact absurd (A4 e) (C1 _)
 obtain⟨X',O⟩:∃X',X'=X8 X scope cl N' s3 H3 fp:=⟨_,rfl⟩;have okX:X'.Ok:=by
  subst O;refine⟨I3.ok.mod,ok.kind,I3.ok.glob,I3.ok.blt,A1 _,λx y c h1 h2=>I3.ok.inj x y c (hcl1 x c h1) (hcl1 y c h2),λx hx=>?_,λx c h _=>absurd h (by simp[X8]),I3.ok.hd,I3.ok.frames,.inl rfl,
   λb hb=>⟨B6 (e6 b hb),λx c e=>(f2 b hb).2.2.2.2.1 x c (hcl1 x c e)⟩,λb o e=>I3.bs b o e,A9 I3.ok.bsz I3.sz,λb o e hb=>?_,λb hb hf=>?_,I3.stack,I3.stkFree⟩
  ·have a5:((relabel scope X.env).names.lookup x=some .cell)∨((relabel scope X.env).names.lookup x=some .free):=hx
   have q2:=J8 (env:=X.env) scope.names x;have q3:(relabel scope X.env).names.lookup x=(scope.names.lookup x).map λk=>if (k==NameKind.free&&X.env.scope.kind==.function&&X.env.kindOf x==some .cell)=true then NameKind.cell else k:=q2
   cases e:scope.names.lookup x with
   | none =>
    rw[q3,e] at a5;rcases a5 with z|z<;>cases z
   | some k =>
    have hk:k=.free:=by
     rw[q3,e] at a5;have nc:=ok.nocell (x,k) (C8 e);cases k<;>first
      | rfl
      | exact absurd rfl nc
      | (rcases a5 with z|z<;>simp at z)
    subst hk;exact hcl2 (x,.free) (C8 e) rfl
  ·rcases (f2 b hb).2.2.2.1 with z|z
   ·exact I3.ok.noex b o e z
   ·exact absurd (B5 (A4 (I3.ok.bs b o e).1) z) (C1 _)
  ·rcases B1.mp (I3.stkSub b hf) with z|z
   ·exact(f2 b hb).2.1 z
   ·exact(f2 b hb).2.2.1 z
 have I4:Inv X' [] (X3 n caps σ) H3 { s3 with heap:=h₁,toks:=s2.toks+([]:List (Str×Value)).length }:=by
  refine⟨okX,?_,?_,?_,?_,λx c e=>?_,?_,λx c e=>?_,λp hp=>?_,(by subst O;exact I3.hok.kept U),?_⟩
  ·subst O;rfl
  ·exact I3.bare
  ·subst O;exact Un.kept U
  ·subst O
   refine⟨_,Y,λi x v e1 e2 e3=>?_⟩;have hi:n<=i:=by
    by_cases hi:i<n
    ·unfold X3 at e2
     rw[List.getElem?_append_left (by simpa using hi),List.getElem?_replicate,if_pos hi] at e2;cases e2
    ·omega
   obtain⟨k,rfl⟩:∃k,i=n+k:=⟨i - n,by omega⟩;have hk:k<caps.length:=by
    have:=(K2.mp e1).1;have e5:(X8 X scope cl N' s3 H3 fp).N.length=n+caps.length:=ok.len;omega
   obtain⟨c1,c2⟩:=ok.cap k (B4.mpr hk);have d1:N'[n+k]?=some x:=e1;unfold X3 at e2;rw[List.getElem?_append_right (by simp),List.length_replicate,Nat.add_sub_cancel_left,List.getElem?_map] at e2;obtain⟨j,hj⟩:∃j,caps[k]?=some j:=⟨caps[k],by simp[hk]⟩;rw[hj] at e2 c1;have h7:X.N[j]?=some x:=by rw[← d1,c1];rfl
   have a4:(σ[j]?).join=some v:=B2 e2;have f6:σ[j]?=some (some v):=by
    cases q:σ[j]? with
    | none=>rw[q] at a4;cases a4
    | some o=>rw[q] at a4;rw[show o=some v from a4]
   rw[d1] at c2;have S:scope.names.lookup x=some .free:=by simpa using c2
   have a6:=ok.free (x,.free) (C8 S) rfl;obtain⟨m,hn,hl⟩:=I3.loc;obtain⟨u,ru,l⟩:=hl j x v h7 f6 (by
    rcases a6 with z|z
    ·exact .inr (.inl (by rw[hsc];exact z))
    ·exact .inr (.inr (by rw[hsc];exact z)))
   refine⟨u,ru,.inr ⟨?_,?_⟩⟩
   ·have q3:(relabel scope X.env).names.lookup x=(scope.names.lookup x).map λk=>if (k==NameKind.free&&X.env.scope.kind==.function&&X.env.kindOf x==some .cell)=true then NameKind.cell else k:=J8 scope.names x
    rw[S] at q3;show (relabel scope X.env).names.lookup x=_∨(relabel scope X.env).names.lookup x=_;rw[q3]
    by_cases hcc:(NameKind.free==NameKind.free&&X.env.scope.kind==.function&&X.env.kindOf x==some .cell)=true
    ·left;simp only[Option.map_some,if_pos hcc]
    ·right;simp only[Option.map_some,if_neg hcc]
   ·obtain⟨c',c9⟩:=hcl2 (x,.free) (C8 S) rfl
    rcases l with⟨h3,_⟩|⟨_,c,j1,c6⟩
    ·have b0:X.env.scope.names.lookup x=some .local:=h3
     rw[hsc] at b0;rcases a6 with z|z<;>(rw[b0] at z;cases z)
    ·have:=hcl1 x c' c9
     rw[j1] at this;cases this;obtain⟨o,ho,hd⟩:=c6;exact⟨_,c9,o,U _ o ho,hd⟩
  ·have e':cl.lookup x=some c:=by subst O;exact e
   obtain⟨v,o,ho,hd⟩:=I3.cell x c (hcl1 x c e');exact⟨v,o,U _ o ho,hd⟩
  ·subst O;exact I3.hok.fresh (A1 _)
  ·have e':cl.lookup x=some c:=by subst O;exact e
   exact I3.freeC x c (hcl1 x c e')
  ·subst O;exact absurd hp (by simp[X8])
  ·subst O
   show _=N'.length;rw[nf0,ok.len]
 have b2:X'.calm=true:=by subst O;exact hc
 have Z:∀{H':Hp},(∀b∈fp,H' b=none)->∀b∈fp,xu0 X' [] H' b:=λ{H'} hn b hb=>by
  subst O;refine⟨hn b hb,B6 (e6 b hb),λhf=>?_,.inl hb,λx c e=>(f2 b hb).2.2.2.2.1 x c (hcl1 x c e),λp hp=>absurd hp (by simp[X8])⟩;rcases B1.mp (I3.stkSub b hf) with z|z
  ·exact(f2 b hb).2.1 z
  ·exact(f2 b hb).2.2.1 z
 have k0:∀b∈fp,H3 b=none:=λb hb=>by rw[← hH3,W4 (h4 b hb)];exact(f2 b hb).1
 have d2:tn 0 h₁:=T.keep _ _ _ st2 λb hb o e=>U b o (a7 b o e)
 have loop:∀s4:Shared,s4={ s3 with heap:=h₁,toks:=s2.toks+([]:List (Str×Value)).length } ->
   codeAny (model X.prog X.w) X.A (.compLoop (.ListComp elt [⟨tg,iter,ifs,0⟩] scope pos) 0 (.ref it) (.ref D) X'.env) (RR (.ref D) s3.heap.objs.size) s4:=by
  rintro s4 rfl;refine s90 (λk s'=>∃i ys H',Inv X' [] (X3 n caps σ) H' s'/\tn i s'.heap/\(∀b∈fp,H' b=none)/\W i k ys H') ?_ m0 ⟨0,[],H3,I4,d2,k0,w0⟩;rintro k s5 ⟨i,ys,H5,I5,f0,c7,w5⟩;have eP:X'.prog=X.prog:=by subst O;rfl
  have ew:X'.w=X.w:=by subst O;rfl
  have eK:X'.K=X.K:=by subst O;rfl
  have eA:X'.A=X.A:=by subst O;rfl
  rcases b1 i k ys H5 w5 with⟨stop,qe⟩|⟨go,step⟩
  ·have T':=T.done X' eP ew eK b2 i [] s5 (X3 n caps σ) H5 (λ_ _=>False) I5 (Z c7) f0 stop
   rw[eA] at T';refine thn T' λr s6 ⟨hr,I6⟩=>?_
   subst hr;have j2:Un (frs X.stack) fp H3 H5 s3.heap s6.heap:=by have:=I6.base;subst O;exact this
   have f9:s6.os=s3.os:=by have:=I6.os;subst O;exact this
   have f1:HOk X.prog X.w H5 s6.heap:=by have:=I6.hok;subst O;exact this
   have IX:Inv X pins σ H5 s6:=I3.call' f9 j2 f1 I6.bare λb hb=>⟨(f2 b hb).2.2.2.1,(f2 b hb).2.1,(f2 b hb).2.2.2.2.1,(f2 b hb).2.2.2.2.2⟩
   obtain⟨m6,h8,_⟩:=I6.loc;have f3:s6.heap.Ns s3.heap.objs.size m6:=by subst O;exact h8
   refine hend D s3.heap.objs.size H5 s6 m6 IX ⟨by have:=I6.free;subst O;exact this,D8 I3.lt,I3.sz,λx c e z=>?_,λp hp z=>?_⟩ f3 qe
   ·obtain⟨v,qc⟩:=I3.cell x c e
    exact absurd (B5 qc.lt (D9 z.symm)) (C1 _)
   ·exact absurd (B5 (A4 (I3.pin p hp).1) (D9 z.symm)) (C1 _)
  ·have T':=T.item X' eP ew eK b2 i [] s5 (X3 n caps σ) H5 (λ_ _=>False) I5 (Z c7) f0 go
   rw[eA] at T';refine thn T' λr s6 ⟨u,hr,h6⟩=>?_
   subst hr;refine thn h6 λ_ s7 ⟨x,H7,I7,r7,y7,c0,h5⟩=>?_
   have h9:=I7.pinned (Z h5) (T.obj _ _ c0);have e0:=hg s3 H3 fp;have c8:=ht s3 H3 fp;have d3:=he s3 H3 fp;rw[← O] at e0 c8 d3;have g1:=e0 _ s7 (X3 n caps σ) H7 x u _ h9 r7 (step x H7 y7);rw[eP,ew,eA] at g1;have a2:X'.xe=λ_ _=>False:=by subst O;rfl
   rw[a2] at g1;refine thn g1 λ_ s8 ⟨σ8,H8,I8,a3,q8⟩=>?_
   have t1:=c8 _ s8 σ8 H8 _ I8 q8;rw[eP,ew,eA,a2] at t1;refine thn t1 λb s9 ⟨H9,I9,q9⟩=>?_
   have a9:∀{σa:St} {Ha:Hp} {sa:Shared} {a8:List V} {ma:Nat},Inv X' ([]++vb0 fp s7.heap) σa Ha sa->σa.length=(X3 n caps σ).length->(∀(j:Nat) v,(X3 n caps σ)[j]?=some (some v)->σa[j]?=some (some v))->W (i+1) ma a8 Ha ->
     ∃i ys H',Inv X' [] (X3 n caps σ) H' sa/\tn i sa.heap/\(∀b∈fp,H' b=none)/\W i ma ys H':=λ{σa Ha sa a8 ma} Ia hl hw wa=>by
    refine⟨i+1,a8,Ha,(Ia.weak hl.symm hw).unpinned,T.keep _ _ _ c0 λb hb o e=>(Ia.pin (b,o) (C0 _ (C0 _ (z80 hb e)))).1,λb hb=>?_,wa⟩;obtain⟨o,e,d⟩:=T.obj _ _ c0 b hb;exact(Ia.pin (b,o) (C0 _ (C0 _ (z80 hb e)))).2.1
   cases b with
   | false =>
    rw[if_neg A8];rw[if_neg A8] at q9;obtain⟨m',hm,w9⟩:=q9;exact⟨m',hm,a9 I9 a3.1 a3.2 w9⟩
   | true =>
    rw[if_pos rfl];rw[if_pos rfl] at q9;have e1:=d3 _ s9 σ8 H9 _ I9 q9;rw[eP,ew,eA,a2] at e1;refine thn e1 λv f8 ⟨y,g2,k1,g3,f4,f5,m',hm,g6⟩=>?_
    have a1:=vw0 (X:=X') _ f8 σ8 g2 (.ref D) [y] (.ref D) [v] (λ_ H'=>W (i+1) m' (ys++[y]) H') k1 rfl (.cons g3 .nil) ⟨D,ys,y,rfl,rfl,f4,f5,g6⟩;rw[eP,ew,eA,a2] at a1;refine thn a1 λ_ k3 ⟨_,k4,f7,_,h0⟩=>?_
    exact⟨m',hm,a9 f7 a3.1 a3.2 h0⟩
 subst O;exact i6 (loop _ (by rw[← hs3])) (T.self X.A 0 _ _ _ d2 (loop _ (by rw[← hs3])))
theorem bc0(hc:X.calm=true)(hsc:X.env.scope=sc)(ok:CompOk sc scope X.N N' n caps)(hi:PI X tg iter wi)
  (hg:∀cl s H ex,PG (X8 X scope cl N' s H ex) tg g) (ht:∀cl s H ex,PF (X8 X scope cl N' s H ex) ifs tt) (he:∀cl s H ex,PE (X8 X scope cl N' s H ex) elt te)
  (hs:∀x,foldedSetIterable iter X.env x=pure x:=by intro _;rfl) :
  PE X (.ListComp elt [⟨tg,iter,ifs,0⟩] scope pos) (m80 n caps wi g tt te):=by
 intro pins s σ H Q I h;obtain⟨cl,O,U,S⟩:=yu0 (env:=X.env) (scope:=scope) λx hx hf=>I.ok.has x.1 (by
  rcases ok.free x hx hf with z|z
  ·exact .inl (by show X.env.scope.names.lookup x.1=_;rw[hsc];exact z)
  ·exact .inr (by show X.env.scope.names.lookup x.1=_;rw[hsc];exact z))
 rw[eval_ListComp];refine P5 (use:=none) rfl hs O ok.kind ok.loc (thn (hi pins s σ H _ I h) λv s1 h1=>thn h1 λa0 s2 h2=>?_);obtain⟨it,fp,tn,J,H2,rfl,I2,T,Y,f2,q2⟩:=h2;refine n60 (Q:=Q) (RR:=λZ C=>compPost (model X.prog X.w) X.A X.xe none (EP X pins σ Q) Z C) hc hsc ok U S (hg cl) (ht cl) (he cl) I2 T Y f2 q2 ?_;intro D C H' s' m IX as hn qe;refine⟨m,hn,λh' sb=>⟨.ref D,H',IX.turned (t':=s'.toks) (λb o hb e=>(sb.2 b hb).trans e) as.1 as.2.1 (.inr as.2.2.1) as.2.2.2.1 as.2.2.2.2,rfl,qe⟩⟩
theorem if0{py spos:Pos}(hN:X.N.Nodup)(hiN:X.N[i]?=some y)(hy:Loc X.env.scope y)(hc:X.calm=true)(hsc:X.env.scope=sc)(ok:CompOk sc scope X.N N' n caps)(hi:PI X tg iter wi)
  (hg:∀cl s H ex,PG (X8 X scope cl N' s H ex) tg g) (ht:∀cl s H ex,PF (X8 X scope cl N' s H ex) ifs tt) (he:∀cl s H ex,PE (X8 X scope cl N' s H ex) elt te)
  (hsw:swapsWith (.ListComp elt [⟨tg,iter,ifs,0⟩] scope pos) (some (.Name y py)) spos.line X.env=pure true:=by rfl)
  (hs:∀x,foldedSetIterable iter X.env x=pure x:=by intro _;rfl)
  (hf:X.fn y=true∨X.env.scope.names.lookup y=some .local:=by first|exact .inl rfl|exact .inr rfl|assumption) :
  PS X (.Assign [.Name y py] (.ListComp elt [⟨tg,iter,ifs,0⟩] scope pos) spos) (λD σ H=>m80 n caps wi g tt te σ H λv H'=>D.nx (σ.set i (some v)) H'):=by
 intro pins s σ H D I h;obtain⟨cl,O,U,S⟩:=yu0 (env:=X.env) (scope:=scope) λx hx hf=>I.ok.has x.1 (by
  rcases ok.free x hx hf with z|z
  ·exact .inl (by show X.env.scope.names.lookup x.1=_;rw[hsc];exact z)
  ·exact .inr (by show X.env.scope.names.lookup x.1=_;rw[hsc];exact z))
 rw[exec_Assign_Name_used _ _ _ _ hsw];refine A0 (L5 (A0 ?_));show wpAny _ X.A (do let _ ← comprehension (.ListComp elt [⟨tg,iter,ifs,0⟩] scope pos) scope X.env _ (newList []) false (eval iter X.env) (some (assign (.Name y py) X.env))) _ _ s;refine A0 (B8 (P5 (use:=some (assign (.Name y py) X.env)) (Q:=λ_ s'=>SP X pins D .next s') rfl hs O ok.kind ok.loc
  (thn (hi pins s σ H _ I h) λv s1 h1=>thn h1 λa4 s2 h2=>?_)) (λ_ s' hq=>A3 (A3 hq)) λ_ _ e=>e)
 obtain⟨it,fp,tn,J,H2,rfl,I2,T,Z,f2,q2⟩:=h2;refine n60 (Q:=λv H'=>D.nx (σ.set i (some v)) H') (RR:=λa3 C=>compPost (model X.prog X.w) X.A X.xe (some (assign (.Name y py) X.env)) (λ_ s'=>SP X pins D .next s') a3 C) hc hsc ok U S (hg cl) (ht cl) (he cl) I2 T Z f2 q2 ?_;intro Da C H' s' m IX as hn qe;show wpAny _ X.A (assign (.Name y py) X.env (.ref Da)) _ _ _;refine X1 (se0 IX hN hiN hy (v:=.ref Da) rfl (λY a2 ⟨a,sb,ha⟩=>?_) hf);have a0:C≠a:=by
  rcases ha with z|z
  ·rw[z];exact as.2.1
  ·exact B3 (as.2.2.2.1 y a z)
 refine⟨m,hn.sameBut sb a0,λh' a1=>⟨_,H',a2.turned (t':=Y.toks) (λb o hb e=>(a1.2 b hb).trans e) as.1 as.2.1 (.inr as.2.2.1) as.2.2.2.1 as.2.2.2.2,qe⟩⟩
end
end L2
namespace DL
open Spec PyProof.Rows
inductive D where
 | non|bl (b:Bool)|int (i:Int)|str (x:Str)|tup (ds:List D)|lst (ds:List D)|dct (ks:Sum (List (Sum Int Str)) (List (List (Sum Int Str)))) (ds:List D)
 deriving Inhabited
variable{ds:List DL.D}{d0:DL.D}
@[simp] noncomputable def unl:D->D
 | .tup [_,d]=>d
 | d=>d
@[simp] noncomputable def isL:D->Bool
 | .tup _=>true
 | _=>false
inductive Sl where
 | un|sh (d:D)|ow (d:D)
 | ex (c:Str) (n:Option Int)
abbrev Ds:=List Sl
inductive Res where
 | nx (δ:Ds)|rt (d:D)|bk (δ:Ds)|ct (δ:Ds)|rf (d:D)
variable{f:DL.D->DL.Ds->Option DL.Ds}{g ge ga gb:DL.Ds->Option DL.D}{gt:DL.Ds->Option Bool}{δ δ':DL.Ds}{gi gA:DL.Ds->Option (List DL.D)}
abbrev GE:=Ds->Option D
abbrev GB:=Ds->Option Bool
variable{g0:DL.GE}
abbrev GA:=Ds->Option (List D)
abbrev GS:=Ds->Option Res
@[simp] noncomputable def asB:D->Option Bool
 | .bl b=>some b
 | _=>none
variable{G:DL.GS}
@[simp] noncomputable def asI:D->Option Int
 | .int i=>some i
 | _=>none
@[simp] noncomputable def gv(i:Nat):GE:=fun δ=>match δ[i]? with
 | some (.sh d)=>some d
 | _=>none
@[simp] noncomputable def gc(d:D):GE:=λ_=>some d
@[simp] noncomputable def o2(ga gb:GE)(f:D->D->Option D):GE:=fun δ=>(ga δ).bind λx=>(gb δ).bind λy=>f x y
@[simp] noncomputable def ob(g:GE):GB:=fun δ=>(g δ).bind asB
@[simp] noncomputable def T7(g:GB):GB:=fun δ=>(g δ).map (!·)
@[simp] noncomputable def Q9(gt gu:GB):GB:=fun δ=>(gt δ).bind λt=>if t=true then gu δ else some false
@[simp] noncomputable def S5(gt gu:GB):GB:=fun δ=>(gt δ).bind λt=>if t=true then some true else gu δ
@[simp] noncomputable def K8(ga gb:GE):GE:=fun δ=>(ob ga δ).bind λt=>if t=true then gb δ else some (.bl false)
@[simp] noncomputable def orG(ga gb:GE):GE:=fun δ=>(ob ga δ).bind λt=>if t=true then some (.bl true) else gb δ
@[simp] noncomputable def lo0(ga:GE):GE:=fun δ=>(ob ga δ).map λt=>.bl (!t)
@[simp] noncomputable def z9:GA:=λ_=>some []
@[simp] noncomputable def z7(g:GE)(gA:GA):GA:=fun δ=>(g δ).bind λd=>(gA δ).map λds=>d::ds
@[simp] noncomputable def W5(gA:GA):GE:=fun δ=>(gA δ).bind λds=>if ds.length<=sizeLine then some (.tup ds) else none
@[simp] noncomputable def j4(gA:GA):GE:=fun δ=>(gA δ).bind λds=>if ds.length<=sizeLine then some (.lst ds) else none
@[simp] noncomputable def oA(gA:GA)(f:List D->Option D):GE:=fun δ=>(gA δ).bind f
@[simp] noncomputable def w40(f:D->Bool)(g:GE):GE:=fun δ=>(g δ).map λd=>.bl (f d)
@[simp] noncomputable def K9(d:D):Option D:=match d with
 | .int i=>some (.int (-i))
 | _=>none
@[simp] noncomputable def unG(f:D->Option D)(g:GE):GE:=fun δ=>(g δ).bind f
@[simp] noncomputable def v7(G1 G2:GS):GS:=fun δ=>match G1 δ with
 | some (.nx δ')=>G2 δ'
 | r=>r
@[simp] noncomputable def p6:GS:=fun δ=>some (.nx δ)
@[simp] noncomputable def o9(g:GE):GS:=fun δ=>(g δ).map .rt
@[simp] noncomputable def gN(i:Nat):D->Ds->Option Ds:=λd δ=>some (δ.set i (.sh d))
@[simp] noncomputable def j9(f:D->Ds->Option Ds)(g:GE):GS:=fun δ=>(g δ).bind λd=>(f d δ).map .nx
@[simp] noncomputable def ifD(gt:GB)(Ga Gb:GS):GS:=fun δ=>(gt δ).bind λt=>if t=true then Ga δ else Gb δ
noncomputable def T5(f:D->Ds->Option Ds)(G:GS):List D->Ds->Option Res
 | [],δ=>some (.nx δ)
 | d::ds,δ=>match (f d δ).bind G with
  | some (.nx δ')=>T5 f G ds δ'
  | some (.ct δ')=>T5 f G ds δ'
  | some (.bk δ')=>some (.nx δ')
  | r=>r
@[simp] noncomputable def ya0(gi:GA)(f:D->Ds->Option Ds)(G:GS):GS:=fun δ=>(gi δ).bind λitems=>T5 f G items δ
@[simp] noncomputable def iq0:D->Option (List D)
 | .lst ds=>some ds
 | _=>none
@[simp] noncomputable def m50:D->Option (List D)
 | .tup ds=>some ds
 | _=>none
noncomputable def signs(x:Str):List D:=x.cps.toList.map λc=>.str ⟨#[c]⟩
@[simp] noncomputable def pp0:D->Option (List D)
 | .str x=>some (signs x)
 | _=>none
@[simp] noncomputable def M8(g:GE):GA:=fun δ=>(g δ).bind iq0
@[simp] noncomputable def tupI(g:GE):GA:=fun δ=>(g δ).bind m50
@[simp] noncomputable def v90(g:GE):GA:=fun δ=>(g δ).bind pp0
noncomputable def yn0(lo hi:Int):List D:=(List.range (hi - lo).toNat).map λk=>.int (lo+(k:Nat))
@[simp] noncomputable def g00(ds:List D):Option (List D):=match ds with
 | [.int j]=>if -(2 ^ 62)<=j/\j<2 ^ 62 then some (yn0 0 j) else none
 | _=>none
@[simp] noncomputable def za0(gA:GA):GA:=fun δ=>(gA δ).bind g00
@[simp] noncomputable def noT:GB:=λ_=>some true
@[simp] noncomputable def p50:Option Sl->Sl
 | some (.sh d)=>.sh d
 | _=>.un
@[simp] noncomputable def M9(n:Nat)(caps:List Nat)(δ:Ds):Ds:=List.replicate n .un++caps.map λj=>p50 δ[j]?
noncomputable def K7(f:D->Ds->Option Ds)(gt:GB)(ge:GE)(δ:Ds):List D->Option (List D)
 | []=>some []
 | d::ds=>match f d δ with
  | none=>none
  | some δ'=>match gt δ' with
   | none=>none
   | some false=>K7 f gt ge δ ds
   | some true=>match ge δ' with
    | none=>none
    | some y=>(K7 f gt ge δ ds).map λr=>y::r
@[simp] noncomputable def Y9(n:Nat)(caps:List Nat)(gi:GA)(f:D->Ds->Option Ds)(gt:GB)(ge:GE):GE :=
 fun δ=>(gi δ).bind λitems=>if items.length<=sizeLine then (K7 f gt ge (M9 n caps δ) items).map .lst else none
@[simp] noncomputable def W8(N:List Str)(ds:List D):Ds:=ds.map .sh++List.replicate (N.length - ds.length) .un
@[simp] noncomputable def isInt:D->Bool
 | .int _=>true|.bl _=>true|_=>false
@[simp] noncomputable def isStr:D->Bool
 | .str _=>true|_=>false
@[simp] noncomputable def isBool:D->Bool
 | .bl _=>true|_=>false
@[simp] noncomputable def isTup:D->Bool
 | .tup _=>true|_=>false
@[simp] noncomputable def ii(f:Int->Int->Option D):D->D->Option D
 | .int i,.int j=>f i j
 | _,_=>none
@[simp] noncomputable def y70:D->D->Option D:=ii λi j=>some (.int (i - j))
@[simp] noncomputable def W7:D->D->Option D:=ii λi j=>if 0<j/\j<1073741824 then some (.int (i/j)) else none
@[simp] noncomputable def Z8:D->D->Option D:=ii λi j=>if 0<j then some (.int (i%j)) else none
@[simp] noncomputable def ltD:D->D->Option D:=ii λi j=>some (.bl (decide (i<j)))
@[simp] noncomputable def leD:D->D->Option D:=ii λi j=>some (.bl (decide (i<=j)))
@[simp] noncomputable def gtD:D->D->Option D:=ii λi j=>some (.bl (decide (j<i)))
@[simp] noncomputable def geD:D->D->Option D:=ii λi j=>some (.bl (decide (j<=i)))
@[simp] noncomputable def eqS:D->D->Option Bool
 | .non,.non=>some true
 | .non,.int _=>some false|.int _,.non=>some false|.non,.bl _=>some false|.bl _,.non=>some false|.non,.str _=>some false|.str _,.non=>some false
 | .int i,.int j=>some (decide (i=j))
 | .bl i,.bl j=>some (decide (i=j))
 | .str i,.str j=>some (decide (i=j))
 | .int _,.str _=>some false|.str _,.int _=>some false|.bl _,.str _=>some false|.str _,.bl _=>some false
 | _,_=>none
@[simp] noncomputable def eqD(x y:D):Option D:=(eqS x y).map .bl
@[simp] noncomputable def neD(x y:D):Option D:=(eqS x y).map λb=>.bl (!b)
noncomputable def inS(x y:Str):Bool:=!(Builtin.Str.occurrences y x 0 y.length 1).isEmpty
@[simp] noncomputable def inD:D->D->Option D
 | .str x,.str y=>some (.bl (inS x y))
 | _,_=>none
@[simp] noncomputable def ye0:D->D->Option D
 | .str x,.str y=>some (.bl (!inS x y))
 | _,_=>none
@[simp] noncomputable def Wa0:D->Bool
 | .non=>true|_=>false
@[simp] noncomputable def zs0(x y:D):Option D:=match y with
 | .non=>some (.bl (Wa0 x))
 | _=>none
noncomputable def ixN(n:Nat)(i:Int):Option Nat:=if 0<=i then (if i<n then some i.toNat else none) else if -(n:Int)<=i then some (i+n).toNat else none
noncomputable def atI{α:Type}(xs:List α)(i:Int):Option α:=(ixN xs.length i).bind λj=>xs[j]?
@[simp] noncomputable def ixD:D->D->Option D
 | .lst xs,.int i=>atI xs i
 | .tup xs,.int i=>atI xs i
 | .str z,.int i=>if z.length<=sizeLine then (atI z.cps.toList i).map λc=>.str ⟨#[c]⟩ else none
 | _,_=>none
noncomputable def sIx(n d:Nat):Option Int->Nat
 | none=>d
 | some v=>if v<0 then (v+(n:Int)).toNat else min v.toNat n
noncomputable def cutD(xs:List D)(lo hi:Option Int):List D:=(xs.drop (sIx xs.length 0 lo)).take (sIx xs.length xs.length hi - sIx xs.length 0 lo)
abbrev GO:=Ds->Option (Option Int)
@[simp] noncomputable def Z1:GO:=λ_=>some none
@[simp] noncomputable def someO(g:GE):GO:=fun δ=>(g δ).bind λd=>(asI d).map some
@[simp] noncomputable def b7:List D->Option D
 | [.str z]=>if z.length<=sizeLine then some (.int z.length) else none
 | [.lst xs]=>some (.int xs.length)
 | [.tup xs]=>some (.int xs.length)
 | _=>none
noncomputable def bools:List D->Option (List Bool)
 | []=>some []
 | .bl b::ds=>(bools ds).map λr=>b::r
 | _=>none
@[simp] noncomputable def va0:List D->Option D
 | [.lst ds]=>(bools ds).map λbs=>.bl (bs.all id)
 | _=>none
@[simp] noncomputable def strOfD:List D->Option D
 | [.int i]=>if i.natAbs.log2<1920 then some (.str (toString i)) else none
 | _=>none
noncomputable def u20:List D->Option (List Str)
 | []=>some []
 | .str b::ds=>(u20 ds).map λr=>b::r
 | _=>none
@[simp] noncomputable def m70(d:D)(ds:List D):Option D:=match d,ds with
 | .str sep,[.lst xs]=>(u20 xs).bind λys=>if (ys.map (·.length)).sum+ys.length*sep.length<=16777216 then some (.str (Txt.join sep ys)) else none
 | _,_=>none
@[simp] noncomputable def R3(g:GE)(gA:GA):GE:=fun δ=>(g δ).bind λd=>(gA δ).bind λds=>m70 d ds
@[simp] noncomputable def zz0:List D->Option D
 | [.lst ds]=>some (.tup ds)
 | [.tup ds]=>some (.tup ds)
 | _=>none
theorem v70{gt:GB}{ge:GE}(p:D->Bool)(h:D->D):∀{items:List D},(∀d∈items,∃δ',f d δ=some δ'/\gt δ'=some (p d)/\(p d=true->ge δ'=some (h d))) ->
  K7 f gt ge δ items=some ((items.filter p).map h)
 | [],_=>rfl
 | d::ds,H=>by
  obtain⟨δ',e1,e2,e3⟩:=H d A5;have ih:=v70 p h λd hd=>H d (A7 _ hd)
  unfold K7;rw[e1];dsimp only;rw[e2];cases hp:p d with
  | false =>
   dsimp only;rw[List.filter_cons_of_neg (by simp[hp])];exact ih
  | true =>
   dsimp only;rw[e3 hp,ih,List.filter_cons_of_pos hp];rfl
theorem M7{gt:GB}{ge:GE}(h:D->D){items:List D}(H:∀d∈items,∃δ',f d δ=some δ'/\gt δ'=some true/\ge δ'=some (h d)):K7 f gt ge δ items=some (items.map h):=by
 have:=v70 (f:=f) (gt:=gt) (ge:=ge) (δ:=δ) (λ_=>true) h (items:=items) λd hd=>by
  obtain⟨δ',a,b,c⟩:=H d hd;exact⟨δ',a,b,λ_=>c⟩
 rw[List.filter_eq_self.mpr (by simp)] at this;exact this
theorem yr0(h:α->Bool):∀l:List α,bools (l.map λa=>.bl (h a))=some (l.map h)
 | []=>rfl
 | a::l=>by
  show (bools (l.map λa=>.bl (h a))).map (λr=>h a::r)=_;rw[yr0 h l];rfl
theorem strs_map(h:α->Str):∀l:List α,u20 (l.map λa=>.str (h a))=some (l.map h)
 | []=>rfl
 | a::l=>by
  show (u20 (l.map λa=>.str (h a))).map (λr=>h a::r)=_;rw[strs_map h l];rfl
theorem Xb0{G1 G2:GS}(h:G1 δ=some (.nx δ')):v7 G1 G2 δ=G2 δ':=by unfold v7;rw[h]
theorem n8{G1 G2:GS}{d:D}(h:G1 δ=some (.rt d)):v7 G1 G2 δ=some (.rt d):=by unfold v7;rw[h]
theorem U3{g:GE}{d:D}(h:g δ=some d):o9 g δ=some (.rt d):=by unfold o9;rw[h];rfl
theorem b8{g:GE}{d:D}(h:g δ=some d):j9 (gN i) g δ=some (.nx (δ.set i (.sh d))):=by unfold j9;rw[h];rfl
theorem R8{g:GB}{Ga Gb:GS}(h:g δ=some true):ifD g Ga Gb δ=Ga δ:=by unfold ifD;rw[h];rfl
theorem X4{g:GB}{Ga Gb:GS}(h:g δ=some false):ifD g Ga Gb δ=Gb δ:=by unfold ifD;rw[h];rfl
theorem J7{gi:GA}{gt:GB}{ge:GE}{items out:List D}(h1:gi δ=some items)(h2:items.length<=sizeLine)(h3:K7 f gt ge (M9 n caps δ) items=some out):Y9 n caps gi f gt ge δ=some (.lst out):=by
 unfold Y9;rw[h1];show (if items.length<=sizeLine then (K7 f gt ge (M9 n caps δ) items).map D.lst else none)=_;rw[if_pos h2,h3];rfl
theorem O7{gi:GA}{items:List D}{r:Option Res}(h1:gi δ=some items)(h2:T5 f G items δ=r):ya0 gi f G δ=r:=by
 unfold ya0;rw[h1];exact h2
theorem cons_of{g:GE}{gA:GA}{d:D}(h1:g δ=some d)(h2:gA δ=some ds):z7 g gA δ=some (d::ds):=by unfold z7;rw[h1,h2];rfl
theorem X5{gA:GA}{f:List D->Option D}(h:gA δ=some ds):oA gA f δ=f ds:=by unfold oA;rw[h];rfl
theorem d9{ga gb:GE}{x y:D}{f:D->D->Option D}(h1:ga δ=some x)(h2:gb δ=some y):o2 ga gb f δ=f x y:=by unfold o2;rw[h1,h2];rfl
theorem bw0{g:GE}{gA:GA}{x:D}(h1:g δ=some x)(h2:gA δ=some ds):R3 g gA δ=m70 x ds:=by unfold R3;rw[h1,h2];rfl
theorem M5{d:D}{δ1 δ2:Ds}(h1:f d δ=some δ1)(h2:G δ1=some (.nx δ2)):T5 f G (d::ds) δ=T5 f G ds δ2:=by
 conv=>lhs;unfold T5
 rw[h1];simp only[Option.bind_some,h2]
theorem tv0{xs:List α}{i:Int}(h0:0<=i)(h1:i<xs.length)(d:α):atI xs i=some (xs.getD i.toNat d):=by
 unfold atI ixN;rw[if_pos h0,if_pos h1];show xs[i.toNat]?=_;have:i.toNat<xs.length:=by omega
 simp[List.getD_eq_getElem?_getD,this]
theorem xg0(c:Nat)(y:Str):inS ⟨#[c]⟩ y=decide (c∈y.cps.toList):=PySem.StrLaws.found_one y c
end DL
variable{f:DL.D->DL.Ds->Option DL.Ds}{g ge ga gb:DL.Ds->Option DL.D}{ds:List DL.D}{gt:DL.Ds->Option Bool}{δ δ':DL.Ds}{gi gA:DL.Ds->Option (List DL.D)}{G:DL.GS}{d0:DL.D}{g0:DL.GE}
namespace DL
open Spec PyProof.Rows L2
abbrev BS:=Addr->Prop
abbrev St:=L2.St
variable{B' B₀:DL.BS}
abbrev noH:Hp:=λ_=>none
noncomputable def SqT'(K:W.Frag)(H:Hp)(B:BS)(a:Addr)(xs:List V):Prop:=¬B a/\H a=some (.tup xs)
noncomputable def SqL'(K:W.Frag)(H:Hp)(B:BS)(a:Addr)(xs:List V):Prop:=(¬B a/\Rd H a (.lst xs))∨SqL K noH a xs
section
variable{B:BS}
theorem W30{u:HO}(h:Rd noH a u):False:=by
 rcases h with h|⟨o,h⟩<;>cases h
theorem SqT'.to(h:SqT' K H B a xs):SqT K H a xs:=.inl (.inl h.2)
theorem SqL'.to(h:SqL' K H B a xs):SqL K H a xs:=by
 rcases h with h|h|h
 ·exact .inl h.2
 ·exact(W30 h).elim
 ·exact .inr h
noncomputable def Gr(H H':Hp)(B B':BS):Prop:=∀b o,¬B b->H b=some o->¬B' b/\H' b=some o
theorem SqT'.mono(g:Gr H H' B B')(h:SqT' K H B a xs):SqT' K H' B' a xs:=g _ _ h.1 h.2
theorem SqL'.mono(g:Gr H H' B B')(h:SqL' K H B a xs):SqL' K H' B' a xs:=by
 rcases h with⟨n,h|⟨o,h⟩⟩|h
 ·exact .inl ⟨(g _ _ n h).1,.inl (g _ _ n h).2⟩
 ·exact .inl ⟨(g _ _ n h).1,.inr ⟨o,(g _ _ n h).2⟩⟩
 ·exact .inr h
theorem Gr.same(s:Same H H'):Gr H H' B B:=λb o n h=>⟨n,s b o h⟩
theorem Gr.less(h:∀a,B' a->B a):Gr H H B B':=λb o n e=>⟨λz=>n (h b z),e⟩
end
abbrev KS:=Sum (List Key) (List (List Key))
noncomputable def dOb:KS->List V->HO
 | .inl ks,xs=>.dK (ks.zip xs)
 | .inr ks,xs=>.dT (ks.zip xs)
noncomputable def dLn:KS->Nat
 | .inl ks=>ks.length
 | .inr ks=>ks.length
mutual
noncomputable def Rp(K:W.Frag)(H:Hp)(B:BS):D->V->Prop
 | .non,v=>v=.non
 | .bl b,v=>v=.bl b
 | .int i,v=>v=.int i
 | .str x,v=>v=.str x
 | .tup ds,v=>∃a xs,v=.ref a/\SqT' K H B a xs/\Rps K H B ds xs
 | .lst ds,v=>∃a xs,v=.ref a/\SqL' K H B a xs/\Rps K H B ds xs
 | .dct ks ds,v=>∃a xs,v=.ref a/\¬B a/\H a=some (dOb ks xs)/\dLn ks=xs.length/\Rps K H B ds xs
noncomputable def Rps(K:W.Frag)(H:Hp)(B:BS):List D->List V->Prop
 | [],xs=>xs=[]
 | d::ds,xs=>∃x r,xs=x::r/\Rp K H B d x/\Rps K H B ds r
end
mutual
theorem Rp.mono{B:BS}(g:Gr H H' B B'):∀{d:D} {v:V},Rp K H B d v->Rp K H' B' d v
 | .non,_,h=>by unfold Rp at h ⊢;exact h
 | .bl _,_,h=>by unfold Rp at h ⊢;exact h
 | .int _,_,h=>by unfold Rp at h ⊢;exact h
 | .str _,_,h=>by unfold Rp at h ⊢;exact h
 | .tup ds,_,h=>by
  unfold Rp at h ⊢;obtain⟨a,xs,e,q,r⟩:=h;exact⟨a,xs,e,q.mono g,Rps.mono g r⟩
 | .lst ds,_,h=>by
  unfold Rp at h ⊢;obtain⟨a,xs,e,q,r⟩:=h;exact⟨a,xs,e,q.mono g,Rps.mono g r⟩
 | .dct ks ds,_,h=>by
  unfold Rp at h ⊢;obtain⟨a,xs,e,n,q,l,r⟩:=h;exact⟨a,xs,e,(g _ _ n q).1,(g _ _ n q).2,l,Rps.mono g r⟩
theorem Rps.mono{B:BS}(g:Gr H H' B B'):∀{ds:List D} {xs:List V},Rps K H B ds xs->Rps K H' B' ds xs
 | [],_,h=>by unfold Rps at h ⊢;exact h
 | d::ds,_,h=>by
  unfold Rps at h ⊢;obtain⟨x,r,e,h1,h2⟩:=h;exact⟨x,r,e,Rp.mono g h1,Rps.mono g h2⟩
end
section
variable{B:BS}{v:V}
theorem R5:Rp K H B .non v=(v=.non):=by unfold Rp;rfl
theorem Y0{b:Bool}:Rp K H B (.bl b) v=(v=.bl b):=by unfold Rp;rfl
theorem g8{i:Int}:Rp K H B (.int i) v=(v=.int i):=by unfold Rp;rfl
theorem Y6:Rp K H B (.str x) v=(v=.str x):=by unfold Rp;rfl
theorem T4:Rp K H B (.tup ds) v=∃a xs,v=.ref a/\SqT' K H B a xs/\Rps K H B ds xs:=by conv=>lhs;unfold Rp
theorem V7:Rp K H B (.lst ds) v=∃a xs,v=.ref a/\SqL' K H B a xs/\Rps K H B ds xs:=by conv=>lhs;unfold Rp
theorem u60{ks:KS}:Rp K H B (.dct ks ds) v=∃a xs,v=.ref a/\¬B a/\H a=some (dOb ks xs)/\dLn ks=xs.length/\Rps K H B ds xs:=by conv=>lhs;unfold Rp
theorem Zk0{ks:List Key}:Rp K H B (.dct (.inl ks) ds) v=∃a xs,v=.ref a/\¬B a/\H a=some (.dK (ks.zip xs))/\ks.length=xs.length/\Rps K H B ds xs:=u60
theorem X6:Rps K H B [] xs=(xs=[]):=by unfold Rps;rfl
theorem Y4{d:D}:Rps K H B (d::ds) xs=∃x r,xs=x::r/\Rp K H B d x/\Rps K H B ds r:=by conv=>lhs;unfold Rps
theorem Rps.length:∀{ds:List D} {xs:List V},Rps K H B ds xs->xs.length=ds.length
 | [],_,h=>by rw[X6] at h;subst h;rfl
 | d::ds,_,h=>by
  rw[Y4] at h;obtain⟨x,r,rfl,_,h2⟩:=h;simp[Rps.length h2]
theorem Rps.get:∀{ds:List D} {xs:List V} {i:Nat} {d:D},Rps K H B ds xs->ds[i]?=some d->∃x,xs[i]?=some x/\Rp K H B d x
 | [],_,_,_,_,e=>by simp at e
 | d::ds,_,0,d',h,e=>by
  rw[Y4] at h;obtain⟨x,r,rfl,h1,_⟩:=h;simp at e;subst e;exact⟨x,rfl,h1⟩
 | d::ds,_,i+1,d',h,e=>by
  rw[Y4] at h;obtain⟨x,r,rfl,_,h2⟩:=h;obtain⟨y,e1,e2⟩:=Rps.get (i:=i) h2 (by simpa using e);exact⟨y,by simpa using e1,e2⟩
theorem Rps.snoc:∀{ds:List D} {xs:List V} {d:D} {x:V},Rps K H B ds xs->Rp K H B d x->Rps K H B (ds++[d]) (xs++[x])
 | [],_,_,_,h,r=>by
  rw[X6] at h;subst h;rw[List.nil_append,List.nil_append,Y4];exact⟨_,[],rfl,r,by rw[X6]⟩
 | d::ds,_,_,_,h,r=>by
  rw[Y4] at h;obtain⟨y,t,rfl,h1,h2⟩:=h;rw[List.cons_append,List.cons_append,Y4];exact⟨y,_,rfl,h1,Rps.snoc h2 r⟩
theorem Rps.append:∀{ds es:List D} {xs ys:List V},Rps K H B ds xs->Rps K H B es ys->Rps K H B (ds++es) (xs++ys)
 | [],_,_,_,h,r=>by rw[X6] at h;subst h;exact r
 | d::ds,_,_,_,h,r=>by
  rw[Y4] at h;obtain⟨y,t,rfl,h1,h2⟩:=h;rw[List.cons_append,List.cons_append,Y4];exact⟨y,_,rfl,h1,Rps.append h2 r⟩
theorem Rps.drop:∀{ds:List D} {xs:List V} (n:Nat),Rps K H B ds xs->Rps K H B (ds.drop n) (xs.drop n)
 | _,_,0,h=>h
 | [],_,n+1,h=>by rw[X6] at h;subst h;simpa [X6]
 | d::ds,_,n+1,h=>by
  rw[Y4] at h;obtain⟨y,t,rfl,h1,h2⟩:=h
  simpa using Rps.drop n h2
theorem Rps.take:∀{ds:List D} {xs:List V} (n:Nat),Rps K H B ds xs->Rps K H B (ds.take n) (xs.take n)
 | _,_,0,h=>by simp[X6]
 | [],_,n+1,h=>by rw[X6] at h;subst h;simp[X6]
 | d::ds,_,n+1,h=>by
  rw[Y4] at h;obtain⟨y,t,rfl,h1,h2⟩:=h;rw[List.take_succ_cons,List.take_succ_cons,Y4];exact⟨y,_,rfl,h1,Rps.take n h2⟩
theorem Rps.same(s:Same H H')(h:Rps K H B ds xs):Rps K H' B ds xs:=Rps.mono (Gr.same s) h
theorem Rp.same{d:D}{v:V}(s:Same H H')(h:Rp K H B d v):Rp K H' B d v:=Rp.mono (Gr.same s) h
end
noncomputable def RpO(K:W.Frag)(H:Hp)(B:BS)(d:D)(a:Addr):Prop:=match d with
 | .lst ds=>∃xs,H a=some (.lst xs)/\Rps K H B ds xs
 | .dct ks ds=>∃xs,H a=some (dOb ks xs)/\dLn ks=xs.length/\Rps K H B ds xs
 | _=>False
theorem RpO.same{B:BS}{d:D}(s:Same H H')(h:RpO K H B d a):RpO K H' B d a:=by
 cases d<;>try exact h.elim
 ·obtain⟨xs,e,r⟩:=h;exact⟨xs,s _ _ e,r.same s⟩
 ·obtain⟨xs,e,l,r⟩:=h;exact⟨xs,s _ _ e,l,r.same s⟩
theorem RpO.rp{B:BS}{d:D}(l:∀a,B' a->B a)(n:¬B' a)(h:RpO K H B d a):Rp K H B' d (.ref a):=by
 cases d<;>try exact h.elim
 ·obtain⟨xs,e,r⟩:=h
  rw[V7];exact⟨a,xs,rfl,.inl ⟨n,.inl e⟩,r.mono (Gr.less l)⟩
 ·obtain⟨xs,e,q,r⟩:=h
  rw[u60];exact⟨a,xs,rfl,n,e,q,r.mono (Gr.less l)⟩
theorem RpO.live{B:BS}{d:D}(h:RpO K H B d a):H a≠none:=by
 cases d<;>try exact h.elim
 ·obtain⟨xs,e,r⟩:=h;rw[e];exact λz=>nomatch z
 ·obtain⟨xs,e,q,r⟩:=h;rw[e];exact λz=>nomatch z
noncomputable def RpL(K:W.Frag)(H:Hp)(B:BS)(d:D)(a:Addr):Prop:=match d with
 | .tup es=>∃ds,es=[.int (a:Int),.lst ds]/\∃xs,H a=some (.lst xs)/\Rps K H B ds xs
 | d=>RpO K H B d a
theorem RpO.toL{B:BS}{d:D}(h:RpO K H B d a):RpL K H B d a:=by
 cases d with
 | tup es=>exact(show False from h).elim
 | _=>exact h
theorem RpL.toO{B:BS}{d:D}(n:isL d=false)(h:RpL K H B d a):RpO K H B d a:=by
 cases d with
 | tup es=>cases n
 | _=>exact h
theorem RpL.same{B:BS}{d:D}(s:Same H H')(h:RpL K H B d a):RpL K H' B d a:=by
 cases d with
 | tup es=>obtain⟨ds,q,xs,e,r⟩:=h;exact⟨ds,q,xs,s _ _ e,r.same s⟩
 | _=>exact(RpO.same s (RpL.toO rfl h)).toL
theorem RpL.rp{B:BS}{d:D}(l:∀a,B' a->B a)(n:¬B' a)(h:RpL K H B d a):Rp K H B' (unl d) (.ref a):=by
 cases d with
 | tup es=>obtain⟨ds,rfl,xs,e,r⟩:=h;exact RpO.rp (d:=.lst ds) l n ⟨xs,e,r⟩
 | _=>exact RpO.rp l n (RpL.toO rfl h)
noncomputable def t00(a C:Addr)(od:Option Addr):Heap->Prop:=λh=>∃oe,h.get? a=some oe/\oe.cls=.ref C/\(∀dx,od=some dx->oe.dict=some dx)/\∃vs,oe.data=.fields vs
noncomputable def ek0(H:Hp)(B:BS)(od:Option Addr):Option Int->Prop
 | none=>True
 | some n=>∃dx,od=some dx/\¬B dx/\H dx=some (.xd [("at",.int n)])
noncomputable def XcR(K:W.Frag)(H:Hp)(B:BS)(c:Str)(n:Option Int)(a:Addr):Prop:=∃C od,¬B a/\H a=some (.ext (t00 a C od))/\W.nsIn K mainGlobals c=some (some (.ref C))/\ek0 H B od n
theorem XcR.mono{B:BS}{c:Str}{n:Option Int}(g:Gr H H' B B')(h:XcR K H B c n a):XcR K H' B' c n a:=by
 obtain⟨C,od,h1,h2,h3,h4⟩:=h;refine⟨C,od,(g _ _ h1 h2).1,(g _ _ h1 h2).2,h3,?_⟩;cases n with
 | none=>trivial
 | some n=>obtain⟨dx,e,q1,q2⟩:=h4;exact⟨dx,e,(g _ _ q1 q2).1,(g _ _ q1 q2).2⟩
noncomputable def SlR(K:W.Frag)(H:Hp)(B:BS)(o:Option V):Sl->Prop
 | .un=>True
 | .sh d=>∃v,o=some v/\Rp K H B d v
 | .ow d=>∃a,o=some (.ref a)/\B a/\RpL K H B d a
 | .ex c n=>∃a,o=some (.ref a)/\XcR K H B c n a
theorem Pd.get{F:α->β->Prop}:∀{l:List α} {m:List β} {i:Nat} {b:β},Paired F l m->m[i]?=some b->∃a,l[i]?=some a/\F a b
 | _,_,_,_,.nil,e=>by simp at e
 | _,_,0,_,.cons r _,e=>by simp at e;subst e;exact⟨_,rfl,r⟩
 | _,_,i+1,b,.cons _ t,e=>by
  obtain⟨u,h1,h2⟩:=Pd.get (i:=i) (b:=b) t (by simpa using e);exact⟨u,by simpa using h1,h2⟩
theorem Pd.imp{F G:α->β->Prop}(h:∀a b,F a b->G a b):∀{l:List α} {m:List β},Paired F l m->Paired G l m
 | _,_,.nil=>.nil
 | _,_,.cons r t=>.cons (h _ _ r) (Pd.imp h t)
theorem Pd.set{F:α->β->Prop}{a:α}{b:β}(r:F a b):∀{l:List α} {m:List β} (i:Nat),Paired F l m->Paired F (l.set i a) (m.set i b)
 | _,_,_,.nil=>.nil
 | _,_,0,.cons _ t=>.cons r t
 | _,_,i+1,.cons q t=>.cons q (Pd.set r i t)
theorem Pd.len{F:α->β->Prop}:∀{l:List α} {m:List β},Paired F l m->l.length=m.length
 | _,_,.nil=>rfl
 | _,_,.cons _ t=>by simp[Pd.len t]
theorem Pd.app{F:α->β->Prop}:∀{l l':List α} {m m':List β},Paired F l m->Paired F l' m'->Paired F (l++l') (m++m')
 | _,_,_,_,.nil,s=>s
 | _,_,_,_,.cons r t,s=>.cons r (Pd.app t s)
structure Env(K:W.Frag)(H:Hp)(B:BS)(σ:St)(δ:Ds):Prop where
 all:Paired (SlR K H B) σ δ
 bad:∀a,B a->H a≠none
 own:∀(i j:Nat) (a:Addr) (ds es:D),δ[i]?=some (.ow ds)->δ[j]?=some (.ow es)->σ[i]?=some (some (.ref a))->σ[j]?=some (some (.ref a))->i=j
section
variable{B:BS}{σ σ':St}
theorem SlR.same{o:Option V}{s:Sl}(q:Same H H')(h:SlR K H B o s):SlR K H' B o s:=by
 cases s with
 | un=>trivial
 | sh d=>obtain⟨v,e,r⟩:=h;exact⟨v,e,r.same q⟩
 | ow d=>obtain⟨a,e,b,r⟩:=h;exact⟨a,e,b,r.same q⟩
 | ex c n=>obtain⟨a,e,r⟩:=h;exact⟨a,e,r.mono (Gr.same q)⟩
theorem Env.same(q:Same H H')(e:Env K H B σ δ):Env K H' B σ δ :=
 ⟨Pd.imp (λ_ _ h=>h.same q) e.all,(λa b z=>by
  cases h:H a with
  | none=>exact e.bad a b h
  | some o=>rw[q a o h] at z;cases z),e.own⟩
theorem Env.free(e:Env K H B σ δ){p:Addr}(h:H p=none):¬B p:=λz=>e.bad p z h
theorem Env.get(e:Env K H B σ δ){d:D}(h:δ[i]?=some (.sh d)):∃v,σ[i]?=some (some v)/\Rp K H B d v:=by
 obtain⟨o,h1,v,rfl,r⟩:=Pd.get e.all h;exact⟨v,h1,r⟩
theorem Env.set(e:Env K H B σ δ)(i:Nat){d:D}{v:V}(r:Rp K H B d v):Env K H B (σ.set i (some v)) (δ.set i (.sh d)):=by
 refine⟨Pd.set ⟨v,rfl,r⟩ i e.all,e.bad,λj k a ds es h1 h2 h3 h4=>?_⟩;have hj:j≠i:=by
  rintro rfl
  by_cases hl:j<δ.length
  ·rw[List.getElem?_set_self hl] at h1;cases h1
  ·rw[List.getElem?_eq_none (by simpa using hl)] at h1;cases h1
 have hk:k≠i:=by
  rintro rfl
  by_cases hl:k<δ.length
  ·rw[List.getElem?_set_self hl] at h2;cases h2
  ·rw[List.getElem?_eq_none (by simpa using hl)] at h2;cases h2
 rw[List.getElem?_set_ne (B3 hj)] at h1 h3;rw[List.getElem?_set_ne (B3 hk)] at h2 h4;exact e.own j k a ds es h1 h2 h3 h4
end
theorem X7{p:Addr}{o:HO}(h:H p=none):Same H (upd H p o):=λb u e=>by rw[W4 (O6 e h)];exact e
noncomputable def tD(K:W.Frag)(B:BS)(δ:Ds)(g:Ds->Option D):TE:=fun σ H Q=>∃d,Env K H B σ δ/\g δ=some d/\∀v H',Same H H'->Rp K H' B d v->Q v H'
structure PD(X:Cx)(e:Expr)(g:Ds->Option D):Prop where
 mk::go:∀B δ,PE X e (tD X.K B δ g)
instance{X:Cx}{e:Expr}{g:Ds->Option D}:CoeFun (PD X e g) (λ_=>∀B δ,PE X e (tD X.K B δ g)):=⟨PD.go⟩
noncomputable def tDT(K:W.Frag)(B:BS)(δ:Ds)(g:Ds->Option Bool):TT:=fun σ H Q=>∃b,Env K H B σ δ/\g δ=some b/\∀H',Same H H'->Q b H'
structure PTD(X:Cx)(e:Expr)(g:Ds->Option Bool):Prop where
 mk::go:∀B δ,PT X e (tDT X.K B δ g)
instance{X:Cx}{e:Expr}{g:Ds->Option Bool}:CoeFun (PTD X e g) (λ_=>∀B δ,PT X e (tDT X.K B δ g)):=⟨PTD.go⟩
structure PWD(X:Cx)(e:Expr)(g:Ds->Option Bool):Prop where
 mk::go:∀B δ,PW X e (tDT X.K B δ g)
instance{X:Cx}{e:Expr}{g:Ds->Option Bool}:CoeFun (PWD X e g) (λ_=>∀B δ,PW X e (tDT X.K B δ g)):=⟨PWD.go⟩
noncomputable def tDA(K:W.Frag)(B:BS)(δ:Ds)(g:Ds->Option (List D)):TA:=fun σ H Q=>∃ds,Env K H B σ δ/\g δ=some ds/\∀vs H',Same H H'->Rps K H' B ds vs->Q vs H'
structure PDA(X:Cx)(es:List Expr)(g:Ds->Option (List D)):Prop where
 mk::go:∀B δ,PA X es (tDA X.K B δ g)
instance{X:Cx}{es:List Expr}{g:Ds->Option (List D)}:CoeFun (PDA X es g) (λ_=>∀B δ,PA X es (tDA X.K B δ g)):=⟨PDA.go⟩
theorem lb0{d:D}{b:Bool}(h:asB d=some b):d=.bl b:=by
 cases d<;>simp[asB] at h
 subst h;rfl
noncomputable def Op2(K:W.Frag)(r:R2)(f:D->D->Option D):Prop:=∀(H:Hp) (B:BS) (x y:V) (dx dy d:D) (Q:VK),(∀a,B a->H a≠none)->Rp K H B dx x->Rp K H B dy y->f dx dy=some d->(∀v H',Same H H'->Rp K H' B d v->Q v H')->r x y H Q
noncomputable def FnR(K:W.Frag)(r:List V->Hp->VK->Prop)(f:List D->Option D):Prop:=∀(H:Hp) (B:BS) (xs:List V) (ds:List D) (d:D) (Q:VK),(∀a,B a->H a≠none)->Rps K H B ds xs->f ds=some d->(∀v H',Same H H'->Rp K H' B d v->Q v H')->r xs H Q
section
variable{a:Expr}{gu:Ds->Option Bool}{rest:List Expr}
theorem _root_.L2.PE.imp{t t':TE}(h:PE X e t)(q:∀σ H Q,t' σ H Q->t σ H Q):PE X e t':=λpins s σ H Q I z=>h pins s σ H Q I (q σ H Q z)
theorem _root_.L2.PT.imp{t t':TT}(h:PT X e t)(q:∀σ H Q,t' σ H Q->t σ H Q):PT X e t':=λpins s σ H Q I z=>h pins s σ H Q I (q σ H Q z)
theorem _root_.L2.PW.imp{t t':TT}(h:PW X e t)(q:∀σ H Q,t' σ H Q->t σ H Q):PW X e t':=λw pins s σ H Q I z=>h w pins s σ H Q I (q σ H Q z)
theorem _root_.L2.PA.imp{t':TA}(h:PA X es t)(q:∀σ H Q,t' σ H Q->t σ H Q):PA X es t':=λp pins s σ H Q I z=>h p pins s σ H Q I (q σ H Q z)
theorem Xn0{d:D}(h:gv i δ=some d):δ[i]?=some (.sh d):=by
 unfold gv at h;split at h
 ·cases h;assumption
 ·cases h
theorem w6(i:Nat)(hN:X.N[i]?=some x:=by rfl)(hv:Vis X.env.scope x:=by first|exact Or.inl rfl|exact Or.inr (Or.inl rfl)|exact Or.inr (Or.inr rfl))(hd:(x==("__debug__" : Str))=false:=by decide)
  (hcd:(x==("__classdict__" : Str))=false:=by decide):PD X (.Name x pos) (gv i):=.mk λB δ=>(vg0 (i:=i) hN hv hd hcd).imp fun σ H Q ⟨d,en,h,k⟩=>by
 obtain⟨v,e,r⟩:=en.get (Xn0 h);exact⟨v,e,k v H (Same.refl H) r⟩
theorem p8{i:Int}:PD X (.Constant (.int i) j pos) (gc (.int i)):=.mk λB δ=>X40.imp fun σ H Q ⟨d,en,h,k⟩=>by cases h;exact k _ H (Same.refl H) (by rw[g8])
theorem R9{i:Bool}:PD X (.Constant (.bool i) j pos) (gc (.bl i)):=.mk λB δ=>Xl0.imp fun σ H Q ⟨d,en,h,k⟩=>by cases h;exact k _ H (Same.refl H) (by rw[Y0])
theorem U8:PD X (.Constant .none j pos) (gc .non):=.mk λB δ=>Yj0.imp fun σ H Q ⟨d,en,h,k⟩=>by cases h;exact k _ H (Same.refl H) (by rw[R5])
theorem v9:PD X (.Constant (.str x) j pos) (gc (.str x)):=.mk λB δ=>Yt0.imp fun σ H Q ⟨d,en,h,k⟩=>by cases h;exact k _ H (Same.refl H) (by rw[Y6])
theorem py0(hm:∃t,X.mg x=some (.str y t))(hg:Gl X x:=by rfl)(hd:(x==("__debug__" : Str))=false:=by decide):PD X (.Name x pos) (gc (.str y)):=.mk λB δ=>by
 obtain⟨t,hm⟩:=hm;exact(jk0 (v:=.str y) hg hm ⟨t,rfl⟩ hd).imp fun σ H Q ⟨d,en,h,k⟩=>by cases h;exact k _ H (Same.refl H) (by rw[Y6])
theorem xk0{i:Int}(hm:∃t,X.mg x=some (.int i t))(hg:Gl X x:=by rfl)(hd:(x==("__debug__" : Str))=false:=by decide):PD X (.Name x pos) (gc (.int i)):=.mk λB δ=>by
 obtain⟨t,hm⟩:=hm;exact(jk0 (v:=.int i) hg hm ⟨t,rfl⟩ hd).imp fun σ H Q ⟨d,en,h,k⟩=>by cases h;exact k _ H (Same.refl H) (by rw[g8])
theorem qe0{r:R2}{f:D->D->Option D}(hf:Op2 K r f){B:BS}{σ:St}{Q:VK}(h:tD K B δ (o2 ga gb f) σ H Q):tOp r (tD K B δ ga) (tD K B δ gb) σ H Q:=by
 obtain⟨d,en,h,k⟩:=h;unfold o2 at h;cases e1:ga δ with
 | none=>rw[e1] at h;cases h
 | some x =>
  cases e2:gb δ with
  | none=>rw[e1,e2] at h;cases h
  | some y =>
   rw[e1,e2] at h;refine⟨x,en,e1,λv1 H1 s1 r1=>⟨y,en.same s1,e2,λv2 H2 s2 r2=>?_⟩⟩;exact hf H2 B v1 v2 x y d Q ((en.same s1).same s2).bad (r1.same s2) r2 h λv H' s r=>k v H' ((s1.trans s2).trans s) r
theorem r00{op:Operator}{r:R2}{f:D->D->Option D}(ho:OpR X (binaryOp op) r)(hf:Op2 X.K r f)(ha:PD X a ga)(hb:PD X b gb):PD X (.BinOp a op b pos) (o2 ga gb f):=.mk λB δ=>(Wh0 ho (ha B δ) (hb B δ)).imp fun σ H Q h=>qe0 hf h
theorem S8{op:CmpOp}{r:R2}{f:D->D->Option D}(ho:OpR X (compareOp op) r)(hf:Op2 X.K r f)(ha:PD X a ga)(hb:PD X b gb)(hm:behindInMarks op b=false:=by first|exact ge0 _|with_unfolding_all rfl):PD X (.Compare a [op] [b] pos) (o2 ga gb f) :=
 .mk λB δ=>(Z70 ho (ha B δ) (hb B δ) hm).imp fun σ H Q h=>qe0 hf h
theorem W50{r:R2}{f:D->D->Option D}(ho:IxR X r)(hf:Op2 X.K r f)(ha:PD X a ga)(hb:PD X b gb)(hs:o60 b:=by exact λ_ _=>rfl):PD X (.Subscript a b pos) (o2 ga gb f) :=
 .mk λB δ=>(Wi0 ho (ha B δ) (hb B δ) hs).imp fun σ H Q h=>qe0 hf h
theorem m9{op:CmpOp}{r:R2}{f:D->D->Option D}(ho:OpR X (compareOp op) r)(hf:Op2 X.K r f)(ha:PD X a ga)(hb:PD X b gb)(hm:behindInMarks op b=false:=by first|exact ge0 _|with_unfolding_all rfl):PTD X (.Compare a [op] [b] pos) (ob (o2 ga gb f)) :=
 .mk λB δ=>(bq0 ho (ha B δ) (hb B δ) hm).imp fun σ H Q ⟨t,en,h,k⟩=>by
  unfold ob at h;cases e:o2 ga gb f δ with
  | none=>rw[e] at h;cases h
  | some d =>
   rw[e] at h;cases lb0 h;exact qe0 hf ⟨_,en,e,λv H' s r=>⟨t,by rw[Y0] at r;exact r,k H' s⟩⟩
theorem V9(h:PD X e g)(he:∀whole,isTrue e X.env whole=(do let v ← whole;standAt e.pos;holding [v] (truthy v)):=by intro _;rfl):PTD X e (ob g) :=
 .mk λB δ=>(Y60 (h B δ) he).imp fun σ H Q ⟨t,en,h,k⟩=>by
  unfold ob at h;cases e:g δ with
  | none=>rw[e] at h;cases h
  | some d =>
   rw[e] at h;cases lb0 h;exact⟨_,en,e,λv H' s r=>⟨t,by rw[Y0] at r;exact r,k H' s⟩⟩
theorem zm0(h:PTD X a gt):PTD X (.UnaryOp .Not a pos) (T7 gt) :=
 .mk λB δ=>(Y20 (h B δ)).imp fun σ H Q ⟨t,en,h,k⟩=>by
  unfold T7 at h;cases e:gt δ with
  | none=>rw[e] at h;cases h
  | some b =>
   rw[e] at h;cases h;exact⟨b,en,e,λH' s=>k H' s⟩
theorem yl0(h:PTD X a gt):PWD X (.BoolOp .And [a] pos) gt:=.mk λB δ=>ai0 (h B δ)
theorem z60(h:PTD X a gt):PWD X (.BoolOp .Or [a] pos) gt:=.mk λB δ=>X60 (h B δ)
theorem yp0(ha:PTD X a gt)(hb:PWD X (.BoolOp .And (b::rest) pos) gu):PWD X (.BoolOp .And (a::b::rest) pos) (Q9 gt gu) :=
 .mk λB δ=>(Zh0 (ha B δ) (hb B δ)).imp fun σ H Q ⟨t,en,h,k⟩=>by
  unfold Q9 at h;cases e:gt δ with
  | none=>rw[e] at h;cases h
  | some b =>
   rw[e] at h;refine⟨b,en,e,λH' s=>?_⟩;cases b with
   | true=>exact⟨t,en.same s,h,λO s'=>k O (s.trans s')⟩
   | false =>
    simp at h;subst h;rw[if_neg A8];exact k H' s
theorem zb0(ha:PTD X a gt)(hb:PWD X (.BoolOp .Or (b::rest) pos) gu):PWD X (.BoolOp .Or (a::b::rest) pos) (S5 gt gu) :=
 .mk λB δ=>(Xz0 (ha B δ) (hb B δ)).imp fun σ H Q ⟨t,en,h,k⟩=>by
  unfold S5 at h;cases e:gt δ with
  | none=>rw[e] at h;cases h
  | some b =>
   rw[e] at h;refine⟨b,en,e,λH' s=>?_⟩;cases b with
   | false=>exact⟨t,en.same s,h,λO s'=>k O (s.trans s')⟩
   | true =>
    simp at h;subst h;rw[if_pos rfl];exact k H' s
theorem PWD.pt(h:PWD X e gt):PTD X e gt:=.mk λB δ=>(h B δ).pt
theorem G8{op}(h:PD X a g):PD X (.BoolOp op [a] pos) g:=.mk λB δ=>X10 (h B δ)
theorem N8(ha:PD X a ga)(hb:PD X (.BoolOp .And (b::rest) pos) gb):PD X (.BoolOp .And (a::b::rest) pos) (K8 ga gb) :=
 .mk λB δ=>(Zf0 (ha B δ) (hb B δ)).imp fun σ H Q ⟨d,en,h,k⟩=>by
  unfold K8 ob at h;cases e:ga δ with
  | none=>rw[e] at h;cases h
  | some x =>
   rw[e] at h;refine⟨x,en,e,λv H' s r=>?_⟩;cases x with
   | bl c =>
    rw[Y0] at r;refine⟨c,r,?_⟩;cases c with
    | true=>exact⟨d,en.same s,h,λv O s'=>k v O (s.trans s')⟩
    | false =>
     simp[asB] at h;rw[if_neg A8];exact k _ H' s (by rw[← h,Y0])
   | _=>simp[asB] at h
theorem qo0(ha:PD X a ga)(hb:PD X (.BoolOp .Or (b::rest) pos) gb):PD X (.BoolOp .Or (a::b::rest) pos) (orG ga gb) :=
 .mk λB δ=>(W10 (ha B δ) (hb B δ)).imp fun σ H Q ⟨d,en,h,k⟩=>by
  unfold orG ob at h;cases e:ga δ with
  | none=>rw[e] at h;cases h
  | some x =>
   rw[e] at h;refine⟨x,en,e,λv H' s r=>?_⟩;cases x with
   | bl c =>
    rw[Y0] at r;refine⟨c,r,?_⟩;cases c with
    | false=>exact⟨d,en.same s,h,λv O s'=>k v O (s.trans s')⟩
    | true =>
     simp[asB] at h;rw[if_pos rfl];exact k _ H' s (by rw[← h,Y0])
   | _=>simp[asB] at h
theorem f80(ha:PD X a ga):PD X (.UnaryOp .Not a pos) (lo0 ga) :=
 .mk λB δ=>(Zo0 (ha B δ)).imp fun σ H Q ⟨d,en,h,k⟩=>by
  unfold lo0 ob at h;cases e:ga δ with
  | none=>rw[e] at h;cases h
  | some x =>
   rw[e] at h;refine⟨x,en,e,λv H' s r=>?_⟩;cases x with
   | bl c =>
    rw[Y0] at r;simp[asB] at h;exact⟨c,r,k _ H' s (by rw[← h,Y0])⟩
   | _=>simp[asB] at h
theorem v6:PDA X [] z9:=.mk λB δ=>yw0.imp fun σ H Q ⟨ds,en,h,k⟩=>by cases h;exact k [] H (Same.refl H) (by rw[X6])
theorem z8(ha:PD X e g)(hr:PDA X es gA)(hs:starEach (e::es) X.env=(false,eval e X.env)::starEach es X.env:=by rfl):PDA X (e::es) (z7 g gA) :=
 .mk λB δ=>(J9 (ha B δ) (hr B δ) hs).imp fun σ H Q ⟨ds,en,h,k⟩=>by
  unfold z7 at h;cases e1:g δ with
  | none=>rw[e1] at h;cases h
  | some d =>
   cases e2:gA δ with
   | none=>rw[e1,e2] at h;cases h
   | some es' =>
    rw[e1,e2] at h;cases h;refine⟨d,en,e1,λv H1 s1 r1=>⟨es',en.same s1,e2,λvs H2 s2 r2=>k _ H2 (s1.trans s2) ?_⟩⟩;rw[Y4];exact⟨v,vs,rfl,r1.same s2,r2⟩
theorem O9{x1}(h:PDA X es gA):PD X (.Tuple es x1 pos) (W5 gA) :=
 .mk λB δ=>(ll0 (h B δ)).imp fun σ H Q ⟨d,en,h,k⟩=>by
  unfold W5 at h;cases e1:gA δ with
  | none=>rw[e1] at h;cases h
  | some ds =>
   rw[e1] at h
   by_cases hl:ds.length<=sizeLine
   ·simp only[Option.bind_some,if_pos hl] at h
    cases h;refine⟨ds,en,e1,λvs H1 s1 r1=>⟨by rw[r1.length];exact hl,λp hp=>k _ _ (s1.trans (X7 hp)) ?_⟩⟩;rw[T4];exact⟨p,vs,rfl,⟨(en.same s1).free hp,V1⟩,r1.same (X7 hp)⟩
   ·simp only[Option.bind_some,if_neg hl] at h
    cases h
theorem U0(h:PDA X es gA):PD X (.List es pos) (j4 gA) :=
 .mk λB δ=>(gz0 (h B δ)).imp fun σ H Q ⟨d,en,h,k⟩=>by
  unfold j4 at h;cases e1:gA δ with
  | none=>rw[e1] at h;cases h
  | some ds =>
   rw[e1] at h
   by_cases hl:ds.length<=sizeLine
   ·simp only[Option.bind_some,if_pos hl] at h
    cases h;refine⟨ds,en,e1,λvs H1 s1 r1=>⟨by rw[r1.length];exact hl,λp hp=>k _ _ (s1.trans (X7 hp)) ?_⟩⟩;rw[V7];exact⟨p,vs,rfl,.inl ⟨(en.same s1).free hp,.inl V1⟩,r1.same (X7 hp)⟩
   ·simp only[Option.bind_some,if_neg hl] at h
    cases h
theorem gx0{f:List D->Option D}(hf:FnR K r f){B:BS}{σ:St}{Q:VK}(h:tD K B δ (oA gA f) σ H Q):tCB r (tDA K B δ gA) σ H Q:=by
 obtain⟨d,en,h,k⟩:=h;unfold oA at h;cases e1:gA δ with
 | none=>rw[e1] at h;cases h
 | some ds =>
  rw[e1] at h;exact⟨ds,en,e1,λvs H1 s1 r1=>hf H1 B vs ds d Q (en.same s1).bad r1 h λv H' s r=>k v H' (s1.trans s) r⟩
theorem w50{id:String}{p:Pos}{f:List D->Option D}(hc:CallR X (.builtin id) r)(hf:FnR X.K r f)(hm:X.mg x=none)(hv:bootBuiltins x=some (.builtin id))(ha:PDA X (e::es) gA)(hg:Gl X x:=by rfl)
  (hn:x ≠"__name__" := by decide) (hdb:(x==("__debug__" : Str))=false:=by decide) (he:starEach (e::es) X.env=(false,eval e X.env)::starEach es X.env:=by rfl) (hpl:(backTo pos (starEach es X.env)).any (·.1)=false:=by rfl) :
  PD X (.Call (.Name x p) (e::es) [] pos) (oA gA f):=.mk λB δ=>(v60 hc hg hm hv (ha B δ) hn hdb he hpl).imp fun σ H Q h=>gx0 hf h
theorem Q3{T:String}{p:Pos}{f:List D->Option D}(hc:CallR X (.type T) r)(hf:FnR X.K r f)(hm:X.mg x=none)(hv:bootBuiltins x=some (.type T))(ha:PDA X (e::es) gA)(hg:Gl X x:=by rfl)
  (hn:x ≠"__name__" := by decide) (hdb:(x==("__debug__" : Str))=false:=by decide) (he:starEach (e::es) X.env=(false,eval e X.env)::starEach es X.env:=by rfl) (hpl:(backTo pos (starEach es X.env)).any (·.1)=false:=by rfl) :
  PD X (.Call (.Name x p) (e::es) [] pos) (oA gA f):=.mk λB δ=>(oz0 hc hg hm hv (ha B δ) hn hdb he hpl).imp fun σ H Q h=>gx0 hf h
noncomputable def spD(K:W.Frag)(f:List D->Option D):Sp:=λvs H Q _=>∃(B:BS) (ds:List D) (d:D),(∀a,B a->H a≠none)/\Rps K H B ds vs/\f ds=some d/\∀v H',Same H H'->Rp K H' B d v->Q v H'
theorem bp0{p:Pos}{f:List D->Option D}(F:FnOk X.prog X.w X.K X.mg X.base CX0 k fa fd ps (spD X.K f))(hr:Room k X.A)(hm:X.mg x=some (.ref fa))(hk:W.keepIn X.K (.ref fa)=true)(hb:Binds X.K fd ps [])
  (ha:PDA X (e::es) gA) (hg:Gl X x:=by rfl) (hdb:(x==("__debug__" : Str))=false:=by decide) (he:starEach (e::es) X.env=(false,eval e X.env)::starEach es X.env:=by rfl) (hpl:(backTo pos (starEach es X.env)).any (·.1)=false:=by rfl) :
  PD X (.Call (.Name x p) (e::es) [] pos) (oA gA f):=.mk λB δ=>(al0 (E:=E0) F hr hg hm hk hb .nil b60 (ha B δ) hdb he hpl).imp fun σ H Q h=>by
 obtain⟨d,en,h,k⟩:=h;unfold oA at h;cases e1:gA δ with
 | none=>rw[e1] at h;cases h
 | some ds =>
  rw[e1] at h;refine⟨ds,en,e1,λvs H1 s1 r1=>?_⟩;show spD X.K f (vs++[]) H1 Q E0;rw[List.append_nil];exact⟨B,ds,d,(en.same s1).bad,r1,h,λv H' s r=>k v H' (s1.trans s) r⟩
end
end DL
variable{B' B₀:DL.BS}
namespace DL
open Spec PyProof.Rows L2
structure EnvS(K:W.Frag)(H₀:Hp)(B₀:BS)(H:Hp)(σ:St)(δ:Ds):Prop where
 same:Same H₀ H
 ex:∃B:BS,(∀a,B₀ a->B a)/\(∀a,B a->B₀ a∨H₀ a=none)/\Env K H B σ δ
 fr:∀(i:Nat) (ds:D) (a:Addr),δ[i]?=some (.ow ds)->σ[i]?=some (some (.ref a))->H₀ a=none
 b0:∀a,B₀ a->H₀ a≠none
noncomputable def Ya0(K:W.Frag)(H₀:Hp)(B₀:BS)(D:Ends):Res->Prop
 | .nx δ=>∀σ H,EnvS K H₀ B₀ H σ δ->D.nx σ H
 | .rt d=>∀v H,Same H₀ H->Rp K H B₀ d v->D.rt v H
 | .bk δ=>∀σ H,EnvS K H₀ B₀ H σ δ->D.bk σ H
 | .ct δ=>∀σ H,EnvS K H₀ B₀ H σ δ->D.ct σ H
 | .rf d=>∀p H,H₀ p=none->Same H₀ H->RpL K H (λa=>B₀ a∨a=p) d p->D.rt (.ref p) H
noncomputable def tDS(K:W.Frag)(H₀:Hp)(B₀:BS)(δ:Ds)(G:Ds->Option Res):TS:=λD σ H=>∃r,EnvS K H₀ B₀ H σ δ/\G δ=some r/\Ya0 K H₀ B₀ D r
structure PSD(X:Cx)(st:Stmt)(G:Ds->Option Res):Prop where
 mk::go:∀H₀ B₀ δ,PS X st (tDS X.K H₀ B₀ δ G)
instance{X:Cx}{st:Stmt}{G:Ds->Option Res}:CoeFun (PSD X st G) (λ_=>∀H₀ B₀ δ,PS X st (tDS X.K H₀ B₀ δ G)):=⟨PSD.go⟩
structure PSsD(X:Cx)(st:List Stmt)(G:Ds->Option Res):Prop where
 mk::go:∀H₀ B₀ δ,PSs X st (tDS X.K H₀ B₀ δ G)
instance{X:Cx}{st:List Stmt}{G:Ds->Option Res}:CoeFun (PSsD X st G) (λ_=>∀H₀ B₀ δ,PSs X st (tDS X.K H₀ B₀ δ G)):=⟨PSsD.go⟩
section
variable{σ:St}
theorem EnvS.grow(e:EnvS K H₀ B₀ H σ δ)(s:Same H H'):EnvS K H₀ B₀ H' σ δ:=⟨e.same.trans s,let ⟨B,b1,b2,en⟩:=e.ex;⟨B,b1,b2,en.same s⟩,e.fr,e.b0⟩
end
structure Wr(idx:List Nat)(σ σ':St)(δ δ':Ds):Prop where
 len:σ'.length=σ.length
 oth:∀j,j∉idx->σ'[j]?=σ[j]?/\δ'[j]?=δ[j]?
 own:∀j∈idx,∀ds,δ'[j]?≠some (.ow ds)
noncomputable def tDG(K:W.Frag)(idx:List Nat)(f:D->Ds->Option Ds)(B:BS)(d:D)(δ:Ds):TG:=λv σ H Q=>∃δ',Rp K H B d v/\Env K H B σ δ/\f d δ=some δ'/\∀σ',Wr idx σ σ' δ δ'->Env K H B σ' δ'->Q σ' H
structure PGD(X:Cx)(tg:Expr)(idx:List Nat)(f:D->Ds->Option Ds):Prop where
 mk::go:∀B d δ,PG X tg (tDG X.K idx f B d δ)
instance{X:Cx}{tg:Expr}{idx:List Nat}{f:D->Ds->Option Ds}:CoeFun (PGD X tg idx f) (λ_=>∀B d δ,PG X tg (tDG X.K idx f B d δ)):=⟨PGD.go⟩
theorem _root_.L2.PG.imp{t t':TG}(h:PG X tg t)(q:∀v σ H Q,t' v σ H Q->t v σ H Q):PG X tg t':=λpins s σ H v u Q I r z=>h pins s σ H v u Q I r (q v σ H Q z)
theorem s00{σ:St}{v:V}{d:D}:Wr [i] σ (σ.set i (some v)) δ (δ.set i (.sh d)):=by
 refine⟨by simp,λj hj=>?_,λj hj ds h=>?_⟩
 ·have:j≠i:=by simpa using hj
  rw[List.getElem?_set_ne (B3 this),List.getElem?_set_ne (B3 this)];exact⟨rfl,rfl⟩
 ·have:j=i:=by simpa using hj
  subst this
  by_cases hl:j<δ.length
  ·rw[List.getElem?_set_self hl] at h;cases h
  ·rw[List.getElem?_eq_none (by simpa using hl)] at h;cases h
theorem o4(i:Nat){pos:Pos}(hN:X.N.Nodup)(hi:X.N[i]?=some x:=by rfl)(hx:Loc X.env.scope x:=by first|exact Or.inl rfl|exact Or.inr rfl)
  (hf:X.fn x=true∨X.env.scope.names.lookup x=some .local:=by first|exact .inl rfl|exact .inr rfl|assumption):PGD X (.Name x pos) [i] (gN i):=.mk λB d δ=>(xh0 (i:=i) hN hi hx hf).imp λv σ H Q ⟨δ',r,en,e,k⟩=>by
 cases e;exact k _ s00 (en.set i r)
section
variable{st:Stmt}{G G1 G2 Ga Gb:Ds->Option Res}{as bs body:List Stmt}
theorem v8:PSsD X [] p6:=.mk λH₀ B₀ δ pins s σ H D I ⟨r,en,e,k⟩=>by
 cases e;exact o30 pins s σ H D I (k σ H en)
theorem v5(h1:PSD X st G1)(h2:PSsD X rest G2):PSsD X (st::rest) (v7 G1 G2):=.mk λH₀ B₀ δ pins s σ H D I ⟨r,en,e,k⟩=>by
 unfold v7 at e;cases e1:G1 δ with
 | none=>rw[e1] at e;cases e
 | some r1 =>
  rw[e1] at e;cases r1 with
  | nx δ'=>exact G5 (h1 H₀ B₀ δ) (h2 H₀ B₀ δ') pins s σ H D I ⟨_,en,e1,fun σ' H' en'=>⟨r,en',e,k⟩⟩
  | rt d=>cases e;exact G5 (h1 H₀ B₀ δ) ze0 pins s σ H D I ⟨_,en,e1,k⟩
  | bk δ'=>cases e;exact G5 (h1 H₀ B₀ δ) ze0 pins s σ H D I ⟨_,en,e1,k⟩
  | ct δ'=>cases e;exact G5 (h1 H₀ B₀ δ) ze0 pins s σ H D I ⟨_,en,e1,k⟩
  | rf d=>cases e;exact G5 (h1 H₀ B₀ δ) ze0 pins s σ H D I ⟨_,en,e1,k⟩
theorem o6(h:PD X e g):PSD X (.Return (some e) pos) (o9 g):=.mk λH₀ B₀ δ pins s σ H D I ⟨r,en,e1,k⟩=>by
 unfold o9 at e1;obtain⟨B,b1,b2,env⟩:=en.ex;cases e2:g δ with
 | none=>rw[e2] at e1;cases e1
 | some d =>
  rw[e2] at e1;cases e1;exact lx0 (h B δ) pins s σ H D I ⟨d,env,e2,λv H' s' r=>k v H' (en.same.trans s') (r.mono (Gr.less b1))⟩
theorem EnvS.wr{B:BS}{σ σ':St}(e:EnvS K H₀ B₀ H σ δ)(b1:∀a,B₀ a->B a)(b2:∀a,B a->B₀ a∨H₀ a=none)(s:Same H H')(w:Wr idx σ σ' δ δ')(en:Env K H' B σ' δ'):EnvS K H₀ B₀ H' σ' δ':=by
 refine⟨e.same.trans s,⟨B,b1,b2,en⟩,λi ds a h1 h2=>?_,e.b0⟩
 by_cases hi:i∈idx
 ·exact absurd h1 (w.own i hi ds)
 ·rw[(w.oth i hi).2] at h1
  rw[(w.oth i hi).1] at h2;exact e.fr i ds a h1 h2
theorem Z6(h:PD X e g)(hg:PGD X tg idx f)(hs:swapsWithSole [tg] e pos.line X.env=pure false:=by rfl)(hw:swappedStores [tg] e X.env=pure none:=by rfl)
  (h1:(assignEach [tg] X.env).map (·.2)=[assign tg X.env]:=by rfl):PSD X (.Assign [tg] e pos) (j9 f g):=.mk λH₀ B₀ δ pins s σ H D I ⟨r,en,e1,k⟩=>by
 unfold j9 at e1;obtain⟨B,b1,b2,env⟩:=en.ex;cases e2:g δ with
 | none=>rw[e2] at e1;cases e1
 | some d =>
  rw[e2] at e1;simp only[Option.bind_some] at e1;cases e3:f d δ with
  | none=>rw[e3] at e1;cases e1
  | some δ' =>
   rw[e3] at e1;cases e1;exact un0 (h B δ) (hg B d δ) hs hw h1 pins s σ H D I ⟨d,env,e2,λv H' s' r=>⟨δ',r,env.same s',e3,fun σ' w en'=>k σ' H' (en.wr b1 b2 s' w en')⟩⟩
theorem Z7(hc:PTD X c gt)(ha:PSsD X as Ga)(hb:PSsD X bs Gb):PSD X (.If c as bs pos) (ifD gt Ga Gb):=.mk λH₀ B₀ δ pins s σ H D I ⟨r,en,e1,k⟩=>by
 unfold ifD at e1;obtain⟨B,b1,b2,env⟩:=en.ex;cases e2:gt δ with
 | none=>rw[e2] at e1;cases e1
 | some t =>
  rw[e2] at e1;refine cz0 (hc B δ) (ha H₀ B₀ δ) (hb H₀ B₀ δ) pins s σ H D I ⟨t,env,e2,λH' s'=>?_⟩;cases t with
  | true=>exact⟨r,en.grow s',e1,k⟩
  | false=>exact⟨r,en.grow s',e1,k⟩
structure ItD(K:W.Frag)(B:BS)(J:It)(items:List D)(H₁:Hp):Prop where
 go:∀i H,Gr H₁ H B B->i<items.length->J.go i H
 yld:∀i H x H',Gr H₁ H B B->J.yld i H x H'->i<items.length->Same H H'/\∃d,items[i]?=some d/\∀B':BS,Gr H₁ H' B B'->(∀a,B' a->H a≠none)->Rp K H' B' d x
 stop:∀i H,Gr H₁ H B B->items.length<=i->J.stop i H
noncomputable def tDI(K:W.Frag)(B:BS)(δ:Ds)(g:Ds->Option (List D)):TI:=fun σ H R=>∃items,Env K H B σ δ/\g δ=some items/\∀J H',Same H H'->ItD K B J items H'->R J H'
structure PID(X:Cx)(tg e:Expr)(g:Ds->Option (List D)):Prop where
 mk::go:∀B δ,PI X tg e (tDI X.K B δ g)
instance{X:Cx}{tg e:Expr}{g:Ds->Option (List D)}:CoeFun (PID X tg e g) (λ_=>∀B δ,PI X tg e (tDI X.K B δ g)):=⟨PID.go⟩
theorem _root_.L2.PI.imp{t t':TI}(h:PI X tg e t)(q:∀σ H R,t' σ H R->t σ H R):PI X tg e t':=λpins s σ H R I z=>h pins s σ H R I (q σ H R z)
theorem zh0(h:PD X e g):PID X tg e (M8 g):=.mk λB δ=>L2.PI.imp (Z60 (h B δ)) fun σ H R ⟨items,en,e1,k⟩=>by
 unfold M8 at e1;cases e2:g δ with
 | none=>rw[e2] at e1;cases e1
 | some d =>
  rw[e2] at e1;cases d<;>simp[iq0] at e1
  subst e1;refine⟨_,en,e2,λv H' s' r=>?_⟩;rw[V7] at r;obtain⟨a,xs,rfl,q,rs⟩:=r;refine⟨a,rfl,⟨xs,q.to⟩,k _ H' s' ⟨λi H2 g2 hi=>?_,λi H2 x H3 g2 y hi=>?_,λi H2 g2 hi=>?_⟩⟩
  ·have:i<xs.length:=by rw[rs.length];exact hi
   exact⟨xs,xs[i],(q.mono g2).to,by simp[this]⟩
  ·obtain⟨e3,y⟩:=y
   obtain⟨x',e4,r'⟩:=rs.get (i:=i) (d:=_) (E1 hi);have:=y xs (q.mono g2).to;rw[e4] at this;cases this;subst e3;exact⟨Same.refl _,_,E1 hi,λB' gB _=>r'.mono gB⟩
  ·exact⟨xs,(q.mono g2).to,by rw[rs.length];exact hi⟩
theorem zo0(h:PD X e g):PID X tg e (tupI g):=.mk λB δ=>L2.PI.imp (X00 (h B δ)) fun σ H R ⟨items,en,e1,k⟩=>by
 unfold tupI at e1;cases e2:g δ with
 | none=>rw[e2] at e1;cases e1
 | some d =>
  rw[e2] at e1;cases d<;>simp[m50] at e1
  subst e1;refine⟨_,en,e2,λv H' s' r=>?_⟩;rw[T4] at r;obtain⟨a,xs,rfl,q,rs⟩:=r;refine⟨a,rfl,⟨xs,q.to⟩,k _ H' s' ⟨λi H2 g2 hi=>?_,λi H2 x H3 g2 y hi=>?_,λi H2 g2 hi=>?_⟩⟩
  ·have:i<xs.length:=by rw[rs.length];exact hi
   exact⟨xs,xs[i],(q.mono g2).to,by simp[this]⟩
  ·obtain⟨e3,y⟩:=y
   obtain⟨x',e4,r'⟩:=rs.get (i:=i) (d:=_) (E1 hi);have:=y xs (q.mono g2).to;rw[e4] at this;cases this;subst e3;exact⟨Same.refl _,_,E1 hi,λB' gB _=>r'.mono gB⟩
  ·exact⟨xs,(q.mono g2).to,by rw[rs.length];exact hi⟩
theorem oy0(x:Str):(signs x).length=x.cps.size:=by simp[signs]
theorem ua0(h:PD X e g):PID X tg e (v90 g):=.mk λB δ=>L2.PI.imp (Yu0 (h B δ)) fun σ H R ⟨items,en,e1,k⟩=>by
 unfold v90 at e1;cases e2:g δ with
 | none=>rw[e2] at e1;cases e1
 | some d =>
  rw[e2] at e1;cases d<;>simp[pp0] at e1
  subst e1;refine⟨_,en,e2,λv H' s' r=>?_⟩;rw[Y6] at r;refine⟨_,r,k _ H' s' ⟨λi H2 g2 hi=>?_,λi H2 x H3 g2 y hi=>?_,λi H2 g2 hi=>?_⟩⟩
  ·rw[oy0] at hi;exact hi
  ·obtain⟨e3,c,hc,rfl⟩:=y
   subst e3;refine⟨Same.refl _,.str ⟨#[c]⟩,?_,λB' gB _=>by rw[Y6]⟩;unfold signs;rw[List.getElem?_map,Array.getElem?_toList,hc];rfl
  ·rw[oy0] at hi;exact hi
theorem qc0(lo hi:Int):(yn0 lo hi).length=(hi - lo).toNat:=by simp[yn0]
theorem bf0{B:BS}(lo hi:Int):ItD K B (Itr lo (hi - lo).toNat) (yn0 lo hi) H:=by
 refine⟨λi H2 g2 hi=>?_,λi H2 x H3 g2 y hi=>?_,λi H2 g2 hi=>?_⟩
 ·rw[qc0] at hi;exact hi
 ·obtain⟨e3,rfl⟩:=y
  rw[qc0] at hi;subst e3;exact⟨Same.refl _,.int (lo+i),by simp[yn0,hi],λB' gB _=>by rw[g8]⟩
 ·rw[qc0] at hi;exact hi
theorem yx0{a:Expr}(hm:X.mg "range"=none)(ha:PDA X [a] gA)(hg:Gl X "range" := by rfl)(hs:starEach [a] X.env=[(false,eval a X.env)]:=by rfl):PID X tg (.Call (.Name "range" p) [a] [] pos) (za0 gA) :=
 .mk λB δ=>L2.PI.imp (fq0 hg hm (ha B δ) hs) fun σ H R ⟨items,en,e1,k⟩=>by
 unfold za0 at e1;cases e2:gA δ with
 | none=>rw[e2] at e1;cases e1
 | some ds =>
  rw[e2] at e1;simp only[Option.bind_some] at e1;unfold g00 at e1;split at e1
  ·split at e1
   ·rename_i j hj
    cases e1;refine⟨_,en,e2,λvs H' s' r=>?_⟩;rw[Y4] at r;obtain⟨x,t,rfl,r1,r2⟩:=r;rw[X6] at r2;subst r2;rw[g8] at r1;subst r1;refine⟨j,rfl,hj.1,hj.2,k _ H' s' ?_⟩;have:=bf0 (K:=X.K) (B:=B) (H:=H') 0 j;rw[Int.sub_zero] at this;exact this
   ·cases e1
  ·cases e1
theorem EnvS.lower{H₁:Hp}{σ:St}(e:EnvS K H₁ B₀ H σ δ)(s:Same H₀ H₁)(b0:∀a,B₀ a->H₀ a≠none):EnvS K H₀ B₀ H σ δ:=by
 obtain⟨B,b1,b2,en⟩:=e.ex;exact⟨s.trans e.same,⟨B,b1,λa z=>(b2 a z).imp id λq=>s.free q,en⟩,λi ds a h1 h2=>s.free (e.fr i ds a h1 h2),b0⟩
open Classical in
theorem zl0(hp:PassesOwn (model X.prog X.w) X.A X.env X.xe)(hc:X.calm=true)(hi:PID X tg iter gi)(hg:PGD X tg idx f)(hb:PSsD X body G)
  (hs:∀x,foldedSetIterable iter X.env x=pure x:=by intro _;rfl):PSD X (.For tg iter body [] pos) (ya0 gi f G):=.mk λH₀ B₀ δ pins s σ H D I ⟨r,en,e1,k⟩=>by
 unfold ya0 at e1;obtain⟨B,b1,b2,env⟩:=en.ex;cases e2:gi δ with
 | none=>rw[e2] at e1;cases e1
 | some items =>
  rw[e2] at e1;simp only[Option.bind_some] at e1;have a5:PG X tg (λv σ H Q=>∃B d δ,tDG X.K idx f B d δ v σ H Q):=λpins s σ H v u Q I r ⟨B,d,δ,h⟩=>hg B d δ pins s σ H v u Q I r h
  have a3:PSs X body (λD σ H=>∃H₀ B₀ δ,tDS X.K H₀ B₀ δ G D σ H):=λpins s σ H D I ⟨H₀,B₀,δ,h⟩=>hb H₀ B₀ δ pins s σ H D I h
  refine Zd0 hp hc (hi B δ) a5 a3 hs pins s σ H D I ⟨items,env,e2,λJ H1 s1 it=>?_⟩;obtain⟨Hh,Z⟩:∃Hh:Hp,Hh=λb=>if B b/\¬B₀ b then none else H1 b:=⟨_,rfl⟩
  have S:∀b,¬B b->Hh b=H1 b:=λb n=>by rw[Z];exact if_neg λz=>n z.1
  have U:∀b,B b->¬B₀ b->Hh b=none:=λb n n'=>by rw[Z];exact if_pos ⟨n,n'⟩
  have a1:∀b,B₀ b->Hh b=H1 b:=λb n=>by rw[Z];exact if_neg λz=>z.2 n
  have a4:Same Hh H1:=λb o h=>by
   by_cases z:B b/\¬B₀ b
   ·rw[U b z.1 z.2] at h;cases h
   ·rw[Z] at h
    have h':(if B b/\¬B₀ b then none else H1 b)=some o:=h;rw[if_neg z] at h';exact h'
  have hS:Same H₀ Hh:=λb o h=>by
   have h1:=s1 b o (en.same b o h)
   by_cases z:B b
   ·rcases b2 b z with q|q
    ·rw[a1 b q];exact h1
    ·rw[h] at q;cases q
   ·rw[S b z];exact h1
  have Y:=env.same s1;have start:EnvS X.K Hh B₀ H1 σ δ:=by
   refine⟨a4,⟨B,b1,λa z=>?_,Y⟩,λi ds a h1 h2=>?_,λa z=>?_⟩
   ·by_cases q:B₀ a
    ·exact .inl q
    ·exact .inr (U a z q)
   ·have hn:=en.fr i ds a h1 h2
    have nb:¬B₀ a:=λz=>en.b0 a z hn
    obtain⟨o,e3,a',e4,hB,_⟩:=Pd.get Y.all h1;rw[h2] at e3;cases e3;cases e4;exact U a hB nb
   ·rw[a1 a z]
    exact Y.bad a (b1 a z)
  refine⟨λi m σ H=>m=items.length - i/\i<=items.length/\∃δi,EnvS X.K Hh B₀ H σ δi/\T5 f G (items.drop i) δi=some r,⟨_,rfl,C3 _,δ,start,e1⟩,?_⟩;rintro i m σi Hi ⟨rfl,a8,δi,O,ei⟩;have gr:Gr H1 Hi B B:=λb o n h=>⟨n,O.same b o (by rw[S b n];exact h)⟩
  by_cases hlt:i<items.length
  ·refine .inr ⟨it.go i Hi gr hlt,fun σ' H'=>∃δn,EnvS X.K Hh B₀ H' σ' δn/\T5 f G (items.drop (i+1)) δn=some r,fun σ' H' ⟨δn,en',e'⟩=>⟨items.length - (i+1),by omega,rfl,hlt,δn,en',e'⟩,λx H' y=>?_⟩
   obtain⟨sm,d,hd,rd⟩:=it.yld i Hi x H' gr y hlt;obtain⟨B',c1,c2,env0⟩:=O.ex;have a7:Rp X.K H' B' d x:=rd B' (λb o n h=>by
    have h':Hh b=some o:=by rw[S b n];exact h
    refine⟨λz=>?_,sm b o (O.same b o h')⟩;rcases c2 b z with q|q
    ·exact n (b1 b q)
    ·rw[h'] at q;cases q) env0.bad
   have a2:=env0.same sm
   replace O:=O.grow sm
   have a0:items.drop i=d::items.drop (i+1):=by
    rw[List.drop_eq_getElem_cons hlt];congr 1;rw[List.getElem?_eq_getElem hlt] at hd;exact B2 hd
   rw[a0] at ei;unfold T5 at ei;cases e3:f d δi with
   | none=>rw[e3] at ei;cases ei
   | some δ2 =>
    rw[e3] at ei;simp only[Option.bind_some] at ei;refine⟨B',d,δi,δ2,a7,a2,e3,fun σ' w en'=>?_⟩;have a6:EnvS X.K Hh B₀ H' σ' δ2:=O.wr c1 c2 (Same.refl _) w en';cases e4:G δ2 with
    | none=>rw[e4] at ei;cases ei
    | some rb =>
     rw[e4] at ei;refine⟨Hh,B₀,δ2,rb,a6,e4,?_⟩;cases rb with
     | nx δn=>exact fun σ' H' en'=>⟨δn,en',ei⟩
     | ct δn=>exact fun σ' H' en'=>⟨δn,en',ei⟩
     | bk δn =>
      cases ei;exact fun σ' H' en'=>k σ' H' (en'.lower hS en.b0)
     | rt d' =>
      cases ei;exact λv H' s' r'=>k v H' (hS.trans s') r'
     | rf d' =>
      cases ei;exact λp H' hp s' r'=>k p H' (hS.free hp) (hS.trans s') r'
  ·have e:i=items.length:=by omega
   subst e;refine .inl ⟨it.stop _ Hi gr (A1 _),?_⟩;rw[List.drop_length] at ei;cases ei;exact k σi Hi (O.lower hS en.b0)
structure PFD(X:Cx)(ifs:List Expr)(g:Ds->Option Bool):Prop where
 mk::go:∀B δ,PF X ifs (tDT X.K B δ g)
instance{X:Cx}{ifs:List Expr}{g:Ds->Option Bool}:CoeFun (PFD X ifs g) (λ_=>∀B δ,PF X ifs (tDT X.K B δ g)):=⟨PFD.go⟩
theorem O4:PFD X [] noT:=.mk λB δ pins s σ H Q I ⟨b,en,e,k⟩=>by
 cases e;exact Zb0 pins s σ H Q I (k H (Same.refl H))
theorem ae0(h:PTD X c gt):PFD X [c] gt:=.mk λB δ=>Yd0 (h B δ)
theorem l70{σ:St}(h:j<n):(X3 n caps σ)[j]?=some none:=by
 unfold X3;rw[List.getElem?_append_left (by simpa using h),List.getElem?_replicate,if_pos h]
theorem p00{B:BS}:∀n:Nat,Paired (SlR K H B) (List.replicate n (none:Option V)) (List.replicate n Sl.un)
 | 0=>.nil
 | n+1=>.cons trivial (p00 n)
theorem ke0{B:BS}{σ:St}(en:Env K H B σ δ):∀caps:List Nat,Paired (SlR K H B) (caps.map λj=>(σ[j]?).join) (caps.map λj=>p50 δ[j]?)
 | []=>.nil
 | j::caps=>by
  refine .cons ?_ (ke0 en caps);show SlR K H B (σ[j]?).join (p50 δ[j]?);cases h:δ[j]? with
  | none=>trivial
  | some sl =>
   cases sl with
   | un=>trivial
   | ow ds=>trivial
   | ex c n=>trivial
   | sh d =>
    obtain⟨v,e,r⟩:=en.get h;rw[e];exact⟨v,rfl,r⟩
theorem d90{o:Option Sl}{ds:D}(h:p50 o=.ow ds):False:=by
 cases o with
 | none=>cases h
 | some s=>cases s<;>cases h
theorem v40{ds:D}(h:(M9 n caps δ)[i]?=some (.ow ds)):False:=by
 unfold M9 at h
 by_cases hi:i<n
 ·rw[List.getElem?_append_left (by simpa using hi),List.getElem?_replicate,if_pos hi] at h
  cases h
 ·rw[List.getElem?_append_right (by simpa using hi),List.getElem?_map] at h
  cases q:caps[i - (List.replicate n Sl.un).length]? with
  | none=>rw[q] at h;cases h
  | some j =>
   rw[q] at h;exact d90 (B2 h)
theorem Env.comp{B:BS}{σ:St}(en:Env K H B σ δ)(n:Nat)(caps:List Nat):Env K H B (X3 n caps σ) (M9 n caps δ) :=
 ⟨Pd.app (p00 n) (ke0 en caps),en.bad,λi j a ds es h1 _ _ _=>(v40 h1).elim⟩
theorem SlR.gr{B:BS}{o:Option V}{s:Sl}(g:Gr H H' B B')(no:∀ds,s≠.ow ds)(h:SlR K H B o s):SlR K H' B' o s:=by
 cases s with
 | un=>trivial
 | sh d=>obtain⟨v,e,r⟩:=h;exact⟨v,e,r.mono g⟩
 | ow ds=>exact absurd rfl (no ds)
 | ex c n=>obtain⟨a,e,r⟩:=h;exact⟨a,e,r.mono g⟩
theorem Pd.impG{B:BS}(g:Gr H H' B B'):∀{σ:St} {δ:Ds},(∀(i:Nat) (ds:D),δ[i]?≠some (.ow ds))->Paired (SlR K H B) σ δ->Paired (SlR K H' B') σ δ
 | _,_,_,.nil=>.nil
 | _,_,no,.cons r t=>.cons (r.gr g λds z=>no 0 ds (by rw[← z];rfl)) (Pd.impG g (λi ds z=>no (i+1) ds (by simpa using z)) t)
noncomputable def tDF(K:W.Frag)(B:BS)(δ:Ds)(g:Ds->Option D):TE:=fun σ H Q=>∃d,Env K H B σ δ/\g δ=some d/\∀p H',H p=none->Same H H'->RpO K H' (λa=>B a∨a=p) d p->Q (.ref p) H'
structure PDF(X:Cx)(e:Expr)(g:Ds->Option D):Prop where
 mk::go:∀B δ,PE X e (tDF X.K B δ g)
instance{X:Cx}{e:Expr}{g:Ds->Option D}:CoeFun (PDF X e g) (λ_=>∀B δ,PE X e (tDF X.K B δ g)):=⟨PDF.go⟩
theorem tD.toF{B:BS}{σ:St}{Q:VK}(h:tD K B δ g σ H Q):tDF K B δ g σ H Q:=by
 obtain⟨d,en,e,k⟩:=h;exact⟨d,en,e,λp H' hp s r=>k _ H' s (r.rp (λa z=>.inl z) (en.free hp))⟩
theorem PDF.pd(h:PDF X e g):PD X e g:=.mk λB δ=>(h B δ).imp fun σ H Q z=>z.toF
theorem s40{K:W.Frag}{B:BS}{δ:Ds}{σ:St}{H:Hp}{Q:VK}{caps:List Nat}{gi:Ds->Option (List D)}{f:D->Ds->Option Ds}{gt:Ds->Option Bool}{ge:Ds->Option D}(hidx:∀j∈idx,j<n)
  (h:tDF K B δ (Y9 n caps gi f gt ge) σ H Q) :
  m80 n caps (tDI K B δ gi) (λv σ H Q=>∃B d δ,tDG K idx f B d δ v σ H Q) (fun σ H Q=>∃B δ,tDT K B δ gt σ H Q) (fun σ H Q=>∃B δ,tD K B δ ge σ H Q) σ H Q:=by
 obtain⟨d,en,h,k⟩:=h;unfold Y9 at h;cases e1:gi δ with
 | none=>rw[e1] at h;cases h
 | some items =>
  rw[e1] at h;simp only[Option.bind_some] at h
  by_cases hsz:items.length<=sizeLine
  ·rw[if_pos hsz] at h
   cases e2:K7 f gt ge (M9 n caps δ) items with
   | none=>rw[e2] at h;cases h
   | some out =>
    rw[e2] at h;cases h;refine⟨items,en,e1,λJ H1 s1 it=>λL hL=>?_⟩;have U:=en.same s1;have a9:¬B L:=U.free hL;obtain⟨Bp,S⟩:∃Bp:BS,Bp=λa=>B a∨a=L:=⟨_,rfl⟩
    have a5:Bp L:=by rw[S];exact .inr rfl
    have a6:∀a,B a->Bp a:=λa z=>by rw[S];exact .inl z
    have Z:∀a,Bp a->B a∨a=L:=λa z=>by rw[S] at z;exact z
    have gr:∀{H2:Hp},Same H1 H2->Gr H1 H2 B Bp:=λ{H2} s2 b o nb hb=>⟨(λz=>by
     rcases Z b z with q|q
     ·exact nb q
     ·subst q;rw[hL] at hb;cases hb),s2 b o hb⟩
    refine⟨λi m ys H2=>m=items.length - i/\i<=items.length/\H2 L=some (.lst ys)/\Same H1 H2/\ys.length<=i/\∃pre rest,out=pre++rest/\Rps K H2 Bp pre ys/\K7 f gt ge (M9 n caps δ) (items.drop i)=some rest,
     ⟨_,rfl,C3 _,V1,X7 hL,A1 _,[],out,rfl,by rw[X6],e2⟩,?_⟩
    rintro i m ys H2 ⟨rfl,a7,hD,s2,a8,pre,rest,ho,rp,ec⟩;have O:Env K H2 Bp (X3 n caps σ) (M9 n caps δ):=by
     refine⟨Pd.impG (gr s2) (λi ds z=>v40 z) (U.comp n caps).all,λa z=>?_,λi j a ds es h1 _ _ _=>(v40 h1).elim⟩;rcases Z a z with q|q
     ·exact(U.same s2).bad a q
     ·subst q;rw[hD];exact λz=>nomatch z
    by_cases hlt:i<items.length
    ·refine .inr ⟨it.go i H2 (Gr.same s2) hlt,λx H3 y=>?_⟩
     obtain⟨sm,dx,a0,rx⟩:=it.yld i H2 x H3 (Gr.same s2) y hlt;have a1:Rp K H3 Bp dx x:=rx Bp (gr (s2.trans sm)) O.bad
     replace O:=O.same sm
     replace s2:=s2.trans sm
     replace hD:=sm _ _ hD
     replace rp:=rp.same sm
     have Y:items.drop i=dx::items.drop (i+1):=by
      rw[List.drop_eq_getElem_cons hlt];congr 1;rw[List.getElem?_eq_getElem hlt] at a0;exact B2 a0
     rw[Y] at ec;unfold K7 at ec;cases e3:f dx (M9 n caps δ) with
     | none=>rw[e3] at ec;cases ec
     | some δ' =>
      rw[e3] at ec;dsimp only at ec;refine⟨Bp,dx,M9 n caps δ,δ',a1,O,e3,fun σ4 w en4=>⟨⟨w.len,λj v z=>?_⟩,?_⟩⟩
      ·by_cases hj:j∈idx
       ·rw[l70 (hidx j hj)] at z;cases z
       ·rw[(w.oth j hj).1];exact z
      ·cases e4:gt δ' with
       | none=>rw[e4] at ec;cases ec
       | some t =>
        rw[e4] at ec;refine⟨Bp,δ',t,en4,e4,λH5 s5=>?_⟩;cases t with
        | false =>
         rw[if_neg A8];exact⟨items.length - (i+1),by omega,rfl,hlt,s5 _ _ hD,s2.trans s5,by omega,pre,rest,ho,rp.same s5,ec⟩
        | true =>
         rw[if_pos rfl];dsimp only at ec;cases e5:ge δ' with
         | none=>rw[e5] at ec;cases ec
         | some yd =>
          rw[e5] at ec;dsimp only at ec;cases e6:K7 f gt ge (M9 n caps δ) (items.drop (i+1)) with
          | none=>rw[e6] at ec;cases ec
          | some rest' =>
           rw[e6] at ec;cases ec;refine⟨Bp,δ',yd,en4.same s5,e5,λv H6 s6 r6=>?_⟩;have a2:H6 L=some (.lst ys):=s6 _ _ (s5 _ _ hD);have g6:Gr H6 (upd H6 L (.lst (ys++[v]))) Bp Bp:=λb o nb hb=>⟨nb,by
            rw[W4 (λz=>nb (by rw[z];exact a5))];exact hb⟩
           refine⟨a2,by omega,items.length - (i+1),by omega,rfl,hlt,V1,λb o hb=>?_,by simp;omega,pre++[yd],rest',by rw[ho];simp,?_,e6⟩
           ·have a4:b≠L:=λz=>by rw[z,hL] at hb;cases hb
            rw[W4 a4];exact s6 _ _ (s5 _ _ (s2 _ _ hb))
           ·exact(Rps.snoc ((rp.same s5).same s6) r6).mono g6
    ·have e:i=items.length:=by omega
     subst e;refine .inl ⟨it.stop _ H2 (Gr.same s2) (A1 _),?_⟩;rw[List.drop_length] at ec;have a3:([]:List D)=rest:=B2 ec;subst a3;rw[List.append_nil] at ho;subst ho;refine k L H2 (s1.free hL) (s1.trans s2) ⟨ys,hD,?_⟩;rw[S] at rp;exact rp
  ·rw[if_neg hsz] at h;cases h
theorem d00{sc scope:Scope}{elt iter:Expr}{ifs:List Expr}{N':List Str}{n:Nat}{caps:List Nat}{gi:Ds->Option (List D)}{idx:List Nat}{f:D->Ds->Option Ds}{ge:Ds->Option D}
  (hc:X.calm=true) (hsc:X.env.scope=sc) (ok:CompOk sc scope X.N N' n caps) (hidx:∀j∈idx,j<n) (hi:PID X tg iter gi)
  (hg:∀cl s H ex,PGD (X8 X scope cl N' s H ex) tg idx f) (ht:∀cl s H ex,PFD (X8 X scope cl N' s H ex) ifs gt) (he:∀cl s H ex,PD (X8 X scope cl N' s H ex) elt ge)
  (hs:∀x,foldedSetIterable iter X.env x=pure x:=by intro _;rfl) :
  PDF X (.ListComp elt [⟨tg,iter,ifs,0⟩] scope pos) (Y9 n caps gi f gt ge):=.mk λB δ =>
 (bc0 hc hsc ok (hi B δ) (g:=λv σ H Q=>∃B d δ,tDG X.K idx f B d δ v σ H Q) (tt:=fun σ H Q=>∃B δ,tDT X.K B δ gt σ H Q) (te:=fun σ H Q=>∃B δ,tD X.K B δ ge σ H Q)
  (λcl s H ex pins s' σ H v u Q I r ⟨B,d,δ,h⟩=>hg cl s _ ex B d δ pins s' σ H v u Q I r h)
  (λcl s H ex pins s' σ H Q I ⟨B,δ,h⟩=>ht cl s _ ex B δ pins s' σ H Q I h)
  (λcl s H ex pins s' σ H Q I ⟨B,δ,h⟩=>he cl s _ ex B δ pins s' σ H Q I h) hs).imp fun σ H Q h=>s40 hidx h
theorem aa0{sc scope:Scope}{elt iter:Expr}{ifs:List Expr}{N':List Str}{n:Nat}{caps:List Nat}{gi:Ds->Option (List D)}{idx:List Nat}{f:D->Ds->Option Ds}{ge:Ds->Option D}
  (hc:X.calm=true) (hsc:X.env.scope=sc) (ok:CompOk sc scope X.N N' n caps) (hidx:∀j∈idx,j<n) (hi:PID X tg iter gi)
  (hg:∀cl s H ex,PGD (X8 X scope cl N' s H ex) tg idx f) (ht:∀cl s H ex,PFD (X8 X scope cl N' s H ex) ifs gt) (he:∀cl s H ex,PD (X8 X scope cl N' s H ex) elt ge)
  (hs:∀x,foldedSetIterable iter X.env x=pure x:=by intro _;rfl) :
  PD X (.ListComp elt [⟨tg,iter,ifs,0⟩] scope pos) (Y9 n caps gi f gt ge):=(d00 hc hsc ok hidx hi hg ht he hs).pd
theorem kq0(i:Nat){y:Str}{py spos:Pos}{sc scope:Scope}{elt iter:Expr}{ifs:List Expr}{N':List Str}{n:Nat}{caps:List Nat}{gi:Ds->Option (List D)}{idx:List Nat}{f:D->Ds->Option Ds}{ge:Ds->Option D}
  (hN:X.N.Nodup) (hc:X.calm=true) (hsc:X.env.scope=sc) (ok:CompOk sc scope X.N N' n caps) (hidx:∀j∈idx,j<n) (hi:PID X tg iter gi)
  (hg:∀cl s H ex,PGD (X8 X scope cl N' s H ex) tg idx f) (ht:∀cl s H ex,PFD (X8 X scope cl N' s H ex) ifs gt) (he:∀cl s H ex,PD (X8 X scope cl N' s H ex) elt ge)
  (hiN:X.N[i]?=some y:=by rfl) (hy:Loc X.env.scope y:=by first|exact Or.inl rfl|exact Or.inr rfl)
  (hsw:swapsWith (.ListComp elt [⟨tg,iter,ifs,0⟩] scope pos) (some (.Name y py)) spos.line X.env=pure true:=by rfl)
  (hs:∀x,foldedSetIterable iter X.env x=pure x:=by intro _;rfl)
  (hf:X.fn y=true∨X.env.scope.names.lookup y=some .local:=by first|exact .inl rfl|exact .inr rfl|assumption) :
  PSD X (.Assign [.Name y py] (.ListComp elt [⟨tg,iter,ifs,0⟩] scope pos) spos) (j9 (gN i) (Y9 n caps gi f gt ge)):=.mk λH₀ B₀ δ pins s σ H D I ⟨r,en,e1,k⟩=>by
 unfold j9 at e1;obtain⟨B,b1,b2,env⟩:=en.ex;cases e2:Y9 n caps gi f gt ge δ with
 | none=>rw[e2] at e1;cases e1
 | some d =>
  rw[e2] at e1;cases e1;refine if0 (i:=i) hN hiN hy hc hsc ok (hi B δ) (g:=λv σ H Q=>∃B d δ,tDG X.K idx f B d δ v σ H Q) (tt:=fun σ H Q=>∃B δ,tDT X.K B δ gt σ H Q) (te:=fun σ H Q=>∃B δ,tD X.K B δ ge σ H Q)
   (λcl s H ex pins s' σ H v u Q I r ⟨B,d,δ,h⟩=>hg cl s _ ex B d δ pins s' σ H v u Q I r h)
   (λcl s H ex pins s' σ H Q I ⟨B,δ,h⟩=>ht cl s _ ex B δ pins s' σ H Q I h)
   (λcl s H ex pins s' σ H Q I ⟨B,δ,h⟩=>he cl s _ ex B δ pins s' σ H Q I h) hsw hs hf pins s σ H D I (s40 hidx (tD.toF ⟨d,env,e2,λv H' s' r'=>k _ H' (en.wr b1 b2 s' s00 ((env.same s').set i r'))⟩))
end
theorem tp0{B:BS}{N:List Str}:∀{ds:List D} {vs:List V},Rps K H B ds vs->Paired (SlR K H B) (vs.map some) (ds.map Sl.sh)
 | [],_,h=>by rw[X6] at h;subst h;exact .nil
 | d::ds,_,h=>by
  rw[Y4] at h;obtain⟨x,r,rfl,h1,h2⟩:=h;exact .cons ⟨x,rfl,h1⟩ (tp0 (N:=N) h2)
theorem vu0{es:D}(h:(W8 N ds)[i]?=some (.ow es)):False:=by
 unfold W8 at h
 by_cases hi:i<ds.length
 ·rw[List.getElem?_append_left (by simpa using hi),List.getElem?_map] at h
  cases q:ds[i]? with
  | none=>rw[q] at h;cases h
  | some d=>rw[q] at h;cases h
 ·rw[List.getElem?_append_right (by simpa using hi),List.getElem?_replicate] at h
  split at h<;>cases h
section
variable{P:Program}{w:World}
theorem okD{st:Stmt}{k:Nat}{f:List D->Option D}{G:Ds->Option Res}(F:Fun K x qual st fa fd)(S:FnScope N ps (u0 st))
  (body:∀(cdv:Value) (A:Around) (outer:List PySem.Env) (s:Shared) (H:Hp) (E:XK),Room k (A.deeper (envOfC qual (u0 st) s.heap.objs.size fa cdv))->PSsD (sa0 CX0 P w K mg base N qual (u0 st) fa cdv A outer s H E).nox (j6 st) G)
  (hf:∀ds d,f ds=some d->ds.length=ps.length/\(G (W8 N ds)=some (.rt d)∨(d=.non/\∃δ,G (W8 N ds)=some (.nx δ))∨G (W8 N ds)=some (.rf d)/\isL d=false)) :
  FnOk P w K mg base CX0 (k+1) fa fd ps (spD K f):=by
 refine F.ok S (λvs H Q E ⟨B,ds,d,_,r,h,_⟩=>?_) (λcdv A outer s H vs Q E hr ⟨B,ds,d,hb,r,h,q⟩=>?_)
 ·rw[r.length];exact(hf ds d h).1
 ·refine⟨_,body cdv A outer s H E hr H B (W8 N ds),?_⟩
  have en:EnvS K H B H (L2.start N vs) (W8 N ds):=by
   refine⟨Same.refl H,⟨B,λ_ z=>z,λ_ z=>.inl z,⟨?_,hb,λi j a O es h1 _ _ _=>(vu0 h1).elim⟩⟩,λi O a h1 _=>(vu0 h1).elim,hb⟩;unfold L2.start W8;rw[r.length];exact Pd.app (tp0 (N:=N) r) (p00 _)
  rcases (hf ds d h).2 with e|⟨rfl,δ,e⟩|⟨e,hn⟩
  ·exact⟨_,en,e,λv H' s' r'=>q v H' s' r'⟩
  ·exact⟨_,en,e,fun σ' H' en'=>q .non H' en'.same (by rw[R5])⟩
  ·exact⟨_,en,e,λp H' hp s' r'=>q _ H' s' ((r'.toO hn).rp (λa z=>.inl z) (λz=>hb p z hp))⟩
end
end DL
namespace L2
open Spec PyProof.Rows
theorem k80:∀{bs:List Bool} {us:List Value} {i:Nat} {v:Value},Vals (bs.map V.bl) us->us[i]?=some v->v=.bool (bs.getD i true)
 | [],_,_,_,r,e=>by
  rw[List.map_nil] at r;cases r;simp at e
 | b::bs,_,0,v,r,e=>by
  rw[List.map_cons] at r;cases r with
  | cons r1 r2=>simp at e;subst e;exact r1
 | b::bs,_,i+1,v,r,e=>by
  rw[List.map_cons] at r;cases r with
  | cons r1 r2=>simpa using k80 (i:=i) r2 (by simpa using e)
theorem all_range(bs:List Bool):(List.range bs.length).all (λi=>bs.getD i true)=bs.all id:=by
 rw[Bool.eq_iff_iff,List.all_eq_true,List.all_eq_true];constructor
 ·intro h b hb
  obtain⟨i,hi,rfl⟩:=List.mem_iff_getElem.mp hb;have:=h i (B4.mpr hi)
  simpa [y9,hi] using this
 ·intro h i hi
  have O:=B4.mp hi;have:=h bs[i] (A00 O)
  simpa [y9,O] using this
theorem vh0(hc:X.calm=true):CallR X (.builtin "all") (λxs H Q=>∃(p:Addr) (bs:List Bool),xs=[.ref p]/\SqL X.K H p (bs.map V.bl)/\Q (.bl (bs.all id)) H):=by
 intro pins s σ H xs us Q I rs h;obtain⟨p,bs,rfl,hq,q⟩:=h;obtain⟨u,rfl,ru⟩:=rs.one;cases ru;obtain⟨its,rv,pl,hz⟩:=I.list hq;refine call_all_walk (X2 pl.isList ?_);have hp:p≠s.heap.objs.size:=by
  obtain⟨o,n,e,_⟩:=pl;exact B6 (A4 e)
 refine⟨_,_,_,_,_,_,λi=>bs.getD i true,rfl,Walks.list (A:=X.A.in1) (I.ok.hd hc) s.heap.objs.size p hp its.toArray,⟨⟨_,C6 _ rfl,rfl,rfl⟩,pl.isList.push _⟩,?_,?_⟩
 ·intro i v s' Q' E' hP hQ
  have e:=k80 rv (i:=i) (v:=v) (by simpa using hP);subst e;exact E6 hQ
 ·intro h' tk hk
  have e1:its.toArray.size=bs.length:=by
   have:=rv.length;simp at this;simp[this]
  rw[e1,all_range];refine⟨.bl (bs.all id),H,I.kept (t':=tk) λb o e=>?_,rfl,q⟩;refine hk b o ?_ (B0 _ e);intro z;have z':b=s.heap.objs.size:=by simpa using z
  subst z';exact absurd (A4 e) (C1 _)
theorem q60:∀{ys:List Str} {us:List Value},Vals (ys.map V.str) us->StrsAre us ys
 | [],_,r=>by rw[List.map_nil] at r;cases r;exact .nil
 | y::ys,_,r=>by
  rw[List.map_cons] at r;cases r with
  | cons r1 r2 =>
   obtain⟨t,e⟩:=r1;subst e;exact .cons y t (q60 r2)
theorem ax0:MtR X "str.join" (λx xs H Q=>∃(sep:Str) (p:Addr) (ys:List Str),x=.str sep/\xs=[.ref p]/\SqL X.K H p (ys.map V.str)/\(ys.map (·.length)).sum+ys.length*sep.length<=16777216/\Q (.str (Txt.join sep ys)) H):=by
 intro pins s σ H x xs v us Q I rx rs h;obtain⟨sep,p,ys,rfl,rfl,hq,hz,q⟩:=h;obtain⟨t,rfl⟩:=rx;obtain⟨u,rfl,ru⟩:=rs.one;cases ru;obtain⟨its,rv,pl,_⟩:=I.list hq;exact join_list pl.isList (by simpa using q60 rv) hz λt' k=>⟨.str _,H,I.tok k,⟨t',rfl⟩,q⟩
theorem part_of{o:Option Int}(p:IsPart u o):∃l:Option (Int×Tok),u=partValue l/\l.map (·.1)=o:=by
 cases p with
 | none=>exact⟨none,rfl,rfl⟩
 | int i t=>exact⟨some (i,t),rfl,rfl⟩
theorem Xf0:SlR X (λx lo hi H Q=>∃z,x=.str z/\z.length<=sizeLine/\Q (.str (Txt.slice z lo hi)) H):=by
 intro pins s σ H x v vl vu lo hi sl Q I rx hs pl pu h;obtain⟨z,rfl,hz,q⟩:=h;obtain⟨t,rfl⟩:=rx;obtain⟨l,rfl,rfl⟩:=part_of pl;obtain⟨u,rfl,rfl⟩:=part_of pu;refine⟨"str",_,F.slot_str_getitem.lookup,C9 _ _ _,wpAny_getItem_str_slice (l:=l) (u:=u) (st:=none) ?_ rfl (post_val_or_str ⟨A9 (Txt.slice_le z _ _) hz,λt' k=>⟨.str _,H,I.tok k,⟨t',rfl⟩,q⟩⟩)⟩;obtain⟨o,h1,h2,h3⟩:=hs;exact⟨o,h1,h2,h3⟩
end L2
namespace DL
open Spec PyProof.Rows L2
noncomputable def tyD:D->String
 | .non => "NoneType"|.bl _ => "bool"|.int _ => "int"|.str _ => "str"|.tup _ => "tuple"|.lst _ => "list"|.dct _ _ => "dict"
noncomputable def okT(T:String)(f:D->Bool):Prop:=∀(K:W.Frag) (d:D),W.kitOne K (.type (tyD d)) (.type T)=some (f d)
theorem ak0:okT "int" isInt:=λK d=>by cases d<;>kernel_rfl
theorem oa0:okT "str" isStr:=λK d=>by cases d<;>kernel_rfl
theorem dh0:okT "bool" isBool:=λK d=>by cases d<;>kernel_rfl
theorem vo0:okT "tuple" isTup:=λK d=>by cases d<;>kernel_rfl
section
theorem da0{T:String}{f:D->Bool}(hT:okT T f):CallR X (.builtin "isinstance") (λxs H Q=>∃B d x,xs=[x,.ty T]/\Rp X.K H B d x/\Q (.bl (f d)) H):=by
 intro pins s σ H xs us Q I rs h;obtain⟨B,d,x,rfl,r,q⟩:=h;obtain⟨u,c,rfl,ru,rc⟩:=rs.two;obtain rfl:c=Value.type T:=rc;have O:∀tk,EP X pins σ Q (.bool (f d)) { s with toks:=tk }:=λtk=>⟨.bl _,H,I.tok tk,rfl,q⟩
 have e:=hT X.K d;cases d with
 | non=>rw[R5] at r;subst r;cases (show u=Value.none from ru);exact E2 W.kitx_none I.kIn True.intro e (λz=>nomatch z) O
 | bl y=>rw[Y0] at r;subst r;cases (show u=Value.bool y from ru);exact E2 W.kitx_bool I.kIn True.intro e (λz=>nomatch z) O
 | int i=>rw[g8] at r;subst r;obtain⟨t,rfl⟩:=(show ∃t,u=Value.int i t from ru);exact E2 W.kitx_int I.kIn True.intro e (λz=>nomatch z) O
 | str y=>rw[Y6] at r;subst r;obtain⟨t,rfl⟩:=(show ∃t,u=Value.str y t from ru);exact E2 W.kitx_str I.kIn True.intro e (λz=>nomatch z) O
 | tup ds =>
  rw[T4] at r;obtain⟨a,xs,rfl,hq,_⟩:=r;cases (show u=Value.ref a from ru);obtain⟨its,_,p,_⟩:=I.tuple hq.to;obtain⟨o,h1,h2,_⟩:=p;exact E2 W.kitx_tuple I.kIn ⟨o,h1,h2⟩ e (λz=>nomatch z) O
 | lst ds =>
  rw[V7] at r;obtain⟨a,xs,rfl,hq,_⟩:=r;cases (show u=Value.ref a from ru);obtain⟨its,_,p,_⟩:=I.list hq.to;obtain⟨o,n,h1,h2,_⟩:=p;exact E2 W.kitx_list I.kIn ⟨o,h1,h2⟩ e (λz=>nomatch z) O
 | dct ks ds =>
  rw[u60] at r;obtain⟨a,xs,rfl,_,hq,_⟩:=r;cases (show u=Value.ref a from ru);cases ks with
  | inl ks =>
   obtain⟨_,_,vs,_,p⟩:=(show ObjOk X.prog X.w H s.heap a (.dK (ks.zip xs)) from I.hok a _ hq);obtain⟨o,es,ep,h1,h2,_⟩:=p;exact E2 W.kitx_dict I.kIn ⟨o,h1,h2.1⟩ e (λz=>nomatch z) O
  | inr ks =>
   obtain⟨_,_,vs,_,o,es,ep,h1,h2,_⟩:=(show ObjOk X.prog X.w H s.heap a (.dT (ks.zip xs)) from I.hok a _ hq);exact E2 W.kitx_dict I.kIn ⟨o,h1,h2.1⟩ e (λz=>nomatch z) O
theorem xb0{T:String}{f:D->Bool}{Tn:Str}{p p2 pos:Pos}(hT:okT T f)(hb:bootBuiltins Tn=some (.type T))(hm:X.mg "isinstance"=none)(hmT:X.mg Tn=none)(h:PD X e g)(hg:Gl X "isinstance" := by rfl)(hgT:Gl X Tn:=by rfl)
  (hn:Tn ≠"__name__" := by decide) (hd:(Tn==("__debug__" : Str))=false:=by decide)
  (he:starEach [e,.Name Tn p2] X.env=(false,eval e X.env)::starEach [.Name Tn p2] X.env:=by rfl) (he2:starEach [.Name Tn p2] X.env=(false,eval (.Name Tn p2) X.env)::starEach [] X.env:=by rfl)
  (hpl:(backTo pos (starEach [.Name Tn p2] X.env)).any (·.1)=false:=by rfl) :
  PD X (.Call (.Name "isinstance" p) [e,.Name Tn p2] [] pos) (w40 f g) :=
 .mk λB δ=>(v60 (da0 hT) hg hm PyProof.Rows.boot_isinstance (J9 (h B δ) (J9 (af0 (v:=.ty T) hgT hmT hb rfl hn hd) yw0 he2) he) (by decide) (by decide) he hpl).imp fun σ H Q ⟨d,en,h,k⟩=>by
  unfold w40 at h;cases e1:g δ with
  | none=>rw[e1] at h;cases h
  | some x =>
   rw[e1] at h;cases h;exact⟨x,en,e1,λv H1 s1 r1=>⟨B,x,v,rfl,r1,k _ H1 s1 (by rw[Y0])⟩⟩
theorem gc0{C:Int->Int->Prop}[∀i j,Decidable (C i j)]{g:Int->Int->V}{g':Int->Int->D}(hg:∀i j H B,Rp K H B (g' i j) (g i j)):Op2 K (rI C g) (ii λi j=>if C i j then some (g' i j) else none):=by
 intro H B x y dx dy d Q hb rx ry h k;cases dx<;>cases dy<;>simp only[ii] at h<;>try cases h
 rename_i i j;split at h
 ·cases h
  rw[g8] at rx ry;subst rx ry;exact⟨i,j,rfl,rfl,by assumption,k _ H (Same.refl H) (hg i j H B)⟩
 ·cases h
theorem s70{g:Int->Int->V}{g':Int->Int->D}(hg:∀i j H B,Rp K H B (g' i j) (g i j)):Op2 K (rI0 g) (ii λi j=>some (g' i j)):=by
 intro H B x y dx dy d Q hb rx ry h k;cases dx<;>cases dy<;>simp only[ii] at h<;>try cases h
 rename_i i j;rw[g8] at rx ry;subst rx ry;exact⟨i,j,rfl,rfl,k _ H (Same.refl H) (hg i j H B)⟩
instance decDiv(i j:Int):Decidable (cj0 i j):=inferInstanceAs (Decidable (0<j/\j<1073741824))
variable{a:Expr}
theorem sj0(ha:PD X a ga)(hb:PD X b gb):PD X (.BinOp a .Sub b pos) (o2 ga gb y70):=r00 Xd0 (s70 (g':=λi j=>.int (i - j)) λ_ _ _ _=>by rw[g8]) ha hb
theorem G3(ha:PD X a ga)(hb:PD X b gb):PD X (.BinOp a .FloorDiv b pos) (o2 ga gb W7):=r00 ar0 (gc0 (C:=cj0) (g':=λi j=>.int (i/j)) λ_ _ _ _=>by rw[g8]) ha hb
theorem Q6(ha:PD X a ga)(hb:PD X b gb):PD X (.BinOp a .Mod b pos) (o2 ga gb Z8):=r00 X50 (gc0 (C:=λ_ j=>0<j) (g':=λi j=>.int (i%j)) λ_ _ _ _=>by rw[g8]) ha hb
end
end DL
namespace L2
open Spec PyProof.Rows
noncomputable def cn0(K:W.Frag):R2:=λx y H Q=>∃l b xs zs,x=.ref l/\y=.ref b/\SqL K H l xs/\SqL K H b zs/\xs.length+zs.length<=sizeLine/\∀p,H p=none->Q (.ref p) (upd H p (.lst (xs++zs)))
theorem a00:OpR X (binaryOp .Add) (cn0 X.K):=by
 intro pins s σ H x y v u Q I rx ry h;obtain⟨l,b,xs,zs,rfl,rfl,hH,hB,hz,q⟩:=h;cases rx;cases ry;obtain⟨its,r,p1,z1⟩:=I.list hH;obtain⟨O,r2,p2,z2⟩:=I.list hB;obtain⟨⟨cls,dd,data,sl⟩,ho,hc,n,hd⟩:=p1.isList;obtain⟨⟨a2,a1,data2,a0⟩,U,S,n2,Y⟩:=p2.isList;simp only at hc hd S Y;subst hc hd S Y;have e:its.toArray++O.toArray=(its++O).toArray:=by simp
 have Z:its.toArray.size+O.toArray.size<=sizeLine:=by
  rw[List.size_toArray,List.size_toArray,← r.length,← r2.length];exact hz
 refine P4 ⟨_,ho,rfl⟩ ⟨_,U,rfl⟩ noFill_list_add seq_list_add PySem.F.slot_list_add PySem.F.entry_list_add (PySem.F.args_list_add_2 _ _) (list_addW l b its.toArray O.toArray n n2 dd a1 sl a0 Z) ⟨ho,U,?_⟩;rw[e];exact⟨.ref _,_,I.lnew (t':=s.toks) (r.append r2) (by rw[List.length_append];exact hz),rfl,q _ I.fresh⟩
end L2
namespace DL
open Spec PyProof.Rows L2
section
variable{a:Expr}
theorem ng0{B:BS}(hb:∀a,B a->H a≠none){p:Addr}(h:H p=none):¬B p:=λz=>hb p z h
theorem u80{B:BS}{p:Addr}(hb:∀a,B a->H a≠none)(h:H p=none)(r:Rps K H B ds xs):Rp K (upd H p (.lst xs)) B (.lst ds) (.ref p):=by
 rw[V7];exact⟨p,xs,rfl,.inl ⟨ng0 hb h,.inl V1⟩,r.same (X7 h)⟩
theorem sr0{B:BS}{p:Addr}(hb:∀a,B a->H a≠none)(h:H p=none)(r:Rps K H B ds xs):Rp K (upd H p (.tup xs)) B (.tup ds) (.ref p):=by
 rw[T4];exact⟨p,xs,rfl,⟨ng0 hb h,V1⟩,r.same (X7 h)⟩
theorem ka0:Op2 K (rI0 λi j=>.bl (decide (i<j))) ltD:=s70 (g':=λi j=>.bl (decide (i<j))) λ_ _ _ _=>by rw[Y0]
theorem si0:Op2 K (rI0 λi j=>.bl (decide (i<=j))) leD:=s70 (g':=λi j=>.bl (decide (i<=j))) λ_ _ _ _=>by rw[Y0]
theorem uf0:Op2 K (rI0 λi j=>.bl (decide (j<i))) gtD:=s70 (g':=λi j=>.bl (decide (j<i))) λ_ _ _ _=>by rw[Y0]
theorem fj0:Op2 K (rI0 λi j=>.bl (decide (j<=i))) geD:=s70 (g':=λi j=>.bl (decide (j<=i))) λ_ _ _ _=>by rw[Y0]
theorem ea0{B:BS}{x y:V}{dx dy:D}{b:Bool}(rx:Rp K H B dx x)(ry:Rp K H B dy y)(h:eqS dx dy=some b):ca0 x y=true/\decide (x=y)=b:=by
 cases dx<;>cases dy<;>simp only[eqS] at h<;>try cases h
 all_goals
  simp only[R5,Y0,g8,Y6] at rx ry;subst rx ry;refine⟨rfl,?_⟩;simp
theorem V6:Op2 K rEq eqD:=by
 intro H B x y dx dy d Q hb rx ry h k;unfold eqD at h;cases e:eqS dx dy with
 | none=>rw[e] at h;cases h
 | some b =>
  rw[e] at h;cases h;obtain⟨h1,h2⟩:=ea0 rx ry e;exact⟨h1,by rw[h2];exact k _ H (Same.refl H) (by rw[Y0])⟩
theorem ul0:Op2 K rNe neD:=by
 intro H B x y dx dy d Q hb rx ry h k;unfold neD at h;cases e:eqS dx dy with
 | none=>rw[e] at h;cases h
 | some b =>
  rw[e] at h;cases h;obtain⟨h1,h2⟩:=ea0 rx ry e;exact⟨h1,by rw[h2];exact k _ H (Same.refl H) (by rw[Y0])⟩
theorem kg0:Op2 K (λx y H Q=>∃i j,x=.str i/\y=.str j/\Q (.bl (!(Builtin.Str.occurrences j i 0 j.length 1).isEmpty)) H) inD:=by
 intro H B x y dx dy d Q hb rx ry h k;cases dx<;>cases dy<;>simp only[inD] at h<;>try cases h
 rw[Y6] at rx ry;subst rx ry;exact⟨_,_,rfl,rfl,k _ H (Same.refl H) (by rw[Y0];rfl)⟩
theorem uk0:Op2 K (λx y H Q=>∃i j,x=.str i/\y=.str j/\Q (.bl (!(!(Builtin.Str.occurrences j i 0 j.length 1).isEmpty))) H) ye0:=by
 intro H B x y dx dy d Q hb rx ry h k;cases dx<;>cases dy<;>simp only[ye0] at h<;>try cases h
 rw[Y6] at rx ry;subst rx ry;exact⟨_,_,rfl,rfl,k _ H (Same.refl H) (by rw[Y0];rfl)⟩
theorem wz0:Op2 K (λx y H Q=>y=.non/\Q (.bl (decide (x=.non))) H) zs0:=by
 intro H B x y dx dy d Q hb rx ry h k;have hy:dy=.non:=by cases dy<;>first|rfl|cases h
 subst hy;cases h;rw[R5] at ry;refine⟨ry,k _ H (Same.refl H) ?_⟩;rw[Y0];cases dx<;>simp only[R5,Y0,g8,Y6,T4,V7,u60] at rx
 all_goals first
  | (subst rx;rfl)
  | (obtain⟨a,xs,rfl,_⟩:=rx;rfl)
theorem Zi0(xs:List α)(i:Int):L2.atI xs i=DL.atI xs i:=rfl
theorem um0(n d:Nat)(o:Option Int):HT.sIx n d o=sIx n d o:=by cases o<;>rfl
theorem j70{B:BS}{i:Int}{d:D}(r:Rps K H B ds xs)(h:DL.atI ds i=some d):∃v,L2.atI xs i=some v/\Rp K H B d v:=by
 rw[Zi0];unfold DL.atI at h ⊢;rw[r.length];cases e:DL.ixN ds.length i with
 | none=>rw[e] at h;cases h
 | some j =>
  rw[e] at h;exact r.get h
theorem Zj0:Op2 K (rIx K) ixD:=by
 intro H B x y dx dy d Q hb rx ry h k;cases dx<;>cases dy<;>simp only[ixD] at h<;>try cases h
 ·split at h
  ·rename_i hz
   rw[Y6] at rx;rw[g8] at ry;subst rx ry;obtain⟨c,hc,rfl⟩:=P6.mp h;exact .inr (.inr ⟨_,_,c,rfl,rfl,hz,hc,k _ H (Same.refl H) (by rw[Y6])⟩)
  ·cases h
 ·rw[T4] at rx
  rw[g8] at ry;subst ry;obtain⟨a,xs,rfl,q,r⟩:=rx;obtain⟨v,hv,rv⟩:=j70 r h;exact .inr (.inl ⟨a,xs,_,v,rfl,rfl,q.to,hv,k _ H (Same.refl H) rv⟩)
 ·rw[V7] at rx
  rw[g8] at ry;subst ry;obtain⟨a,xs,rfl,q,r⟩:=rx;obtain⟨v,hv,rv⟩:=j70 r h;exact .inl ⟨a,xs,_,v,rfl,rfl,q.to,hv,k _ H (Same.refl H) rv⟩
theorem Z3(ha:PD X a ga)(hb:PD X b gb)(hs:o60 b:=by exact λ_ _=>rfl):PD X (.Subscript a b pos) (o2 ga gb ixD):=W50 Xc0 Zj0 ha hb hs
structure PDO(X:Cx)(e:Option Expr)(g:Ds->Option (Option Int)):Prop where
 mk::go:∀B δ,PO X e (fun σ H Q=>∃o,Env X.K H B σ δ/\g δ=some o/\∀H',Same H H'->Q o H')
instance{X:Cx}{e:Option Expr}{g:Ds->Option (Option Int)}:CoeFun (PDO X e g) (λ_=>∀B δ,PO X e (fun σ H Q=>∃o,Env X.K H B σ δ/\g δ=some o/\∀H',Same H H'->Q o H')):=⟨PDO.go⟩
theorem V3:PDO X none Z1:=.mk λB δ pins s σ H Q I ⟨o,en,h,k⟩=>by
 cases h;exact bs0 pins s σ H Q I (k H (Same.refl H))
theorem Z4(h:PD X e g):PDO X (some e) (someO g):=.mk λB δ pins s σ H Q I ⟨o,en,hq,k⟩=>by
 unfold someO at hq;cases e1:g δ with
 | none=>rw[e1] at hq;cases hq
 | some d =>
  rw[e1] at hq;cases d<;>simp[asI] at hq
  subst hq;exact bh0 (h B δ) pins s σ H Q I ⟨_,en,e1,λv H' s' r=>⟨_,by rw[g8] at r;exact r,k H' s'⟩⟩
theorem i00{B:BS}(r:Rps K H B ds xs)(lo hi:Option Int):Rps K H B (cutD ds lo hi) (s80 xs lo hi):=by
 unfold cutD s80;rw[r.length,um0,um0];exact(r.drop _).take _
theorem z50{B:BS}{d:D}(h:Rps K H B [d] xs):∃v,xs=[v]/\Rp K H B d v:=by
 rw[Y4] at h;obtain⟨x,r,rfl,h1,h2⟩:=h;rw[X6] at h2;subst h2;exact⟨x,rfl,h1⟩
theorem Xa0:FnR K (λxs H Q=>(∃z,xs=[.str z]/\z.length<=sizeLine/\Q (.int z.length) H)∨∃p ys,xs=[.ref p]/\(SqL K H p ys∨SqT K H p ys)/\Q (.int ys.length) H) b7:=by
 intro H B xs ds d Q hb r h k;unfold b7 at h;split at h
 ·split at h
  ·cases h
   obtain⟨v,rfl,r1⟩:=z50 r;rw[Y6] at r1;subst r1;exact .inl ⟨_,rfl,by assumption,k _ H (Same.refl H) (by rw[g8])⟩
  ·cases h
 ·cases h
  obtain⟨v,rfl,r1⟩:=z50 r;rw[V7] at r1;obtain⟨a,ys,rfl,q,rr⟩:=r1;exact .inr ⟨a,ys,rfl,.inl q.to,k _ H (Same.refl H) (by rw[g8,rr.length])⟩
 ·cases h
  obtain⟨v,rfl,r1⟩:=z50 r;rw[T4] at r1;obtain⟨a,ys,rfl,q,rr⟩:=r1;exact .inr ⟨a,ys,rfl,.inr q.to,k _ H (Same.refl H) (by rw[g8,rr.length])⟩
 ·cases h
theorem U6(hm:X.mg "len"=none)(ha:PDA X [e] gA)(hg:Gl X "len" := by rfl)(he:starEach [e] X.env=(false,eval e X.env)::starEach [] X.env:=by rfl)(hpl:(backTo pos (starEach [] X.env)).any (·.1)=false:=by rfl) :
  PD X (.Call (.Name "len" p) [e] [] pos) (oA gA b7):=w50 (kh0.or li0) Xa0 hm PySem.boot_len ha hg (by decide) (by decide) he hpl
theorem om0{B:BS}:∀{ds:List D} {xs:List V} {bs:List Bool},Rps K H B ds xs->bools ds=some bs->xs=bs.map V.bl
 | [],_,_,r,h=>by
  cases h;rw[X6] at r;exact r
 | d::ds,_,bs,r,h=>by
  rw[Y4] at r;obtain⟨x,t,rfl,r1,r2⟩:=r;cases d<;>simp only[bools] at h<;>try cases h
  obtain⟨t',e,rfl⟩:=P6.mp h;rw[Y0] at r1;rw[r1,om0 r2 e];rfl
theorem s20:FnR K (λxs H Q=>∃(p:Addr) (bs:List Bool),xs=[.ref p]/\SqL K H p (bs.map V.bl)/\Q (.bl (bs.all id)) H) va0:=by
 intro H B xs ds d Q hb r h k;unfold va0 at h;split at h
 ·obtain⟨bs,e,rfl⟩:=P6.mp h
  obtain⟨v,rfl,r1⟩:=z50 r;rw[V7] at r1;obtain⟨a,ys,rfl,q,rr⟩:=r1;have:=om0 rr e;subst this;exact⟨a,bs,rfl,q.to,k _ H (Same.refl H) (by rw[Y0])⟩
 ·cases h
theorem qt0:FnR K (λxs H Q=>∃i,xs=[.int i]/\i.natAbs.log2<1920/\Q (.str (toString i)) H) strOfD:=by
 intro H B xs ds d Q hb r h k;unfold strOfD at h;split at h
 ·split at h
  ·cases h
   obtain⟨v,rfl,r1⟩:=z50 r;rw[g8] at r1;subst r1;exact⟨_,rfl,by assumption,k _ H (Same.refl H) (by rw[Y6])⟩
  ·cases h
 ·cases h
theorem qb0{B:BS}:∀{ds:List D} {xs:List V} {bs:List Str},Rps K H B ds xs->u20 ds=some bs->xs=bs.map V.str
 | [],_,_,r,h=>by
  cases h;rw[X6] at r;exact r
 | d::ds,_,bs,r,h=>by
  rw[Y4] at r;obtain⟨x,t,rfl,r1,r2⟩:=r;cases d<;>simp only[u20] at h<;>try cases h
  obtain⟨t',e,rfl⟩:=P6.mp h;rw[Y6] at r1;rw[r1,qb0 r2 e];rfl
theorem y40{apos cpos:Pos}(ho:PD X o g)(ha:PDA X [e] gA)(hbase:attributeBase o "join" X.env (eval o X.env)=eval o X.env:=by rfl)
  (hfew:((backTo cpos (starEach [e] X.env)).all (λx=>!x.1)&&(backToKw cpos (keywordEach [] X.env)).all (λx=>x.1.isSome)
  &&decide ([e].length+([]:List Keyword).length+(if ([]:List Keyword).isEmpty then 0 else 1)<30))=true:=by rfl)
  (hline:(apos.endLine==cpos.line)=true:=by rfl) (hs:starEach [e] X.env=(false,eval e X.env)::starEach [] X.env:=by rfl) (hplain:(backTo cpos (starEach [] X.env)).any (·.1)=false:=by rfl) :
  PD X (.Call (.Attribute o "join" apos) [e] [] cpos) (R3 g gA):=.mk λB δ =>
 (p90 i7 F.slot_str_join F.type_str_join ax0 (ho B δ) (ha B δ) hbase hfew hline hs hplain).imp fun σ H Q ⟨d,en,h,k⟩=>by
  unfold R3 at h;cases e1:g δ with
  | none=>rw[e1] at h;cases h
  | some x =>
   cases e2:gA δ with
   | none=>rw[e1,e2] at h;cases h
   | some ds =>
    rw[e1,e2] at h;simp only[Option.bind_some] at h;unfold m70 at h;split at h
    ·cases e3:u20 _ with
     | none=>rw[e3] at h;cases h
     | some ys =>
      rw[e3] at h;simp only[Option.bind_some] at h;split at h
      ·cases h
       refine⟨_,en,e1,λv H1 s1 r1=>?_⟩;rw[Y6] at r1;subst r1;refine⟨rfl,_,en.same s1,e2,λvs H2 s2 r2=>?_⟩;obtain⟨w,rfl,r3⟩:=z50 r2;rw[V7] at r3;obtain⟨a,zs,rfl,q,rr⟩:=r3;have:=qb0 rr e3;subst this;exact⟨_,a,ys,rfl,rfl,q.to,by assumption,k _ H2 (s1.trans s2) (by rw[Y6])⟩
      ·cases h
    ·cases h
theorem ui0:FnR K (λxs H Q=>∃p ys,xs=[.ref p]/\((SqL K H p ys/\∀l,H l=none->Q (.ref l) (upd H l (.tup ys)))∨(SqT K H p ys/\Q (.ref p) H))) zz0:=by
 intro H B xs ds d Q hb r h k;unfold zz0 at h;split at h
 ·cases h
  obtain⟨v,rfl,r1⟩:=z50 r;rw[V7] at r1;obtain⟨a,ys,rfl,q,rr⟩:=r1;exact⟨a,ys,rfl,.inl ⟨q.to,λl hl=>k _ _ (X7 hl) (sr0 hb hl rr)⟩⟩
 ·cases h
  obtain⟨v,rfl,r1⟩:=z50 r;have O:=r1;rw[T4] at r1;obtain⟨a,ys,rfl,q,rr⟩:=r1;exact⟨a,ys,rfl,.inr ⟨q.to,k _ H (Same.refl H) O⟩⟩
 ·cases h
end
section
variable{a:Expr}
theorem wb0(h:PD X a ga):PD X (.UnaryOp .USub a pos) (unG K9 ga):=.mk λB δ=>(cl0 fx0 (h B δ)).imp fun σ H Q ⟨d,en,h,k⟩=>by
 unfold unG at h;cases e1:ga δ with
 | none=>rw[e1] at h;cases h
 | some x =>
  rw[e1] at h;cases x<;>simp[K9] at h
  subst h;exact⟨_,en,e1,λv H' s r=>⟨_,by rw[g8] at r;exact r,k _ H' s (by rw[g8])⟩⟩
theorem c90:PD X (.Dict [] [] pos) (gc (.dct (.inl []) [])):=.mk λB δ pins s σ H Q I ⟨d,en,h,k⟩=>by
 cases h;have hb:sysModules<s.heap.objs.size:=Nat.lt_trans (by decide) ((I.mod.glob.keeps I.bk).lt:mainGlobals<s.heap.objs.size);have hf:H s.heap.objs.size=none:=I.hok.fresh (A1 _);refine wpAny_Dict_empty ⟨.ref s.heap.objs.size,_,I.laid (a:=s.heap.objs.size) (o:=.dK []) (t':=s.toks) (λ_ _ q=>B0 _ q) (A1 _)
  ⟨C3 _,p9.mpr (B3 (B6 hb)),[],.nil,Heap.DictOf.new s.heap⟩,rfl,k _ _ (X7 hf) ?_⟩
 rw[Zk0];exact⟨_,[],rfl,en.free hf,V1,rfl,by rw[X6]⟩
noncomputable def FnD(P:Program)(w:World)(K:W.Frag)(mg:Str->Option Value)(base:Heap)(x:Str)(k:Nat)(ps:List Str)(f:List D->Option D):Prop :=
 ∃(fa:Addr) (fd:FuncData),FnOk P w K mg base CX0 k fa fd ps (spD K f)/\mg x=some (.ref fa)/\W.keepIn K (.ref fa)=true/\Binds K fd ps []
theorem Z2{f:List D->Option D}(C:FnD X.prog X.w X.K X.mg X.base x k ps f)(hr:Room m X.A)(hk:k<=m)(ha:PDA X (e::es) gA)(hg:Gl X x:=by rfl)(hdb:(x==("__debug__" : Str))=false:=by decide)
  (he:starEach (e::es) X.env=(false,eval e X.env)::starEach es X.env:=by rfl) (hpl:(backTo pos (starEach es X.env)).any (·.1)=false:=by rfl):PD X (.Call (.Name x p) (e::es) [] pos) (oA gA f):=by
 obtain⟨fa,fd,F,hm,kp,hb⟩:=C;exact bp0 F (hr.mono hk) hm kp hb ha hg hdb he hpl
theorem K3{sc scope:Scope}{elt iter tg:Expr}{ifs:List Expr}{N N':List Str}{n:Nat}{caps:List Nat}{gi:Ds->Option (List D)}{idx:List Nat}{f:D->Ds->Option Ds}{gt:Ds->Option Bool}{ge:Ds->Option D}
  (ok:CompOk sc scope N N' n caps) (hidx:∀j∈idx,j<n) (hi:PID X tg iter gi)
  (hg:∀cl s H ex,PGD (X8 X scope cl N' s H ex) tg idx f) (ht:∀cl s H ex,PFD (X8 X scope cl N' s H ex) ifs gt) (he:∀cl s H ex,PD (X8 X scope cl N' s H ex) elt ge)
  (hc:X.calm=true:=by rfl) (hsc:X.env.scope=sc:=by rfl) (hN:X.N=N:=by rfl) (hs:∀x,foldedSetIterable iter X.env x=pure x:=by intro _;rfl) :
  PD X (.ListComp elt [⟨tg,iter,ifs,0⟩] scope pos) (Y9 n caps gi f gt ge):=aa0 hc hsc (hN▸ok) hidx hi hg ht he hs
theorem er0(i:Nat){y:Str}{py spos:Pos}{sc scope:Scope}{elt iter tg:Expr}{ifs:List Expr}{N N':List Str}{n:Nat}{caps:List Nat}{gi:Ds->Option (List D)}{idx:List Nat}{f:D->Ds->Option Ds}{gt:Ds->Option Bool}{ge:Ds->Option D}
  (hnd:N.Nodup) (ok:CompOk sc scope N N' n caps) (hidx:∀j∈idx,j<n) (hi:PID X tg iter gi)
  (hg:∀cl s H ex,PGD (X8 X scope cl N' s H ex) tg idx f) (ht:∀cl s H ex,PFD (X8 X scope cl N' s H ex) ifs gt) (he:∀cl s H ex,PD (X8 X scope cl N' s H ex) elt ge)
  (hc:X.calm=true:=by rfl) (hsc:X.env.scope=sc:=by rfl) (hN:X.N=N:=by rfl)
  (hiN:X.N[i]?=some y:=by rfl) (hy:Loc X.env.scope y:=by first|exact Or.inl rfl|exact Or.inr rfl)
  (hsw:swapsWith (.ListComp elt [⟨tg,iter,ifs,0⟩] scope pos) (some (.Name y py)) spos.line X.env=pure true:=by rfl)
  (hs:∀x,foldedSetIterable iter X.env x=pure x:=by intro _;rfl)
  (hf:X.fn y=true∨X.env.scope.names.lookup y=some .local:=by first|exact .inl rfl|exact .inr rfl|assumption) :
  PSD X (.Assign [.Name y py] (.ListComp elt [⟨tg,iter,ifs,0⟩] scope pos) spos) (j9 (gN i) (Y9 n caps gi f gt ge)):=kq0 i (hN▸hnd) hc hsc (hN▸ok) hidx hi hg ht he hiN hy hsw hs hf
end
end DL
namespace DL
open Spec PyProof.Rows
@[simp] noncomputable def h80:Sl->Sl
 | .ow d=>.sh (unl d)
 | s=>s
@[simp] noncomputable def frz(δ:Ds):Ds:=δ.map h80
@[simp] noncomputable def flat:D->Bool
 | .non=>true|.bl _=>true|.int _=>true|.str _=>true|_=>false
@[simp] noncomputable def pl0(g:GB):GB:=fun δ=>g (frz δ)
@[simp] noncomputable def og0(g:GE):GE:=fun δ=>g (frz δ)
@[simp] noncomputable def vi0(i:Nat)(g:GE):GS:=fun δ=>(g δ).map λd=>.nx (δ.set i (.ow d))
abbrev GX:=Ds->Option (D×Ds)
@[simp] noncomputable def ws0(g:GE):GX:=fun δ=>(g δ).map λd=>(d,δ)
variable{gx:DL.GX}
@[simp] noncomputable def uz0(gx:GX)(ft:D->Ds->Option Ds):GS:=fun δ=>(gx δ).bind λr=>(ft r.1 r.2).map .nx
@[simp] noncomputable def zk0(gx:GX):GS:=fun δ=>(gx δ).map λr=>.nx r.2
@[simp] noncomputable def owL(i:Nat)(δ:Ds):Option (List D):=match δ[i]? with
 | some (.ow (.lst ds))=>some ds
 | _=>none
@[simp] noncomputable def wk0(i:Nat)(g:GE):GX:=fun δ=>(owL i δ).bind λds=>(g δ).bind λd=>if ds.length<sizeLine then some (.non,δ.set i (.ow (.lst (ds++[d])))) else none
@[simp] noncomputable def o20(i:Nat)(g:GE):GX:=fun δ=>(owL i δ).bind λds=>(g δ).bind λd=>match d with
 | .lst es=>if ds.length+es.length<=sizeLine then some (.non,δ.set i (.ow (.lst (ds++es)))) else none
 | _=>none
@[simp] noncomputable def setAt(i:Nat)(g:GE):D->Ds->Option Ds:=λv δ=>(owL i δ).bind λds=>(g δ).bind λd=>match d with
 | .int k=>(ixN ds.length k).map λj=>δ.set i (.ow (.lst (ds.set j v)))
 | _=>none
@[simp] noncomputable def vx0(i j:Nat):D->Ds->Option Ds
 | .tup [a,b],δ=>some ((δ.set i (.sh a)).set j (.sh b))
 | _,_=>none
mutual
noncomputable def deq:D->D->Bool
 | .non,.non=>true
 | .bl a,.bl b=>a==b
 | .bl a,.int b=>(if a then 1 else 0)==b
 | .int a,.bl b=>a==(if b then 1 else 0)
 | .int a,.int b=>a==b
 | .str a,.str b=>a==b
 | .tup xs,.tup ys=>yt0 xs ys
 | .lst xs,.lst ys=>yt0 xs ys
 | _,_=>false
noncomputable def yt0:List D->List D->Bool
 | [],[]=>true
 | x::xs,y::ys=>deq x y&&yt0 xs ys
 | _,_=>false
end
mutual
noncomputable def lean:D->Nat->Bool
 | .dct _ _,_=>false
 | .tup xs,n+1=>leans xs n
 | .lst xs,n+1=>leans xs n
 | .tup _,0=>false
 | .lst _,0=>false
 | _,_=>true
noncomputable def leans:List D->Nat->Bool
 | [],_=>true
 | x::xs,n=>lean x n&&leans xs n
end
@[simp] noncomputable def qd0(x y:D):Option D:=if lean x 50=true/\lean y 50=true then some (.bl (deq x y)) else none
@[simp] noncomputable def J0(x y:D):Option D:=if lean x 50=true/\lean y 50=true then some (.bl (!deq x y)) else none
@[simp] noncomputable def eqF:D->D->Bool
 | .non,.non=>true
 | .bl a,.bl b=>a==b
 | .bl a,.int b=>(if a then 1 else 0)==b
 | .int a,.bl b=>a==(if b then 1 else 0)
 | .int a,.int b=>a==b
 | .str a,.str b=>a==b
 | _,_=>false
@[simp] noncomputable def vl0(neg:Bool):D->D->Option D
 | x,.lst ys=>if flat x=true/\ys.all flat=true then some (.bl (xor neg (ys.any λy=>eqF y x))) else none
 | x,.tup ys=>if flat x=true/\ys.all flat=true then some (.bl (xor neg (ys.any λy=>eqF y x))) else none
 | _,_=>none
@[simp] noncomputable def intOfD:List D->Option D
 | [.int i]=>some (.int i)
 | [.bl k]=>some (.int (if k then 1 else 0))
 | _=>none
@[simp] noncomputable def mc0:List D->Option D
 | [.lst ds]=>some (.lst ds)
 | [.tup ds]=>some (.lst ds)
 | _=>none
noncomputable def s50(acc:List Str)(y:Str):Bool:=acc.any λz=>decide (z=y)
noncomputable def ym0(acc:List Str)(y:Str):List Str:=if s50 acc y=true then acc else acc++[y]
noncomputable def Q5(ys:List Str):List Str:=ys.foldl ym0 []
@[simp] noncomputable def wy0:List D->Option D
 | [.lst ds]=>(u20 ds).bind λys=>if ys.length<=4000 then some (.int (Q5 ys).length) else none
 | _=>none
noncomputable def mkF(n:Nat)(N:List Str)(G:GS)(ds:List D):Option D:=if ds.length=n then (match G (W8 N ds) with
 | some (.rt d)=>some d
 | some (.rf d)=>if isL d=true then none else some d
 | some (.nx _)=>some .non
 | _=>none) else none
theorem U4{d:D}(h:mkF n N G ds=some d):ds.length=n/\(G (W8 N ds)=some (.rt d)∨(d=.non/\∃δ,G (W8 N ds)=some (.nx δ))∨G (W8 N ds)=some (.rf d)/\isL d=false):=by
 unfold mkF at h;split at h
 ·rename_i hl
  refine⟨hl,?_⟩;split at h
  ·rename_i e;cases h;exact .inl e
  ·rename_i e
   split at h
   ·cases h
   ·rename_i hn
    cases h;exact .inr (.inr ⟨e,Bool.eq_false_iff.mpr hn⟩)
  ·rename_i e;cases h;exact .inr (.inl ⟨rfl,_,e⟩)
  ·cases h
 ·cases h
theorem Y5{d:D}(hl:ds.length=n)(h:G (W8 N ds)=some (.rt d)):mkF n N G ds=some d:=by
 unfold mkF;rw[if_pos hl,h]
theorem p7{G1 G2:GS}{r:Option Res}(h:G1 δ=some (.nx δ'))(k:G2 δ'=r):v7 G1 G2 δ=r:=(Xb0 h).trans k
@[simp] noncomputable def o8:D->D->Option D
 | .int i,.int j=>some (.int (i+j))
 | .str x,.str y=>if x.length+y.length<=sizeLine then some (.str (x++y)) else none
 | .lst xs,.lst ys=>if xs.length+ys.length<=sizeLine then some (.lst (xs++ys)) else none
 | .tup xs,.tup ys=>if xs.length+ys.length<=sizeLine then some (.tup (xs++ys)) else none
 | _,_=>none
noncomputable def V00(x:Str)(n:Int):Str:=⟨(List.replicate n.toNat x.cps).foldl (·++·) #[]⟩
@[simp] noncomputable def R7:D->D->Option D
 | .int i,.int j=>if (-(2 ^ 64)<i/\i<2 ^ 64)∨(-(2 ^ 64)<j/\j<2 ^ 64) then some (.int (i*j)) else none
 | .str x,.int n=>if -(2 ^ 62)<=n/\n<2 ^ 62/\x.length*n.toNat<=sizeLine then some (.str (V00 x n)) else none
 | .tup xs,.int k=>if xs≠[]/\2<=k/\k<2 ^ 62/\xs.length*k.toNat<=sizeLine then some (.tup (List.replicate k.toNat xs).flatten) else none
 | _,_=>none
@[simp] noncomputable def slA(d:D)(lo hi:Option Int):Option D:=match d with
 | .str z=>if z.length<=sizeLine then some (.str (Txt.slice z lo hi)) else none
 | .lst xs=>some (.lst (cutD xs lo hi))
 | .tup xs=>some (.tup (cutD xs lo hi))
 | _=>none
@[simp] noncomputable def d8(g:GE)(gl gh:GO):GE:=fun δ=>(g δ).bind λd=>(gl δ).bind λl=>(gh δ).bind λh=>slA d l h
end DL
variable{gx:DL.GX}
namespace DL
open Spec PyProof.Rows L2
section
variable{B:BS}{σ σ':St}
theorem Gr.fresh{p:Addr}{o:HO}(h:H p=none):Gr H (upd H p o) B (λa=>B a∨a=p):=λb u n e=>by
 have hb:b≠p:=O6 e h;exact⟨λz=>z.elim n hb,by rw[W4 hb];exact e⟩
theorem Gr.own{o:HO}(h:B a):Gr H (upd H a o) B B:=λb u n e=>⟨n,by rw[W4 (λz=>n (by rw[z];exact h))];exact e⟩
theorem RpO.mono{d:D}(s:∀o,H a=some o->H' a=some o)(g:Gr H H' B B')(h:RpO K H B d a):RpO K H' B' d a:=by
 cases d<;>try exact h.elim
 ·obtain⟨xs,e,r⟩:=h;exact⟨xs,s _ e,r.mono g⟩
 ·obtain⟨xs,e,l,r⟩:=h;exact⟨xs,s _ e,l,r.mono g⟩
theorem RpL.mono{d:D}(s:∀o,H a=some o->H' a=some o)(g:Gr H H' B B')(h:RpL K H B d a):RpL K H' B' d a:=by
 cases d with
 | tup es=>obtain⟨ds,q,xs,e,r⟩:=h;exact⟨ds,q,xs,s _ e,r.mono g⟩
 | _=>exact(RpO.mono s g (RpL.toO rfl h)).toL
theorem Pd.impI{F G:α->β->Prop}:∀{l:List α} {m:List β},(∀(i:Nat) a b,l[i]?=some a->m[i]?=some b->F a b->G a b)->Paired F l m->Paired G l m
 | _,_,_,.nil=>.nil
 | _,_,h,.cons r t=>.cons (h 0 _ _ rfl rfl r) (Pd.impI (λi a b e1 e2=>h (i+1) a b (by simpa using e1) (by simpa using e2)) t)
theorem mn0:∀{l:List α} {i:Nat} {a:α},l[i]?=some a->l.set i a=l
 | [],_,_,h=>by simp at h
 | x::l,0,a,h=>by simp at h;subst h;rfl
 | x::l,i+1,a,h=>by rw[List.set_cons_succ,mn0 (by simpa using h)]
theorem Pd.setR{F:α->β->Prop}{a:α}{b:β}(r:F a b){l:List α}{m:List β}(e:l[i]?=some a)(h:Paired F l m):Paired F l (m.set i b):=by
 have:=Pd.set r i h
 rwa [mn0 e] at this
theorem get_set{l:List α}{a b:α}(h:(l.set i a)[j]?=some b):(i=j/\a=b/\j<l.length)∨(i≠j/\l[j]?=some b):=by
 by_cases e:i=j
 ·subst e
  by_cases hl:i<l.length
  ·rw[List.getElem?_set_self hl] at h
   exact .inl ⟨rfl,B2 h,hl⟩
  ·rw[List.getElem?_eq_none (by simpa using hl)] at h;cases h
 ·rw[List.getElem?_set_ne e] at h
  exact .inr ⟨e,h⟩
theorem Env.at(e:Env K H B σ δ){d:D}(h:δ[i]?=some (.ow d)):∃a,σ[i]?=some (some (.ref a))/\B a/\RpL K H B d a:=by
 obtain⟨o,h1,a,rfl,hb,r⟩:=Pd.get e.all h;exact⟨a,h1,hb,r⟩
theorem Env.mut(e:Env K H B σ δ){d:D}{o:HO}(hi:δ[i]?=some (.ow d0))(hs:σ[i]?=some (some (.ref a)))(r:RpL K (upd H a o) B d a):Env K (upd H a o) B σ (δ.set i (.ow d)):=by
 obtain⟨a',h1,hb,_⟩:=e.at hi;rw[hs] at h1;cases h1;refine⟨?_,λb z=>?_,λj k b ds es h1 h2 h3 h4=>?_⟩
 ·
  have h0:Paired (λ(o':Option V) (s:Sl)=>SlR K (upd H a o) B o' s∨(∃d,s=.ow d/\o'=some (.ref a))) σ δ:=Pd.imp (λo' s h=>by
   cases s with
   | un=>exact .inl trivial
   | ex c n=>obtain⟨v,e,r⟩:=h;exact .inl ⟨v,e,r.mono (Gr.own hb)⟩
   | sh d=>obtain⟨v,e,r⟩:=h;exact .inl ⟨v,e,r.mono (Gr.own hb)⟩
   | ow d =>
    obtain⟨b,e,O,r⟩:=h
    by_cases z:b=a
    ·subst z;exact .inr ⟨d,rfl,e⟩
    ·exact .inl ⟨b,e,O,r.mono (λo h=>by rw[W4 z];exact h) (Gr.own hb)⟩) e.all
  have h1:=Pd.setR (i:=i) (b:=Sl.ow d) (.inl ⟨a,rfl,hb,r⟩) hs h0;refine Pd.impI (λj o' s e1 e2 h=>?_) h1;rcases h with h|⟨d',rfl,rfl⟩
  ·exact h
  ·rcases get_set e2 with⟨rfl,e3,_⟩|⟨S,e3⟩
   ·cases e3;exact⟨a,rfl,hb,r⟩
   ·exact absurd (e.own i j a d0 d' hi e3 hs e1) S
 ·by_cases z':b=a
  ·subst z';rw[V1];exact λz=>nomatch z
  ·rw[W4 z'];exact e.bad b z
 ·have q1:∃d,δ[j]?=some (.ow d):=by
   rcases get_set h1 with⟨rfl,_,_⟩|⟨_,h⟩
   ·exact⟨_,hi⟩
   ·exact⟨_,h⟩
  have q2:∃d,δ[k]?=some (.ow d):=by
   rcases get_set h2 with⟨rfl,_,_⟩|⟨_,h⟩
   ·exact⟨_,hi⟩
   ·exact⟨_,h⟩
  obtain⟨d1,q1⟩:=q1;obtain⟨d2,q2⟩:=q2;exact e.own j k b d1 d2 q1 q2 h3 h4
theorem EnvS.mut(en:EnvS K H₀ B₀ H σ δ)(s:Same H H')(b1:∀a,B₀ a->B a)(b2:∀a,B a->B₀ a∨H₀ a=none){d:D}{o:HO}(hi:δ[i]?=some (.ow d0))(hs:σ[i]?=some (some (.ref a)))
  (env:Env K (upd H' a o) B σ (δ.set i (.ow d))):EnvS K H₀ B₀ (upd H' a o) σ (δ.set i (.ow d)):=by
 have h0:=en.fr i d0 a hi hs;refine⟨λb u h=>?_,⟨B,b1,b2,env⟩,λj ds b h1 h2=>?_,en.b0⟩
 ·have:b≠a:=λz=>by rw[z,h0] at h;cases h
  rw[W4 this];exact s _ _ (en.same b u h)
 ·rcases get_set h1 with⟨rfl,_,_⟩|⟨_,h⟩
  ·rw[hs] at h2;cases h2;exact h0
  ·exact en.fr j ds b h h2
theorem EnvS.take(en:EnvS K H₀ B₀ H σ δ)(b1:∀a,B₀ a->B a)(b2:∀a,B a->B₀ a∨H₀ a=none)(e:Env K H B σ δ)(i:Nat){d:D}{p:Addr}(hp:H p=none)(s:Same H H')
  (r:RpO K H' (λa=>B a∨a=p) d p):EnvS K H₀ B₀ H' (σ.set i (some (.ref p))) (δ.set i (.ow d)):=by
 have g:Gr H H' B (λa=>B a∨a=p):=λb u n h=>⟨λz=>z.elim n (O6 h hp),s _ _ h⟩
 have O:H₀ p=none:=en.same.free hp;have live:∀{j:Nat} {d':D} {b:Addr},δ[j]?=some (.ow d')->σ[j]?=some (some (.ref b))->b≠p:=λ{j d' b} h1 h2=>by
  obtain⟨a,q1,q2,q3⟩:=e.at h1;rw[h2] at q1;cases q1;exact λz=>e.bad _ q2 (by rw[z];exact hp)
 refine⟨en.same.trans s,⟨λa=>B a∨a=p,λa z=>.inl (b1 a z),λa z=>?_,?_,λa z=>?_,λj k a ds es h1 h2 h3 h4=>?_⟩,λj ds a h1 h2=>?_,en.b0⟩
 ·rcases z with z|rfl
  ·exact b2 a z
  ·exact .inr O
 ·refine Pd.set ⟨p,rfl,.inr rfl,r.toL⟩ i (Pd.imp (λo sl h=>?_) e.all)
  cases sl with
  | un=>trivial
  | ex c n=>obtain⟨v,e,r⟩:=h;exact⟨v,e,r.mono g⟩
  | sh d=>obtain⟨v,e,r⟩:=h;exact⟨v,e,r.mono g⟩
  | ow d=>obtain⟨b,e,S,r⟩:=h;exact⟨b,e,.inl S,r.mono (λo h=>s _ _ h) g⟩
 ·rcases z with z|rfl
  ·intro q
   cases h:H a with
   | none=>exact e.bad a z h
   | some u=>rw[s _ _ h] at q;cases q
  ·exact r.live
 ·rcases get_set h1 with⟨rfl,_,_⟩|⟨n1,h1⟩
  ·rcases get_set h2 with⟨rfl,_,_⟩|⟨n2,h2⟩
   ·rfl
   ·rcases get_set h3 with⟨_,e3,_⟩|⟨n3,_⟩
    ·cases e3
     rw[List.getElem?_set_ne n2] at h4;exact absurd rfl (live h2 h4)
    ·exact absurd rfl n3
  ·rcases get_set h2 with⟨rfl,_,_⟩|⟨n2,h2⟩
   ·rcases get_set h4 with⟨_,e4,_⟩|⟨n4,_⟩
    ·cases e4
     rw[List.getElem?_set_ne n1] at h3;exact absurd rfl (live h1 h3)
    ·exact absurd rfl n4
   ·rw[List.getElem?_set_ne n1] at h3
    rw[List.getElem?_set_ne n2] at h4;exact e.own j k a ds es h1 h2 h3 h4
 ·rcases get_set h1 with⟨rfl,_,_⟩|⟨n1,h1⟩
  ·rcases get_set h2 with⟨_,e3,_⟩|⟨n3,_⟩
   ·cases e3;exact O
   ·exact absurd rfl n3
  ·rw[List.getElem?_set_ne n1] at h2
   exact en.fr j ds a h1 h2
theorem Env.frz(e:Env K H B σ δ):∃B':BS,(∀a,B' a->B a)/\(∀a,B a->B' a∨∃(i:Nat) (d:D),δ[i]?=some (.ow d)/\σ[i]?=some (some (.ref a)))/\Env K H B' σ (DL.frz δ):=by
 refine⟨λa=>B a/\¬∃(i:Nat) (d:D),δ[i]?=some (.ow d)/\σ[i]?=some (some (.ref a)),λa z=>z.1,λa z=>?_,?_,λa z=>e.bad a z.1,λi j a ds es h1 _ _ _=>?_⟩
 ·by_cases q:∃(i:Nat) (d:D),δ[i]?=some (.ow d)/\σ[i]?=some (some (.ref a))
  ·exact .inr q
  ·exact .inl ⟨z,q⟩
 ·have:Paired (λo s=>SlR K H (λa=>B a/\¬∃(i:Nat) (d:D),δ[i]?=some (.ow d)/\σ[i]?=some (some (.ref a))) o (h80 s)) σ δ:=Pd.impI (λi o s e1 e2 h=>by
   cases s with
   | un=>trivial
   | ex c n=>obtain⟨v,e,r⟩:=h;exact⟨v,e,r.mono (Gr.less λa z=>z.1)⟩
   | sh d=>obtain⟨v,e,r⟩:=h;exact⟨v,e,r.mono (Gr.less λa z=>z.1)⟩
   | ow d =>
    obtain⟨a,rfl,hb,r⟩:=h;exact⟨_,rfl,r.rp (λa z=>z.1) λz=>z.2 ⟨i,d,e2,e1⟩⟩) e.all
  have mp:∀{l:St} {m:Ds} {F:Option V->Sl->Prop},Paired (λo s=>F o (h80 s)) l m->Paired F l (m.map h80):=by
   intro l m F h
   induction h with
   | nil=>exact .nil
   | cons r t ih=>exact .cons r ih
  exact mp this
 ·unfold DL.frz at h1
  rw[List.getElem?_map] at h1;cases q:δ[i]? with
  | none=>rw[q] at h1;cases h1
  | some s=>rw[q] at h1;cases s<;>cases h1
theorem EnvS.frz(en:EnvS K H₀ B₀ H σ δ):EnvS K H₀ B₀ H σ (DL.frz δ):=by
 obtain⟨B,b1,b2,env⟩:=en.ex;obtain⟨B',c1,c2,O⟩:=env.frz;refine⟨en.same,⟨B',λa z=>?_,λa z=>b2 a (c1 a z),O⟩,λi ds a h1 _=>?_,en.b0⟩
 ·rcases c2 a (b1 a z) with q|⟨i,d,q1,q2⟩
  ·exact q
  ·exact absurd (en.fr i d a q1 q2) (en.b0 a z)
 ·unfold DL.frz at h1
  rw[List.getElem?_map] at h1;cases q:δ[i]? with
  | none=>rw[q] at h1;cases h1
  | some s=>rw[q] at h1;cases s<;>cases h1
end
section
variable{st:Stmt}{g:GE}{gt:GB}
theorem Z40(h:PTD X e gt):PTD X e (pl0 gt):=.mk λB δ pins s σ H Q I ⟨d,en,hq,k⟩=>by
 obtain⟨B',c1,c2,O⟩:=en.frz;exact h B' (frz δ) pins s σ H Q I ⟨d,O,hq,k⟩
theorem vj0(h:PD X e g):PSD X (.Return (some e) pos) (o9 (og0 g)):=.mk λH₀ B₀ δ pins s σ H D I ⟨r,en,hq,k⟩ =>
 o6 h H₀ B₀ (frz δ) pins s σ H D I ⟨r,en.frz,hq,k⟩
theorem ue0{gA:GA}(h:PDA X es gA):PDF X (.List es pos) (j4 gA) :=
 .mk λB δ=>(gz0 (h B δ)).imp fun σ H Q ⟨d,en,h,k⟩=>by
  unfold j4 at h;cases e1:gA δ with
  | none=>rw[e1] at h;cases h
  | some ds =>
   rw[e1] at h
   by_cases hl:ds.length<=sizeLine
   ·simp only[Option.bind_some,if_pos hl] at h
    cases h;refine⟨ds,en,e1,λvs H1 s1 r1=>⟨by rw[r1.length];exact hl,λp hp=>k _ _ (s1.free hp) (s1.trans (X7 hp)) ⟨vs,V1,r1.mono (Gr.fresh hp)⟩⟩⟩
   ·simp only[Option.bind_some,if_neg hl] at h
    cases h
theorem wv0(i:Nat){px:Pos}(h:PDF X e g)(hN:X.N.Nodup)(hi:X.N[i]?=some x:=by rfl)(hx:Loc X.env.scope x:=by first|exact Or.inl rfl|exact Or.inr rfl)
  (hs:swapsWithSole [.Name x px] e pos.line X.env=pure false:=by rfl) (hw:swappedStores [.Name x px] e X.env=pure none:=by rfl)
  (h1:(assignEach [.Name x px] X.env).map (·.2)=[assign (.Name x px) X.env]:=by rfl)
  (hf:X.fn x=true∨X.env.scope.names.lookup x=some .local:=by first|exact .inl rfl|exact .inr rfl|assumption):PSD X (.Assign [.Name x px] e pos) (vi0 i g):=.mk λH₀ B₀ δ pins s σ H D I ⟨r,en,e1,k⟩=>by
 unfold vi0 at e1;obtain⟨B,b1,b2,env⟩:=en.ex;cases e2:g δ with
 | none=>rw[e2] at e1;cases e1
 | some d =>
  rw[e2] at e1;cases e1;exact un0 (h B δ) (xh0 (i:=i) hN hi hx hf) hs hw h1 pins s σ H D I ⟨d,env,e2,λp H' hp s' r=>k _ H' (en.take b1 b2 env i hp s' r)⟩
end
end DL
namespace L2
open Spec PyProof.Rows
open PySem.AutoSeq1 (wpAny_loadPart')
theorem im0(p:Addr)(xs:Array Value)(k:Nat)(q:Addr)(ys:Array Value)(m:Nat)(dq:Option Addr)(sq:Array (Option Value))(h0:¬(!xs.isEmpty&&Builtin.List.listTooLong (xs.size+ys.size))=true)(h1:xs.size<=sizeLine)(h2:xs.size+ys.size<=sizeLine+1) :
  Meets (Builtin.«list.extend» ⟨[.ref p,.ref q],[]⟩) (λ_ R s=>s.heap.get? p=some { cls:=.type "list",dict:=none,data:=.seq xs k,slots:=#[] }/\s.heap.get? q=some { cls:=.type "list",dict:=dq,data:=.seq ys m,slots:=sq }/\R (.ok (.ret Value.none)) { s with heap:=s.heap.update p (Obj.mapSeq λz=>z++ys) }) :=
 .of_wp λprog w A R s h=>by
  obtain⟨hp,g,d,tk,os⟩:=s;obtain⟨hl,hb,h⟩:=h;have f1:=AutoSeq1.idx_int;have f2:=AutoSeq1.sub_tuple_tuple;have f3:=AutoSeq1.sub_list_list;have f4:=AutoSeq1.sub_tuple_list;have f5:=AutoSeq1.sub_list_tuple;have O:(xs++ys).size<=sizeLine+1:=by rw[Array.size_append];exact h2
  wp_walk using (wpAny_updateSeq hl rfl (hz:=h1) (_hz':=O)),wpAny_loadPart' hl,wpAny_loadPart' hb
  exact⟨_,rfl,h⟩
noncomputable def dy0(K:W.Frag):V->List V->Hp->VK->Prop:=λx vs H Q=>∃l b xs zs,x=.ref l/\vs=[.ref b]/\H l=some (.lst xs)/\SqL K H b zs/\xs.length+zs.length<=sizeLine/\Q .non (upd H l (.lst (xs++zs)))
theorem in0:MtM X "list.extend" (dy0 X.K):=by
 intro pins s σ H x vs v us Q I rx rv h;obtain⟨l,b,xs,zs,rfl,rfl,hH,hB,hz,q⟩:=h;cases rx;obtain⟨u,rfl,ru⟩:=rv.one;cases ru;obtain⟨z,its,n,r,hl,e⟩:=I.lstM hH;obtain⟨O,r2,p2,z2⟩:=I.list hB;obtain⟨⟨a3,a2,data2,a1⟩,a0,U,n2,Y⟩:=p2.isList;simp only at U Y;subst U Y;have a4:=r2.length;have Z:its.toArray.size+O.toArray.size<=sizeLine:=by rw[List.size_toArray,List.size_toArray];omega
 have S:¬(!its.toArray.isEmpty&&Builtin.List.listTooLong (its.toArray.size+O.toArray.size))=true:=by
  rw[dv0 Z,Bool.and_false];exact A8
 refine D0 F.slot_list_extend ⟨_,e,rfl⟩ F.entry_list_extend (F.args_list_extend_2 _ _)
  (im0 l its.toArray n b O.toArray n2 a2 a1 S (by rw[List.size_toArray];omega) (by omega)) ⟨e,a0,?_⟩
 refine⟨.non,_,I.lset (its':=its++O) hH e (by simp) (r.append r2) ?_,rfl,q⟩;rw[List.length_append];omega
end L2
namespace DL
open Spec PyProof.Rows L2
section
variable{B:BS}{σ σ':St}
theorem Rps.set:∀{ds:List D} {xs:List V} {d:D} {v:V} (j:Nat),Rps K H B ds xs->Rp K H B d v->Rps K H B (ds.set j d) (xs.set j v)
 | [],_,_,_,_,h,_=>by rw[X6] at h;subst h;simp[X6]
 | d::ds,_,_,_,0,h,r=>by
  rw[Y4] at h;obtain⟨y,t,rfl,h1,h2⟩:=h;rw[List.set_cons_zero,List.set_cons_zero,Y4];exact⟨_,_,rfl,r,h2⟩
 | d::ds,_,_,_,j+1,h,r=>by
  rw[Y4] at h;obtain⟨y,t,rfl,h1,h2⟩:=h;rw[List.set_cons_succ,List.set_cons_succ,Y4];exact⟨_,_,rfl,h1,Rps.set j h2 r⟩
structure EnvV(K:W.Frag)(H₀:Hp)(B₀:BS)(H:Hp)(σ:St)(δ:Ds)(d:D)(v:V):Prop where
 same:Same H₀ H
 ex:∃B:BS,(∀a,B₀ a->B a)/\(∀a,B a->B₀ a∨H₀ a=none)/\Env K H B σ δ/\Rp K H B d v
 fr:∀(i:Nat) (ds:D) (a:Addr),δ[i]?=some (.ow ds)->σ[i]?=some (some (.ref a))->H₀ a=none
 b0:∀a,B₀ a->H₀ a≠none
theorem EnvV.s{d:D}{v:V}(h:EnvV K H₀ B₀ H σ δ d v):EnvS K H₀ B₀ H σ δ:=⟨h.same,let ⟨B,b1,b2,e,_⟩:=h.ex;⟨B,b1,b2,e⟩,h.fr,h.b0⟩
theorem EnvV.mk'{d:D}{v:V}(h:EnvS K H₀ B₀ H σ δ)(b1:∀a,B₀ a->B a)(b2:∀a,B a->B₀ a∨H₀ a=none)(e:Env K H B σ δ)(r:Rp K H B d v):EnvV K H₀ B₀ H σ δ d v:=⟨h.same,⟨B,b1,b2,e,r⟩,h.fr,h.b0⟩
end
noncomputable def tX(K:W.Frag)(H₀:Hp)(B₀:BS)(δ:Ds)(gx:GX):TE:=fun σ H Q=>∃r,EnvS K H₀ B₀ H σ δ/\gx δ=some r/\∀v H',EnvV K H₀ B₀ H' σ r.2 r.1 v->Q v H'
structure PX(X:Cx)(e:Expr)(gx:GX):Prop where
 mk::go:∀H₀ B₀ δ,PE X e (tX X.K H₀ B₀ δ gx)
instance{X:Cx}{e:Expr}{gx:GX}:CoeFun (PX X e gx) (λ_=>∀H₀ B₀ δ,PE X e (tX X.K H₀ B₀ δ gx)):=⟨PX.go⟩
noncomputable def tTG(K:W.Frag)(H₀:Hp)(B₀:BS)(ft:D->Ds->Option Ds)(d:D)(δ:Ds):TG:=λv σ H Q=>∃δ',EnvV K H₀ B₀ H σ δ d v/\ft d δ=some δ'/\∀σ' H',EnvS K H₀ B₀ H' σ' δ'->Q σ' H'
structure PTG(X:Cx)(tg:Expr)(ft:D->Ds->Option Ds):Prop where
 mk::go:∀H₀ B₀ d δ,PG X tg (tTG X.K H₀ B₀ ft d δ)
instance{X:Cx}{tg:Expr}{ft:D->Ds->Option Ds}:CoeFun (PTG X tg ft) (λ_=>∀H₀ B₀ d δ,PG X tg (tTG X.K H₀ B₀ ft d δ)):=⟨PTG.go⟩
section
variable{st:Stmt}{g:GE}{gt:GB}
theorem j60(h:PD X e g):PX X e (ws0 g):=.mk λH₀ B₀ δ pins s σ H Q I ⟨r,en,e1,k⟩=>by
 unfold ws0 at e1;obtain⟨B,b1,b2,env⟩:=en.ex;cases e2:g δ with
 | none=>rw[e2] at e1;cases e1
 | some d =>
  rw[e2] at e1;cases e1;exact h B δ pins s σ H Q I ⟨d,env,e2,λv H' s' r=>k v H' (EnvV.mk' (en.grow s') b1 b2 (env.same s') r)⟩
theorem m90(h:owL i δ=some ds):δ[i]?=some (.ow (.lst ds)):=by
 unfold owL at h;split at h
 ·cases h;assumption
 ·cases h
theorem p20(i:Nat)(h:PD X e g)(hN:X.N[i]?=some x:=by rfl)(hv:Vis X.env.scope x:=by first|exact Or.inl rfl|exact Or.inr (Or.inl rfl)|exact Or.inr (Or.inr rfl))(hd:(x==("__debug__" : Str))=false:=by decide)(hcd:(x==("__classdict__" : Str))=false:=by decide)
  (hbase:attributeBase (.Name x px) "append" X.env (eval (.Name x px) X.env)=eval (.Name x px) X.env:=by rfl)
  (hfew:((backTo cpos (starEach [e] X.env)).all (λx=>!x.1)&&(backToKw cpos (keywordEach [] X.env)).all (λx=>x.1.isSome)
  &&decide (([e]:List Expr).length+([]:List Keyword).length+(if ([]:List Keyword).isEmpty then 0 else 1)<30))=true:=by rfl)
  (hline:(apos.endLine==cpos.line)=true:=by rfl) (hs:starEach [e] X.env=(false,eval e X.env)::starEach [] X.env:=by rfl) (hplain:(backTo cpos (starEach [] X.env)).any (·.1)=false:=by rfl) :
  PX X (.Call (.Attribute (.Name x px) "append" apos) [e] [] cpos) (wk0 i g):=.mk λH₀ B₀ δ pins s σ H Q I ⟨r,en,e1,k⟩=>by
 unfold wk0 at e1;obtain⟨B,b1,b2,env⟩:=en.ex;cases e2:owL i δ with
 | none=>rw[e2] at e1;cases e1
 | some ds =>
  cases e3:g δ with
  | none=>rw[e2,e3] at e1;cases e1
  | some d =>
   rw[e2,e3] at e1;simp only[Option.bind_some] at e1;split at e1
   ·rename_i hz
    cases e1;have hi:=m90 e2;obtain⟨a,S,hb,xs,hx,rx⟩:=env.at hi;refine p90 A60 PySem.F.slot_list_append PySem.F.type_list_append vw0 (vg0 (i:=i) hN hv hd hcd) (J9 (h B δ) yw0 hs) hbase hfew hline hs hplain pins s σ H Q I
     ⟨_,S,.inl ⟨rfl,xs,.inl (.inl hx)⟩,d,env,e3,λv H1 s1 r1=>⟨a,xs,v,rfl,rfl,s1 _ _ hx,by rw[rx.length];exact hz,?_⟩⟩
    have O:Env X.K (upd H1 a (.lst (xs++[v]))) B σ (δ.set i (.ow (.lst (ds++[d])))):=(env.same s1).mut hi S ⟨_,V1,(Rps.snoc (rx.same s1) r1).mono (Gr.own hb)⟩;exact k _ _ (EnvV.mk' (en.mut s1 b1 b2 hi S O) b1 b2 O (by rw[R5]))
   ·cases e1
theorem Zt0(i:Nat)(h:PD X e g)(hN:X.N[i]?=some x:=by rfl)(hv:Vis X.env.scope x:=by first|exact Or.inl rfl|exact Or.inr (Or.inl rfl)|exact Or.inr (Or.inr rfl))(hd:(x==("__debug__" : Str))=false:=by decide)(hcd:(x==("__classdict__" : Str))=false:=by decide)
  (hbase:attributeBase (.Name x px) "extend" X.env (eval (.Name x px) X.env)=eval (.Name x px) X.env:=by rfl)
  (hfew:((backTo cpos (starEach [e] X.env)).all (λx=>!x.1)&&(backToKw cpos (keywordEach [] X.env)).all (λx=>x.1.isSome)
  &&decide (([e]:List Expr).length+([]:List Keyword).length+(if ([]:List Keyword).isEmpty then 0 else 1)<30))=true:=by rfl)
  (hline:(apos.endLine==cpos.line)=true:=by rfl) (hs:starEach [e] X.env=(false,eval e X.env)::starEach [] X.env:=by rfl) (hplain:(backTo cpos (starEach [] X.env)).any (·.1)=false:=by rfl) :
  PX X (.Call (.Attribute (.Name x px) "extend" apos) [e] [] cpos) (o20 i g):=.mk λH₀ B₀ δ pins s σ H Q I ⟨r,en,e1,k⟩=>by
 unfold o20 at e1;obtain⟨B,b1,b2,env⟩:=en.ex;cases e2:owL i δ with
 | none=>rw[e2] at e1;cases e1
 | some ds =>
  cases e3:g δ with
  | none=>rw[e2,e3] at e1;cases e1
  | some d =>
   rw[e2,e3] at e1;simp only[Option.bind_some] at e1;cases d<;>try cases e1
   rename_i es;dsimp only at e1;split at e1
   ·rename_i hz
    cases e1;have hi:=m90 e2;obtain⟨a,S,hb,xs,hx,rx⟩:=env.at hi;refine p90 A60 PySem.F.slot_list_extend PySem.F.type_list_extend in0 (vg0 (i:=i) hN hv hd hcd) (J9 (h B δ) yw0 hs) hbase hfew hline hs hplain pins s σ H Q I
     ⟨_,S,.inl ⟨rfl,xs,.inl (.inl hx)⟩,_,env,e3,λv H1 s1 r1=>?_⟩
    rw[V7] at r1;obtain⟨b,zs,rfl,hq,rz⟩:=r1;refine⟨a,b,xs,zs,rfl,rfl,s1 _ _ hx,hq.to,by rw[rx.length,rz.length];exact hz,?_⟩;have O:Env X.K (upd H1 a (.lst (xs++zs))) B σ (δ.set i (.ow (.lst (ds++es)))):=(env.same s1).mut hi S ⟨_,V1,(Rps.append (rx.same s1) rz).mono (Gr.own hb)⟩;exact k _ _ (EnvV.mk' (en.mut s1 b1 b2 hi S O) b1 b2 O (by rw[R5]))
   ·cases e1
theorem Zr0(h:PGD X tg idx f):PTG X tg f:=.mk λH₀ B₀ d δ pins s σ H v u Q I r ⟨δ',en,e1,k⟩=>by
 obtain⟨B,b1,b2,env,rv⟩:=en.ex;exact h B d δ pins s σ H v u Q I r ⟨δ',rv,env,e1,fun σ' w en'=>k σ' H (en.s.wr b1 b2 (Same.refl _) w en')⟩
theorem ao0(i:Nat)(h:PD X e g)(hN:X.N[i]?=some x:=by rfl)(hv:Vis X.env.scope x:=by first|exact Or.inl rfl|exact Or.inr (Or.inl rfl)|exact Or.inr (Or.inr rfl))(hd:(x==("__debug__" : Str))=false:=by decide)(hcd:(x==("__classdict__" : Str))=false:=by decide)
  (ha:∀v,assign (.Subscript (.Name x px) e pos) X.env v=(do
   let ov ← holding [v] (eval (.Name x px) X.env)
   let iv ← holding [v,ov] (eval e X.env)
   standAt pos
   holding [v,ov,iv] (setItem ov iv v)
   release [v,ov,iv] []):=by intro _;rfl):PTG X (.Subscript (.Name x px) e pos) (setAt i g):=.mk λH₀ B₀ d δ pins s σ H v u Q I r ⟨δ',en,e1,k⟩=>by
 unfold setAt at e1;obtain⟨B,b1,b2,env,rv⟩:=en.ex;cases e2:owL i δ with
 | none=>rw[e2] at e1;cases e1
 | some ds =>
  cases e3:g δ with
  | none=>rw[e2,e3] at e1;cases e1
  | some dk =>
   rw[e2,e3] at e1;simp only[Option.bind_some] at e1;cases dk<;>try cases e1
   rename_i kk;dsimp only at e1;cases e4:ixN ds.length kk with
   | none=>rw[e4] at e1;cases e1
   | some j =>
    rw[e4] at e1;cases e1;have hi:=m90 e2;obtain⟨a,O,hb,xs,hx,rx⟩:=env.at hi;refine Zn0 (vg0 (i:=i) hN hv hd hcd) (h B δ) set_list ha pins s σ H v u Q I r ⟨_,O,_,env,e3,λiv H1 s1 r1=>?_⟩;rw[g8] at r1;subst r1;refine⟨a,xs,kk,j,rfl,rfl,s1 _ _ hx,by rw[rx.length];exact e4,?_⟩;have S:Env X.K (upd H1 a (.lst (xs.set j v))) B σ (δ.set i (.ow (.lst (ds.set j d)))):=(env.same s1).mut hi O ⟨_,V1,(Rps.set j (rx.same s1) (rv.same s1)).mono (Gr.own hb)⟩;exact k _ _ (en.s.mut s1 b1 b2 hi O S)
theorem lj0{ft:D->Ds->Option Ds}(h:PX X e gx)(hg:PTG X tg ft)(hs:swapsWithSole [tg] e pos.line X.env=pure false:=by rfl)(hw:swappedStores [tg] e X.env=pure none:=by rfl)
  (h1:(assignEach [tg] X.env).map (·.2)=[assign tg X.env]:=by rfl):PSD X (.Assign [tg] e pos) (uz0 gx ft):=.mk λH₀ B₀ δ pins s σ H D I ⟨r,en,e1,k⟩=>by
 unfold uz0 at e1;cases e2:gx δ with
 | none=>rw[e2] at e1;cases e1
 | some q =>
  rw[e2] at e1;simp only[Option.bind_some] at e1;cases e3:ft q.1 q.2 with
  | none=>rw[e3] at e1;cases e1
  | some δ' =>
   rw[e3] at e1;cases e1;exact un0 (h H₀ B₀ δ) (hg H₀ B₀ q.1 q.2) hs hw h1 pins s σ H D I ⟨q,en,e2,λv H' O=>⟨δ',O,e3,fun σ' H'' en''=>k σ' H'' en''⟩⟩
theorem wi0(h:PX X e gx)(hs:swapsWith e none pos.line X.env=pure false:=by rfl):PSD X (.Expr e pos) (zk0 gx):=.mk λH₀ B₀ δ pins s σ H D I ⟨r,en,e1,k⟩=>by
 unfold zk0 at e1;cases e2:gx δ with
 | none=>rw[e2] at e1;cases e1
 | some q =>
  rw[e2] at e1;cases e1;exact br0 (h H₀ B₀ δ) hs pins s σ H D I ⟨q,en,e2,λv H' O=>k σ H' O.s⟩
theorem la0(i j:Nat){p2 p3:Pos}{kk}(hN:X.N.Nodup)(hij:i≠j)(hc:X.calm=true:=by rfl)(hi:X.N[i]?=some x:=by rfl)(hj:X.N[j]?=some y:=by rfl)
  (hx:Loc X.env.scope x:=by first|exact Or.inl rfl|exact Or.inr rfl) (hy:Loc X.env.scope y:=by first|exact Or.inl rfl|exact Or.inr rfl)
  (hf:X.fn x=true∨X.env.scope.names.lookup x=some .local:=by first|exact .inl rfl|exact .inr rfl|assumption) (hf2:X.fn y=true∨X.env.scope.names.lookup y=some .local:=by first|exact .inl rfl|exact .inr rfl|assumption)
  (hs1:(assignEach [.Name x p2,.Name y p3] X.env).map (·.2)=assign (.Name x p2) X.env::(assignEach [.Name y p3] X.env).map (·.2):=by rfl) (hs2:(assignEach [.Name y p3] X.env).map (·.2)=assign (.Name y p3) X.env::(assignEach [] X.env).map (·.2):=by rfl)
  (hn:(assignEach [.Name x p2,.Name y p3] X.env).length=2:=by rfl) (hst:(assignEach [.Name x p2,.Name y p3] X.env).findIdx? (·.1)=none:=by rfl) :
  PGD X (.Tuple [.Name x p2,.Name y p3] kk pos) [i,j] (vx0 i j):=.mk λB d δ=>(Yv0 hc (mp0 (xh0 (i:=i) hN hi hx hf) (mp0 (xh0 (i:=j) hN hj hy hf2) Z50 hs2) hs1) hn hst).imp λv σ H Q ⟨δ',r,en,e1,k⟩=>by
 unfold vx0 at e1;split at e1
 ·rename_i da db
  cases e1;rw[T4] at r;obtain⟨p,xs,rfl,hq,rs⟩:=r;rw[Y4] at rs;obtain⟨va,t1,rfl,ra,rs⟩:=rs;rw[Y4] at rs;obtain⟨vb,t2,rfl,rb,rs⟩:=rs;rw[X6] at rs;subst rs;refine⟨p,_,rfl,hq.to,rfl,va,[vb],rfl,vb,[],rfl,rfl,k _ ?_ ((en.set i ra).set j rb)⟩;refine⟨by simp,λq hq=>?_,λq hq ds h=>?_⟩
  ·have h1:q≠i:=λz=>hq (by rw[z];exact A5)
   have h2:q≠j:=λz=>hq (by rw[z];exact A7 _ A5)
   rw[List.getElem?_set_ne (B3 h2),List.getElem?_set_ne (B3 h1),List.getElem?_set_ne (B3 h2),List.getElem?_set_ne (B3 h1)];exact⟨rfl,rfl⟩
  ·rcases get_set h with⟨rfl,e3,_⟩|⟨n1,e3⟩
   ·cases e3
   ·rcases get_set e3 with⟨rfl,e4,_⟩|⟨n2,e4⟩
    ·cases e4
    ·simp at hq
     rcases hq with z|z
     ·exact n2 z.symm
     ·exact n1 z.symm
 ·cases e1
end
end DL
namespace HT
open PyProof.Rows
section
variable{w:World}{s:Shared}
theorem th0{t:Addr}{Q:Value->Shared->Prop}(ht:IsTup s.heap t items)(hs:s.heap.IsSliceOf sl vl vu .none)(pl:IsPart vl lo)(pu:IsPart vu hi)
  (hw:sIx items.size 0 lo=0/\sIx items.size items.size hi=items.size) (h:Q (.ref t) s):wpAny (model prog w) A (getItem (.ref t) (.ref sl)) Q E s:=by
 obtain⟨os,Y,U,Z⟩:=id hs;have S:s.TypeIs (.ref sl) "slice" := ⟨os,Y,U⟩;unfold getItem
 try with_reducible refine E7 ?_
 first|refine A0 (A3 ?_)|skip
 refine A0 (wpAny_sequenceKey ht.typeIs (by decide) ?_);refine A0 (w8 (name:=Str.ofString "__getitem__") ht.typeIs L0
  (wpAny_call_entry L0 ht.typeIs entry_tuple_getitem ?_ (args_tuple_getitem _ _)))
 show wpAny _ _ (Builtin.Tuple.tupleItemsOf (.ref t)>>=_) _ _ s;refine A0 (tupleItemsOf_ ht ?_);refine A0 (d4 S ?_);rw[if_pos (by decide)];refine A0 (vk0 hs pl pu ?_);have O:(((sIx items.size 0 lo:Nat):Int)==0&&(1:Int)==1&&(sIx items.size items.size hi - sIx items.size 0 lo)==items.size)=true:=by
  rw[hw.1,hw.2];simp
 show wpAny _ _ (if (((sIx items.size 0 lo:Nat):Int)==0&&(1:Int)==1&&(sIx items.size items.size hi - sIx items.size 0 lo)==items.size)=true then _ else _) _ _ s;rw[if_pos O];unfold Builtin.Tuple.tupleIsExact;refine A0 (A0 (d4 ht.typeIs (A3 ?_)));rw[if_pos (by decide)];exact A0 (wpAny_rule (A3 ⟨_,rfl,A3 h⟩))
end
end HT
namespace L2
open Spec PyProof.Rows
noncomputable def Xi0(K:W.Frag):V->Option Int->Option Int->Hp->VK->Prop:=λx lo hi H Q=>∃a xs,x=.ref a/\SqT K H a xs/\(HT.sIx xs.length 0 lo=0/\HT.sIx xs.length xs.length hi=xs.length)/\Q (.ref a) H
theorem bl0:SlR X (Xi0 X.K):=by
 intro pins s σ H x v vl vu lo hi sl Q I rx hs pl pu h;obtain⟨a,xs,rfl,hx,hw,q⟩:=h;cases rx;obtain⟨its,r,ht,hz⟩:=I.tuple hx;have O:its.toArray.size=xs.length:=by rw[List.size_toArray];exact r.length.symm
 exact⟨"tuple",_,L0.lookup,ht.typeIs,HT.th0 ht hs pl pu (by rw[O];exact hw) ⟨.ref a,H,I,rfl,q⟩⟩
noncomputable def gf0(K:W.Frag):R2:=λx y H Q=>∃a b ys,x=.ref a/\y=.ref b/\SqT K H a []/\SqT K H b ys/\Q (.ref b) H
theorem dm0:OpR X (binaryOp .Add) (gf0 X.K):=by
 intro pins s σ H x y v u Q I rx ry h;obtain⟨a,b,ys,rfl,rfl,ha,hb,q⟩:=h;cases rx;cases ry;obtain⟨its,r1,p1,_⟩:=I.tuple ha;obtain⟨Y,r2,p2,_⟩:=I.tuple hb;have e:its=[]:=r1.zero;subst e;obtain⟨⟨cls,dd,data,sl⟩,ho,hc,n,hd⟩:=id p1;obtain⟨⟨a1,a0,data2,Z⟩,S,O,n2,U⟩:=id p2;simp only at hc hd O U;subst hc hd O U;exact P4 ⟨_,ho,rfl⟩ ⟨_,S,rfl⟩ Y3 b3 b4 b5 (b6 _ _)
  (tuple_addW0 a b _ Y.toArray n n2 dd a0 sl Z rfl) ⟨ho,S,⟨.ref b,H,I,rfl,q⟩⟩
noncomputable def q50(x:Str)(n:Int):Str:=⟨(List.replicate n.toNat x.cps).foldl (·++·) #[]⟩
noncomputable def b20:R2:=λx y H Q=>∃z n,x=.str z/\y=.int n/\-(2 ^ 62)<=n/\n<2 ^ 62/\z.length*n.toNat<=sizeLine/\Q (.str (q50 z n)) H
theorem a80:OpR X (binaryOp .Mult) b20:=by
 intro pins s σ H x y v u Q I rx ry h;obtain⟨z,n,rfl,rfl,h1,h2,hz,q⟩:=h;obtain⟨t,rfl⟩:=rx;obtain⟨t',rfl⟩:=ry;have Y:∀U k,EP X pins σ Q (.str (q50 z n) U) { s with toks:=k }:=λU k=>⟨.str _,H,I.tok k,⟨U,rfl⟩,q⟩
 have a2:(sizeLine:Nat)<2 ^ 40:=by decide
 have Z:¬n<1->¬((z.length:Int) > (2 ^ 63 - 1)/n):=by
  intro hn;have a0:0<n:=by omega
  have:(z.length:Int)*n<=2 ^ 63 - 1:=by
   have e:n=(n.toNat:Int):=by omega
   rw[e];have:((z.length*n.toNat:Nat):Int)<=2 ^ 40:=by exact_mod_cast (by omega:z.length*n.toNat<=2 ^ 40)
   rw[Int.natCast_mul] at this;omega
  exact Int.not_lt.mpr ((Int.le_ediv_iff_mul_le a0).mpr this)
 refine PySem.P.mul_str (by rw[decide_eq_false (by omega),decide_eq_false (by omega)];rfl) (λhn _=>Z hn) (λ_ _=>?_) ?_
 ·show decide (z.length*n.toNat > sizeLine)=false
  exact E5 (by omega)
 ·by_cases hn:n<1
  ·rw[if_pos hn]
   have e:q50 z n=Str.empty:=by
    unfold q50;rw[show n.toNat=0 by omega];rfl
   refine⟨by decide,?_⟩;rw[← e];exact Y _ _
  ·rw[if_neg hn]
   by_cases h3:(n==1||z.length==0)=true
   ·rw[if_pos h3]
    have e:q50 z n=z:=by
     rw[Bool.or_eq_true] at h3;rcases h3 with h3|h3
     ·have:n=1:=L8 h3
      subst this;unfold q50;show (⟨#[]++z.cps⟩:Str)=z;rw[Array.empty_append]
     ·have h3:z.length=0:=L8 h3
      have S:z.cps=#[]:=Array.eq_empty_of_size_eq_zero h3;have:∀k:Nat,(List.replicate k (#[]:Array Nat)).foldl (·++·) #[]=#[]:=by
       intro k
       induction k with
       | zero=>rfl
       | succ k ih=>rw[List.replicate_succ,List.foldl_cons];exact ih
      unfold q50;rw[S,this];cases z;simp at S;rw[S]
    have:=Y t s.toks;rw[e] at this;exact this
   ·rw[if_neg h3]
    have a1:∀(k:Nat) (O:Array Nat),((List.replicate k z.cps).foldl (·++·) O).size=O.size+k*z.cps.size:=by
     intro k
     induction k with
     | zero=>intro O;simp
     | succ k ih=>intro O;rw[List.replicate_succ,List.foldl_cons,ih,Array.size_append,Nat.succ_mul];omega
    refine⟨?_,Y _ _⟩;show ((List.replicate n.toNat z.cps).foldl (·++·) #[]).size<=_;rw[a1];have:z.length=z.cps.size:=rfl;rw[this,Nat.mul_comm] at hz
    simpa using hz
theorem pk0:fillsNumberSlot (.type "tuple") "mul"=pure false :=
 PySem.fillsNumberSlot_seq (id := "tuple.__mul__") (r:=some (.builtin "tuple.__rmul__")) A70.lookup (by decide +kernel) A80.lookup (by decide +kernel)
theorem iy0:seqRepeat? (.type "tuple")=pure (some (.builtin "tuple.__mul__")):=by
 unfold seqRepeat?;rw[PySem.seqSlot_of (T := "tuple") (name := "__mul__") (id := "tuple.__mul__") A70.lookup (by decide +kernel),PySem.seqSlot_of (T := "tuple") (name := "__rmul__") (id := "tuple.__rmul__") A80.lookup (by decide +kernel)];rfl
theorem lf0(a:Int)(t:Tok)(l:Addr)(items:Array Value)(n:Nat)(dd:Option Addr)(sl:Array (Option Value)) :
  Meets (Builtin.«int.__rmul__» ⟨[.int a t,.ref l],[]⟩) (λ_ R s=>s.heap.get? l=some { cls:=.type "tuple",dict:=dd,data:=.seq items n,slots:=sl }/\R (.ok (.ret Value.notImplemented)) s) :=
 .of_wp λprog w A R s h=>by
  obtain⟨hp,g,d,tk,os⟩:=s;obtain⟨hl,h⟩:=h
  wp_walk
  exact⟨_,rfl,h⟩
theorem dj0(l:Addr)(items:Array Value)(n:Nat)(dd:Option Addr)(sl:Array (Option Value))(k:Int)(t:Tok)(h2:2<=k)(h3:k<2 ^ 62)(he:items.isEmpty=false)(hsz:items.size*k.toNat<=sizeLine) :
  Meets (Builtin.«tuple.__mul__» ⟨[.ref l,.int k t],[]⟩) (λ_ R s=>s.heap.get? l=some { cls:=.type "tuple",dict:=dd,data:=.seq items n,slots:=sl }/\R (.ok (.ret (Value.ref s.heap.objs.size))) { s with heap:=s.heap.push { cls:=.type "tuple",data:=.seq ((List.replicate k.toNat items).foldl (·++·) #[]) } }) :=
 .of_wp λprog w A R s h=>by
  obtain⟨hp,g,d,tk,os⟩:=s;obtain⟨hl,h⟩:=h;have f1:=AutoSeq1.idx_int;have c1:¬((decide (k < -(2 ^ 63:Int))||decide (k ≥ 2 ^ 63))=true):=by
   rw[decide_eq_false (by omega),decide_eq_false (by omega)];exact A8
  have c2:¬((items.isEmpty||k==1)=true):=by
   rw[he,beq_eq_false_iff_ne.mpr (by omega)];exact A8
  have c3:¬((decide (k<=0)||items.isEmpty)=true):=by
   rw[he,decide_eq_false (by omega)];exact A8
  have hk:((items.size:Int)*k)=((items.size*k.toNat:Nat):Int):=by
   rw[Int.natCast_mul];congr 1;omega
  have hb:(sizeLine:Nat)<2 ^ 40:=by decide
  have c4:¬((items.size:Int)*k > (2 ^ 63 - 1)/8):=by
   rw[hk];omega
  have c5:¬(Builtin.Tuple.tupleTooMany ((items.size:Int)*k)=true):=by
   rw[hk];unfold Builtin.Tuple.tupleTooMany;simp only[decide_eq_true_eq];omega
  have U:∀(m:Nat) (O:Array Value),((List.replicate m items).foldl (·++·) O).size=O.size+m*items.size:=by
   intro m
   induction m with
   | zero=>intro O;simp
   | succ m ih=>intro O;rw[List.replicate_succ,List.foldl_cons,ih,Array.size_append,Nat.succ_mul];omega
  have S:sizeOk (.seq ((List.replicate k.toNat items).foldl (·++·) #[])):=by
   show ((List.replicate k.toNat items).foldl (·++·) #[]).size<=sizeLine;rw[U,Nat.mul_comm]
   simpa using hsz
  wp_walk
  rw[if_neg c1];show wpAny _ _ (Builtin.Tuple.tupleItemsOf (.ref l)>>=_) _ _ _;refine A0 (tupleItemsOf_ ⟨_,hl,rfl,n,rfl⟩ ?_);dsimp only;rw[if_neg c2,if_neg c3];rw[if_neg c4,if_neg c5];exact A0 (m:=Builtin.Tuple.tupleExact _) (D6 (A3 ⟨_,rfl,h⟩) S)
noncomputable def b80(K:W.Frag):R2:=λx y H Q=>∃a xs k,x=.ref a/\y=.int k/\SqT K H a xs/\xs≠[]/\2<=k/\k<2 ^ 62/\xs.length*k.toNat<=sizeLine/\∀p,H p=none->Q (.ref p) (upd H p (.tup (List.replicate k.toNat xs).flatten))
theorem am0:OpR X (binaryOp .Mult) (b80 X.K):=by
 intro pins s σ H x y v u Q I rx ry h;obtain⟨a,xs,k,rfl,rfl,ha,hx,h2,h3,hz,q⟩:=h;cases rx;obtain⟨t,rfl⟩:=ry;obtain⟨its,r1,p1,_⟩:=I.tuple ha;obtain⟨⟨cls,dd,data,sl⟩,ho,hc,n,hd⟩:=id p1;simp only at hc hd;subst hc hd;have hl:=r1.length;have he:its.toArray.isEmpty=false:=by
  cases its with
  | nil=>exact absurd (r1.nil_iff.mp rfl) hx
  | cons a b=>rfl
 have O:its.toArray.size*k.toNat<=sizeLine:=by rw[List.size_toArray,← hl];exact hz
 have S:(List.replicate k.toNat its.toArray).foldl (·++·) #[]=(List.replicate k.toNat its).flatten.toArray:=by
  have:=foldl_rep its k.toNat [];rw[List.nil_append] at this;exact this
 refine A90 (T := "tuple") (U := "int") (by decide) ⟨_,ho,rfl⟩ (λs'=>I0 s' k t) pk0 F.fills_int_mul P7 iy0 F.slot_int_index.lookup
  (D0 P7 (I0 s k t) F.entry_int_rmul (F.args_int_rmul_2 _ _) (lf0 k t a its.toArray n dd sl)
   ⟨ho,rfl,⟨_,ho,rfl⟩,D0 F.slot_tuple_mul ⟨_,ho,rfl⟩ F.entry_tuple_mul (F.args_tuple_mul_2 _ _) (dj0 a its.toArray n dd sl k t h2 h3 he O) ⟨ho,?_⟩⟩)
 rw[S];refine⟨.ref s.heap.objs.size,_,I.laid (t':=s.toks) (o:=.tup (List.replicate k.toNat xs).flatten) (λb ob q=>B0 _ q) (A1 _) ?_,rfl,q _ (I.hok.fresh (A1 _))⟩;exact⟨by rw[len_rep,Nat.mul_comm];exact hz,_,r1.rep k.toNat,IsTupN.new _ _⟩
end L2
namespace DL
open Spec PyProof.Rows L2
mutual
theorem q80:∀(d:D) (n:Nat),lean d n=true->deq d d=true
 | .non,_,_=>by unfold deq;rfl
 | .bl b,_,_=>by unfold deq;simp
 | .int b,_,_=>by unfold deq;simp
 | .str b,_,_=>by unfold deq;simp
 | .tup ds,0,h=>by unfold lean at h;cases h
 | .tup ds,n+1,h=>by unfold lean at h;unfold deq;exact tz0 ds n h
 | .lst ds,0,h=>by unfold lean at h;cases h
 | .lst ds,n+1,h=>by unfold lean at h;unfold deq;exact tz0 ds n h
 | .dct _ _,n,h=>by unfold lean at h;cases h
theorem tz0:∀(ds:List D) (n:Nat),leans ds n=true->yt0 ds ds=true
 | [],_,_=>by unfold yt0;rfl
 | d::ds,n,h=>by
  unfold leans at h;rw[Bool.and_eq_true] at h;unfold yt0;rw[q80 d n h.1,tz0 ds n h.2];rfl
end
theorem xd0:∀ds es:List D,yt0 ds es=((List.range (min ds.length es.length)).all (λj=>deq (ds.getD j .non) (es.getD j .non))&&ds.length==es.length)
 | [],[]=>by unfold yt0;simp
 | [],_::_=>by unfold yt0;simp
 | _::_,[]=>by unfold yt0;simp
 | d::ds,e::es=>by
  unfold yt0;rw[xd0 ds es];have h1:min (d::ds).length (e::es).length=min ds.length es.length+1:=by simp only[List.length_cons];omega
  rw[h1,List.range_succ_eq_map,List.all_cons,List.all_map];have h2:((d::ds).length==(e::es).length)=(ds.length==es.length):=by
   rw[Bool.eq_iff_iff];simp
  rw[h2,Bool.and_assoc];rfl
theorem tr0:∀{ds:List D} {n j:Nat} {d:D},leans ds n=true->ds[j]?=some d->lean d n=true
 | [],_,_,_,_,h=>by simp at h
 | d::ds,n,0,_,h,e=>by
  unfold leans at h;rw[Bool.and_eq_true] at h;simp at e;subst e;exact h.1
 | d::ds,n,j+1,_,h,e=>by
  unfold leans at h;rw[Bool.and_eq_true] at h;exact tr0 (j:=j) h.2 (by simpa using e)
section
variable{σ:St}{s:Shared}
mutual
theorem Rp.inj(I:Inv X pins σ H s){B:BS}:∀{d e:D} {n m:Nat} {v:V},lean d n=true->lean e m=true->Rp X.K H B d v->Rp X.K H B' e v->d=e
 | .non,e,_,m,v,_,le,h,h'=>by
  rw[R5] at h;subst h;cases e with
  | non=>rfl
  | bl b=>rw[Y0] at h';cases h'
  | int b=>rw[g8] at h';cases h'
  | str b=>rw[Y6] at h';cases h'
  | tup b=>rw[T4] at h';obtain⟨_,_,z,_⟩:=h';cases z
  | lst b=>rw[V7] at h';obtain⟨_,_,z,_⟩:=h';cases z
  | dct a b=>unfold lean at le;cases le
 | .bl c,e,_,m,v,_,le,h,h'=>by
  rw[Y0] at h;subst h;cases e with
  | non=>rw[R5] at h';cases h'
  | bl b=>rw[Y0] at h';cases h';rfl
  | int b=>rw[g8] at h';cases h'
  | str b=>rw[Y6] at h';cases h'
  | tup b=>rw[T4] at h';obtain⟨_,_,z,_⟩:=h';cases z
  | lst b=>rw[V7] at h';obtain⟨_,_,z,_⟩:=h';cases z
  | dct a b=>unfold lean at le;cases le
 | .int c,e,_,m,v,_,le,h,h'=>by
  rw[g8] at h;subst h;cases e with
  | non=>rw[R5] at h';cases h'
  | bl b=>rw[Y0] at h';cases h'
  | int b=>rw[g8] at h';cases h';rfl
  | str b=>rw[Y6] at h';cases h'
  | tup b=>rw[T4] at h';obtain⟨_,_,z,_⟩:=h';cases z
  | lst b=>rw[V7] at h';obtain⟨_,_,z,_⟩:=h';cases z
  | dct a b=>unfold lean at le;cases le
 | .str c,e,_,m,v,_,le,h,h'=>by
  rw[Y6] at h;subst h;cases e with
  | non=>rw[R5] at h';cases h'
  | bl b=>rw[Y0] at h';cases h'
  | int b=>rw[g8] at h';cases h'
  | str b=>rw[Y6] at h';cases h';rfl
  | tup b=>rw[T4] at h';obtain⟨_,_,z,_⟩:=h';cases z
  | lst b=>rw[V7] at h';obtain⟨_,_,z,_⟩:=h';cases z
  | dct a b=>unfold lean at le;cases le
 | .tup ds,e,0,m,v,ld,_,_,_=>by unfold lean at ld;cases ld
 | .tup ds,e,n+1,m,v,ld,le,h,h'=>by
  rw[T4] at h;obtain⟨a,xs,rfl,q,r⟩:=h;unfold lean at ld;cases e with
  | non=>rw[R5] at h';cases h'
  | bl b=>rw[Y0] at h';cases h'
  | int b=>rw[g8] at h';cases h'
  | str b=>rw[Y6] at h';cases h'
  | tup es =>
   cases m with
   | zero=>unfold lean at le;cases le
   | succ m =>
    unfold lean at le;rw[T4] at h';obtain⟨a',ys,z,q',r'⟩:=h';cases z;have:=I.tuple_inj q.to q'.to;subst this;rw[Rps.inj I ld le r r']
  | lst es =>
   rw[V7] at h';obtain⟨a',ys,z,q',r'⟩:=h';cases z;obtain⟨_,_,⟨o,e1,c1,_⟩,_⟩:=I.tuple q.to;obtain⟨_,_,p,_⟩:=I.list q'.to;obtain⟨o',e2,c2,_⟩:=p.isList;rw[e1] at e2;cases e2;rw[c1] at c2;injection c2 with z
   exact absurd z (by decide)
  | dct a b=>unfold lean at le;cases le
 | .lst ds,e,0,m,v,ld,_,_,_=>by unfold lean at ld;cases ld
 | .lst ds,e,n+1,m,v,ld,le,h,h'=>by
  rw[V7] at h;obtain⟨a,xs,rfl,q,r⟩:=h;unfold lean at ld;cases e with
  | non=>rw[R5] at h';cases h'
  | bl b=>rw[Y0] at h';cases h'
  | int b=>rw[g8] at h';cases h'
  | str b=>rw[Y6] at h';cases h'
  | lst es =>
   cases m with
   | zero=>unfold lean at le;cases le
   | succ m =>
    unfold lean at le;rw[V7] at h';obtain⟨a',ys,z,q',r'⟩:=h';cases z;have:=I.list_inj q.to q'.to;subst this;rw[Rps.inj I ld le r r']
  | tup es =>
   rw[T4] at h';obtain⟨a',ys,z,q',r'⟩:=h';cases z;obtain⟨_,_,⟨o,e1,c1,_⟩,_⟩:=I.tuple q'.to;obtain⟨_,_,p,_⟩:=I.list q.to;obtain⟨o',e2,c2,_⟩:=p.isList;rw[e1] at e2;cases e2;rw[c1] at c2;injection c2 with z
   exact absurd z (by decide)
  | dct a b=>unfold lean at le;cases le
 | .dct a b,e,n,m,v,ld,_,_,_=>by unfold lean at ld;cases ld
theorem Rps.inj(I:Inv X pins σ H s){B:BS}:∀{ds es:List D} {n m:Nat} {xs:List V},leans ds n=true->leans es m=true->Rps X.K H B ds xs->Rps X.K H B' es xs->ds=es
 | [],es,_,_,_,_,_,h,h'=>by
  rw[X6] at h;subst h;have:=h'.length;cases es with
  | nil=>rfl
  | cons a b=>simp at this
 | d::ds,es,n,m,_,ld,le,h,h'=>by
  rw[Y4] at h;obtain⟨x,r,rfl,h1,h2⟩:=h;cases es with
  | nil=>rw[X6] at h';cases h'
  | cons e es =>
   rw[Y4] at h';obtain⟨x',r',z,O,S⟩:=h';cases z;unfold leans at ld le;rw[Bool.and_eq_true] at ld le;rw[Rp.inj I ld.1 le.1 h1 O,Rps.inj I ld.2 le.2 h2 S]
end
theorem view(I:Inv X pins σ H s){B:BS}{d:D}{x:V}(l:lean d n=true)(h:Rp X.K H B d x)(r:RelV x u) :
  (d=.non/\u=.none)∨(∃b,d=.bl b/\u=.bool b)∨(∃i t,d=.int i/\u=.int i t)∨(∃z t,d=.str z/\u=.str z t) ∨
  (∃m ds a xs its,n=m+1/\leans ds m=true/\d=.tup ds/\x=.ref a/\u=.ref a/\Rps X.K H B ds xs/\Vals xs its/\s.heap.IsTuple a its.toArray) ∨
  (∃m ds a xs its,n=m+1/\leans ds m=true/\d=.lst ds/\x=.ref a/\u=.ref a/\Rps X.K H B ds xs/\Vals xs its/\s.heap.IsList a its.toArray):=by
 cases d with
 | non=>rw[R5] at h;subst h;exact .inl ⟨rfl,r⟩
 | bl b=>rw[Y0] at h;subst h;exact .inr (.inl ⟨b,rfl,r⟩)
 | int i=>rw[g8] at h;subst h;obtain⟨t,e⟩:=r;exact .inr (.inr (.inl ⟨i,t,rfl,e⟩))
 | str z=>rw[Y6] at h;subst h;obtain⟨t,e⟩:=r;exact .inr (.inr (.inr (.inl ⟨z,t,rfl,e⟩)))
 | tup ds =>
  cases n with
  | zero=>unfold lean at l;cases l
  | succ m =>
   unfold lean at l;rw[T4] at h;obtain⟨a,xs,rfl,q,rr⟩:=h;obtain⟨its,rv,p,_⟩:=I.tuple q.to;exact .inr (.inr (.inr (.inr (.inl ⟨m,ds,a,xs,its,rfl,l,rfl,rfl,r,rr,rv,p⟩))))
 | lst ds =>
  cases n with
  | zero=>unfold lean at l;cases l
  | succ m =>
   unfold lean at l;rw[V7] at h;obtain⟨a,xs,rfl,q,rr⟩:=h;obtain⟨its,rv,p,_⟩:=I.list q.to;exact .inr (.inr (.inr (.inr (.inr ⟨m,ds,a,xs,its,rfl,l,rfl,rfl,r,rr,rv,p.isList⟩))))
 | dct a b=>unfold lean at l;cases l
theorem in1_units:A.in1.units=A.units+1:=rfl
theorem yo0{es:List D}{ys:List V}{ws:List Value}{B:BS}{A:Around}(ld:leans ds n=true)(le:leans es m=true)(r1:Rps X.K H B ds xs)(r2:Rps X.K H B' es ys)(v1:Vals xs us)(v2:Vals ys ws)
  (ih:∀d e x y u w,lean d n=true->lean e m=true->Rp X.K H B d x->Rp X.K H B' e y->RelV x u->RelV y w->SeqAt.EqAt A s u w (deq d e)) :
  ∀j (h1:j<us.toArray.size) (h2:j<ws.toArray.size),SeqAt.EqAt A s us.toArray[j] ws.toArray[j] (deq (ds.getD j .non) (es.getD j .non)):=by
 intro j h1 h2;have l1:j<ds.length:=by rw[← r1.length,v1.length];simpa using h1
 have l2:j<es.length:=by rw[← r2.length,v2.length];simpa using h2
 obtain⟨x,ex,rx⟩:=r1.get (E1 l1);obtain⟨y,ey,ry⟩:=r2.get (E1 l2);obtain⟨u,eu,ru⟩:=v1.get ex;obtain⟨w,ew,O⟩:=v2.get ey;have hu:us.toArray[j]=u:=by
  have:us[j]?=some u:=eu;simp at h1;rw[List.getElem?_eq_getElem h1] at this
  simpa using B2 this
 have hw:ws.toArray[j]=w:=by
  have:ws[j]?=some w:=ew;simp at h2;rw[List.getElem?_eq_getElem h2] at this
  simpa using B2 this
 rw[hu,hw];have e1:ds.getD j .non=ds[j]:=by simp[List.getD_eq_getElem?_getD,l1]
 have e2:es.getD j .non=es[j]:=by simp[List.getD_eq_getElem?_getD,l2]
 rw[e1,e2];exact ih _ _ _ _ _ _ (tr0 ld (E1 l1)) (tr0 le (E1 l2)) rx ry ru O
theorem f00(I:Inv X pins σ H s){B:BS}:∀(n m:Nat) (d e:D) (x y:V) (u w:Value) (A:Around),A.units+n<cLine->lean d n=true->lean e m=true->Rp X.K H B d x->Rp X.K H B' e y->RelV x u->RelV y w->SeqAt.EqAt A s u w (deq d e):=by
 intro n
 induction n with
 | zero =>
  intro m d e x y u w A hu ld le hx hy rx ry;have O:A.units<cLine:=by omega
  rcases view I ld hx rx with⟨rfl,rfl⟩|⟨b,rfl,rfl⟩|⟨i,t,rfl,rfl⟩|⟨z,t,rfl,rfl⟩|⟨n',_,_,_,_,hn,_⟩|⟨n',_,_,_,_,hn,_⟩<;>(try (exact absurd hn (by omega))) <;>
  rcases view I le hy ry with⟨rfl,rfl⟩|⟨b',rfl,rfl⟩|⟨i',t',rfl,rfl⟩|⟨z',t',rfl,rfl⟩|⟨m',es,a',ys,Y,rfl,Z,rfl,rfl,rfl,S,U,p'⟩|⟨m',es,a',ys,Y,rfl,Z,rfl,rfl,rfl,S,U,p'⟩ <;>
  unfold deq <;>
  first
  | with_reducible exact L9 _|with_reducible exact e9 _ _|with_reducible exact i0 _ _ _ _|with_reducible exact i5 _ _ _ _|with_reducible exact g4 _ _ _|with_reducible exact g9 _ _ _
  | with_reducible exact d5 _|with_reducible exact d6 _ _|with_reducible exact e7 _ _|with_reducible exact e8 _|with_reducible exact g5 _ _ _|with_reducible exact g7 _ _|with_reducible exact N4 _ _ _ _
  | with_reducible exact i3 _ _|with_reducible exact i4 _ _ _|with_reducible exact N9 _ _ _ _
  | with_reducible exact SeqAt.EqAt.none_list p' O|with_reducible exact SeqAt.EqAt.bool_list _ p' O|with_reducible exact SeqAt.EqAt.int_list _ _ p' O|with_reducible exact SeqAt.EqAt.str_list _ _ p' O
  | with_reducible exact SeqAt.EqAt.none_tuple p' O|with_reducible exact SeqAt.EqAt.bool_tuple _ p' O|with_reducible exact SeqAt.EqAt.int_tuple _ _ p' O|with_reducible exact SeqAt.EqAt.str_tuple _ _ p' O
 | succ n ih =>
  intro m d e x y u w A hu ld le hx hy rx ry;have O:A.units<cLine:=by omega
  have a1:A.in1.units+n<cLine:=by rw[in1_units];omega
  rcases view I ld hx rx with⟨rfl,rfl⟩|⟨b,rfl,rfl⟩|⟨i,t,rfl,rfl⟩|⟨z,t,rfl,rfl⟩|⟨n',ds,a,xs,its,hn,a0,rfl,rfl,rfl,rr,rv,p⟩|⟨n',ds,a,xs,its,hn,a0,rfl,rfl,rfl,rr,rv,p⟩ <;>
  rcases view I le hy ry with⟨rfl,rfl⟩|⟨b',rfl,rfl⟩|⟨i',t',rfl,rfl⟩|⟨z',t',rfl,rfl⟩|⟨m',es,a',ys,Y,rfl,Z,rfl,rfl,rfl,S,U,p'⟩|⟨m',es,a',ys,Y,rfl,Z,rfl,rfl,rfl,S,U,p'⟩
  case inr.inr.inr.inr.inl.inr.inr.inr.inr.inl =>
   cases hn
   by_cases hab:a=a'
   ·subst hab
    have e:D.tup ds=D.tup es:=Rp.inj I ld le hx hy;rw[← e,q80 _ _ ld];exact L9 _
   ·refine SeqAt.EqAt.of_refs hab ?_
    have:=SeqAt.RcAt.tuples (e:=λj=>deq (ds.getD j .non) (es.getD j .non)) p p' O (yo0 a0 Z rr S rv U λd e x y u w h1 h2 h3 h4 h5 h6=>ih m' d e x y u w A.in1 a1 h1 h2 h3 h4 h5 h6);unfold deq;rw[xd0]
    simpa [← rv.length,← U.length,rr.length,S.length] using this
  case inr.inr.inr.inr.inr.inr.inr.inr.inr.inr =>
   cases hn
   by_cases hab:a=a'
   ·subst hab
    have e:D.lst ds=D.lst es:=Rp.inj I ld le hx hy;rw[← e,q80 _ _ ld];exact L9 _
   ·refine SeqAt.EqAt.of_refs hab ?_
    have s1:its.toArray.size=ds.length:=by rw[List.size_toArray,← rv.length,rr.length]
    have s2:Y.toArray.size=es.length:=by rw[List.size_toArray,← U.length,S.length]
    unfold deq;rw[xd0]
    by_cases hl:ds.length=es.length
    ·have:=SeqAt.RcAt.lists (e:=λj=>deq (ds.getD j .non) (es.getD j .non)) p p' (by rw[s1,s2,hl]) O (yo0 a0 Z rr S rv U λd e x y u w h1 h2 h3 h4 h5 h6=>ih m' d e x y u w A.in1 a1 h1 h2 h3 h4 h5 h6)
     rw[s1] at this;rw[hl] at this ⊢
     simpa using this
    ·have:=Ap0 (A:=A) p p' (by rw[s1,s2];simpa using hl) O
     rw[beq_eq_false_iff_ne.mpr hl,Bool.and_false];exact this
  all_goals
   unfold deq
   first
   | with_reducible exact L9 _|with_reducible exact e9 _ _|with_reducible exact i0 _ _ _ _|with_reducible exact i5 _ _ _ _|with_reducible exact g4 _ _ _|with_reducible exact g9 _ _ _
   | with_reducible exact d5 _|with_reducible exact d6 _ _|with_reducible exact e7 _ _|with_reducible exact e8 _|with_reducible exact g5 _ _ _|with_reducible exact g7 _ _|with_reducible exact N4 _ _ _ _
   | with_reducible exact i3 _ _|with_reducible exact i4 _ _ _|with_reducible exact N9 _ _ _ _
   | with_reducible exact SeqAt.EqAt.none_list p' O|with_reducible exact SeqAt.EqAt.bool_list _ p' O|with_reducible exact SeqAt.EqAt.int_list _ _ p' O|with_reducible exact SeqAt.EqAt.str_list _ _ p' O
   | with_reducible exact SeqAt.EqAt.none_tuple p' O|with_reducible exact SeqAt.EqAt.bool_tuple _ p' O|with_reducible exact SeqAt.EqAt.int_tuple _ _ p' O|with_reducible exact SeqAt.EqAt.str_tuple _ _ p' O
   | with_reducible exact SeqAt.EqAt.list_none p O|with_reducible exact SeqAt.EqAt.list_bool _ p O|with_reducible exact SeqAt.EqAt.list_int _ _ p O|with_reducible exact SeqAt.EqAt.list_str _ _ p O
   | with_reducible exact SeqAt.EqAt.tuple_none p O|with_reducible exact SeqAt.EqAt.tuple_bool _ p O|with_reducible exact SeqAt.EqAt.tuple_int _ _ p O|with_reducible exact SeqAt.EqAt.tuple_str _ _ p O
   | with_reducible exact SeqAt.EqAt.list_tuple p p' O|with_reducible exact SeqAt.EqAt.tuple_list p p' O
end
end DL
namespace DL
open Spec PyProof.Rows L2
section
variable{σ:St}{s:Shared}
theorem gr0(I:Inv X pins σ H s){B:BS}(n m:Nat)(d e:D)(x y:V)(u w:Value)(A:Around)(hu:A.units+n<cLine)(ld:lean d n=true)(le:lean e m=true)(hx:Rp X.K H B d x)(hy:Rp X.K H B' e y)(rx:RelV x u)(ry:RelV y w) :
  SeqAt.RcAt A s u w (deq d e)/\SeqAt.RcNeAt A s u w (!deq d e):=by
 have O:A.units<cLine:=by omega
 rcases view I ld hx rx with⟨rfl,rfl⟩|⟨b,rfl,rfl⟩|⟨i,t,rfl,rfl⟩|⟨z,t,rfl,rfl⟩|⟨n',ds,a,xs,its,hn,a2,rfl,rfl,rfl,rr,rv,p⟩|⟨n',ds,a,xs,its,hn,a2,rfl,rfl,rfl,rr,rv,p⟩ <;>
 rcases view I le hy ry with⟨rfl,rfl⟩|⟨b',rfl,rfl⟩|⟨i',t',rfl,rfl⟩|⟨z',t',rfl,rfl⟩|⟨m',es,a',ys,Z,rfl,a1,rfl,rfl,rfl,S,U,p'⟩|⟨m',es,a',ys,Z,rfl,a1,rfl,rfl,rfl,S,U,p'⟩
 case inr.inr.inr.inr.inl.inr.inr.inr.inr.inl =>
  subst hn;have a0:A.in1.units+n'<cLine:=by rw[in1_units];omega
  have Y:=yo0 (A:=A.in1) a2 a1 rr S rv U λd e x y u w h1 h2 h3 h4 h5 h6=>f00 I n' m' d e x y u w A.in1 a0 h1 h2 h3 h4 h5 h6
  have q1:=SeqAt.RcAt.tuples (e:=λj=>deq (ds.getD j .non) (es.getD j .non)) p p' O Y;have q2:=SeqAt.RcNeAt.tuples (e:=λj=>deq (ds.getD j .non) (es.getD j .non)) p p' O Y;unfold deq;rw[xd0];have s1:its.toArray.size=ds.length:=by rw[List.size_toArray,← rv.length,rr.length]
  have s2:Z.toArray.size=es.length:=by rw[List.size_toArray,← U.length,S.length]
  rw[s1,s2] at q1 q2;exact⟨q1,q2⟩
 case inr.inr.inr.inr.inr.inr.inr.inr.inr.inr =>
  subst hn;have a0:A.in1.units+n'<cLine:=by rw[in1_units];omega
  have Y:=yo0 (A:=A.in1) a2 a1 rr S rv U λd e x y u w h1 h2 h3 h4 h5 h6=>f00 I n' m' d e x y u w A.in1 a0 h1 h2 h3 h4 h5 h6
  have s1:its.toArray.size=ds.length:=by rw[List.size_toArray,← rv.length,rr.length]
  have s2:Z.toArray.size=es.length:=by rw[List.size_toArray,← U.length,S.length]
  unfold deq;rw[xd0]
  by_cases hl:ds.length=es.length
  ·have q1:=SeqAt.RcAt.lists (e:=λj=>deq (ds.getD j .non) (es.getD j .non)) p p' (by rw[s1,s2,hl]) O Y
   have q2:=SeqAt.RcNeAt.lists (e:=λj=>deq (ds.getD j .non) (es.getD j .non)) p p' (by rw[s1,s2,hl]) O Y;rw[s1] at q1 q2;rw[hl] at q1 q2 ⊢;simp only[Nat.min_self,beq_self_eq_true,Bool.and_true];exact⟨q1,q2⟩
  ·have q1:=Ap0 (A:=A) p p' (by rw[s1,s2];simpa using hl) O
   have q2:=SeqAt.RcNeAt.lists_lengths (A:=A) p p' (by rw[s1,s2];simpa using hl) O;rw[beq_eq_false_iff_ne.mpr hl,Bool.and_false];exact⟨q1,q2⟩
 all_goals
  unfold deq;constructor
  ·first
   | with_reducible exact SeqAt.RcAt.none_none|with_reducible exact SeqAt.RcAt.bool_bool _ _|with_reducible exact SeqAt.RcAt.int_int _ _ _ _|with_reducible exact SeqAt.RcAt.str_str _ _ _ _|with_reducible exact SeqAt.RcAt.bool_int _ _ _|with_reducible exact SeqAt.RcAt.int_bool _ _ _
   | with_reducible exact SeqAt.RcAt.none_bool _|with_reducible exact SeqAt.RcAt.none_int _ _|with_reducible exact SeqAt.RcAt.none_str _ _|with_reducible exact SeqAt.RcAt.bool_none _|with_reducible exact SeqAt.RcAt.bool_str _ _ _|with_reducible exact SeqAt.RcAt.int_none _ _|with_reducible exact SeqAt.RcAt.int_str _ _ _ _
   | with_reducible exact SeqAt.RcAt.str_none _ _|with_reducible exact SeqAt.RcAt.str_bool _ _ _|with_reducible exact SeqAt.RcAt.str_int _ _ _ _
   | with_reducible exact SeqAt.RcAt.none_list p' O|with_reducible exact SeqAt.RcAt.bool_list _ p' O|with_reducible exact SeqAt.RcAt.int_list _ _ p' O|with_reducible exact SeqAt.RcAt.str_list _ _ p' O
   | with_reducible exact SeqAt.RcAt.none_tuple p' O|with_reducible exact SeqAt.RcAt.bool_tuple _ p' O|with_reducible exact SeqAt.RcAt.int_tuple _ _ p' O|with_reducible exact SeqAt.RcAt.str_tuple _ _ p' O
   | with_reducible exact SeqAt.RcAt.list_none p O|with_reducible exact SeqAt.RcAt.list_bool _ p O|with_reducible exact SeqAt.RcAt.list_int _ _ p O|with_reducible exact SeqAt.RcAt.list_str _ _ p O
   | with_reducible exact SeqAt.RcAt.tuple_none p O|with_reducible exact SeqAt.RcAt.tuple_bool _ p O|with_reducible exact SeqAt.RcAt.tuple_int _ _ p O|with_reducible exact SeqAt.RcAt.tuple_str _ _ p O
   | with_reducible exact SeqAt.RcAt.list_tuple p p' O|with_reducible exact SeqAt.RcAt.tuple_list p p' O
  ·try rw[Bool.not_false]
   try rw[Bool.not_true]
   first
   | with_reducible exact SeqAt.RcNeAt.none_none|with_reducible exact SeqAt.RcNeAt.bool_bool _ _|with_reducible exact SeqAt.RcNeAt.int_int _ _ _ _|with_reducible exact SeqAt.RcNeAt.str_str _ _ _ _|with_reducible exact SeqAt.RcNeAt.bool_int _ _ _|with_reducible exact SeqAt.RcNeAt.int_bool _ _ _
   | with_reducible exact SeqAt.RcNeAt.none_bool _|with_reducible exact SeqAt.RcNeAt.none_int _ _|with_reducible exact SeqAt.RcNeAt.none_str _ _|with_reducible exact SeqAt.RcNeAt.bool_none _|with_reducible exact SeqAt.RcNeAt.bool_str _ _ _|with_reducible exact SeqAt.RcNeAt.int_none _ _|with_reducible exact SeqAt.RcNeAt.int_str _ _ _ _
   | with_reducible exact SeqAt.RcNeAt.str_none _ _|with_reducible exact SeqAt.RcNeAt.str_bool _ _ _|with_reducible exact SeqAt.RcNeAt.str_int _ _ _ _
   | with_reducible exact SeqAt.RcNeAt.none_list p' O|with_reducible exact SeqAt.RcNeAt.bool_list _ p' O|with_reducible exact SeqAt.RcNeAt.int_list _ _ p' O|with_reducible exact SeqAt.RcNeAt.str_list _ _ p' O
   | with_reducible exact SeqAt.RcNeAt.none_tuple p' O|with_reducible exact SeqAt.RcNeAt.bool_tuple _ p' O|with_reducible exact SeqAt.RcNeAt.int_tuple _ _ p' O|with_reducible exact SeqAt.RcNeAt.str_tuple _ _ p' O
   | with_reducible exact SeqAt.RcNeAt.list_none p O|with_reducible exact SeqAt.RcNeAt.list_bool _ p O|with_reducible exact SeqAt.RcNeAt.list_int _ _ p O|with_reducible exact SeqAt.RcNeAt.list_str _ _ p O
   | with_reducible exact SeqAt.RcNeAt.tuple_none p O|with_reducible exact SeqAt.RcNeAt.tuple_bool _ p O|with_reducible exact SeqAt.RcNeAt.tuple_int _ _ p O|with_reducible exact SeqAt.RcNeAt.tuple_str _ _ p O
   | with_reducible exact SeqAt.RcNeAt.list_tuple p p' O|with_reducible exact SeqAt.RcNeAt.tuple_list p p' O
end
section
variable{a:Expr}
noncomputable def h20(K:W.Frag)(neg:Bool):R2:=λx y H Q=>∃B B' dx dy,Rp K H B dx x/\Rp K H B' dy y/\lean dx 50=true/\lean dy 50=true/\Q (.bl (xor neg (deq dx dy))) H
theorem Zp0(hu:X.A.units+64<cLine):OpR X (compareOp .Eq) (h20 X.K false):=by
 intro pins s σ H x y v u Q I rx ry h;obtain⟨B,B',dx,dy,hx,hy,lx,ly,q⟩:=h;exact(gr0 I 50 50 dx dy x y v u X.A (by omega) lx ly hx hy rx ry).1 _ _ _ _ ⟨.bl _,H,I,rfl,by rw[Bool.false_xor] at q;exact q⟩
theorem ud0(hu:X.A.units+64<cLine):OpR X (compareOp .NotEq) (h20 X.K true):=by
 intro pins s σ H x y v u Q I rx ry h;obtain⟨B,B',dx,dy,hx,hy,lx,ly,q⟩:=h;exact(gr0 I 50 50 dx dy x y v u X.A (by omega) lx ly hx hy rx ry).2 _ _ _ _ ⟨.bl _,H,I,rfl,by rw[Bool.true_xor] at q;exact q⟩
theorem Z20:Op2 K (h20 K false) qd0:=by
 intro H B x y dx dy d Q hb rx ry h k;unfold qd0 at h;split at h
 ·rename_i hl
  cases h;exact⟨B,B,dx,dy,rx,ry,hl.1,hl.2,k _ H (Same.refl H) (by rw[Y0,Bool.false_xor])⟩
 ·cases h
theorem v00:Op2 K (h20 K true) J0:=by
 intro H B x y dx dy d Q hb rx ry h k;unfold J0 at h;split at h
 ·rename_i hl
  cases h;exact⟨B,B,dx,dy,rx,ry,hl.1,hl.2,k _ H (Same.refl H) (by rw[Y0,Bool.true_xor])⟩
 ·cases h
theorem c50:Op2 K (λx y H Q=>rI0 (λi j=>.int (i+j)) x y H Q∨(∃i j,x=.str i/\y=.str j/\i.length+j.length<=sizeLine/\Q (.str (i++j)) H)∨cn0 K x y H Q∨cy0 K x y H Q∨gf0 K x y H Q) o8:=by
 intro H B x y dx dy d Q hb rx ry h k;cases dx<;>cases dy<;>simp only[o8] at h<;>try cases h
 ·rw[g8] at rx ry
  subst rx ry;exact .inl ⟨_,_,rfl,rfl,k _ H (Same.refl H) (by rw[g8])⟩
 ·split at h
  ·cases h
   rw[Y6] at rx ry;subst rx ry;exact .inr (.inl ⟨_,_,rfl,rfl,by assumption,k _ H (Same.refl H) (by rw[Y6])⟩)
  ·cases h
 ·split at h
  ·rename_i hz
   cases h;have U:=ry;have S:=rx;rw[T4] at rx ry;obtain⟨a,xs,rfl,q1,r1⟩:=rx;obtain⟨b,ys,rfl,q2,r2⟩:=ry
   by_cases he:xs=[]
   ·subst he
    have e:‹List D›=‹List D›:=rfl;have hn:=r1.length;simp at hn;have O:=E3.mp hn.symm;subst O;exact .inr (.inr (.inr (.inr ⟨a,b,ys,rfl,rfl,q1.to,q2.to,k _ H (Same.refl H) (by rw[List.nil_append];exact U)⟩)))
   ·refine .inr (.inr (.inr (.inl ⟨a,b,xs,ys,rfl,rfl,q1.to,q2.to,he,by rw[r1.length,r2.length];exact hz,λz=>?_,λz p hp=>k _ _ (X7 hp) (sr0 hb hp (r1.append r2))⟩)))
    subst z;have hn:=r2.length;simp at hn;have O:=E3.mp hn.symm;subst O;exact k _ H (Same.refl H) (by rw[List.append_nil];exact S)
  ·cases h
 ·split at h
  ·rename_i hz
   cases h;rw[V7] at rx ry;obtain⟨a,xs,rfl,q1,r1⟩:=rx;obtain⟨b,ys,rfl,q2,r2⟩:=ry;exact .inr (.inr (.inl ⟨a,b,xs,ys,rfl,rfl,q1.to,q2.to,by rw[r1.length,r2.length];exact hz,λp hp=>k _ _ (X7 hp) (u80 hb hp (r1.append r2))⟩))
  ·cases h
theorem j7(ha:PD X a ga)(hb:PD X b gb):PD X (.BinOp a .Add b pos) (o2 ga gb o8):=r00 (Ze0.or (iz0.or (a00.or (ay0.or dm0)))) c50 ha hb
theorem o90{B:BS}(h:Rps K H B ds xs):∀k:Nat,Rps K H B (List.replicate k ds).flatten (List.replicate k xs).flatten
 | 0=>by simp[X6]
 | k+1=>by
  rw[List.replicate_succ,List.replicate_succ,List.flatten_cons,List.flatten_cons];exact h.append (o90 h k)
theorem ew0:Op2 K (λx y H Q=>rI CMul (λi j=>.int (i*j)) x y H Q∨b20 x y H Q∨b80 K x y H Q) R7:=by
 intro H B x y dx dy d Q hb rx ry h k;cases dx<;>cases dy<;>simp only[R7] at h<;>try cases h
 ·split at h
  ·cases h
   rw[g8] at rx ry;subst rx ry;exact .inl ⟨_,_,rfl,rfl,by assumption,k _ H (Same.refl H) (by rw[g8])⟩
  ·cases h
 ·split at h
  ·rename_i hz
   cases h;rw[Y6] at rx;rw[g8] at ry;subst rx ry;exact .inr (.inl ⟨_,_,rfl,rfl,hz.1,hz.2.1,hz.2.2,k _ H (Same.refl H) (by rw[Y6];rfl)⟩)
  ·cases h
 ·split at h
  ·rename_i hz
   cases h;rw[T4] at rx;rw[g8] at ry;subst ry;obtain⟨a,xs,rfl,q1,r1⟩:=rx;refine .inr (.inr ⟨a,xs,_,rfl,rfl,q1.to,λz=>hz.1 ?_,hz.2.1,hz.2.2.1,by rw[r1.length];exact hz.2.2.2,λp hp=>k _ _ (X7 hp) (sr0 hb hp (o90 r1 _))⟩);subst z;have hn:=r1.length;simp at hn;exact E3.mp hn.symm
  ·cases h
theorem xx0(ha:PD X a ga)(hb:PD X b gb):PD X (.BinOp a .Mult b pos) (o2 ga gb R7):=r00 (Zq0.or (a80.or am0)) ew0 ha hb
theorem fk0{xs:List D}(h:sIx xs.length 0 lo=0/\sIx xs.length xs.length hi=xs.length):cutD xs lo hi=xs:=by
 unfold cutD;rw[h.1,h.2];simp
theorem Z9{lo hi:Option Expr}{gl gh:Ds->Option (Option Int)}{p2:Pos}(he:PD X e g)(hl:PDO X lo gl)(hh:PDO X hi gh) :
  PD X (.Subscript e (.Slice lo hi none p2) pos) (d8 g gl gh):=.mk λB δ =>
 (ef0 (Xf0.or (ag0.or (Zy0.or bl0))) (he B δ) (hl B δ) (hh B δ)).imp fun σ H Q ⟨d,en,h,k⟩=>by
  unfold d8 at h;cases e1:g δ with
  | none=>rw[e1] at h;cases h
  | some x =>
   cases e2:gl δ with
   | none=>rw[e1,e2] at h;cases h
   | some l =>
    cases e3:gh δ with
    | none=>rw[e1,e2,e3] at h;cases h
    | some u =>
     rw[e1,e2,e3] at h;simp only[Option.bind_some] at h;refine⟨x,en,e1,λv H1 s1 r1=>⟨l,en.same s1,(by first|exact e2|rfl),λH2 s2=>⟨u,(en.same s1).same s2,(by first|exact e3|rfl),λH3 s3=>?_⟩⟩⟩;have S:=(s1.trans s2).trans s3;have r3:=(r1.same s2).same s3;have hb:=(((en.same s1).same s2).same s3).bad;cases x<;>simp only[slA] at h<;>try cases h
     ·split at h
      ·cases h
       rw[Y6] at r3;exact .inl ⟨_,r3,by assumption,k _ H3 S (by rw[Y6])⟩
      ·cases h
     ·have r4:=r3
      rw[T4] at r3;obtain⟨a,xs,rfl,q,r⟩:=r3;rename_i dxs
      by_cases hw:sIx dxs.length 0 l=0/\sIx dxs.length dxs.length u=dxs.length
      ·refine .inr (.inr (.inr ⟨a,xs,rfl,q.to,by rw[r.length,um0,um0];exact hw,k _ _ S ?_⟩))
       rw[fk0 hw];exact r4
      ·exact .inr (.inr (.inl ⟨a,xs,rfl,q.to,by rw[r.length,um0,um0];exact hw,λp hp=>k _ _ (S.trans (X7 hp)) (sr0 hb hp (i00 r l u))⟩))
     ·rw[V7] at r3
      obtain⟨a,xs,rfl,q,r⟩:=r3;exact .inr (.inl ⟨a,xs,rfl,q.to,λp hp=>k _ _ (S.trans (X7 hp)) (u80 hb hp (i00 r l u))⟩)
theorem qs0:FnR K (λxs H Q=>(∃i,xs=[.int i]/\Q (.int i) H)∨∃k,xs=[.bl k]/\Q (.int (if k then 1 else 0)) H) intOfD:=by
 intro H B xs ds d Q hb r h k;unfold intOfD at h;split at h
 ·cases h
  obtain⟨v,rfl,r1⟩:=z50 r;rw[g8] at r1;subst r1;exact .inl ⟨_,rfl,k _ H (Same.refl H) (by rw[g8])⟩
 ·cases h
  obtain⟨v,rfl,r1⟩:=z50 r;rw[Y0] at r1;subst r1;exact .inr ⟨_,rfl,k _ H (Same.refl H) (by rw[g8])⟩
 ·cases h
theorem Za0:FnR K (λxs H Q=>∃p ys,xs=[.ref p]/\(SqL K H p ys∨SqT K H p ys)/\∀l,H l=none->Q (.ref l) (upd H l (.lst ys))) mc0:=by
 intro H B xs ds d Q hb r h k;unfold mc0 at h;split at h
 ·cases h
  obtain⟨v,rfl,r1⟩:=z50 r;rw[V7] at r1;obtain⟨a,ys,rfl,q,rr⟩:=r1;exact⟨a,ys,rfl,.inl q.to,λl hl=>k _ _ (X7 hl) (u80 hb hl rr)⟩
 ·cases h
  obtain⟨v,rfl,r1⟩:=z50 r;rw[T4] at r1;obtain⟨a,ys,rfl,q,rr⟩:=r1;exact⟨a,ys,rfl,.inr q.to,λl hl=>k _ _ (X7 hl) (u80 hb hl rr)⟩
 ·cases h
end
end DL
namespace SetS
open Spec PyProof.Rows DL
theorem uw0(ys:List Str)(y:Str):Q5 (ys++[y])=ym0 (Q5 ys) y:=by unfold Q5;rw[List.foldl_append];rfl
theorem lw0:∀(n:Nat) (ys:List Str),ys.length=n->(Q5 ys).length<=n
 | 0,ys,h=>by have:=E3.mp h;subst this;exact A1 _
 | n+1,ys,h=>by
  have O:ys≠[]:=λz=>by subst z;simp at h
  rw[← List.dropLast_concat_getLast O,uw0];have ih:=lw0 n ys.dropLast (by rw[List.length_dropLast,h];rfl);unfold ym0;split
  ·omega
  ·rw[List.length_append,List.length_singleton];omega
theorem l80:∀{us:List Value} {ys:List Str} {i:Nat} {v:Value},StrsAre us ys->us[i]?=some v->∃y t,ys[i]?=some y/\v=.str y t
 | _,_,_,_,.nil,h=>by simp at h
 | _,_,0,v,.cons y t r,h=>by simp at h;exact⟨y,t,rfl,h.symm⟩
 | _,_,i+1,v,.cons y t r,h=>by
  obtain⟨y',t',e1,e2⟩:=l80 (i:=i) r (by simpa using h);exact⟨y',t',by simpa using e1,e2⟩
noncomputable def u30(ys:List Str)(k:Str):Bool:=s50 (Q5 ys) k
theorem cf0(ys:List Str)(y k:Str):u30 (ys++[y]) k=(u30 ys k||decide (k=y)):=by
 unfold u30;rw[uw0];unfold ym0
 by_cases h:s50 (Q5 ys) y=true
 ·rw[if_pos h]
  by_cases e:k=y
  ·subst e;rw[h];simp
  ·simp[e]
 ·rw[if_neg h]
  unfold s50;rw[List.any_append]
  by_cases e:k=y
  ·subst e;simp
  ·have:¬y=k:=λz=>e z.symm
   simp[e,this]
theorem es0(ys:List Str)(y:Str):(Q5 (ys++[y])).length=if u30 ys y=true then (Q5 ys).length else (Q5 ys).length+1:=by
 rw[uw0];unfold ym0 u30;split<;>simp
section
variable{w:World}{wr:List Addr}{G:Array GenState->Array GenState->Prop}{P:Nat->Value->Prop}{St:Nat->Shared->Prop}
theorem fill(ys:List Str)(W:WalksS prog w A.in1 I fp wr G ys.length P St)(C:Addr)(hC:C∉fp)(hv:∀i v,P i v->∃y t,ys[i]?=some y/\v=.str y t)(hb:ys.length+1<scanBound) :
  ∀(k i:Nat) (s:Shared),ys.length - i=k->i<=ys.length->St i s->s.heap.SetOf (strKind prog w) C (u30 (ys.take i)) (Q5 (ys.take i)).length ->
   (∀s',Moved (C::wr) G s s'->s'.heap.SetOf (strKind prog w) C (u30 ys) (Q5 ys).length->R (.ok (.ret .none)) s') ->
   codeAny (model prog w) A (.builtin "set.update.loop" ⟨[.ref C,.ref I],[]⟩) R s:=by
 have a4:C∉wr:=λh=>hC (W.sub _ h)
 have sub:∀b∈wr,b∈C::wr:=λb z=>A7 _ z
 have O:∀{s s':Shared} {S:Str->Bool} {n:Nat},Moved wr G s s'->s.heap.SetOf (strKind prog w) C S n->s'.heap.SetOf (strKind prog w) C S n:=λ{s s' S n} m h=>by
  obtain⟨o,es,ep,tb,e,rest⟩:=h;exact⟨o,es,ep,tb,m.heap C _ a4 e,rest⟩
 intro k
 induction k with
 | zero =>
  intro i s hk hi st hS hR;obtain rfl:i=ys.length:=by omega
  rw[List.take_length] at hS;refine N3 Aq0 (by
   rw[Around.under_plainId i8 _];exact A0 (W.done s _ _ st λs' m=>A3 (hR s' (m.mono sub) (O m hS))))
 | succ k ih =>
  intro i s hk hi st hS hR;have lt:i<ys.length:=by omega
  refine N3 Aq0 (by
   rw[Around.under_plainId i8 _];refine A0 (W.item i s _ _ lt st λv s' hP a5 m=>?_);obtain⟨y,t,ey,rfl⟩:=hv i v hP;have a1:=O m hS;show wpAny _ A.in1 (holding [Value.str y t] (setAdd C (.str y t))>>=_) _ _ s';refine A0 (E7 (by
    unfold setAdd;refine E7 (A0 ((strKind prog w).pyHash (k:=y) (by exact E4 rfl) ?_));have Y:(Q5 (ys.take i)).length+1<scanBound:=by
     have:=lw0 _ (ys.take i) rfl;rw[List.length_take] at this;omega
    refine wpAny_setAddHashed_of (knd:=strKind prog w) (s:={ s' with toks:=s'.toks+1 }) (k:=y) (by exact E4 rfl) rfl a1 Y λh' U a0=>?_
    have tk:ys.take (i+1)=ys.take i++[y]:=by
     rw[List.take_add_one,ey];rfl
    have a2:h'.SetOf (strKind prog w) C (u30 (ys.take (i+1))) (Q5 (ys.take (i+1))).length:=Ar0 a0 (λk'=>by rw[tk,cf0]) (by rw[tk,es0]);refine A3 ⟨plainId_quiet i8 _,ih (i+1) _ (by omega) lt (W.frame _ s' _ _ a5 (P8 _) λb hb o e=>?_) a2 λZ m2 a3=>?_⟩
    ·rw[U.2 b (λz:b=C=>hC (by rw[← z];exact hb))];exact e
    ·refine hR Z (Moved.trans W.gtrans ((m.mono sub).then_heap (P8 _) λb o hb e=>?_) m2) a3
     rw[U.2 b (λz:b=C=>hb (by rw[z];exact A5))];exact e)))
end
section
variable{w:World}{s:Shared}
abbrev v20(led:Bool):Obj:={ cls:=.type "set",dict:=none,data:=.set #[] 0 (.fresh 0 0 led) }
set_option maxHeartbeats 3200000 in
theorem o10{p:Addr}{its:Array Value}{ys:List Str}{Q:Value->Shared->Prop}(hh:A.handled=none)(hp:s.heap.IsList p its)(hy:StrsAre its.toList ys)(hb:ys.length+1<scanBound)
  (h:∀(h':Heap) (tk:Nat),h'.SetOf (strKind prog w) s.heap.objs.size (u30 ys) (Q5 ys).length->(∀b o,b<s.heap.objs.size->s.heap.get? b=some o->h'.get? b=some o)->Q (.ref s.heap.objs.size) { s with heap:=h',toks:=tk }) :
  wpAny (model prog w) A (call (.type "set") [.ref p]) Q E s:=by
 have a0:ys.length=its.size:=by rw[← hy.length];simp
 obtain⟨c0,b1,mro⟩:=PySem.F.called_set.mro;have made:=PySem.F.called_set.made;have a9:=PySem.F.called_set.sub;refine wpAny_call (codeAny_of_tree (by
  show wpAny _ _ (callAny (.type "set") _) _ _ _;refine A3 ⟨Code.quiet_builtin _ (by decide +kernel),N3 PySem.F.entry_type_call (by
   rw[Around.under_plain (weight_type_call_type "set" [.ref p] []) rfl];have n1:=PySem.F.called_set.notType;have n2:=PySem.F.called_set.canCreate;have ct:=PySem.F.typeCall_set_1 (.ref p)
   repeat (any_goals (first|assumption|wp_step))
   refine E9 (code_set_new_1 (.ref p) (E:=E) (Q₁:=λob s1=>∃O:Bool,ob=.ref s.heap.objs.size/\s1={ s with heap:=s.heap.push (v20 O) }) λO=>⟨O,rfl,rfl⟩) λr1 s1 hr=>?_
   cases r1 with
   | error e=>exact hr
   | ok f1 =>
    cases f1 with
    | ret ob =>
     obtain⟨O,rfl,rfl⟩:=hr;have gC:(s.heap.push (v20 O)).get? s.heap.objs.size=some (v20 O):=C6 _ rfl;have tC:Shared.TypeIs { s with heap:=s.heap.push (v20 O) } (.ref s.heap.objs.size) "set" := ⟨_,gC,rfl⟩;have li:=PySem.F.called_set.init.lookup;have bi:=PySem.F.called_set.init.bind (.ref s.heap.objs.size)
     repeat (any_goals (first|assumption|wp_step))
     refine E9 (S4 (R:=wants (λr s2=>r=.none/\∃h' tk,s2={ s with heap:=h',toks:=tk }/\h'.SetOf (strKind prog w) s.heap.objs.size (u30 ys) (Q5 ys).length /\
       (∀b o,b<s.heap.objs.size->s.heap.get? b=some o->h'.get? b=some o)) E) PySem.F.called_set.init.plain PySem.F.entry_set_init (check_set_init_1 tC ?_)) λr2 s2 U=>?_
     ·obtain⟨op,gp,kp,np,dp⟩:=hp
      obtain⟨pc,pd,b0,ps⟩:=op;simp only at kp dp;subst kp;subst dp;have a8:(s.heap.push (v20 O)).get? p=some { cls:=.type "list",dict:=pd,data:=.seq its np,slots:=ps }:=B0 _ gp;have s1:=PySem.F.sub_list_set;have s2:=PySem.F.sub_list_frozenset;have ne:(Value.type "list"==Value.type "dict")=false:=by decide
      have Y:(s.heap.push (v20 O)).IsList p its:=⟨_,a8,rfl,np,rfl⟩;unfold Builtin.«set.__init__» noKeywords Builtin.Frozenset.updateFrom;generalize hPI:pyIter=PI
      wp_walk
      subst hPI;have Z:p<s.heap.objs.size:=A4 gp;have a3:A.in1.in1.in1.handled=none:=by simp[hh]
      have a7:p≠(s.heap.push (v20 O)).objs.size:=by rw[Heap.size_push];exact B6 (P9 Z)
      have a1:s.heap.objs.size∉[(s.heap.push (v20 O)).objs.size,p]:=by
       rw[Heap.size_push];simp only[List.mem_cons,List.mem_singleton,List.not_mem_nil,or_false,not_or];exact⟨B6 (Nat.lt_succ_self _),D8 Z⟩
      have vals:∀(i:Nat) (v:Value),its[i]?=some v->∃y t,ys[i]?=some y/\v=.str y t:=λi v hv=>by
       have a2:its.toList[i]?=some v:=by rw[Array.getElem?_toList];exact hv
       exact l80 hy a2
      have Wk:=(Walks.list a3 (s.heap.push (v20 O)).objs.size p a7 its).toS (prog:=prog) (w:=w);rw[← a0] at Wk;refine X2 Y (A0 (wpAny_runValue (fill ys Wk s.heap.objs.size a1 vals hb (ys.length - 0) 0 _ (by omega) (C3 _) ⟨⟨_,C6 _ rfl,rfl,rfl⟩,(Y.push _)⟩ ?c1 ?c2)))
      case c1 =>
       have g0:((s.heap.push (v20 O)).push { cls:=.type "list_iterator",data:=.fields #[.ref p,.int 0 0] }).get? s.heap.objs.size=some (v20 O):=B0 _ gC;exact Ar0 ((PyProof.Rows.setObjOf_fresh (knd:=strKind prog w) O).setOf g0 (by unfold scanBound;omega)) (λ_=>rfl) rfl
      case c2 =>
       intro s' m S;obtain⟨h',g',d',a4,a5⟩:=s';obtain rfl:g'=s.gens:=m.gens;obtain rfl:d'=s.drawn:=m.drawn;obtain rfl:a5=s.os:=m.os;show wpAny _ _ _ _ _ _;refine A3 (A3 ⟨rfl,h',a4,rfl,S,λb o hb e=>?_⟩);refine m.heap b o ?_ (B0 _ (B0 _ e));simp only[List.mem_cons,List.mem_singleton,List.not_mem_nil,or_false,not_or];exact⟨B6 hb,by rw[Heap.size_push];exact B6 (P9 hb)⟩
     ·cases r2 with
      | error e=>exact U
      | ok f2 =>
       cases f2 with
       | ret r =>
        obtain⟨rfl,h',tk,rfl,S,a6⟩:=U
        repeat (any_goals (first|assumption|wp_step))
        exact h _ _ S a6
       | _=>exact U.elim
    | _=>exact hr.elim)⟩))
end
end SetS
namespace DL
open Spec PyProof.Rows L2
section
variable{a:Expr}
theorem gd0(hc:X.calm=true)(hl:X.mg "len"=none)(hs:X.mg "set"=none)(he:PE X e te)(bs:bootBuiltins "set"=some (.type "set"))(hgl:Gl X "len" := by rfl)(hgs:Gl X "set" := by rfl)
  (e1:starEach [.Call (.Name "set" p2) [e] [] pos2] X.env=(false,eval (.Call (.Name "set" p2) [e] [] pos2) X.env)::starEach [] X.env:=by rfl) (e2:starEach [e] X.env=(false,eval e X.env)::starEach [] X.env:=by rfl)
  (h1:(backTo pos (starEach [] X.env)).any (·.1)=false:=by rfl) (h2:(backTo pos2 (starEach [] X.env)).any (·.1)=false:=by rfl) :
  PE X (.Call (.Name "len" p) [.Call (.Name "set" p2) [e] [] pos2] [] pos) (fun σ H Q=>te σ H λv H'=>∃q ys,v=.ref q/\SqL X.K H' q (ys.map V.str)/\ys.length<=4000/\Q (.int (Q5 ys).length) H'):=by
 intro pins s σ H Q I h;refine G0 (vc0 I hgl hl PySem.boot_len ?_ (by decide) (by decide));refine v0 ?_ e1 h1;rw[e1];show wpAny _ _ (spliced ((false,eval (.Call (.Name "set" p2) [e] [] pos2) X.env)::backTo pos (starEach [] X.env))) _ _ s;refine P3 ?_;refine G0 (vc0 I hgs hs bs ?_ (by decide) (by decide));refine X9 ?_ e2 h2;rw[e2];show wpAny _ _ (spliced ((false,eval e X.env)::backTo pos2 (starEach [] X.env))) _ _ s;refine P3 (thn (he pins s σ H _ I h) λu s1 ⟨v,H1,I1,r1,q,ys,ev,hq,hy,k⟩=>P2 ?_);subst ev;obtain rfl:u=Value.ref q:=r1;obtain⟨its,rv,pl,_⟩:=I1.list hq;refine SetS.o10 (I1.ok.hd hc) pl.isList (by simpa using q60 rv) (by show ys.length+1<4096;omega) λh' tk hS hk=>P2 ?_
 obtain⟨o,U,ep,t,ho,O,hd,Y,S,hb,hf,hn⟩:=hS;refine PySem.call_len_set (s:={ s1 with heap:=h',toks:=tk }) ho O hd hf (by
  have:=hb;have z:scanBound=4096:=rfl;omega) ?_
 rw[hn];have I2:Inv X pins σ H1 { s1 with heap:=h',toks:=tk+1+1 }:=I1.kept λb o e=>hk b o (A4 e) e
 exact⟨.int _,H1,I2,⟨_,rfl⟩,k⟩
theorem b_set:bootBuiltins "set"=some (.type "set"):=by decide +kernel
theorem on0(hl:X.mg "len"=none)(hs:X.mg "set"=none)(he:PD X e g)(hc:X.calm=true:=by rfl)(hgl:Gl X "len" := by rfl)(hgs:Gl X "set" := by rfl)
  (e1:starEach [.Call (.Name "set" p2) [e] [] pos2] X.env=(false,eval (.Call (.Name "set" p2) [e] [] pos2) X.env)::starEach [] X.env:=by rfl) (e2:starEach [e] X.env=(false,eval e X.env)::starEach [] X.env:=by rfl)
  (h1:(backTo pos (starEach [] X.env)).any (·.1)=false:=by rfl) (h2:(backTo pos2 (starEach [] X.env)).any (·.1)=false:=by rfl) :
  PD X (.Call (.Name "len" p) [.Call (.Name "set" p2) [e] [] pos2] [] pos) (oA (z7 g z9) wy0):=.mk λB δ =>
 (gd0 hc hl hs (he B δ) b_set hgl hgs e1 e2 h1 h2).imp fun σ H Q ⟨d,en,h,k⟩=>by
  unfold oA z7 z9 at h;cases e3:g δ with
  | none=>rw[e3] at h;cases h
  | some x =>
   rw[e3] at h;simp only[Option.bind_some,Option.map_some] at h;unfold wy0 at h;cases x<;>try cases h
   rename_i ds;dsimp only at h;cases e4:u20 ds with
   | none=>rw[e4] at h;cases h
   | some ys =>
    rw[e4] at h;simp only[Option.bind_some] at h;split at h
    ·rename_i hz
     cases h;refine⟨_,en,e3,λv H' s r=>?_⟩;rw[V7] at r;obtain⟨q,xs,rfl,hq,rr⟩:=r;have:=qb0 rr e4;subst this;exact⟨q,ys,rfl,hq.to,hz,k _ H' s (by rw[g8])⟩
    ·cases h
end
end DL
namespace DL
open Spec PyProof.Rows
theorem qw0{gA:GA}(h:gA δ=some ds)(hl:ds.length<=sizeLine):W5 gA δ=some (.tup ds):=by
 unfold W5;rw[h,Option.bind_some,if_pos hl]
theorem sb0{gA:GA}(h:gA δ=some ds)(hl:ds.length<=sizeLine):j4 gA δ=some (.lst ds):=by
 unfold j4;rw[h,Option.bind_some,if_pos hl]
theorem av0{n:Int}{d:D}(h:d∈yn0 0 n):∃k:Nat,(k:Int)<n/\d=.int (k:Int):=by
 obtain⟨k,hk,rfl⟩:=A6.mp h;have:=B4.mp hk;exact⟨k,by omega,by rw[Int.zero_add]⟩
theorem a70(f:D->α)(n:Int):(yn0 0 n).map f=(List.range n.toNat).map λ(k:Nat)=>f (.int (k:Int)):=by
 unfold yn0;rw[List.map_map];have:n - 0=n:=by omega
 rw[this];refine L3 λk _=>?_
 show f (.int (0+(k:Int)))=_;rw[Int.zero_add]
theorem o80(n:Int):(yn0 0 n).length=n.toNat:=by unfold yn0;simp
theorem pu0(f:Nat->α)(n j:Nat)(d:α)(h:j<n):((List.range n).map f).getD j d=f j:=by
 simp[List.getD_eq_getElem?_getD,h]
theorem q00{gt:GB}{ge:GE}{n:Int}(h:Nat->D)(H:∀k:Nat,(k:Int)<n->∃δ',gN 0 (.int (k:Int)) δ=some δ'/\gt δ'=some true/\ge δ'=some (h k)) :
  K7 (gN 0) gt ge δ (yn0 0 n)=some ((List.range n.toNat).map h):=by
 rw[M7 (λd=>match d with|.int j=>h j.toNat|_=>.non) (λd hd=>by
  obtain⟨k,hk,rfl⟩:=av0 hd;exact H k hk),a70]
 rfl
end DL
namespace DL
noncomputable def j8(g:GE)(gA:GA)(f:D->List D->Option D):GE:=fun δ=>(g δ).bind λd=>(gA δ).bind λds=>f d ds
theorem sq0{g:GE}{gA:GA}{f:D->List D->Option D}{d:D}(h1:g δ=some d)(h2:gA δ=some ds):j8 g gA f δ=f d ds:=by
 unfold j8;rw[h1,h2];rfl
noncomputable def K1:D->List D->Option D
 | .str a,[.str b]=>some (.bl (Txt.startswith a b))
 | _,_=>none
noncomputable def w90:D->List D->Option D
 | .str a,[.str b]=>some (.bl (Txt.endswith a b))
 | _,_=>none
noncomputable def Q7:D->List D->Option D
 | .str a,[.str b]=>if (b.length==0)=false/\a.length+2<=sizeLine/\(Txt.split a b).length<=sizeLine then some (.lst ((Txt.split a b).map .str)) else none
 | _,_=>none
noncomputable def wr0:D->List D->Option D
 | .str a,[.str b]=>if (b.length==0)=false/\a.length<=sizeLine then some (.tup [.str (Txt.partition a b).1,.str (Txt.partition a b).2.1,.str (Txt.partition a b).2.2]) else none
 | _,_=>none
noncomputable def sz0:List D->Option D
 | [.str a]=>if a.length<=640 then (PySem.intText? a).map .int else none
 | _=>none
theorem pz0{gA:GA}{n:Int}(h:gA δ=some [.int n])(h1:-(2 ^ 62)<=n)(h2:n<2 ^ 62):za0 gA δ=some (yn0 0 n):=by
 unfold za0;rw[h,Option.bind_some];simp only[g00];rw[if_pos ⟨h1,h2⟩]
theorem Ym0{g:GE}(h:g δ=some (.lst ds)):oA (z7 g z9) b7 δ=some (.int (ds.length:Int)):=by
 rw[X5 (cons_of h rfl)];rfl
end DL
namespace DL
open Spec PyProof.Rows L2
section
variable{a:Expr}
theorem g80{B:BS}{d:D}{v:V}(h:flat d=true)(r:Rp K H B d v):w60 v=true/\∀e u,flat e=true->Rp K H B e u->eqV v u=eqF d e:=by
 cases d<;>simp[flat] at h
 ·rw[R5] at r;subst r
  refine⟨rfl,λe u he ru=>?_⟩;cases e<;>simp[flat] at he<;>simp only[R5,Y0,g8,Y6] at ru<;>subst ru<;>rfl
 ·rw[Y0] at r;subst r
  refine⟨rfl,λe u he ru=>?_⟩;cases e<;>simp[flat] at he<;>simp only[R5,Y0,g8,Y6] at ru<;>subst ru<;>rfl
 ·rw[g8] at r;subst r
  refine⟨rfl,λe u he ru=>?_⟩;cases e<;>simp[flat] at he<;>simp only[R5,Y0,g8,Y6] at ru<;>subst ru<;>rfl
 ·rw[Y6] at r;subst r
  refine⟨rfl,λe u he ru=>?_⟩;cases e<;>simp[flat] at he<;>simp only[R5,Y0,g8,Y6] at ru<;>subst ru<;>rfl
theorem fw0{B:BS}{d:D}{v:V}(h:flat d=true)(r:Rp K H B d v):∀{ds:List D} {xs:List V},ds.all flat=true->Rps K H B ds xs->xs.all w60=true/\inV v xs=ds.any λy=>eqF y d
 | [],_,_,rs=>by rw[X6] at rs;subst rs;exact⟨rfl,rfl⟩
 | e::ds,_,ha,rs=>by
  rw[Y4] at rs;obtain⟨x,t,rfl,r1,r2⟩:=rs;rw[List.all_cons,Bool.and_eq_true] at ha;obtain⟨i1,i2⟩:=fw0 h r ha.2 r2;obtain⟨f1,f2⟩:=g80 ha.1 r1;refine⟨by rw[List.all_cons,f1,i1];rfl,?_⟩;unfold inV at i2 ⊢;rw[List.any_cons,List.any_cons,f2 d v h r,i2]
theorem ee0(neg:Bool):Op2 K (rIn K neg) (vl0 neg):=by
 intro H B x y dx dy d Q hb rx ry h k;have O:∀(ds:List D) (xs:List V),Rps K H B ds xs->flat dx=true/\ds.all flat=true->d=.bl (xor neg (ds.any λy=>eqF y dx))->∀p,y=.ref p->(SqL K H p xs∨SqT K H p xs)->rIn K neg x y H Q:=by
  intro ds xs rs hf hd p hp hq;obtain⟨f1,f2⟩:=fw0 hf.1 rx hf.2 rs;refine⟨p,xs,hp,hq,(g80 hf.1 rx).1,f1,k _ H (Same.refl H) ?_⟩;rw[hd,Y0,f2];cases neg<;>simp
 cases dy<;>simp only[vl0] at h<;>try cases h
 ·split at h
  ·rename_i hf
   have hd:=(B2 h).symm;rw[T4] at ry;obtain⟨p,xs,e,q,rs⟩:=ry;exact O _ xs rs hf hd p e (.inr q.to)
  ·cases h
 ·split at h
  ·rename_i hf
   have hd:=(B2 h).symm;rw[V7] at ry;obtain⟨p,xs,e,q,rs⟩:=ry;exact O _ xs rs hf hd p e (.inl q.to)
  ·cases h
end
end DL
namespace TxtL
open Spec PyProof.Rows Builtin Builtin.Str
section
variable{w:World}{s:Shared}{x y:PySem.Str}{t u:Tok}
theorem h00(hy:(y.length==0)=false)(hz:x.length+2<=sizeLine)
  (hq:∀(l:List (PySem.Str×Tok)) (k:Nat),l.map (·.1)=Txt.split x y->Q (.ref s.heap.objs.size) { s with heap:=s.heap.push { cls:=.type "list",data:=.seq (strValues l).toArray },toks:=k }) :
  wpAny (model prog w) A (call (.builtin "str.split") [.str x t,.str y u]) Q E s:=by
 have U:x.length<=sizeLine:=by omega
 have S:(partsBetween x (occurrences x y 0 x.length (x.length+1)) y.length).length<=sizeLine:=by
  rw[StrLaws.partsBetween_eq];have hp:∀(O:List Nat) (a:Nat),(StrLaws.partsFrom x y.length a O).length=O.length+1:=by
   intro O
   induction O with
   | nil=>intro a;rfl
   | cons c r ih=>intro a;show (StrLaws.partsFrom x y.length (c+y.length) r).length+1=_;rw[ih];rfl
  rw[hp];have:=StrLaws.occ_length_le x y 0 x.length (x.length+1);omega
 cases h1:(decide (x.length<y.length)||decide (strKind x<strKind y))
 ·cases hf:(occurrences x y 0 x.length (x.length+1)).isEmpty
  ·refine D0 D7 (C9 _ _ _) i9 (j0 _ _) (meets_str_split_sep x y t u h1 hy hf U S) ?_
   show wants Q E _ { s with toks:=_,heap:=s.heap.push { cls:=.type "list",data:=.seq (strsFrom s.toks (partsBetween x (occurrences x y 0 x.length (x.length+1)) y.length)).toArray } };rw[strsFrom_eq];exact hq (numbered s.toks _) _ ((numbered_texts _ _).trans ((if_neg (j3 h1)).trans (if_neg (j3 hf))).symm)
  ·exact D0 D7 (C9 _ _ _) i9 (j0 _ _) (meets_str_split_not_found x y t u h1 hy hf)
    (hq [(x,t)] s.toks ((if_neg (j3 h1)).trans (if_pos hf)).symm)
 ·exact D0 D7 (C9 _ _ _) i9 (j0 _ _) (meets_str_split_cannot_occur x y t u h1)
   (hq [(x,t)] s.toks (if_pos h1).symm)
theorem e80(hy:(y.length==0)=false)(hz:x.length<=sizeLine)
  (h:∀ta tb tc k,Q (.ref s.heap.objs.size) { s with heap:=s.heap.push { cls:=.type "tuple",data:=.seq #[.str (Txt.partition x y).1 ta,.str (Txt.partition x y).2.1 tb,.str (Txt.partition x y).2.2 tc] },toks:=k }) :
  wpAny (model prog w) A (call (.builtin "str.partition") [.str x t,.str y u]) Q E s:=by
 refine D0 F.slot_str_partition (C9 _ _ _) F.entry_str_partition (F.args_str_partition_2 _ _) (meets_str_partition x y t u hy hz) ?_;have h':=h;unfold Txt.partition at h'
 revert h'
 cases occurrences x y 0 x.length 1 with
 | nil=>intro h';exact h' _ _ _ _
 | cons i r=>intro h';exact h' _ _ _ _
end
end TxtL
namespace L2
open Spec PyProof.Rows
theorem wd0:MtR X "str.startswith" (λx xs H Q=>∃a b:PySem.Str,x=.str a/\xs=[.str b]/\Q (.bl (Txt.startswith a b)) H):=by
 intro pins s σ H x xs v us Q I rx rs h;obtain⟨a,b,rfl,rfl,q⟩:=h;obtain⟨t,rfl⟩:=rx;cases rs with
 | cons r rr =>
  cases rr;obtain⟨u,rfl⟩:=r;exact SC.startswith ⟨.bl _,H,I,rfl,q⟩
theorem pr0:MtR X "str.endswith" (λx xs H Q=>∃a b:PySem.Str,x=.str a/\xs=[.str b]/\Q (.bl (Txt.endswith a b)) H):=by
 intro pins s σ H x xs v us Q I rx rs h;obtain⟨a,b,rfl,rfl,q⟩:=h;obtain⟨t,rfl⟩:=rx;cases rs with
 | cons r rr =>
  cases rr;obtain⟨u,rfl⟩:=r;exact SC.endswith ⟨.bl _,H,I,rfl,q⟩
theorem nj0:∀l:List (PySem.Str×Tok),Vals ((l.map (·.1)).map V.str) (strValues l)
 | []=>.nil
 | p::l=>.cons ⟨p.2,rfl⟩ (nj0 l)
theorem xt0:MtR X "str.split" (λx xs H Q=>∃a b:PySem.Str,x=.str a/\xs=[.str b]/\(b.length==0)=false/\a.length+2<=sizeLine/\(Txt.split a b).length<=sizeLine/\∀l,H l=none->Q (.ref l) (upd H l (.lst ((Txt.split a b).map V.str)))):=by
 intro pins s σ H x xs v us Q I rx rs h;obtain⟨a,b,rfl,rfl,hb,hz,hl,q⟩:=h;obtain⟨t,rfl⟩:=rx;cases rs with
 | cons r rr =>
  cases rr;obtain⟨u,rfl⟩:=r;refine TxtL.h00 hb hz λl k e=>?_
  have hf:H s.heap.objs.size=none:=I.hok.fresh (A1 _);refine⟨.ref s.heap.objs.size,_,I.laid (a:=s.heap.objs.size) (o:=.lst ((Txt.split a b).map V.str)) (t':=k) (λ_ _ q=>B0 _ q) (A1 _) ⟨by rw[List.length_map];exact hl,strValues l,0,by rw[← e];exact nj0 l,C6 _ rfl⟩,rfl,q _ hf⟩
theorem jo0:MtR X "str.partition" (λx xs H Q=>∃a b:PySem.Str,x=.str a/\xs=[.str b]/\(b.length==0)=false/\a.length<=sizeLine/\∀l,H l=none->Q (.ref l) (upd H l (.tup [.str (Txt.partition a b).1,.str (Txt.partition a b).2.1,.str (Txt.partition a b).2.2]))):=by
 intro pins s σ H x xs v us Q I rx rs h;obtain⟨a,b,rfl,rfl,hb,hz,q⟩:=h;obtain⟨t,rfl⟩:=rx;cases rs with
 | cons r rr =>
  cases rr;obtain⟨u,rfl⟩:=r;refine TxtL.e80 hb hz λta tb tc k=>?_
  have hf:H s.heap.objs.size=none:=I.hok.fresh (A1 _);refine⟨.ref s.heap.objs.size,_,I.laid (a:=s.heap.objs.size) (o:=.tup [.str (Txt.partition a b).1,.str (Txt.partition a b).2.1,.str (Txt.partition a b).2.2]) (t':=k) (λ_ _ q=>B0 _ q) (A1 _)
   ⟨(by show 3<=sizeLine;decide),[.str (Txt.partition a b).1 ta,.str (Txt.partition a b).2.1 tb,.str (Txt.partition a b).2.2 tc],.cons ⟨_,rfl⟩ (.cons ⟨_,rfl⟩ (.cons ⟨_,rfl⟩ .nil)),⟨_,C6 _ rfl,rfl,_,rfl,rfl⟩⟩,rfl,q _ hf⟩
theorem te0:CallR X (.type "int") (λxs H Q=>∃(a:PySem.Str) (n:Int),xs=[.str a]/\PySem.intText? a=some n/\a.length<=640/\Q (.int n) H):=by
 intro pins s σ H xs us Q I rs h;obtain⟨a,n,rfl,hn,hl,q⟩:=h;cases rs with
 | cons r rr =>
  cases rr;obtain⟨u,rfl⟩:=r;exact W.KIN.call_text hn hl ⟨.int n,H,I.tok _,⟨_,rfl⟩,q⟩
end L2
namespace DL
open Spec PyProof.Rows L2
section
variable{name:PySem.Str}{id:String}{r:V->List V->Hp->VK->Prop}{f:D->List D->Option D}
noncomputable def MfR(K:W.Frag)(r:V->List V->Hp->VK->Prop)(f:D->List D->Option D):Prop:=∀(H:Hp) (B:BS) (dx:D) (xs:List V) (ds:List D) (d:D) (Q:VK),(∀a,B a->H a≠none)->Rps K H B ds xs->f dx ds=some d->(∀v H',Same H H'->Rp K H' B d v->Q v H')->∃a,dx=.str a/\r (.str a) xs H Q
theorem U9(slot:Slot "str" name id)(hty:typeOf (.builtin id)=pure (.type "method_descriptor"))(hm:MtR X id r)(hf:MfR X.K r f)(hstr:∀d ds e,f d ds=some e->∃a,d=.str a)(ho:PD X o g)(ha:PDA X [e] gA)(hbase:attributeBase o name X.env (eval o X.env)=eval o X.env:=by rfl)
  (hfew:((backTo cpos (starEach [e] X.env)).all (λx=>!x.1)&&(backToKw cpos (keywordEach [] X.env)).all (λx=>x.1.isSome)
  &&decide ([e].length+([]:List Keyword).length+(if ([]:List Keyword).isEmpty then 0 else 1)<30))=true:=by rfl)
  (hline:(apos.endLine==cpos.line)=true:=by rfl) (hs:starEach [e] X.env=(false,eval e X.env)::starEach [] X.env:=by rfl) (hplain:(backTo cpos (starEach [] X.env)).any (·.1)=false:=by rfl) :
  PD X (.Call (.Attribute o name apos) [e] [] cpos) (j8 g gA f):=.mk λB δ =>
 (p90 i7 slot hty hm (ho B δ) (ha B δ) hbase hfew hline hs hplain).imp fun σ H Q ⟨d,en,h,k⟩=>by
  unfold j8 at h;cases e1:g δ with
  | none=>rw[e1] at h;cases h
  | some x =>
   cases e2:gA δ with
   | none=>rw[e1,e2] at h;cases h
   | some ds =>
    rw[e1,e2] at h;simp only[Option.bind_some] at h;obtain⟨a,rfl⟩:=hstr x ds d h;refine⟨_,en,e1,λv H1 s1 r1=>?_⟩;rw[Y6] at r1;subst r1;refine⟨rfl,_,en.same s1,e2,λvs H2 s2 r2=>?_⟩;obtain⟨a',e',q⟩:=hf H2 B (.str a) vs ds d Q ((en.same s1).same s2).bad r2 h λv H' s' r'=>k v H' ((s1.trans s2).trans s') r'
    cases e';exact q
theorem xi0{B:BS}{y:PySem.Str}(r:Rps K H B [.str y] xs):xs=[.str y]:=by
 rw[Y4] at r;obtain⟨x,t,rfl,r1,r2⟩:=r;rw[X6] at r2;rw[Y6] at r1;rw[r1,r2]
theorem wa0:MfR K (λx xs H Q=>∃a b:PySem.Str,x=.str a/\xs=[.str b]/\Q (.bl (Txt.startswith a b)) H) K1:=by
 intro H B dx xs ds d Q bad r h k;unfold K1 at h;split at h<;>try cases h
 exact⟨_,rfl,_,_,rfl,xi0 r,k _ H (Same.refl H) (by rw[Y0])⟩
theorem o40:MfR K (λx xs H Q=>∃a b:PySem.Str,x=.str a/\xs=[.str b]/\Q (.bl (Txt.endswith a b)) H) w90:=by
 intro H B dx xs ds d Q bad r h k;unfold w90 at h;split at h<;>try cases h
 exact⟨_,rfl,_,_,rfl,xi0 r,k _ H (Same.refl H) (by rw[Y0])⟩
theorem t50{B:BS}:∀l:List PySem.Str,Rps K H B (l.map D.str) (l.map V.str)
 | []=>by simp[X6]
 | x::l=>by rw[List.map_cons,List.map_cons,Y4];exact⟨_,_,rfl,by rw[Y6],t50 l⟩
theorem ve0:MfR K (λx xs H Q=>∃a b:PySem.Str,x=.str a/\xs=[.str b]/\(b.length==0)=false/\a.length+2<=sizeLine/\(Txt.split a b).length<=sizeLine/\∀l,H l=none->Q (.ref l) (upd H l (.lst ((Txt.split a b).map V.str)))) Q7:=by
 intro H B dx xs ds d Q bad r h k;unfold Q7 at h;split at h<;>try cases h
 split at h<;>try cases h
 rename_i a b hc;refine⟨_,rfl,_,_,rfl,xi0 r,hc.1,hc.2.1,hc.2.2,λl hl=>k _ _ (X7 hl) ?_⟩;rw[V7];exact⟨l,_,rfl,.inl ⟨λz=>bad l z hl,.inl V1⟩,t50 _⟩
theorem i50:MfR K (λx xs H Q=>∃a b:PySem.Str,x=.str a/\xs=[.str b]/\(b.length==0)=false/\a.length<=sizeLine/\∀l,H l=none->Q (.ref l) (upd H l (.tup [.str (Txt.partition a b).1,.str (Txt.partition a b).2.1,.str (Txt.partition a b).2.2]))) wr0:=by
 intro H B dx xs ds d Q bad r h k;unfold wr0 at h;split at h<;>try cases h
 split at h<;>try cases h
 rename_i a b hc;refine⟨_,rfl,_,_,rfl,xi0 r,hc.1,hc.2,λl hl=>k _ _ (X7 hl) ?_⟩;rw[T4];exact⟨l,_,rfl,⟨λz=>bad l z hl,V1⟩,t50 [_,_,_]⟩
theorem xa0(d:D)(ds:List D)(e:D)(h:K1 d ds=some e):∃a,d=.str a:=by
 unfold K1 at h;split at h<;>try cases h
 exact⟨_,rfl⟩
theorem rw0(d:D)(ds:List D)(e:D)(h:w90 d ds=some e):∃a,d=.str a:=by
 unfold w90 at h;split at h<;>try cases h
 exact⟨_,rfl⟩
theorem yq0(d:D)(ds:List D)(e:D)(h:Q7 d ds=some e):∃a,d=.str a:=by
 unfold Q7 at h;split at h<;>try cases h
 exact⟨_,rfl⟩
theorem l90(d:D)(ds:List D)(e:D)(h:wr0 d ds=some e):∃a,d=.str a:=by
 unfold wr0 at h;split at h<;>try cases h
 exact⟨_,rfl⟩
theorem i60:FnR K (λxs H Q=>∃(a:PySem.Str) (n:Int),xs=[.str a]/\PySem.intText? a=some n/\a.length<=640/\Q (.int n) H) sz0:=by
 intro H B xs ds d Q bad r h k;unfold sz0 at h;split at h<;>try cases h
 rename_i a;split at h<;>try cases h
 rename_i hl;cases e:PySem.intText? a with
 | none=>rw[e] at h;cases h
 | some n =>
  rw[e] at h;cases h;exact⟨a,n,xi0 r,e,hl,k _ H (Same.refl H) (by rw[g8])⟩
end
@[simp] noncomputable def tn0(ga gb gc:GE)(f f':D->D->Option D):GE:=fun δ=>(ga δ).bind λx=>(gb δ).bind λy=>(f x y).bind λt=>(asB t).bind λk=>if k=true then (gc δ).bind λz=>f' y z else some (.bl false)
section
variable{a:Expr}{gc:Ds->Option D}
theorem fp0{r r':R2}{f f':D->D->Option D}(hf:Op2 K r f)(hf':Op2 K r' f'){B:BS}{σ:St}{Q:VK}(h:tD K B δ (tn0 ga gb gc f f') σ H Q):ga0 r r' (tD K B δ ga) (tD K B δ gb) (tD K B δ gc) σ H Q:=by
 obtain⟨d,en,h,k⟩:=h;unfold tn0 at h;cases e1:ga δ with
 | none=>rw[e1] at h;cases h
 | some x =>
  cases e2:gb δ with
  | none=>rw[e1,e2] at h;cases h
  | some y =>
   rw[e1,e2] at h;simp only[Option.bind_some] at h;cases e3:f x y with
   | none=>rw[e3] at h;cases h
   | some t =>
    rw[e3] at h;simp only[Option.bind_some] at h;cases e4:asB t with
    | none=>rw[e4] at h;cases h
    | some kb =>
     rw[e4] at h;simp only[Option.bind_some] at h;cases lb0 e4;refine⟨x,en,e1,λv1 H1 s1 r1=>⟨y,en.same s1,e2,λv2 H2 s2 r2=>?_⟩⟩;refine hf H2 B v1 v2 x y _ _ ((en.same s1).same s2).bad (r1.same s2) r2 e3 λv H3 s3 r3=>?_
     rw[Y0] at r3;refine⟨kb,r3,?_⟩;cases kb with
     | false =>
      rw[if_neg A8] at h ⊢;cases h;exact k _ H3 ((s1.trans s2).trans s3) (by rw[Y0])
     | true =>
      rw[if_pos rfl] at h ⊢;cases e5:gc δ with
      | none=>rw[e5] at h;cases h
      | some z =>
       rw[e5] at h;simp only[Option.bind_some] at h;refine⟨z,((en.same s1).same s2).same s3,e5,λv4 H4 s4 r4=>?_⟩;exact hf' H4 B v2 v4 y z d _ ((((en.same s1).same s2).same s3).same s4).bad ((r2.same s3).same s4) r4 h λv' H5 s5 r5=>k v' H5 ((((s1.trans s2).trans s3).trans s4).trans s5) r5
theorem dn0{op op':CmpOp}{r r':R2}{f f':D->D->Option D}(ho:OpR X (compareOp op) r)(hf:Op2 X.K r f)(ho':OpR X (compareOp op') r')(hf':Op2 X.K r' f')(ha:PD X a ga)(hb:PD X b gb)(hc:PD X c gc)
  (hm:lastMarks [op,op'] [b,c]=false:=by with_unfolding_all rfl):PD X (.Compare a [op,op'] [b,c] pos) (tn0 ga gb gc f f') :=
 .mk λB δ=>(eq0 ho ho' (ha B δ) (hb B δ) (hc B δ) hm).imp fun σ H Q h=>fp0 hf hf' h
open Builtin Builtin.Str Builtin.Int in
theorem Xu0{prog:Program}{w:World}{A:Around}{E:Value->Shared->Prop}{s:Shared}{x:Str}{n:Int}{t u:Tok}{Q:Value->Shared->Prop}(hr:(decide (n < -(2 ^ 63:Int))||decide (n ≥ 2 ^ 63))=false)
  (hb:¬n<1->(n==1||x.length==0)=false->¬((x.length:Int) > (2 ^ 63 - 1)/n)) (hl:¬n<1->(n==1||x.length==0)=false->tooLong (x.length*n.toNat)=false)
  (h:(if n<1 then Made.str Str.empty else if (n==1||x.length==0)=true then Made.val (.str x t) else Made.str ⟨(List.replicate n.toNat x.cps).foldl (·++·) #[]⟩).post Q s) :
  wpAny (model prog w) A (binaryOp .Mult (.int n u) (.str x t)) Q E s :=
 PySem.lm_binaryOp_repeat_right (T := "str") (U := "int") (by decide) (λs'=>I0 s' n u) (C9 s x t) PySem.F.fills_int_mul PySem.noFill_str_mul At0 PySem.lm_noRepeat_int PySem.repeat_str PySem.F.slot_int_index.lookup
  (call_gives At0 (I0 s n u) PySem.F.entry_int_mul (PySem.F.args_int_mul_2 _ _) (PySem.AutoIntG3.int___mul___int_str_0 n u x t)
   ⟨rfl,C9 _ x t,call_gives PySem.F.slot_str_mul (C9 s x t) PySem.F.entry_str_mul (PySem.F.args_str_mul_2 _ _) (gives_str_mul x n t u hr hb hl) h⟩)
end
end DL
namespace L2
noncomputable def Tbk(ok:Addr->Prop)(h:Heap)(e:Addr)(v:Value):Prop:=∃T oT ts,v=.ref T/\T≠e/\ok T/\h.get? T=some oT/\oT.data=.fields ts/\3<ts.size
noncomputable def Lie(ok:Addr->Prop)(h:Heap)(C:Value)(od:Option Addr)(e:Addr):Prop:=∃oe vs,h.get? e=some oe/\oe.cls=C/\oe.dict=od/\oe.data=.fields vs/\1<vs.size/\ok e /\
 ∃v,vs[1]?=some v/\(v=.none∨Tbk ok h e v)
noncomputable def LieT(ok:Addr->Prop)(h:Heap)(C:Value)(od:Option Addr)(e:Addr):Prop:=∃oe vs,h.get? e=some oe/\oe.cls=C/\oe.dict=od/\oe.data=.fields vs/\1<vs.size/\ok e /\
 ∃v,vs[1]?=some v/\Tbk ok h e v
theorem LieT.lie{ok:Addr->Prop}{C:Value}{e:Addr}(l:LieT ok h C od e):Lie ok h C od e:=by
 obtain⟨oe,vs,h1,h2,h3,h4,h5,h6,v,h7,h8⟩:=l;exact⟨oe,vs,h1,h2,h3,h4,h5,h6,v,h7,.inr h8⟩
structure Noted(ok:Addr->Prop)(F:List Addr)(h h':Heap):Prop where
 keep:∀b o,h.get? b=some o->¬ok b->b∉F->h'.get? b=some o
 slot:∀b o,h.get? b=some o->¬ok b->∃sl,h'.get? b=some { o with slots:=sl }
 there:∀b o,h.get? b=some o->∃o',h'.get? b=some o'
section
variable{M:Model}{s:Shared}
theorem jc0{base:Heap}{ok:Addr->Prop}{env:Env}{outer:List Env}{L e:Addr}{oe:Obj}{vs:Array Value}{head:Value}{hadNext:Bool}{Q:Unit->Shared->Prop}
  (hfr:A.frames=some (env::outer)) (hl:s.heap.FunFrames base (env::outer)) (hf:env.frame=some L) (he:s.heap.get? e=some oe) (hd:oe.data=.fields vs) (hsz:1<vs.size) (oke:ok e)
  (new:∀b,s.heap.objs.size<=b->ok b)
  (h:∀h',Noted ok ((env::outer).filterMap (·.frame)) s.heap h'->LieT ok h' oe.cls oe.dict e->Q () { s with heap:=h' }) :
  wpAny M A (do let a ← frameOf env;let pl ← entryPlaceOf L hadNext;let b ← EntryCells.newEntry head a .none (rawInt L) .none pl;setField (.ref e) 1 b) Q E s:=by
 have S:e∉(env::outer).filterMap (·.frame):=λz=>by
  obtain⟨_,o,q,n⟩:=hl.mem z;rw[he] at q;cases q;exact n vs hd
 refine A0 (wpAny_frameOf_fun hfr hl hf λg sl=>A0 (wpAny_entryPlaceOf λpl hp=>?_));unfold EntryCells.newEntry newFields;refine A0 (D6 ?_ (hp.sizeOk5 _ _ _ _ _));obtain⟨ar,O⟩:∃ar,ar=([head,.ref L,.none,rawInt L,.none]++(if pl.isEmpty then List.replicate 6 Value.none else pl)).toArray:=⟨_,rfl⟩;have U:3<ar.size:=by rw[O];simp only[List.size_toArray,List.length_append,List.length_cons,List.length_nil];omega
 rw[← O];have ge:g.get? e=some oe:=(sl.2.1 e S).trans he;have nT:g.objs.size≠e:=D8 (A4 ge);have pe:=B0 (h:=g) { cls:=.type "traceback",dict:=none,data:=.fields ar } ge;have d3:=M0 hd (·.setIfInBounds 1 (Value.ref g.objs.size));have e3:=Q1 (Obj.mapFields (·.setIfInBounds 1 (Value.ref g.objs.size))) pe (Q2 d3);have t3:=(L1 (g.push { cls:=.type "traceback",dict:=none,data:=.fields ar }) (Obj.mapFields (·.setIfInBounds 1 (Value.ref g.objs.size))) (B3 nT)).trans (C6 g rfl);refine m3 pe hd hsz (h _ ?_ ?_)
 ·have oth:∀b o,g.get? b=some o->b≠e->((g.push { cls:=.type "traceback",dict:=none,data:=.fields ar }).update e (Obj.mapFields (·.setIfInBounds 1 (Value.ref g.objs.size)))).get? b=some o:=λb o q n=>by
   rw[Heap.get?_update_other _ _ (B3 n)];exact B0 _ q
  refine⟨λb o q n1 n2=>oth b o ((sl.2.1 b n2).trans q) (λz=>n1 (z▸oke)),λb o q n1=>?_,λb o q=>?_⟩
  ·obtain⟨x,hx⟩:=sl.2.2 b o q
   exact⟨x,oth b _ hx (λz=>n1 (z▸oke))⟩
  ·by_cases z:b=e
   ·subst z
    exact⟨_,e3⟩
   ·obtain⟨x,hx⟩:=sl.2.2 b o q
    exact⟨_,oth b _ hx z⟩
 ·refine⟨_,_,e3,Obj.cls_mapFields _ _,?_,d3,by simp[hsz],oke,.ref g.objs.size,by simp[hsz],g.objs.size,_,_,rfl,nT,new _ (by rw[sl.1];exact A1 _),t3,rfl,U⟩
  obtain⟨c,d,dt,x⟩:=oe;cases dt<;>rfl
theorem Noted.refl{ok:Addr->Prop}:Noted ok F h h:=⟨λb o z _ _=>z,λb o z _=>⟨o.slots,z⟩,λb o z=>⟨o,z⟩⟩
theorem oj0{ok:Addr->Prop}{C:Value}{e:Addr}{f:Option Addr}{Q:Unit->Shared->Prop}(lie:LieT ok s.heap C od e)
  (h:∀h',Noted ok [] s.heap h'->LieT ok h' C od e->Q () { s with heap:=h' }):wpAny M A (setFlight (.ref e) f) Q E s:=by
 obtain⟨oe,vs,he,rfl,rfl,hd,S,U,v,q,T,oT,ts,rfl,nT,okT,hT,O,q3⟩:=id lie;unfold setFlight;refine A0 (D5 he hd q ?_);rw[if_pos (by simp)];refine m3 hT O q3 (h _ ?_ ?_)
 ·have oth:∀b o,s.heap.get? b=some o->b≠T->(s.heap.update T (Obj.mapFields (·.setIfInBounds 3 (f.elim Value.none λf=>rawInt f)))).get? b=some o:=λb o z n=>(L1 _ _ (B3 n)).trans z
  refine⟨λb o z n _=>oth b o z λw=>n (w▸okT),λb o z n=>⟨o.slots,oth b o z λw=>n (w▸okT)⟩,λb o z=>?_⟩
  by_cases w:b=T
  ·subst w
   exact⟨_,Q1 _ hT (Q2 (M0 O _))⟩
  ·exact⟨o,oth b o z w⟩
 ·exact⟨oe,vs,(L1 _ _ nT).trans he,rfl,rfl,hd,S,U,_,q,T,_,_,rfl,nT,okT,Q1 _ hT (Q2 (M0 O _)),M0 O _,by simp[q3]⟩
theorem flight{ok:Addr->Prop}{C:Value}{e:Addr}{Q:Unit->Shared->Prop}(lie:Lie ok s.heap C od e)
  (h:∀h',Noted ok [] s.heap h'->Lie ok h' C od e->Q () { s with heap:=h' }):wpAny M A (setFlight (.ref e) none) Q E s:=by
 obtain⟨oe,vs,he,hc,U,hd,O,S,v,q,q2⟩:=id lie;rcases q2 with rfl|t
 ·unfold setFlight
  refine A0 (D5 he hd q ?_);rw[if_neg (by decide)];exact A3 (h _ .refl lie)
 ·exact oj0 ⟨oe,vs,he,hc,U,hd,O,S,v,q,t⟩ λh' n l=>h h' n l.lie
theorem b50{base:Heap}{ok:Addr->Prop}{env:Env}{outer:List Env}{L e:Addr}{C:Value}{od:Option Addr}{Q:Unit->Shared->Prop}
  (hfr:A.frames=some (env::outer)) (hl:s.heap.FunFrames base (env::outer)) (hf:env.frame=some L) (lie:Lie ok s.heap C od e)
  (new:∀b,s.heap.objs.size<=b->ok b)
  (h:∀h',Noted ok ((env::outer).filterMap (·.frame)) s.heap h'->LieT ok h' C od e->Q () { s with heap:=h' }) :
  wpAny M A (noteFrame (.ref e) env) Q E s:=by
 obtain⟨oe,vs,he,rfl,rfl,hd,S,U,v,q,q2⟩:=id lie;unfold noteFrame;simp only[hf];rcases q2 with rfl|⟨T,oT,ts,rfl,nT,okT,hT,O,q3⟩
 ·refine A0 (D5 he hd q ?_)
  rw[if_neg (by decide)];exact jc0 hfr hl hf he hd S U new h
 ·refine A0 (D5 he hd q ?_)
  rw[if_pos (by simp)];refine A0 (D5 hT O (Array.getElem?_eq_getElem q3) ?_)
  by_cases hin:(ts[3]==rawInt L)=true
  ·rw[if_pos hin]
   exact A3 (h _ .refl ⟨oe,vs,he,rfl,rfl,hd,S,U,_,q,T,oT,ts,rfl,nT,okT,hT,O,q3⟩)
  rw[if_neg hin];refine A0 (m3 hT O q3 ?_);have oth:∀b,b≠T->(s.heap.update T (Obj.mapFields (·.setIfInBounds 3 Value.none))).get? b=s.heap.get? b:=λb n=>L1 _ _ (B3 n)
  have self:∃o',(s.heap.update T (Obj.mapFields (·.setIfInBounds 3 Value.none))).get? T=some o':=⟨_,Q1 _ hT (Q2 (M0 O _))⟩;have nr:∀b o,s.heap.get? b=some o->(∀vs,o.data≠.fields vs)->b≠T:=λb o h1 h2 z=>by
   rw[z,hT] at h1;cases h1;exact h2 ts O
  refine jc0 hfr (hl.of_keeps λb o h1 h2=>⟨o,(oth b (nr b o h1 h2)).trans h1,rfl⟩) hf ((oth e (B3 nT)).trans he) hd S U (λb hb=>new b (by rw[Heap.size_after_update] at hb;exact hb)) λh' nd le=>h h' ⟨λb o h1 n1 n2=>nd.keep b o ((oth b (λz=>n1 (z▸okT))).trans h1) n1 n2,λb o h1 n1=>nd.slot b o ((oth b (λz=>n1 (z▸okT))).trans h1) n1,λb o h1=>?_⟩ le
  by_cases z:b=T
  ·obtain⟨o',Y⟩:=self
   exact nd.there b o' (by rw[z];exact Y)
  ·exact nd.there b o ((oth b z).trans h1)
theorem Noted.trans0{ok:Addr->Prop}{h'':Heap}(a:Noted ok F h h')(b:Noted ok [] h' h''):Noted ok F h h'' :=
 ⟨λc o e n1 n2=>b.keep c o (a.keep c o e n1 n2) n1 (by simp),λc o e n=>by
  obtain⟨x,hx⟩:=a.slot c o e n;obtain⟨y,hy⟩:=b.slot c _ hx n;exact⟨y,hy⟩,λc o e=>by
  obtain⟨x,hx⟩:=a.there c o e;exact b.there c x hx⟩
theorem note{base:Heap}{ok:Addr->Prop}{env:Env}{outer:List Env}{L e:Addr}{C:Value}{od:Option Addr}{Q:Unit->Shared->Prop}
  (hfr:A.frames=some (env::outer)) (hl:s.heap.FunFrames base (env::outer)) (hf:env.frame=some L) (lie:Lie ok s.heap C od e)
  (new:∀b,s.heap.objs.size<=b->ok b)
  (h:∀h',Noted ok ((env::outer).filterMap (·.frame)) s.heap h'->Lie ok h' C od e->Q () { s with heap:=h' }) :
  wpAny M A (noteFrame (.ref e) env) (λ_ s'=>wpAny M A (setFlight (.ref e) none) Q E s') E s :=
 b50 hfr hl hf lie new λh1 n1 l1=>oj0 l1 λh2 n2 l2=>h h2 (n1.trans0 n2) l2.lie
end
end L2
namespace L2
open Spec PyProof.Rows
theorem Tbk.mono{ok:Addr->Prop}{e:Addr}(q:∀b,ok b->ok' b)(l:Tbk ok h e v):Tbk ok' h e v:=by
 obtain⟨T,oT,ts,t1,t2,t3,t4⟩:=l;exact⟨T,oT,ts,t1,t2,q _ t3,t4⟩
theorem Lie.mono{ok:Addr->Prop}{C:Value}{e:Addr}(q:∀b,ok b->ok' b)(l:Lie ok h C od e):Lie ok' h C od e:=by
 obtain⟨oe,vs,h1,h2,h3,h4,h5,h6,v,h7,h8⟩:=l;exact⟨oe,vs,h1,h2,h3,h4,h5,q _ h6,v,h7,h8.imp id (Tbk.mono q)⟩
theorem LieT.mono{ok:Addr->Prop}{C:Value}{e:Addr}(q:∀b,ok b->ok' b)(l:LieT ok h C od e):LieT ok' h C od e:=by
 obtain⟨oe,vs,h1,h2,h3,h4,h5,h6,v,h7,h8⟩:=l;exact⟨oe,vs,h1,h2,h3,h4,h5,q _ h6,v,h7,h8.mono q⟩
noncomputable def FpW(X:Cx)(pins:List (Addr×Obj))(H:Hp)(b:Addr):Prop :=
 H b=none/\b≠X.env.locals/\b∉X.fs/\(b∈X.ex∨X.s₀.heap.get? b=none)/\(∀x c,X.env.cells.lookup x=some c->c≠b)/\∀p∈X.pn++pins,p.1≠b
abbrev pw0(X:Cx)(pins:List (Addr×Obj))(H:Hp)(h:Heap)(C:Addr)(od:Option Addr)(e:Addr):Prop:=Lie (FpW X pins H) h (.ref C) od e
section
variable{σ:St}{s:Shared}
theorem Inv.fpW{b:Addr}(I:Inv X pins σ H s)(hb:s.heap.get? b=none)(hn:H' b=none):FpW X pins H' b:=by
 refine⟨hn,λz=>?_,λz=>?_,?_,λx c e z=>?_,λp hp z=>?_⟩
 ·obtain⟨m,⟨o,_,_,ho,_⟩,_⟩:=I.loc
  rw[← z,hb] at ho;cases ho
 ·obtain⟨_,o,ho,_⟩:=I.funs.mem z
  rw[hb] at ho;cases ho
 ·by_cases q:b∈X.ex
  ·exact .inl q
  ·refine .inr ?_
   cases e:X.s₀.heap.get? b with
   | none=>rfl
   | some o =>
    obtain⟨o',h'⟩:=I.base.there b o e q;rw[hb] at h';cases h'
 ·obtain⟨v,o,q,_⟩:=I.cell x c e
  rw[z,hb] at q;cases q
 ·have q:=(I.pin p hp).1
  rw[z,hb] at q;cases q
theorem Inv.dead{b:Addr}(I:Inv X pins σ H s)(hb:s.heap.get? b=none):H b=none:=by
 cases e:H b with
 | none=>rfl
 | some o =>
  have:∃u,s.heap.get? b=some u:=by
   have z:=I.hok b o e;clear e
   induction o with
   | lst xs=>obtain⟨_,_,_,_,q⟩:=z;exact⟨_,q⟩
   | tup xs=>obtain⟨_,_,_,_,q,_⟩:=z;exact⟨_,q⟩
   | dK kvs=>obtain⟨_,_,_,_,_,_,_,q,_⟩:=z;exact⟨_,q⟩
   | dT kvs=>obtain⟨_,_,_,_,_,_,_,q,_⟩:=z;exact⟨_,q⟩
   | set S n=>obtain⟨_,_,_,_,q,_⟩:=z;exact⟨_,q⟩
   | ins C dx fs=>obtain⟨_,_,_,q,_⟩:=z;exact⟨_,q⟩
   | own y=>exact z
   | xd fs=>obtain⟨_,⟨_,_,_,q,_⟩,_⟩:=z;exact⟨_,q⟩
   | rng lo hi=>obtain⟨_,_,_,q⟩:=z;exact⟨_,q⟩
   | frz ob u ih=>exact⟨_,z.1⟩
   | tbl ps=>exact⟨_,z⟩
   | met f y=>exact⟨_,z⟩
   | ext φ=>exact z.2.1
  obtain⟨u,q⟩:=this;rw[hb] at q;cases q
theorem Inv.afterNote(I:Inv X pins σ H s)(hF:∀b∈F,b∈frs X.stack)(nd:Noted (FpW X pins H) F s.heap h'):Inv X pins σ H { s with heap:=h' }:=by
 have nt:∀b u,H b=some u->¬FpW X pins H b:=λb u q z=>by
  rw[z.1] at q;cases q
 have hok:HOk X.prog X.w H h':=λa o q=>(I.hok a o q).stay (λb u hb e=>by
  have tr:∃v,H b=some v:=by
   rcases hb with rfl|hb
   ·exact⟨_,q⟩
   ·exact⟨_,hb⟩
  obtain⟨v,tr⟩:=tr;exact nd.keep b u e (nt b v tr) λz=>by
   rw[I.stkFree b (hF b z)] at tr;cases tr) (λ_ q=>q) λ_ _ q=>q
 have nF:∀b,b≠X.env.locals->b∉X.fs->b∉F:=λb n1 n2 z=>(B1.mp (I.stkSub b (hF b z))).elim n1 n2
 have up:∀b o,X.s₀.heap.get? b=some o->b≠X.env.locals:=λb o e=>B6 (B5 (A4 e) I.ok.above)
 have S:∀b o,X.s₀.heap.get? b=some o->b∉X.ex->¬FpW X pins H b:=λb o e hx z=>by
  rcases z.2.2.2.1 with q|q
  ·exact hx q
  ·rw[e] at q
   cases q
 have O:∀x c,X.env.cells.lookup x=some c->∀v,s.heap.IsCell c v->h'.IsCell c v:=λx c e v ⟨o,ho,hd⟩=>by
  obtain⟨sl,q⟩:=nd.slot c o ho λz=>z.2.2.2.2.1 x c e rfl
  exact⟨_,q,hd⟩
 refine⟨I.ok,I.os,I.bare,⟨λb o e n hb hx=>nd.keep b o (I.base.keep b o e n hb hx) (S b o e hx) (nF b (up b o e) hb),λb o e n hb hx=>?_,I.base.free,λb o e hx=>?_,I.base.tups,I.base.frzs,I.base.tbls⟩,?_,λx c e=>?_,I.free,I.freeC,λp hp=>?_,hok,I.len⟩
 ·obtain⟨sl,e1⟩:=I.base.slot b o e n hb hx
  obtain⟨U,e2⟩:=nd.slot b _ e1 (S b o e hx);exact⟨U,e2⟩
 ·obtain⟨o',e1⟩:=I.base.there b o e hx
  exact nd.there b o' e1
 ·obtain⟨m,⟨o,es,ep,ho,r⟩,hl⟩:=I.loc
  obtain⟨sl,hL⟩:=nd.slot _ o ho λz=>z.2.1 rfl
  refine⟨m,⟨_,es,ep,hL,r⟩,λi x v e1 e2 e3=>?_⟩;obtain⟨u,r,l⟩:=hl i x v e1 e2 e3;refine⟨u,r,?_⟩;rcases l with l|⟨k,c,e,z⟩
  ·exact .inl l
  ·exact .inr ⟨k,c,e,O x c e _ z⟩
 ·obtain⟨v,z⟩:=I.cell x c e
  exact⟨v,O x c e v z⟩
 ·obtain⟨e,n,ne,nf,d⟩:=I.pin p hp
  exact⟨nd.keep p.1 p.2 e (λz=>z.2.2.2.2.2 p hp rfl) (nF p.1 ne nf),n,ne,nf,d⟩
theorem Inv.frame(I:Inv X pins σ H s)(st:X.stack=X.env::X.outer):X.env.frame=some X.env.locals:=by
 rcases I.ok.stk with q|q
 ·rw[st] at q
  exact absurd (B7 List.length q) (by simp)
 ·exact q.2
theorem Inv.noted{M:Model}{E:Value->Shared->Prop}{C e:Addr}{Q:Unit->Shared->Prop}(I:Inv X pins σ H s)(st:X.stack=X.env::X.outer)(lie:pw0 X pins H s.heap C od e)
  (h:∀h',Inv X pins σ H { s with heap:=h' }->pw0 X pins H h' C od e->Q () { s with heap:=h' }) :
  wpAny M X.A (noteFrame (.ref e) X.env) (λ_ s1=>wpAny M X.A (setFlight (.ref e) none) Q E s1) E s:=by
 refine note (base:=X.base) (outer:=X.outer) (by rw[I.ok.frames,st]) (st▸I.stack) (I.frame st) lie (λb hb=>I.fpW (O0 hb) (I.hok.fresh hb)) λh' nd le=>h h' (I.afterNote (λb hb=>?_) nd) le
 rw[st];exact hb
theorem Inv.flown{M:Model}{A:Around}{E:Value->Shared->Prop}{C e:Addr}{Q:Unit->Shared->Prop}(I:Inv X pins σ H s)(lie:pw0 X pins H s.heap C od e)
  (h:∀h',Inv X pins σ H { s with heap:=h' }->pw0 X pins H h' C od e->Q () { s with heap:=h' }):wpAny M A (setFlight (.ref e) none) Q E s :=
 flight lie λh' nd le=>h h' (I.afterNote (λb hb=>by cases hb) nd) le
theorem Inv.track{φ:Heap->Prop}(I:Inv X pins σ H s)(fp:FpW X pins H a)(hφ:φ s.heap)(ho:∃o,s.heap.get? a=some o)(st:∀h1 h2:Heap,φ h1->(∀o,h1.get? a=some o->h2.get? a=some o)->φ h2) :
  Inv X pins σ (upd H a (.ext φ)) s:=by
 obtain⟨z1,z2,z3,z4,z5,z6⟩:=fp;have oth:∀b u,H b=some u->upd H a (.ext φ) b=some u:=λb u q=>by rw[W4 (O6 q z1)];exact q
 refine⟨I.ok,I.os,I.bare,⟨I.base.keep,I.base.slot,λb o e n hx=>?_,I.base.there,λb xs e=>oth b _ (I.base.tups b xs e),λb o u e=>oth b _ (I.base.frzs b o u e),λb ps e=>?_⟩,I.loc,I.cell,?_,λx c e=>?_,λp hp=>?_,λb u q=>?_,I.len⟩
 ·have:b≠a:=λw=>by
   subst w;rcases z4 with z4|z4
   ·exact hx z4
   ·rw[e] at z4
    cases z4
  rw[W4 this];exact I.base.free b o e n hx
 ·obtain⟨O,q⟩:=I.base.tbls b ps e
  exact⟨O,oth b _ q⟩
 ·rw[W4 (B3 z2)];exact I.free
 ·rw[W4 (z5 x c e)];exact I.freeC x c e
 ·obtain⟨e,n,r⟩:=I.pin p hp
  exact⟨e,by rw[W4 (z6 p hp)];exact n,r⟩
 ·by_cases w:b=a
  ·subst w
   rw[V1] at q;cases q;exact⟨hφ,ho,st⟩
  ·rw[W4 w] at q
   exact(I.hok b u q).stay (λ_ _ _ z=>z) (λc z=>oth c _ z) λc xs z=>oth c _ z
theorem Inv.goes{M:Model}{A:Around}{E:Value->Shared->Prop}{pos:Pos}{Q:Unit->Shared->Prop}(I:Inv X pins σ H s)(hN:X.N.Nodup)(hi:X.N[i]?=some x)(hx:X.env.scope.names.lookup x=some .local)
  (h:∀s',Inv X pins (σ.set i none) H s'->Q () s'):wpAny M A (do bindName X.env x .none;unbindBehindTheSuite X.env x pos) Q E s:=by
 have O:(X.env.scope.kind==.class||(X.env.scope.kind==.module&&X.env.locals != X.env.globals))=false:=by rw[I.ok.kind];rfl
 have hk:X.env.kindOf x=some .local:=hx;refine A0 (wpAny_bindName (rp0 I hN hi (.inl hx) (v:=.non) (u:=.none) rfl (λs1 I1=>?_) (.inr hx)));unfold unbindBehindTheSuite;refine wpAny_onRaise ?_;unfold unbindName;refine A0 (wpAny_point (A0 ?_));unfold deleteName;simp only[hk,O];rw[if_neg (by decide)];have cne:=I1.cne;obtain⟨m,hn,hl⟩:=id I1.loc;have hiσ:i<σ.length:=by rw[I.len];exact(K2.mp hi).1
 have hm:(m x).isSome=true:=by
  obtain⟨u,_,l⟩:=hl i x .non hi (by rw[List.getElem?_set_self hiσ]) (.inl hx);rcases l with⟨_,l⟩|⟨l,_⟩
  ·rw[l];rfl
  ·rw[hk] at l
   rcases l with l|l<;>cases l
 refine A0 (wpAny_nsDel_keeps hn λh' w S hs=>?_);rw[hm];simp only[Bool.not_true,Bool.false_eq_true,if_false];refine A3 (wpAny_point (h _ ?_));obtain⟨oL,_,_,U,_⟩:=id hn;have up:∀b o,X.s₀.heap.get? b=some o->b≠X.env.locals:=λb o e=>B6 (B5 (A4 e) I1.ok.above)
 refine⟨I1.ok,I1.os,I1.bare,⟨λb o e n hb hx=>?_,λb o e n hb hx=>?_,I1.base.free,λb o e hx=>?_,I1.base.tups,I1.base.frzs,I1.base.tbls⟩,⟨_,S,λj y v' e1 e2 e3=>?_⟩,λy c e=>?_,I1.free,I1.freeC,λp hp=>?_,λb u q=>?_,by simpa using I.len⟩
 ·exact(hs.2 b (up b o e)).trans (I1.base.keep b o e n hb hx)
 ·obtain⟨sl,e1⟩:=I1.base.slot b o e n hb hx
  exact⟨sl,(hs.2 b (up b o e)).trans e1⟩
 ·obtain⟨o',e1⟩:=I1.base.there b o e hx
  exact⟨o',(hs.2 b (up b o e)).trans e1⟩
 ·by_cases hj:j=i
  ·subst hj
   rw[List.getElem?_set_self hiσ] at e2;cases e2
  ·rw[List.getElem?_set_ne (B3 hj)] at e2
   obtain⟨u',r',q⟩:=hl j y v' e1 (by rw[List.getElem?_set_ne (B3 hj)];exact e2) e3;refine⟨u',r',?_⟩;rcases q with⟨k,e⟩|⟨k,c,e,z⟩
   ·refine .inl ⟨k,?_⟩
    have:y≠x:=λe=>hj (q40 hN e1 (e▸hi))
    simp[this,e]
   ·exact .inr ⟨k,c,e,z.sameBut hs (cne y c e)⟩
 ·obtain⟨w',z⟩:=I1.cell y c e
  exact⟨w',z.sameBut hs (cne y c e)⟩
 ·obtain⟨e,n,ne,nf,d⟩:=I1.pin p hp
  exact⟨(hs.2 p.1 ne).trans e,n,ne,nf,d⟩
 ·refine(I1.hok b u q).stay (λc w' hc z=>(hs.2 c ?_).trans z) (λ_ q=>q) λ_ _ q=>q
  rintro rfl;rcases hc with rfl|hc
  ·rw[I1.free] at q;cases q
  ·rw[I1.free] at hc;cases hc
end
noncomputable def CXE(P:Program)(w:World):CXT:=λouter H s E e s'=>∃ea C od H',e=.ref ea/\s'.os=s.os/\AllBare s'.gens/\Un (frs outer) [] H H' s.heap s'.heap/\HOk P w H' s'.heap /\
 Lie (λb=>H' b=none/\s.heap.get? b=none) s'.heap (.ref C) od ea/\E (.ref C) od H'
noncomputable def yk0(X:Cx)(σ:St)(H:Hp)(C:Addr)(od:Option Addr):Prop:=∀pins s e,Inv X pins σ H s->pw0 X pins H s.heap C od e->X.xe (.ref e) s
section
variable{f C:Addr}{dvs:List V}{ds:List Value}{c:Str}
noncomputable def Zl0(X:Cx)(sp:Sp)(dvs:List V)(t:TA):TE:=fun σ H Q=>t σ H λvs H1=>sp (vs++dvs) H1 Q λc od H'=>∀C,c=.ref C->yk0 X σ H' C od
theorem lu0(F:FnOk X.prog X.w X.K X.mg X.base (CXE X.prog X.w) k f fd ps sp)(hr:Room k X.A)(hg:Gl X x)(hm:X.mg x=some (.ref f))(hk:W.keepIn X.K (.ref f)=true)(hb:Binds X.K fd ps ds)(hd:Vals dvs ds)
  (ha:PA X (e::es) t) (hdb:(x==("__debug__" : Str))=false:=by decide) (he:starEach (e::es) X.env=(false,eval e X.env)::starEach es X.env:=by rfl) (hpl:(backTo pos (starEach es X.env)).any (·.1)=false:=by rfl) :
  PE X (.Call (.Name x p) (e::es) [] pos) (Zl0 X sp dvs t):=by
 intro pins s σ H Q I h;refine G0 (xy0 I hg hm ?_ hdb);refine W.callWith_K (h₀:=X.base) I.ok.mod.kin hk (thn (ha pos pins s σ H _ I h) λus s1 ⟨vs,H1,I1,r,q⟩=>⟨I1.kIn,?_⟩) he hpl;have r2:Vals (vs++dvs) (us++ds):=r.append hd;have hl:(us++ds).length=ps.length:=by rw[← r2.length];exact F.len _ _ _ _ q
 refine wpAny_call (E9 (F.run X.A X.stack s1 H1 ⟨us,[]⟩ (us++ds) (vs++dvs) Q _ hr I1.env0 (hb s1 us I1.kIn hl) r2 q) λr s' hq=>?_);cases r with
 | error ex =>
  obtain⟨ea,C,od,H',rfl,os,bare,un,hok,lie,wish⟩:=hq;exact wish C rfl pins s' ea (I1.call' (ch:=[]) os un hok bare λb z=>by cases z) (lie.mono λb z=>I1.fpW z.2 z.1)
 | ok fl =>
  cases fl with
  | ret u=>exact I1.after hq
  | next=>exact False.elim hq
  | brk=>exact False.elim hq
  | cont=>exact False.elim hq
theorem c00{y:Str}{j:Nat}{cp:Pos}(hm:X.mg c=some (.ref C))(rs:∀h:Heap,X.K.In h->XC.Rs h C tl)(hbase:tl.contains (.type "BaseException")=true)(hc:X.calm=true)(hg:Gl X c)
  (hd:(c==("__debug__" : Str))=false:=by decide) (he:starEach [.Constant (.str y) j cp] X.env=[(false,eval (.Constant (.str y) j cp) X.env)]:=by rfl)
  (hbt:backTo cpos [(false,eval (.Constant (.str y) j cp) X.env)]=[(false,eval (.Constant (.str y) j cp) X.env)]:=by rfl) :
  PS X (.Raise (some (.Call (.Name c np) [.Constant (.str y) j cp] [] cpos)) none pos) (λ_ σ H=>yk0 X σ H C none):=by
 intro pins s σ H D I h;obtain⟨nm,q,N,bs,O,sn,sub,ab,S,dd,k0,k1,k2,k3,k5,mN,hC,hN,U,ht⟩:=(rs s.heap I.kIn).obj;refine wpAny_Raise_call_subU F.excBase_ValueError (by decide +kernel) F.excBase_ValueError (bm:=tl) (C:=C) (N:=N) (nm:=nm) (q:=q) (bs:=bs) (hdct:=O) (sn:=sn) (sub:=sub) (ab:=ab) (col:=S) (dd:=dd) (k0:=k0) (k1:=k1) (k2:=k2) (k3:=k3) (k5:=k5) (mN:=mN) hbase (I.ok.hd hc) (by rw[he,hbt];rfl) U (xy0 I hg hm ⟨rfl,?_⟩ hd);rw[he,hbt];refine y2 (P3 (Calls.Constant_str (P2 ⟨rfl,by show (1:Nat)<=sizeLine;decide,hC,hN,ht,λh' e hm=>?_⟩)));obtain⟨t,h1,h2,h3⟩:=hm.there;have I':Inv X pins σ H { s with heap:=h',toks:=s.toks+1 }:=I.kept hm.keeps;exact h pins _ e I' ⟨_,_,h1,rfl,rfl,rfl,(by show 1<6;decide),I.fpW hm.new (I.dead hm.new),_,rfl,.inl rfl⟩
end
end L2
namespace DL
open Spec PyProof.Rows L2
inductive DX where
 | ok (d:D)|ex (c:Str) (n:Option Int)
inductive RX where
 | ok (r:Res)|ex (c:Str) (n:Option Int) (δ:Ds)
abbrev GZ:=Ds->Option RX
noncomputable def okZ(G:GS):GZ:=fun δ=>(G δ).map .ok
variable{Gb:DL.GZ}
noncomputable def J1:GZ:=fun δ=>some (.ok (.nx δ))
noncomputable def V8(G1 G2:GZ):GZ:=fun δ=>match G1 δ with
 | some (.ok (.nx δ'))=>G2 δ'
 | r=>r
noncomputable def ifZ(gt:GB)(Ga Gb:GZ):GZ:=fun δ=>(gt δ).bind λt=>if t=true then Ga δ else Gb δ
noncomputable def up0(c:Str):GZ:=fun δ=>some (.ex c none δ)
noncomputable def XdX(K:W.Frag)(H₀:Hp)(B₀:BS)(H:Hp)(σ:St)(δ:Ds)(od:Option Addr):Option Int->Prop
 | none=>True
 | some k=>∃(dx:Addr) (B:BS),od=some dx/\H₀ dx=none/\H dx=some (.xd [("at",.int k)])/\(∀a,B₀ a->B a)/\(∀a,B a->B₀ a∨H₀ a=none)/\Env K H B σ δ/\¬B dx
noncomputable def XdS(H H':Hp)(od:Option Addr):Option Int->Prop
 | none=>True
 | some k=>∃dx,od=some dx/\H dx=none/\H' dx=some (.xd [("at",.int k)])
theorem XdX.out{σ:St}{n:Option Int}(x:XdX K H₀ B₀ H σ δ od n):XdS H₀ H od n:=by
 cases n with
 | none=>trivial
 | some k=>obtain⟨dx,B,e,h1,h2,_⟩:=x;exact⟨dx,e,h1,h2⟩
theorem wg0(s:Same H H')(h:H' a=none):H a=none:=by
 cases e:H a with
 | none=>rfl
 | some o=>rw[s a o e] at h;cases h
noncomputable def d20(i:Nat)(δ:Ds):DX->RX
 | .ok d=>.ok (.nx (δ.set i (.sh d)))
 | .ex c n=>.ex c n δ
noncomputable def p60(gA:GA)(f:List D->Option DX)(i:Nat):GZ:=fun δ=>(gA δ).bind λds=>(f ds).map (d20 i δ)
noncomputable def Xe0(X:Cx)(H₀:Hp)(B₀:BS)(D:Ends):RX->Prop
 | .ok r=>Ya0 X.K H₀ B₀ D r
 | .ex c n δ=>∀σ H C od,EnvS X.K H₀ B₀ H σ δ->W.nsIn X.K mainGlobals c=some (some (.ref C))->XdX X.K H₀ B₀ H σ δ od n->yk0 X σ H C od
noncomputable def tXS(X:Cx)(H₀:Hp)(B₀:BS)(δ:Ds)(G:GZ):TS:=λD σ H=>∃r,EnvS X.K H₀ B₀ H σ δ/\G δ=some r/\Xe0 X H₀ B₀ D r
structure PSX(X:Cx)(st:Stmt)(G:GZ):Prop where
 mk::go:∀H₀ B₀ δ,PS X st (tXS X H₀ B₀ δ G)
structure PSsX(X:Cx)(st:List Stmt)(G:GZ):Prop where
 mk::go:∀H₀ B₀ δ,PSs X st (tXS X H₀ B₀ δ G)
section
variable{st:Stmt}{as bs:List Stmt}{G1 G2 Ga:GZ}{gt:GB}{gA:GA}
theorem wh0(h:PSD X st G):PSX X st (okZ G):=.mk λH₀ B₀ δ pins s σ H D I ⟨r,en,e,k⟩=>by
 unfold okZ at e;cases e1:G δ with
 | none=>rw[e1] at e;cases e
 | some r1 =>
  rw[e1] at e;cases e;exact h H₀ B₀ δ pins s σ H D I ⟨r1,en,e1,k⟩
theorem V0:PSsX X [] J1:=.mk λH₀ B₀ δ pins s σ H D I ⟨r,en,e,k⟩=>by
 cases e;exact o30 pins s σ H D I (k σ H en)
theorem Z5(h1:PSX X st G1)(h2:PSsX X rest G2):PSsX X (st::rest) (V8 G1 G2):=.mk λH₀ B₀ δ pins s σ H D I ⟨r,en,e,k⟩=>by
 unfold V8 at e;cases e1:G1 δ with
 | none=>rw[e1] at e;cases e
 | some r1 =>
  rw[e1] at e;cases r1 with
  | ex c n δ'=>cases e;exact G5 (h1.go H₀ B₀ δ) ze0 pins s σ H D I ⟨_,en,e1,k⟩
  | ok r1 =>
   cases r1 with
   | nx δ'=>exact G5 (h1.go H₀ B₀ δ) (h2.go H₀ B₀ δ') pins s σ H D I ⟨_,en,e1,fun σ' H' en'=>⟨r,en',e,k⟩⟩
   | rt d=>cases e;exact G5 (h1.go H₀ B₀ δ) ze0 pins s σ H D I ⟨_,en,e1,k⟩
   | bk δ'=>cases e;exact G5 (h1.go H₀ B₀ δ) ze0 pins s σ H D I ⟨_,en,e1,k⟩
   | ct δ'=>cases e;exact G5 (h1.go H₀ B₀ δ) ze0 pins s σ H D I ⟨_,en,e1,k⟩
   | rf d=>cases e;exact G5 (h1.go H₀ B₀ δ) ze0 pins s σ H D I ⟨_,en,e1,k⟩
theorem wf0(hc:PTD X c gt)(ha:PSsX X as Ga)(hb:PSsX X bs Gb):PSX X (.If c as bs pos) (ifZ gt Ga Gb):=.mk λH₀ B₀ δ pins s σ H D I ⟨r,en,e1,k⟩=>by
 unfold ifZ at e1;obtain⟨B,b1,b2,env⟩:=en.ex;cases e2:gt δ with
 | none=>rw[e2] at e1;cases e1
 | some t =>
  rw[e2] at e1;refine cz0 (hc B δ) (ha.go H₀ B₀ δ) (hb.go H₀ B₀ δ) pins s σ H D I ⟨t,env,e2,λH' s'=>?_⟩;cases t with
  | true=>exact⟨r,en.grow s',e1,k⟩
  | false=>exact⟨r,en.grow s',e1,k⟩
theorem dt0{r:Addr}:(Value.ref r::XC.bmV).contains (.type "BaseException")=true:=by
 rw[List.contains_cons];rfl
theorem we0{r:Addr}{cs:List Str}{cn y:Str}{j:Nat}{np cp cpos:Pos}(T:XC.Tab X.K X.mg root r cs rs)(h1:cn∈rs)(h2:cn∈cs)(hcalm:X.calm=true:=by rfl)(hg:Gl X cn:=by rfl)
  (hd:(cn==("__debug__" : Str))=false:=by decide) (he:starEach [.Constant (.str y) j cp] X.env=[(false,eval (.Constant (.str y) j cp) X.env)]:=by rfl)
  (hbt:backTo cpos [(false,eval (.Constant (.str y) j cp) X.env)]=[(false,eval (.Constant (.str y) j cp) X.env)]:=by rfl) :
  PSX X (.Raise (some (.Call (.Name cn np) [.Constant (.str y) j cp] [] cpos)) none pos) (up0 cn):=.mk λH₀ B₀ δ pins s σ H D I ⟨r',en,e1,k⟩=>by
 cases e1;obtain⟨C,O⟩:=T.all cn h2;obtain⟨C',n,S⟩:=T.rai cn h1;have:C'=C:=by
  have:=n.symm.trans O.ns;cases this;rfl
 subst this;exact c00 O.mg S dt0 hcalm hg hd he hbt pins s σ H D I (k σ H C' none en O.ns trivial)
end
noncomputable def spX(K:W.Frag)(f:List D->Option DX):Sp:=λvs H Q E=>∃(B:BS) (ds:List D) (r:DX),(∀a,B a->H a≠none)/\Rps K H B ds vs/\f ds=some r/\match r with
 | .ok d=>∀v H',Same H H'->Rp K H' B d v->Q v H'
 | .ex c n=>∀C od H',Same H H'->W.nsIn K mainGlobals c=some (some (.ref C))->XdS H H' od n->E (.ref C) od H'
structure FnX(P:Program)(w:World)(K:W.Frag)(mg:Str->Option Value)(base:Heap)(x:Str)(k:Nat)(ps:List Str)(f:List D->Option DX):Prop where
 ex:∃fa fd,FnOk P w K mg base (CXE P w) k fa fd ps (spX K f)/\mg x=some (.ref fa)/\W.keepIn K (.ref fa)=true/\Binds K fd ps []
section
variable{gA:GA}
theorem d60(i:Nat){y:Str}{f:List D->Option DX}(C:FnX X.prog X.w X.K X.mg X.base x k ps f)(hr:Room m X.A)(hk:k<=m)(ha:PDA X (e::es) gA)(hN:X.N.Nodup)
  (hi:X.N[i]?=some y:=by rfl) (hx:Loc X.env.scope y:=by first|exact Or.inl rfl|exact Or.inr rfl) (hf:X.fn y=true∨X.env.scope.names.lookup y=some .local:=by first|exact .inl rfl|exact .inr rfl|assumption)
  (hg:Gl X x:=by rfl) (hdb:(x==("__debug__" : Str))=false:=by decide) (he:starEach (e::es) X.env=(false,eval e X.env)::starEach es X.env:=by rfl) (hpl:(backTo pos (starEach es X.env)).any (·.1)=false:=by rfl)
  {ap:Pos} (hs:swapsWithSole [.Name y px] (.Call (.Name x p) (e::es) [] pos) ap.line X.env=pure false:=by rfl) (hw:swappedStores [.Name y px] (.Call (.Name x p) (e::es) [] pos) X.env=pure none:=by rfl)
  (h1:(assignEach [.Name y px] X.env).map (·.2)=[assign (.Name y px) X.env]:=by rfl) :
  PSX X (.Assign [.Name y px] (.Call (.Name x p) (e::es) [] pos) ap) (p60 gA f i):=.mk λH₀ B₀ δ pins s σ H D I ⟨r,en,e1,k⟩=>by
 unfold p60 at e1;obtain⟨B,b1,b2,env⟩:=en.ex;obtain⟨fa,fd,F,hm,O,hb⟩:=C.ex;cases e2:gA δ with
 | none=>rw[e2] at e1;cases e1
 | some ds =>
  rw[e2,Option.bind_some] at e1;cases e3:f ds with
  | none=>rw[e3] at e1;cases e1
  | some dx =>
   rw[e3] at e1;cases e1;refine un0 (lu0 (dvs:=[]) (ds:=[]) F (hr.mono hk) hg hm O hb .nil (ha B δ) hdb he hpl) (xh0 (i:=i) hN hi hx hf) hs hw h1 pins s σ H D I ⟨ds,env,e2,λvs H1 s1 r1=>?_⟩;show spX X.K f (vs++[]) H1 _ _;rw[List.append_nil];refine⟨B,ds,dx,(env.same s1).bad,r1,e3,?_⟩;cases dx with
   | ok d=>exact λv H' s2 r2=>k _ H' (en.wr b1 b2 (s1.trans s2) s00 ((env.same (s1.trans s2)).set i r2))
   | ex c m =>
    intro C od H' s2 n x C' q;cases q;refine k σ H' C od (en.grow (s1.trans s2)) n ?_;cases m with
    | none=>trivial
    | some m =>
     obtain⟨dx,e,x1,x2⟩:=x;exact⟨dx,B,e,wg0 (en.same.trans s1) x1,x2,b1,b2,env.same (s1.trans s2),λz=>(env.same s1).bad dx z x1⟩
end
section
variable{P:Program}{w:World}
noncomputable def mkX(n:Nat)(N:List Str)(G:GZ)(ds:List D):Option DX:=if ds.length=n then (match G (W8 N ds) with
 | some (.ok (.rt d))=>some (.ok d)
 | some (.ex c n _)=>some (.ex c n)
 | _=>none) else none
theorem fn0{G:GZ}{r:DX}(h:mkX n N G ds=some r):ds.length=n/\((∃d,r=.ok d/\G (W8 N ds)=some (.ok (.rt d)))∨∃c n δ,r=.ex c n/\G (W8 N ds)=some (.ex c n δ)):=by
 unfold mkX at h;split at h
 ·rename_i hl
  refine⟨hl,?_⟩;split at h
  ·rename_i e;cases h;exact .inl ⟨_,rfl,e⟩
  ·rename_i e;cases h;exact .inr ⟨_,_,_,rfl,e⟩
  ·cases h
 ·cases h
theorem y20{G:GZ}{d:D}(hl:ds.length=n)(h:G (W8 N ds)=some (.ok (.rt d))):mkX n N G ds=some (.ok d):=by
 unfold mkX;rw[if_pos hl,h]
theorem G7{G:GZ}{c:Str}{m:Option Int}(hl:ds.length=n)(h:G (W8 N ds)=some (.ex c m δ)):mkX n N G ds=some (.ex c m):=by
 unfold mkX;rw[if_pos hl,h]
theorem okX{st:Stmt}{k:Nat}{G:GZ}(F:Fun K x qual st fa fd)(S:FnScope N ps (u0 st))
  (body:∀(cdv:Value) (A:Around) (outer:List PySem.Env) (s:Shared) (H:Hp) (E:XK),Room k (A.deeper (envOfC qual (u0 st) s.heap.objs.size fa cdv))->PSsX (sa0 (CXE P w) P w K mg base N qual (u0 st) fa cdv A outer s H E) (j6 st) G) :
  FnOk P w K mg base (CXE P w) (k+1) fa fd ps (spX K (mkX ps.length N G)):=by
 obtain⟨oc,od,kV,a1,pm,an,cdv,ct,a0,rfl,lk,U⟩:=F.ex;refine co0 lk U S (λvs H Q E ⟨B,ds,r,_,rr,h,_⟩=>by rw[rr.length];exact(fn0 h).1) λA outer s H vs Q E hr Z=>?_
 obtain⟨B,ds,r,hb,rr,h,q⟩:=Z;refine⟨_,(body cdv A outer s H E hr).go H B (W8 N ds),?_⟩;have en:EnvS K H B H (L2.start N vs) (W8 N ds):=by
  refine⟨Same.refl H,⟨B,λ_ z=>z,λ_ z=>.inl z,⟨?_,hb,λi j a Y es h1 _ _ _=>(vu0 h1).elim⟩⟩,λi Y a h1 _=>(vu0 h1).elim,hb⟩;unfold L2.start W8;rw[rr.length];exact Pd.app (tp0 (N:=N) rr) (p00 _)
 rcases (fn0 h).2 with⟨d,rfl,e⟩|⟨c,m,δ,rfl,e⟩
 ·exact⟨_,en,e,λv H' s' r'=>q v H' s' r'⟩
 ·refine⟨_,en,e,fun σ H' C od' en' n x pins s1 ea I lie=>?_⟩
  refine A0 (I.noted rfl lie λh' I' O=>?_);refine⟨ea,C,od',H',rfl,I'.os,I'.bare,I'.base,I'.hok,O.mono λb z=>⟨z.1,?_⟩,q C od' H' en'.same n x.out⟩;rcases z.2.2.2.1 with y|y
  ·exact absurd (show b∈([]:List Addr) from y) (by simp)
  ·exact y
end
end DL
variable{Gb:DL.GZ}
namespace L2
open Spec PyProof.Rows
theorem fv0{c:Str}{C:Addr}(hm:X.mg c=some (.ref C))(hg:Gl X c)(hd:(c==("__debug__" : Str))=false:=by decide):PE X (.Name c pos) (tC (.ref C)):=λpins s σ H Q I h=>xy0 I hg hm ⟨.ref C,H,I,rfl,h⟩ hd
theorem Xo0{T:String}(hm:X.mg x=none)(hv:bootBuiltins x=some (.type T))(hg:Gl X x)(hn:x ≠"__name__" := by decide)(hd:(x==("__debug__" : Str))=false:=by decide):PE X (.Name x pos) (tC (.ty T)):=λpins s σ H Q I h=>vc0 I hg hm hv ⟨.ty T,H,I,rfl,h⟩ hn hd
noncomputable def Xr0(K:W.Frag)(tl:List Value):List V->Hp->VK->Prop:=λvs H Q=>∃a C W od,vs=[.ref a,.ref W]/\H a=some (.ext (DL.t00 a C od))/\(∀h:Heap,K.In h->XC.Cl h C tl)/\(∃tw,∀h:Heap,K.In h->XC.Cl h W tw)/\Q (.bl ((Value.ref C::tl).contains (.ref W))) H
theorem gm0:CallR X (.builtin "isinstance") (Xr0 X.K tl):=by
 intro pins s σ H xs us Q I r h;obtain⟨a,C,W,od,rfl,hH,cl,⟨tw,cw⟩,q⟩:=h;cases r with
 | cons r1 r =>
  cases r with
  | cons r2 r =>
   cases r;cases r1;cases r2;obtain⟨⟨oe,h1,h2,_⟩,_,_⟩:=I.hok a _ hH;exact XC.aj0 (cl _ I.kIn) (cw _ I.kIn) h1 h2 λt'=>⟨.bl _,H,I.tok t',rfl,q⟩
noncomputable def Wl0(K:W.Frag)(tl:List Value)(T:String)(b:Bool):List V->Hp->VK->Prop:=λvs H Q=>∃a C od,vs=[.ref a,.ty T]/\H a=some (.ext (DL.t00 a C od))/\(∀h:Heap,K.In h->XC.Cl h C tl)/\Q (.bl b) H
theorem gw0{T:String}{b:Bool}(hty:typeOf (.type T)=pure (.type "type"))(hT:XC.bmV.contains (.type T)=b):CallR X (.builtin "isinstance") (Wl0 X.K tl T b):=by
 intro pins s σ H xs us Q I r h;obtain⟨a,C,od,rfl,hH,cl,q⟩:=h;cases r with
 | cons r1 r =>
  cases r with
  | cons r2 r =>
   cases r;cases r1;cases r2;obtain⟨⟨oe,h1,h2,_⟩,_,_⟩:=I.hok a _ hH;exact XC.db0 (cl _ I.kIn) h1 h2 hty hT λt'=>⟨.bl _,H,I.tok t',rfl,q⟩
theorem op0:∀{Ws:List Addr} {us:List Value},Vals (Ws.map V.ref) us->us=Ws.map Value.ref
 | [],_,.nil=>rfl
 | W::Ws,_,.cons r t=>by
  cases r;rw[op0 t];rfl
noncomputable def ownsK(K:W.Frag):List Addr->Prop
 | []=>True
 | W::Ws=>(∃tw,∀h:Heap,K.In h->XC.Cl h W tw)/\ownsK K Ws
theorem ownsK.all(X:K.In h):∀{Ws:List Addr},ownsK K Ws->XC.sy0 h Ws
 | [],_=>trivial
 | W::Ws,⟨⟨tw,c⟩,r⟩=>⟨⟨tw,c h X⟩,ownsK.all X r⟩
noncomputable def Xx0(K:W.Frag)(tl:List Value):List V->Hp->VK->Prop:=λvs H Q=>∃a C tp Ws od,vs=[.ref a,.ref tp]/\H a=some (.ext (DL.t00 a C od))/\H tp=some (.tup (Ws.map V.ref))/\(∀h:Heap,K.In h->XC.Cl h C tl)/\ownsK K Ws/\Q (.bl (Ws.any λW=>(Value.ref C::tl).contains (.ref W))) H
theorem fd0:CallR X (.builtin "isinstance") (Xx0 X.K tl):=by
 intro pins s σ H xs us Q I r h;obtain⟨a,C,tp,Ws,od,rfl,hH,hT,cl,ow,q⟩:=h;cases r with
 | cons r1 r =>
  cases r with
  | cons r2 r =>
   cases r;cases r1;cases r2;obtain⟨⟨oe,h1,h2,_⟩,_,_⟩:=I.hok a _ hH;obtain⟨_,its,rv,tup⟩:=I.hok tp _ hT;rw[op0 rv] at tup;exact XC.a90 (cl _ I.kIn) (ow.all I.kIn) h1 h2 tup.tup λt'=>⟨.bl _,H,I.tok t',rfl,q⟩
end L2
namespace DL
open Spec PyProof.Rows L2
noncomputable def exI(i:Nat)(cs:List Str)(f:Str->Bool):GE:=fun δ=>match δ[i]? with
 | some (.ex c _)=>if cs.contains c=true then some (.bl (f c)) else none
 | _=>none
section
variable{r:Addr}{cs:List Str}{pc:Pos}
theorem mx0{B:BS}{σ:St}{f:Str->Bool}{d:D}(en:Env K H B σ δ)(h:exI i cs f δ=some d) :
  ∃c a C od,c∈cs/\d=.bl (f c)/\σ[i]?=some (some (.ref a))/\H a=some (.ext (t00 a C od))/\W.nsIn K mainGlobals c=some (some (.ref C)):=by
 unfold exI at h;split at h
 ·rename_i c n hδ
  split at h
  ·rename_i hc
   cases h;obtain⟨o,h1,a,rfl,C,od,h2,h3,h4,h5⟩:=Pd.get en.all hδ;exact⟨c,a,C,od,Ax0.mp hc,rfl,h1,h3,h4⟩
  ·cases h
 ·cases h
theorem uc0{c:Str}{C C':Addr}(a:XC.At K mg c C tl)(n:W.nsIn K mainGlobals c=some (some (.ref C'))):C'=C:=by
 have:=n.symm.trans a.ns;cases this;rfl
theorem jb0(T:XC.Tab K mg root r cs rs)(hr:root∉cs){c:Str}{C C':Addr}(h1:c∈cs)(h2:c'∈cs)(a:XC.At K mg c C (.ref r::XC.bmV))(a':XC.At K mg c' C' (.ref r::XC.bmV)) :
  (Value.ref C::Value.ref r::XC.bmV).contains (.ref C')=decide (c=c'):=by
 by_cases e:c=c'
 ·subst e
  rw[uc0 a a'.ns,decide_eq_true rfl];simp
 ·rw[decide_eq_false e]
  have n1:C≠C':=λz=>e (T.diff c (.tail _ h1) c' (.tail _ h2) (by rw[a.ns,a'.ns,z]))
  have n2:r≠C':=λz=>hr (by
   have:=T.diff root (.head _) c' (.tail _ h2) (by rw[T.top.ns,a'.ns,z]);rw[this];exact h2)
  simp[Ne.symm n1,Ne.symm n2]
theorem bz0(i:Nat)(T:XC.Tab X.K X.mg root r cs rs)(hr:root∉cs)(h':c'∈cs)(hm:X.mg "isinstance"=none)(hi:X.N[i]?=some x:=by rfl)(hgi:Gl X "isinstance" := by rfl)(hgc:Gl X c':=by rfl)
  (hv:Vis X.env.scope x:=by first|exact Or.inl rfl|exact Or.inr (Or.inl rfl)|exact Or.inr (Or.inr rfl)) (hd:(x==("__debug__" : Str))=false:=by decide) (hcd:(x==("__classdict__" : Str))=false:=by decide) (hdc:(c'==("__debug__" : Str))=false:=by decide)
  (s1:starEach [.Name c' pc] X.env=[(false,eval (.Name c' pc) X.env)]:=by rfl) (s2:starEach [.Name x px,.Name c' pc] X.env=(false,eval (.Name x px) X.env)::starEach [.Name c' pc] X.env:=by rfl) (hpl:(backTo pos (starEach [.Name c' pc] X.env)).any (·.1)=false:=by rfl) :
  PD X (.Call (.Name "isinstance" p) [.Name x px,.Name c' pc] [] pos) (exI i cs λc=>decide (c=c')):=.mk λB δ=>by
 obtain⟨C',a'⟩:=T.all c' h';refine(v60 (gm0 (tl:=.ref r::XC.bmV)) hgi hm m4 (J9 (vg0 hi hv hd hcd) (J9 (fv0 a'.mg hgc hdc) yw0 s1) s2) (by decide) (by decide) s2 hpl).imp fun σ H Q ⟨d,en,h,k⟩=>?_
 obtain⟨c,a,C,od,hc,rfl,h1,h2,h3⟩:=mx0 en h;obtain⟨C2,a2⟩:=T.all c hc;obtain rfl:=uc0 a2 h3;refine⟨.ref a,h1,a,C,C',od,rfl,h2,a2.cl,⟨_,a'.cl⟩,?_⟩;rw[jb0 T hr hc h' a2 a'];exact k _ _ (Same.refl _) (by rw[Y0])
theorem ab0(i:Nat){Tn:String}{b:Bool}(T:XC.Tab X.K X.mg root r cs rs)(hy:bootBuiltins y=some (.type Tn))(hty:typeOf (.type Tn)=pure (.type "type"))(hT:XC.bmV.contains (.type Tn)=b)(hm:X.mg "isinstance"=none)(hmy:X.mg y=none)(hi:X.N[i]?=some x:=by rfl)(hgi:Gl X "isinstance" := by rfl)(hgc:Gl X y:=by rfl)
  (hv:Vis X.env.scope x:=by first|exact Or.inl rfl|exact Or.inr (Or.inl rfl)|exact Or.inr (Or.inr rfl)) (hd:(x==("__debug__" : Str))=false:=by decide) (hcd:(x==("__classdict__" : Str))=false:=by decide) (hdc:(y==("__debug__" : Str))=false:=by decide) (hny:y ≠"__name__" := by decide)
  (s1:starEach [.Name y pc] X.env=[(false,eval (.Name y pc) X.env)]:=by rfl) (s2:starEach [.Name x px,.Name y pc] X.env=(false,eval (.Name x px) X.env)::starEach [.Name y pc] X.env:=by rfl) (hpl:(backTo pos (starEach [.Name y pc] X.env)).any (·.1)=false:=by rfl) :
  PD X (.Call (.Name "isinstance" p) [.Name x px,.Name y pc] [] pos) (exI i cs λ_=>b):=.mk λB δ=>by
 refine(v60 (gw0 (tl:=.ref r::XC.bmV) hty hT) hgi hm m4 (J9 (vg0 hi hv hd hcd) (J9 (Xo0 hmy hy hgc hny hdc) yw0 s1) s2) (by decide) (by decide) s2 hpl).imp fun σ H Q ⟨d,en,h,k⟩=>?_
 obtain⟨c,a,C,od,hc,rfl,h1,h2,h3⟩:=mx0 en h;obtain⟨C2,a2⟩:=T.all c hc;obtain rfl:=uc0 a2 h3;exact⟨.ref a,h1,a,C,od,rfl,h2,a2.cl,k _ _ (Same.refl _) (by rw[Y0])⟩
end
end DL
namespace L2
open Spec PyProof.Rows
abbrev Cx.body(X:Cx)(pn:List (Addr×Obj))(xe:Value->Shared->Prop):Cx:={ X with pn:=pn,xe:=xe }
abbrev Cx.hand(X:Cx)(A:Around):Cx:={ X with A:=A,calm:=false,xe:=λ_ _=>False }
section
variable{pins':List (Addr×Obj)}{σ:St}{s:Shared}{W:Value->Shared->Prop}
theorem Cx.Ok.body(o:X.Ok){pn:List (Addr×Obj)}:(X.body pn W).Ok:=⟨o.mod,o.kind,o.glob,o.blt,o.above,o.inj,o.has,o.cab,o.hd,o.frames,o.stk,o.exf,o.bs,o.bsz,o.noex,o.exfs,o.funs,o.frf⟩
theorem Cx.Ok.unbody{pn:List (Addr×Obj)}(o:(X.body pn W).Ok):X.Ok:=⟨o.mod,o.kind,o.glob,o.blt,o.above,o.inj,o.has,o.cab,o.hd,o.frames,o.stk,o.exf,o.bs,o.bsz,o.noex,o.exfs,o.funs,o.frf⟩
theorem Inv.toBody(I:Inv X pins σ H s):Inv (X.body (X.pn++pins) W) [] σ H s:=⟨I.ok.body,I.os,I.bare,I.base,I.loc,I.cell,I.free,I.freeC,λp hp=>I.pin p (by simpa using hp),I.hok,I.len⟩
theorem Inv.ofBody(I:Inv (X.body (X.pn++pins) W) pins' σ H s):Inv X pins σ H s:=⟨I.ok.unbody,I.os,I.bare,I.base,I.loc,I.cell,I.free,I.freeC,λp hp=>I.pin p (L4 _ hp),I.hok,I.len⟩
theorem FpW.ofBody{b:Addr}(f:FpW (X.body (X.pn++pins) W) pins' H b):FpW X pins H b:=⟨f.1,f.2.1,f.2.2.1,f.2.2.2.1,f.2.2.2.2.1,λp hp=>f.2.2.2.2.2 p (L4 _ hp)⟩
theorem Cx.Ok.hand(o:X.Ok)(hf:A.frames=X.A.frames):(X.hand A).Ok:=⟨o.mod,o.kind,o.glob,o.blt,o.above,o.inj,o.has,o.cab,(λz=>by cases z),hf.trans o.frames,o.stk,o.exf,o.bs,o.bsz,o.noex,o.exfs,o.funs,o.frf⟩
theorem Inv.toHand(I:Inv X pins σ H s)(hf:A.frames=X.A.frames):Inv (X.hand A) pins σ H s:=⟨I.ok.hand hf,I.os,I.bare,I.base,I.loc,I.cell,I.free,I.freeC,I.pin,I.hok,I.len⟩
theorem Inv.ofHand{σ':St}(I:Inv (X.hand A) pins σ H s)(J:Inv X pins σ' H' s'):Inv X pins σ H s:=⟨J.ok,I.os,I.bare,I.base,I.loc,I.cell,I.free,I.freeC,I.pin,I.hok,I.len⟩
end
end L2
namespace DL
open Spec PyProof.Rows L2
section
variable{B:BS}{σ:St}{C:Addr}{c:Str}
theorem pb0{s:Sl}{d:D}(hs:∀d,s≠.ow d)(h:(δ.set i s)[j]?=some (.ow d)):j≠i:=by
 rintro rfl
 by_cases hl:j<δ.length
 ·rw[List.getElem?_set_self hl] at h
  cases h;exact hs _ rfl
 ·rw[List.getElem?_eq_none (by simpa using hl)] at h
  cases h
theorem Env.setSl{o:Option V}{s:Sl}(e:Env K H B σ δ)(hs:∀d,s≠.ow d)(r:SlR K H B o s):Env K H B (σ.set i o) (δ.set i s):=by
 refine⟨Pd.set r i e.all,e.bad,λj k b ds es h1 h2 h3 h4=>?_⟩;have hj:=pb0 hs h1;have hk:=pb0 hs h2;rw[List.getElem?_set_ne (B3 hj)] at h1 h3;rw[List.getElem?_set_ne (B3 hk)] at h2 h4;exact e.own j k b ds es h1 h2 h3 h4
theorem EnvS.setSl{o:Option V}{s:Sl}(e:EnvS K H₀ B₀ H σ δ)(hs:∀d,s≠.ow d)(r:∀B,Env K H B σ δ->SlR K H B o s):EnvS K H₀ B₀ H (σ.set i o) (δ.set i s):=by
 obtain⟨B,b1,b2,en⟩:=e.ex;refine⟨e.same,⟨B,b1,b2,en.setSl hs (r B en)⟩,λj ds b h1 h2=>?_,e.b0⟩;have hj:=pb0 hs h1;rw[List.getElem?_set_ne (B3 hj)] at h1 h2;exact e.fr j ds b h1 h2
theorem xdB{n:Option Int}(e:EnvS K H₀ B₀ H σ δ)(x:XdX K H₀ B₀ H σ δ od n):∃B,(∀a,B₀ a->B a)/\(∀a,B a->B₀ a∨H₀ a=none)/\Env K H B σ δ/\ek0 H B od n:=by
 cases n with
 | none =>
  obtain⟨B,b1,b2,en⟩:=e.ex;exact⟨B,b1,b2,en,trivial⟩
 | some k =>
  obtain⟨dx,B,h1,h2,h3,b1,b2,en,nb⟩:=x;exact⟨B,b1,b2,en,dx,h1,nb,h3⟩
theorem EnvS.setEx{m:Option Int}(e:EnvS K H₀ B₀ H σ δ)(x:XdX K H₀ B₀ H σ δ od m)(hH:H a=none)(n:W.nsIn K mainGlobals c=some (some (.ref C))):EnvS K H₀ B₀ (upd H a (.ext (t00 a C od))) (σ.set i (some (.ref a))) (δ.set i (.ex c m)):=by
 obtain⟨B,b1,b2,en,xd⟩:=xdB e x;have nb:¬B a:=λz=>en.bad a z hH
 have O:Env K (upd H a (.ext (t00 a C od))) B σ δ:=en.same (X7 hH);have S:ek0 (upd H a (.ext (t00 a C od))) B od m:=by
  cases m with
  | none=>trivial
  | some k =>
   obtain⟨dx,h1,h2,h3⟩:=xd;exact⟨dx,h1,h2,by rw[W4 (O6 h3 hH)];exact h3⟩
 refine⟨e.same.trans (X7 hH),⟨B,b1,b2,O.setSl (λd z=>nomatch z) ⟨a,rfl,C,od,nb,V1,n,S⟩⟩,λj ds b h1 h2=>?_,e.b0⟩;have hj:=pb0 (s:=.ex c m) (λd z=>nomatch z) h1;rw[List.getElem?_set_ne (B3 hj)] at h1 h2;exact e.fr j ds b h1 h2
end
noncomputable def mi0(cs:List Str)(i:Nat)(Gb:GZ)(Gh:GS):GS:=fun δ=>match Gb δ with
 | some (.ok (.nx δ'))=>some (.nx δ')
 | some (.ex c n δ')=>if cs.contains c=true then (match Gh (δ'.set i (.ex c n)) with
  | some (.nx δ'')=>some (.nx (δ''.set i .un))
  | _=>none) else none
 | _=>none
section
variable{r:Addr}{cs:List Str}{body suite:List Stmt}{b₀:Stmt}{hp:Pos}{Gh:GS}
theorem c70{C:Addr}:(Value.ref C::Value.ref r::XC.bmV).contains (.ref r)=true:=by simp
theorem bt0(i:Nat)(T:XC.Tab X.K X.mg root r cs rs)(hb:∀pn xe,PSsX (X.body pn xe) body Gb)(hh:∀e:Addr,PSsD (X.hand (X.A.mark (some (.ref e)))) (b₀::suite) Gh)(hN:X.N.Nodup)(st:X.stack=X.env::X.outer:=by rfl)
  (hi:X.N[i]?=some x:=by rfl) (hx:X.env.scope.names.lookup x=some .local:=by rfl) (hg:Gl X root:=by rfl) (hdb:(root==("__debug__" : Str))=false:=by decide) :
  PSD X (.Try body [.ExceptHandler (some (.Name root np)) (some x) (b₀::suite) hp] [] [] pos) (mi0 cs i Gb Gh):=.mk λH₀ B₀ δ pins s σ H D I ⟨res,en,e,k⟩=>by
 refine wpAny_Try_except ?_;obtain⟨W,hW⟩:∃W:Value->Shared->Prop,W=λe s₁=>wpAny (model X.prog X.w) X.A (noteFrame e X.env) (λ_ s₂=>wpAny (model X.prog X.w) X.A (setFlight e none) (λ_ s₃=>wpAny (model X.prog X.w) X.A (handleBy e X.env [.ExceptHandler (some (.Name root np)) (some x) (b₀::suite) hp]) (SP X pins D) X.xe s₃) X.xe s₂) X.xe s₁:=⟨_,rfl⟩
 rw[← hW];have I1:Inv (X.body (X.pn++pins) W) [] σ H s:=I.toBody;unfold mi0 at e;cases e1:Gb δ with
 | none=>rw[e1] at e;cases e
 | some rx =>
  rw[e1] at e;have run:∀D1:Ends,Xe0 (X.body (X.pn++pins) W) H₀ B₀ D1 rx->wpAny (model X.prog X.w) X.A (execs body X.env) (SP (X.body (X.pn++pins) W) [] D1) W s:=λD1 k1=>(hb (X.pn++pins) W).go H₀ B₀ δ [] s σ H D1 I1 ⟨rx,en,e1,k1⟩
  cases rx with
  | ok r1 =>
   cases r1 with
   | nx δ' =>
    cases e;refine B8 (run { nx:=D.nx,rt:=λ_ _=>False } k) (λf s1 q=>?_) (λ_ _ z=>z);cases f with
    | next =>
     obtain⟨σ',H',I',q⟩:=q;exact o30 pins s1 σ' H' D I'.ofBody q
    | ret v=>obtain⟨_,_,_,_,_,z⟩:=q;exact z.elim
    | brk=>obtain⟨_,_,_,z⟩:=q;exact z.elim
    | cont=>obtain⟨_,_,_,z⟩:=q;exact z.elim
   | rt d=>cases e
   | bk δ'=>cases e
   | ct δ'=>cases e
   | rf d=>cases e
  | ex c m δ' =>
   simp only[] at e;split at e
   ·rename_i hc
    have hc:=Ax0.mp hc;split at e
    ·rename_i δ'' e2
     cases e;refine B8 (run { nx:=λ_ _=>False,rt:=λ_ _=>False } fun σ' H' C od en' n xx pins' s1 ea I' lie'=>?_) (λf s1 q=>?_) (λ_ _ z=>z)
     ·show W (.ref ea) s1
      rw[hW];have I2:Inv X pins σ' H' s1:=I'.ofBody;have a4:pw0 X pins H' s1.heap C od ea:=lie'.mono λb z=>z.ofBody
      refine I2.noted st a4 λh2 I3 O=>?_
      obtain⟨C2,a2⟩:=T.all c hc;obtain rfl:=uc0 a2 n;obtain⟨oe,vs,he,a3,_⟩:=id O;have I4:Inv (X.hand (X.A.mark (some (.ref ea)))) pins σ' H' { s1 with heap:=h2 }:=I3.toHand rfl;refine wpAny_handleBy_cons (codeAny_handlers_test (xy0 I4 hg T.top.mg (XC.j40 (h:=h2) (a2.cl _ I4.kIn) (T.top.cl _ I4.kIn) he a3 ?_) hdb)) (by intro q;cases q);rw[c70];refine codeAny_handlers_suite_as (I4.flown (C:=C) (od:=od) O λh5 I5 a1=>?_);obtain⟨Z,a6,Y,S,a0,a5,_,U,_⟩:=id a1;have I6:Inv (X.hand (X.A.mark (some (.ref ea)))) pins σ' (upd H' ea (.ext (t00 ea C od))) { s1 with heap:=h5 }:=I5.track U ⟨Z,Y,S,λdx z=>a0.trans z,a6,a5⟩ ⟨Z,Y⟩ λg1 g2 ⟨o,q1,q2,q3⟩ q=>⟨o,q o q1,q2,q3⟩
      refine rp0 (X:=X.hand (X.A.mark (some (.ref ea)))) I6 hN hi (.inl hx) (v:=.ref ea) rfl (λs7 I7=>?_) (.inr hx);refine B8 ((hh ea).go H₀ B₀ (δ'.set i (.ex c m)) pins s7 _ _ { nx:=fun σ H=>EnvS X.K H₀ B₀ H σ δ'',rt:=λ_ _=>False } I7 ⟨.nx δ'',en'.setEx xx U.1 n,e2,λ_ _ z=>z⟩) (λf s8 q=>?_) (λ_ _ z=>z.elim);cases f with
      | next =>
       obtain⟨σ8,H8,I8,a7⟩:=q;exact(I8.ofHand I2).goes hN hi hx λs9 I9=>⟨_,H8,I9,k _ _ (a7.setSl (λd z=>nomatch z) λ_ _=>trivial)⟩
      | ret v=>obtain⟨_,_,_,_,_,z⟩:=q;exact z.elim
      | brk=>obtain⟨_,_,_,z⟩:=q;exact z.elim
      | cont=>obtain⟨_,_,_,z⟩:=q;exact z.elim
     ·cases f with
      | next=>obtain⟨_,_,_,z⟩:=q;exact z.elim
      | ret v=>obtain⟨_,_,_,_,_,z⟩:=q;exact z.elim
      | brk=>obtain⟨_,_,_,z⟩:=q;exact z.elim
      | cont=>obtain⟨_,_,_,z⟩:=q;exact z.elim
    ·cases e
   ·cases e
end
theorem ty_ValueError:typeOf (.type "ValueError")=pure (.type "type"):=W.kitMeta_of (by decide +kernel)
structure PCl(X:Cx)(r:Addr)(cs:List Str)(es:List Expr)(ns:List Str):Prop where
 ex:∃Cs:List Addr,PA X es (λ_ H Q=>Q (Cs.map V.ref) H)/\Paired (λ(C:Addr) (n:Str)=>n∈cs/\XC.At X.K X.mg n C (.ref r::XC.bmV)) Cs ns
section
variable{r:Addr}{cs:List Str}{pc tp:Pos}{ns:List Str}
theorem ac0:PCl X r cs [] []:=⟨[],yw0,.nil⟩
theorem zw0(T:XC.Tab X.K X.mg root r cs rs)(h':c'∈cs)(h:PCl X r cs es ns)(hg:Gl X c':=by rfl)(hd:(c'==("__debug__" : Str))=false:=by decide)(hs:starEach (.Name c' pc::es) X.env=(false,eval (.Name c' pc) X.env)::starEach es X.env:=by rfl) :
  PCl X r cs (.Name c' pc::es) (c'::ns):=by
 obtain⟨Cs,ha,hp⟩:=h.ex;obtain⟨C',a'⟩:=T.all c' h';exact⟨C'::Cs,J9 (fv0 a'.mg hg hd) ha hs,.cons ⟨h',a'⟩ hp⟩
theorem js0:∀{Cs:List Addr} {ns:List Str},Paired (λ(C:Addr) (n:Str)=>n∈cs/\XC.At K mg n C (.ref r::XC.bmV)) Cs ns->ownsK K Cs
 | _,_,.nil=>trivial
 | _,_,.cons h t=>⟨⟨_,h.2.cl⟩,js0 t⟩
theorem j90(T:XC.Tab K mg root r cs rs)(hr:root∉cs){c:Str}{C:Addr}(h1:c∈cs)(a:XC.At K mg c C (.ref r::XC.bmV)):∀{Cs:List Addr} {ns:List Str},Paired (λ(C:Addr) (n:Str)=>n∈cs/\XC.At K mg n C (.ref r::XC.bmV)) Cs ns ->
  (Cs.any λW=>(Value.ref C::Value.ref r::XC.bmV).contains (.ref W))=ns.any λn=>decide (c=n)
 | _,_,.nil=>rfl
 | _,_,.cons h t=>by rw[List.any_cons,List.any_cons,j90 T hr h1 a t,jb0 T hr h1 h.1 a h.2]
theorem ex0(i:Nat){x1:Nat}(T:XC.Tab X.K X.mg root r cs rs)(hr:root∉cs)(hcl:PCl X r cs es ns)(hlen:es.length<=100)(hm:X.mg "isinstance"=none)(hi:X.N[i]?=some x:=by rfl)(hgi:Gl X "isinstance" := by rfl)
  (hv:Vis X.env.scope x:=by first|exact Or.inl rfl|exact Or.inr (Or.inl rfl)|exact Or.inr (Or.inr rfl)) (hd:(x==("__debug__" : Str))=false:=by decide) (hcd:(x==("__classdict__" : Str))=false:=by decide)
  (s1:starEach [.Tuple es x1 tp] X.env=[(false,eval (.Tuple es x1 tp) X.env)]:=by rfl) (s2:starEach [.Name x px,.Tuple es x1 tp] X.env=(false,eval (.Name x px) X.env)::starEach [.Tuple es x1 tp] X.env:=by rfl) (hpl:(backTo pos (starEach [.Tuple es x1 tp] X.env)).any (·.1)=false:=by rfl)
  (hl:ns.length<=100:=by decide) :
  PD X (.Call (.Name "isinstance" p) [.Name x px,.Tuple es x1 tp] [] pos) (exI i cs λc=>ns.any λn=>decide (c=n)):=.mk λB δ=>by
 obtain⟨Cs,ha,hp⟩:=hcl.ex;refine(v60 (fd0 (tl:=.ref r::XC.bmV)) hgi hm m4 (J9 (vg0 hi hv hd hcd) (J9 (ll0 ha) yw0 s1) s2) (by decide) (by decide) s2 hpl).imp fun σ H Q ⟨d,en,h,k⟩=>?_
 obtain⟨c,a,C,od,hc,rfl,h1,h2,h3⟩:=mx0 en h;obtain⟨C2,a2⟩:=T.all c hc;obtain rfl:=uc0 a2 h3;have hz:(1000:Nat)<=sizeLine:=by decide
 refine⟨.ref a,h1,by rw[List.length_map,Pd.len hp];omega,λq hq=>⟨a,C,q,Cs,od,rfl,?_,V1,a2.cl,js0 hp,?_⟩⟩
 ·rw[W4 (O6 h2 hq)]
  exact h2
 ·rw[j90 T hr hc a2 hp]
  exact k _ _ (X7 hq) (by rw[Y0])
end
end DL
namespace DL
open Spec PyProof.Rows L2
noncomputable def O3(f:List D->Option DX)(ds:List D):Option D:=match f ds with
 | some (.ok d)=>some d
 | _=>none
theorem kp0{f:List D->Option DX}{d:D}(h:O3 f ds=some d):f ds=some (.ok d):=by
 unfold O3 at h;split at h
 ·rename_i e;cases h;exact e
 ·cases h
theorem nd0{f:List D->Option DX}{d:D}(h:f ds=some (.ok d)):O3 f ds=some d:=by
 unfold O3;rw[h]
section
variable{P:Program}{w:World}
theorem Zc0{f:List D->Option DX}(F:FnOk P w K mg base (CXE P w) k fa fd ps (spX K f)):FnOk P w K mg base CX0 k fa fd ps (spD K (O3 f)):=by
 have cv:∀{vs H Q E},spD K (O3 f) vs H Q E->spX K f vs H Q (λ_ _ _=>False):=λ{vs H Q E} ⟨B,ds,d,hb,r,h,q⟩=>⟨B,ds,.ok d,hb,r,kp0 h,q⟩
 refine⟨λvs H Q E h=>F.len vs H Q _ (cv h),λA outer s H O us vs Q E hr e0 hb r sp=>E9 (F.run A outer s H O us vs Q _ hr e0 hb r (cv sp)) λr s' hq=>?_⟩;cases r with
 | error ex =>
  obtain⟨_,_,_,_,_,_,_,_,_,_,z⟩:=hq;exact z.elim
 | ok fl =>
  cases fl with
  | ret u=>exact hq
  | next=>exact hq
  | brk=>exact hq
  | cont=>exact hq
theorem FnX.plain{f:List D->Option DX}(C:FnX P w K mg base x k ps f):FnD P w K mg base x k ps (O3 f):=by
 obtain⟨fa,fd,F,h⟩:=C.ex;exact⟨fa,fd,Zc0 F,h⟩
end
end DL
namespace DL
open Spec PyProof.Rows L2
noncomputable def qx0(x y:D):Option D:=match y with
 | .non=>some (.bl (match x with|.non=>false|_=>true))
 | _=>none
theorem rz0:Op2 K (λx y H Q=>y=.non/\Q (.bl (!decide (x=.non))) H) qx0:=by
 intro H B x y dx dy d Q hb rx ry h k;have hy:dy=.non:=by cases dy<;>first|rfl|cases h
 subst hy;cases h;rw[R5] at ry;refine⟨ry,k _ H (Same.refl H) ?_⟩;rw[Y0];cases dx<;>simp only[R5,Y0,g8,Y6,T4,V7,u60] at rx
 all_goals first
  | (subst rx;rfl)
  | (obtain⟨a,xs,rfl,_⟩:=rx;rfl)
end DL
namespace L2
open Spec PyProof.Rows
noncomputable def b30(K:W.Frag):R2:=λx y H Q=>∃a xs k,x=.ref a/\y=.int k/\SqL K H a xs/\xs≠[]/\0<=k/\k<2 ^ 62/\xs.length*k.toNat<=2 ^ 20/\∀p,H p=none->Q (.ref p) (upd H p (.lst (List.replicate k.toNat xs).flatten))
theorem Z10:OpR X (binaryOp .Mult) (b30 X.K):=by
 intro pins s σ H x y v u Q I rx ry h;obtain⟨a,xs,k,rfl,rfl,ha,hx,h2,h3,hz,q⟩:=h;cases rx;obtain⟨t,rfl⟩:=ry;obtain⟨its,r1,p1,_⟩:=I.list ha;obtain⟨⟨cls,dd,data,sl⟩,ho,hc,n,hd⟩:=p1.isList;simp only at hc hd;subst hc hd;have hl:=r1.length;have he:its.toArray.isEmpty=false:=by
  cases its with
  | nil=>exact absurd (r1.nil_iff.mp rfl) hx
  | cons a b=>rfl
 have O:its.toArray.size*k.toNat<=2 ^ 20:=by rw[List.size_toArray,← hl];exact hz
 have S:(List.replicate (if its.toArray.isEmpty=true then 0 else k.toNat) its.toArray).foldl (·++·) #[]=(List.replicate k.toNat its).flatten.toArray:=by
  rw[he];have:=foldl_rep its k.toNat [];rw[List.nil_append] at this;exact this
 have a0:¬(!Builtin.List.listFitsIndex k)=true:=by
  have:Builtin.List.listFitsIndex k=true:=by unfold Builtin.List.listFitsIndex;simp;omega
  rw[this];decide
 have Z:¬its.toArray.size*k.toNat > (2 ^ 63 - 1)/8:=by omega
 have Y:¬Builtin.List.listTooLong (its.toArray.size*k.toNat)=true:=by
  rw[List.size_toArray] at O ⊢;unfold Builtin.List.listTooLong;simp;unfold sizeLine;omega
 refine A90 (T := "list") (U := "int") (by decide) ⟨_,ho,rfl⟩ (λs'=>I0 s' k t) noFill_list_mul F.fills_int_mul P7 repeat_list F.slot_int_index.lookup
  (D0 P7 (I0 s k t) F.entry_int_rmul (F.args_int_rmul_2 _ _) (lm_int_rmul_list_any k t a its.toArray n dd sl)
   ⟨ho,rfl,⟨_,ho,rfl⟩,D0 F.slot_list_mul ⟨_,ho,rfl⟩ F.entry_list_mul (F.args_list_mul_2 _ _) (lm_list_mul_any a its.toArray n dd sl k t a0 Z Y) ⟨ho,?_⟩⟩)
 rw[S];exact⟨.ref _,_,I.lnew (t':=s.toks) (r1.rep k.toNat) (by rw[len_rep,Nat.mul_comm];unfold sizeLine;omega),rfl,q _ I.fresh⟩
end L2
namespace DL
open Spec PyProof.Rows L2
noncomputable def mulL:D->D->Option D
 | .lst xs,.int k=>if xs≠[]/\0<=k/\k<2 ^ 62/\xs.length*k.toNat<=2 ^ 20 then some (.lst (List.replicate k.toNat xs).flatten) else none
 | _,_=>none
section
variable{a:Expr}{ga gb:GE}
theorem ci0:Op2 K (b30 K) mulL:=by
 intro H B x y dx dy d Q hb rx ry h k;unfold mulL at h;split at h
 ·split at h
  ·rename_i hz
   cases h;rw[V7] at rx;rw[g8] at ry;subst ry;obtain⟨a,xs,rfl,q1,r1⟩:=rx;refine⟨a,xs,_,rfl,rfl,q1.to,λz=>hz.1 ?_,hz.2.1,hz.2.2.1,by rw[r1.length];exact hz.2.2.2,λp hp=>k _ _ (X7 hp) (u80 hb hp (o90 r1 _))⟩;subst z;have hn:=r1.length;simp at hn;exact E3.mp hn.symm
  ·cases h
 ·cases h
theorem i20(ha:PD X a ga)(hb:PD X b gb):PD X (.BinOp a .Mult b pos) (o2 ga gb mulL):=r00 Z10 ci0 ha hb
end
end DL
namespace L2
open Spec PyProof.Rows
section
variable{w:World}{s:Shared}
theorem m30{elt target iter:Expr}{ifs:List Expr}{scope:Scope}{pos:Pos}{it acc:Value}{env:Env}(I:Nat->Shared->Prop)
  (turn:∀n s,I n s->wpAny (model prog w) A (pyNext it) (λr s₁=>match r with
   | none=>R (.ok .next) s₁
   | some v=>wpAny (model prog w) A (letOwnedTupleGo target it v) (λ_ s₁'=>wpAny (model prog w) A (assign target env v) (λ_ s₂ =>
     wpAny (model prog w) A (forIn ifs true λc r=>if r=true then do let ok ← isTrue c env (eval c env);pure (ForInStep.yield ok) else pure (ForInStep.yield r)) (λok s₃ =>
      if ok=true then wpAny (model prog w) A (eval elt env) (λx s₄ =>
       wpAny (model prog w) A (call (.builtin "list.append") [acc,x]) (λ_ s₅=>∃m,m<n/\I m s₅) (notedBy (model prog w) A env λx s'=>R (.error x) s') s₄) (notedBy (model prog w) A env λx s'=>R (.error x) s') s₃
      else ∃m,m<n/\I m s₃) (notedBy (model prog w) A env λx s'=>R (.error x) s') s₂) (notedBy (model prog w) A env λx s'=>R (.error x) s') s₁') (λ_ _=>False) s₁) (λ_ _=>False) s)
  (n:Nat) (h:I n s) :
  codeAny (model prog w) A (.compLoop (.ListComp elt [⟨target,iter,ifs,0⟩] scope pos) 0 it acc env) R s:=by
 refine codeAny_loop rfl I (λn s hI=>?_) n h;show wpAny _ A ((compTurn (.ListComp elt [⟨target,iter,ifs,0⟩] scope pos) 0 it acc env).onRaise (λx=>do noteFrame x env;theTreesLotGoes x)) _ _ s;refine wpAny_noted ?_;rw[compTurn_list];refine A0 (L5 (A0 (B8 (turn n s hI) (λr s₁ h₁=>?_) λ_ _ h'=>h'.elim)));cases r with
 | none=>exact A3 h₁
 | some v =>
  refine A0 (B8 h₁ (λ_ s₁' O=>?_) λ_ _ h'=>h'.elim);refine A0 (B8 O (λ_ s₂ h₂=>A0 (B8 h₂ (λok s₃ h₃=>?_) λ_ _ h'=>h')) λ_ _ h'=>h');cases ok with
  | false=>exact A3 ⟨rfl,h₃⟩
  | true =>
   exact A0 (A0 (B8 h₃ (λx s₄ h₄=>A0 (B8 h₄ (λ_ s₅ h₅=>A3 (A3 ⟨rfl,h₅⟩)) λ_ _ h'=>h')) λ_ _ h'=>h'))
end
noncomputable def J4(X:Cx)(scope:Scope)(cl:List (Str×Addr))(N':List Str)(s:Shared)(H:Hp)(ex:List Addr)(xe:Value->Shared->Prop):Cx:={ X8 X scope cl N' s H ex with xe:=xe }
section
variable{g:TG}{te:(St->Hp->Addr->Option Addr->Prop)->TE}
theorem g50{pins:List (Addr×Obj)}{σ:St}{H2:Hp}{s2:Shared}{it:Addr}{fp:List Addr}{tn:Nat->Heap->Prop}{J:It}{cl:List (Str×Addr)}{Q:VK}{RR:Value->Addr->Result->Shared->Prop}{E:Value->Shared->Prop}{Ex:Hp->Addr->Option Addr->Prop}
  (hc:X.calm=true) (hst:X.stack=X.env::X.outer) (hsc:X.env.scope=sc) (ok:CompOk sc scope X.N N' n caps)
  (hcl1:∀y c,cl.lookup y=some c->X.env.cells.lookup y=some c) (hcl2:∀x∈scope.names,x.2=.free->∃c,cl.lookup x.1=some c)
  (hg:∀s H ex xe,PG (J4 X scope cl N' s H ex xe) tg g) (ht:∀s H ex xe,PF (J4 X scope cl N' s H ex xe) ifs tt) (he:∀s H ex xe,PE (J4 X scope cl N' s H ex xe) elt (te (yk0 (J4 X scope cl N' s H ex xe))))
  (I2:Inv X pins σ H2 s2) (T:Turn X.prog X.w X.K tg J fp it tn) (st2:tn 0 s2.heap) (f2:∀b∈fp,xu0 X pins H2 b)
  (q:∀wx:St->Hp->Addr->Option Addr->Prop,(∀σ' H' Cc od,Ex H' Cc od->wx σ' H' Cc od)->∀D,H2 D=none->∃W:Nat->Nat->List V->Hp->Prop,(∃m,W 0 m [] (upd H2 D (.lst [])))/\∀i m ys H2,W i m ys H2 ->
   (J.stop i H2/\Q (.ref D) H2)∨(J.go i H2/\∀x H3,J.yld i H2 x H3->g x (X3 n caps σ) H3 fun σ4 H4=>Wk (X3 n caps σ) σ4/\tt σ4 H4 λb H5 =>
    if b=true then te wx σ4 H5 λy H6=>H6 D=some (.lst ys)/\ys.length<sizeLine/\∃m',m'<m/\W (i+1) m' (ys++[y]) (upd H6 D (.lst (ys++[y]))) else ∃m',m'<m/\W (i+1) m' ys H5))
  (hend:∀(D C:Addr) (H':Hp) (s':Shared) (m:Str->Option Value),Inv X pins σ H' s'->qh0 X pins H' C->s'.heap.Ns C m->Q (.ref D) H'->RR (.ref D) C (.ok .next) s')
  (herr:∀(D C:Addr) (H':Hp) (s':Shared) (m:Str->Option Value) (Cc ea:Addr) (od:Option Addr),Inv X pins σ H' s'->qh0 X pins H' C->s'.heap.Ns C m->Ex H' Cc od->LieT (λb=>FpW X pins H' b/\b≠C) s'.heap (.ref Cc) od ea->RR (.ref D) C (.error (.ref ea)) s') :
  wpAny (model X.prog X.w) X.A (newList []) (λacc s₃=>wpAny (model X.prog X.w) X.A (newFunctionEnv scope X.env.globals cl [] X.env.qual none .none (some X.env)) (λcenv s₄ =>
   codeAny (model X.prog X.w) X.A (.compStart (.ListComp elt [⟨tg,iter,ifs,0⟩] scope pos) 0 (.ref it) acc { cenv with scope:=relabel scope X.env }) (RR acc cenv.locals) s₄) E s₃) E s2:=by
 refine D6 (y8 ok.nocell (by intro y hy;simp at hy) (λh₁ Y a0=>?_) ok.kind);dsimp only at Y a0 ⊢;obtain⟨D,hD⟩:∃D,D=s2.heap.objs.size:=⟨_,rfl⟩;have I3:Inv X pins σ (upd H2 s2.heap.objs.size (.lst [])) { s2 with heap:=s2.heap.push { cls:=.type "list",data:=.seq ([]:List Value).toArray } }:=I2.lnew (its:=[]) (t':=s2.toks) .nil (C3 _);have f0:H2 s2.heap.objs.size=none:=I2.fresh;generalize hs3:({ s2 with heap:=s2.heap.push { cls:=.type "list",data:=.seq ([]:List Value).toArray } }:Shared)=s3 at *;have c0:s2.heap.push { cls:=.type "list",data:=.seq ([]:List Value).toArray }=s3.heap:=by rw[← hs3]
 have k7:s2.toks=s3.toks:=by rw[← hs3]
 rw[c0] at Y a0 ⊢;generalize hH3:upd H2 s2.heap.objs.size (HO.lst [])=H3 at *;rw[← hD] at hH3 f0 ⊢;have U:∀b o,s3.heap.get? b=some o->h₁.get? b=some o:=λb o e=>a0.extBut b o (B6 (A4 e)) (B0 _ e)
 have a8:∀b o,s2.heap.get? b=some o->s3.heap.get? b=some o:=λb o e=>by rw[← c0];exact B0 _ e
 have f3:∀b∈fp,b<s3.heap.objs.size:=λb hb=>by
  obtain⟨o,e,_⟩:=T.obj _ _ st2 b hb;exact A4 (a8 b o e)
 have j1:∀b∈fp,b≠D:=λb hb z=>by
  obtain⟨o,e,_⟩:=T.obj _ _ st2 b hb;rw[z,hD] at e;exact absurd (A4 e) (C1 _)
 obtain⟨X',O⟩:∃X',X'=J4 X scope cl N' s3 H3 fp (notedBy (model X.prog X.w) X.A (compEnvC scope cl s3.heap.objs.size X.env) λx s'=>RR (.ref D) s3.heap.objs.size (.error x) s'):=⟨_,rfl⟩;have okX:X'.Ok:=by
  subst O;refine⟨I3.ok.mod,ok.kind,I3.ok.glob,I3.ok.blt,A1 _,λx y c h1 h2=>I3.ok.inj x y c (hcl1 x c h1) (hcl1 y c h2),λx hx=>?_,λx c h _=>absurd h (by simp[J4,X8]),I3.ok.hd,I3.ok.frames,.inl rfl,
   λb hb=>⟨B6 (f3 b hb),λx c e=>(f2 b hb).2.2.2.2.1 x c (hcl1 x c e)⟩,λb o e=>I3.bs b o e,A9 I3.ok.bsz I3.sz,λb o e hb=>?_,λb hb hf=>?_,I3.stack,I3.stkFree⟩
  ·have a6:((relabel scope X.env).names.lookup x=some .cell)∨((relabel scope X.env).names.lookup x=some .free):=hx
   have q2:=J8 (env:=X.env) scope.names x;have q3:(relabel scope X.env).names.lookup x=(scope.names.lookup x).map λk=>if (k==NameKind.free&&X.env.scope.kind==.function&&X.env.kindOf x==some .cell)=true then NameKind.cell else k:=q2
   cases e:scope.names.lookup x with
   | none =>
    rw[q3,e] at a6;rcases a6 with z|z<;>cases z
   | some k =>
    have hk:k=.free:=by
     rw[q3,e] at a6;have nc:=ok.nocell (x,k) (C8 e);cases k<;>first
      | rfl
      | exact absurd rfl nc
      | (rcases a6 with z|z<;>simp at z)
    subst hk;exact hcl2 (x,.free) (C8 e) rfl
  ·rcases (f2 b hb).2.2.2.1 with z|z
   ·exact I3.ok.noex b o e z
   ·exact absurd (B5 (A4 (I3.ok.bs b o e).1) z) (C1 _)
  ·rcases B1.mp (I3.stkSub b hf) with z|z
   ·exact(f2 b hb).2.1 z
   ·exact(f2 b hb).2.2.1 z
 have I4:Inv X' [] (X3 n caps σ) H3 { s3 with heap:=h₁,toks:=s2.toks+([]:List (Str×Value)).length }:=by
  refine⟨okX,?_,?_,?_,?_,λx c e=>?_,?_,λx c e=>?_,λp hp=>?_,(by subst O;exact I3.hok.kept U),?_⟩
  ·subst O;rfl
  ·exact I3.bare
  ·subst O;exact Un.kept U
  ·subst O
   refine⟨_,Y,λi x v e1 e2 e3=>?_⟩;have hi:n<=i:=by
    by_cases hi:i<n
    ·unfold X3 at e2
     rw[List.getElem?_append_left (by simpa using hi),List.getElem?_replicate,if_pos hi] at e2;cases e2
    ·omega
   obtain⟨k,rfl⟩:∃k,i=n+k:=⟨i - n,by omega⟩;have hk:k<caps.length:=by
    have:=(K2.mp (show N'[n+k]?=some x from e1)).1;have e5:N'.length=n+caps.length:=ok.len;omega
   obtain⟨c1,c2⟩:=ok.cap k (B4.mpr hk);have d3:N'[n+k]?=some x:=e1;unfold X3 at e2;rw[List.getElem?_append_right (by simp),List.length_replicate,Nat.add_sub_cancel_left,List.getElem?_map] at e2;obtain⟨j,hj⟩:∃j,caps[k]?=some j:=⟨caps[k],by simp[hk]⟩;rw[hj] at e2 c1;have k0:X.N[j]?=some x:=by rw[← d3,c1];rfl
   have a5:(σ[j]?).join=some v:=B2 e2;have g2:σ[j]?=some (some v):=by
    cases q:σ[j]? with
    | none=>rw[q] at a5;cases a5
    | some o=>rw[q] at a5;rw[show o=some v from a5]
   rw[d3] at c2;have S:scope.names.lookup x=some .free:=by simpa using c2
   have a7:=ok.free (x,.free) (C8 S) rfl;obtain⟨m,hn,hl⟩:=I3.loc;obtain⟨u,ru,l⟩:=hl j x v k0 g2 (by
    rcases a7 with z|z
    ·exact .inr (.inl (by rw[hsc];exact z))
    ·exact .inr (.inr (by rw[hsc];exact z)))
   refine⟨u,ru,.inr ⟨?_,?_⟩⟩
   ·have q3:(relabel scope X.env).names.lookup x=(scope.names.lookup x).map λk=>if (k==NameKind.free&&X.env.scope.kind==.function&&X.env.kindOf x==some .cell)=true then NameKind.cell else k:=J8 scope.names x
    rw[S] at q3;show (relabel scope X.env).names.lookup x=_∨(relabel scope X.env).names.lookup x=_;rw[q3]
    by_cases hcc:(NameKind.free==NameKind.free&&X.env.scope.kind==.function&&X.env.kindOf x==some .cell)=true
    ·left;simp only[Option.map_some,if_pos hcc]
    ·right;simp only[Option.map_some,if_neg hcc]
   ·obtain⟨c',d2⟩:=hcl2 (x,.free) (C8 S) rfl
    rcases l with⟨h9,_⟩|⟨_,c,k3,c7⟩
    ·have b1:X.env.scope.names.lookup x=some .local:=h9
     rw[hsc] at b1;rcases a7 with z|z<;>(rw[b1] at z;cases z)
    ·have:=hcl1 x c' d2
     rw[k3] at this;cases this;obtain⟨o,ho,hd⟩:=c7;exact⟨_,d2,o,U _ o ho,hd⟩
  ·have e':cl.lookup x=some c:=by subst O;exact e
   obtain⟨v,o,ho,hd⟩:=I3.cell x c (hcl1 x c e');exact⟨v,o,U _ o ho,hd⟩
  ·subst O;exact I3.hok.fresh (A1 _)
  ·have e':cl.lookup x=some c:=by subst O;exact e
   exact I3.freeC x c (hcl1 x c e')
  ·subst O;exact absurd hp (by simp[J4,X8])
  ·subst O
   show _=N'.length;rw[nf0,ok.len]
 have b2:X'.calm=true:=by subst O;exact hc
 have Z:∀{H':Hp},(∀b∈fp,H' b=none)->∀b∈fp,xu0 X' [] H' b:=λ{H'} hn b hb=>by
  subst O;refine⟨hn b hb,B6 (f3 b hb),λhf=>?_,.inl hb,λx c e=>(f2 b hb).2.2.2.2.1 x c (hcl1 x c e),λp hp=>absurd hp (by simp[J4,X8])⟩;rcases B1.mp (I3.stkSub b hf) with z|z
  ·exact(f2 b hb).2.1 z
  ·exact(f2 b hb).2.2.1 z
 have k5:∀b∈fp,H3 b=none:=λb hb=>by rw[← hH3,W4 (j1 b hb)];exact(f2 b hb).1
 have a4:∀{σa:St} {Ha:Hp} {sa:Shared} {pa:List (Addr×Obj)},Inv X' pa σa Ha sa->Inv X pins σ Ha sa/\qh0 X pins Ha s3.heap.objs.size/\∃m,sa.heap.Ns s3.heap.objs.size m:=λ{σa Ha sa pa} Ia=>by
  have k4:Un (frs X.stack) fp H3 Ha s3.heap sa.heap:=by have:=Ia.base;subst O;exact this
  have h0:sa.os=s3.os:=by have:=Ia.os;subst O;exact this
  have f5:HOk X.prog X.w Ha sa.heap:=by have:=Ia.hok;subst O;exact this
  have IX:Inv X pins σ Ha sa:=I3.call' h0 k4 f5 Ia.bare λb hb=>⟨(f2 b hb).2.2.2.1,(f2 b hb).2.1,(f2 b hb).2.2.2.2.1,(f2 b hb).2.2.2.2.2⟩
  obtain⟨m6,b9,_⟩:=Ia.loc;have f6:sa.heap.Ns s3.heap.objs.size m6:=by subst O;exact b9
  refine⟨IX,⟨by have:=Ia.free;subst O;exact this,D8 I3.lt,I3.sz,λx c e z=>?_,λp hp z=>?_⟩,m6,f6⟩
  ·obtain⟨v,qc⟩:=I3.cell x c e
   exact absurd (B5 qc.lt (D9 z.symm)) (C1 _)
  ·exact absurd (B5 (A4 (I3.pin p hp).1) (D9 z.symm)) (C1 _)
 have k1:X.env.frame=some X.env.locals:=I3.frame hst;have wish:∀σ' H' Cc od,Ex H' Cc od->yk0 X' σ' H' Cc od:=fun σ' H' Cc od ex pa sa ea Ia lie=>by
  have e1:X'.xe=notedBy (model X.prog X.w) X.A X'.env λx s'=>RR (.ref D) s3.heap.objs.size (.error x) s':=by subst O;rfl
  have e2:noteFrame (.ref ea) X'.env=noteFrame (.ref ea) X.env:=by
   have:X'.env.frame=X.env.frame:=by subst O;rfl
   unfold noteFrame PySem.frameOf;rw[this]
  rw[e1];unfold notedBy;rw[e2];have eb:X'.base=X.base:=by subst O;rfl
  have f1:X'.stack=X.stack:=by subst O;rfl
  have fr:X.A.frames=some (X.env::X.outer):=by rw[I3.ok.frames,hst]
  have stk:sa.heap.FunFrames X.base (X.env::X.outer):=by have:=Ia.stack;rw[eb,f1,hst] at this;exact this
  refine b50 fr stk k1 lie (λb hb=>Ia.fpW (O0 hb) (Ia.hok.fresh hb)) λh' nd le=>?_
  have I6:=Ia.afterNote (λb hb=>by rw[f1,hst];exact hb) nd;obtain⟨IX,as,m,hn⟩:=a4 I6;refine herr D _ H' _ m Cc ea od IX as hn ex (le.mono λb z=>⟨?_,?_⟩)
  ·obtain⟨z1,z2,z3,z4,z5,z6⟩:=z
   have h4:b∈fp∨s3.heap.get? b=none:=by subst O;exact z4
   have l0:b∉frs X.stack:=by subst O;exact z3
   rcases h4 with hb|hb
   ·refine⟨z1,(f2 b hb).2.1,(f2 b hb).2.2.1,?_,(f2 b hb).2.2.2.2.1,(f2 b hb).2.2.2.2.2⟩
    rcases (f2 b hb).2.2.2.1 with y|y
    ·exact .inl y
    ·exact .inr (O0 y)
   ·exact I3.fpW hb z1
  ·have:=z.2.1
   subst O;exact this
 have c8:=q (yk0 X') wish D f0;obtain⟨W,⟨m0,w0⟩,f9⟩:=c8;rw[hH3] at w0;have e0:tn 0 h₁:=T.keep _ _ _ st2 λb hb o e=>U b o (a8 b o e)
 have loop:∀s4:Shared,s4={ s3 with heap:=h₁,toks:=s2.toks+([]:List (Str×Value)).length } ->
   codeAny (model X.prog X.w) X.A (.compLoop (.ListComp elt [⟨tg,iter,ifs,0⟩] scope pos) 0 (.ref it) (.ref D) X'.env) (RR (.ref D) s3.heap.objs.size) s4:=by
  rintro s4 rfl;refine m30 (λk s'=>∃i ys H',Inv X' [] (X3 n caps σ) H' s'/\tn i s'.heap/\(∀b∈fp,H' b=none)/\W i k ys H') ?_ m0 ⟨0,[],H3,I4,e0,k5,w0⟩;rintro k s5 ⟨i,ys,H5,I5,f4,c9,w5⟩;have eP:X'.prog=X.prog:=by subst O;rfl
  have ew:X'.w=X.w:=by subst O;rfl
  have eK:X'.K=X.K:=by subst O;rfl
  have eA:X'.A=X.A:=by subst O;rfl
  rcases f9 i k ys H5 w5 with⟨stop,qe⟩|⟨go,step⟩
  ·have T':=T.done X' eP ew eK b2 i [] s5 (X3 n caps σ) H5 (λ_ _=>False) I5 (Z c9) f4 stop
   rw[eA] at T';refine thn T' λr s6 ⟨hr,I6⟩=>?_
   subst hr;obtain⟨IX,as,m6,b9⟩:=a4 I6;exact hend D s3.heap.objs.size H5 s6 m6 IX as b9 qe
  ·have T':=T.item X' eP ew eK b2 i [] s5 (X3 n caps σ) H5 (λ_ _=>False) I5 (Z c9) f4 go
   rw[eA] at T';refine thn T' λr s6 ⟨u,hr,h6⟩=>?_
   subst hr;refine thn h6 λ_ s7 ⟨x,H7,I7,r7,y7,c6,j2⟩=>?_
   have k2:=I7.pinned (Z j2) (T.obj _ _ c6);have e6:=hg s3 H3 fp (notedBy (model X.prog X.w) X.A (compEnvC scope cl s3.heap.objs.size X.env) λx s'=>RR (.ref D) s3.heap.objs.size (.error x) s');have d1:=ht s3 H3 fp (notedBy (model X.prog X.w) X.A (compEnvC scope cl s3.heap.objs.size X.env) λx s'=>RR (.ref D) s3.heap.objs.size (.error x) s');have e4:=he s3 H3 fp (notedBy (model X.prog X.w) X.A (compEnvC scope cl s3.heap.objs.size X.env) λx s'=>RR (.ref D) s3.heap.objs.size (.error x) s');rw[← O] at e6 d1 e4;have g1:=e6 _ s7 (X3 n caps σ) H7 x u _ k2 r7 (step x H7 y7);rw[eP,ew,eA] at g1;have a2:X'.xe=notedBy (model X.prog X.w) X.A X'.env λx s'=>RR (.ref D) s3.heap.objs.size (.error x) s':=by subst O;rfl
   rw[a2] at g1;refine thn g1 λ_ s8 ⟨σ8,H8,I8,a3,q8⟩=>?_
   have t1:=d1 _ s8 σ8 H8 _ I8 q8;rw[eP,ew,eA,a2] at t1;refine thn t1 λb s9 ⟨H9,I9,q9⟩=>?_
   have b0:∀{σa:St} {Ha:Hp} {sa:Shared} {a9:List V} {ma:Nat},Inv X' ([]++vb0 fp s7.heap) σa Ha sa->σa.length=(X3 n caps σ).length->(∀(j:Nat) v,(X3 n caps σ)[j]?=some (some v)->σa[j]?=some (some v))->W (i+1) ma a9 Ha ->
     ∃i ys H',Inv X' [] (X3 n caps σ) H' sa/\tn i sa.heap/\(∀b∈fp,H' b=none)/\W i ma ys H':=λ{σa Ha sa a9 ma} Ia hl hw wa=>by
    refine⟨i+1,a9,Ha,(Ia.weak hl.symm hw).unpinned,T.keep _ _ _ c6 λb hb o e=>(Ia.pin (b,o) (C0 _ (C0 _ (z80 hb e)))).1,λb hb=>?_,wa⟩;obtain⟨o,e,d⟩:=T.obj _ _ c6 b hb;exact(Ia.pin (b,o) (C0 _ (C0 _ (z80 hb e)))).2.1
   cases b with
   | false =>
    rw[if_neg A8];rw[if_neg A8] at q9;obtain⟨m',hm,w9⟩:=q9;exact⟨m',hm,b0 I9 a3.1 a3.2 w9⟩
   | true =>
    rw[if_pos rfl];rw[if_pos rfl] at q9;have e1:=e4 _ s9 σ8 H9 _ I9 q9;rw[eP,ew,eA,a2] at e1;refine thn e1 λv g6 ⟨y,h3,k6,h5,f7,f8,m',hm,h7⟩=>?_
    have a1:=vw0 (X:=X') _ g6 σ8 h3 (.ref D) [y] (.ref D) [v] (λ_ H'=>W (i+1) m' (ys++[y]) H') k6 rfl (.cons h5 .nil) ⟨D,ys,y,rfl,rfl,f7,f8,h7⟩;rw[eP,ew,eA,a2] at a1;refine thn a1 λ_ k8 ⟨_,k9,g3,_,h8⟩=>?_
    exact⟨m',hm,b0 g3 a3.1 a3.2 h8⟩
 subst O;exact i6 (loop _ (by rw[← hs3])) (T.self X.A 0 _ _ _ e0 (loop _ (by rw[← hs3])))
noncomputable def g70(X:Cx)(n:Nat)(caps:List Nat)(wi:TI)(g:TG)(tt:TT)(te:(St->Hp->Addr->Option Addr->Prop)->TE):TE:=fun σ H Q=>wi σ H λJ H1=>∀wx:St->Hp->Addr->Option Addr->Prop,(∀σ' H' Cc od,yk0 X σ H' Cc od->wx σ' H' Cc od)->∀D,H1 D=none ->
 ∃W:Nat->Nat->List V->Hp->Prop,(∃m,W 0 m [] (upd H1 D (.lst [])))/\∀i m ys H2,W i m ys H2 ->
  (J.stop i H2/\Q (.ref D) H2)∨(J.go i H2/\∀x H3,J.yld i H2 x H3->g x (X3 n caps σ) H3 fun σ4 H4=>Wk (X3 n caps σ) σ4/\tt σ4 H4 λb H5 =>
   if b=true then te wx σ4 H5 λy H6=>H6 D=some (.lst ys)/\ys.length<sizeLine/\∃m',m'<m/\W (i+1) m' (ys++[y]) (upd H6 D (.lst (ys++[y]))) else ∃m',m'<m/\W (i+1) m' ys H5)
theorem d30(hc:X.calm=true)(hst:X.stack=X.env::X.outer)(hsc:X.env.scope=sc)(ok:CompOk sc scope X.N N' n caps)(hi:PI X tg iter wi)
  (hg:∀cl s H ex xe,PG (J4 X scope cl N' s H ex xe) tg g) (ht:∀cl s H ex xe,PF (J4 X scope cl N' s H ex xe) ifs tt) (he:∀cl s H ex xe,PE (J4 X scope cl N' s H ex xe) elt (te (yk0 (J4 X scope cl N' s H ex xe))))
  (hs:∀x,foldedSetIterable iter X.env x=pure x:=by intro _;rfl) :
  PE X (.ListComp elt [⟨tg,iter,ifs,0⟩] scope pos) (g70 X n caps wi g tt te):=by
 intro pins s σ H Q I h;obtain⟨cl,O,U,S⟩:=yu0 (env:=X.env) (scope:=scope) λx hx hf=>I.ok.has x.1 (by
  rcases ok.free x hx hf with z|z
  ·exact .inl (by show X.env.scope.names.lookup x.1=_;rw[hsc];exact z)
  ·exact .inr (by show X.env.scope.names.lookup x.1=_;rw[hsc];exact z))
 rw[eval_ListComp];refine P5 (use:=none) rfl hs O ok.kind ok.loc (thn (hi pins s σ H _ I h) λv s1 h1=>thn h1 λa2 s2 h2=>?_);obtain⟨it,fp,tn,J,H2,rfl,I2,T,Y,f2,q2⟩:=h2;refine g50 (Q:=Q) (RR:=λa0 C=>compPost (model X.prog X.w) X.A X.xe none (EP X pins σ Q) a0 C) (Ex:=λH' Cc od=>yk0 X σ H' Cc od) hc hst hsc ok U S (hg cl) (ht cl) (he cl) I2 T Y f2 q2 ?_ ?_
 ·intro D C H' s' m IX as hn qe
  refine⟨m,hn,λh' sb=>⟨.ref D,H',IX.turned (t':=s'.toks) (λb o hb e=>(sb.2 b hb).trans e) as.1 as.2.1 (.inr as.2.2.1) as.2.2.2.1 as.2.2.2.2,rfl,qe⟩⟩
 ·intro D C H' s' m Cc ea od IX as hn ex le
  refine⟨m,hn,λh' sb a1 _=>?_⟩;have I':Inv X pins σ H' { s' with heap:=h' }:=IX.turned (t':=s'.toks) (λb o hb e=>(sb.2 b hb).trans e) as.1 as.2.1 (.inr as.2.2.1) as.2.2.2.1 as.2.2.2.2;obtain⟨oe,vs,h1,h2,h3,h4,h5,⟨h6,n6⟩,v,h7,T,oT,ts,t1,t2,⟨t3,n3⟩,t4,t5⟩:=le;have g1:h'.get? ea=some oe:=(sb.2 ea n6).trans h1;have Z:LieT (FpW X pins H') h' (.ref Cc) od ea:=⟨oe,vs,g1,h2,h3,h4,h5,h6,v,h7,T,oT,ts,t1,t2,t3,(sb.2 T n3).trans t4,t5⟩;unfold PySem.passOn;refine A0 (D5 g1 h4 h7 ?_);rw[if_neg (by rw[t1];simp)];refine A0 (oj0 (s:={ s' with heap:=h' }) Z λh2 nd l2=>?_);exact wpAny_throw (ex pins _ ea (I'.afterNote (F:=[]) (λb hb=>by cases hb) nd) l2.lie)
end
end L2
namespace DL
open Spec PyProof.Rows L2
abbrev WX:=St->Hp->Addr->Option Addr->Prop
abbrev GXe:=Ds->Option DX
inductive AX where
 | ok (ds:List D)|ex (c:Str) (n:Option Int)
abbrev GAX:=Ds->Option AX
noncomputable def Va0(K:W.Frag)(B:BS)(σ:St)(H:Hp)(wx:WX)(Q:VK):DX->Prop
 | .ok d=>∀v H',Same H H'->Rp K H' B d v->Q v H'
 | .ex c n=>∀C od H',Same H H'->W.nsIn K mainGlobals c=some (some (.ref C))->XdS H H' od n->wx σ H' C od
noncomputable def Wu0(K:W.Frag)(B:BS)(σ:St)(H:Hp)(wx:WX)(Q:List V->Hp->Prop):AX->Prop
 | .ok ds=>∀vs H',Same H H'->Rps K H' B ds vs->Q vs H'
 | .ex c n=>∀C od H',Same H H'->W.nsIn K mainGlobals c=some (some (.ref C))->XdS H H' od n->wx σ H' C od
noncomputable def tDX(K:W.Frag)(B:BS)(δ:Ds)(g:GXe)(wx:WX):TE:=fun σ H Q=>∃r,Env K H B σ δ/\g δ=some r/\Va0 K B σ H wx Q r
noncomputable def V70(K:W.Frag)(B:BS)(δ:Ds)(g:GAX)(wx:WX):TA:=fun σ H Q=>∃r,Env K H B σ δ/\g δ=some r/\Wu0 K B σ H wx Q r
structure PDX(X:Cx)(e:Expr)(g:GXe):Prop where
 mk::go:∀B δ,PE X e (tDX X.K B δ g (yk0 X))
structure PDAX(X:Cx)(es:List Expr)(g:GAX):Prop where
 mk::go:∀B δ,PA X es (V70 X.K B δ g (yk0 X))
theorem XdS.lower{n:Option Int}(s:Same H H1)(x:XdS H1 H' od n):XdS H H' od n:=by
 cases n with
 | none=>trivial
 | some k =>
  obtain⟨dx,e,h1,h2⟩:=x;exact⟨dx,e,wg0 s h1,h2⟩
noncomputable def okE(g:GE):GXe:=fun δ=>(g δ).map .ok
noncomputable def u00:GAX:=λ_=>some (.ok [])
noncomputable def M6(g:GXe)(gA:GAX):GAX:=fun δ=>(g δ).bind λr=>match r with
 | .ex c n=>some (.ex c n)
 | .ok d=>(gA δ).map λa=>match a with
  | .ex c n=>.ex c n
  | .ok ds=>.ok (d::ds)
noncomputable def xm0(gA:GAX):GXe:=fun δ=>(gA δ).bind λr=>match r with
 | .ex c n=>some (.ex c n)
 | .ok ds=>if ds.length<=sizeLine then some (.ok (.tup ds)) else none
noncomputable def oAX(gA:GAX)(f:List D->Option D):GXe:=fun δ=>(gA δ).bind λr=>match r with
 | .ex c n=>some (.ex c n)
 | .ok ds=>(f ds).map .ok
noncomputable def lm0(g:GXe):GXe:=fun δ=>(g δ).bind λr=>match r with
 | .ex c n=>some (.ex c n)
 | .ok d=>(K9 d).map .ok
noncomputable def R0(gA:GA)(f:List D->Option DX):GXe:=fun δ=>(gA δ).bind f
noncomputable def yv0(pre:List D):AX->AX
 | .ex c n=>.ex c n
 | .ok ys=>.ok (pre++ys)
theorem gj0(a:AX):yv0 [] a=a:=by cases a<;>rfl
theorem ed0(a b:List D)(x:AX):yv0 a (yv0 b x)=yv0 (a++b) x:=by cases x<;>simp[yv0]
noncomputable def toE:AX->DX
 | .ex c n=>.ex c n
 | .ok ds=>.ok (.lst ds)
noncomputable def yg0(f:D->Ds->Option Ds)(ge:GXe)(δ:Ds):List D->Option AX
 | []=>some (.ok [])
 | d::ds=>(f d δ).bind fun δ'=>(ge δ').bind λr=>match r with
  | .ex c n=>some (.ex c n)
  | .ok y=>(yg0 f ge δ ds).map (yv0 [y])
noncomputable def wu0(n:Nat)(caps:List Nat)(gi:GA)(f:D->Ds->Option Ds)(ge:GXe):GXe :=
 fun δ=>(gi δ).bind λitems=>if items.length<=sizeLine then (yg0 f ge (M9 n caps δ) items).map toE else none
noncomputable def z00(g:GXe):GZ:=fun δ=>(g δ).map λr=>match r with
 | .ok d=>.ok (.rt d)
 | .ex c n=>.ex c n δ
noncomputable def us0(i:Nat)(g:GXe):GZ:=fun δ=>(g δ).map (d20 i δ)
section
variable{a:Expr}{g ga:GXe}{gA:GAX}
theorem ld0{g:GE}(h:PD X e g):PDX X e (okE g):=.mk λB δ=>(h B δ).imp fun σ H Q ⟨r,en,e1,k⟩=>by
 unfold okE at e1;cases e2:g δ with
 | none=>rw[e2] at e1;cases e1
 | some d =>
  rw[e2] at e1;cases e1;exact⟨d,en,e2,k⟩
theorem xq0:PDAX X [] u00:=.mk λB δ=>yw0.imp fun σ H Q ⟨r,en,e1,k⟩=>by cases e1;exact k [] H (Same.refl H) (by rw[X6])
theorem zd0(ha:PDX X e g)(hr:PDAX X es gA)(hs:starEach (e::es) X.env=(false,eval e X.env)::starEach es X.env:=by rfl):PDAX X (e::es) (M6 g gA) :=
 .mk λB δ=>(J9 (ha.go B δ) (hr.go B δ) hs).imp fun σ H Q ⟨r,en,h,k⟩=>by
  unfold M6 at h;cases e1:g δ with
  | none=>rw[e1] at h;cases h
  | some x =>
   rw[e1] at h;cases x with
   | ex c n =>
    cases h;exact⟨_,en,e1,k⟩
   | ok d =>
    cases e2:gA δ with
    | none=>simp only[Option.bind_some,e2] at h;cases h
    | some y =>
     simp only[Option.bind_some,e2,Option.map_some] at h;refine⟨_,en,e1,λv H1 s1 r1=>⟨_,en.same s1,e2,?_⟩⟩;cases y with
     | ex c n =>
      cases h;exact λC od H' s2 q x=>k C od H' (s1.trans s2) q (x.lower s1)
     | ok ds =>
      cases h;intro vs H2 s2 r2;refine k _ H2 (s1.trans s2) ?_;rw[Y4];exact⟨v,vs,rfl,r1.same s2,r2⟩
theorem oh0{x1}(h:PDAX X es gA):PDX X (.Tuple es x1 pos) (xm0 gA) :=
 .mk λB δ=>(ll0 (h.go B δ)).imp fun σ H Q ⟨r,en,h,k⟩=>by
  unfold xm0 at h;cases e1:gA δ with
  | none=>rw[e1] at h;cases h
  | some y =>
   simp only[e1,Option.bind_some] at h;cases y with
   | ex c n=>cases h;exact⟨_,en,e1,k⟩
   | ok ds =>
    by_cases hl:ds.length<=sizeLine
    ·simp only[if_pos hl] at h
     cases h;refine⟨_,en,e1,λvs H1 s1 r1=>⟨by rw[r1.length];exact hl,λp hp=>k _ _ (s1.trans (X7 hp)) ?_⟩⟩;rw[T4];exact⟨p,vs,rfl,⟨(en.same s1).free hp,V1⟩,r1.same (X7 hp)⟩
    ·simp only[if_neg hl] at h
     cases h
theorem uq0{T:String}{f:List D->Option D}(hc:CallR X (.type T) r)(hf:FnR X.K r f)(hm:X.mg x=none)(hv:bootBuiltins x=some (.type T))(ha:PDAX X (e::es) gA)(hg:Gl X x:=by rfl)
  (hn:x ≠"__name__" := by decide) (hdb:(x==("__debug__" : Str))=false:=by decide) (he:starEach (e::es) X.env=(false,eval e X.env)::starEach es X.env:=by rfl) (hpl:(backTo pos (starEach es X.env)).any (·.1)=false:=by rfl) :
  PDX X (.Call (.Name x p) (e::es) [] pos) (oAX gA f):=.mk λB δ=>(oz0 hc hg hm hv (ha.go B δ) hn hdb he hpl).imp fun σ H Q ⟨r,en,h,k⟩=>by
  unfold oAX at h;cases e1:gA δ with
  | none=>rw[e1] at h;cases h
  | some y =>
   simp only[e1,Option.bind_some] at h;cases y with
   | ex c n=>cases h;exact⟨_,en,e1,k⟩
   | ok ds =>
    dsimp only at h;cases e2:f ds with
    | none=>rw[e2] at h;cases h
    | some d =>
     rw[e2] at h;cases h;exact⟨_,en,e1,λvs H1 s1 r1=>hf H1 B vs ds d Q (en.same s1).bad r1 e2 λv H' s r=>k v H' (s1.trans s) r⟩
theorem bn0(h:PDX X a ga):PDX X (.UnaryOp .USub a pos) (lm0 ga):=.mk λB δ=>(cl0 fx0 (h.go B δ)).imp fun σ H Q ⟨r,en,h,k⟩=>by
 unfold lm0 at h;cases e1:ga δ with
 | none=>rw[e1] at h;cases h
 | some x =>
  simp only[e1,Option.bind_some] at h;cases x with
  | ex c n=>cases h;exact⟨_,en,e1,k⟩
  | ok d =>
   cases d<;>simp[K9] at h
   subst h;exact⟨_,en,e1,λv H' s r=>⟨_,by rw[g8] at r;exact r,k _ H' s (by rw[g8])⟩⟩
theorem yb0{f:List D->Option DX}{gA:GA}(C:FnX X.prog X.w X.K X.mg X.base x k ps f)(hr:Room m X.A)(hk:k<=m)(ha:PDA X (e::es) gA)
  (hg:Gl X x:=by rfl) (hdb:(x==("__debug__" : Str))=false:=by decide) (he:starEach (e::es) X.env=(false,eval e X.env)::starEach es X.env:=by rfl) (hpl:(backTo pos (starEach es X.env)).any (·.1)=false:=by rfl) :
  PDX X (.Call (.Name x p) (e::es) [] pos) (R0 gA f):=.mk λB δ=>by
 obtain⟨fa,fd,F,hm,O,hb⟩:=C.ex;refine(lu0 (dvs:=[]) (ds:=[]) F (hr.mono hk) hg hm O hb .nil (ha B δ) hdb he hpl).imp fun σ H Q ⟨r,en,h,k⟩=>?_
 unfold R0 at h;cases e1:gA δ with
 | none=>rw[e1] at h;cases h
 | some ds =>
  rw[e1,Option.bind_some] at h;refine⟨ds,en,e1,λvs H1 s1 r1=>?_⟩;show spX X.K f (vs++[]) H1 _ _;rw[List.append_nil];refine⟨B,ds,r,(en.same s1).bad,r1,h,?_⟩;cases r with
  | ok d=>exact λv H' s2 r2=>k v H' (s1.trans s2) r2
  | ex c n =>
   intro C od H' s2 q x C' z;cases z;exact k C od H' (s1.trans s2) q (x.lower s1)
theorem wx0(h:PDX X e g):PSX X (.Return (some e) pos) (z00 g):=.mk λH₀ B₀ δ pins s σ H D I ⟨r,en,e1,k⟩=>by
 unfold z00 at e1;obtain⟨B,b1,b2,env⟩:=en.ex;cases e2:g δ with
 | none=>rw[e2] at e1;cases e1
 | some d =>
  rw[e2] at e1;cases d with
  | ok d =>
   cases e1;exact lx0 (h.go B δ) pins s σ H D I ⟨_,env,e2,λv H' s' r=>k v H' (en.same.trans s') (r.mono (Gr.less b1))⟩
  | ex c n =>
   cases e1;refine lx0 (h.go B δ) pins s σ H D I ⟨_,env,e2,λC od H' s' q x=>k σ H' C od (en.grow s') q ?_⟩;cases n with
   | none=>trivial
   | some m =>
    obtain⟨dx,e,x1,x2⟩:=x;exact⟨dx,B,e,wg0 en.same x1,x2,b1,b2,env.same s',λz=>env.bad dx z x1⟩
theorem jl0(i:Nat)(he:PDX X e g)(hN:X.N.Nodup)(hi:X.N[i]?=some y:=by rfl)(hx:Loc X.env.scope y:=by first|exact Or.inl rfl|exact Or.inr rfl)(hf:X.fn y=true∨X.env.scope.names.lookup y=some .local:=by first|exact .inl rfl|exact .inr rfl|assumption)
  {ap:Pos} (hs:swapsWithSole [.Name y px] e ap.line X.env=pure false:=by rfl) (hw:swappedStores [.Name y px] e X.env=pure none:=by rfl)
  (h1:(assignEach [.Name y px] X.env).map (·.2)=[assign (.Name y px) X.env]:=by rfl) :
  PSX X (.Assign [.Name y px] e ap) (us0 i g):=.mk λH₀ B₀ δ pins s σ H D I ⟨r,en,e1,k⟩=>by
 unfold us0 at e1;obtain⟨B,b1,b2,env⟩:=en.ex;cases e2:g δ with
 | none=>rw[e2] at e1;cases e1
 | some d =>
  rw[e2] at e1;cases d with
  | ok d =>
   cases e1;exact un0 (he.go B δ) (xh0 (i:=i) hN hi hx hf) hs hw h1 pins s σ H D I ⟨_,env,e2,λv H' s2 r2=>k _ H' (en.wr b1 b2 s2 s00 ((env.same s2).set i r2))⟩
  | ex c n =>
   cases e1;refine un0 (he.go B δ) (xh0 (i:=i) hN hi hx hf) hs hw h1 pins s σ H D I ⟨_,env,e2,λC od H' s' q x=>k σ H' C od (en.grow s') q ?_⟩;cases n with
   | none=>trivial
   | some m =>
    obtain⟨dx,e,x1,x2⟩:=x;exact⟨dx,B,e,wg0 en.same x1,x2,b1,b2,env.same s',λz=>env.bad dx z x1⟩
end
theorem ij0{X:Cx}{K:W.Frag}{B:BS}{δ:Ds}{σ:St}{H:Hp}{Q:VK}{caps:List Nat}{gi:Ds->Option (List D)}{f:D->Ds->Option Ds}{ge:GXe}(hidx:∀j∈idx,j<n)
  (h:tDX K B δ (wu0 n caps gi f ge) (yk0 X) σ H Q) :
  g70 X n caps (tDI K B δ gi) (λv σ H Q=>∃B d δ,tDG K idx f B d δ v σ H Q) (fun σ H Q=>∃B δ,tDT K B δ noT σ H Q) (λwx σ H Q=>∃B δ,tDX K B δ ge wx σ H Q) σ H Q:=by
 obtain⟨d,en,h,k⟩:=h;unfold wu0 at h;cases e1:gi δ with
 | none=>rw[e1] at h;cases h
 | some items =>
  rw[e1] at h;simp only[Option.bind_some] at h
  by_cases hsz:items.length<=sizeLine
  ·rw[if_pos hsz] at h
   cases e2:yg0 f ge (M9 n caps δ) items with
   | none=>rw[e2] at h;cases h
   | some out =>
    rw[e2] at h;cases h;refine⟨items,en,e1,λJ H1 s1 it=>λwx a1 L hL=>?_⟩;have U:=en.same s1;have a6:¬B L:=U.free hL;obtain⟨Bp,S⟩:∃Bp:BS,Bp=λa=>B a∨a=L:=⟨_,rfl⟩
    have a7:Bp L:=by rw[S];exact .inr rfl
    have a8:∀a,B a->Bp a:=λa z=>by rw[S];exact .inl z
    have Z:∀a,Bp a->B a∨a=L:=λa z=>by rw[S] at z;exact z
    have gr:∀{H2:Hp},Same H1 H2->Gr H1 H2 B Bp:=λ{H2} s2 b o nb hb=>⟨(λz=>by
     rcases Z b z with q|q
     ·exact nb q
     ·subst q;rw[hL] at hb;cases hb),s2 b o hb⟩
    refine⟨λi m ys H2=>m=items.length - i/\i<=items.length/\H2 L=some (.lst ys)/\Same H1 H2/\ys.length<=i/\∃pre rest,out=yv0 pre rest/\Rps K H2 Bp pre ys/\yg0 f ge (M9 n caps δ) (items.drop i)=some rest,
     ⟨_,rfl,C3 _,V1,X7 hL,A1 _,[],out,(gj0 out).symm,by rw[X6],e2⟩,?_⟩
    rintro i m ys H2 ⟨rfl,a9,hD,s2,b0,pre,rest,ho,rp,ec⟩;have O:Env K H2 Bp (X3 n caps σ) (M9 n caps δ):=by
     refine⟨Pd.impG (gr s2) (λi ds z=>v40 z) (U.comp n caps).all,λa z=>?_,λi j a ds es h1 _ _ _=>(v40 h1).elim⟩;rcases Z a z with q|q
     ·exact(U.same s2).bad a q
     ·subst q;rw[hD];exact λz=>nomatch z
    by_cases hlt:i<items.length
    ·refine .inr ⟨it.go i H2 (Gr.same s2) hlt,λx H3 y=>?_⟩
     obtain⟨sm,dx,a0,rx⟩:=it.yld i H2 x H3 (Gr.same s2) y hlt;have a2:Rp K H3 Bp dx x:=rx Bp (gr (s2.trans sm)) O.bad
     replace O:=O.same sm
     replace s2:=s2.trans sm
     replace hD:=sm _ _ hD
     replace rp:=rp.same sm
     have Y:items.drop i=dx::items.drop (i+1):=by
      rw[List.drop_eq_getElem_cons hlt];congr 1;rw[List.getElem?_eq_getElem hlt] at a0;exact B2 a0
     rw[Y] at ec;unfold yg0 at ec;cases e3:f dx (M9 n caps δ) with
     | none=>rw[e3] at ec;cases ec
     | some δ' =>
      rw[e3] at ec;refine⟨Bp,dx,M9 n caps δ,δ',a2,O,e3,fun σ4 w en4=>⟨⟨w.len,λj v z=>?_⟩,?_⟩⟩
      ·by_cases hj:j∈idx
       ·rw[l70 (hidx j hj)] at z;cases z
       ·rw[(w.oth j hj).1];exact z
      ·refine⟨Bp,δ',true,en4,rfl,λH5 s5=>?_⟩
       show ite (true=true) _ _;rw[if_pos rfl];simp only[Option.bind_some] at ec;cases e5:ge δ' with
       | none=>rw[e5] at ec;cases ec
       | some yx =>
        rw[e5] at ec;simp only[Option.bind_some] at ec;cases yx with
        | ex c n' =>
         cases ec;subst ho;exact⟨Bp,δ',_,en4.same s5,e5,λC od H6 s6 q x=>a1 _ _ _ _ (k C od H6 (s1.trans (s2.trans (s5.trans s6))) q (x.lower (s1.trans (s2.trans s5))))⟩
        | ok yd =>
         dsimp only at ec;cases e6:yg0 f ge (M9 n caps δ) (items.drop (i+1)) with
         | none=>rw[e6] at ec;cases ec
         | some rest' =>
          rw[e6] at ec;cases ec;refine⟨Bp,δ',_,en4.same s5,e5,λv H6 s6 r6=>?_⟩;have a3:H6 L=some (.lst ys):=s6 _ _ (s5 _ _ hD);have g6:Gr H6 (upd H6 L (.lst (ys++[v]))) Bp Bp:=λb o nb hb=>⟨nb,by
           rw[W4 (λz=>nb (by rw[z];exact a7))];exact hb⟩
          refine⟨a3,by omega,items.length - (i+1),by omega,rfl,hlt,V1,λb o hb=>?_,by simp;omega,pre++[yd],rest',by rw[ho,ed0],?_,e6⟩
          ·have a5:b≠L:=λz=>by rw[z,hL] at hb;cases hb
           rw[W4 a5];exact s6 _ _ (s5 _ _ (s2 _ _ hb))
          ·exact(Rps.snoc ((rp.same s5).same s6) r6).mono g6
    ·have e:i=items.length:=by omega
     subst e;refine .inl ⟨it.stop _ H2 (Gr.same s2) (A1 _),?_⟩;rw[List.drop_length] at ec;have a4:AX.ok []=rest:=B2 ec;subst a4;subst ho;rw[S] at rp;refine k _ H2 (s1.trans s2) ?_;show Rp K H2 B (.lst (pre++[])) (.ref L);rw[List.append_nil];exact RpO.rp (B:=λa=>B a∨a=L) (λa z=>.inl z) a6 ⟨ys,hD,rp⟩
  ·rw[if_neg hsz] at h;cases h
theorem q90{X:Cx}{pos:Pos}{sc scope:Scope}{elt iter tg:Expr}{N N':List Str}{n:Nat}{caps:List Nat}{gi:Ds->Option (List D)}{idx:List Nat}{f:D->Ds->Option Ds}{ge:GXe}
  (ok:CompOk sc scope N N' n caps) (hidx:∀j∈idx,j<n) (hi:PID X tg iter gi)
  (hg:∀cl s H ex xe,PGD (J4 X scope cl N' s H ex xe) tg idx f) (he:∀cl s H ex xe,PDX (J4 X scope cl N' s H ex xe) elt ge)
  (hc:X.calm=true:=by rfl) (hst:X.stack=X.env::X.outer:=by rfl) (hsc:X.env.scope=sc:=by rfl) (hN:X.N=N:=by rfl) (hs:∀x,foldedSetIterable iter X.env x=pure x:=by intro _;rfl) :
  PDX X (.ListComp elt [⟨tg,iter,[],0⟩] scope pos) (wu0 n caps gi f ge):=.mk λB δ =>
 (d30 hc hst hsc (hN▸ok) (hi B δ) (g:=λv σ H Q=>∃B d δ,tDG X.K idx f B d δ v σ H Q) (tt:=fun σ H Q=>∃B δ,tDT X.K B δ noT σ H Q) (te:=λwx σ H Q=>∃B δ,tDX X.K B δ ge wx σ H Q)
  (λcl s H ex xe pins s' σ H v u Q I r ⟨B,d,δ,h⟩=>hg cl s _ ex xe B d δ pins s' σ H v u Q I r h)
  (λcl s H ex xe pins s' σ H Q I ⟨B,δ,h⟩=>O4 B δ pins s' σ H Q I h)
  (λcl s H ex xe pins s' σ H Q I ⟨B,δ,h⟩=>(he cl s _ ex xe).go B δ pins s' σ H Q I h) hs).imp fun σ H Q h=>ij0 hidx h
end DL
namespace L2
open Spec PyProof.Rows PySem.Builtin.Str
theorem qn0:MtR X "str.index" (λx xs H Q=>∃(a b:PySem.Str) (i:Nat) (rest:List Nat),x=.str a/\xs=[.str b]/\occurrences a b 0 a.length 1=i::rest/\Q (.int i) H):=by
 intro pins s σ H x xs v us Q I rx rs h;obtain⟨a,b,i,rest,rfl,rfl,ho,q⟩:=h;obtain⟨t,rfl⟩:=rx;cases rs with
 | cons r rr =>
  cases rr;obtain⟨u,rfl⟩:=r;exact D0 F.slot_str_index (C9 _ _ _) F.entry_str_index (F.args_str_index_2 _ _) (gives_str_index a b t u i rest ho) ⟨.int i,H,I.tok _,⟨_,rfl⟩,q⟩
end L2
namespace DL
open Spec PyProof.Rows L2 PySem.Builtin.Str
noncomputable def R4:D->List D->Option D
 | .str a,[.str b]=>match occurrences a b 0 a.length 1 with
  | i::_=>some (.int i)
  | []=>none
 | _,_=>none
theorem pa0:MfR K (λx xs H Q=>∃(a b:PySem.Str) (i:Nat) (rest:List Nat),x=.str a/\xs=[.str b]/\occurrences a b 0 a.length 1=i::rest/\Q (.int i) H) R4:=by
 intro H B dx xs ds d Q bad r h k;unfold R4 at h;split at h<;>try cases h
 split at h<;>try cases h
 rename_i e;exact⟨_,rfl,_,_,_,_,rfl,xi0 r,e,k _ H (Same.refl H) (by rw[g8])⟩
theorem str_idx(d:D)(ds:List D)(e:D)(h:R4 d ds=some e):∃a,d=.str a:=by
 unfold R4 at h;split at h<;>try cases h
 exact⟨_,rfl⟩
section
variable{g:GE}{gA:GA}
theorem gs0(ho:PD X o g)(ha:PDA X [e] gA)(hbase:attributeBase o "split" X.env (eval o X.env)=eval o X.env:=by rfl)
  (hfew:((backTo cpos (starEach [e] X.env)).all (λx=>!x.1)&&(backToKw cpos (keywordEach [] X.env)).all (λx=>x.1.isSome)
  &&decide ([e].length+([]:List Keyword).length+(if ([]:List Keyword).isEmpty then 0 else 1)<30))=true:=by rfl)
  (hline:(apos.endLine==cpos.line)=true:=by rfl) (hs:starEach [e] X.env=(false,eval e X.env)::starEach [] X.env:=by rfl) (hplain:(backTo cpos (starEach [] X.env)).any (·.1)=false:=by rfl) :
  PDF X (.Call (.Attribute o "split" apos) [e] [] cpos) (j8 g gA Q7):=.mk λB δ =>
 (p90 i7 D7 F.type_str_split xt0 (ho B δ) (ha B δ) hbase hfew hline hs hplain).imp fun σ H Q ⟨d,en,h,k⟩=>by
  unfold j8 at h;cases e1:g δ with
  | none=>rw[e1] at h;cases h
  | some x =>
   cases e2:gA δ with
   | none=>rw[e1,e2] at h;cases h
   | some ds =>
    rw[e1,e2] at h;simp only[Option.bind_some] at h;obtain⟨a,rfl⟩:=yq0 x ds d h;refine⟨_,en,e1,λv H1 s1 r1=>?_⟩;rw[Y6] at r1;subst r1;refine⟨rfl,_,en.same s1,e2,λvs H2 s2 r2=>?_⟩;unfold Q7 at h;split at h<;>try cases h
    split at h<;>try cases h
    rename_i a' b ea hc;cases ea;refine⟨_,_,rfl,xi0 r2,hc.1,hc.2.1,hc.2.2,λl hl=>k l _ (wg0 (s1.trans s2) hl) ((s1.trans s2).trans (X7 hl)) ⟨_,V1,t50 _⟩⟩
end
end DL
namespace L2
open Spec PyProof.Rows
structure CompC(scope:Scope)(x:Str):Prop where
 kind:scope.kind=.function
 loc:∀y∈scope.names,y.2=.local->scope.names.lookup y.1=some .local
 nofree:∀y∈scope.names,y.2≠.free
 only:∀p∈scope.names,p.2=.cell->p.1=x
 cells:∀L,cellsFrom L scope.names []=[(x,L)]
theorem j30{env:Env}(h:∀x∈scope.names,x.2≠.free):closureFor scope env=pure []:=by
 simp only[closureFor];rw[forIn_yield_id [] (λx hx c=>by
  obtain⟨name,kind⟩:=x;have:(kind==NameKind.free)=false:=by simpa using h _ hx
  simp only[this,Bool.false_eq_true,if_false])]
 rfl
theorem eb0{M:Model}{A:Around}{E:Value->Shared->Prop}{s:Shared}{scope:Scope}{globals:Addr}{qual:Str}{outer:Env}{builtins:Addr}{Q:Env->Shared->Prop}
  (hQ:∀h',h'.Ns s.heap.objs.size (λ_=>none)->(∀b o,s.heap.get? b=some o->h'.get? b=some o)->(∀n c,(cellsFrom (s.heap.objs.size+1) scope.names []).lookup n=some c->h'.IsCell c none) ->
   Q (newEnv scope s.heap.objs.size globals (cellsFrom (s.heap.objs.size+1) scope.names []) qual none .none (some outer) builtins) { s with heap:=h' }) :
  wpAny M A (newFunctionEnv scope globals [] [] qual none .none (some outer) builtins) Q E s:=by
 simp only[newFunctionEnv,Option.isSome_some,if_true];refine A0 (wpAny_alloc ?_);refine A0 (wpAny_layCells _ (λname kind cells=>by cases hkc:kind==NameKind.cell<;>simp[hkc]) _ _ _ _ ?_);have ok:=cellsFrom_ok scope.names (s.heap.push { cls:=.type "dict",data:=.dict #[] }) (s.heap.objs.size+1) [] ⟨λ_ _ hm=>(nomatch hm),List.Pairwise.nil⟩ (by rw[Heap.size_push];exact A1 _);rw[Heap.size_push] at ok;rw[show ({ s with heap:=s.heap.push { cls:=.type "dict",data:=.dict #[] } }:Shared).heap.objs.size=s.heap.objs.size+1 from Heap.size_push ..];refine A0 ?_;rw[List.forIn_nil];exact A3 (A3 (hQ _ ((Heap.Ns.new s.heap (.type "dict")).keeps (pushCells_keeps _ _)) (λb o e=>pushCells_keeps _ _ b o (B0 _ e)) λn c hc=>(ok.empty n c (mem_of_lookup hc)).1))
noncomputable def z30(X:Cx)(scope:Scope)(x:Str)(s:Shared)(H:Hp)(ex:List Addr):Cx:={ X8 X scope [(x,s.heap.objs.size+1)] [x] s H ex with fn:=λ_=>true }
section
variable{g:TG}
theorem g40{pins:List (Addr×Obj)}{σ:St}{H2:Hp}{s2:Shared}{it:Addr}{fp:List Addr}{tn:Nat->Heap->Prop}{J:It}{Q:VK}{RR:Value->Addr->Result->Shared->Prop}{E:Value->Shared->Prop}
  (hc:X.calm=true) (ok:CompC scope x)
  (hg:∀s H ex,PG (z30 X scope x s H ex) tg g) (ht:∀s H ex,PF (z30 X scope x s H ex) ifs tt) (he:∀s H ex,PE (z30 X scope x s H ex) elt te)
  (I2:Inv X pins σ H2 s2) (T:Turn X.prog X.w X.K tg J fp it tn) (st2:tn 0 s2.heap) (f2:∀b∈fp,xu0 X pins H2 b)
  (q:∀D,H2 D=none->∃W:Nat->Nat->List V->Hp->Prop,(∃m,W 0 m [] (upd H2 D (.lst [])))/\∀i m ys H2,W i m ys H2 ->
   (J.stop i H2/\Q (.ref D) H2)∨(J.go i H2/\∀x H3,J.yld i H2 x H3->g x (X3 1 [] σ) H3 fun σ4 H4=>Wk (X3 1 [] σ) σ4/\tt σ4 H4 λb H5 =>
    if b=true then te σ4 H5 λy H6=>H6 D=some (.lst ys)/\ys.length<sizeLine/\∃m',m'<m/\W (i+1) m' (ys++[y]) (upd H6 D (.lst (ys++[y]))) else ∃m',m'<m/\W (i+1) m' ys H5))
  (hend:∀(D C:Addr) (H':Hp) (s':Shared) (m:Str->Option Value),Inv X pins σ H' s'->qh0 X pins H' C->s'.heap.Ns C m->Q (.ref D) H'->RR (.ref D) C (.ok .next) s') :
  wpAny (model X.prog X.w) X.A (newList []) (λacc s₃=>wpAny (model X.prog X.w) X.A (newFunctionEnv scope X.env.globals [] [] X.env.qual none .none (some X.env)) (λcenv s₄ =>
   codeAny (model X.prog X.w) X.A (.compStart (.ListComp elt [⟨tg,iter,ifs,0⟩] scope pos) 0 (.ref it) acc { cenv with scope:=relabel scope X.env }) (RR acc cenv.locals) s₄) E s₃) E s2:=by
 refine D6 (eb0 λh₁ U Z S=>?_);dsimp only at U Z S ⊢;rw[ok.cells] at S ⊢;obtain⟨D,hD⟩:∃D,D=s2.heap.objs.size:=⟨_,rfl⟩;have I3:Inv X pins σ (upd H2 s2.heap.objs.size (.lst [])) { s2 with heap:=s2.heap.push { cls:=.type "list",data:=.seq ([]:List Value).toArray } }:=I2.lnew (its:=[]) (t':=s2.toks) .nil (C3 _);have c9:H2 s2.heap.objs.size=none:=I2.fresh;obtain⟨W,⟨m0,w0⟩,a9⟩:=q s2.heap.objs.size c9;generalize hs3:({ s2 with heap:=s2.heap.push { cls:=.type "list",data:=.seq ([]:List Value).toArray } }:Shared)=s3 at *;have b1:s2.heap.push { cls:=.type "list",data:=.seq ([]:List Value).toArray }=s3.heap:=by rw[← hs3]
 have h0:s2.toks=s3.toks:=by rw[← hs3]
 rw[b1] at U Z S ⊢;generalize hH3:upd H2 s2.heap.objs.size (HO.lst [])=H3 at *;rw[← hD] at a9 hH3 c9 ⊢;have a6:∀b o,s3.heap.get? b=some o->h₁.get? b=some o:=Z;have a5:∀b o,s2.heap.get? b=some o->s3.heap.get? b=some o:=λb o e=>by rw[← b1];exact B0 _ e
 have a4:∀b∈fp,b<s3.heap.objs.size:=λb hb=>by
  obtain⟨o,e,_⟩:=T.obj _ _ st2 b hb;exact A4 (a5 b o e)
 have f6:∀b∈fp,b≠D:=λb hb z=>by
  obtain⟨o,e,_⟩:=T.obj _ _ st2 b hb;rw[z,hD] at e;exact absurd (A4 e) (C1 _)
 obtain⟨X',O⟩:∃X',X'=z30 X scope x s3 H3 fp:=⟨_,rfl⟩;have one:∀y c,([(x,s3.heap.objs.size+1)]:List (Str×Addr)).lookup y=some c->y=x/\c=s3.heap.objs.size+1:=λy c e=>by
  rw[List.lookup_cons] at e;split at e
  ·rename_i q;cases e;exact⟨by simpa using q,rfl⟩
  ·cases e
 have okX:X'.Ok:=by
  subst O;refine⟨I3.ok.mod,ok.kind,I3.ok.glob,I3.ok.blt,A1 _,λy z c h1 h2=>(one y c h1).1.trans (one z c h2).1.symm,λy hy=>?_,λy c _ e=>by rw[(one y c e).2];exact P8 _,I3.ok.hd,I3.ok.frames,.inl rfl,
   λb hb=>⟨B6 (a4 b hb),λy c e=>by rw[(one y c e).2];exact D8 (P9 (a4 b hb))⟩,λb o e=>I3.bs b o e,A9 I3.ok.bsz I3.sz,λb o e hb=>?_,λb hb hf=>?_,I3.stack,I3.stkFree⟩
  ·have a3:((relabel scope X.env).names.lookup y=some .cell)∨((relabel scope X.env).names.lookup y=some .free):=hy
   have q3:(relabel scope X.env).names.lookup y=(scope.names.lookup y).map λk=>if (k==NameKind.free&&X.env.scope.kind==.function&&X.env.kindOf y==some .cell)=true then NameKind.cell else k:=J8 (env:=X.env) scope.names y
   cases e:scope.names.lookup y with
   | none =>
    rw[q3,e] at a3;rcases a3 with z|z<;>cases z
   | some k =>
    have hk:k=.cell:=by
     rw[q3,e] at a3;have nf:=ok.nofree (y,k) (C8 e);cases k<;>first
      | rfl
      | exact absurd rfl nf
      | (rcases a3 with z|z<;>simp at z)
    subst hk;exact⟨s3.heap.objs.size+1,by rw[show y=x from ok.only (y,.cell) (C8 e) rfl];exact List.lookup_cons_self⟩
  ·rcases (f2 b hb).2.2.2.1 with z|z
   ·exact I3.ok.noex b o e z
   ·exact absurd (B5 (A4 (I3.ok.bs b o e).1) z) (C1 _)
  ·rcases B1.mp (I3.stkSub b hf) with z|z
   ·exact(f2 b hb).2.1 z
   ·exact(f2 b hb).2.2.1 z
 have I4:Inv X' [] (X3 1 [] σ) H3 { s3 with heap:=h₁ }:=by
  refine⟨okX,?_,?_,?_,?_,λy c e=>?_,?_,λy c e=>?_,λp hp=>?_,(by subst O;exact I3.hok.kept a6),?_⟩
  ·subst O;rfl
  ·exact I3.bare
  ·subst O;exact Un.kept a6
  ·subst O
   refine⟨_,U,λi y v e1 e2 e3=>?_⟩;exfalso;unfold X3 at e2;cases i with
   | zero=>cases e2
   | succ i=>simp at e2
  ·have e':([(x,s3.heap.objs.size+1)]:List (Str×Addr)).lookup y=some c:=by subst O;exact e
   exact⟨none,S y c e'⟩
  ·subst O;exact I3.hok.fresh (A1 _)
  ·have e':([(x,s3.heap.objs.size+1)]:List (Str×Addr)).lookup y=some c:=by subst O;exact e
   rw[(one y c e').2];exact I3.hok.fresh (P8 _)
  ·subst O;exact absurd hp (by simp[z30,X8])
  ·subst O
   rfl
 have b0:X'.calm=true:=by subst O;exact hc
 have Y:∀{H':Hp},(∀b∈fp,H' b=none)->∀b∈fp,xu0 X' [] H' b:=λ{H'} hn b hb=>by
  subst O;refine⟨hn b hb,B6 (a4 b hb),λhf=>?_,   .inl hb,λy c e=>by rw[(one y c e).2];exact D8 (P9 (a4 b hb)),λp hp=>absurd hp (by simp[z30,X8])⟩;rcases B1.mp (I3.stkSub b hf) with z|z
  ·exact(f2 b hb).2.1 z
  ·exact(f2 b hb).2.2.1 z
 have g3:∀b∈fp,H3 b=none:=λb hb=>by rw[← hH3,W4 (f6 b hb)];exact(f2 b hb).1
 have c6:tn 0 h₁:=T.keep _ _ _ st2 λb hb o e=>a6 b o (a5 b o e)
 have loop:∀s4:Shared,s4={ s3 with heap:=h₁ } ->
   codeAny (model X.prog X.w) X.A (.compLoop (.ListComp elt [⟨tg,iter,ifs,0⟩] scope pos) 0 (.ref it) (.ref D) X'.env) (RR (.ref D) s3.heap.objs.size) s4:=by
  rintro s4 rfl;refine s90 (λk s'=>∃i ys H',Inv X' [] (X3 1 [] σ) H' s'/\tn i s'.heap/\(∀b∈fp,H' b=none)/\W i k ys H') ?_ m0 ⟨0,[],H3,I4,c6,g3,w0⟩;rintro k s5 ⟨i,ys,H5,I5,d1,b9,w5⟩;have eP:X'.prog=X.prog:=by subst O;rfl
  have ew:X'.w=X.w:=by subst O;rfl
  have eK:X'.K=X.K:=by subst O;rfl
  have eA:X'.A=X.A:=by subst O;rfl
  rcases a9 i k ys H5 w5 with⟨stop,qe⟩|⟨go,step⟩
  ·have T':=T.done X' eP ew eK b0 i [] s5 (X3 1 [] σ) H5 (λ_ _=>False) I5 (Y b9) d1 stop
   rw[eA] at T';refine thn T' λr s6 ⟨hr,I6⟩=>?_
   subst hr;have g2:Un (frs X.stack) fp H3 H5 s3.heap s6.heap:=by have:=I6.base;subst O;exact this
   have f0:s6.os=s3.os:=by have:=I6.os;subst O;exact this
   have d2:HOk X.prog X.w H5 s6.heap:=by have:=I6.hok;subst O;exact this
   have IX:Inv X pins σ H5 s6:=I3.call' f0 g2 d2 I6.bare λb hb=>⟨(f2 b hb).2.2.2.1,(f2 b hb).2.1,(f2 b hb).2.2.2.2.1,(f2 b hb).2.2.2.2.2⟩
   obtain⟨m6,f8,_⟩:=I6.loc;have d3:s6.heap.Ns s3.heap.objs.size m6:=by subst O;exact f8
   refine hend D s3.heap.objs.size H5 s6 m6 IX ⟨by have:=I6.free;subst O;exact this,D8 I3.lt,I3.sz,λx c e z=>?_,λp hp z=>?_⟩ d3 qe
   ·obtain⟨v,qc⟩:=I3.cell x c e
    exact absurd (B5 qc.lt (D9 z.symm)) (C1 _)
   ·exact absurd (B5 (A4 (I3.pin p hp).1) (D9 z.symm)) (C1 _)
  ·have T':=T.item X' eP ew eK b0 i [] s5 (X3 1 [] σ) H5 (λ_ _=>False) I5 (Y b9) d1 go
   rw[eA] at T';refine thn T' λr s6 ⟨u,hr,h6⟩=>?_
   subst hr;refine thn h6 λ_ s7 ⟨x,H7,I7,r7,y7,b2,f7⟩=>?_
   have f9:=I7.pinned (Y f7) (T.obj _ _ b2);have c8:=hg s3 H3 fp;have c0:=ht s3 H3 fp;have c7:=he s3 H3 fp;rw[← O] at c8 c0 c7;have g1:=c8 _ s7 (X3 1 [] σ) H7 x u _ f9 r7 (step x H7 y7);rw[eP,ew,eA] at g1;have a0:X'.xe=λ_ _=>False:=by subst O;rfl
   rw[a0] at g1;refine thn g1 λ_ s8 ⟨σ8,H8,I8,a2,q8⟩=>?_
   have t1:=c0 _ s8 σ8 H8 _ I8 q8;rw[eP,ew,eA,a0] at t1;refine thn t1 λb s9 ⟨H9,I9,q9⟩=>?_
   have a8:∀{σa:St} {Ha:Hp} {sa:Shared} {a7:List V} {ma:Nat},Inv X' ([]++vb0 fp s7.heap) σa Ha sa->σa.length=(X3 1 [] σ).length->(∀(j:Nat) v,(X3 1 [] σ)[j]?=some (some v)->σa[j]?=some (some v))->W (i+1) ma a7 Ha ->
     ∃i ys H',Inv X' [] (X3 1 [] σ) H' sa/\tn i sa.heap/\(∀b∈fp,H' b=none)/\W i ma ys H':=λ{σa Ha sa a7 ma} Ia hl hw wa=>by
    refine⟨i+1,a7,Ha,(Ia.weak hl.symm hw).unpinned,T.keep _ _ _ b2 λb hb o e=>(Ia.pin (b,o) (C0 _ (C0 _ (z80 hb e)))).1,λb hb=>?_,wa⟩;obtain⟨o,e,d⟩:=T.obj _ _ b2 b hb;exact(Ia.pin (b,o) (C0 _ (C0 _ (z80 hb e)))).2.1
   cases b with
   | false =>
    rw[if_neg A8];rw[if_neg A8] at q9;obtain⟨m',hm,w9⟩:=q9;exact⟨m',hm,a8 I9 a2.1 a2.2 w9⟩
   | true =>
    rw[if_pos rfl];rw[if_pos rfl] at q9;have e1:=c7 _ s9 σ8 H9 _ I9 q9;rw[eP,ew,eA,a0] at e1;refine thn e1 λv e6 ⟨y,f1,g6,f3,e0,e4,m',hm,f4⟩=>?_
    have a1:=vw0 (X:=X') _ e6 σ8 f1 (.ref D) [y] (.ref D) [v] (λ_ H'=>W (i+1) m' (ys++[y]) H') g6 rfl (.cons f3 .nil) ⟨D,ys,y,rfl,rfl,e0,e4,f4⟩;rw[eP,ew,eA,a0] at a1;refine thn a1 λ_ h3 ⟨_,h4,e5,_,f5⟩=>?_
    exact⟨m',hm,a8 e5 a2.1 a2.2 f5⟩
 subst O;exact i6 (loop _ (by rw[← hs3])) (T.self X.A 0 _ _ _ c6 (loop _ (by rw[← hs3])))
theorem j20{py spos:Pos}(hN:X.N.Nodup)(hiN:X.N[i]?=some y)(hy:Loc X.env.scope y)(hc:X.calm=true)(ok:CompC scope x)(hi:PI X tg iter wi)
  (hg:∀s H ex,PG (z30 X scope x s H ex) tg g) (ht:∀s H ex,PF (z30 X scope x s H ex) ifs tt) (he:∀s H ex,PE (z30 X scope x s H ex) elt te)
  (hsw:swapsWith (.ListComp elt [⟨tg,iter,ifs,0⟩] scope pos) (some (.Name y py)) spos.line X.env=pure true:=by rfl)
  (hs:∀x,foldedSetIterable iter X.env x=pure x:=by intro _;rfl)
  (hf:X.fn y=true∨X.env.scope.names.lookup y=some .local:=by first|exact .inl rfl|exact .inr rfl|assumption) :
  PS X (.Assign [.Name y py] (.ListComp elt [⟨tg,iter,ifs,0⟩] scope pos) spos) (λD σ H=>m80 1 [] wi g tt te σ H λv H'=>D.nx (σ.set i (some v)) H'):=by
 intro pins s σ H D I h;have O:closureFor scope X.env=pure []:=j30 ok.nofree;rw[exec_Assign_Name_used _ _ _ _ hsw];refine A0 (L5 (A0 ?_));show wpAny _ X.A (do let _ ← comprehension (.ListComp elt [⟨tg,iter,ifs,0⟩] scope pos) scope X.env _ (newList []) false (eval iter X.env) (some (assign (.Name y py) X.env))) _ _ s;refine A0 (B8 (P5 (use:=some (assign (.Name y py) X.env)) (Q:=λ_ s'=>SP X pins D .next s') rfl hs O ok.kind ok.loc
  (thn (hi pins s σ H _ I h) λv s1 h1=>thn h1 λa2 s2 h2=>?_)) (λ_ s' hq=>A3 (A3 hq)) λ_ _ e=>e)
 obtain⟨it,fp,tn,J,H2,rfl,I2,T,U,f2,q2⟩:=h2;refine g40 (Q:=λv H'=>D.nx (σ.set i (some v)) H') (RR:=λa1 C=>compPost (model X.prog X.w) X.A X.xe (some (assign (.Name y py) X.env)) (λ_ s'=>SP X pins D .next s') a1 C) hc ok hg ht he I2 T U f2 q2 ?_;intro Da C H' s' m IX as hn qe;show wpAny _ X.A (assign (.Name y py) X.env (.ref Da)) _ _ _;refine X1 (se0 IX hN hiN hy (v:=.ref Da) rfl (λS a0 ⟨a,sb,ha⟩=>?_) hf);have Y:C≠a:=by
  rcases ha with z|z
  ·rw[z];exact as.2.1
  ·exact B3 (as.2.2.2.1 y a z)
 refine⟨m,hn.sameBut sb Y,λh' Z=>⟨_,H',a0.turned (t':=S.toks) (λb o hb e=>(Z.2 b hb).trans e) as.1 as.2.1 (.inr as.2.2.1) as.2.2.2.1 as.2.2.2.2,qe⟩⟩
end
end L2
namespace DL
open Spec PyProof.Rows L2
theorem en0{X:Cx}{pos:Pos}{gt:GB}(i:Nat)(x:Str){y:Str}{py spos:Pos}{scope:Scope}{elt iter tg:Expr}{ifs:List Expr}{gi:Ds->Option (List D)}{idx:List Nat}{f:D->Ds->Option Ds}{ge:Ds->Option D}
  (hN:X.N.Nodup) (ok:CompC scope x) (hidx:∀j∈idx,j<1) (hi:PID X tg iter gi)
  (hg:∀s H ex,PGD (z30 X scope x s H ex) tg idx f) (ht:∀s H ex,PFD (z30 X scope x s H ex) ifs gt) (he:∀s H ex,PD (z30 X scope x s H ex) elt ge)
  (hc:X.calm=true:=by rfl) (hiN:X.N[i]?=some y:=by rfl) (hy:Loc X.env.scope y:=by first|exact Or.inl rfl|exact Or.inr rfl)
  (hsw:swapsWith (.ListComp elt [⟨tg,iter,ifs,0⟩] scope pos) (some (.Name y py)) spos.line X.env=pure true:=by rfl)
  (hs:∀x,foldedSetIterable iter X.env x=pure x:=by intro _;rfl)
  (hf:X.fn y=true∨X.env.scope.names.lookup y=some .local:=by first|exact .inl rfl|exact .inr rfl|assumption) :
  PSD X (.Assign [.Name y py] (.ListComp elt [⟨tg,iter,ifs,0⟩] scope pos) spos) (j9 (gN i) (Y9 1 [] gi f gt ge)):=.mk λH₀ B₀ δ pins s σ H D I ⟨r,en,e1,k⟩=>by
 unfold j9 at e1;obtain⟨B,b1,b2,env⟩:=en.ex;cases e2:Y9 1 [] gi f gt ge δ with
 | none=>rw[e2] at e1;cases e1
 | some d =>
  rw[e2] at e1;cases e1;refine j20 (i:=i) hN hiN hy hc ok (hi B δ) (g:=λv σ H Q=>∃B d δ,tDG X.K idx f B d δ v σ H Q) (tt:=fun σ H Q=>∃B δ,tDT X.K B δ gt σ H Q) (te:=fun σ H Q=>∃B δ,tD X.K B δ ge σ H Q)
   (λs H ex pins s' σ H v u Q I r ⟨B,d,δ,h⟩=>hg s _ ex B d δ pins s' σ H v u Q I r h)
   (λs H ex pins s' σ H Q I ⟨B,δ,h⟩=>ht s _ ex B δ pins s' σ H Q I h)
   (λs H ex pins s' σ H Q I ⟨B,δ,h⟩=>he s _ ex B δ pins s' σ H Q I h) hsw hs hf pins s σ H D I (s40 hidx (tD.toF ⟨d,env,e2,λv H' s' r'=>k _ H' (en.wr b1 b2 s' s00 ((env.same s').set i r'))⟩))
theorem Yh0{pos p:Pos}{f:List D->Option D}(C:FnD X.prog X.w X.K X.mg X.base x k ps f)(hr:Room m X.A)(hk:k<=m)(hg:Gl X x:=by rfl)(hdb:(x==("__debug__" : Str))=false:=by decide) :
  PD X (.Call (.Name x p) [] [] pos) (oA z9 f):=by
 obtain⟨fa,fd,F,hm,kp,hb⟩:=C;exact .mk λB δ=>(dr0 (E:=E0) F (hr.mono hk) hg hm kp hb .nil b60 hdb).imp fun σ H Q ⟨d,en,h,k⟩=>(show spD X.K f ([]++[]) H Q E0 from ⟨B,[],d,en.bad,by rw[X6];rfl,h,k⟩)
end DL
namespace W
open DL
noncomputable def O5:List D->Option D
 | [d]=>some (.bl (isInt d&&!isBool d))
 | _=>none
noncomputable def qk0:GS:=(v7 (o9 (K8 (w40 isInt (gv 0)) (lo0 (w40 isBool (gv 0)))))
 p6)
theorem rk0(ds:List D)(d:D)(h:O5 ds=some d):ds.length=1/\qk0 (W8 ["thing"] ds)=some (.rt d):=by
 unfold O5 at h;split at h
 ·cases h
  refine⟨rfl,?_⟩;rename_i x;cases x<;>rfl
 ·cases h
noncomputable def hasAll(x s:Str):Bool:=x.cps.toList.all λc=>decide (c∈s.cps.toList)
noncomputable def Q8:List D->Option D
 | [.str x,.str s,.int m]=>if x.length<=sizeLine then some (.bl (decide ((x.length:Int)<=m)&&hasAll x s)) else none
 | [_,.str _,.int _]=>some (.bl false)
 | _=>none
noncomputable def v30:GS:=(v7 (o9 (K8 (w40 isStr (gv 0)) (K8 (o2 (oA (z7 (gv 0) z9) b7) (gv 2) leD) (oA (z7 (Y9 1 [1] (v90 (gv 0)) (gN 0) noT (o2 (gv 0) (gv 1) inD)) z9) va0))))
 p6)
theorem az0(x s:Str):K7 (gN 0) noT (o2 (gv 0) (gv 1) inD) [.un,.sh (.str s)] (signs x)=some (x.cps.toList.map λc=>.bl (decide (c∈s.cps.toList))):=by
 have h:=M7 (f:=gN 0) (gt:=noT) (ge:=o2 (gv 0) (gv 1) inD) (δ:=[.un,.sh (.str s)]) (λd=>match d with|.str c=>.bl (inS c s)|_=>.non) (items:=signs x) (λd hd=>by
  obtain⟨c,_,rfl⟩:=A6.mp hd;exact⟨[.sh (.str ⟨#[c]⟩),.sh (.str s)],rfl,rfl,rfl⟩)
 rw[h];unfold signs;rw[List.map_map];congr 1;refine L3 λc _=>?_
 show D.bl (inS ⟨#[c]⟩ s)=_;rw[xg0]
theorem tc0(ds:List D)(d:D)(h:Q8 ds=some d):ds.length=3/\v30 (W8 ["thing", "signs", "most"] ds)=some (.rt d):=by
 unfold Q8 at h;split at h
 ·split at h
  ·rename_i x s m hz
   cases h;refine⟨rfl,?_⟩;have hs:(signs x).length<=sizeLine:=by unfold signs;rw[List.length_map];exact hz
   have e1:=az0 x s;unfold v30;simp only[W8,v7,o9,K8,w40,gv,ob,asB,o2,oA,z7,z9,b7,leD,ii,hz,hs,v90,pp0,Y9,M9,p50,va0,isStr,p6,List.map,List.length,List.replicate,List.append,if_true,Option.bind_some,Option.map_some,List.getElem?_cons_zero,List.getElem?_cons_succ,List.append_nil,List.nil_append,List.cons_append,e1,yr0]
   by_cases hm:(x.length:Int)<=m
   ·simp[hm,hasAll]
   ·simp[hm]
  ·cases h
 ·cases h
  refine⟨rfl,?_⟩;rename_i y _ _ hn;cases y<;>first|rfl|exact(hn _ rfl).elim|exact(hn _ _ rfl).elim|exact(hn _ _ _ rfl).elim
 ·cases h
noncomputable def nameS:Str := "0123456789abcdefghijklmnopqrstuvwxyz"
noncomputable def wt0:Str := " 0123456789abcdefghijklmnopqrstuvwxyz"
noncomputable def isName(x:Str):Bool:=(decide ((x.length:Int)<=8)&&hasAll x nameS)&&decide (0<(x.length:Int))
noncomputable def isWord(x:Str):Bool:=decide ((x.length:Int)<=20)&&hasAll x wt0
noncomputable def zc0:List D->Option D
 | [.str x]=>if x.length<=sizeLine then some (.bl (isName x)) else none
 | [_]=>some (.bl false)
 | _=>none
noncomputable def s60:GS:=(v7 (o9 (K8 (oA (z7 (gv 0) (z7 (gc (.str "0123456789abcdefghijklmnopqrstuvwxyz")) (z7 (gc (.int 8)) z9))) Q8) (o2 (oA (z7 (gv 0) z9) b7) (gc (.int 0)) gtD)))
 p6)
theorem qu0(ds:List D)(d:D)(h:zc0 ds=some d):ds.length=1/\s60 (W8 ["thing"] ds)=some (.rt d):=by
 unfold zc0 at h;split at h
 ·split at h
  ·rename_i x hz
   cases h;refine⟨rfl,?_⟩;unfold s60;have e1:Q8 [.str x,.str nameS,.int 8]=some (.bl (decide ((x.length:Int)<=8)&&hasAll x nameS)):=by
    exact if_pos hz
   have e2:("0123456789abcdefghijklmnopqrstuvwxyz" : Str)=nameS:=rfl;cases hb:(decide ((x.length:Int)<=8)&&hasAll x nameS)<;>simp[e1,e2,hb,hz,isName]
  ·cases h
 ·cases h
  refine⟨rfl,?_⟩;rename_i y hn;cases y<;>first|rfl|exact(hn _ rfl).elim
 ·cases h
noncomputable def zu0:List D->Option D
 | [.str x]=>if x.length<=sizeLine then some (.bl (isWord x)) else none
 | [_]=>some (.bl false)
 | _=>none
noncomputable def sf0:GS:=(v7 (o9 (oA (z7 (gv 0) (z7 (gc (.str " 0123456789abcdefghijklmnopqrstuvwxyz")) (z7 (gc (.int 20)) z9))) Q8))
 p6)
theorem qm0(ds:List D)(d:D)(h:zu0 ds=some d):ds.length=1/\sf0 (W8 ["thing"] ds)=some (.rt d):=by
 unfold zu0 at h;split at h
 ·split at h
  ·rename_i x hz
   cases h;refine⟨rfl,?_⟩;unfold sf0;have e1:Q8 [.str x,.str wt0,.int 20]=some (.bl (decide ((x.length:Int)<=20)&&hasAll x wt0)):=by
    exact if_pos hz
   have e2:(" 0123456789abcdefghijklmnopqrstuvwxyz" : Str)=wt0:=rfl;simp[e1,e2,isWord]
  ·cases h
 ·cases h
  refine⟨rfl,?_⟩;rename_i y hn;cases y<;>first|rfl|exact(hn _ rfl).elim
 ·cases h
noncomputable def marks(x:D)(m:Str):Bool:=match x with
 | .str y=>decide (y=m)
 | _=>false
noncomputable def j5:List D->Option D
 | [.tup xs,.str m,.int c]=>match xs with
  | x::r=>some (.bl (decide (((r.length+1:Nat):Int)=c)&&marks x m))
  | []=>if (0:Int)=c then none else some (.bl false)
 | [_,.str _,.int _]=>some (.bl false)
 | _=>none
noncomputable def yi0:GS:=(v7 (o9 (K8 (w40 isTup (gv 0)) (K8 (o2 (oA (z7 (gv 0) z9) b7) (gv 2) eqD) (K8 (w40 isStr (o2 (gv 0) (gc (.int 0)) ixD)) (o2 (o2 (gv 0) (gc (.int 0)) ixD) (gv 1) eqD)))))
 p6)
theorem sd0(ds:List D)(d:D)(h:j5 ds=some d):ds.length=3/\yi0 (W8 ["thing", "mark", "count"] ds)=some (.rt d):=by
 unfold j5 at h;split at h
 ·rename_i xs m c
  cases xs with
  | nil =>
   dsimp only at h;split at h
   ·cases h
   ·rename_i hc
    cases h;refine⟨rfl,?_⟩;simp[yi0,hc]
  | cons x r =>
   cases h;refine⟨rfl,?_⟩
   by_cases hc:((r.length+1:Nat):Int)=c
   ·have hx:atI (x::r) 0=some x:=by simp[atI,ixN]
    cases x<;>simp[yi0,hc,hx,marks]<;>simp_all
   ·have O:¬((r.length:Int)+1=c):=by simpa using hc
    simp[yi0,O]
 ·cases h
  refine⟨rfl,?_⟩;rename_i y _ _ hn;cases y<;>first|rfl|exact(hn _ rfl).elim|exact(hn _ _ rfl).elim|exact(hn _ _ _ rfl).elim
 ·cases h
noncomputable def Q4:List D->Option D
 | [.tup [x,.int i]]=>some (.bl (marks x "at"&&decide (0<=i)))
 | [_]=>some (.bl false)
 | _=>none
noncomputable def zt0:GS:=(v7 (o9 (K8 (oA (z7 (gv 0) (z7 (gc (.str "at")) (z7 (gc (.int 2)) z9))) j5) (K8 (oA (z7 (o2 (gv 0) (gc (.int 1)) ixD) z9) O5) (o2 (o2 (gv 0) (gc (.int 1)) ixD) (gc (.int 0)) geD))))
 p6)
theorem qr0(ds:List D)(d:D)(h:Q4 ds=some d):ds.length=1/\zt0 (W8 ["thing"] ds)=some (.rt d):=by
 have O:∀x:D,∃b,Q4 [x]=some (.bl b)/\zt0 (W8 ["thing"] [x])=some (.rt (.bl b)):=by
  intro x;cases x with
  | tup xs =>
   match xs with
   | []=>exact⟨false,rfl,rfl⟩
   | [x]=>exact⟨false,rfl,by simp[zt0,j5]⟩
   | [x,y] =>
    have e1:j5 [.tup [x,y],.str "at",.int 2]=some (.bl (marks x "at")):=by simp[j5]
    have e2:atI [x,y] 1=some y:=rfl;cases hm:marks x "at" with
    | false =>
     refine⟨false,?_,by simp[zt0,e1,hm]⟩;cases y<;>simp[Q4,hm]
    | true =>
     cases y with
     | int i=>exact⟨decide (0<=i),by simp[Q4,hm],by simp[zt0,e1,hm,e2,O5]⟩
     | _=>exact⟨false,by simp[Q4],by simp[zt0,e1,hm,e2,O5]⟩
   | x::y::z::r =>
    refine⟨false,by simp[Q4],?_⟩;have:¬((r.length:Int)+1+1+1=2):=by omega
    simp[zt0,j5,this]
  | _=>exact⟨false,rfl,rfl⟩
 match ds,h with
 | [x],h =>
  obtain⟨b,h1,h2⟩:=O x;rw[h1] at h;cases h;exact⟨rfl,h2⟩
 | x::y::r,h=>simp[Q4] at h
noncomputable def M3:List D->Option D
 | [.non]=>some (.bl true)
 | [.int _]=>some (.bl true)
 | [.tup xs]=>Q4 [.tup xs]
 | [_]=>some (.bl false)
 | _=>none
noncomputable def t60:GS:=(v7 (o9 (orG (o2 (gv 0) (gc .non) zs0) (orG (oA (z7 (gv 0) z9) O5) (oA (z7 (gv 0) z9) Q4))))
 p6)
theorem rl0(ds:List D)(d:D)(h:M3 ds=some d):ds.length=1/\t60 (W8 ["thing"] ds)=some (.rt d):=by
 match ds,h with
 | [x],h =>
  refine⟨rfl,?_⟩;cases x with
  | tup xs =>
   have h':Q4 [.tup xs]=some d:=h;have e1:O5 [.tup xs]=some (.bl false):=rfl;simp[t60,e1,h']
  | non=>cases h;rfl
  | int i=>cases h;rfl
  | bl b=>cases h;rfl
  | str x=>cases h;rfl
  | lst x=>cases h;rfl
  | dct x y=>cases h;rfl
 | x::y::r,h=>simp[M3] at h
noncomputable def ta0:GS:=(v7 (o9 (K8 (w40 isTup (gv 0)) (o2 (oA (z7 (gv 0) z9) b7) (gv 1) leD)))
 p6)
noncomputable def qi0:List Str:=["thing", "most"]
noncomputable def O2:List D->Option D:=mkF 2 qi0 ta0
noncomputable def w70:GS:=(v7 (o9 (K8 (oA (z7 (gv 0) (z7 (gc (.int 12)) z9)) O2) (oA (z7 (Y9 1 [] (tupI (gv 0)) (gN 0) noT (oA (z7 (gv 0) z9) M3)) z9) va0)))
 p6)
noncomputable def vy0:List Str:=["thing"]
noncomputable def K5:List D->Option D:=mkF 1 vy0 w70
noncomputable def wc0:GS:=(v7 (o9 (K8 (w40 isTup (gv 0)) (K8 (o2 (oA (z7 (gv 0) z9) b7) (gc (.int 2)) eqD) (K8 (oA (z7 (o2 (gv 0) (gc (.int 0)) ixD) z9) zc0) (oA (z7 (o2 (gv 0) (gc (.int 1)) ixD) z9) M3)))))
 p6)
noncomputable def vq0:List Str:=["thing"]
noncomputable def z70:List D->Option D:=mkF 1 vq0 wc0
noncomputable def yz0:GS:=(v7 (ifD (S5 (T7 (ob (oA (z7 (gv 0) (z7 (gc (.int 12)) z9)) O2))) (T7 (ob (oA (z7 (Y9 1 [] (tupI (gv 0)) (gN 0) noT (oA (z7 (gv 0) z9) z70)) z9) va0))))
 (v7 (o9 (gc (.bl false)))
 p6)
 p6)
 (v7 (o9 (o2 (oA (z7 (Y9 1 [] (tupI (gv 0)) (gN 0) noT (o2 (gv 0) (gc (.int 0)) ixD)) z9) wy0) (oA (z7 (gv 0) z9) b7) eqD))
 p6))
noncomputable def wp0:List Str:=["thing"]
noncomputable def T3:List D->Option D:=mkF 1 wp0 yz0
noncomputable def yc0:GS:=(v7 (ifD (ob (oA (z7 (gv 0) (z7 (gc (.str "text")) (z7 (gc (.int 2)) z9))) j5))
 (v7 (o9 (oA (z7 (o2 (gv 0) (gc (.int 1)) ixD) z9) zu0))
 p6)
 p6)
 (v7 (ifD (ob (oA (z7 (gv 0) (z7 (gc (.str "row")) (z7 (gc (.int 2)) z9))) j5))
 (v7 (o9 (oA (z7 (o2 (gv 0) (gc (.int 1)) ixD) z9) K5))
 p6)
 p6)
 (v7 (ifD (ob (oA (z7 (gv 0) (z7 (gc (.str "table")) (z7 (gc (.int 2)) z9))) j5))
 (v7 (o9 (oA (z7 (o2 (gv 0) (gc (.int 1)) ixD) z9) T3))
 p6)
 p6)
 (v7 (o9 (K8 (oA (z7 (gv 0) (z7 (gc (.str "record")) (z7 (gc (.int 3)) z9))) j5) (K8 (oA (z7 (o2 (gv 0) (gc (.int 1)) ixD) z9) zc0) (oA (z7 (o2 (gv 0) (gc (.int 2)) ixD) z9) T3))))
 p6))))
noncomputable def ys0:List Str:=["thing"]
noncomputable def Z0:List D->Option D:=mkF 1 ys0 yc0
noncomputable def mm0:GS:=(v7 (ifD (ob (o2 (o2 (gv 0) (gc (.int 0)) ixD) (gc (.str "text")) eqD))
 (v7 (o9 (j4 z9))
 p6)
 p6)
 (v7 (ifD (ob (o2 (o2 (gv 0) (gc (.int 0)) ixD) (gc (.str "row")) eqD))
 (v7 (o9 (oA (z7 (o2 (gv 0) (gc (.int 1)) ixD) z9) mc0))
 p6)
 p6)
 (v7 (o9 (Y9 1 [] (tupI (o2 (gv 0) (unG K9 (gc (.int 1))) ixD)) (gN 0) noT (o2 (gv 0) (gc (.int 1)) ixD)))
 p6)))
noncomputable def du0:List Str:=["part"]
noncomputable def m_values:List D->Option D:=mkF 1 du0 mm0
noncomputable def jv0:GS:=(v7 (o9 (Y9 1 [] (M8 (oA (z7 (gv 0) z9) m_values)) (gN 0) (ob (w40 isTup (gv 0))) (o2 (gv 0) (gc (.int 1)) ixD)))
 p6)
noncomputable def jm0:List Str:=["part"]
noncomputable def xz0:List D->Option D:=mkF 1 jm0 jv0
noncomputable def sm0:GS:=(v7 (ya0 (tupI (gv 0)) (gN 1)
 (v7 (ya0 (M8 (oA (z7 (gv 1) z9) xz0)) (gN 2)
 (v7 (ifD (ob (o2 (gv 2) (oA (z7 (gv 0) z9) b7) geD))
 (v7 (o9 (gc (.bl false)))
 p6)
 p6)
 p6))
 p6))
 (v7 (o9 (gc (.bl true)))
 p6))
noncomputable def kc0:List Str:=["web", "part", "k"]
noncomputable def G4:List D->Option D:=mkF 1 kc0 sm0
noncomputable def tw0:GS:=(v7 (ifD (S5 (ob (o2 (o2 (gv 0) (gc (.int 0)) ixD) (gc (.str "text")) eqD)) (ob (o2 (o2 (gv 0) (gc (.int 0)) ixD) (gc (.str "row")) eqD)))
 (v7 (o9 (j4 z9))
 p6)
 p6)
 (v7 (o9 (Y9 1 [] (tupI (o2 (gv 0) (unG K9 (gc (.int 1))) ixD)) (gN 0) noT (o2 (gv 0) (gc (.int 0)) ixD)))
 p6))
noncomputable def l60:List Str:=["part"]
noncomputable def G6:List D->Option D:=mkF 1 l60 tw0
noncomputable def td0:GS:=(v7 (vi0 1 (j4 z9))
 (v7 (ya0 (tupI (gv 0)) (gN 2)
 (v7 (zk0 (o20 1 (oA (z7 (gv 2) z9) G6)))
 (v7 (ifD (ob (o2 (o2 (gv 2) (gc (.int 0)) ixD) (gc (.str "record")) eqD))
 (v7 (zk0 (wk0 1 (o2 (gv 2) (gc (.int 1)) ixD)))
 p6)
 p6)
 p6)))
 (v7 (o9 (og0 (oA (z7 (gv 1) z9) wy0)))
 p6)))
noncomputable def m10:List Str:=["web", "names", "part"]
noncomputable def J6:List D->Option D:=mkF 1 m10 td0
noncomputable def mh0:GS:=(v7 (ifD (S5 (T7 (ob (oA (z7 (gv 0) (z7 (gc (.int 60)) z9)) O2))) (ob (o2 (oA (z7 (gv 0) z9) b7) (gc (.int 0)) eqD)))
 (v7 (o9 (gc (.bl false)))
 p6)
 p6)
 (v7 (ifD (T7 (ob (oA (z7 (Y9 1 [] (tupI (gv 0)) (gN 0) noT (oA (z7 (gv 0) z9) Z0)) z9) va0)))
 (v7 (o9 (gc (.bl false)))
 p6)
 p6)
 (v7 (o9 (K8 (oA (z7 (gv 0) z9) G4) (o2 (oA (z7 (gv 0) z9) J6) (gc (.int 60)) leD)))
 p6)))
noncomputable def dq0:List Str:=["thing"]
noncomputable def J5:List D->Option D:=mkF 1 dq0 mh0
theorem oi0(ds:List D)(m:Int):O2 [.tup ds,.int m]=some (.bl (decide ((ds.length:Int)<=m))):=by
 simp[O2,mkF,qi0,ta0]
noncomputable def R6:D->Bool
 | .non=>true
 | .int _=>true
 | .tup [x,.int i]=>marks x "at"&&decide (0<=i)
 | _=>false
theorem je0(d:D):M3 [d]=some (.bl (R6 d)):=by
 cases d with
 | tup xs =>
  match xs with
  | []=>rfl
  | [x]=>rfl
  | [x,y]=>cases y<;>rfl
  | x::y::z::r=>simp[M3,Q4,R6]
 | _=>rfl
theorem f90(ds:List D):K7 (gN 0) noT (oA (z7 (gv 0) z9) M3) [.un] ds=some (ds.map λd=>.bl (R6 d)) :=
 M7 (λd=>.bl (R6 d)) λd _=>⟨[.sh d],rfl,rfl,je0 d⟩
theorem lr0(ds:List D)(hl:ds.length<=sizeLine):K5 [.tup ds]=some (.bl (decide ((ds.length:Int)<=12)&&ds.all R6)):=by
 have e1:=f90 ds;have e2:=oi0 ds 12;have e3:=yr0 R6 ds
 by_cases h:(ds.length:Int)<=12
 ·simp[K5,mkF,vy0,w70,e1,e2,e3,hl,h]
 ·simp[K5,mkF,vy0,w70,e2,h]
noncomputable def nameB:D->Bool
 | .str x=>isName x
 | _=>false
noncomputable def okS:D->Prop
 | .str x=>x.length<=sizeLine
 | _=>True
theorem ff0(d:D)(h:okS d):zc0 [d]=some (.bl (nameB d)):=by
 cases d<;>first|rfl|exact if_pos h
noncomputable def zj0:D->Bool
 | .tup [n,v]=>nameB n&&R6 v
 | _=>false
noncomputable def okP:D->Prop
 | .tup (n::_)=>okS n
 | _=>True
theorem Yi0(d:D)(h:okP d):z70 [d]=some (.bl (zj0 d)):=by
 cases d with
 | tup xs =>
  match xs,h with
  | [],_=>rfl
  | [x],h=>simp[z70,mkF,vq0,wc0,zj0]
  | [x,y],h =>
   have e1:=ff0 x h;have e2:=je0 y;have a0:atI [x,y] 0=some x:=rfl;have a1:atI [x,y] 1=some y:=rfl;cases hn:nameB x<;>simp[z70,mkF,vq0,wc0,zj0,e1,e2,a0,a1,hn]
  | x::y::z::r,h =>
   have:¬((r.length:Int)+1+1+1=2):=by omega
   simp[z70,mkF,vq0,wc0,zj0,this]
 | _=>rfl
noncomputable def t90:D->Str
 | .tup (.str n::_)=>n
 | _ => ""
theorem ih0(ds:List D)(h:∀d∈ds,okP d):K7 (gN 0) noT (oA (z7 (gv 0) z9) z70) [.un] ds=some (ds.map λd=>.bl (zj0 d)) :=
 M7 (λd=>.bl (zj0 d)) λd hd=>⟨[.sh d],rfl,rfl,Yi0 d (h d hd)⟩
theorem j00(ds:List D)(h:ds.all zj0=true):K7 (gN 0) noT (o2 (gv 0) (gc (.int 0)) ixD) [.un] ds=some (ds.map λd=>.str (t90 d)) :=
 M7 (λd=>.str (t90 d)) λd hd=>by
  refine⟨[.sh d],rfl,rfl,?_⟩;have hp:=K0.mp h d hd;cases d with
  | tup xs =>
   match xs,hp with
   | [n,v],hp =>
    cases n with
    | str x=>rfl
    | _=>simp[zj0,nameB] at hp
  | _=>simp[zj0] at hp
theorem ja0(ds:List D)(hl:ds.length<=sizeLine)(h:∀d∈ds,okP d) :
  T3 [.tup ds]=some (.bl (decide ((ds.length:Int)<=12)&&ds.all zj0&&decide (((Q5 (ds.map t90)).length:Int)=(ds.length:Int)))):=by
 have e1:=ih0 ds h;have e2:=oi0 ds 12;have e3:=yr0 zj0 ds
 by_cases hz:(ds.length:Int)<=12
 ·cases ha:ds.all zj0 with
  | false =>
   have O:(ds.map zj0).all id=false:=by rw[List.all_map];exact ha
   simp[T3,mkF,wp0,yz0,e1,e2,e3,hl,hz,O]
  | true =>
   have O:(ds.map zj0).all id=true:=by rw[List.all_map];exact ha
   have e4:=j00 ds ha;have e5:=strs_map t90 ds;have e6:(ds.map t90).length<=4000:=by rw[List.length_map];omega
   simp only[List.length_map] at e6;simp[T3,mkF,wp0,yz0,e1,e2,e3,e4,e5,e6,hl,hz,O]
 ·simp[T3,mkF,wp0,yz0,e2,hz]
theorem ro0(l:List Str)(y:Str):s50 l y=true↔y∈l:=by
 unfold s50;rw[List.any_eq_true];constructor
 ·rintro⟨z,hz,e⟩
  have:=n0 e;subst this;exact hz
 ·intro h;exact⟨y,h,E4 rfl⟩
theorem tm0:∀(ys acc:List Str),(ys.foldl ym0 acc).length<=acc.length+ys.length/\((ys.foldl ym0 acc).length=acc.length+ys.length↔ys.Nodup/\∀y∈ys,y∉acc)
 | [],acc=>by simp
 | y::ys,acc=>by
  rw[List.foldl_cons];unfold ym0
  by_cases h:s50 acc y=true
  ·rw[if_pos h]
   have ih:=tm0 ys acc;unfold ym0 at ih;have hm:=(ro0 acc y).mp h;refine⟨by rw[List.length_cons];omega,?_⟩;constructor
   ·intro e;rw[List.length_cons] at e;omega
   ·rintro⟨_,h2⟩;exact absurd hm (h2 y A5)
  ·rw[if_neg h]
   have ih:=tm0 ys (acc++[y]);unfold ym0 at ih;have hm:y∉acc:=λz=>h ((ro0 acc y).mpr z)
   rw[List.length_append,List.length_singleton] at ih;refine⟨by rw[List.length_cons];omega,?_⟩;rw[List.length_cons];constructor
   ·intro e
    obtain⟨h1,h2⟩:=ih.2.mp (by omega);refine⟨H0.mpr ⟨λz=>h2 y z (by simp),h1⟩,λz hz=>?_⟩;rcases B1.mp hz with rfl|hz
    ·exact hm
    ·exact λq=>h2 z hz (by simp[q])
   ·rintro⟨h1,h2⟩
    obtain⟨h3,h4⟩:=H0.mp h1;have:=ih.2.mpr ⟨h4,λz hz q=>by
     rcases C7.mp q with q|q
     ·exact h2 z (A7 _ hz) q
     ·have:=M1.mp q
      subst this;exact h3 hz⟩
    omega
theorem rs0(ys:List Str):(Q5 ys).length=ys.length↔ys.Nodup:=by
 have:=(tm0 ys []).2;unfold Q5
 simpa using this
theorem n90(w:D):Z0 [.tup [.str "text",w]]=zu0 [w]:=by
 have e1:j5 [.tup [.str "text",w],.str "text",.int 2]=some (.bl true):=rfl;have a1:atI [D.str "text",w] 1=some w:=rfl;cases h:zu0 [w]<;>simp[Z0,mkF,ys0,yc0,e1,a1,h]
theorem mf0(w:D):Z0 [.tup [.str "row",w]]=K5 [w]:=by
 have e1:j5 [.tup [.str "row",w],.str "text",.int 2]=some (.bl false):=by simp[j5,marks];decide
 have e2:j5 [.tup [.str "row",w],.str "row",.int 2]=some (.bl true):=rfl;have a1:atI [D.str "row",w] 1=some w:=rfl;cases h:K5 [w]<;>simp[Z0,mkF,ys0,yc0,e1,e2,a1,h]
theorem ql0(w:D):Z0 [.tup [.str "table",w]]=T3 [w]:=by
 have e1:j5 [.tup [.str "table",w],.str "text",.int 2]=some (.bl false):=by simp[j5,marks];decide
 have e2:j5 [.tup [.str "table",w],.str "row",.int 2]=some (.bl false):=by simp[j5,marks];decide
 have e3:j5 [.tup [.str "table",w],.str "table",.int 2]=some (.bl true):=rfl;have a1:atI [D.str "table",w] 1=some w:=rfl;cases h:T3 [w]<;>simp[Z0,mkF,ys0,yc0,e1,e2,e3,a1,h]
theorem vz0(c w:D)(hc:okS c):Z0 [.tup [.str "record",c,w]]=if nameB c=true then T3 [w] else some (.bl false):=by
 have e1:j5 [.tup [.str "record",c,w],.str "text",.int 2]=some (.bl false):=by simp[j5]
 have e2:j5 [.tup [.str "record",c,w],.str "row",.int 2]=some (.bl false):=by simp[j5]
 have e3:j5 [.tup [.str "record",c,w],.str "table",.int 2]=some (.bl false):=by simp[j5]
 have e4:j5 [.tup [.str "record",c,w],.str "record",.int 3]=some (.bl true):=rfl;have a1:atI [D.str "record",c,w] 1=some c:=rfl;have a2:atI [D.str "record",c,w] 2=some w:=rfl;have e5:=ff0 c hc;cases hn:nameB c
 ·simp[Z0,mkF,ys0,yc0,e1,e2,e3,e4,e5,a1,a2,hn]
 ·cases h:T3 [w]<;>simp[Z0,mkF,ys0,yc0,e1,e2,e3,e4,e5,a1,a2,hn,h]
inductive Pt where
 | text (w:Str)|row (vs:List D)|table (ps:List (Str×D))|rcd (c:Str) (ps:List (Str×D))
noncomputable def pr(p:Str×D):D:=.tup [.str p.1,p.2]
noncomputable def Pt.d:Pt->D
 | .text w=>.tup [.str "text",.str w]
 | .row vs=>.tup [.str "row",.tup vs]
 | .table ps=>.tup [.str "table",.tup (ps.map pr)]
 | .rcd c ps=>.tup [.str "record",.str c,.tup (ps.map pr)]
noncomputable def Pt.vals:Pt->List D
 | .text _=>[]
 | .row vs=>vs
 | .table ps=>ps.map (·.2)
 | .rcd _ ps=>ps.map (·.2)
noncomputable def Pt.pnames:Pt->List Str
 | .text _=>[]
 | .row _=>[]
 | .table ps=>ps.map (·.1)
 | .rcd _ ps=>ps.map (·.1)
noncomputable def Pt.cls:Pt->List Str
 | .rcd c _=>[c]
 | _=>[]
noncomputable def Pt.all(p:Pt):List Str:=p.pnames++p.cls
noncomputable def lk:D->Option Int
 | .tup [_,.int i]=>some i
 | _=>none
noncomputable def Pt.links(p:Pt):List Int:=p.vals.filterMap lk
structure PsOk(ps:List (Str×D)):Prop where
 len:ps.length<=12
 names:∀p∈ps,isName p.1=true
 vals:∀p∈ps,R6 p.2=true
 nd:(ps.map (·.1)).Nodup
noncomputable def Pt.Ok:Pt->Prop
 | .text w=>isWord w=true
 | .row vs=>vs.length<=12/\∀v∈vs,R6 v=true
 | .table ps=>PsOk ps
 | .rcd c ps=>isName c=true/\PsOk ps
theorem h70{n:Str}(h:isName n=true):n.length<=8:=by
 unfold isName at h;simp only[Bool.and_eq_true,decide_eq_true_eq] at h;omega
theorem n80{n:Str}(h:isName n=true):n.length<=sizeLine:=A9 (h70 h) (by decide)
theorem fb0{n:Str}(h:isWord n=true):n.length<=sizeLine:=by
 unfold isWord at h;simp only[Bool.and_eq_true,decide_eq_true_eq] at h;have:(20:Nat)<=sizeLine:=by decide
 omega
theorem PsOk.pairs{ps:List (Str×D)}(h:PsOk ps):T3 [.tup (ps.map pr)]=some (.bl true):=by
 have hl:(ps.map pr).length<=sizeLine:=by rw[List.length_map];exact A9 h.len (by decide)
 rw[ja0 _ hl (λd hd=>by
  obtain⟨p,hp,rfl⟩:=A6.mp hd;exact n80 (h.names p hp))]
 have h1:(((ps.map pr).length:Int)<=12):=by have:=h.len;rw[List.length_map];omega
 have h2:(ps.map pr).all zj0=true:=K0.mpr λd hd=>by
  obtain⟨p,hp,rfl⟩:=A6.mp hd;simp[pr,zj0,nameB,h.names p hp,h.vals p hp]
 have h3:(Q5 ((ps.map pr).map t90)).length=(ps.map pr).length:=by
  have e:(ps.map pr).map t90=ps.map (·.1):=by rw[List.map_map];rfl
  rw[e,List.length_map];have:=(rs0 (ps.map (·.1))).mpr h.nd
  rwa [List.length_map] at this
 rw[h2,h3,decide_eq_true h1];simp
theorem Pt.Ok.part{p:Pt}(h:p.Ok):Z0 [p.d]=some (.bl true):=by
 cases p with
 | text w =>
  show Z0 [.tup [.str "text",.str w]]=_;rw[n90];show (if w.length<=sizeLine then _ else _)=_;rw[if_pos (fb0 h),show isWord w=true from h]
 | row vs =>
  show Z0 [.tup [.str "row",.tup vs]]=_;have hl:vs.length<=12:=h.1;rw[mf0,lr0 _ (A9 hl (by decide)),List.all_eq_true.mpr h.2,decide_eq_true (by omega)];rfl
 | table ps =>
  show Z0 [.tup [.str "table",.tup (ps.map pr)]]=_;rw[ql0];exact PsOk.pairs h
 | rcd c ps =>
  show Z0 [.tup [.str "record",.str c,.tup (ps.map pr)]]=_;rw[vz0 (.str c) _ (n80 h.1),if_pos (show nameB (.str c)=true from h.1)];exact h.2.pairs
theorem mw0(ps:List (Str×D)):K7 (gN 0) noT (o2 (gv 0) (gc (.int 1)) ixD) [.un] (ps.map pr)=some (ps.map (·.2)):=by
 rw[M7 (λd=>match d with|.tup [_,v]=>v|_=>.non) (λd hd=>by
  obtain⟨p,hp,rfl⟩:=A6.mp hd;exact⟨[.sh (pr p)],rfl,rfl,rfl⟩),List.map_map]
 rfl
theorem lk0(ps:List (Str×D)):K7 (gN 0) noT (o2 (gv 0) (gc (.int 0)) ixD) [.un] (ps.map pr)=some ((ps.map (·.1)).map .str):=by
 rw[M7 (λd=>.str (t90 d)) (λd hd=>by
  obtain⟨p,hp,rfl⟩:=A6.mp hd;exact⟨[.sh (pr p)],rfl,rfl,rfl⟩),List.map_map,List.map_map]
 rfl
noncomputable def Pt.few(p:Pt):Prop:=p.vals.length<=sizeLine
theorem Pt.Ok.few{p:Pt}(h:p.Ok):p.few:=by
 have z:(12:Nat)<=sizeLine:=by decide
 cases p with
 | text w=>exact C3 _
 | row vs=>exact A9 h.1 z
 | table ps=>exact A9 (by show (ps.map _).length<=12;rw[List.length_map];exact PsOk.len h) z
 | rcd c ps=>exact A9 (by show (ps.map _).length<=12;rw[List.length_map];exact h.2.len) z
theorem fl0(p:Pt)(h:p.few):m_values [p.d]=some (.lst p.vals):=by
 cases p with
 | text w=>kernel_rfl
 | row vs =>
  refine Y5 rfl (p7 (δ':=[.sh (Pt.row vs).d]) (by rw[X4 (by kernel_rfl)];rfl) (n8 (by rw[R8 (by kernel_rfl)];rfl)))
 | table ps =>
  refine Y5 rfl (p7 (δ':=[.sh (Pt.table ps).d]) (by rw[X4 (by kernel_rfl)];rfl) (p7 (δ':=[.sh (Pt.table ps).d]) (by rw[X4 (by kernel_rfl)];rfl) (n8 (U3 ?_))));exact J7 (items:=ps.map pr) rfl (by have:(ps.map (·.2)).length<=sizeLine:=h;simpa using this) (mw0 ps)
 | rcd c ps =>
  refine Y5 rfl (p7 (δ':=[.sh (Pt.rcd c ps).d]) (by rw[X4 (by kernel_rfl)];rfl) (p7 (δ':=[.sh (Pt.rcd c ps).d]) (by rw[X4 (by kernel_rfl)];rfl) (n8 (U3 ?_))));exact J7 (items:=ps.map pr) rfl (by have:(ps.map (·.2)).length<=sizeLine:=h;simpa using this) (mw0 ps)
theorem nz0(p:Pt)(h:p.few):G6 [p.d]=some (.lst (p.pnames.map .str)):=by
 cases p with
 | text w=>kernel_rfl
 | row vs=>kernel_rfl
 | table ps =>
  refine Y5 rfl (p7 (δ':=[.sh (Pt.table ps).d]) (by rw[X4 (by kernel_rfl)];rfl) (n8 (U3 ?_)));exact J7 (items:=ps.map pr) rfl (by have:(ps.map (·.2)).length<=sizeLine:=h;simpa using this) (lk0 ps)
 | rcd c ps =>
  refine Y5 rfl (p7 (δ':=[.sh (Pt.rcd c ps).d]) (by rw[X4 (by kernel_rfl)];rfl) (n8 (U3 ?_)));exact J7 (items:=ps.map pr) rfl (by have:(ps.map (·.2)).length<=sizeLine:=h;simpa using this) (lk0 ps)
noncomputable def Pt.sane(p:Pt):Prop:=p.few/\∀v∈p.vals,R6 v=true
theorem Pt.Ok.sane{p:Pt}(h:p.Ok):p.sane:=by
 refine⟨h.few,λv hv=>?_⟩;cases p with
 | text w=>cases hv
 | row vs=>exact h.2 v hv
 | table ps=>obtain⟨p,hp,rfl⟩:=A6.mp hv;exact PsOk.vals h p hp
 | rcd c ps=>obtain⟨p,hp,rfl⟩:=A6.mp hv;exact h.2.vals p hp
theorem vv0{v:D}(h:R6 v=true):v=.non∨(∃i,v=.int i)∨∃i,v=.tup [.str "at",.int i]/\0<=i:=by
 cases v with
 | non=>exact .inl rfl
 | int i=>exact .inr (.inl ⟨i,rfl⟩)
 | tup xs =>
  match xs,h with
  | [x,.int i],h =>
   simp only[R6,Bool.and_eq_true,decide_eq_true_eq] at h;cases x<;>simp[marks] at h
   exact .inr (.inr ⟨i,by rw[h.1],h.2⟩)
 | _=>cases h
theorem de0(p:Pt)(h:p.sane):xz0 [p.d]=some (.lst (p.links.map .int)):=by
 have hf:=h.1;refine Y5 rfl (n8 (U3 ?_));refine J7 (items:=p.vals) (by
  unfold M8;rw[X5 (ds:=[p.d]) rfl,fl0 p hf];rfl) hf ?_
 have hd:M9 1 [] (W8 jm0 [p.d])=[.un]:=rfl;rw[hd,v70 isTup (λd=>match lk d with|some i=>.int i|none=>.non) (λv hv=>by
  rcases vv0 (h.2 v hv) with rfl|⟨i,rfl⟩|⟨i,rfl,_⟩
  ·exact⟨[.sh .non],rfl,rfl,λz=>by cases z⟩
  ·exact⟨[.sh (.int i)],rfl,rfl,λz=>by cases z⟩
  ·exact⟨[.sh (.tup [.str "at",.int i])],rfl,rfl,λ_=>rfl⟩)]
 have O:∀vs:List D,(∀v∈vs,R6 v=true)->(vs.filter isTup).map (λd=>match lk d with|some i=>D.int i|none=>D.non)=(vs.filterMap lk).map D.int:=by
  intro vs hv
  induction vs with
  | nil=>rfl
  | cons v vs ih =>
   have ih:=ih λu hu=>hv u (A7 _ hu)
   rcases vv0 (hv v A5) with rfl|⟨i,rfl⟩|⟨i,rfl,_⟩
   ·exact ih
   ·exact ih
   ·show D.int i::(vs.filter isTup).map _=D.int i::(vs.filterMap lk).map .int
    rw[ih]
 exact B7 some (O p.vals h.2)
noncomputable def ti0:GS:=(v7 (ifD (ob (o2 (gv 2) (oA (z7 (gv 0) z9) b7) geD))
 (v7 (o9 (gc (.bl false)))
 p6)
 p6)
 p6)
theorem uy0(n:Nat)(ds:List D)(hn:ds.length=n)(a:Sl):∀(ks:List Int) (s:Sl),(∀k∈ks,k<n)->∃s',T5 (gN 2) ti0 (ks.map .int) [.sh (.tup ds),a,s]=some (.nx [.sh (.tup ds),a,s'])
 | [],s,_=>⟨s,rfl⟩
 | k::ks,s,h=>by
  obtain⟨s',e⟩:=uy0 n ds hn a ks (.sh (.int k)) λq hq=>h q (A7 _ hq)
  refine⟨s',?_⟩;rw[List.map_cons,M5 (δ1:=[.sh (.tup ds),a,.sh (.int k)]) (δ2:=[.sh (.tup ds),a,.sh (.int k)]) rfl (by
   refine p7 (δ':=[.sh (.tup ds),a,.sh (.int k)]) (by
    rw[X4 (by
     have:=h k A5;show some (decide ((ds.length:Int)<=k))=_;rw[decide_eq_false (by omega)])]
    rfl) rfl)]
  exact e
theorem ot0(n:Nat)(ds:List D)(hn:ds.length=n)(a:Sl):∀(ks:List Int) (s:Sl),(∃k∈ks,(n:Int)<=k)->T5 (gN 2) ti0 (ks.map .int) [.sh (.tup ds),a,s]=some (.rt (.bl false))
 | [],s,h=>by obtain⟨k,hk,_⟩:=h;cases hk
 | k::ks,s,h=>by
  by_cases hk:(n:Int)<=k
  ·rw[List.map_cons]
   unfold T5;have:ti0 [.sh (.tup ds),a,.sh (.int k)]=some (.rt (.bl false)):=n8 (by
    rw[R8 (by
     show some (decide ((ds.length:Int)<=k))=_;rw[decide_eq_true (by omega)])]
    rfl)
   show (match ti0 [.sh (.tup ds),a,.sh (.int k)] with
    | some (.nx δ')=>_|some (.ct δ')=>_|some (.bk δ')=>_|r=>r)=_
   rw[this]
  ·rw[List.map_cons,M5 (δ1:=[.sh (.tup ds),a,.sh (.int k)]) (δ2:=[.sh (.tup ds),a,.sh (.int k)]) rfl (by
    refine p7 (δ':=[.sh (.tup ds),a,.sh (.int k)]) (by
     rw[X4 (by
      show some (decide ((ds.length:Int)<=k))=_;rw[decide_eq_false (by omega)])]
     rfl) rfl)]
   refine ot0 n ds hn a ks _ ?_;obtain⟨q,hq,hz⟩:=h;rcases B1.mp hq with rfl|hq
   ·exact absurd hz hk
   ·exact⟨q,hq,hz⟩
noncomputable def uo0:GS:=(v7 (ya0 (M8 (oA (z7 (gv 1) z9) xz0)) (gN 2) ti0) p6)
theorem uu0(p:Pt)(h:p.sane)(a s:Sl):M8 (oA (z7 (gv 1) z9) xz0) [a,.sh p.d,s]=some (p.links.map .int):=by
 unfold M8;rw[X5 (ds:=[p.d]) rfl,de0 p h];rfl
theorem qj0(n:Nat)(ds:List D)(hn:ds.length=n):∀(ps:List Pt) (a s:Sl),(∀p∈ps,p.sane/\∀k∈p.links,k<n)->∃a' s',T5 (gN 1) uo0 (ps.map Pt.d) [.sh (.tup ds),a,s]=some (.nx [.sh (.tup ds),a',s'])
 | [],a,s,_=>⟨a,s,rfl⟩
 | p::ps,a,s,h=>by
  obtain⟨hs,hk⟩:=h p A5;obtain⟨s1,e1⟩:=uy0 n ds hn (.sh p.d) p.links s hk;obtain⟨a',s',e2⟩:=qj0 n ds hn ps (.sh p.d) s1 λq hq=>h q (A7 _ hq)
  refine⟨a',s',?_⟩;rw[List.map_cons,M5 (G:=uo0) (δ1:=[.sh (.tup ds),.sh p.d,s]) (δ2:=[.sh (.tup ds),.sh p.d,s1]) rfl (p7 (O7 (uu0 p hs _ _) e1) rfl)];exact e2
theorem nk0(n:Nat)(ds:List D)(hn:ds.length=n):∀(ps:List Pt) (a s:Sl),(∀p∈ps,p.sane)->(∃p∈ps,∃k∈p.links,(n:Int)<=k)->T5 (gN 1) uo0 (ps.map Pt.d) [.sh (.tup ds),a,s]=some (.rt (.bl false))
 | [],a,s,_,h=>by obtain⟨p,hp,_⟩:=h;cases hp
 | p::ps,a,s,hs,h=>by
  have hp:=hs p A5
  by_cases hk:∃k∈p.links,(n:Int)<=k
  ·rw[List.map_cons]
   unfold T5;have:uo0 [.sh (.tup ds),.sh p.d,s]=some (.rt (.bl false)):=n8 (O7 (uu0 p hp _ _) (ot0 n ds hn _ _ _ hk));show (match uo0 [.sh (.tup ds),.sh p.d,s] with
    | some (.nx δ')=>_|some (.ct δ')=>_|some (.bk δ')=>_|r=>r)=_
   rw[this]
  ·obtain⟨s1,e1⟩:=uy0 n ds hn (.sh p.d) p.links s λk O=>by
    by_cases z:k<n
    ·exact z
    ·exact absurd ⟨k,O,by omega⟩ hk
   rw[List.map_cons,M5 (G:=uo0) (δ1:=[.sh (.tup ds),.sh p.d,s]) (δ2:=[.sh (.tup ds),.sh p.d,s1]) rfl (p7 (O7 (uu0 p hp _ _) e1) rfl)];refine nk0 n ds hn ps _ _ (λq hq=>hs q (A7 _ hq)) ?_;obtain⟨q,hq,hz⟩:=h;rcases B1.mp hq with rfl|hq
   ·exact absurd hz hk
   ·exact⟨q,hq,hz⟩
theorem Z00(ps:List Pt)(h:∀p∈ps,p.sane/\∀k∈p.links,k<ps.length):G4 [.tup (ps.map Pt.d)]=some (.bl true):=by
 obtain⟨a',s',e⟩:=qj0 ps.length (ps.map Pt.d) (by simp) ps .un .un h;exact Y5 rfl (p7 (O7 (items:=ps.map Pt.d) rfl e) rfl)
theorem el0(ps:List Pt)(hs:∀p∈ps,p.sane)(h:∃p∈ps,∃k∈p.links,(ps.length:Int)<=k):G4 [.tup (ps.map Pt.d)]=some (.bl false) :=
 Y5 rfl (n8 (O7 (items:=ps.map Pt.d) rfl (nk0 ps.length (ps.map Pt.d) (by simp) ps .un .un hs h)))
noncomputable def cu0:GS:=(v7 (zk0 (o20 1 (oA (z7 (gv 2) z9) G6)))
 (v7 (ifD (ob (o2 (o2 (gv 2) (gc (.int 0)) ixD) (gc (.str "record")) eqD))
 (v7 (zk0 (wk0 1 (o2 (gv 2) (gc (.int 1)) ixD)))
 p6)
 p6)
 p6))
theorem g90{p:Pt}(h:p.Ok):p.pnames.length<=12:=by
 cases p with
 | text w=>exact C3 _
 | row vs=>exact C3 _
 | table ps=>show (ps.map _).length<=12;rw[List.length_map];exact PsOk.len h
 | rcd c ps=>show (ps.map _).length<=12;rw[List.length_map];exact h.2.len
theorem dg0(p:Pt)(h:p.Ok)(a:Sl)(acc:List Str)(hz:acc.length<=10000):cu0 [a,.ow (.lst (acc.map .str)),.sh p.d]=some (.nx [a,.ow (.lst ((acc++p.all).map .str)),.sh p.d]):=by
 have z:(10000:Nat)+100<=sizeLine:=by decide
 have hl:=g90 h;have e1:zk0 (o20 1 (oA (z7 (gv 2) z9) G6)) [a,.ow (.lst (acc.map .str)),.sh p.d]=some (.nx [a,.ow (.lst ((acc++p.pnames).map .str)),.sh p.d]):=by
  unfold zk0 o20;rw[X5 (ds:=[p.d]) rfl,nz0 p h.few];show Option.map _ (if (acc.map D.str).length+(p.pnames.map D.str).length<=sizeLine then _ else _)=_;rw[if_pos (by rw[List.length_map,List.length_map];omega),List.map_append];rfl
 refine p7 e1 ?_;cases p with
 | rcd c ps =>
  refine p7 (δ':=[a,.ow (.lst ((acc++(Pt.rcd c ps).all).map .str)),.sh (Pt.rcd c ps).d]) (by
   rw[R8 (by kernel_rfl)];refine p7 (δ':=[a,.ow (.lst ((acc++(Pt.rcd c ps).all).map .str)),.sh (Pt.rcd c ps).d]) ?_ rfl;unfold zk0 wk0;have e2:o2 (gv 2) (gc (.int 1)) ixD [a,.ow (.lst ((acc++(Pt.rcd c ps).pnames).map .str)),.sh (Pt.rcd c ps).d]=some (.str c):=rfl;rw[e2];show Option.map _ (if ((acc++(Pt.rcd c ps).pnames).map D.str).length<sizeLine then _ else _)=_;rw[if_pos (by rw[List.length_map,List.length_append];omega)];have e3:(acc++(Pt.rcd c ps).all).map D.str=(acc++(Pt.rcd c ps).pnames).map D.str++[.str c]:=by
    unfold Pt.all;rw[← List.append_assoc,List.map_append];rfl
   rw[e3];rfl) rfl
 | text w =>
  refine p7 (δ':=[a,.ow (.lst ((acc++(Pt.text w).all).map .str)),.sh (Pt.text w).d]) (by
   rw[X4 (by kernel_rfl)];rfl) rfl
 | row vs =>
  refine p7 (δ':=[a,.ow (.lst ((acc++(Pt.row vs).all).map .str)),.sh (Pt.row vs).d]) (by
   rw[X4 (by kernel_rfl)];rfl) rfl
 | table ps =>
  refine p7 (δ':=[a,.ow (.lst ((acc++(Pt.table ps).all).map .str)),.sh (Pt.table ps).d]) (by
   rw[X4 (by kernel_rfl)];unfold Pt.all Pt.cls;rw[List.append_nil];rfl) rfl
theorem jn0{p:Pt}(h:p.Ok):p.all.length<=13:=by
 have:=g90 h;unfold Pt.all;rw[List.length_append];have:p.cls.length<=1:=by cases p<;>simp[Pt.cls]
 omega
theorem kb0(a:Sl):∀(ps:List Pt) (acc:List Str) (s:Sl),(∀p∈ps,p.Ok)->acc.length+13*ps.length<=10000->∃s',T5 (gN 2) cu0 (ps.map Pt.d) [a,.ow (.lst (acc.map .str)),s]=some (.nx [a,.ow (.lst ((acc++ps.flatMap Pt.all).map .str)),s'])
 | [],acc,s,_,_=>⟨s,by rw[List.flatMap_nil,List.append_nil];rfl⟩
 | p::ps,acc,s,h,hz=>by
  rw[List.length_cons] at hz;have hp:=h p A5;have hl:=jn0 hp;obtain⟨s',e⟩:=kb0 a ps (acc++p.all) (.sh p.d) (λq hq=>h q (A7 _ hq)) (by rw[List.length_append];omega);refine⟨s',?_⟩;rw[List.map_cons,M5 (δ1:=[a,.ow (.lst (acc.map .str)),.sh p.d]) rfl (dg0 p hp a acc (by omega)),e,List.flatMap_cons,List.append_assoc]
theorem mj0:∀(ps:List Pt),(∀p∈ps,p.Ok)->(ps.flatMap Pt.all).length<=13*ps.length
 | [],_=>A1 _
 | p::ps,h=>by
  rw[List.flatMap_cons,List.length_append,List.length_cons];have:=jn0 (h p A5);have:=mj0 ps λq hq=>h q (A7 _ hq)
  omega
theorem d80(ps:List Pt)(h:∀p∈ps,p.Ok)(hz:ps.length<=300):J6 [.tup (ps.map Pt.d)]=some (.int (Q5 (ps.flatMap Pt.all)).length):=by
 obtain⟨s',e⟩:=kb0 (.sh (.tup (ps.map Pt.d))) ps [] .un h (by simp;omega);rw[List.nil_append] at e;have hl:=mj0 ps h;have e3:u20 ((ps.flatMap Pt.all).map D.str)=some (ps.flatMap Pt.all):=by
  have:=strs_map id (ps.flatMap Pt.all)
  simpa using this
 refine Y5 rfl (p7 (δ':=[.sh (.tup (ps.map Pt.d)),.ow (.lst []),.un]) rfl (p7 (O7 (items:=ps.map Pt.d) rfl e) (n8 (U3 ?_))));show wy0 [.lst ((ps.flatMap Pt.all).map D.str)]=_;unfold wy0;dsimp only;rw[e3,Option.bind_some,if_pos (by omega)]
theorem ho0(ds:List D)(f:D->Bool)(h:∀d∈ds,Z0 [d]=some (.bl (f d))):K7 (gN 0) noT (oA (z7 (gv 0) z9) Z0) [.un] ds=some (ds.map λd=>.bl (f d)) :=
 M7 (λd=>.bl (f d)) λd hd=>⟨[.sh d],rfl,rfl,h d hd⟩
theorem q70(ds:List D)(h0:ds≠[])(hl:ds.length<=60)(f:D->Bool)(h:∀d∈ds,Z0 [d]=some (.bl (f d)))(r:Bool)
  (hr:ds.all f=true->∃b,G4 [.tup ds]=some (.bl b)/\(b=true->∃n:Nat,J6 [.tup ds]=some (.int n)/\decide ((n:Int)<=60)=r)/\(b=false->r=false)) (hf:ds.all f=false->r=false):J5 [.tup ds]=some (.bl r):=by
 have e1:=oi0 ds 60;rw[decide_eq_true (by omega)] at e1;have Y:¬((ds.length:Int)=0):=by
  intro z;exact h0 (E3.mp (by omega))
 have O:ob (oA (z7 (Y9 1 [] (tupI (gv 0)) (gN 0) noT (oA (z7 (gv 0) z9) Z0)) z9) va0) [.sh (.tup ds)]=some (ds.all f):=by
  unfold ob;rw[X5 (ds:=[.lst (ds.map λd=>.bl (f d))]) (cons_of (J7 (items:=ds) rfl (A9 hl (by decide)) (ho0 ds f h)) rfl)];show ((bools (ds.map λd=>.bl (f d))).map λbs=>D.bl (bs.all id)).bind asB=_;rw[yr0];show some ((ds.map f).all id)=_;rw[List.all_map];rfl
 refine Y5 rfl (p7 (δ':=[.sh (.tup ds)]) (by
  rw[X4 (by
   unfold S5 T7;have q1:ob (oA (z7 (gv 0) (z7 (gc (.int 60)) z9)) O2) [.sh (.tup ds)]=some true:=by
    unfold ob;rw[X5 (ds:=[.tup ds,.int 60]) rfl,e1];rfl
   have q2:ob (o2 (oA (z7 (gv 0) z9) b7) (gc (.int 0)) eqD) [.sh (.tup ds)]=some false:=by
    show some (decide ((ds.length:Int)=0))=_;rw[decide_eq_false Y]
   show ((ob (oA (z7 (gv 0) (z7 (gc (.int 60)) z9)) O2) [.sh (.tup ds)]).map (!·)).bind _=_;rw[q1];exact q2)]
  rfl) ?_)
 cases ha:ds.all f with
 | false =>
  refine n8 ?_;rw[R8 (by unfold T7;rw[O,ha];rfl),hf ha];rfl
 | true =>
  refine p7 (δ':=[.sh (.tup ds)]) (by rw[X4 (by unfold T7;rw[O,ha];rfl)];rfl) (n8 (U3 ?_));obtain⟨b,hb,S,U⟩:=hr ha;unfold K8 ob;rw[X5 (ds:=[.tup ds]) rfl,hb];cases b with
  | false=>rw[U rfl];rfl
  | true =>
   obtain⟨n,hn,hd⟩:=S rfl;show o2 (oA (z7 (gv 0) z9) J6) (gc (.int 60)) leD [.sh (.tup ds)]=_;rw[d9 (x:=.int n) (y:=.int 60) (by rw[X5 (ds:=[.tup ds]) rfl];exact hn) rfl,← hd];rfl
theorem e50(ps:List Pt)(h:∀p∈ps,p.Ok):∀d∈ps.map Pt.d,Z0 [d]=some (.bl ((λ_=>true) d)):=λd hd=>by
 obtain⟨p,hp,rfl⟩:=A6.mp hd;exact(h p hp).part
structure WebOk(ps:List Pt):Prop where
 ne:ps≠[]
 len:ps.length<=60
 ok:∀p∈ps,p.Ok
 lead:∀p∈ps,∀k∈p.links,k<ps.length
 few:(Q5 (ps.flatMap Pt.all)).length<=60
theorem WebOk.web{ps:List Pt}(h:WebOk ps):J5 [.tup (ps.map Pt.d)]=some (.bl true):=by
 have:=h.len;refine q70 _ (by simpa using h.ne) (by simpa using h.len) (λ_=>true) (e50 ps h.ok) true (λ_=>⟨true,Z00 ps λp hp=>⟨(h.ok p hp).sane,h.lead p hp⟩,λ_=>⟨_,d80 ps h.ok (by omega),E4 (by have:=h.few;omega)⟩,λz=>by cases z⟩) (λz=>?_);rw[List.all_eq_true.mpr λ_ _=>rfl] at z;cases z
theorem by0(ps:List Pt)(h0:ps≠[])(hl:ps.length<=60)(hok:∀p∈ps,p.Ok)(h:∃p∈ps,∃k∈p.links,(ps.length:Int)<=k):J5 [.tup (ps.map Pt.d)]=some (.bl false) :=
 q70 _ (by simpa using h0) (by simpa using hl) (λ_=>true) (e50 ps hok) false (λ_=>⟨false,el0 ps (λp hp=>(hok p hp).sane) h,(λz=>by cases z),λ_=>rfl⟩) (λ_=>rfl)
theorem bg0(ds:List D)(h0:ds≠[])(hl:ds.length<=60)(f:D->Bool)(h:∀d∈ds,Z0 [d]=some (.bl (f d)))(hb:ds.all f=false):J5 [.tup ds]=some (.bl false) :=
 q70 _ h0 hl f h false (λz=>by rw[hb] at z;cases z) (λ_=>rfl)
noncomputable def strOf(l:List Nat):Str:=⟨l.toArray⟩
theorem gu0{m:List Nat}(h:strOf l=strOf m):l=m:=by
 unfold strOf at h;injection h with h
 simpa using B7 Array.toList h
theorem ov0:∀{l m:List Str},l.Nodup->(∀a∈l,a∈m)->l.length<=m.length
 | [],m,_,_=>C3 _
 | a::l,m,h,hs=>by
  obtain⟨h1,h2⟩:=H0.mp h;have ha:=hs a A5;obtain⟨m1,m2,rfl⟩:=List.append_of_mem ha;have:=ov0 (m:=m1++m2) h2 λb hb=>by
   have:=hs b (A7 _ hb);rcases C7.mp this with q|q
   ·exact C7.mpr (.inl q)
   ·rcases B1.mp q with rfl|q
    ·exact absurd hb h1
    ·exact C7.mpr (.inr q)
  simp only[List.length_append,List.length_cons] at this ⊢;omega
theorem pe0:∀(ys acc:List Str),acc.Nodup->(ys.foldl ym0 acc).Nodup/\∀a∈ys.foldl ym0 acc,a∈acc∨a∈ys
 | [],acc,h=>⟨h,λa ha=>.inl ha⟩
 | y::ys,acc,h=>by
  rw[List.foldl_cons];have hi:(ym0 acc y).Nodup/\∀a∈ym0 acc y,a∈acc∨a=y:=by
   unfold ym0
   by_cases q:s50 acc y=true
   ·rw[if_pos q];exact⟨h,λa ha=>.inl ha⟩
   ·rw[if_neg q]
    have hm:y∉acc:=λz=>q ((ro0 acc y).mpr z)
    refine⟨List.nodup_append.mpr ⟨h,by simp,?_⟩,λa ha=>?_⟩
    ·intro a ha b hb e
     have:=M1.mp hb;subst this;subst e;exact hm ha
    ·rcases C7.mp ha with z|z
     ·exact .inl z
     ·exact .inr (M1.mp z)
  obtain⟨q1,q2⟩:=pe0 ys _ hi.1;refine⟨q1,λa ha=>?_⟩;rcases q2 a ha with z|z
  ·rcases hi.2 a z with z|rfl
   ·exact .inl z
   ·exact .inr A5
  ·exact .inr (A7 _ z)
theorem aq0(ys L:List Str)(h:∀y∈ys,y∈L):(Q5 ys).length<=L.length:=by
 obtain⟨h1,h2⟩:=pe0 ys [] List.nodup_nil;exact ov0 h1 λa ha=>by
  rcases h2 a ha with z|z
  ·cases z
  ·exact h a z
end W
namespace W
open DL StrLaws Builtin.Str
theorem V2(l:List Nat):(strOf l).cps.toList=l:=by simp[strOf]
theorem m8(l:List Nat):(strOf l).length=l.length:=by show l.toArray.size=_;simp
theorem M4(x:PySem.Str):strOf x.cps.toList=x:=by cases x;simp[strOf]
theorem vp0(l:List Nat)(i j:Nat):strSub (strOf l) i j=strOf ((l.drop i).take (j - i)):=by
 have:=strSub_toList (strOf l) i j;rw[V2] at this;rw[← this,M4]
noncomputable def o7(sep:List Nat):List (List Nat)->List Nat
 | []=>[]
 | [p]=>p
 | p::q::r=>p++sep++o7 sep (q::r)
noncomputable def xw0(w:Nat):Nat->List (List Nat)->List Nat
 | a,p::q::r=>(a+p.length)::xw0 w (a+p.length+w) (q::r)
 | _,_=>[]
theorem jj0{X:List Nat}{c:Nat}{s:List Nat}(h:At (strOf X) (strOf (c::s)) (strOf X).length k):X[k]?=some c:=by
 obtain⟨h1,h2⟩:=h;rw[subAt_eq,V2,V2,m8] at h2;have e:=L8 h2;have:((X.drop k).take (c::s).length)[0]?=some c:=by rw[e];rfl
 rw[List.getElem?_take,if_pos (by simp),List.getElem?_drop] at this
 simpa using this
theorem tj0{x y:PySem.Str}{hi:Nat}:∀{a:Nat} {cs ds:List Nat} {f g:Nat},ChainG x y hi a cs f->ChainG x y hi a ds g->(∀k,f<=k->¬At x y hi k)->(∀k,g<=k->¬At x y hi k)->cs=ds
 | a,[],[],f,g,_,_,_,_=>rfl
 | a,[],d::ds,f,g,h1,h2,n1,n2=>by
  have e:f=a:=h1;subst e;exact absurd h2.2.1 (n1 d h2.1)
 | a,c::cs,[],f,g,h1,h2,n1,n2=>by
  have e:g=a:=h2;subst e;exact absurd h1.2.1 (n2 c h1.1)
 | a,c::cs,d::ds,f,g,h1,h2,n1,n2=>by
  have e:c=d:=by
   rcases n5 c d with q|q|q
   ·exact absurd h1.2.1 (h2.2.2.1 c h1.1 q)
   ·exact q
   ·exact absurd h2.2.1 (h1.2.2.1 d h2.1 q)
  subst e;rw[tj0 h1.2.2.2 h2.2.2.2 n1 n2]
theorem p30(c:Nat)(s:List Nat):∀(parts:List (List Nat)) (pre:List Nat),parts≠[]->(∀p∈parts,c∉p)->∃f,ChainG (strOf (pre++o7 (c::s) parts)) (strOf (c::s)) (strOf (pre++o7 (c::s) parts)).length pre.length (xw0 (c::s).length pre.length parts) f /\
  (∀k,f<=k->¬At (strOf (pre++o7 (c::s) parts)) (strOf (c::s)) (strOf (pre++o7 (c::s) parts)).length k) /\
  partsFrom (strOf (pre++o7 (c::s) parts)) (c::s).length pre.length (xw0 (c::s).length pre.length parts)=parts.map strOf
 | [],_,h,_=>absurd rfl h
 | [p],pre,_,hp=>by
  refine⟨pre.length,rfl,λk hk h=>?_,?_⟩
  ·have e:=jj0 h
   have e:(pre++p)[k]?=some c:=e;rw[List.getElem?_append_right hk] at e;exact hp p A5 (L7 e)
  ·show[strSub (strOf (pre++p)) pre.length (strOf (pre++p)).length]=[strOf p]
   rw[vp0,m8];simp
 | p::q::r,pre,_,hp=>by
  obtain⟨f,h1,h2,h3⟩:=p30 c s (q::r) (pre++p++(c::s)) (by simp) λt ht=>hp t (A7 _ ht)
  have eX:pre++o7 (c::s) (p::q::r)=pre++p++(c::s)++o7 (c::s) (q::r):=by
   show pre++(p++(c::s)++o7 (c::s) (q::r))=_;simp[List.append_assoc]
  have el:(pre++p++(c::s)).length=pre.length+p.length+(c::s).length:=by simp only[List.length_append]
  rw[el] at h1 h3;rw[eX];refine⟨f,⟨Nat.le_add_right _ _,?_,λk hk O h=>?_,?_⟩,h2,?_⟩
  ·refine⟨?_,?_⟩
   ·rw[m8,m8];simp only[List.length_append];omega
   ·rw[subAt_eq,V2,V2,m8]
    rw[List.append_assoc,List.append_assoc,← List.append_assoc pre p,List.drop_append_of_le_length (by simp),List.drop_of_length_le (by simp),List.nil_append,List.take_append_of_le_length (by simp),List.take_of_length_le (by simp)];simp
  ·have e:=jj0 h
   rw[List.append_assoc,List.append_assoc,List.getElem?_append_right hk,List.getElem?_append_left (by omega)] at e;exact hp p A5 (L7 e)
  ·rw[m8 (c::s)]
   exact h1
  ·show strSub _ pre.length (pre.length+p.length)::partsFrom _ (c::s).length (pre.length+p.length+(c::s).length) (xw0 (c::s).length (pre.length+p.length+(c::s).length) (q::r))=_
   rw[h3,vp0,List.map_cons];congr 2;rw[List.append_assoc,List.append_assoc,List.drop_append_of_le_length (by simp),List.drop_of_length_le (by simp),List.nil_append,show pre.length+p.length - pre.length=p.length by omega,List.take_append_of_le_length (by simp),List.take_of_length_le (by simp)]
theorem v10(c:Nat)(s:List Nat)(hk:Builtin.Str.strKind (strOf (c::s))=1)(parts:List (List Nat))(h0:parts≠[])(hp:∀p∈parts,c∉p):Txt.split (strOf (o7 (c::s) parts)) (strOf (c::s))=parts.map strOf:=by
 obtain⟨f,h1,h2,h3⟩:=p30 c s parts [] h0 hp;rw[List.nil_append] at h1 h2 h3;obtain⟨g,g1,g2⟩:=occ_tight (strOf (o7 (c::s) parts)) (strOf (c::s)) (by rw[m8];simp);have e:=tj0 g1 h1 g2 h2;have O:xw0 (c::s).length ([]:List Nat).length parts=[]->[strOf (o7 (c::s) parts)]=parts.map strOf:=λz=>by
  match parts,h0,z with
  | [p],_,_=>rfl
  | p::q::r,_,z=>exact absurd z (by simp[xw0])
 unfold Txt.split;split
 ·rename_i hc
  rw[Bool.or_eq_true,decide_eq_true_eq,decide_eq_true_eq] at hc;refine O ?_;have:1<=Builtin.Str.strKind (strOf (o7 (c::s) parts)):=by
   unfold Builtin.Str.strKind;split
   ·omega
   ·split<;>omega
  rcases hc with hc|hc
  ·rw[← e]
   cases q:occurrences (strOf (o7 (c::s) parts)) (strOf (c::s)) 0 (strOf (o7 (c::s) parts)).length ((strOf (o7 (c::s) parts)).length+1) with
   | nil=>rfl
   | cons i r =>
    rw[q] at g1;have:=g1.2.1.1;omega
  ·omega
 ·split
  ·rename_i hc
   rw[e] at hc;exact O (List.isEmpty_iff.mp hc)
  ·rw[partsBetween_eq,e,m8]
   exact h3
theorem ig0(a b:Nat)(l:List Nat):Txt.startswith (strOf (a::l)) ⟨#[b]⟩=decide (a=b):=by
 unfold Txt.startswith;rw[subAt_eq,V2,m8];show (decide (0+1<=(a::l).length)&&((a::l).drop 0).take 1==[b])=_
 by_cases h:a=b<;>simp[h]
theorem h50(b:Nat):Txt.startswith (strOf []) ⟨#[b]⟩=false:=by
 unfold Txt.startswith;rw[m8];rfl
theorem dd0(l:List Nat)(a b:Nat):Txt.endswith (strOf (l++[a])) ⟨#[b]⟩=decide (a=b):=by
 unfold Txt.endswith;rw[subAt_eq,V2,m8];show (decide (0+1<=(l++[a]).length)&&((l++[a]).drop ((l++[a]).length - 1)).take 1==[b])=_;have:(l++[a]).drop ((l++[a]).length - 1)=[a]:=by simp
 rw[this]
 by_cases h:a=b<;>simp[h]
theorem d70(l r:List Nat)(c:Nat)(h:c∉l):Txt.partition (strOf (l++c::r)) ⟨#[c]⟩=(strOf l,⟨#[c]⟩,strOf r):=by
 have O:At (strOf (l++c::r)) ⟨#[c]⟩ (strOf (l++c::r)).length l.length:=(subAt_one _ c l.length).mpr (by rw[V2];simp);unfold Txt.partition;rcases occ_head (strOf (l++c::r)) ⟨#[c]⟩ 1 (A1 _) with⟨_,hn⟩|⟨i,r',e,hi,hn⟩
 ·exact absurd O (hn l.length)
 ·have ei:i=l.length:=by
   rcases n5 i l.length with q|q|q
   ·have:=(subAt_one _ c i).mp hi
    rw[V2,List.getElem?_append_left q] at this;exact absurd (L7 this) h
   ·exact q
   ·exact absurd O (hn l.length q)
  subst ei;rw[e];show (strSub _ 0 l.length,(⟨#[c]⟩:PySem.Str),strSub _ (l.length+1) (strOf (l++c::r)).length)=_;rw[vp0,vp0,m8];congr 2
  ·simp
  ·congr 1
   simp;exact List.take_of_length_le (by omega)
end W
namespace W
open DL StrLaws
theorem gl0(a b:Nat)(l:List Nat):Txt.slice (strOf (a::(l++[b]))) (some 1) (some (-1))=strOf l:=by
 have hl:(strOf (a::(l++[b]))).length=l.length+2:=by rw[m8];simp
 show sliceText _ _ _=_;rw[sliceText_neg_hi _ _ (by omega) (by rw[hl];omega),hl];have e1:(-1:Int)+((l.length+2:Nat):Int)=((l.length+1:Nat):Int):=by omega
 rw[e1,show (1:Int)=((1:Nat):Int) from rfl,sliceText_nat _ (by omega) (by omega),V2];unfold strOf;congr 2;simp
theorem it0(a:Nat)(l:List Nat):Txt.slice (strOf (a::l)) (some 1) none=strOf l:=by
 show sliceText _ _ _=_;rw[sliceText_from ⟨by omega,by rw[V2];simp only[List.length_cons];omega⟩,V2];unfold strOf;congr 2;show ((a::l).drop 1).take _=l;rw[List.drop_one,List.tail_cons,List.take_of_length_le];simp only[List.length_cons];omega
theorem ix0(l:List Nat)(b:Nat):Txt.slice (strOf (l++[b])) none (some (-1))=strOf l:=by
 have hl:(strOf (l++[b])).length=l.length+1:=by rw[m8];simp
 show sliceText _ _ _=_;rw[sliceText_to_neg (by omega) (by rw[hl];omega),V2,hl];unfold strOf;congr 2;rw[List.drop_zero,show ((-1:Int)+((l.length+1:Nat):Int) - 0).toNat=l.length by omega];simp
noncomputable def dg(m:Nat):List Nat:=(Nat.toDigits 10 m).map Char.toNat
theorem fy0(m:Nat):PySem.Str.ofString (toString ((m:Nat):Int))=strOf (dg m):=by
 rw[← M4 (PySem.Str.ofString (toString ((m:Nat):Int))),W.KIN.signs_num];rfl
noncomputable def ig(i:Int):List Nat:=if 0<=i then dg i.toNat else 45::dg (-i).toNat
theorem Ys0(i:Int):PySem.Str.ofString (toString i)=strOf (ig i):=by
 unfold ig
 by_cases h:0<=i
 ·rw[if_pos h]
  have:=fy0 i.toNat;rw[show ((i.toNat:Nat):Int)=i by omega] at this;exact this
 ·rw[if_neg h]
  obtain⟨k,rfl⟩:∃k:Nat,i=Int.negSucc k:=⟨(-i - 1).toNat,by omega⟩;have e:(-(Int.negSucc k)).toNat=k+1:=by omega
  rw[e];have q:=fy0 (k+1);have e2:toString (Int.negSucc k) = "-"++toString (((k+1:Nat):Nat):Int):=rfl;rw[e2,← M4 (PySem.Str.ofString _)];congr 1;rw[PyProof.Rows.signs_ofString];rw[← M4 (PySem.Str.ofString (toString (((k+1:Nat):Nat):Int)))] at q;have q':=gu0 q;rw[PyProof.Rows.signs_ofString] at q';rw[String.toList_append,List.map_append,q'];rfl
end W
namespace Pn
open DL W
theorem lv0{l:List D}(h:∀d∈l,lean d n=true):leans l n=true:=by
 induction l with
 | nil=>unfold leans;rfl
 | cons d l ih =>
  unfold leans;rw[h d A5,ih λe he=>h e (A7 _ he)];rfl
variable{c:Nat}{b:Bool}{g ga gb:DL.GE}{a:Str}{i:Int}{ps:List (Str×DL.D)}{p:W.Pt}{t:List Nat}
theorem lp0{v:D}(h:R6 v=true)(n:Nat):lean v (n+1)=true:=by
 rcases vv0 h with rfl|⟨i,rfl⟩|⟨i,rfl,_⟩
 ·unfold lean;rfl
 ·unfold lean;rfl
 ·unfold lean;exact lv0 λd hd=>by
   simp only[List.mem_cons,List.not_mem_nil,or_false] at hd;rcases hd with rfl|rfl<;>(unfold lean;rfl)
theorem xj0(s:Str)(n:Nat):lean (.str s) n=true:=by unfold lean;rfl
theorem zv0{l:List D}(h:∀d∈l,lean d n=true):lean (.tup l) (n+1)=true:=by unfold lean;exact lv0 h
theorem bj0(p:Pt)(h:∀v∈p.vals,R6 v=true)(n:Nat):lean p.d (n+4)=true:=by
 have O:∀ps:List (Str×D),(∀v∈ps.map (·.2),R6 v=true)->lean (.tup (ps.map pr)) (n+3)=true:=λps hv=>zv0 λd hd=>by
  obtain⟨q,hq,rfl⟩:=A6.mp hd;refine zv0 λe he=>?_
  simp only[List.mem_cons,List.not_mem_nil,or_false] at he;rcases he with rfl|rfl
  ·exact xj0 _ _
  ·exact lp0 (hv q.2 (A6.mpr ⟨q,hq,rfl⟩)) n
 cases p with
 | text w =>
   refine zv0 λd hd=>?_
   simp only[List.mem_cons,List.not_mem_nil,or_false] at hd;rcases hd with rfl|rfl<;>exact xj0 _ _
 | row vs =>
   refine zv0 λd hd=>?_
   simp only[List.mem_cons,List.not_mem_nil,or_false] at hd;rcases hd with rfl|rfl
   ·exact xj0 _ _
   ·exact zv0 λv hv=>lp0 (h v hv) (n+1)
 | table ps =>
   refine zv0 λd hd=>?_
   simp only[List.mem_cons,List.not_mem_nil,or_false] at hd;rcases hd with rfl|rfl
   ·exact xj0 _ _
   ·exact O ps h
 | rcd c ps =>
   refine zv0 λd hd=>?_
   simp only[List.mem_cons,List.not_mem_nil,or_false] at hd;rcases hd with rfl|rfl|rfl
   ·exact xj0 _ _
   ·exact xj0 _ _
   ·exact O ps h
mutual
theorem q10:∀(d:D) (n:Nat),lean d n=true->deq d d=true
 | .non,_,_=>by unfold deq;rfl
 | .bl b,_,_=>by unfold deq;simp
 | .int b,_,_=>by unfold deq;simp
 | .str b,_,_=>by unfold deq;simp
 | .tup ds,0,h=>by unfold lean at h;cases h
 | .tup ds,n+1,h=>by unfold lean at h;unfold deq;exact tx0 ds n h
 | .lst ds,0,h=>by unfold lean at h;cases h
 | .lst ds,n+1,h=>by unfold lean at h;unfold deq;exact tx0 ds n h
 | .dct _ _,n,h=>by unfold lean at h;cases h
theorem tx0:∀(ds:List D) (n:Nat),leans ds n=true->yt0 ds ds=true
 | [],_,_=>by unfold yt0;rfl
 | d::ds,n,h=>by
  unfold leans at h;rw[Bool.and_eq_true] at h;unfold yt0;rw[q10 d n h.1,tx0 ds n h.2];rfl
end
theorem bm0:∀(d:D) (n m:Nat),n<=m->lean d n=true->lean d m=true:=by
 have O:∀n,(∀(d:D) m,n<=m->lean d n=true->lean d m=true):=by
  intro n
  induction n with
  | zero=>intro d m _ h;cases d<;>unfold lean at h ⊢<;>first|rfl|(cases h;done)
  | succ n ih =>
   intro d m hm h;have ls:∀(ds:List D) (m:Nat),n<=m->leans ds n=true->leans ds m=true:=by
    intro ds
    induction ds with
    | nil=>intro m _ _;unfold leans;rfl
    | cons d ds ihd =>
     intro m hm h;unfold leans at h ⊢;rw[Bool.and_eq_true] at h ⊢;exact⟨ih d m hm h.1,ihd m hm h.2⟩
   obtain⟨m',rfl⟩:∃m',m=m'+1:=⟨m - 1,by omega⟩;cases d<;>unfold lean at h ⊢<;>first|rfl|(cases h;done)|exact ls _ _ (by omega) h
 exact λd n m h=>O n d m h
theorem Vb0{d:D}(h:lean d 50=true):qd0 d d=some (.bl true):=by
 unfold qd0;rw[if_pos ⟨h,h⟩,q10 d 50 h]
theorem eu0{d:D}(h:lean d 50=true):J0 d d=some (.bl false):=by
 unfold J0;rw[if_pos ⟨h,h⟩,q10 d 50 h];rfl
end Pn
variable{c:Nat}{b:Bool}{g ga gb:DL.GE}{a:Str}{i:Int}{ps:List (Str×DL.D)}{p:W.Pt}{t:List Nat}
namespace E8
open DL W
noncomputable def vm0:GS:=(v7 (ifD (S5 (ob (o2 (oA (z7 (gv 0) z9) b7) (gc (.int 0)) eqD)) (S5 (ob (o2 (oA (z7 (gv 0) z9) b7) (gc (.int 60)) gtD)) (T7 (ob (oA (z7 (Y9 1 [] (v90 (gv 0)) (gN 0) noT (o2 (gv 0) (gc (.str "0123456789")) inD)) z9) va0)))))
 (v7 (o9 (gc (.bl false)))
 p6)
 p6)
 (v7 (o9 (orG (o2 (gv 0) (gc (.str "0")) eqD) (lo0 (j8 (gv 0) (z7 (gc (.str "0")) z9) K1))))
 p6))
noncomputable def qy0:List Str:=["text"]
noncomputable def J2:List D->Option D:=mkF 1 qy0 vm0
noncomputable def to0:GZ:=(V8 (ifZ (T7 (ob (oA (z7 (gv 0) z9) J2)))
 (V8 (up0 "NoText")
 J1)
 J1)
 (V8 (okZ (o9 (oA (z7 (gv 0) z9) sz0)))
 J1))
noncomputable def k90:List Str:=["text"]
noncomputable def S9:List D->Option DX:=mkX 1 k90 to0
noncomputable def sh0:GZ:=(V8 (okZ (ifD (ob (o2 (gv 0) (gc (.str "nil")) eqD))
 (v7 (o9 (gc .non))
 p6)
 p6))
 (V8 (ifZ (ob (j8 (gv 0) (z7 (gc (.str "@")) z9) K1))
 (V8 (z00 (xm0 (M6 (okE (gc (.str "at"))) (M6 (R0 (z7 (d8 (gv 0) (someO (gc (.int 1))) Z1) z9) S9) u00))))
 J1)
 J1)
 (V8 (ifZ (ob (o2 (gv 0) (gc (.str "-0")) eqD))
 (V8 (up0 "NoText")
 J1)
 J1)
 (V8 (ifZ (ob (j8 (gv 0) (z7 (gc (.str "-")) z9) K1))
 (V8 (z00 (lm0 (R0 (z7 (d8 (gv 0) (someO (gc (.int 1))) Z1) z9) S9)))
 J1)
 J1)
 (V8 (z00 (R0 (z7 (gv 0) z9) S9))
 J1)))))
noncomputable def tq0:List Str:=["text"]
noncomputable def N5:List D->Option DX:=mkX 1 tq0 sh0
noncomputable def re0:GZ:=(V8 (okZ (j9 (gN 1) (j8 (gv 0) (z7 (gc (.str "=")) z9) wr0)))
 (V8 (z00 (xm0 (M6 (okE (o2 (gv 1) (gc (.int 0)) ixD)) (M6 (R0 (z7 (o2 (gv 1) (gc (.int 2)) ixD) z9) N5) u00))))
 J1))
noncomputable def ks0:List Str:=["item", "halves"]
noncomputable def y30:List D->Option DX:=mkX 1 ks0 re0
noncomputable def u50:GS:=(v7 (ifD (ob (o2 (gv 0) (gc (.str "")) eqD))
 (v7 (o9 (j4 z9))
 p6)
 p6)
 (v7 (o9 (j8 (gv 0) (z7 (gc (.str ", ")) z9) Q7))
 p6))
noncomputable def ph0:List Str:=["inner"]
noncomputable def W9:List D->Option D:=mkF 1 ph0 u50
noncomputable def tf0:GZ:=(V8 (okZ (j9 (gN 1) (j8 (gv 0) (z7 (gc (.str "{")) z9) wr0)))
 (V8 (us0 2 (oAX (M6 (wu0 1 [] (M8 (oA (z7 (d8 (o2 (gv 1) (gc (.int 2)) ixD) Z1 (someO (unG K9 (gc (.int 1))))) z9) W9)) (gN 0) (R0 (z7 (gv 0) z9) y30)) u00) zz0))
 (V8 (okZ (ifD (ob (o2 (o2 (gv 1) (gc (.int 0)) ixD) (gc (.str "")) eqD))
 (v7 (o9 (W5 (z7 (gc (.str "table")) (z7 (gv 2) z9))))
 p6)
 p6))
 (V8 (okZ (o9 (W5 (z7 (gc (.str "record")) (z7 (o2 (gv 1) (gc (.int 0)) ixD) (z7 (gv 2) z9))))))
 J1))))
noncomputable def nv0:List Str:=["piece", "halves", "pairs"]
noncomputable def z40:List D->Option DX:=mkX 1 nv0 tf0
noncomputable def rm0:GZ:=(V8 (okZ (ifD (Q9 (ob (o2 (oA (z7 (gv 0) z9) b7) (gc (.int 1)) gtD)) (Q9 (ob (j8 (gv 0) (z7 (gc (.str "'")) z9) K1)) (ob (j8 (gv 0) (z7 (gc (.str "'")) z9) w90))))
 (v7 (o9 (W5 (z7 (gc (.str "text")) (z7 (d8 (gv 0) (someO (gc (.int 1))) (someO (unG K9 (gc (.int 1))))) z9))))
 p6)
 p6))
 (V8 (ifZ (Q9 (ob (j8 (gv 0) (z7 (gc (.str "[")) z9) K1)) (ob (j8 (gv 0) (z7 (gc (.str "]")) z9) w90)))
 (V8 (z00 (xm0 (M6 (okE (gc (.str "row"))) (M6 (oAX (M6 (wu0 1 [] (M8 (oA (z7 (d8 (gv 0) (someO (gc (.int 1))) (someO (unG K9 (gc (.int 1))))) z9) W9)) (gN 0) (R0 (z7 (gv 0) z9) N5)) u00) zz0) u00))))
 J1)
 J1)
 (V8 (ifZ (Q9 (ob (o2 (gc (.str "{")) (gv 0) inD)) (ob (j8 (gv 0) (z7 (gc (.str "}")) z9) w90)))
 (V8 (z00 (R0 (z7 (gv 0) z9) z40))
 J1)
 J1)
 (V8 (up0 "NoText")
 J1))))
noncomputable def kj0:List Str:=["piece"]
noncomputable def y50:List D->Option DX:=mkX 1 kj0 rm0
noncomputable def fu0:GZ:=(V8 (ifZ (T7 (ob (w40 isStr (gv 0))))
 (V8 (up0 "NoText")
 J1)
 J1)
 (V8 (us0 1 (oAX (M6 (wu0 1 [] (M8 (j8 (gv 0) (z7 (gc (.str "; ")) z9) Q7)) (gN 0) (R0 (z7 (gv 0) z9) y50)) u00) zz0))
 (V8 (ifZ (T7 (ob (oA (z7 (gv 1) z9) J5)))
 (V8 (up0 "NoText")
 J1)
 J1)
 (V8 (okZ (o9 (gv 1)))
 J1))))
noncomputable def X30:List Str:=["text", "web"]
noncomputable def T6:List D->Option DX:=mkX 1 X30 fu0
noncomputable def u90:GS:=(v7 (ifD (ob (o2 (gv 1) (oA (z7 (gv 0) z9) b7) ltD))
 (v7 (o9 (o2 (gv 0) (gv 1) ixD))
 p6)
 p6)
 (v7 (o9 (gc (.int 0)))
 p6))
noncomputable def pq0:List Str:=["_law_script", "_law_k"]
noncomputable def U5:List D->Option D:=mkF 2 pq0 u90
noncomputable def wm0:GS:=(v7 (o9 (o2 (j4 (z7 (gc (.str "nil")) (z7 (oA (z7 (o2 (o2 (o2 (gv 0) (gc (.int 4)) W7) (gc (.int 41)) Z8) (gc (.int 20)) y70) z9) strOfD) (z7 (o2 (gc (.str "@")) (oA (z7 (o2 (o2 (gv 0) (gc (.int 4)) W7) (gv 1) Z8) z9) strOfD) o8) (z7 (o2 (gc (.str "@")) (oA (z7 (o2 (o2 (gv 0) (gc (.int 9)) W7) (gv 1) Z8) z9) strOfD) o8) z9))))) (o2 (gv 0) (gc (.int 4)) Z8) ixD))
 p6)
noncomputable def wn0:List Str:=["_law_x", "_law_many"]
noncomputable def T9:List D->Option D:=mkF 2 wn0 wm0
noncomputable def v80:GS:=(v7 (j9 (gN 2) (Y9 1 [0,1] (za0 (z7 (o2 (o2 (gv 0) (gc (.int 4)) W7) (gc (.int 4)) Z8) z9)) (gN 0) noT (oA (z7 (o2 (o2 (gv 1) (o2 (gv 0) (gc (.int 2)) o8) W7) (o2 (gc (.int 3)) (gv 0) R7) o8) (z7 (gv 2) z9)) T9)))
 (v7 (j9 (gN 3) (R3 (gc (.str ", ")) (z7 (Y9 1 [2] (za0 (z7 (oA (z7 (gv 2) z9) b7) z9)) (gN 0) noT (o2 (o2 (o2 (j4 (z7 (gc (.str "a")) (z7 (gc (.str "bb")) (z7 (gc (.str "c1")) z9)))) (gv 0) ixD) (gc (.str "=")) o8) (o2 (gv 1) (gv 0) ixD) o8)) z9)))
 (v7 (j9 (gN 4) (o2 (o2 (gc (.str "'")) (d8 (gc (.str "ab 9")) Z1 (someO (o2 (o2 (gv 0) (gc (.int 4)) W7) (gc (.int 5)) Z8))) o8) (gc (.str "'")) o8))
 (v7 (o9 (o2 (j4 (z7 (gv 4) (z7 (o2 (o2 (gc (.str "[")) (R3 (gc (.str ", ")) (z7 (gv 2) z9)) o8) (gc (.str "]")) o8) (z7 (o2 (o2 (gc (.str "{")) (gv 3) o8) (gc (.str "}")) o8) (z7 (o2 (o2 (gc (.str "dog{")) (gv 3) o8) (gc (.str "}")) o8) z9))))) (o2 (gv 0) (gc (.int 4)) Z8) ixD))
 p6))))
noncomputable def rt0:List Str:=["_law_x", "_law_many", "_law_some", "_law_pairs", "_law_word"]
noncomputable def S7:List D->Option D:=mkF 2 rt0 v80
noncomputable def rj0:GS:=(v7 (j9 (gN 1) (j4 (z7 (gc (.str "")) (z7 (gc (.str " ")) (z7 (gc (.str "'")) (z7 (gc (.str "'A'")) (z7 (gc (.str "'a")) (z7 (gc (.str "a'")) (z7 (gc (.str "''' '")) (z7 (gc (.str "'aaaaaaaaaaaaaaaaaaaaa'")) (z7 (gc (.str "[")) (z7 (gc (.str "]")) (z7 (gc (.str "[1")) (z7 (gc (.str "1]")) (z7 (gc (.str "[1,2]")) z9)))))))))))))))
 (v7 (j9 (gN 1) (o2 (gv 1) (j4 (z7 (gc (.str "[1 , 2]")) z9)) o8))
 (v7 (j9 (gN 1) (o2 (gv 1) (j4 (z7 (gc (.str "[ 1]")) (z7 (gc (.str "[1, ]")) (z7 (gc (.str "[01]")) (z7 (gc (.str "[-0]")) (z7 (gc (.str "[--1]")) (z7 (gc (.str "[+1]")) (z7 (gc (.str "[Nil]")) (z7 (gc (.str "[@]")) (z7 (gc (.str "[@-1]")) (z7 (gc (.str "[@01]")) (z7 (gc (.str "[@60]")) (z7 (gc (.str "[a]")) z9))))))))))))) o8))
 (v7 (j9 (gN 1) (o2 (gv 1) (j4 (z7 (gc (.str "{a}")) (z7 (gc (.str "{a=}")) (z7 (gc (.str "{=1}")) (z7 (gc (.str "{a=1, a=2}")) (z7 (gc (.str "{a=1,b=2}")) (z7 (gc (.str "{A=1}")) (z7 (gc (.str "{abcdefghi=1}")) (z7 (gc (.str "{a=1=2}")) (z7 (gc (.str "{a= 1}")) z9)))))))))) o8))
 (v7 (j9 (gN 1) (o2 (gv 1) (j4 (z7 (gc (.str "dog")) (z7 (gc (.str "Dog{}")) (z7 (gc (.str "dog {}")) (z7 (gc (.str "dogsdogsd{}")) (z7 (gc (.str "dog{}{}")) (z7 (gc (.str "[1]x")) (z7 (gc (.str "{}x")) (z7 (o2 (o2 (gc (.str "[")) (R3 (gc (.str ", ")) (z7 (o2 (j4 (z7 (gc (.str "1")) z9)) (gc (.int 13)) mulL) z9)) o8) (gc (.str "]")) o8) z9))))))))) o8))
 (v7 (o9 (o2 (o2 (gv 1) (j4 (z7 (o2 (o2 (gc (.str "[")) (o2 (gc (.str "1")) (gc (.int 61)) R7) o8) (gc (.str "]")) o8) z9)) o8) (o2 (gv 0) (gc (.int 44)) Z8) ixD))
 p6))))))
noncomputable def km0:List Str:=["_law_x", "_law_some"]
noncomputable def zg0:List D->Option D:=mkF 1 km0 rj0
noncomputable def u70:GS:=(v7 (j9 (gN 3) (o2 (o2 (gv 1) (gc (.int 6)) W7) (o2 (oA (z7 (gv 0) z9) b7) (gc (.int 1)) o8) Z8))
 (v7 (j9 (gN 4) (o2 (gv 1) (gc (.int 6)) Z8))
 (v7 (ifD (ob (o2 (gv 4) (gc (.int 0)) eqD))
 (v7 (j9 (gN 5) (o2 (gc (.str "ABZ_.+#~!:/()")) (o2 (o2 (o2 (gv 1) (gc (.int 6)) W7) (o2 (oA (z7 (gv 0) z9) b7) (gc (.int 1)) o8) W7) (gc (.int 13)) Z8) ixD))
 (v7 (o9 (o2 (o2 (d8 (gv 0) Z1 (someO (gv 3))) (gv 5) o8) (d8 (gv 0) (someO (gv 3)) Z1) o8))
 p6))
 p6)
 (v7 (ifD (ob (o2 (gv 4) (gc (.int 1)) eqD))
 (v7 (o9 (o2 (o2 (d8 (gv 0) Z1 (someO (gv 3))) (o2 (gc (.str " '[]{},;=@-0")) (o2 (o2 (gv 1) (gc (.int 7)) W7) (gc (.int 12)) Z8) ixD) o8) (d8 (gv 0) (someO (gv 3)) Z1) o8))
 p6)
 p6)
 (v7 (ifD (ob (o2 (gv 4) (gc (.int 2)) eqD))
 (v7 (o9 (o2 (d8 (gv 0) Z1 (someO (gv 3))) (d8 (gv 0) (someO (o2 (gv 3) (gc (.int 1)) o8)) Z1) o8))
 p6)
 p6)
 (v7 (ifD (ob (o2 (gv 4) (gc (.int 3)) eqD))
 (v7 (o9 (o2 (gv 0) (o2 (j4 (z7 (gc (.str "; ")) (z7 (gc (.str ";")) (z7 (gc (.str " ")) (z7 (gv 0) (z7 (o2 (gc (.str "; ")) (gv 0) o8) z9)))))) (o2 (o2 (gv 1) (gc (.int 6)) W7) (gc (.int 5)) Z8) ixD) o8))
 p6)
 p6)
 (v7 (vi0 6 (j8 (gv 0) (z7 (gc (.str "; ")) z9) Q7))
 (v7 (uz0 (ws0 (oA (z7 (o2 (gv 1) (gc (.int 8)) W7) z9) zg0)) (setAt 6 (o2 (o2 (gv 1) (gc (.int 5)) W7) (gv 2) Z8)))
 (v7 (o9 (og0 (R3 (gc (.str "; ")) (z7 (gv 6) z9))))
 p6)))))))))
noncomputable def pv0:List Str:=["_law_text", "_law_x", "_law_many", "_law_at", "_law_kind", "_law_sign", "_law_parts"]
noncomputable def T8:List D->Option D:=mkF 3 pv0 u70
noncomputable def tb0:GS:=(v7 (ifD (S5 (ob (o2 (gv 0) (gc (.str "")) eqD)) (S5 (ob (o2 (oA (z7 (gv 0) z9) b7) (gc (.int 60)) gtD)) (Q9 (ob (o2 (o2 (gv 0) (gc (.int 0)) ixD) (gc (.str "0")) eqD)) (ob (o2 (gv 0) (gc (.str "0")) neD)))))
 (v7 (o9 (gc .non))
 p6)
 p6)
 (v7 (ya0 (v90 (gv 0)) (gN 1)
 (v7 (ifD (ob (o2 (gv 1) (gc (.str "0123456789")) ye0))
 (v7 (o9 (gc .non))
 p6)
 p6)
 p6))
 (v7 (o9 (oA (z7 (gv 0) z9) sz0))
 p6)))
noncomputable def nw0:List Str:=["_law_text", "_law_sign"]
noncomputable def O1:List D->Option D:=mkF 1 nw0 tb0
noncomputable def tt0:GS:=(v7 (ifD (ob (o2 (gv 0) (gc (.str "nil")) eqD))
 (v7 (o9 (W5 (z7 (gc (.bl true)) (z7 (gc .non) z9))))
 p6)
 p6)
 (v7 (ifD (ob (o2 (d8 (gv 0) Z1 (someO (gc (.int 1)))) (gc (.str "@")) eqD))
 (v7 (j9 (gN 2) (oA (z7 (d8 (gv 0) (someO (gc (.int 1))) Z1) z9) O1))
 (v7 (o9 (W5 (z7 (K8 (o2 (gv 2) (gc .non) qx0) (o2 (gv 2) (gv 1) ltD)) (z7 (W5 (z7 (gc (.str "at")) (z7 (gv 2) z9))) z9))))
 p6))
 p6)
 (v7 (j9 (gN 2) (oA (z7 (gv 0) z9) O1))
 (v7 (ifD (Q9 (ob (o2 (d8 (gv 0) Z1 (someO (gc (.int 1)))) (gc (.str "-")) eqD)) (ob (o2 (gv 0) (gc (.str "-0")) neD)))
 (v7 (j9 (gN 2) (oA (z7 (d8 (gv 0) (someO (gc (.int 1))) Z1) z9) O1))
 (v7 (ifD (ob (o2 (gv 2) (gc .non) qx0))
 (v7 (j9 (gN 2) (o2 (gc (.int 0)) (gv 2) y70))
 p6)
 p6)
 p6))
 p6)
 (v7 (o9 (W5 (z7 (o2 (gv 2) (gc .non) qx0) (z7 (gv 2) z9))))
 p6)))))
noncomputable def mt0:List Str:=["_law_text", "_law_many", "_law_number_here"]
noncomputable def O8:List D->Option D:=mkF 2 mt0 tt0
noncomputable def ub0:GS:=(v7 (ya0 (v90 (gv 0)) (gN 1)
 (v7 (ifD (ob (o2 (gv 1) (gc (.str "abcdefghijklmnopqrstuvwxyz0123456789")) ye0))
 (v7 (o9 (gc (.bl false)))
 p6)
 p6)
 p6))
 (v7 (o9 (tn0 (gc (.int 1)) (oA (z7 (gv 0) z9) b7) (gc (.int 8)) leD leD))
 p6))
noncomputable def px0:List Str:=["_law_text", "_law_sign"]
noncomputable def V5:List D->Option D:=mkF 1 px0 ub0
noncomputable def rn0:GS:=(v7 (vi0 3 (j4 z9))
 (v7 (j9 (gN 4) (j8 (gv 0) (z7 (gc (.str ", ")) z9) Q7))
 (v7 (ifD (ob (o2 (gv 0) (gc (.str "")) eqD))
 (v7 (j9 (gN 4) (j4 z9))
 p6)
 p6)
 (v7 (ya0 (M8 (gv 4)) (gN 5)
 (v7 (j9 (gN 6) (gc (.str "")))
 (v7 (ifD (ob (gv 2))
 (v7 (ifD (ob (o2 (gc (.str "=")) (gv 5) ye0))
 (v7 (o9 (gc .non))
 p6)
 p6)
 (v7 (j9 (gN 6) (d8 (gv 5) Z1 (someO (j8 (gv 5) (z7 (gc (.str "=")) z9) R4))))
 (v7 (j9 (gN 5) (d8 (gv 5) (someO (o2 (j8 (gv 5) (z7 (gc (.str "=")) z9) R4) (gc (.int 1)) o8)) Z1))
 p6)))
 p6)
 (v7 (uz0 (ws0 (oA (z7 (gv 5) (z7 (gv 1) z9)) O8)) (vx0 7 8))
 (v7 (ifD (S5 (T7 (ob (gv 7))) (Q9 (ob (gv 2)) (S5 (T7 (ob (oA (z7 (gv 6) z9) V5))) (pl0 (ob (o2 (gv 6) (Y9 1 [] (M8 (gv 3)) (gN 0) noT (o2 (gv 0) (gc (.int 0)) ixD)) (vl0 false)))))))
 (v7 (o9 (gc .non))
 p6)
 p6)
 (v7 (zk0 (wk0 3 (W5 (z7 (gv 6) (z7 (gv 8) z9)))))
 p6))))))
 (v7 (o9 (og0 (o2 (j4 (z7 (oA (z7 (gv 3) z9) zz0) (z7 (gc .non) z9))) (oA (z7 (o2 (oA (z7 (gv 3) z9) b7) (gc (.int 12)) gtD) z9) intOfD) ixD)))
 p6)))))
noncomputable def kk0:List Str:=["_law_text", "_law_many", "_law_named", "_law_found", "_law_bits", "_law_piece", "_law_name", "_law_good", "_law_value_here"]
noncomputable def K4:List D->Option D:=mkF 3 kk0 rn0
noncomputable def rh0:GS:=(v7 (ifD (ob (o2 (d8 (gv 0) Z1 (someO (gc (.int 1)))) (gc (.str "'")) eqD))
 (v7 (j9 (gN 2) (d8 (gv 0) (someO (gc (.int 1))) (someO (o2 (oA (z7 (gv 0) z9) b7) (gc (.int 1)) y70))))
 (v7 (ya0 (v90 (gv 2)) (gN 3)
 (v7 (ifD (ob (o2 (gv 3) (gc (.str " abcdefghijklmnopqrstuvwxyz0123456789")) ye0))
 (v7 (o9 (gc .non))
 p6)
 p6)
 p6))
 (v7 (o9 (o2 (j4 (z7 (W5 (z7 (gc (.str "text")) (z7 (gv 2) z9))) (z7 (gc .non) z9))) (oA (z7 (orG (o2 (oA (z7 (gv 0) z9) b7) (gc (.int 2)) ltD) (orG (o2 (d8 (gv 0) (someO (unG K9 (gc (.int 1)))) Z1) (gc (.str "'")) neD) (o2 (oA (z7 (gv 2) z9) b7) (gc (.int 20)) gtD))) z9) intOfD) ixD))
 p6)))
 p6)
 (v7 (ifD (ob (o2 (d8 (gv 0) Z1 (someO (gc (.int 1)))) (gc (.str "[")) eqD))
 (v7 (j9 (gN 4) (oA (z7 (d8 (gv 0) (someO (gc (.int 1))) (someO (o2 (oA (z7 (gv 0) z9) b7) (gc (.int 1)) y70))) (z7 (gv 1) (z7 (gc (.bl false)) z9))) K4))
 (v7 (ifD (S5 (ob (o2 (d8 (gv 0) (someO (unG K9 (gc (.int 1)))) Z1) (gc (.str "]")) neD)) (ob (o2 (gv 4) (gc .non) zs0)))
 (v7 (o9 (gc .non))
 p6)
 p6)
 (v7 (o9 (W5 (z7 (gc (.str "row")) (z7 (oA (z7 (Y9 2 [] (tupI (gv 4)) (vx0 0 1) noT (gv 1)) z9) zz0) z9))))
 p6)))
 p6)
 (v7 (ifD (S5 (ob (o2 (gc (.str "{")) (gv 0) ye0)) (ob (o2 (d8 (gv 0) (someO (unG K9 (gc (.int 1)))) Z1) (gc (.str "}")) neD)))
 (v7 (o9 (gc .non))
 p6)
 p6)
 (v7 (j9 (gN 5) (d8 (gv 0) Z1 (someO (j8 (gv 0) (z7 (gc (.str "{")) z9) R4))))
 (v7 (j9 (gN 4) (oA (z7 (d8 (gv 0) (someO (o2 (j8 (gv 0) (z7 (gc (.str "{")) z9) R4) (gc (.int 1)) o8)) (someO (o2 (oA (z7 (gv 0) z9) b7) (gc (.int 1)) y70))) (z7 (gv 1) (z7 (gc (.bl true)) z9))) K4))
 (v7 (ifD (S5 (ob (o2 (gv 4) (gc .non) zs0)) (Q9 (ob (o2 (gv 5) (gc (.str "")) neD)) (T7 (ob (oA (z7 (gv 5) z9) V5)))))
 (v7 (o9 (gc .non))
 p6)
 p6)
 (v7 (o9 (o2 (j4 (z7 (W5 (z7 (gc (.str "record")) (z7 (gv 5) (z7 (gv 4) z9)))) (z7 (W5 (z7 (gc (.str "table")) (z7 (gv 4) z9))) z9))) (oA (z7 (o2 (gv 5) (gc (.str "")) eqD) z9) intOfD) ixD))
 p6)))))))
noncomputable def j10:List Str:=["_law_text", "_law_many", "_law_word", "_law_sign", "_law_some", "_law_front"]
noncomputable def zf0:List D->Option D:=mkF 2 j10 rh0
noncomputable def p40:GS:=(v7 (j9 (gN 1) (j8 (gv 0) (z7 (gc (.str "; ")) z9) Q7))
 (v7 (vi0 2 (j4 z9))
 (v7 (ya0 (M8 (gv 1)) (gN 3)
 (v7 (j9 (gN 4) (oA (z7 (gv 3) (z7 (oA (z7 (gv 1) z9) b7) z9)) zf0))
 (v7 (ifD (ob (o2 (gv 4) (gc .non) zs0))
 (v7 (o9 (gc .non))
 p6)
 p6)
 (v7 (zk0 (wk0 2 (gv 4)))
 p6))))
 (v7 (o9 (og0 (oA (z7 (gv 2) z9) zz0)))
 p6))))
noncomputable def ie0:List Str:=["_law_text", "_law_bits", "_law_found", "_law_piece", "_law_part_here"]
noncomputable def P0:List D->Option D:=mkF 1 ie0 p40
noncomputable def rf0:GS:=(v7 (j9 (gN 1) (gc .non))
 (v7 (vi0 2 (j4 z9))
 (v7 (mi0 ["NoText", "NoPlace", "NoValue", "TooMany", "NoMake", "NoBase", "NoRow", "NoName", "NoWay", "NoPack"] 3 (V8 (p60 (z7 (gv 0) z9) T6 1)
 J1)
 (v7 (vi0 2 (j4 (z7 (exI 3 ["NoText", "NoPlace", "NoValue", "TooMany", "NoMake", "NoBase", "NoRow", "NoName", "NoWay", "NoPack"] λc=>decide (c = "NoText")) (z7 (exI 3 ["NoText", "NoPlace", "NoValue", "TooMany", "NoMake", "NoBase", "NoRow", "NoName", "NoWay", "NoPack"] λ_=>true) z9))))
 (v7 (zk0 (wk0 2 (exI 3 ["NoText", "NoPlace", "NoValue", "TooMany", "NoMake", "NoBase", "NoRow", "NoName", "NoWay", "NoPack"] λc=>["NoBase", "NoMake", "NoName", "NoPack", "NoPlace", "NoRow", "NoValue", "NoWay", "TooMany"].any λn=>decide (c=n))))
 p6)))
 (v7 (o9 (og0 (W5 (z7 (gv 1) (z7 (gv 2) z9)))))
 p6))))
noncomputable def kn0:List Str:=["_law_thing", "_law_found", "_law_words", "e"]
noncomputable def Y8:List D->Option D:=mkF 1 kn0 rf0
noncomputable def tg0:GS:=(v7 (j9 (gN 0) (R3 (gc (.str "; ")) (z7 (o2 (j4 (z7 (gc (.str "''")) z9)) (gc (.int 60)) mulL) z9)))
 (v7 (j9 (gN 1) (Y9 1 [] (za0 (z7 (gc (.int 6)) z9)) (gN 0) noT (o2 (o2 (gc (.str "{")) (R3 (gc (.str ", ")) (z7 (Y9 1 [0] (za0 (z7 (gc (.int 10)) z9)) (gN 0) noT (o2 (o2 (gc (.str "m")) (oA (z7 (o2 (o2 (gc (.int 10)) (gv 1) R7) (gv 0) o8) z9) strOfD) o8) (gc (.str "=1")) o8)) z9)) o8) (gc (.str "}")) o8)))
 (v7 (ya0 (tupI (W5 (z7 (gv 0) (z7 (R3 (gc (.str "; ")) (z7 (gv 1) z9)) z9)))) (gN 2)
 (v7 (ifD (S5 (ob (o2 (o2 (oA (z7 (gv 2) z9) Y8) (gc (.int 1)) ixD) (j4 z9) J0)) (ob (o2 (oA (z7 (oA (z7 (gv 2) z9) (O3 T6)) z9) b7) (oA (z7 (j8 (gv 2) (z7 (gc (.str "; ")) z9) Q7) z9) b7) J0)))
 (v7 (o9 (gc (.bl false)))
 p6)
 p6)
 p6))
 (v7 (ya0 (tupI (W5 (z7 (o2 (gv 0) (gc (.str "; ''")) o8) (z7 (o2 (R3 (gc (.str "; ")) (z7 (gv 1) z9)) (gc (.str "; q{}")) o8) (z7 (o2 (R3 (gc (.str "; ")) (z7 (gv 1) z9)) (gc (.str "; {q=1}")) o8) z9))))) (gN 2)
 (v7 (ifD (ob (o2 (oA (z7 (gv 2) z9) Y8) (W5 (z7 (gc .non) (z7 (j4 (z7 (gc (.bl true)) (z7 (gc (.bl true)) (z7 (gc (.bl false)) z9)))) z9))) J0))
 (v7 (o9 (gc (.bl false)))
 p6)
 p6)
 p6))
 (v7 (o9 (gc (.bl true)))
 p6)))))
noncomputable def nt0:List Str:=["_law_small", "_law_rows", "_law_text"]
noncomputable def z20:List D->Option D:=mkF 0 nt0 tg0
noncomputable def cm0:GS:=(v7 (j9 (gN 1) (o2 (oA (z7 (gv 0) (z7 (gc (.int 0)) z9)) U5) (gc (.int 1000003)) Z8))
 (v7 (j9 (gN 2) (o2 (gc (.int 1)) (o2 (gv 1) (gc (.int 7)) Z8) o8))
 (v7 (j9 (gN 3) (Y9 1 [0] (za0 (z7 (gv 2) z9)) (gN 0) noT (o2 (o2 (o2 (o2 (oA (z7 (gv 1) (z7 (o2 (gc (.int 1)) (gv 0) o8) z9)) U5) (gc (.int 1000000007)) Z8) (o2 (o2 (gc (.int 47)) (gv 0) R7) (gv 0) R7) o8) (gc (.int 39373)) R7) (gc (.int 1000003)) Z8)))
 (v7 (j9 (gN 4) (R3 (gc (.str "; ")) (z7 (Y9 1 [2] (M8 (gv 3)) (gN 0) noT (oA (z7 (gv 0) (z7 (gv 1) z9)) S7)) z9)))
 (v7 (j9 (gN 5) (oA (z7 (gv 4) z9) P0))
 (v7 (ifD (S5 (ob (o2 (oA (z7 (gv 4) z9) (O3 T6)) (gv 5) J0)) (ob (o2 (gv 5) (gc .non) zs0)))
 (v7 (o9 (gc (.bl false)))
 p6)
 p6)
 (v7 (ya0 (M8 (o2 (d8 (gv 0) (someO (gc (.int 8))) (someO (gc (.int 22)))) (j4 (z7 (gv 1) z9)) o8)) (gN 6)
 (v7 (j9 (gN 7) (o2 (o2 (o2 (gv 6) (gc (.int 1000000007)) Z8) (gc (.int 30323)) R7) (gc (.int 1000003)) Z8))
 (v7 (j9 (gN 8) (oA (z7 (gv 4) (z7 (gv 7) (z7 (gv 2) z9))) T8))
 (v7 (j9 (gN 9) (oA (z7 (gv 8) z9) P0))
 (v7 (ifD (ob (o2 (oA (z7 (gv 8) z9) Y8) (W5 (z7 (gv 9) (z7 (o2 (j4 (z7 (j4 z9) (z7 (j4 (z7 (gc (.bl true)) (z7 (gc (.bl true)) (z7 (gc (.bl false)) z9)))) z9))) (oA (z7 (o2 (gv 9) (gc .non) zs0) z9) intOfD) ixD) z9))) J0))
 (v7 (o9 (gc (.bl false)))
 p6)
 p6)
 (v7 (j9 (gN 10) (o2 (j4 (z7 (gc .non) (z7 (gc (.int 7)) (z7 (gc (.bl true)) (z7 (j4 (z7 (gv 4) z9)) (z7 (W5 (z7 (gv 4) z9)) (z7 (gv 5) (z7 (gc (.dct (.inl []) [])) z9)))))))) (o2 (gv 7) (gc (.int 7)) Z8) ixD))
 (v7 (ifD (ob (o2 (oA (z7 (gv 10) z9) Y8) (W5 (z7 (gc .non) (z7 (j4 (z7 (gc (.bl true)) (z7 (gc (.bl true)) (z7 (gc (.bl false)) z9)))) z9))) J0))
 (v7 (o9 (gc (.bl false)))
 p6)
 p6)
 p6)))))))
 (v7 (o9 (K8 (o2 (oA (z7 (gv 4) z9) (O3 T6)) (gv 5) qd0) (oA z9 z20)))
 p6))))))))
noncomputable def W90:List Str:=["_law_script", "_law_first", "_law_many", "_law_numbers", "_law_text", "_law_due_here", "_law_cell", "_law_x", "_law_bad", "_law_due_bad", "_law_thing"]
noncomputable def sv0:List D->Option D:=mkF 1 W90 cm0
section
variable{G1 G2 Ga:GZ}{r:Option RX}{c:Str}{m:Option Int}{d:D}{g1:GB}
theorem zex(h:G1 δ=some (.ex c m δ')):V8 G1 G2 δ=some (.ex c m δ'):=by unfold V8;rw[h]
theorem zto(h:G1 δ=some (.ok (.nx δ')))(k:G2 δ'=r):V8 G1 G2 δ=r:=by unfold V8;rw[h];exact k
theorem zrt(h:G1 δ=some (.ok (.rt d))):V8 G1 G2 δ=some (.ok (.rt d)):=by unfold V8;rw[h]
theorem zok{r:Res}(h:G δ=some r):okZ G δ=some (.ok r):=by unfold okZ;rw[h];rfl
theorem zt(h:g1 δ=some true):ifZ g1 Ga Gb δ=Ga δ:=by unfold ifZ;rw[h];rfl
theorem zf(h:g1 δ=some false):ifZ g1 Ga Gb δ=Gb δ:=by unfold ifZ;rw[h];rfl
theorem V4(h:g δ=some (.bl b)):ob g δ=some b:=by unfold ob;rw[h];rfl
theorem t40(h:g δ=some (.bl b)):T7 (ob g) δ=some (!b):=by unfold T7 ob;rw[h];rfl
theorem wq0{a:Bool}{g h:GB}(h1:g δ=some a)(h2:a=true->h δ=some b):Q9 g h δ=some (a&&b):=by
 unfold Q9;rw[h1];cases a
 ·rfl
 ·exact h2 rfl
theorem v50{a:Bool}{g h:GB}(h1:g δ=some a)(h2:a=false->h δ=some b):S5 g h δ=some (a||b):=by
 unfold S5;rw[h1];cases a
 ·exact h2 rfl
 ·rfl
end
theorem w80(h:g δ=some (.str x))(hz:x.length<=sizeLine):oA (z7 g z9) b7 δ=some (.int (x.length:Int)):=by
 rw[X5 (ds:=[.str x]) (cons_of h rfl)];show (if x.length<=sizeLine then _ else _)=_;rw[if_pos hz]
noncomputable def toX:Option D->DX
 | some d=>.ok d
 | none=>.ex "NoText" none
noncomputable def oD:Option D->D
 | some d=>d
 | none=>.non
abbrev cs(x:Str):List Nat:=x.cps.toList
theorem U7(x:Str):(cs x).length=x.length:=by show x.cps.toList.length=x.cps.size;simp
theorem ww0(h:cs x=cs y):x=y:=by rw[← M4 x,← M4 y];exact B7 strOf h
theorem wo0(x y:Str):decide (x=y)=decide (cs x=cs y):=by
 by_cases h:x=y
 ·subst h;simp
 ·rw[decide_eq_false h,decide_eq_false λe=>h (ww0 e)]
noncomputable def dig(c:Nat):Bool:=decide (48<=c)&&decide (c<=57)
noncomputable def cnt(l:List Nat):Bool:=!l.isEmpty&&decide (l.length<=60)&&l.all dig&&(decide (l=[48])||decide (l.head?≠some 48))
noncomputable def num(l:List Nat):Int:=(NumText.digitsVal l:Nat)
theorem Yy0(c:Nat):decide (c∈cs ("0123456789" : Str))=dig c:=by
 have e:cs ("0123456789" : Str)=[48,49,50,51,52,53,54,55,56,57]:=by decide +kernel
 rw[e];unfold dig
 by_cases h:48<=c/\c<=57
 ·rw[decide_eq_true h.1,decide_eq_true h.2]
  simp only[decide_eq_true_eq,Bool.and_self,List.mem_cons,List.not_mem_nil,or_false];omega
 ·have:c∉([48,49,50,51,52,53,54,55,56,57]:List Nat):=λz=>h (by simp only[List.mem_cons,List.not_mem_nil,or_false] at z;omega)
  rw[decide_eq_false this]
  by_cases h1:48<=c
  ·rw[decide_eq_false λz=>h ⟨h1,z⟩,Bool.and_false]
  ·rw[decide_eq_false h1,Bool.false_and]
theorem Zs0(x s:Str):K7 (gN 0) noT (o2 (gv 0) (gc (.str s)) inD) [.un] (signs x)=some ((cs x).map λc=>.bl (decide (c∈cs s))):=by
 have h:=M7 (f:=gN 0) (gt:=noT) (ge:=o2 (gv 0) (gc (.str s)) inD) (δ:=[.un]) (λd=>match d with|.str c=>.bl (inS c s)|_=>.non) (items:=signs x) (λd hd=>by
  obtain⟨c,_,rfl⟩:=A6.mp hd;exact⟨[.sh (.str ⟨#[c]⟩)],rfl,rfl,rfl⟩)
 rw[h];unfold signs;rw[List.map_map];congr 1;refine L3 λc _=>?_
 show D.bl (inS ⟨#[c]⟩ s)=_;rw[xg0]
theorem W00(x s:Str)(hz:x.length<=sizeLine):oA (z7 (Y9 1 [] (v90 (gv 0)) (gN 0) noT (o2 (gv 0) (gc (.str s)) inD)) z9) va0 [.sh (.str x)]=some (.bl ((cs x).all λc=>decide (c∈cs s))):=by
 rw[X5 (ds:=[.lst ((cs x).map λc=>.bl (decide (c∈cs s)))]) (cons_of (J7 (items:=signs x) rfl (by unfold signs;rw[List.length_map];exact A9 (D9 (U7 x)) hz) (Zs0 x s)) rfl)];show (bools ((cs x).map λc=>.bl (decide (c∈cs s)))).map _=_;rw[yr0];simp
theorem vd0(x:Str)(b:Nat):Txt.startswith x ⟨#[b]⟩=decide ((cs x).head?=some b):=by
 rw[← M4 x];cases e:x.cps.toList with
 | nil=>rw[h50];simp[cs,strOf]
 | cons a l=>rw[ig0];simp[cs,strOf]
theorem count_eq(x:Str)(hz:x.length<=sizeLine):J2 [.str x]=some (.bl (cnt (cs x))):=by
 have O:=W00 x ("0123456789" : Str) hz;have ha:((cs x).all λc=>decide (c∈cs ("0123456789" : Str)))=(cs x).all dig:=by congr 1;funext c;exact Yy0 c
 rw[ha] at O;refine Y5 rfl ?_;have c1:S5 (ob (o2 (oA (z7 (gv 0) z9) b7) (gc (.int 0)) eqD)) (S5 (ob (o2 (oA (z7 (gv 0) z9) b7) (gc (.int 60)) gtD)) (T7 (ob (oA (z7 (Y9 1 [] (v90 (gv 0)) (gN 0) noT (o2 (gv 0) (gc (.str "0123456789")) inD)) z9) va0)))) [.sh (.str x)]
  =some (decide ((x.length:Int)=0)||(decide (60<(x.length:Int))||!((cs x).all dig))) :=
  v50 (V4 (by rw[d9 (w80 rfl hz) rfl];rfl)) λ_=>v50 (V4 (by rw[d9 (w80 rfl hz) rfl];rfl)) λ_=>t40 O
 have c2:orG (o2 (gv 0) (gc (.str "0")) eqD) (lo0 (j8 (gv 0) (z7 (gc (.str "0")) z9) K1)) [.sh (.str x)]=some (.bl (decide (x = "0")||!(Txt.startswith x "0"))):=by
  unfold orG;have e:ob (o2 (gv 0) (gc (.str "0")) eqD) [.sh (.str x)]=some (decide (x = "0")):=V4 rfl;rw[e];cases decide (x = "0")
  ·rfl
  ·rfl
 show v7 _ _ [.sh (.str x)]=_;have e1:(decide (x = "0")||!(Txt.startswith x "0"))=(decide (cs x=[48])||decide ((cs x).head?≠some 48)):=by
  rw[wo0,show cs ("0" : Str)=[48] by decide +kernel,show ("0" : Str)=⟨#[48]⟩ by decide +kernel,vd0];congr 1
  by_cases h:(cs x).head?=some 48
  ·simp[h]
  ·simp[h]
 cases hb:(decide ((x.length:Int)=0)||(decide (60<(x.length:Int))||!((cs x).all dig))) with
 | true =>
  rw[hb] at c1;refine n8 ?_;rw[R8 c1];have:cnt (cs x)=false:=by
   unfold cnt;simp only[Bool.or_eq_true,decide_eq_true_eq,Bool.not_eq_true'] at hb;rcases hb with h|h|h
   ·have:cs x=[]:=E3.mp (by rw[U7];omega)
    rw[this];rfl
   ·have:¬(cs x).length<=60:=by rw[U7];omega
    rw[decide_eq_false this];simp
   ·rw[h];simp
  rw[this];rfl
 | false =>
  rw[hb] at c1;refine p7 (δ':=[.sh (.str x)]) (by rw[X4 c1];rfl) (n8 (U3 ?_));rw[c2,e1];simp only[Bool.or_eq_false_iff,decide_eq_false_iff_not,Bool.not_eq_false'] at hb;obtain⟨h1,h2,h3⟩:=hb;unfold cnt;have e0:(cs x).isEmpty=false:=by
   cases e:cs x with
   | nil=>exact absurd (by rw[← U7,e];rfl) h1
   | cons a l=>rfl
  have S:decide ((cs x).length<=60)=true:=E4 (by rw[U7];omega);rw[e0,S,h3];rfl
theorem ft0(h:cnt (cs x)=true):sz0 [.str x]=some (.int (num (cs x))):=by
 unfold cnt at h;simp only[Bool.and_eq_true,decide_eq_true_eq,Bool.not_eq_true',List.isEmpty_eq_false_iff] at h;obtain⟨⟨⟨h1,h2⟩,h3⟩,_⟩:=h;have hd:NumText.AllDigits x.cps.toList:=λc hc=>by
  have:=K0.mp h3 c hc;unfold dig at this
  simpa using this
 have hl:x.length<=60:=by rw[← U7];exact h2
 have e:=intText_digits hd h1 (by omega);unfold sz0;simp only[e];rw[if_pos (by omega)];rfl
theorem g60(x:Str)(hz:x.length<=sizeLine):S9 [.str x]=some (toX (if cnt (cs x)=true then some (.int (num (cs x))) else none)):=by
 have e1:T7 (ob (oA (z7 (gv 0) z9) J2)) [.sh (.str x)]=some (!cnt (cs x)):=t40 (by rw[X5 (ds:=[.str x]) rfl];exact count_eq x hz);cases h:cnt (cs x) with
 | false =>
  rw[h] at e1;exact G7 (δ:=[.sh (.str x)]) rfl (zex (by show ifZ _ _ _ [.sh (.str x)]=_;rw[zt e1];rfl))
 | true =>
  rw[h] at e1;exact y20 rfl (zto (δ':=[.sh (.str x)]) (by show ifZ _ _ _ [.sh (.str x)]=_;rw[zf e1];rfl) (zrt (zok (U3 (by rw[X5 (ds:=[.str x]) rfl];exact ft0 h)))))
end E8
namespace E8
open DL W StrLaws
theorem Q0(l:List Nat):cs (strOf l)=l:=V2 l
theorem qf0(x:Str)(n:Nat)(h:n<=(cs x).length):Txt.slice x none (some (n:Int))=strOf ((cs x).take n):=by
 show sliceText _ _ _=_;rw[sliceText_to ⟨by omega,by show (n:Int)<=((cs x).length:Nat);omega⟩];unfold strOf;congr 2
theorem sw0(x:Str)(n:Nat)(h:n<=(cs x).length):Txt.slice x (some (n:Int)) none=strOf ((cs x).drop n):=by
 show sliceText _ _ _=_;rw[sliceText_from ⟨by omega,by show (n:Int)<=((cs x).length:Nat);omega⟩];unfold strOf;congr 2;rw[Int.toNat_natCast,List.take_of_length_le];rw[List.length_drop];show (cs x).length - n<=(((cs x).length:Int) - n).toNat;omega
theorem lc0(x:Str)(a b:Nat)(hab:a<=b)(hb:b<=(cs x).length):Txt.slice x (some (a:Int)) (some (b:Int))=strOf (((cs x).drop a).take (b - a)):=by
 show sliceText _ _ _=_;rw[sliceText_nat x hab (by rw[← U7];exact hb)];rfl
theorem ad0(x:Str)(h:cs x≠[]):Txt.slice x (some (-1)) none=strOf ((cs x).drop ((cs x).length - 1)):=by
 have h1:1<=(cs x).length:=Az0.mpr h;show sliceText _ _ _=_;rw[sliceText_from_neg (by omega) (by rw[← U7];omega)];unfold strOf;congr 2;rw[← U7,show ((-1:Int)+((cs x).length:Nat)).toNat=(cs x).length - 1 by omega,List.take_of_length_le];rw[List.length_drop];show (cs x).length - ((cs x).length - 1)<=(((cs x).length:Int) - (-1+((cs x).length:Nat))).toNat;omega
theorem fz0(l u:Option Int)(x:Str)(h:cs x=[]):Txt.slice x l u=x:=by
 show sliceText _ _ _=_;unfold sliceText;split
 ·rfl
 ·refine ww0 ?_
  show (List.filterMap (x.cps[·]?) _).toArray.toList=cs x;rw[h,List.filterMap_eq_nil_iff.mpr];intro a _;have:x.cps.size=0:=by rw[← Array.length_toList];show (cs x).length=0;rw[h];rfl
  exact Array.getElem?_eq_none (by omega)
theorem Z90(x:Str)(c:Nat):decide (Txt.slice x none (some 1)=(⟨#[c]⟩:Str))=decide ((cs x).head?=some c):=by
 rw[wo0];show decide (cs _=[c])=_;cases e:cs x with
 | nil=>rw[fz0 _ _ x e,e];rfl
 | cons a l =>
  have:=qf0 x 1 (by rw[e];simp);rw[show (some (1:Int))=some ((1:Nat):Int) from rfl,this,Q0,e]
  by_cases h:a=c<;>simp[h]
theorem Yc0(x:Str)(c:Nat):decide (Txt.slice x (some (-1)) none=(⟨#[c]⟩:Str))=decide ((cs x).getLast?=some c):=by
 rw[wo0];show decide (cs _=[c])=_
 by_cases h:cs x=[]
 ·rw[fz0 _ _ x h,h];rfl
 ·rw[ad0 x h,Q0]
  obtain⟨l,a,e⟩:∃l a,cs x=l++[a]:=⟨(cs x).dropLast,(cs x).getLast h,(n9 h).symm⟩;rw[e];have:(l++[a]).drop ((l++[a]).length - 1)=[a]:=by simp
  rw[this]
  by_cases q:a=c<;>simp[q]
theorem ls0(x:Str)(b:Nat):Txt.endswith x ⟨#[b]⟩=decide ((cs x).getLast?=some b):=by
 by_cases h:cs x=[]
 ·have e:x=strOf []:=by rw[← M4 x];exact B7 strOf h
  rw[e];unfold Txt.endswith;rw[subAt_eq,V2,m8];simp[cs,strOf]
 ·obtain⟨l,a,e⟩:∃l a,cs x=l++[a]:=⟨(cs x).dropLast,(cs x).getLast h,(n9 h).symm⟩
  have ex:x=strOf (l++[a]):=by rw[← M4 x];exact B7 strOf e
  rw[ex,dd0,Q0]
  by_cases q:a=b<;>simp[q]
theorem b00(l r:List Nat)(c:Nat)(h:c∉l):∃r',Builtin.Str.occurrences (strOf (l++c::r)) ⟨#[c]⟩ 0 (strOf (l++c::r)).length 1=l.length::r':=by
 have O:At (strOf (l++c::r)) ⟨#[c]⟩ (strOf (l++c::r)).length l.length:=(subAt_one _ c l.length).mpr (by rw[V2];simp);rcases occ_head (strOf (l++c::r)) ⟨#[c]⟩ 1 (A1 _) with⟨_,hn⟩|⟨i,r',e,hi,hn⟩
 ·exact absurd O (hn l.length)
 ·have ei:i=l.length:=by
   rcases n5 i l.length with q|q|q
   ·have:=(subAt_one _ c i).mp hi
    rw[V2,List.getElem?_append_left q] at this;exact absurd (L7 this) h
   ·exact q
   ·exact absurd O (hn l.length q)
  subst ei;exact⟨r',e⟩
theorem jg0(x:Str)(c:Nat)(h:c∉cs x):Txt.partition x ⟨#[c]⟩=(x,Str.empty,Str.empty):=by
 have e:inS ⟨#[c]⟩ x=false:=by rw[xg0];exact E5 h
 unfold inS at e;simp only[Bool.not_eq_false'] at e;unfold Txt.partition;rw[List.isEmpty_iff.mp e]
theorem Ye0(l:List Nat)(c:Nat)(h:c∈l):∃a r,l=a++c::r/\c∉a:=by
 induction l with
 | nil=>cases h
 | cons y t ih =>
  by_cases e:y=c
  ·subst e;exact⟨[],t,rfl,List.not_mem_nil⟩
  ·obtain⟨a,r,e1,e2⟩:=ih (by
    rcases B1.mp h with q|q
    ·exact absurd q.symm e
    ·exact q)
   exact⟨y::a,r,by rw[e1];rfl,λz=>by
    rcases B1.mp z with q|q
    ·exact e q.symm
    ·exact e2 q⟩
theorem mk0(h:cs x=l):x=strOf l:=by rw[← M4 x];exact B7 strOf h
noncomputable def rv(l:List Nat):Option D :=
 if l=[110,105,108] then some .non
 else if l.head?=some 64 then (if cnt l.tail=true then some (.tup [.str "at",.int (num l.tail)]) else none)
 else if l=[45,48] then none
 else if l.head?=some 45 then (if cnt l.tail=true then some (.int (-num l.tail)) else none)
 else if cnt l=true then some (.int (num l)) else none
theorem rv0(x:Str)(c:Nat)(h:(cs x).head?=some c)(hz:x.length<=sizeLine)(δ:Ds)(g:GE)(hg:g δ=some (.str x)):d8 g (someO (gc (.int 1))) Z1 δ=some (.str (strOf (cs x).tail))/\(strOf (cs x).tail).length<=sizeLine:=by
 cases e:cs x with
 | nil=>rw[e] at h;cases h
 | cons a l =>
  have hx:=mk0 e;refine⟨?_,?_⟩
  ·show (g δ).bind _=_
   rw[hg];show (if x.length<=sizeLine then some (D.str (Txt.slice x (some 1) none)) else none)=_;rw[if_pos hz,hx,it0];rfl
  ·rw[m8]
   have:=U7 x;rw[e] at this;simp only[List.length_cons,List.tail_cons] at this ⊢;omega
theorem cs0(x:Str)(hz:x.length<=sizeLine):N5 [.str x]=some (toX (rv (cs x))):=by
 have e1:ob (o2 (gv 0) (gc (.str "nil")) eqD) [.sh (.str x)]=some (decide (cs x=[110,105,108])):=by
  rw[← show cs ("nil" : Str)=[110,105,108] by decide +kernel,← wo0];exact V4 rfl
 have e2:ob (j8 (gv 0) (z7 (gc (.str "@")) z9) K1) [.sh (.str x)]=some (decide ((cs x).head?=some 64)):=by
  rw[← vd0,← show ("@" : Str)=⟨#[64]⟩ by decide +kernel];exact V4 rfl
 have e3:ob (o2 (gv 0) (gc (.str "-0")) eqD) [.sh (.str x)]=some (decide (cs x=[45,48])):=by
  rw[← show cs ("-0" : Str)=[45,48] by decide +kernel,← wo0];exact V4 rfl
 have e4:ob (j8 (gv 0) (z7 (gc (.str "-")) z9) K1) [.sh (.str x)]=some (decide ((cs x).head?=some 45)):=by
  rw[← vd0,← show ("-" : Str)=⟨#[45]⟩ by decide +kernel];exact V4 rfl
 have U:∀G:GZ,(∀d,rv (cs x)=some d->G [.sh (.str x)]=some (.ok (.rt d)))->(rv (cs x)=none->G [.sh (.str x)]=some (.ex "NoText" none [.sh (.str x)]))->mkX 1 tq0 G [.str x]=some (toX (rv (cs x))):=λG h1 h2=>by
  cases q:rv (cs x) with
  | none=>exact G7 rfl (h2 q)
  | some d=>exact y20 rfl (h1 d q)
 have S:∀G G':GZ,G [.sh (.str x)]=some (.ex "NoText" none [.sh (.str x)])->V8 G G' [.sh (.str x)]=some (.ex "NoText" none [.sh (.str x)]):=λG G' h=>zex h
 by_cases h1:cs x=[110,105,108]
 ·rw[decide_eq_true h1] at e1
  have q:rv (cs x)=some .non:=by unfold rv;rw[if_pos h1]
  rw[q];exact y20 rfl (zrt (zok (by show ifD _ _ _ [.sh (.str x)]=_;rw[R8 e1];rfl)))
 rw[decide_eq_false h1] at e1
 by_cases h2:(cs x).head?=some 64
 ·rw[decide_eq_true h2] at e2
  obtain⟨c1,c2⟩:=rv0 x 64 h2 hz [.sh (.str x)] (gv 0) rfl;have rc:=g60 _ c2;rw[Q0] at rc;have q:rv (cs x)=if cnt (cs x).tail=true then some (.tup [.str "at",.int (num (cs x).tail)]) else none:=by unfold rv;rw[if_neg h1,if_pos h2]
  have call:R0 (z7 (d8 (gv 0) (someO (gc (.int 1))) Z1) z9) S9 [.sh (.str x)]=some (toX (if cnt (cs x).tail=true then some (.int (num (cs x).tail)) else none)):=by
   unfold R0;rw[cons_of c1 rfl];exact rc
  rw[q];cases hc:cnt (cs x).tail with
  | true =>
   rw[hc] at call;refine y20 rfl (zto (δ':=[.sh (.str x)]) (zok (by show ifD _ _ _ [.sh (.str x)]=_;rw[X4 e1];rfl)) (zrt ?_));rw[zt e2];refine zrt ?_;unfold z00 xm0 M6 okE;rw[call];rfl
  | false =>
   rw[hc] at call;refine G7 (δ:=[.sh (.str x)]) rfl (zto (δ':=[.sh (.str x)]) (zok (by show ifD _ _ _ [.sh (.str x)]=_;rw[X4 e1];rfl)) (zex ?_));rw[zt e2];refine zex ?_;unfold z00 xm0 M6 okE;rw[call];rfl
 rw[decide_eq_false h2] at e2;have O:∀G r,G [.sh (.str x)]=r->V8 (ifZ (ob (j8 (gv 0) (z7 (gc (.str "@")) z9) K1)) (V8 (z00 (xm0 (M6 (okE (gc (.str "at"))) (M6 (R0 (z7 (d8 (gv 0) (someO (gc (.int 1))) Z1) z9) S9) u00)))) J1) J1) G [.sh (.str x)]=r:=λG r h=>zto (by rw[zf e2];rfl) h
 by_cases h3:cs x=[45,48]
 ·rw[decide_eq_true h3] at e3
  have q:rv (cs x)=none:=by unfold rv;rw[if_neg h1,if_neg h2,if_pos h3]
  rw[q];refine G7 (δ:=[.sh (.str x)]) rfl (zto (δ':=[.sh (.str x)]) (zok (by show ifD _ _ _ [.sh (.str x)]=_;rw[X4 e1];rfl)) (O _ _ (zex ?_)));rw[zt e3];rfl
 rw[decide_eq_false h3] at e3
 by_cases h4:(cs x).head?=some 45
 ·rw[decide_eq_true h4] at e4
  obtain⟨c1,c2⟩:=rv0 x 45 h4 hz [.sh (.str x)] (gv 0) rfl;have rc:=g60 _ c2;rw[Q0] at rc;have q:rv (cs x)=if cnt (cs x).tail=true then some (.int (-num (cs x).tail)) else none:=by unfold rv;rw[if_neg h1,if_neg h2,if_neg h3,if_pos h4]
  have call:R0 (z7 (d8 (gv 0) (someO (gc (.int 1))) Z1) z9) S9 [.sh (.str x)]=some (toX (if cnt (cs x).tail=true then some (.int (num (cs x).tail)) else none)):=by
   unfold R0;rw[cons_of c1 rfl];exact rc
  rw[q];cases hc:cnt (cs x).tail with
  | true =>
   rw[hc] at call;refine y20 rfl (zto (δ':=[.sh (.str x)]) (zok (by show ifD _ _ _ [.sh (.str x)]=_;rw[X4 e1];rfl)) (O _ _ (zto (δ':=[.sh (.str x)]) (by rw[zf e3];rfl) (zrt ?_))));rw[zt e4];refine zrt ?_;unfold z00 lm0;rw[call];rfl
  | false =>
   rw[hc] at call;refine G7 (δ:=[.sh (.str x)]) rfl (zto (δ':=[.sh (.str x)]) (zok (by show ifD _ _ _ [.sh (.str x)]=_;rw[X4 e1];rfl)) (O _ _ (zto (δ':=[.sh (.str x)]) (by rw[zf e3];rfl) (zex ?_))));rw[zt e4];refine zex ?_;unfold z00 lm0;rw[call];rfl
 rw[decide_eq_false h4] at e4;have q:rv (cs x)=if cnt (cs x)=true then some (.int (num (cs x))) else none:=by unfold rv;rw[if_neg h1,if_neg h2,if_neg h3,if_neg h4]
 have call:R0 (z7 (gv 0) z9) S9 [.sh (.str x)]=some (toX (if cnt (cs x)=true then some (.int (num (cs x))) else none)):=by
  unfold R0;exact g60 x hz
 rw[q];cases hc:cnt (cs x) with
 | true =>
  rw[hc] at call;refine y20 rfl (zto (δ':=[.sh (.str x)]) (zok (by show ifD _ _ _ [.sh (.str x)]=_;rw[X4 e1];rfl)) (O _ _ (zto (δ':=[.sh (.str x)]) (by rw[zf e3];rfl) (zto (δ':=[.sh (.str x)]) (by rw[zf e4];rfl) (zrt ?_)))));unfold z00;rw[call];rfl
 | false =>
  rw[hc] at call;refine G7 (δ:=[.sh (.str x)]) rfl (zto (δ':=[.sh (.str x)]) (zok (by show ifD _ _ _ [.sh (.str x)]=_;rw[X4 e1];rfl)) (O _ _ (zto (δ':=[.sh (.str x)]) (by rw[zf e3];rfl) (zto (δ':=[.sh (.str x)]) (by rw[zf e4];rfl) (zex ?_)))));unfold z00;rw[call];rfl
noncomputable def o5{α:Type}:List (Option α)->Option (List α)
 | []=>some []
 | none::_=>none
 | some a::r=>(o5 r).map (a::·)
noncomputable def toA:Option (List D)->AX
 | some ds=>.ok ds
 | none=>.ex "NoText" none
theorem lg0{ge:GXe}(o:D->Option D):∀items:List D,(∀d∈items,∃δ',f d δ=some δ'/\ge δ'=some (toX (o d)))->yg0 f ge δ items=some (toA (o5 (items.map o)))
 | [],_=>rfl
 | d::ds,h=>by
  obtain⟨δ',h1,h2⟩:=h d A5;have ih:=lg0 o ds λe he=>h e (A7 _ he)
  unfold yg0;rw[h1,Option.bind_some,h2,Option.bind_some,List.map_cons];cases q:o d with
  | none=>rfl
  | some v =>
   show (yg0 f ge δ ds).map (yv0 [v])=_;rw[ih];show some (yv0 [v] (toA (o5 (ds.map o))))=some (toA (o5 (some v::ds.map o)));congr 1;cases r:o5 (ds.map o) with
   | none=>simp[o5,r,toA,yv0]
   | some vs=>simp[o5,r,toA,yv0]
theorem vt0(x y:Str)(hz:x.length+2<=sizeLine):(Txt.split x y).length<=sizeLine:=by
 unfold Txt.split;split
 ·show 1<=sizeLine;omega
 ·split
  ·show 1<=sizeLine;omega
  ·rw[StrLaws.partsBetween_eq]
   have hp:∀(O:List Nat) (a:Nat),(StrLaws.partsFrom x y.length a O).length=O.length+1:=by
    intro O
    induction O with
    | nil=>intro a;rfl
    | cons c r ih=>intro a;show (StrLaws.partsFrom x y.length (c+y.length) r).length+1=_;rw[ih];rfl
   rw[hp];have:=StrLaws.occ_length_le x y 0 x.length (x.length+1);omega
theorem w00(hg:g δ=some (.str x))(hy:(y.length==0)=false)(hz:x.length+2<=sizeLine):j8 g (z7 (gc (.str y)) z9) Q7 δ=some (.lst ((Txt.split x y).map .str)):=by
 rw[sq0 hg (ds:=[.str y]) rfl];show (if _ then _ else _)=_;rw[if_pos ⟨hy,hz,vt0 x y hz⟩]
noncomputable def its(x:Str):List Str:=if cs x=[] then [] else Txt.split x ", "
theorem vs0(h:a∈its x):a.length<=x.length:=by
 unfold its at h;split at h
 ·cases h
 ·exact R1 h
theorem sx0(x:Str)(hz:x.length+2<=sizeLine):(its x).length<=sizeLine:=by
 unfold its;split
 ·exact C3 _
 ·exact vt0 x _ hz
theorem yo0(x:Str)(hz:x.length+2<=sizeLine):W9 [.str x]=some (.lst ((its x).map .str)):=by
 have e1:ob (o2 (gv 0) (gc (.str "")) eqD) [.sh (.str x)]=some (decide (cs x=[])):=by
  refine(V4 (b:=decide (x = "")) rfl).trans ?_;congr 1;rw[decide_eq_decide];exact⟨λh=>by rw[h];decide +kernel,λh=>ww0 (h.trans (by decide +kernel))⟩
 unfold its
 by_cases h:cs x=[]
 ·rw[decide_eq_true h] at e1
  rw[if_pos h];exact Y5 rfl (n8 (by show ifD _ _ _ [.sh (.str x)]=_;rw[R8 e1];rfl))
 ·rw[decide_eq_false h] at e1
  rw[if_neg h];exact Y5 rfl (p7 (δ':=[.sh (.str x)]) (by show ifD _ _ _ [.sh (.str x)]=_;rw[X4 e1];rfl) (n8 (U3 (w00 rfl (by decide +kernel) hz))))
noncomputable def m5(c:Nat)(l:List Nat):List Nat:=l.takeWhile λa=>!decide (a=c)
noncomputable def W0(c:Nat)(l:List Nat):List Nat:=(l.dropWhile λa=>!decide (a=c)).tail
theorem rb0(c:Nat)(r:List Nat):∀a:List Nat,c∉a->m5 c (a++c::r)=a/\W0 c (a++c::r)=r
 | [],_=>by simp[m5,W0]
 | y::a,h=>by
  have hy:y≠c:=λe=>h (by rw[e];exact A5)
  obtain⟨i1,i2⟩:=rb0 c r a λz=>h (A7 _ z)
  unfold m5 W0 at *;rw[List.cons_append,List.takeWhile_cons,List.dropWhile_cons];simp only[decide_eq_false hy,Bool.not_false,if_true];exact⟨by rw[i1],i2⟩
theorem u40(c:Nat)(l:List Nat)(h:c∈l):l=m5 c l++c::W0 c l/\c∉m5 c l:=by
 obtain⟨a,r,e,n⟩:=Ye0 l c h;obtain⟨e1,e2⟩:=rb0 c r a n;rw[e,e1,e2];exact⟨rfl,n⟩
theorem su0(x:Str)(c:Nat)(h:c∈cs x):Txt.partition x ⟨#[c]⟩=(strOf (m5 c (cs x)),⟨#[c]⟩,strOf (W0 c (cs x))):=by
 obtain⟨e,n⟩:=u40 c (cs x) h;have:=d70 (m5 c (cs x)) (W0 c (cs x)) c n;rw[← e] at this;rw[← this,M4]
theorem ux0(c:Nat)(l:List Nat):(m5 c l).length<=l.length:=by
 unfold m5;exact(List.takeWhile_sublist _).length_le
theorem t20(c:Nat)(l:List Nat):(W0 c l).length<=l.length:=by
 unfold W0;rw[List.length_tail];have:=(B00 (l:=l) λa=>!decide (a=c)).length_le;omega
theorem md0(hg:g δ=some (.str x))(hy:(y.length==0)=false)(hz:x.length<=sizeLine):j8 g (z7 (gc (.str y)) z9) wr0 δ=some (.tup [.str (Txt.partition x y).1,.str (Txt.partition x y).2.1,.str (Txt.partition x y).2.2]):=by
 rw[sq0 hg (ds:=[.str y]) rfl];show (if _ then _ else _)=_;rw[if_pos ⟨hy,hz⟩]
noncomputable def rp(l:List Nat):Option D:=if 61∈l then (rv (W0 61 l)).map λv=>.tup [.str (strOf (m5 61 l)),v] else none
theorem W70(x:Str)(hz:x.length<=sizeLine):y30 [.str x]=some (toX (rp (cs x))):=by
 have O:("=" : Str)=⟨#[61]⟩:=by decide +kernel
 have st:j8 (gv 0) (z7 (gc (.str "=")) z9) wr0 [.sh (.str x),.un]=some (.tup [.str (Txt.partition x "=").1,.str (Txt.partition x "=").2.1,.str (Txt.partition x "=").2.2]):=md0 rfl (by decide +kernel) hz;have hl:(Txt.partition x "=").2.2.length<=sizeLine:=by
  rw[O]
  by_cases h:61∈cs x
  ·rw[su0 x 61 h]
   show (strOf _).length<=_;rw[m8];have:=t20 61 (cs x);rw[U7] at this;omega
  ·rw[jg0 x 61 h]
   exact C3 _
 have S:=cs0 _ hl;have val:rv (cs (Txt.partition x "=").2.2)=if 61∈cs x then rv (W0 61 (cs x)) else none:=by
  rw[O]
  by_cases h:61∈cs x
  ·rw[su0 x 61 h,if_pos h]
   show rv (cs (strOf _))=_;rw[Q0]
  ·rw[jg0 x 61 h,if_neg h]
   show rv []=none
   decide +kernel
 have U:61∈cs x->(Txt.partition x "=").1=strOf (m5 61 (cs x)):=λh=>by rw[O,su0 x 61 h]
 rw[val] at S;have call:∀a b,R0 (z7 (o2 (gv 1) (gc (.int 2)) ixD) z9) N5 [a,.sh (.tup [.str (Txt.partition x "=").1,b,.str (Txt.partition x "=").2.2])]=some (toX (if 61∈cs x then rv (W0 61 (cs x)) else none)):=λa b=>by
  unfold R0;rw[cons_of (d:=.str (Txt.partition x "=").2.2) (by rw[d9 (x:=.tup [.str (Txt.partition x "=").1,b,.str (Txt.partition x "=").2.2]) (y:=.int 2) rfl rfl];rfl) rfl];exact S
 unfold rp;refine Eq.trans ?_ rfl
 by_cases h:61∈cs x
 ·rw[if_pos h]
  cases q:rv (W0 61 (cs x)) with
  | none =>
   rw[if_pos h,q] at call;refine G7 (δ:=[.sh (.str x),.sh (.tup [.str (Txt.partition x "=").1,.str (Txt.partition x "=").2.1,.str (Txt.partition x "=").2.2])]) rfl (zto (δ':=[.sh (.str x),.sh (.tup [.str (Txt.partition x "=").1,.str (Txt.partition x "=").2.1,.str (Txt.partition x "=").2.2])]) (zok (b8 st)) (zex ?_));unfold z00 xm0 M6 okE;rw[call];rfl
  | some v =>
   rw[if_pos h,q] at call;refine y20 rfl (zto (δ':=[.sh (.str x),.sh (.tup [.str (Txt.partition x "=").1,.str (Txt.partition x "=").2.1,.str (Txt.partition x "=").2.2])]) (zok (b8 st)) (zrt ?_));unfold z00 xm0 M6 okE;rw[call,← U h];rfl
 ·rw[if_neg h]
  rw[if_neg h] at call;refine G7 (δ:=[.sh (.str x),.sh (.tup [.str (Txt.partition x "=").1,.str (Txt.partition x "=").2.1,.str (Txt.partition x "=").2.2])]) rfl (zto (δ':=[.sh (.str x),.sh (.tup [.str (Txt.partition x "=").1,.str (Txt.partition x "=").2.1,.str (Txt.partition x "=").2.2])]) (zok (b8 st)) (zex ?_));unfold z00 xm0 M6 okE;rw[call];rfl
theorem q20{gi:GA}{ge:GXe}{l:List Str}(o:Str->Option D)(hi:gi δ=some (l.map .str))(hl:l.length<=sizeLine)(h:∀a∈l,ge [.sh (.str a)]=some (toX (o a)))(hδ:M9 1 [] δ=[.un]) :
  oAX (M6 (wu0 1 [] gi (gN 0) ge) u00) zz0 δ=some (toX ((o5 (l.map o)).map .tup)):=by
 have e:yg0 (gN 0) ge [.un] (l.map .str)=some (toA (o5 ((l.map D.str).map λd=>match d with|.str a=>o a|_=>none))):=lg0 (λd=>match d with|.str a=>o a|_=>none) _ λd hd=>by
  obtain⟨a,ha,rfl⟩:=A6.mp hd;exact⟨[.sh (.str a)],rfl,h a ha⟩
 have e2:((l.map D.str).map λd=>match d with|.str a=>o a|_=>none)=l.map o:=by rw[List.map_map];rfl
 rw[e2] at e;have e3:wu0 1 [] gi (gN 0) ge δ=some (toE (toA (o5 (l.map o)))):=by
  unfold wu0;rw[hi,Option.bind_some,if_pos (by rw[List.length_map];exact hl),hδ,e];rfl
 unfold oAX M6;rw[e3];cases o5 (l.map o) with
 | none=>rfl
 | some vs=>rfl
noncomputable def rpd(l:List Nat):Option D:=(o5 ((its (strOf (W0 123 l).dropLast)).map λa=>rp (cs a))).map λps=>if m5 123 l=[] then .tup [.str "table",.tup ps] else .tup [.str "record",.str (strOf (m5 123 l)),.tup ps]
theorem gi0{e:Nat}(h:c∈l)(he:l.getLast?=some e)(hn:e≠c):∃r,W0 c l=r++[e]:=by
 obtain⟨e1,_⟩:=u40 c l h;cases q:W0 c l with
 | nil =>
  rw[q] at e1;rw[e1] at he;simp at he;exact absurd he.symm hn
 | cons a t =>
  have O:W0 c l≠[]:=by rw[q];exact M2 _ _
  refine⟨(W0 c l).dropLast,?_⟩;rw[← q];have:(W0 c l).getLast?=some e:=by
   rw[e1,q] at he;rw[q];rw[List.getLast?_append] at he
   simpa using he
  rw[List.getLast?_eq_some_getLast O] at this;rw[← Option.some.inj this];exact(n9 O).symm
theorem Yo0(x:Str)(h1:123∈cs x)(h2:(cs x).getLast?=some 125)(hz:x.length+2<=sizeLine):z40 [.str x]=some (toX (rpd (cs x))):=by
 have S:("{" : Str)=⟨#[123]⟩:=by decide +kernel
 have hp:=su0 x 123 h1;rw[← S] at hp;have st:j8 (gv 0) (z7 (gc (.str "{")) z9) wr0 [.sh (.str x),.un,.un]=some (.tup [.str (strOf (m5 123 (cs x))),.str "{",.str (strOf (W0 123 (cs x)))]):=by
  rw[md0 rfl (by decide +kernel) (by omega),hp]
 obtain⟨r,hr⟩:=gi0 h1 h2 (by decide);have hl:(strOf (W0 123 (cs x))).length+2<=sizeLine:=by
  rw[m8];have:=t20 123 (cs x);rw[U7] at this;omega
 have O:(strOf r).length+2<=sizeLine:=by
  rw[hr,m8] at hl;rw[m8];simp only[List.length_append,List.length_cons,List.length_nil] at hl;omega
 obtain⟨δ1,hδ1⟩:∃δ1:Ds,δ1=[.sh (.str x),.sh (.tup [.str (strOf (m5 123 (cs x))),.str "{",.str (strOf (W0 123 (cs x)))]),.un]:=⟨_,rfl⟩;have Y:d8 (o2 (gv 1) (gc (.int 2)) ixD) Z1 (someO (unG K9 (gc (.int 1)))) δ1=some (.str (strOf r)):=by
  rw[hδ1];show (if (strOf (W0 123 (cs x))).length<=sizeLine then some (D.str (Txt.slice (strOf (W0 123 (cs x))) none (some (-1)))) else none)=_;rw[if_pos (by omega),hr,ix0]
 have hi:M8 (oA (z7 (d8 (o2 (gv 1) (gc (.int 2)) ixD) Z1 (someO (unG K9 (gc (.int 1))))) z9) W9) δ1=some ((its (strOf r)).map .str):=by
  show (oA _ W9 δ1).bind _=_;rw[X5 (cons_of Y rfl),yo0 _ O];rfl
 have tr:=q20 (δ:=δ1) (gi:=M8 (oA (z7 (d8 (o2 (gv 1) (gc (.int 2)) ixD) Z1 (someO (unG K9 (gc (.int 1))))) z9) W9)) (ge:=R0 (z7 (gv 0) z9) y30) (l:=its (strOf r)) (λa=>rp (cs a)) hi (sx0 _ O) (λa ha=>by
  have:=vs0 ha;unfold R0;exact W70 a (by omega)) (by rw[hδ1];rfl)
 have U:(W0 123 (cs x)).dropLast=r:=by rw[hr];simp
 unfold rpd;rw[U];have e3:∀d,ob (o2 (o2 (gv 1) (gc (.int 0)) ixD) (gc (.str "")) eqD) (δ1.set 2 (.sh d))=some (decide (m5 123 (cs x)=[])):=λd=>by
  rw[hδ1];refine(V4 (b:=decide (strOf (m5 123 (cs x)) = "")) rfl).trans ?_;congr 1;rw[decide_eq_decide];exact⟨λh=>by rw[← Q0 (m5 123 (cs x)),h];decide +kernel,λh=>by rw[h];decide +kernel⟩
 cases q:o5 ((its (strOf r)).map λa=>rp (cs a)) with
 | none =>
  rw[q] at tr;refine G7 (δ:=δ1) rfl (zto (δ':=δ1) (by rw[hδ1];exact zok (b8 st)) (zex ?_));unfold us0;rw[tr];rfl
 | some ps =>
  rw[q] at tr;refine y20 rfl (zto (δ':=δ1) (by rw[hδ1];exact zok (b8 st)) (zto (δ':=δ1.set 2 (.sh (.tup ps))) (by unfold us0;rw[tr];rfl) ?_))
  by_cases h:m5 123 (cs x)=[]
  ·have:=e3 (.tup ps)
   rw[decide_eq_true h] at this;simp only[if_pos h];refine zrt (zok ?_);rw[R8 this,hδ1];rfl
  ·have:=e3 (.tup ps)
   rw[decide_eq_false h] at this;simp only[if_neg h];refine zto (δ':=δ1.set 2 (.sh (.tup ps))) (zok (by rw[X4 this];rfl)) (zrt (zok ?_));rw[hδ1];rfl
noncomputable def rpt(l:List Nat):Option D :=
 if 1<l.length/\l.head?=some 39/\l.getLast?=some 39 then some (.tup [.str "text",.str (strOf l.tail.dropLast)])
 else if l.head?=some 91/\l.getLast?=some 93 then (o5 ((its (strOf l.tail.dropLast)).map λa=>rv (cs a))).map λvs=>.tup [.str "row",.tup vs]
 else if 123∈l/\l.getLast?=some 125 then rpd l else none
theorem mq0{a b:Nat}(h1:l.head?=some a)(h2:l.getLast?=some b)(h:1<l.length):∃m,l=a::(m++[b])/\l.tail.dropLast=m:=by
 cases l with
 | nil=>cases h1
 | cons c t =>
  cases h1;have ht:t≠[]:=λz=>by rw[z] at h;simp at h
  refine⟨t.dropLast,?_,rfl⟩;have:t.getLast?=some b:=by
   rw[List.getLast?_cons] at h2;rw[List.getLast?_eq_some_getLast ht] at h2 ⊢
   simpa using h2
  rw[List.getLast?_eq_some_getLast ht] at this;rw[← Option.some.inj this,List.dropLast_concat_getLast ht]
theorem jf0(x:Str){a b:Nat}{m:List Nat}(e:cs x=a::(m++[b]))(hz:x.length<=sizeLine)(δ:Ds)(g:GE)(hg:g δ=some (.str x)):d8 g (someO (gc (.int 1))) (someO (unG K9 (gc (.int 1)))) δ=some (.str (strOf m)):=by
 show (g δ).bind _=_;rw[hg];show (if x.length<=sizeLine then some (D.str (Txt.slice x (some 1) (some (-1)))) else none)=_;rw[if_pos hz,mk0 e,gl0]
noncomputable def V60(d0:D)(δ:Ds):Option D->RX
 | some v=>.ok (.rt (.tup [d0,v]))
 | none=>.ex "NoText" none δ
theorem i10{g:GXe}{r:Option D}(h:g δ=some (toX r)):z00 (xm0 (M6 (okE (gc d0)) (M6 g u00))) δ=some (V60 d0 δ r):=by
 unfold z00 xm0 M6 okE;rw[h];cases r<;>rfl
theorem Zm0(x:Str)(hz:x.length+2<=sizeLine):y50 [.str x]=some (toX (rpt (cs x))):=by
 have c1:Q9 (ob (o2 (oA (z7 (gv 0) z9) b7) (gc (.int 1)) gtD)) (Q9 (ob (j8 (gv 0) (z7 (gc (.str "'")) z9) K1)) (ob (j8 (gv 0) (z7 (gc (.str "'")) z9) w90))) [.sh (.str x)]
  =some (decide (1<(cs x).length)&&(decide ((cs x).head?=some 39)&&decide ((cs x).getLast?=some 39))):=by
  rw[← vd0,← ls0,← show ("'" : Str)=⟨#[39]⟩ by decide +kernel];refine wq0 (V4 ?_) λ_=>wq0 (V4 rfl) λ_=>V4 rfl
  rw[d9 (w80 rfl (by omega)) rfl,U7];show some (D.bl (decide ((1:Int)<(x.length:Int))))=_;congr 2;rw[decide_eq_decide];omega
 have c2:Q9 (ob (j8 (gv 0) (z7 (gc (.str "[")) z9) K1)) (ob (j8 (gv 0) (z7 (gc (.str "]")) z9) w90)) [.sh (.str x)]=some (decide ((cs x).head?=some 91)&&decide ((cs x).getLast?=some 93)):=by
  rw[← vd0,← ls0,← show ("[" : Str)=⟨#[91]⟩ by decide +kernel,← show ("]" : Str)=⟨#[93]⟩ by decide +kernel];exact wq0 (V4 rfl) λ_=>V4 rfl
 have c3:Q9 (ob (o2 (gc (.str "{")) (gv 0) inD)) (ob (j8 (gv 0) (z7 (gc (.str "}")) z9) w90)) [.sh (.str x)]=some (decide (123∈cs x)&&decide ((cs x).getLast?=some 125)):=by
  rw[← xg0,← ls0,← show ("{" : Str)=⟨#[123]⟩ by decide +kernel,← show ("}" : Str)=⟨#[125]⟩ by decide +kernel];exact wq0 (V4 rfl) λ_=>V4 rfl
 unfold rpt
 by_cases h1:1<(cs x).length/\(cs x).head?=some 39/\(cs x).getLast?=some 39
 ·rw[if_pos h1]
  rw[decide_eq_true h1.1,decide_eq_true h1.2.1,decide_eq_true h1.2.2] at c1;obtain⟨m,e,em⟩:=mq0 h1.2.1 h1.2.2 h1.1;refine y20 rfl (zrt (zok ?_));show ifD _ _ _ [.sh (.str x)]=_;rw[R8 c1];refine n8 (U3 ?_);rw[em];exact qw0 (cons_of rfl (cons_of (jf0 x e (by omega) _ _ rfl) rfl)) (by show 2<=sizeLine;decide)
 have Y:(decide (1<(cs x).length)&&(decide ((cs x).head?=some 39)&&decide ((cs x).getLast?=some 39)))=false:=by
  rw[← Bool.not_eq_true]
  simpa using h1
 rw[Y] at c1;rw[if_neg h1]
 by_cases h2:(cs x).head?=some 91/\(cs x).getLast?=some 93
 ·rw[if_pos h2]
  rw[decide_eq_true h2.1,decide_eq_true h2.2] at c2;have S:1<(cs x).length:=by
   cases e:cs x with
   | nil=>rw[e] at h2;cases h2.1
   | cons a t =>
    cases t with
    | nil =>
     rw[e] at h2;have q1:=h2.1;have q2:=h2.2;simp at q1 q2;omega
    | cons b t=>simp
  obtain⟨m,e,em⟩:=mq0 h2.1 h2.2 S;have O:(strOf m).length+2<=sizeLine:=by
   rw[m8];have:=U7 x;rw[e] at this;simp only[List.length_cons,List.length_append,List.length_nil] at this;omega
  have hi:M8 (oA (z7 (d8 (gv 0) (someO (gc (.int 1))) (someO (unG K9 (gc (.int 1))))) z9) W9) [.sh (.str x)]=some ((its (strOf m)).map .str):=by
   show (oA _ W9 [.sh (.str x)]).bind _=_;rw[X5 (cons_of (jf0 x e (by omega) _ _ rfl) rfl),yo0 _ O];rfl
  have tr:=q20 (δ:=[.sh (.str x)]) (gi:=M8 (oA (z7 (d8 (gv 0) (someO (gc (.int 1))) (someO (unG K9 (gc (.int 1))))) z9) W9)) (ge:=R0 (z7 (gv 0) z9) N5) (l:=its (strOf m)) (λa=>rv (cs a)) hi (sx0 _ O) (λa ha=>by
   have:=vs0 ha;unfold R0;exact cs0 a (by omega)) rfl
  rw[em];cases q:o5 ((its (strOf m)).map λa=>rv (cs a)) with
  | none =>
   rw[q] at tr;refine G7 (δ:=[.sh (.str x)]) rfl (zto (δ':=[.sh (.str x)]) (zok (by show ifD _ _ _ [.sh (.str x)]=_;rw[X4 c1];rfl)) (zex ?_));rw[zt c2];refine zex ?_;exact i10 tr
  | some vs =>
   rw[q] at tr;refine y20 rfl (zto (δ':=[.sh (.str x)]) (zok (by show ifD _ _ _ [.sh (.str x)]=_;rw[X4 c1];rfl)) (zrt ?_));rw[zt c2];refine zrt ?_;exact i10 tr
 have U:(decide ((cs x).head?=some 91)&&decide ((cs x).getLast?=some 93))=false:=by
  rw[← Bool.not_eq_true]
  simpa using h2
 rw[U] at c2;rw[if_neg h2]
 by_cases h3:123∈cs x/\(cs x).getLast?=some 125
 ·rw[if_pos h3]
  rw[decide_eq_true h3.1,decide_eq_true h3.2] at c3;have call:R0 (z7 (gv 0) z9) z40 [.sh (.str x)]=some (toX (rpd (cs x))):=by
   unfold R0;exact Yo0 x h3.1 h3.2 hz
  cases q:rpd (cs x) with
  | none =>
   rw[q] at call;refine G7 (δ:=[.sh (.str x)]) rfl (zto (δ':=[.sh (.str x)]) (zok (by show ifD _ _ _ [.sh (.str x)]=_;rw[X4 c1];rfl)) (zto (δ':=[.sh (.str x)]) (by rw[zf c2];rfl) (zex ?_)));rw[zt c3];refine zex ?_;unfold z00;rw[call];rfl
  | some vs =>
   rw[q] at call;refine y20 rfl (zto (δ':=[.sh (.str x)]) (zok (by show ifD _ _ _ [.sh (.str x)]=_;rw[X4 c1];rfl)) (zto (δ':=[.sh (.str x)]) (by rw[zf c2];rfl) (zrt ?_)));rw[zt c3];refine zrt ?_;unfold z00;rw[call];rfl
 have Z:(decide (123∈cs x)&&decide ((cs x).getLast?=some 125))=false:=by
  rw[← Bool.not_eq_true]
  simpa using h3
 rw[Z] at c3;rw[if_neg h3];exact G7 (δ:=[.sh (.str x)]) rfl (zto (δ':=[.sh (.str x)]) (zok (by show ifD _ _ _ [.sh (.str x)]=_;rw[X4 c1];rfl)) (zto (δ':=[.sh (.str x)]) (by rw[zf c2];rfl) (zto (δ':=[.sh (.str x)]) (by rw[zf c3];rfl) (zex rfl))))
theorem po0(x:Str)(hz:x.length+2<=sizeLine)(wb:List D->Bool)(hw:∀ps,o5 ((Txt.split x "; ").map λa=>rpt (cs a))=some ps->J5 [.tup ps]=some (.bl (wb ps))) :
  T6 [.str x]=some (toX ((o5 ((Txt.split x "; ").map λa=>rpt (cs a))).bind λps=>if wb ps=true then some (.tup ps) else none)):=by
 have tr:=q20 (δ:=[.sh (.str x),.un]) (gi:=M8 (j8 (gv 0) (z7 (gc (.str "; ")) z9) Q7)) (ge:=R0 (z7 (gv 0) z9) y50) (l:=Txt.split x "; ") (λa=>rpt (cs a))
  (by show (j8 _ _ Q7 _).bind _=_;rw[w00 rfl (by decide +kernel) hz];rfl) (vt0 x _ hz) (λa ha=>by
  have:=R1 ha;unfold R0;exact Zm0 a (by omega)) rfl
 cases q:o5 ((Txt.split x "; ").map λa=>rpt (cs a)) with
 | none =>
  rw[q] at tr;refine G7 (δ:=[.sh (.str x),.un]) rfl (zto (δ':=[.sh (.str x),.un]) rfl (zex ?_));unfold us0;rw[tr];rfl
 | some ps =>
  rw[q] at tr;have e1:T7 (ob (oA (z7 (gv 1) z9) J5)) [.sh (.str x),.sh (.tup ps)]=some (!wb ps):=t40 (by rw[X5 (ds:=[.tup ps]) rfl];exact hw ps q);show _=some (toX (if wb ps=true then some (.tup ps) else none));cases w:wb ps with
  | false =>
   rw[w] at e1;refine G7 (δ:=[.sh (.str x),.sh (.tup ps)]) rfl (zto (δ':=[.sh (.str x),.un]) rfl (zto (δ':=[.sh (.str x),.sh (.tup ps)]) (by unfold us0;rw[tr];rfl) (zex ?_)));rw[zt e1];rfl
  | true =>
   rw[w] at e1;refine y20 rfl (zto (δ':=[.sh (.str x),.un]) rfl (zto (δ':=[.sh (.str x),.sh (.tup ps)]) (by unfold us0;rw[tr];rfl) (zto (δ':=[.sh (.str x),.sh (.tup ps)]) (by rw[zf e1];rfl) (zrt rfl))))
theorem bb0(d:D)(h:isStr d=false):T6 [d]=some (.ex "NoText" none):=by
 have e1:T7 (ob (w40 isStr (gv 0))) [.sh d,.un]=some true:=by
  refine(t40 (b:=isStr d) rfl).trans ?_;rw[h];rfl
 refine G7 (δ:=[.sh d,.un]) rfl (zex ?_);show ifZ _ _ _ [.sh d,.un]=_;rw[zt e1];rfl
theorem jr0{i:Nat}(δ0:Sl->Ds)(hs:∀s d,gN i d (δ0 s)=some (δ0 (.sh d)))(ok:D->Bool)(r:D):∀(items:List D) (s:Sl),(∀d∈items,G (δ0 (.sh d))=if ok d=true then some (.nx (δ0 (.sh d))) else some (.rt r)) ->
  (items.all ok=true->∃s',T5 (gN i) G items (δ0 s)=some (.nx (δ0 s')))/\(items.all ok=false->T5 (gN i) G items (δ0 s)=some (.rt r))
 | [],s,_=>⟨λ_=>⟨s,rfl⟩,λh=>by cases h⟩
 | d::ds,s,h=>by
  have ih:=jr0 δ0 hs ok r ds (.sh d) λe he=>h e (A7 _ he)
  have hd:=h d A5;cases q:ok d with
  | true =>
   rw[q,if_pos rfl] at hd;have step:T5 (gN i) G (d::ds) (δ0 s)=T5 (gN i) G ds (δ0 (.sh d)):=M5 (hs s d) hd;rw[step];simp only[List.all_cons,q,Bool.true_and];exact ih
  | false =>
   rw[q] at hd;simp only[List.all_cons,q,Bool.false_and];refine⟨λz=>(A8 z).elim,λ_=>?_⟩;unfold T5;rw[hs s d,Option.bind_some,hd];rfl
theorem gt0(x:Str)(p:Nat->Bool)(ok:D->Bool)(h:∀c,ok (.str ⟨#[c]⟩)=p c):(signs x).all ok=(cs x).all p:=by
 unfold signs;rw[List.all_map];congr 1
 funext c
 exact h c
theorem iw0(S:Str)(r:D)(i:Nat)(δ0:Sl->Ds)(hs:∀s d,gN i d (δ0 s)=some (δ0 (.sh d)))(hg:∀d,gv i (δ0 (.sh d))=some d)(x:Str)(s:Sl) :
  ((cs x).all (λc=>decide (c∈cs S))=true->∃s',T5 (gN i) (v7 (ifD (ob (o2 (gv i) (gc (.str S)) ye0)) (v7 (o9 (gc r)) p6) p6) p6) (signs x) (δ0 s)=some (.nx (δ0 s'))) /\
  ((cs x).all (λc=>decide (c∈cs S))=false->T5 (gN i) (v7 (ifD (ob (o2 (gv i) (gc (.str S)) ye0)) (v7 (o9 (gc r)) p6) p6) p6) (signs x) (δ0 s)=some (.rt r)):=by
 have sc:=jr0 (G:=(v7 (ifD (ob (o2 (gv i) (gc (.str S)) ye0)) (v7 (o9 (gc r)) p6) p6) p6)) (i:=i) δ0 hs (λd=>match d with|.str c=>inS c S|_=>false) r (signs x) s λd hd=>by
  obtain⟨c,_,rfl⟩:=A6.mp hd;have e:ob (o2 (gv i) (gc (.str S)) ye0) (δ0 (.sh (.str ⟨#[c]⟩)))=some (!inS ⟨#[c]⟩ S):=V4 (by rw[d9 (hg _) rfl];rfl);show _=if inS ⟨#[c]⟩ S=true then _ else _
  cases q:inS (⟨#[c]⟩:Str) S with
  | true=>rw[q] at e;rw[if_pos rfl];exact p7 (δ':=δ0 (.sh (.str ⟨#[c]⟩))) (by rw[X4 e];rfl) rfl
  | false=>rw[q] at e;exact n8 (by rw[R8 e];rfl)
 have ea:(signs x).all (λd=>match d with|.str c=>inS c S|_=>false)=(cs x).all λc=>decide (c∈cs S):=gt0 x _ _ λc=>by
  show inS ⟨#[c]⟩ _=_;rw[xg0]
 rw[ea] at sc;exact sc
noncomputable def nl(l:List Nat):Option D:=if cnt l=true then some (.int (num l)) else none
theorem Z80(h:cs x=c::l)(hz:x.length<=sizeLine):ixD (.str x) (.int 0)=some (.str ⟨#[c]⟩):=by
 show (if x.length<=sizeLine then (atI (cs x) 0).map _ else none)=_;rw[if_pos hz,h,tv0 (by omega) (by simp) 0];rfl
theorem ow0(x:Str)(hz:x.length<=sizeLine):O1 [.str x]=some (oD (nl (cs x))):=by
 have e1:ob (o2 (gv 0) (gc (.str "")) eqD) [.sh (.str x),.un]=some (decide (cs x=[])):=by
  refine(V4 (b:=decide (x = "")) rfl).trans ?_;congr 1;rw[decide_eq_decide];exact⟨λh=>by rw[h];decide +kernel,λh=>ww0 (h.trans (by decide +kernel))⟩
 have e2:ob (o2 (oA (z7 (gv 0) z9) b7) (gc (.int 60)) gtD) [.sh (.str x),.un]=some (decide (60<(cs x).length)):=by
  refine(V4 (b:=decide ((60:Int)<(x.length:Int))) (by rw[d9 (w80 rfl hz) rfl];rfl)).trans ?_;congr 1;rw[decide_eq_decide,U7];omega
 have e3:cs x≠[]->Q9 (ob (o2 (o2 (gv 0) (gc (.int 0)) ixD) (gc (.str "0")) eqD)) (ob (o2 (gv 0) (gc (.str "0")) neD)) [.sh (.str x),.un]=some (decide ((cs x).head?=some 48)&&!decide (cs x=[48])):=λU=>by
  cases e:cs x with
  | nil=>exact absurd e U
  | cons c l =>
   have a1:ob (o2 (o2 (gv 0) (gc (.int 0)) ixD) (gc (.str "0")) eqD) [.sh (.str x),.un]=some (decide ((⟨#[c]⟩:Str) = "0")):=V4 (by
    rw[d9 (x:=.str ⟨#[c]⟩) (y:=.str "0") (by rw[d9 (x:=.str x) (y:=.int 0) rfl rfl];exact Z80 e hz) rfl];rfl)
   have a2:ob (o2 (gv 0) (gc (.str "0")) neD) [.sh (.str x),.un]=some (!decide (x = "0")):=V4 rfl;have b1:decide ((⟨#[c]⟩:Str) = "0")=decide ((c::l).head?=some 48):=by
    rw[wo0,show cs ("0" : Str)=[48] by decide +kernel];show decide ([c]=[48])=decide (some c=some 48)
    by_cases q:c=48<;>simp[q]
   have b2:decide (x = "0")=decide (c::l=[48]):=by rw[wo0,show cs ("0" : Str)=[48] by decide +kernel,e]
   rw[← b1,← b2];exact wq0 a1 λ_=>a2
 have cond:S5 (ob (o2 (gv 0) (gc (.str "")) eqD)) (S5 (ob (o2 (oA (z7 (gv 0) z9) b7) (gc (.int 60)) gtD)) (Q9 (ob (o2 (o2 (gv 0) (gc (.int 0)) ixD) (gc (.str "0")) eqD)) (ob (o2 (gv 0) (gc (.str "0")) neD)))) [.sh (.str x),.un]
  =some (decide (cs x=[])||(decide (60<(cs x).length)||(decide ((cs x).head?=some 48)&&!decide (cs x=[48])))) :=
  v50 e1 λh=>v50 e2 λ_=>e3 (by simpa using h)
 obtain⟨b,hb⟩:∃b,b=(decide (cs x=[])||(decide (60<(cs x).length)||(decide ((cs x).head?=some 48)&&!decide (cs x=[48])))):=⟨_,rfl⟩;rw[← hb] at cond;have cn:cnt (cs x)=(!b&&(cs x).all dig):=by
  rw[hb];unfold cnt
  by_cases a1:cs x=[]
  ·simp[a1]
  ·have S:(cs x).isEmpty=false:=by rw[List.isEmpty_eq_false_iff];exact a1
   rw[S,decide_eq_false a1]
   by_cases a2:(cs x).length<=60
   ·have O:¬60<(cs x).length:=by omega
    rw[decide_eq_true a2,decide_eq_false O]
    by_cases a3:cs x=[48]
    ·rw[decide_eq_true a3];cases (cs x).all dig<;>simp
    ·rw[decide_eq_false a3]
     by_cases a4:(cs x).head?=some 48<;>cases (cs x).all dig<;>simp[a4]
   ·have O:60<(cs x).length:=by omega
    rw[decide_eq_false a2,decide_eq_true O];simp
 cases b with
 | true =>
  have:nl (cs x)=none:=by unfold nl;rw[cn];rfl
  rw[this];exact Y5 rfl (n8 (by show ifD _ _ _ [.sh (.str x),.un]=_;rw[R8 cond];rfl))
 | false =>
  have sc:=iw0 "0123456789" .non 1 (λs=>[.sh (.str x),s]) (λ_ _=>rfl) (λ_=>rfl) x .un;have ea:((cs x).all λc=>decide (c∈cs ("0123456789" : Str)))=(cs x).all dig:=by congr 1;funext c;exact Yy0 c
  rw[ea] at sc;refine Y5 rfl (p7 (δ':=[.sh (.str x),.un]) (by show ifD _ _ _ [.sh (.str x),.un]=_;rw[X4 cond];rfl) ?_);cases hd:(cs x).all dig with
  | false =>
   have:nl (cs x)=none:=by unfold nl;rw[cn,hd];rfl
   rw[this];exact n8 (O7 (items:=signs x) rfl (sc.2 hd))
  | true =>
   have c1:cnt (cs x)=true:=by rw[cn,hd];rfl
   have:nl (cs x)=some (.int (num (cs x))):=by unfold nl;rw[if_pos c1]
   rw[this];obtain⟨s',h'⟩:=sc.1 hd;exact p7 (O7 (items:=signs x) rfl h') (n8 (U3 (by rw[X5 (ds:=[.str x]) rfl];exact ft0 c1)))
noncomputable def wj0(d:D)(many:Int):Bool:=match d with
 | .tup [_,.int n]=>decide (n<many)
 | _=>true
noncomputable def okv(l:List Nat)(many:Int):Option D:=(rv l).bind λd=>if wj0 d many=true then some d else none
theorem ra0(x:Str)(hz:x.length<=sizeLine)(δ:Ds)(g:GE)(hg:g δ=some (.str x))(c:Str)(n:Nat)(hc:c=⟨#[n]⟩):ob (o2 (d8 g Z1 (someO (gc (.int 1)))) (gc (.str c)) eqD) δ=some (decide ((cs x).head?=some n)):=by
 rw[← Z90,← hc];refine V4 ?_;rw[d9 (x:=.str (Txt.slice x none (some 1))) (y:=.str c) (by
  show (g δ).bind _=_;rw[hg];show (if x.length<=sizeLine then some (D.str (Txt.slice x none (some 1))) else none)=_;rw[if_pos hz]) rfl]
 rfl
theorem value_eq(x:Str)(many:Int)(hz:x.length<=sizeLine):∃v,O8 [.str x,.int many]=some (.tup [.bl (okv (cs x) many).isSome,v])/\∀d,okv (cs x) many=some d->v=d:=by
 have e1:ob (o2 (gv 0) (gc (.str "nil")) eqD) [.sh (.str x),.sh (.int many),.un]=some (decide (cs x=[110,105,108])):=by
  rw[← show cs ("nil" : Str)=[110,105,108] by decide +kernel,← wo0];exact V4 rfl
 have e2:=ra0 x hz [.sh (.str x),.sh (.int many),.un] (gv 0) rfl "@" 64 (by decide +kernel);have e3:∀s,ob (o2 (d8 (gv 0) Z1 (someO (gc (.int 1)))) (gc (.str "-")) eqD) [.sh (.str x),.sh (.int many),s]=some (decide ((cs x).head?=some 45)):=λs=>ra0 x hz [.sh (.str x),.sh (.int many),s] (gv 0) rfl "-" 45 (by decide +kernel)
 have e4:∀s,ob (o2 (gv 0) (gc (.str "-0")) neD) [.sh (.str x),.sh (.int many),s]=some (!decide (cs x=[45,48])):=λs=>by
  rw[← show cs ("-0" : Str)=[45,48] by decide +kernel,← wo0];exact V4 rfl
 have nm:∀s,oA (z7 (gv 0) z9) O1 [.sh (.str x),.sh (.int many),s]=some (oD (nl (cs x))):=λs=>by rw[X5 (ds:=[.str x]) rfl];exact ow0 x hz
 have nt:∀s c,(cs x).head?=some c->oA (z7 (d8 (gv 0) (someO (gc (.int 1))) Z1) z9) O1 [.sh (.str x),.sh (.int many),s]=some (oD (nl (cs x).tail)):=λs c h=>by
  obtain⟨c1,c2⟩:=rv0 x c h hz [.sh (.str x),.sh (.int many),s] (gv 0) rfl;rw[X5 (cons_of c1 rfl),ow0 _ c2,Q0]
 by_cases h1:cs x=[110,105,108]
 ·rw[decide_eq_true h1] at e1
  have q:okv (cs x) many=some .non:=by unfold okv rv;rw[if_pos h1];rfl
  rw[q];exact⟨.non,Y5 rfl (n8 (by show ifD _ _ _ [.sh (.str x),.sh (.int many),.un]=_;rw[R8 e1];rfl)),λd h=>B2 h⟩
 rw[decide_eq_false h1] at e1;have s1:ifD (ob (o2 (gv 0) (gc (.str "nil")) eqD)) (v7 (o9 (W5 (z7 (gc (.bl true)) (z7 (gc .non) z9)))) p6) p6 [.sh (.str x),.sh (.int many),.un]=some (.nx [.sh (.str x),.sh (.int many),.un]):=by rw[X4 e1];rfl
 by_cases h2:(cs x).head?=some 64
 ·rw[decide_eq_true h2] at e2
  have n2:=nt .un 64 h2;have rq:rv (cs x)=if cnt (cs x).tail=true then some (.tup [.str "at",.int (num (cs x).tail)]) else none:=by unfold rv;rw[if_neg h1,if_pos h2]
  cases hc:cnt (cs x).tail with
  | false =>
   have q:okv (cs x) many=none:=by unfold okv;rw[rq,hc];rfl
   have qn:nl (cs x).tail=none:=by unfold nl;rw[hc];rfl
   rw[qn] at n2;rw[q];refine⟨.tup [.str "at",.non],Y5 rfl (p7 s1 (n8 ?_)),λd h=>by cases h⟩;rw[R8 e2];exact p7 (b8 n2) (n8 rfl)
  | true =>
   have qn:nl (cs x).tail=some (.int (num (cs x).tail)):=by unfold nl;rw[hc];rfl
   rw[qn] at n2;have q:okv (cs x) many=if decide (num (cs x).tail<many)=true then some (.tup [.str "at",.int (num (cs x).tail)]) else none:=by unfold okv;rw[rq,hc];rfl
   have qs:(okv (cs x) many).isSome=decide (num (cs x).tail<many):=by
    rw[q];cases decide (num (cs x).tail<many)<;>rfl
   rw[qs];refine⟨.tup [.str "at",.int (num (cs x).tail)],Y5 rfl (p7 s1 (n8 ?_)),λd h=>?_⟩
   ·rw[R8 e2]
    exact p7 (b8 n2) (n8 rfl)
   ·rw[q] at h
    split at h
    ·exact B2 h
    ·cases h
 rw[decide_eq_false h2] at e2;have O:∀(o:Option D) (s:Sl),s=.sh (oD o)->okv (cs x) many=o->(∀d,o=some d->d≠.non)->∃v,o9 (W5 (z7 (o2 (gv 2) (gc .non) qx0) (z7 (gv 2) z9))) [.sh (.str x),.sh (.int many),s]=some (.rt (.tup [.bl (okv (cs x) many).isSome,v]))/\∀d,okv (cs x) many=some d->v=d:=λo s hs ho hd=>by
  subst hs;refine⟨oD o,?_,λd h=>by rw[ho] at h;rw[h];rfl⟩;rw[ho];cases o with
  | none=>rfl
  | some d=>cases d<;>first|rfl|exact absurd rfl (hd _ rfl)
 by_cases h3:(cs x).head?=some 45/\cs x≠[45,48]
 ·have a:Q9 (ob (o2 (d8 (gv 0) Z1 (someO (gc (.int 1)))) (gc (.str "-")) eqD)) (ob (o2 (gv 0) (gc (.str "-0")) neD)) [.sh (.str x),.sh (.int many),.sh (oD (nl (cs x)))]=some true:=by
   refine(wq0 (e3 _) λ_=>e4 _).trans ?_;rw[decide_eq_true h3.1,decide_eq_false h3.2];rfl
  have n2:=nt (.sh (oD (nl (cs x)))) 45 h3.1;have rq:okv (cs x) many=if cnt (cs x).tail=true then some (.int (-num (cs x).tail)) else none:=by
   unfold okv rv;rw[if_neg h1,if_neg h2,if_neg h3.2,if_pos h3.1];cases cnt (cs x).tail<;>rfl
  cases hc:cnt (cs x).tail with
  | false =>
   rw[hc] at rq;have qn:nl (cs x).tail=none:=by unfold nl;rw[hc];rfl
   rw[qn] at n2;obtain⟨v,w1,w2⟩:=O none (.sh .non) rfl rq (λd h=>by cases h);refine⟨v,Y5 rfl (p7 s1 (p7 (δ':=[.sh (.str x),.sh (.int many),.un]) (by rw[X4 e2];rfl) (p7 (b8 (nm _)) (p7 (δ':=[.sh (.str x),.sh (.int many),.sh .non]) ?_ (n8 w1))))),w2⟩;show ifD _ _ _ [.sh (.str x),.sh (.int many),.sh (oD (nl (cs x)))]=_;rw[R8 a];exact p7 (b8 n2) (p7 (δ':=[.sh (.str x),.sh (.int many),.sh .non]) rfl rfl)
  | true =>
   rw[hc] at rq;have qn:nl (cs x).tail=some (.int (num (cs x).tail)):=by unfold nl;rw[hc];rfl
   rw[qn] at n2;obtain⟨v,w1,w2⟩:=O (some (.int (-num (cs x).tail))) (.sh (.int (0 - num (cs x).tail))) (by rw[Int.zero_sub];rfl) rq (λd h=>by cases h;exact λz=>by cases z);refine⟨v,Y5 rfl (p7 s1 (p7 (δ':=[.sh (.str x),.sh (.int many),.un]) (by rw[X4 e2];rfl) (p7 (b8 (nm _)) (p7 (δ':=[.sh (.str x),.sh (.int many),.sh (.int (0 - num (cs x).tail))]) ?_ (n8 w1))))),w2⟩;show ifD _ _ _ [.sh (.str x),.sh (.int many),.sh (oD (nl (cs x)))]=_;rw[R8 a];exact p7 (b8 n2) (p7 (δ':=[.sh (.str x),.sh (.int many),.sh (.int (0 - num (cs x).tail))]) rfl rfl)
 ·have a:Q9 (ob (o2 (d8 (gv 0) Z1 (someO (gc (.int 1)))) (gc (.str "-")) eqD)) (ob (o2 (gv 0) (gc (.str "-0")) neD)) [.sh (.str x),.sh (.int many),.sh (oD (nl (cs x)))]=some false:=by
   refine(wq0 (e3 _) λ_=>e4 _).trans ?_;congr 1;rw[← Bool.not_eq_true]
   simpa using h3
  have rq:okv (cs x) many=nl (cs x):=by
   unfold okv rv nl;rw[if_neg h1,if_neg h2]
   by_cases h4:cs x=[45,48]
   ·rw[if_pos h4,h4];rfl
   ·rw[if_neg h4,if_neg (λz=>h3 ⟨z,h4⟩)]
    cases cnt (cs x)<;>rfl
  obtain⟨v,w1,w2⟩:=O (nl (cs x)) (.sh (oD (nl (cs x)))) rfl rq (λd h=>by
   unfold nl at h;split at h
   ·cases h;exact λz=>by cases z
   ·cases h)
  exact⟨v,Y5 rfl (p7 s1 (p7 (δ':=[.sh (.str x),.sh (.int many),.un]) (by rw[X4 e2];rfl) (p7 (b8 (nm _)) (p7 (δ':=[.sh (.str x),.sh (.int many),.sh (oD (nl (cs x)))]) (by show ifD _ _ _ [.sh (.str x),.sh (.int many),.sh (oD (nl (cs x)))]=_;rw[X4 a];rfl) (n8 w1))))),w2⟩
theorem ib0(c:Nat):decide (c∈cs ("abcdefghijklmnopqrstuvwxyz0123456789" : Str))=decide (c∈cs nameS):=by
 have h1:∀c∈cs ("abcdefghijklmnopqrstuvwxyz0123456789" : Str),c∈cs nameS:=by decide +kernel
 have h2:∀c∈cs nameS,c∈cs ("abcdefghijklmnopqrstuvwxyz0123456789" : Str):=by decide +kernel
 rw[decide_eq_decide];exact⟨h1 c,h2 c⟩
theorem oo0(x:Str)(hz:x.length<=sizeLine):V5 [.str x]=some (.bl (isName x)):=by
 have sc:=iw0 "abcdefghijklmnopqrstuvwxyz0123456789" (.bl false) 1 (λs=>[.sh (.str x),s]) (λ_ _=>rfl) (λ_=>rfl) x .un;have ea:((cs x).all λc=>decide (c∈cs ("abcdefghijklmnopqrstuvwxyz0123456789" : Str)))=hasAll x nameS:=by
  unfold hasAll;congr 1
  funext c
  exact ib0 c
 rw[ea] at sc;cases h:hasAll x nameS with
 | false =>
  have:isName x=false:=by unfold isName;rw[h];simp
  rw[this];exact Y5 rfl (n8 (O7 (items:=signs x) rfl (sc.2 h)))
 | true =>
  obtain⟨s',h'⟩:=sc.1 h;refine Y5 rfl (p7 (O7 (items:=signs x) rfl h') (n8 (U3 ?_)));have hl:oA (z7 (gv 0) z9) b7 [.sh (.str x),s']=some (.int (x.length:Int)):=w80 rfl hz;unfold tn0;rw[hl];show (if decide ((1:Int)<=(x.length:Int))=true then some (D.bl (decide ((x.length:Int)<=8))) else some (D.bl false))=_;unfold isName;rw[h]
  by_cases a:(1:Int)<=(x.length:Int)
  ·rw[decide_eq_true a]
   have a':(0:Int)<(x.length:Int):=by omega
   rw[decide_eq_true a',Bool.and_true,Bool.and_true];rfl
  ·rw[decide_eq_false a]
   have a':¬(0:Int)<(x.length:Int):=by omega
   rw[decide_eq_false a',Bool.and_false];rfl
noncomputable def zx0(named:Bool)(many:Int)(acc:List (Str×D))(a:Str):Option (List (Str×D)) :=
 if named=true then
  (if 61∈cs a then (okv (W0 61 (cs a)) many).bind λv=>if isName (strOf (m5 61 (cs a)))=true/\strOf (m5 61 (cs a))∉acc.map (·.1) then some (acc++[(strOf (m5 61 (cs a)),v)]) else none else none)
 else (okv (cs a) many).map λv=>acc++[(("" : Str),v)]
noncomputable def G9(named:Bool)(many:Int):List Str->List (Str×D)->Option (List (Str×D))
 | [],acc=>some acc
 | a::r,acc=>(zx0 named many acc a).bind (G9 named many r)
abbrev t80:GS:=(v7 (j9 (gN 6) (gc (.str "")))
 (v7 (ifD (ob (gv 2))
 (v7 (ifD (ob (o2 (gc (.str "=")) (gv 5) ye0))
 (v7 (o9 (gc .non))
 p6)
 p6)
 (v7 (j9 (gN 6) (d8 (gv 5) Z1 (someO (j8 (gv 5) (z7 (gc (.str "=")) z9) R4))))
 (v7 (j9 (gN 5) (d8 (gv 5) (someO (o2 (j8 (gv 5) (z7 (gc (.str "=")) z9) R4) (gc (.int 1)) o8)) Z1))
 p6)))
 p6)
 (v7 (uz0 (ws0 (oA (z7 (gv 5) (z7 (gv 1) z9)) O8)) (vx0 7 8))
 (v7 (ifD (S5 (T7 (ob (gv 7))) (Q9 (ob (gv 2)) (S5 (T7 (ob (oA (z7 (gv 6) z9) V5))) (pl0 (ob (o2 (gv 6) (Y9 1 [] (M8 (gv 3)) (gN 0) noT (o2 (gv 0) (gc (.int 0)) ixD)) (vl0 false)))))))
 (v7 (o9 (gc .non))
 p6)
 p6)
 (v7 (zk0 (wk0 3 (W5 (z7 (gv 6) (z7 (gv 8) z9)))))
 p6)))))
abbrev st(X:Sl)(many:Int)(named:Bool)(acc:List (Str×D))(B s5 s6 s7 s8:Sl):Ds:=[X,.sh (.int many),.sh (.bl named),.ow (.lst (acc.map pr)),B,s5,s6,s7,s8]
theorem d10(acc:List (Str×D))(n:Str)(hz:acc.length<=sizeLine)(X:Sl)(many:Int)(named:Bool)(B s5 s7 s8:Sl) :
  pl0 (ob (o2 (gv 6) (Y9 1 [] (M8 (gv 3)) (gN 0) noT (o2 (gv 0) (gc (.int 0)) ixD)) (vl0 false))) (st X many named acc B s5 (.sh (.str n)) s7 s8)=some (decide (n∈acc.map (·.1))):=by
 show ob _ (frz _)=_;refine V4 ?_;have cm:Y9 1 [] (M8 (gv 3)) (gN 0) noT (o2 (gv 0) (gc (.int 0)) ixD) (frz (st X many named acc B s5 (.sh (.str n)) s7 s8))=some (.lst ((acc.map (·.1)).map .str)):=J7 (items:=acc.map pr) rfl (by rw[List.length_map];exact hz) (by
  have:=M7 (f:=gN 0) (gt:=noT) (ge:=o2 (gv 0) (gc (.int 0)) ixD) (δ:=[.un]) (λd=>match d with|.tup [s,_]=>s|_=>.non) (items:=acc.map pr) (λd hd=>by
   obtain⟨p,_,rfl⟩:=A6.mp hd;exact⟨[.sh (pr p)],rfl,rfl,rfl⟩)
  refine this.trans ?_;rw[List.map_map,List.map_map];rfl)
 rw[d9 (x:=.str n) (y:=.lst ((acc.map (·.1)).map .str)) rfl cm];show (if _/\_ then some (D.bl (xor false _)) else none)=_;rw[if_pos ⟨rfl,by rw[List.all_map];exact K0.mpr λ_ _=>rfl⟩];congr 2;rw[Bool.false_xor,List.any_map];rw[Bool.eq_iff_iff,List.any_eq_true,decide_eq_true_eq];constructor
 ·rintro⟨y,hy,e⟩
  have e':decide (y=n)=true:=e;rw[decide_eq_true_eq] at e';rw[← e'];exact hy
 ·intro h
  exact⟨n,h,E4 rfl⟩
theorem go0(h:61∈cs a)(hg:g δ=some (.str a)):j8 g (z7 (gc (.str "=")) z9) R4 δ=some (.int ((m5 61 (cs a)).length:Int)):=by
 rw[sq0 hg (ds:=[.str "="]) rfl,show ("=" : Str)=⟨#[61]⟩ by decide +kernel];obtain⟨e,n⟩:=u40 61 (cs a) h;obtain⟨r',hr⟩:=b00 (m5 61 (cs a)) (W0 61 (cs a)) 61 n;rw[← e,M4] at hr;unfold R4;simp only[hr]
theorem ah0(X:Sl)(many:Int)(named:Bool)(acc:List (Str×D))(B s6 s7 s8:Sl)(a:Str)(hz:a.length<=sizeLine)(hac:acc.length<sizeLine) :
  (zx0 named many acc a=none->t80 (st X many named acc B (.sh (.str a)) s6 s7 s8)=some (.rt .non)) /\
  (∀acc',zx0 named many acc a=some acc'->∃t5 t6 t7 t8,t80 (st X many named acc B (.sh (.str a)) s6 s7 s8)=some (.nx (st X many named acc' B t5 t6 t7 t8))):=by
 have tail:∀(b n:Str),b.length<=sizeLine->n.length<=sizeLine->∀s7 s8,
   let G:GS:=(v7 (uz0 (ws0 (oA (z7 (gv 5) (z7 (gv 1) z9)) O8)) (vx0 7 8))
    (v7 (ifD (S5 (T7 (ob (gv 7))) (Q9 (ob (gv 2)) (S5 (T7 (ob (oA (z7 (gv 6) z9) V5))) (pl0 (ob (o2 (gv 6) (Y9 1 [] (M8 (gv 3)) (gN 0) noT (o2 (gv 0) (gc (.int 0)) ixD)) (vl0 false)))))))
    (v7 (o9 (gc .non)) p6) p6)
    (v7 (zk0 (wk0 3 (W5 (z7 (gv 6) (z7 (gv 8) z9))))) p6)))
   let o:=(okv (cs b) many).bind λv=>if named=true->(isName n=true/\n∉acc.map (·.1)) then some (acc++[(n,v)]) else none
   (o=none->G (st X many named acc B (.sh (.str b)) (.sh (.str n)) s7 s8)=some (.rt .non)) /\
   (∀acc',o=some acc'->∃t7 t8,G (st X many named acc B (.sh (.str b)) (.sh (.str n)) s7 s8)=some (.nx (st X many named acc' B (.sh (.str b)) (.sh (.str n)) t7 t8))):=by
  intro b n hb hn s7 s8 G o;obtain⟨v,hv,hd⟩:=value_eq b many hb;have a1:uz0 (ws0 (oA (z7 (gv 5) (z7 (gv 1) z9)) O8)) (vx0 7 8) (st X many named acc B (.sh (.str b)) (.sh (.str n)) s7 s8)=some (.nx (st X many named acc B (.sh (.str b)) (.sh (.str n)) (.sh (.bl (okv (cs b) many).isSome)) (.sh v))):=by
   show ((oA (z7 (gv 5) (z7 (gv 1) z9)) O8 (st X many named acc B (.sh (.str b)) (.sh (.str n)) s7 s8)).map _).bind _=_;rw[X5 (ds:=[.str b,.int many]) rfl,hv];rfl
  have c1:S5 (T7 (ob (gv 7))) (Q9 (ob (gv 2)) (S5 (T7 (ob (oA (z7 (gv 6) z9) V5))) (pl0 (ob (o2 (gv 6) (Y9 1 [] (M8 (gv 3)) (gN 0) noT (o2 (gv 0) (gc (.int 0)) ixD)) (vl0 false)))))) (st X many named acc B (.sh (.str b)) (.sh (.str n)) (.sh (.bl (okv (cs b) many).isSome)) (.sh v))
   =some (!(okv (cs b) many).isSome||(named&&(!isName n||decide (n∈acc.map (·.1))))) :=
   v50 (t40 rfl) λ_=>wq0 (V4 rfl) λ_=>v50 (t40 (by rw[X5 (ds:=[.str n]) rfl];exact oo0 n hn)) λ_=>d10 acc n (by omega) X many named B _ _ _
  have ap:zk0 (wk0 3 (W5 (z7 (gv 6) (z7 (gv 8) z9)))) (st X many named acc B (.sh (.str b)) (.sh (.str n)) (.sh (.bl (okv (cs b) many).isSome)) (.sh v))=some (.nx (st X many named (acc++[(n,v)]) B (.sh (.str b)) (.sh (.str n)) (.sh (.bl (okv (cs b) many).isSome)) (.sh v))):=by
   show ((if (acc.map pr).length<sizeLine then some (D.non,_) else none).map _)=_;rw[if_pos (by rw[List.length_map];exact hac)];show some (Res.nx [_,_,_,.ow (.lst (acc.map pr++[.tup [.str n,v]])),_,_,_,_,_])=_;rw[show acc.map pr++[D.tup [.str n,v]]=(acc++[(n,v)]).map pr by rw[List.map_append];rfl]
  have O:o.isSome=!(!(okv (cs b) many).isSome||(named&&(!isName n||decide (n∈acc.map (·.1))))):=by
   show ((okv (cs b) many).bind _).isSome=_;cases okv (cs b) many with
   | none=>rfl
   | some d =>
    cases named with
    | false=>simp
    | true =>
     by_cases p1:isName n=true
     ·by_cases p2:n∈acc.map (·.1)
      ·simp[p1,p2]
      ·simp[p1,p2]
     ·simp[p1]
  refine⟨λho=>?_,λacc' ho=>?_⟩
  ·rw[ho] at O
   have:(!(okv (cs b) many).isSome||(named&&(!isName n||decide (n∈acc.map (·.1)))))=true:=by
    cases q:(!(okv (cs b) many).isSome||(named&&(!isName n||decide (n∈acc.map (·.1)))))
    ·rw[q] at O;cases O
    ·rfl
   rw[this] at c1;exact p7 a1 (n8 (by rw[R8 c1];rfl))
  ·rw[ho] at O
   have:(!(okv (cs b) many).isSome||(named&&(!isName n||decide (n∈acc.map (·.1)))))=false:=by
    cases q:(!(okv (cs b) many).isSome||(named&&(!isName n||decide (n∈acc.map (·.1)))))
    ·rfl
    ·rw[q] at O;cases O
   rw[this] at c1;have ev:acc'=acc++[(n,v)]:=by
    have h:(okv (cs b) many).bind (λv=>if named=true->(isName n=true/\n∉acc.map (·.1)) then some (acc++[(n,v)]) else none)=some acc':=ho;cases q:okv (cs b) many with
    | none=>rw[q] at h;cases h
    | some d =>
     rw[q,Option.bind_some] at h;split at h
     ·rw[hd d q];exact(B2 h).symm
     ·cases h
   rw[ev];exact⟨_,_,p7 a1 (p7 (by rw[X4 c1];rfl) (p7 ap rfl))⟩
 cases named with
 | false =>
  obtain⟨t1,t2⟩:=tail a "" hz (C3 _) s7 s8;have s:zx0 false many acc a=(okv (cs a) many).bind λv=>if (false=true->(isName ""=true/\("" : Str)∉acc.map (·.1))) then some (acc++[(("" : Str),v)]) else none:=by
   unfold zx0;rw[if_neg (by decide)];cases okv (cs a) many<;>simp
  rw[s];refine⟨λh=>p7 (b8 rfl) (p7 (δ':=st X many false acc B (.sh (.str a)) (.sh (.str "")) s7 s8) rfl (t1 h)),λacc' h=>?_⟩;obtain⟨u7,u8,e⟩:=t2 acc' h;exact⟨_,_,_,_,p7 (b8 rfl) (p7 (δ':=st X many false acc B (.sh (.str a)) (.sh (.str "")) s7 s8) rfl e)⟩
 | true =>
  have c1:ob (o2 (gc (.str "=")) (gv 5) ye0) (st X many true acc B (.sh (.str a)) (.sh (.str "")) s7 s8)=some (!decide (61∈cs a)):=by
   rw[← xg0,← show ("=" : Str)=⟨#[61]⟩ by decide +kernel];exact V4 rfl
  by_cases h:61∈cs a
  ·rw[decide_eq_true h] at c1
   have hA:=ux0 61 (cs a);have hB:=t20 61 (cs a);obtain⟨e0,_⟩:=u40 61 (cs a) h;have S:(cs a).length=(m5 61 (cs a)).length+1+(W0 61 (cs a)).length:=by
    have:=B7 List.length e0;rw[List.length_append,List.length_cons] at this;omega
   have ta:(cs a).take (m5 61 (cs a)).length=m5 61 (cs a):=by
    have:=B7 (List.take (m5 61 (cs a)).length) e0;rw[this,List.take_left]
   have td:(cs a).drop ((m5 61 (cs a)).length+1)=W0 61 (cs a):=by
    have:=B7 (List.drop ((m5 61 (cs a)).length+1)) e0;rw[this,← List.drop_drop,List.drop_left];rfl
   obtain⟨t1,t2⟩:=tail (strOf (W0 61 (cs a))) (strOf (m5 61 (cs a))) (by rw[m8];rw[U7] at hB;omega) (by rw[m8];rw[U7] at hA;omega) s7 s8;rw[Q0] at t1 t2;have s:zx0 true many acc a=(okv (W0 61 (cs a)) many).bind λv=>if (true=true->(isName (strOf (m5 61 (cs a)))=true/\strOf (m5 61 (cs a))∉acc.map (·.1))) then some (acc++[(strOf (m5 61 (cs a)),v)]) else none:=by
    unfold zx0;rw[if_pos rfl,if_pos h];congr 1
    funext v
    by_cases z:isName (strOf (m5 61 (cs a)))=true/\strOf (m5 61 (cs a))∉acc.map (·.1)
    ·rw[if_pos z,if_pos λ_=>z]
    ·rw[if_neg z,if_neg λw=>z (w rfl)]
   rw[s];have w1:j9 (gN 6) (d8 (gv 5) Z1 (someO (j8 (gv 5) (z7 (gc (.str "=")) z9) R4))) (st X many true acc B (.sh (.str a)) (.sh (.str "")) s7 s8)=some (.nx (st X many true acc B (.sh (.str a)) (.sh (.str (strOf (m5 61 (cs a))))) s7 s8)):=by
    refine b8 ?_;show (some (D.str a)).bind (λd=>(some none).bind λl=>((j8 (gv 5) (z7 (gc (.str "=")) z9) R4 (st X many true acc B (.sh (.str a)) (.sh (.str "")) s7 s8)).bind λd=>(asI d).map some).bind λh=>slA d l h)=_;rw[go0 h rfl];show (if a.length<=sizeLine then some (D.str (Txt.slice a none (some ((m5 61 (cs a)).length:Int)))) else none)=_;rw[if_pos hz,qf0 a _ hA,ta]
   have w2:j9 (gN 5) (d8 (gv 5) (someO (o2 (j8 (gv 5) (z7 (gc (.str "=")) z9) R4) (gc (.int 1)) o8)) Z1) (st X many true acc B (.sh (.str a)) (.sh (.str (strOf (m5 61 (cs a))))) s7 s8)=some (.nx (st X many true acc B (.sh (.str (strOf (W0 61 (cs a))))) (.sh (.str (strOf (m5 61 (cs a))))) s7 s8)):=by
    refine b8 ?_;show (some (D.str a)).bind (λd=>((o2 (j8 (gv 5) (z7 (gc (.str "=")) z9) R4) (gc (.int 1)) o8 (st X many true acc B (.sh (.str a)) (.sh (.str (strOf (m5 61 (cs a))))) s7 s8)).bind λd=>(asI d).map some).bind λl=>(some none).bind λh=>slA d l h)=_;rw[d9 (go0 h rfl) rfl];show (if a.length<=sizeLine then some (D.str (Txt.slice a (some (((m5 61 (cs a)).length:Int)+1)) none)) else none)=_;rw[if_pos hz,show (((m5 61 (cs a)).length:Int)+1)=(((m5 61 (cs a)).length+1:Nat):Int) by omega,sw0 a _ (by omega),td]
   have w:ifD (ob (gv 2)) (v7 (ifD (ob (o2 (gc (.str "=")) (gv 5) ye0)) (v7 (o9 (gc .non)) p6) p6)
     (v7 (j9 (gN 6) (d8 (gv 5) Z1 (someO (j8 (gv 5) (z7 (gc (.str "=")) z9) R4))))
     (v7 (j9 (gN 5) (d8 (gv 5) (someO (o2 (j8 (gv 5) (z7 (gc (.str "=")) z9) R4) (gc (.int 1)) o8)) Z1)) p6))) p6 (st X many true acc B (.sh (.str a)) (.sh (.str "")) s7 s8)
    =some (.nx (st X many true acc B (.sh (.str (strOf (W0 61 (cs a))))) (.sh (.str (strOf (m5 61 (cs a))))) s7 s8)):=by
    rw[R8 rfl];exact p7 (by rw[X4 c1];rfl) (p7 w1 (p7 w2 rfl))
   refine⟨λq=>p7 (b8 rfl) (p7 w (t1 q)),λacc' q=>?_⟩;obtain⟨u7,u8,e⟩:=t2 acc' q;exact⟨_,_,_,_,p7 (b8 rfl) (p7 w e)⟩
  ·rw[decide_eq_false h] at c1
   have s:zx0 true many acc a=none:=by unfold zx0;rw[if_pos rfl,if_neg h]
   rw[s];refine⟨λ_=>p7 (b8 rfl) (n8 ?_),λacc' q=>by cases q⟩;show ifD (ob (gv 2)) _ _ (st X many true acc B (.sh (.str a)) (.sh (.str "")) s7 s8)=_;rw[R8 rfl];exact n8 (by rw[R8 c1];rfl)
theorem ej0{named:Bool}{acc acc':List (Str×D)}(h:zx0 named many acc a=some acc'):acc'.length=acc.length+1:=by
 unfold zx0 at h;split at h
 ·split at h
  ·cases q:okv (W0 61 (cs a)) many with
   | none=>rw[q] at h;cases h
   | some v =>
    rw[q,Option.bind_some] at h;split at h
    ·cases h;simp
    ·cases h
  ·cases h
 ·cases q:okv (cs a) many with
  | none=>rw[q] at h;cases h
  | some v=>rw[q] at h;cases h;simp
theorem jy0(X:Sl)(many:Int)(named:Bool)(B:Sl):∀(items:List Str) (acc:List (Str×D)) (s5 s6 s7 s8:Sl),(∀a∈items,a.length<=sizeLine)->acc.length+items.length<=sizeLine ->
  (G9 named many items acc=none->T5 (gN 5) t80 (items.map .str) (st X many named acc B s5 s6 s7 s8)=some (.rt .non)) /\
  (∀acc',G9 named many items acc=some acc'->∃t5 t6 t7 t8,T5 (gN 5) t80 (items.map .str) (st X many named acc B s5 s6 s7 s8)=some (.nx (st X many named acc' B t5 t6 t7 t8)))
 | [],acc,s5,s6,s7,s8,_,_=>⟨(λh=>by cases h),(λacc' h=>by cases h;exact⟨s5,s6,s7,s8,rfl⟩)⟩
 | a::r,acc,s5,s6,s7,s8,hz,hl=>by
  simp only[List.length_cons] at hl;obtain⟨b1,b2⟩:=ah0 X many named acc B s6 s7 s8 a (hz a A5) (by omega);cases q:zx0 named many acc a with
  | none =>
   have:G9 named many (a::r) acc=none:=by unfold G9;rw[q];rfl
   rw[this];refine⟨λ_=>?_,(λacc' h=>by cases h)⟩;show T5 (gN 5) t80 (.str a::r.map .str) _=_;unfold T5;rw[show gN 5 (.str a) (st X many named acc B s5 s6 s7 s8)=some (st X many named acc B (.sh (.str a)) s6 s7 s8) from rfl,Option.bind_some,b1 q]
  | some acc1 =>
   obtain⟨u5,u6,u7,u8,e⟩:=b2 acc1 q;have ef:G9 named many (a::r) acc=G9 named many r acc1:=by
    show (zx0 named many acc a).bind _=_;rw[q];rfl
   rw[ef];have hs:T5 (gN 5) t80 ((a::r).map .str) (st X many named acc B s5 s6 s7 s8)=T5 (gN 5) t80 (r.map .str) (st X many named acc1 B u5 u6 u7 u8):=M5 (δ1:=st X many named acc B (.sh (.str a)) s6 s7 s8) rfl e;rw[hs];exact jy0 X many named B r acc1 u5 u6 u7 u8 (λb hb=>hz b (A7 _ hb)) (by rw[ej0 q];omega)
noncomputable def lst(x:Str)(many:Int)(named:Bool):Option (List (Str×D)):=(G9 named many (its x) []).bind λacc=>if acc.length<=12 then some acc else none
noncomputable def tups(o:Option (List (Str×D))):Option D:=o.map λacc=>.tup (acc.map pr)
theorem list_eq(x:Str)(many:Int)(named:Bool)(hz:x.length+2<=sizeLine):K4 [.str x,.int many,.bl named]=some (oD (tups (lst x many named))):=by
 have e1:∀s3 s4 s5 s6 s7 s8,ob (o2 (gv 0) (gc (.str "")) eqD) [.sh (.str x),.sh (.int many),.sh (.bl named),s3,s4,s5,s6,s7,s8]=some (decide (cs x=[])):=λ_ _ _ _ _ _=>by
  refine(V4 (b:=decide (x = "")) rfl).trans ?_;congr 1;rw[decide_eq_decide];exact⟨λh=>by rw[h];decide +kernel,λh=>ww0 (h.trans (by decide +kernel))⟩
 have pre:∀(G:GS) (r:Option Res),G (st (.sh (.str x)) many named [] (.sh (.lst ((its x).map .str))) .un .un .un .un)=r ->
   v7 (vi0 3 (j4 z9)) (v7 (j9 (gN 4) (j8 (gv 0) (z7 (gc (.str ", ")) z9) Q7)) (v7 (ifD (ob (o2 (gv 0) (gc (.str "")) eqD)) (v7 (j9 (gN 4) (j4 z9)) p6) p6) G)) [.sh (.str x),.sh (.int many),.sh (.bl named),.un,.un,.un,.un,.un,.un]=r:=λG r h=>by
  refine p7 (δ':=[.sh (.str x),.sh (.int many),.sh (.bl named),.ow (.lst []),.un,.un,.un,.un,.un]) rfl (p7 (b8 (w00 rfl (by decide +kernel) hz)) ?_)
  by_cases q:cs x=[]
  ·refine p7 (δ':=st (.sh (.str x)) many named [] (.sh (.lst ((its x).map .str))) .un .un .un .un) ?_ h
   have:=e1 (.ow (.lst [])) (.sh (.lst ((Txt.split x ", ").map .str))) .un .un .un .un;rw[decide_eq_true q] at this;show ifD _ _ _ [.sh (.str x),.sh (.int many),.sh (.bl named),.ow (.lst []),.sh (.lst ((Txt.split x ", ").map .str)),.un,.un,.un,.un]=_;rw[R8 this];unfold its;rw[if_pos q];rfl
  ·refine p7 (δ':=st (.sh (.str x)) many named [] (.sh (.lst ((its x).map .str))) .un .un .un .un) ?_ h
   have:=e1 (.ow (.lst [])) (.sh (.lst ((Txt.split x ", ").map .str))) .un .un .un .un;rw[decide_eq_false q] at this;show ifD _ _ _ [.sh (.str x),.sh (.int many),.sh (.bl named),.ow (.lst []),.sh (.lst ((Txt.split x ", ").map .str)),.un,.un,.un,.un]=_;rw[X4 this];unfold its;rw[if_neg q];rfl
 obtain⟨l1,l2⟩:=jy0 (.sh (.str x)) many named (.sh (.lst ((its x).map .str))) (its x) [] .un .un .un .un (λa ha=>by have:=vs0 ha;omega) (by have:=sx0 x hz;simp only[List.length_nil];omega);refine Y5 rfl (pre _ _ ?_);unfold lst;cases q:G9 named many (its x) [] with
 | none=>exact n8 (O7 (items:=(its x).map .str) rfl (l1 q))
 | some acc =>
  obtain⟨t5,t6,t7,t8,e⟩:=l2 acc q;refine p7 (O7 (items:=(its x).map .str) rfl e) (n8 (U3 ?_));show (o2 (j4 (z7 (oA (z7 (gv 3) z9) zz0) (z7 (gc .non) z9))) (oA (z7 (o2 (oA (z7 (gv 3) z9) b7) (gc (.int 12)) gtD) z9) intOfD) ixD) (frz (st (.sh (.str x)) many named acc (.sh (.lst ((its x).map .str))) t5 t6 t7 t8))=_;have b1:j4 (z7 (oA (z7 (gv 3) z9) zz0) (z7 (gc .non) z9)) (frz (st (.sh (.str x)) many named acc (.sh (.lst ((its x).map .str))) t5 t6 t7 t8))=some (.lst [.tup (acc.map pr),.non]):=rfl;have b2:oA (z7 (o2 (oA (z7 (gv 3) z9) b7) (gc (.int 12)) gtD) z9) intOfD (frz (st (.sh (.str x)) many named acc (.sh (.lst ((its x).map .str))) t5 t6 t7 t8))=intOfD [.bl (decide ((12:Int)<((acc.map pr).length:Int)))]:=rfl
  by_cases h:acc.length<=12
  ·have hn:¬(12:Int)<((acc.map pr).length:Int):=by rw[List.length_map];omega
   rw[decide_eq_false hn] at b2;rw[d9 b1 b2];show some (D.tup (acc.map pr))=some (oD (tups (if acc.length<=12 then some acc else none)));rw[if_pos h];rfl
  ·have hn:(12:Int)<((acc.map pr).length:Int):=by rw[List.length_map];omega
   rw[decide_eq_true hn] at b2;rw[d9 b1 b2];show some D.non=some (oD (tups (if acc.length<=12 then some acc else none)));rw[if_neg h];rfl
noncomputable def lpt(l:List Nat)(many:Int):Option D :=
 if l.head?=some 39 then (if 1<l.length/\l.getLast?=some 39/\isWord (strOf l.tail.dropLast)=true then some (.tup [.str "text",.str (strOf l.tail.dropLast)]) else none)
 else if l.head?=some 91 then (if l.getLast?=some 93 then (lst (strOf l.tail.dropLast) many false).map λacc=>.tup [.str "row",.tup (acc.map (·.2))] else none)
 else if 123∈l/\l.getLast?=some 125 then
  (lst (strOf (W0 123 l).dropLast) many true).bind λacc=>if m5 123 l=[] then some (.tup [.str "table",.tup (acc.map pr)])
   else if isName (strOf (m5 123 l))=true then some (.tup [.str "record",.str (strOf (m5 123 l)),.tup (acc.map pr)]) else none
 else none
theorem ip0(c:Nat):decide (c∈cs (" abcdefghijklmnopqrstuvwxyz0123456789" : Str))=decide (c∈cs wt0):=by
 have h1:∀c∈cs (" abcdefghijklmnopqrstuvwxyz0123456789" : Str),c∈cs wt0:=by decide +kernel
 have h2:∀c∈cs wt0,c∈cs (" abcdefghijklmnopqrstuvwxyz0123456789" : Str):=by decide +kernel
 rw[decide_eq_decide];exact⟨h1 c,h2 c⟩
theorem ou0(x:Str)(hne:cs x≠[])(hz:x.length<=sizeLine)(δ:Ds)(g:GE)(hg:g δ=some (.str x)) :
  ∃w:Str,d8 g (someO (gc (.int 1))) (someO (o2 (oA (z7 g z9) b7) (gc (.int 1)) y70)) δ=some (.str w)/\w.length<=x.length/\(1<(cs x).length->w=strOf (cs x).tail.dropLast):=by
 have h1:1<=(cs x).length:=Az0.mpr hne;have e:d8 g (someO (gc (.int 1))) (someO (o2 (oA (z7 g z9) b7) (gc (.int 1)) y70)) δ=some (.str (Txt.slice x (some 1) (some ((x.length:Int) - 1)))):=by
  show (g δ).bind (λd=>(some (some 1)).bind λl=>((o2 (oA (z7 g z9) b7) (gc (.int 1)) y70 δ).bind λd=>(asI d).map some).bind λh=>slA d l h)=_;rw[hg,d9 (w80 hg hz) rfl];show (if x.length<=sizeLine then some (D.str (Txt.slice x (some 1) (some ((x.length:Int) - 1)))) else none)=_;rw[if_pos hz]
 refine⟨_,e,?_,λh=>?_⟩
 ·by_cases h:1<(cs x).length
  ·rw[show (some (1:Int))=some ((1:Nat):Int) from rfl,show (x.length:Int) - 1=(((cs x).length - 1:Nat):Int) by rw[← U7];omega,lc0 x 1 ((cs x).length - 1) (by omega) (by omega),m8,← U7]
   rw[List.length_take,List.length_drop];omega
  ·cases ex:cs x with
   | nil=>exact absurd ex hne
   | cons a t =>
    rw[ex] at h;cases t with
    | cons b t=>simp at h
    | nil =>
     rw[mk0 ex];show (Txt.slice (strOf [a]) (some 1) (some 0)).length<=1;show (sliceText (strOf [a]) (some 1) (some 0)).length<=1;have:sliceText (strOf [a]) (some 1) (some 0)=strOf []:=rfl;rw[this];exact C3 _
 ·rw[show (some (1:Int))=some ((1:Nat):Int) from rfl,show (x.length:Int) - 1=(((cs x).length - 1:Nat):Int) by rw[← U7];omega,lc0 x 1 ((cs x).length - 1) (by omega) (by omega)]
  congr 1;rw[List.drop_one,List.dropLast_eq_take,List.length_tail]
theorem X90{a:Bool}(h1:ob ga δ=some a)(h2:a=false->gb δ=some (.bl b)):orG ga gb δ=some (.bl (a||b)):=by
 unfold orG;rw[h1];cases a
 ·exact h2 rfl
 ·rfl
theorem o70(x:Str)(hz:x.length<=sizeLine)(δ:Ds)(g:GE)(hg:g δ=some (.str x))(c:Str)(n:Nat)(hc:c=⟨#[n]⟩):o2 (d8 g (someO (unG K9 (gc (.int 1)))) Z1) (gc (.str c)) neD δ=some (.bl (!decide ((cs x).getLast?=some n))):=by
 rw[← Yc0,← hc];rw[d9 (x:=.str (Txt.slice x (some (-1)) none)) (y:=.str c) (by
  show (g δ).bind _=_;rw[hg];show (if x.length<=sizeLine then some (D.str (Txt.slice x (some (-1)) none)) else none)=_;rw[if_pos hz]) rfl]
 rfl
abbrev s6(x:Str)(many:Int)(a b c d:Sl):Ds:=[.sh (.str x),.sh (.int many),a,b,c,d]
abbrev W1:GS:=v7 (j9 (gN 2) (d8 (gv 0) (someO (gc (.int 1))) (someO (o2 (oA (z7 (gv 0) z9) b7) (gc (.int 1)) y70))))
 (v7 (ya0 (v90 (gv 2)) (gN 3)
 (v7 (ifD (ob (o2 (gv 3) (gc (.str " abcdefghijklmnopqrstuvwxyz0123456789")) ye0))
 (v7 (o9 (gc .non))
 p6)
 p6)
 p6))
 (v7 (o9 (o2 (j4 (z7 (W5 (z7 (gc (.str "text")) (z7 (gv 2) z9))) (z7 (gc .non) z9))) (oA (z7 (orG (o2 (oA (z7 (gv 0) z9) b7) (gc (.int 2)) ltD) (orG (o2 (d8 (gv 0) (someO (unG K9 (gc (.int 1)))) Z1) (gc (.str "'")) neD) (o2 (oA (z7 (gv 2) z9) b7) (gc (.int 20)) gtD))) z9) intOfD) ixD))
 p6))
theorem Wk0(x:Str)(many:Int)(hne:cs x≠[])(hz:x.length<=sizeLine):W1 (s6 x many .un .un .un .un)=some (.rt (oD (if 1<(cs x).length/\(cs x).getLast?=some 39/\isWord (strOf (cs x).tail.dropLast)=true then some (.tup [.str "text",.str (strOf (cs x).tail.dropLast)]) else none))):=by
 obtain⟨w,ew,hw,hm⟩:=ou0 x hne hz (s6 x many .un .un .un .un) (gv 0) rfl;have sc:=iw0 " abcdefghijklmnopqrstuvwxyz0123456789" .non 3 (λs=>s6 x many (.sh (.str w)) s .un .un) (λ_ _=>rfl) (λ_=>rfl) w .un;have ea:((cs w).all λc=>decide (c∈cs (" abcdefghijklmnopqrstuvwxyz0123456789" : Str)))=hasAll w wt0:=by
  unfold hasAll;congr 1
  funext c
  exact ip0 c
 rw[ea] at sc;refine p7 (b8 ew) ?_;cases h:hasAll w wt0 with
 | false =>
  refine(n8 (O7 (items:=signs w) rfl (sc.2 h))).trans ?_;have hn:¬(1<(cs x).length/\(cs x).getLast?=some 39/\isWord (strOf (cs x).tail.dropLast)=true):=λz=>by
   have z3:=z.2.2;rw[← hm z.1] at z3;unfold isWord at z3;rw[h] at z3;simp at z3
  rw[if_neg hn];rfl
 | true =>
  obtain⟨s',h'⟩:=sc.1 h;refine p7 (O7 (items:=signs w) rfl h') (n8 (U3 ?_));have hl:∀s,oA (z7 (gv 0) z9) b7 (s6 x many (.sh (.str w)) s .un .un)=some (.int (x.length:Int)):=λs=>w80 rfl hz
  have O:∀s,oA (z7 (gv 2) z9) b7 (s6 x many (.sh (.str w)) s .un .un)=some (.int (w.length:Int)):=λs=>w80 rfl (by omega)
  have b1:j4 (z7 (W5 (z7 (gc (.str "text")) (z7 (gv 2) z9))) (z7 (gc .non) z9)) (s6 x many (.sh (.str w)) s' .un .un)=some (.lst [.tup [.str "text",.str w],.non]):=rfl;have b2:orG (o2 (oA (z7 (gv 0) z9) b7) (gc (.int 2)) ltD) (orG (o2 (d8 (gv 0) (someO (unG K9 (gc (.int 1)))) Z1) (gc (.str "'")) neD) (o2 (oA (z7 (gv 2) z9) b7) (gc (.int 20)) gtD)) (s6 x many (.sh (.str w)) s' .un .un)
   =some (.bl (decide ((x.length:Int)<2)||(!decide ((cs x).getLast?=some 39)||decide ((20:Int)<(w.length:Int))))):=by
   have a1:ob (o2 (oA (z7 (gv 0) z9) b7) (gc (.int 2)) ltD) (s6 x many (.sh (.str w)) s' .un .un)=some (decide ((x.length:Int)<2)):=V4 (by rw[d9 (hl _) rfl];rfl);have a2:ob (o2 (d8 (gv 0) (someO (unG K9 (gc (.int 1)))) Z1) (gc (.str "'")) neD) (s6 x many (.sh (.str w)) s' .un .un)=some (!decide ((cs x).getLast?=some 39)):=V4 (o70 x hz _ (gv 0) rfl "'" 39 (by decide +kernel));have a3:o2 (oA (z7 (gv 2) z9) b7) (gc (.int 20)) gtD (s6 x many (.sh (.str w)) s' .un .un)=some (.bl (decide ((20:Int)<(w.length:Int)))):=by rw[d9 (O _) rfl];rfl
   exact X90 a1 λ_=>X90 a2 λ_=>a3
  rw[d9 b1 (y:=.int (if (decide ((x.length:Int)<2)||(!decide ((cs x).getLast?=some 39)||decide ((20:Int)<(w.length:Int)))) then 1 else 0)) (by rw[X5 (cons_of b2 rfl)];rfl)]
  by_cases z:1<(cs x).length/\(cs x).getLast?=some 39/\isWord (strOf (cs x).tail.dropLast)=true
  ·rw[if_pos z]
   have z3:=z.2.2;rw[← hm z.1] at z3 ⊢;unfold isWord at z3;rw[Bool.and_eq_true,decide_eq_true_eq] at z3;have q:(decide ((x.length:Int)<2)||(!decide ((cs x).getLast?=some 39)||decide ((20:Int)<(w.length:Int))))=false:=by
    have:=U7 x;rw[decide_eq_false (by omega),decide_eq_true z.2.1,decide_eq_false (by omega)];rfl
   rw[q];rfl
  ·rw[if_neg z]
   have q:(decide ((x.length:Int)<2)||(!decide ((cs x).getLast?=some 39)||decide ((20:Int)<(w.length:Int))))=true:=by
    by_cases z1:1<(cs x).length
    ·by_cases z2:(cs x).getLast?=some 39
     ·by_cases z3:(20:Int)<(w.length:Int)
      ·rw[decide_eq_true z3];simp
      ·exact absurd ⟨z1,z2,by rw[← hm z1];unfold isWord;rw[h,decide_eq_true (by omega)];rfl⟩ z
     ·rw[decide_eq_false z2];simp
    ·have:=U7 x
     rw[decide_eq_true (by omega)];rfl
   rw[q];rfl
abbrev W2:GS:=v7 (j9 (gN 4) (oA (z7 (d8 (gv 0) (someO (gc (.int 1))) (someO (o2 (oA (z7 (gv 0) z9) b7) (gc (.int 1)) y70))) (z7 (gv 1) (z7 (gc (.bl false)) z9))) K4))
 (v7 (ifD (S5 (ob (o2 (d8 (gv 0) (someO (unG K9 (gc (.int 1)))) Z1) (gc (.str "]")) neD)) (ob (o2 (gv 4) (gc .non) zs0)))
 (v7 (o9 (gc .non))
 p6)
 p6)
 (v7 (o9 (W5 (z7 (gc (.str "row")) (z7 (oA (z7 (Y9 2 [] (tupI (gv 4)) (vx0 0 1) noT (gv 1)) z9) zz0) z9))))
 p6))
theorem ju0(o:Option (List (Str×D))):zs0 (oD (tups o)) .non=some (.bl o.isNone):=by cases o<;>rfl
theorem d50{named:Bool}{acc:List (Str×D)}(h:lst x many named=some acc):acc.length<=12:=by
 unfold lst at h;cases q:G9 named many (its x) [] with
 | none=>rw[q] at h;cases h
 | some a =>
  rw[q,Option.bind_some] at h;split at h
  ·cases h;assumption
  ·cases h
theorem df0(h:n<=12):n<=sizeLine:=A9 h (by decide)
theorem Xp0(x:Str)(many:Int)(h91:(cs x).head?=some 91)(hz:x.length+2<=sizeLine):W2 (s6 x many .un .un .un .un)=some (.rt (oD (if (cs x).getLast?=some 93 then (lst (strOf (cs x).tail.dropLast) many false).map λacc=>.tup [.str "row",.tup (acc.map (·.2))] else none))):=by
 have O:cs x≠[]:=λz=>by rw[z] at h91;cases h91
 obtain⟨w,ew,hw,hm⟩:=ou0 x O (by omega) (s6 x many .un .un .un .un) (gv 0) rfl;have le:=list_eq w many false (by omega);refine p7 (b8 (d:=oD (tups (lst w many false))) (by rw[X5 (ds:=[.str w,.int many,.bl false]) (cons_of ew rfl)];exact le)) ?_;have c:S5 (ob (o2 (d8 (gv 0) (someO (unG K9 (gc (.int 1)))) Z1) (gc (.str "]")) neD)) (ob (o2 (gv 4) (gc .non) zs0)) (s6 x many .un .un (.sh (oD (tups (lst w many false)))) .un)=some (!decide ((cs x).getLast?=some 93)||(lst w many false).isNone) :=
  v50 (V4 (o70 x (by omega) _ (gv 0) rfl "]" 93 (by decide +kernel))) λ_=>V4 (by rw[d9 rfl rfl];exact ju0 _)
 by_cases h:(cs x).getLast?=some 93
 ·have S:1<(cs x).length:=by
   cases e:cs x with
   | nil=>exact absurd e O
   | cons a t =>
    cases t with
    | nil =>
     rw[e] at h h91;simp at h h91;omega
    | cons b t=>simp
  have U:=hm S;subst U;rw[if_pos h];rw[decide_eq_true h] at c;cases q:lst (strOf (cs x).tail.dropLast) many false with
  | none =>
   rw[q] at c;exact n8 (by show ifD _ _ _ (s6 x many .un .un (.sh (oD (tups none))) .un)=_;rw[R8 c];rfl)
  | some acc =>
   rw[q] at c;refine p7 (δ':=s6 x many .un .un (.sh (.tup (acc.map pr))) .un) (by show ifD _ _ _ (s6 x many .un .un (.sh (oD (tups (some acc)))) .un)=_;rw[X4 c];rfl) (n8 (U3 ?_));have cm:Y9 2 [] (tupI (gv 4)) (vx0 0 1) noT (gv 1) (s6 x many .un .un (.sh (.tup (acc.map pr))) .un)=some (.lst (acc.map (·.2))):=J7 (items:=acc.map pr) rfl (by rw[List.length_map];exact df0 (d50 q)) (by
    have:=M7 (f:=vx0 0 1) (gt:=noT) (ge:=gv 1) (δ:=[.un,.un]) (λd=>match d with|.tup [_,v]=>v|_=>.non) (items:=acc.map pr) (λd hd=>by
     obtain⟨p,_,rfl⟩:=A6.mp hd;exact⟨[.sh (.str p.1),.sh p.2],rfl,rfl,rfl⟩)
    refine this.trans ?_;rw[List.map_map];rfl)
   exact qw0 (cons_of rfl (cons_of (by rw[X5 (cons_of cm rfl)];rfl) rfl)) (by show 2<=sizeLine;decide)
 ·rw[if_neg h]
  rw[decide_eq_false h] at c;exact n8 (by show ifD _ _ _ (s6 x many .un .un (.sh (oD (tups (lst w many false)))) .un)=_;rw[R8 c];rfl)
theorem gg0{s:Str}(hs:s=⟨#[c]⟩)(h:c∈cs a)(hg:g δ=some (.str a)):j8 g (z7 (gc (.str s)) z9) R4 δ=some (.int ((m5 c (cs a)).length:Int)):=by
 rw[sq0 hg (ds:=[.str s]) rfl,hs];obtain⟨e,n⟩:=u40 c (cs a) h;obtain⟨r',hr⟩:=b00 (m5 c (cs a)) (W0 c (cs a)) c n;rw[← e,M4] at hr;unfold R4;simp only[hr]
abbrev W3:GS:=(v7 (ifD (S5 (ob (o2 (gc (.str "{")) (gv 0) ye0)) (ob (o2 (d8 (gv 0) (someO (unG K9 (gc (.int 1)))) Z1) (gc (.str "}")) neD)))
 (v7 (o9 (gc .non))
 p6)
 p6)
 (v7 (j9 (gN 5) (d8 (gv 0) Z1 (someO (j8 (gv 0) (z7 (gc (.str "{")) z9) R4))))
 (v7 (j9 (gN 4) (oA (z7 (d8 (gv 0) (someO (o2 (j8 (gv 0) (z7 (gc (.str "{")) z9) R4) (gc (.int 1)) o8)) (someO (o2 (oA (z7 (gv 0) z9) b7) (gc (.int 1)) y70))) (z7 (gv 1) (z7 (gc (.bl true)) z9))) K4))
 (v7 (ifD (S5 (ob (o2 (gv 4) (gc .non) zs0)) (Q9 (ob (o2 (gv 5) (gc (.str "")) neD)) (T7 (ob (oA (z7 (gv 5) z9) V5)))))
 (v7 (o9 (gc .non))
 p6)
 p6)
 (v7 (o9 (o2 (j4 (z7 (W5 (z7 (gc (.str "record")) (z7 (gv 5) (z7 (gv 4) z9)))) (z7 (W5 (z7 (gc (.str "table")) (z7 (gv 4) z9))) z9))) (oA (z7 (o2 (gv 5) (gc (.str "")) eqD) z9) intOfD) ixD))
 p6)))))
theorem empty_eq(l:List Nat):decide (strOf l=("" : Str))=decide (l=[]):=by
 rw[decide_eq_decide];exact⟨λh=>by rw[← Q0 l,h];decide +kernel,λh=>by rw[h];decide +kernel⟩
theorem Xw0(x:Str)(many:Int)(hz:x.length+2<=sizeLine):W3 (s6 x many .un .un .un .un)=some (.rt (oD (if 123∈cs x/\(cs x).getLast?=some 125 then
  (lst (strOf (W0 123 (cs x)).dropLast) many true).bind λacc=>if m5 123 (cs x)=[] then some (.tup [.str "table",.tup (acc.map pr)])
   else if isName (strOf (m5 123 (cs x)))=true then some (.tup [.str "record",.str (strOf (m5 123 (cs x))),.tup (acc.map pr)]) else none
  else none))):=by
 have c1:S5 (ob (o2 (gc (.str "{")) (gv 0) ye0)) (ob (o2 (d8 (gv 0) (someO (unG K9 (gc (.int 1)))) Z1) (gc (.str "}")) neD)) (s6 x many .un .un .un .un)=some (!decide (123∈cs x)||!decide ((cs x).getLast?=some 125)):=by
  rw[← xg0,← show ("{" : Str)=⟨#[123]⟩ by decide +kernel];exact v50 (V4 rfl) λ_=>V4 (o70 x (by omega) _ (gv 0) rfl "}" 125 (by decide +kernel))
 by_cases h:123∈cs x/\(cs x).getLast?=some 125
 ·rw[if_pos h]
  rw[decide_eq_true h.1,decide_eq_true h.2] at c1;obtain⟨e0,_⟩:=u40 123 (cs x) h.1;obtain⟨r,hr⟩:=gi0 h.1 h.2 (by decide);have hA:=ux0 123 (cs x);have Y:(cs x).length=(m5 123 (cs x)).length+1+(r.length+1):=by
   have:=B7 List.length e0;rw[hr] at this;simp only[List.length_append,List.length_cons,List.length_nil] at this;omega
  have U:(W0 123 (cs x)).dropLast=r:=by rw[hr];simp
  rw[U];have Z:=U7 x;have w1:j9 (gN 5) (d8 (gv 0) Z1 (someO (j8 (gv 0) (z7 (gc (.str "{")) z9) R4))) (s6 x many .un .un .un .un)=some (.nx (s6 x many .un .un .un (.sh (.str (strOf (m5 123 (cs x))))))):=by
   refine b8 ?_;show (some (D.str x)).bind (λd=>(some none).bind λl=>((j8 (gv 0) (z7 (gc (.str "{")) z9) R4 (s6 x many .un .un .un .un)).bind λd=>(asI d).map some).bind λh=>slA d l h)=_;rw[gg0 (by decide +kernel) h.1 rfl];show (if x.length<=sizeLine then some (D.str (Txt.slice x none (some ((m5 123 (cs x)).length:Int)))) else none)=_;rw[if_pos (by omega),qf0 x _ hA];have:=B7 (List.take (m5 123 (cs x)).length) e0;rw[this,List.take_left]
  have sl:∀s,d8 (gv 0) (someO (o2 (j8 (gv 0) (z7 (gc (.str "{")) z9) R4) (gc (.int 1)) o8)) (someO (o2 (oA (z7 (gv 0) z9) b7) (gc (.int 1)) y70)) (s6 x many .un .un .un s)=some (.str (strOf r)):=λs=>by
   show (some (D.str x)).bind (λd=>((o2 (j8 (gv 0) (z7 (gc (.str "{")) z9) R4) (gc (.int 1)) o8 (s6 x many .un .un .un s)).bind λd=>(asI d).map some).bind λl=>((o2 (oA (z7 (gv 0) z9) b7) (gc (.int 1)) y70 (s6 x many .un .un .un s)).bind λd=>(asI d).map some).bind λh=>slA d l h)=_;rw[d9 (gg0 (by decide +kernel) h.1 rfl) rfl,d9 (w80 rfl (by omega)) rfl];show (if x.length<=sizeLine then some (D.str (Txt.slice x (some (((m5 123 (cs x)).length:Int)+1)) (some ((x.length:Int) - 1)))) else none)=_;rw[if_pos (by omega),show (((m5 123 (cs x)).length:Int)+1)=(((m5 123 (cs x)).length+1:Nat):Int) by omega,show ((x.length:Int) - 1)=(((cs x).length - 1:Nat):Int) by omega,lc0 x _ _ (by omega) (by omega)];have td:(cs x).drop ((m5 123 (cs x)).length+1)=r++[125]:=by
    have:=B7 (List.drop ((m5 123 (cs x)).length+1)) e0;rw[this,← List.drop_drop,List.drop_left,hr];rfl
   rw[td,show (cs x).length - 1 - ((m5 123 (cs x)).length+1)=r.length by omega,List.take_left]
  have O:(strOf r).length+2<=sizeLine:=by rw[m8];omega
  have le:=list_eq (strOf r) many true O;have w2:j9 (gN 4) (oA (z7 (d8 (gv 0) (someO (o2 (j8 (gv 0) (z7 (gc (.str "{")) z9) R4) (gc (.int 1)) o8)) (someO (o2 (oA (z7 (gv 0) z9) b7) (gc (.int 1)) y70))) (z7 (gv 1) (z7 (gc (.bl true)) z9))) K4) (s6 x many .un .un .un (.sh (.str (strOf (m5 123 (cs x))))))=some (.nx (s6 x many .un .un (.sh (oD (tups (lst (strOf r) many true)))) (.sh (.str (strOf (m5 123 (cs x))))))) :=
   b8 (d:=oD (tups (lst (strOf r) many true))) (by rw[X5 (ds:=[.str (strOf r),.int many,.bl true]) (cons_of (sl _) rfl)];exact le)
  have S:(strOf (m5 123 (cs x))).length<=sizeLine:=by rw[m8];omega
  have c2:S5 (ob (o2 (gv 4) (gc .non) zs0)) (Q9 (ob (o2 (gv 5) (gc (.str "")) neD)) (T7 (ob (oA (z7 (gv 5) z9) V5)))) (s6 x many .un .un (.sh (oD (tups (lst (strOf r) many true)))) (.sh (.str (strOf (m5 123 (cs x))))))
   =some ((lst (strOf r) many true).isNone||(!decide (m5 123 (cs x)=[])&&!isName (strOf (m5 123 (cs x))))):=by
   rw[← empty_eq];exact v50 (V4 (by rw[d9 rfl rfl];exact ju0 _)) λ_=>wq0 (V4 rfl) λ_=>t40 (by rw[X5 (ds:=[.str (strOf (m5 123 (cs x)))]) rfl];exact oo0 _ S)
  refine p7 (δ':=s6 x many .un .un .un .un) (by rw[X4 c1];rfl) (p7 w1 (p7 w2 ?_));cases q:lst (strOf r) many true with
  | none =>
   rw[q] at c2;exact n8 (by show ifD _ _ _ (s6 x many .un .un (.sh (oD (tups none))) (.sh (.str (strOf (m5 123 (cs x))))))=_;rw[R8 c2];rfl)
  | some acc =>
   rw[q] at c2;have bs:∀δ,δ=s6 x many .un .un (.sh (.tup (acc.map pr))) (.sh (.str (strOf (m5 123 (cs x)))))->j4 (z7 (W5 (z7 (gc (.str "record")) (z7 (gv 5) (z7 (gv 4) z9)))) (z7 (W5 (z7 (gc (.str "table")) (z7 (gv 4) z9))) z9)) δ=some (.lst [.tup [.str "record",.str (strOf (m5 123 (cs x))),.tup (acc.map pr)],.tup [.str "table",.tup (acc.map pr)]]):=fun δ hδ=>by rw[hδ];rfl
   have ix:oA (z7 (o2 (gv 5) (gc (.str "")) eqD) z9) intOfD (s6 x many .un .un (.sh (.tup (acc.map pr))) (.sh (.str (strOf (m5 123 (cs x))))))=some (.int (if decide (m5 123 (cs x)=[]) then 1 else 0)):=by
    rw[← empty_eq];rfl
   show _=some (Res.rt (oD (if m5 123 (cs x)=[] then some (.tup [.str "table",.tup (acc.map pr)]) else if isName (strOf (m5 123 (cs x)))=true then some (.tup [.str "record",.str (strOf (m5 123 (cs x))),.tup (acc.map pr)]) else none)))
   by_cases h1:m5 123 (cs x)=[]
   ·rw[if_pos h1]
    rw[decide_eq_true h1] at c2 ix;refine p7 (δ':=s6 x many .un .un (.sh (.tup (acc.map pr))) (.sh (.str (strOf (m5 123 (cs x)))))) (by show ifD _ _ _ (s6 x many .un .un (.sh (oD (tups (some acc)))) (.sh (.str (strOf (m5 123 (cs x))))))=_;rw[X4 c2];rfl) (n8 (U3 ?_));rw[d9 (bs _ rfl) ix];rfl
   ·rw[if_neg h1]
    rw[decide_eq_false h1] at c2 ix
    by_cases h2:isName (strOf (m5 123 (cs x)))=true
    ·rw[if_pos h2]
     rw[h2] at c2;refine p7 (δ':=s6 x many .un .un (.sh (.tup (acc.map pr))) (.sh (.str (strOf (m5 123 (cs x)))))) (by show ifD _ _ _ (s6 x many .un .un (.sh (oD (tups (some acc)))) (.sh (.str (strOf (m5 123 (cs x))))))=_;rw[X4 c2];rfl) (n8 (U3 ?_));rw[d9 (bs _ rfl) ix];rfl
    ·rw[if_neg h2]
     rw[Bool.not_eq_true] at h2;rw[h2] at c2;exact n8 (by show ifD _ _ _ (s6 x many .un .un (.sh (oD (tups (some acc)))) (.sh (.str (strOf (m5 123 (cs x))))))=_;rw[R8 c2];rfl)
 ·rw[if_neg h]
  have:(!decide (123∈cs x)||!decide ((cs x).getLast?=some 125))=true:=by
   by_cases a:123∈cs x
   ·by_cases b:(cs x).getLast?=some 125
    ·exact absurd ⟨a,b⟩ h
    ·rw[decide_eq_false b];simp
   ·rw[decide_eq_false a];rfl
  rw[this] at c1;exact n8 (by rw[R8 c1];rfl)
theorem Yk0(x:Str)(many:Int)(hz:x.length+2<=sizeLine):zf0 [.str x,.int many]=some (oD (lpt (cs x) many)):=by
 have e1:=ra0 x (by omega) (s6 x many .un .un .un .un) (gv 0) rfl "'" 39 (by decide +kernel);have e2:=ra0 x (by omega) (s6 x many .un .un .un .un) (gv 0) rfl "[" 91 (by decide +kernel);unfold lpt
 by_cases h1:(cs x).head?=some 39
 ·rw[if_pos h1]
  rw[decide_eq_true h1] at e1;have:=Wk0 x many (λz=>by rw[z] at h1;cases h1) (by omega);exact Y5 rfl (n8 (by show ifD _ W1 _ (s6 x many .un .un .un .un)=_;rw[R8 e1];exact this))
 ·rw[if_neg h1]
  rw[decide_eq_false h1] at e1
  by_cases h2:(cs x).head?=some 91
  ·rw[if_pos h2]
   rw[decide_eq_true h2] at e2;exact Y5 rfl (p7 (δ':=s6 x many .un .un .un .un) (by show ifD _ W1 _ (s6 x many .un .un .un .un)=_;rw[X4 e1];rfl) (n8 (by show ifD _ W2 _ (s6 x many .un .un .un .un)=_;rw[R8 e2];exact Xp0 x many h2 hz)))
  ·rw[if_neg h2]
   rw[decide_eq_false h2] at e2;exact Y5 rfl (p7 (δ':=s6 x many .un .un .un .un) (by show ifD _ W1 _ (s6 x many .un .un .un .un)=_;rw[X4 e1];rfl) (p7 (δ':=s6 x many .un .un .un .un) (by show ifD _ W2 _ (s6 x many .un .un .un .un)=_;rw[X4 e2];rfl) (Xw0 x many hz)))
theorem bv0{d:D}(h:lpt l many=some d):zs0 d .non=some (.bl false):=by
 unfold lpt at h;split at h
 ·split at h
  ·cases h;rfl
  ·cases h
 ·split at h
  ·split at h
   ·cases q:lst (strOf l.tail.dropLast) many false with
    | none=>rw[q] at h;cases h
    | some acc=>rw[q] at h;cases h;rfl
   ·cases h
  ·split at h
   ·cases q:lst (strOf (W0 123 l).dropLast) many true with
    | none=>rw[q] at h;cases h
    | some acc =>
     rw[q,Option.bind_some] at h;split at h
     ·cases h;rfl
     ·split at h
      ·cases h;rfl
      ·cases h
   ·cases h
abbrev ur0:GS:=(v7 (j9 (gN 4) (oA (z7 (gv 3) (z7 (oA (z7 (gv 1) z9) b7) z9)) zf0))
 (v7 (ifD (ob (o2 (gv 4) (gc .non) zs0))
 (v7 (o9 (gc .non))
 p6)
 p6)
 (v7 (zk0 (wk0 2 (gv 4)))
 p6)))
theorem b40(x:Str)(bits:List Str):∀(items:List Str) (acc:List D) (s3 s4:Sl),(∀a∈items,a.length+2<=sizeLine)->acc.length+items.length<=sizeLine ->
  (o5 (items.map λa=>lpt (cs a) (bits.length:Int))=none->T5 (gN 3) ur0 (items.map .str) [.sh (.str x),.sh (.lst (bits.map .str)),.ow (.lst acc),s3,s4]=some (.rt .non)) /\
  (∀ds,o5 (items.map λa=>lpt (cs a) (bits.length:Int))=some ds->∃t3 t4,T5 (gN 3) ur0 (items.map .str) [.sh (.str x),.sh (.lst (bits.map .str)),.ow (.lst acc),s3,s4]=some (.nx [.sh (.str x),.sh (.lst (bits.map .str)),.ow (.lst (acc++ds)),t3,t4]))
 | [],acc,s3,s4,_,_=>⟨(λh=>by cases h),(λds h=>by cases h;exact⟨s3,s4,by rw[List.append_nil];rfl⟩)⟩
 | a::r,acc,s3,s4,hz,hl=>by
  simp only[List.length_cons] at hl;have lp:=Yk0 a (bits.length:Int) (hz a A5);have e1:j9 (gN 4) (oA (z7 (gv 3) (z7 (oA (z7 (gv 1) z9) b7) z9)) zf0) [.sh (.str x),.sh (.lst (bits.map .str)),.ow (.lst acc),.sh (.str a),s4]=some (.nx [.sh (.str x),.sh (.lst (bits.map .str)),.ow (.lst acc),.sh (.str a),.sh (oD (lpt (cs a) (bits.length:Int)))]):=by
   refine b8 ?_;have hl:oA (z7 (gv 1) z9) b7 [.sh (.str x),.sh (.lst (bits.map .str)),.ow (.lst acc),.sh (.str a),s4]=some (.int ((bits.map D.str).length:Int)):=rfl;rw[List.length_map] at hl;rw[X5 (ds:=[.str a,.int (bits.length:Int)]) (cons_of rfl (cons_of hl rfl))];exact lp
  show (o5 (lpt (cs a) (bits.length:Int)::r.map _)=none->_)/\(∀ds,o5 (lpt (cs a) (bits.length:Int)::r.map _)=some ds->_);cases q:lpt (cs a) (bits.length:Int) with
  | none =>
   refine⟨λ_=>?_,(λds h=>by cases h)⟩;show T5 (gN 3) ur0 (.str a::r.map .str) _=_;unfold T5;rw[show gN 3 (.str a) [.sh (.str x),.sh (.lst (bits.map .str)),.ow (.lst acc),s3,s4]=some [.sh (.str x),.sh (.lst (bits.map .str)),.ow (.lst acc),.sh (.str a),s4] from rfl,Option.bind_some];rw[q] at e1;have:ur0 [.sh (.str x),.sh (.lst (bits.map .str)),.ow (.lst acc),.sh (.str a),s4]=some (.rt .non):=p7 e1 (n8 rfl);rw[this]
  | some d =>
   rw[q] at e1;have hd:=bv0 q;have c:ob (o2 (gv 4) (gc .non) zs0) [.sh (.str x),.sh (.lst (bits.map .str)),.ow (.lst acc),.sh (.str a),.sh d]=some false:=V4 (by rw[d9 rfl rfl];exact hd);have b:ur0 [.sh (.str x),.sh (.lst (bits.map .str)),.ow (.lst acc),.sh (.str a),s4]=some (.nx [.sh (.str x),.sh (.lst (bits.map .str)),.ow (.lst (acc++[d])),.sh (.str a),.sh d]):=by
    refine p7 e1 (p7 (δ':=[.sh (.str x),.sh (.lst (bits.map .str)),.ow (.lst acc),.sh (.str a),.sh d]) (by show ifD _ _ _ [.sh (.str x),.sh (.lst (bits.map .str)),.ow (.lst acc),.sh (.str a),.sh d]=_;rw[X4 c];rfl) (p7 ?_ rfl));show ((if acc.length<sizeLine then some (D.non,_) else none).map _)=_;rw[if_pos (by omega)];rfl
   have hs:T5 (gN 3) ur0 ((a::r).map .str) [.sh (.str x),.sh (.lst (bits.map .str)),.ow (.lst acc),s3,s4]=T5 (gN 3) ur0 (r.map .str) [.sh (.str x),.sh (.lst (bits.map .str)),.ow (.lst (acc++[d])),.sh (.str a),.sh d]:=M5 (δ1:=[.sh (.str x),.sh (.lst (bits.map .str)),.ow (.lst acc),.sh (.str a),s4]) rfl b;rw[hs];obtain⟨i1,i2⟩:=b40 x bits r (acc++[d]) (.sh (.str a)) (.sh d) (λb hb=>hz b (A7 _ hb)) (by rw[List.length_append];simp only[List.length_cons,List.length_nil];omega);refine⟨λh=>i1 ?_,λds h=>?_⟩
   ·cases q2:o5 (r.map λa=>lpt (cs a) (bits.length:Int)) with
    | none=>rfl
    | some e=>rw[show o5 (some d::r.map λa=>lpt (cs a) (bits.length:Int))=(o5 (r.map λa=>lpt (cs a) (bits.length:Int))).map (d::·) from rfl,q2] at h;cases h
   ·cases q2:o5 (r.map λa=>lpt (cs a) (bits.length:Int)) with
    | none=>rw[show o5 (some d::r.map λa=>lpt (cs a) (bits.length:Int))=(o5 (r.map λa=>lpt (cs a) (bits.length:Int))).map (d::·) from rfl,q2] at h;cases h
    | some e =>
     rw[show o5 (some d::r.map λa=>lpt (cs a) (bits.length:Int))=(o5 (r.map λa=>lpt (cs a) (bits.length:Int))).map (d::·) from rfl,q2] at h;cases h;obtain⟨t3,t4,ee⟩:=i2 e q2;exact⟨t3,t4,by rw[ee,List.append_assoc];rfl⟩
noncomputable def due(x:Str):Option D:=(o5 ((Txt.split x "; ").map λa=>lpt (cs a) ((Txt.split x "; ").length:Int))).map .tup
theorem Xh0(x:Str)(hz:x.length+2<=sizeLine)(hl:x.length+4<=sizeLine):P0 [.str x]=some (oD (due x)):=by
 obtain⟨l1,l2⟩:=b40 x (Txt.split x "; ") (Txt.split x "; ") [] .un .un (λa ha=>by have:=R1 ha;omega) (by have:=vt0 x "; " hz;simp only[List.length_nil];omega);refine Y5 rfl (p7 (b8 (w00 rfl (by decide +kernel) hz)) (p7 (δ':=[.sh (.str x),.sh (.lst ((Txt.split x "; ").map .str)),.ow (.lst []),.un,.un]) rfl ?_));unfold due;cases q:o5 ((Txt.split x "; ").map λa=>lpt (cs a) ((Txt.split x "; ").length:Int)) with
 | none=>exact n8 (O7 (items:=(Txt.split x "; ").map .str) rfl (l1 q))
 | some ds =>
  obtain⟨t3,t4,e⟩:=l2 ds q;exact p7 (O7 (items:=(Txt.split x "; ").map .str) rfl e) (n8 rfl)
theorem xn0(f:α->Option β)(g:β->γ):∀l:List α,o5 (l.map λa=>(f a).map g)=(o5 (l.map f)).map (List.map g)
 | []=>rfl
 | a::r=>by
  have ih:=xn0 f g r;rw[List.map_cons,List.map_cons];cases q:f a with
  | none=>rfl
  | some b =>
   show (o5 (r.map λa=>(f a).map g)).map (g b::·)=((o5 (r.map f)).map (b::·)).map (List.map g);rw[ih];cases o5 (r.map f)<;>rfl
theorem xv0:∀{l:List (Option α)} {r:List α},o5 l=some r->r.length=l.length
 | [],r,h=>by cases h;rfl
 | none::_,r,h=>by cases h
 | some a::l,r,h=>by
  cases q:o5 l with
  | none=>rw[show o5 (some a::l)=(o5 l).map (a::·) from rfl,q] at h;cases h
  | some t =>
   rw[show o5 (some a::l)=(o5 l).map (a::·) from rfl,q] at h;cases h;simp[xv0 q]
theorem xr0{f:β->Option α}:∀{l:List β} {r:List α},o5 (l.map f)=some r->∀x∈r,∃b∈l,f b=some x
 | [],r,h,x,hx=>by cases h;cases hx
 | b::l,r,h,x,hx=>by
  rw[List.map_cons] at h;cases q:f b with
  | none=>rw[q] at h;cases h
  | some a =>
   rw[q] at h;cases q2:o5 (l.map f) with
   | none=>rw[show o5 (some a::l.map f)=(o5 (l.map f)).map (a::·) from rfl,q2] at h;cases h
   | some t =>
    rw[show o5 (some a::l.map f)=(o5 (l.map f)).map (a::·) from rfl,q2] at h;cases h;rcases B1.mp hx with rfl|hx
    ·exact⟨b,A5,q⟩
    ·obtain⟨b',h1,h2⟩:=xr0 q2 x hx
     exact⟨b',A7 _ h1,h2⟩
theorem or0(f:β->Option α)(P:α->Bool):∀l:List β,o5 (l.map λb=>(f b).bind λa=>if P a=true then some a else none)=(o5 (l.map f)).bind λr=>if r.all P=true then some r else none
 | []=>rfl
 | b::l=>by
  have ih:=or0 f P l;rw[List.map_cons,List.map_cons];cases q:f b with
  | none=>rfl
  | some a =>
   show o5 ((if P a=true then some a else none)::l.map _)=((o5 (l.map f)).map (a::·)).bind _;cases p:P a with
   | false =>
    rw[if_neg A8];show none=_;cases o5 (l.map f) with
    | none=>rfl
    | some r =>
     show none=if (a::r).all P=true then some (a::r) else none
     rw[List.all_cons,p];rfl
   | true =>
    rw[if_pos rfl];show (o5 (l.map λb=>(f b).bind λa=>if P a=true then some a else none)).map (a::·)=_;rw[ih];cases o5 (l.map f) with
    | none=>rfl
    | some r =>
     show (if r.all P=true then some r else none).map (a::·)=if (a::r).all P=true then some (a::r) else none
     rw[List.all_cons,p,Bool.true_and];cases r.all P<;>rfl
theorem Yw0(l:List Nat):0<=num l:=by unfold num;omega
theorem qg0{d:D}(h:rv l=some d):R6 d=true:=by
 unfold rv at h;split at h
 ·cases h;rfl
 ·split at h
  ·split at h
   ·cases h
    show (marks (.str "at") "at"&&decide (0<=num l.tail))=true;rw[decide_eq_true (Yw0 _)]
    decide +kernel
   ·cases h
  ·split at h
   ·cases h
   ·split at h
    ·split at h
     ·cases h;rfl
     ·cases h
    ·split at h
     ·cases h;rfl
     ·cases h
theorem fi0{d:D}(h:R6 d=true)(many:Int):wj0 d many=true↔∀k,lk d=some k->k<many:=by
 rcases vv0 h with rfl|⟨i,rfl⟩|⟨i,rfl,_⟩
 ·exact⟨λ_ k h=>(by cases h),λ_=>rfl⟩
 ·exact⟨λ_ k h=>(by cases h),λ_=>rfl⟩
 ·constructor
  ·intro q k hk
   cases hk;exact n0 q
  ·intro q
   exact E4 (q i rfl)
noncomputable def rpP(l:List Nat):Option (Str×D):=if 61∈l then (rv (W0 61 l)).map λv=>(strOf (m5 61 l),v) else none
theorem Wr0(l:List Nat):rp l=(rpP l).map pr:=by
 unfold rp rpP;split
 ·cases rv (W0 61 l)<;>rfl
 ·rfl
noncomputable def N6(l:List Nat):Option Pt :=
 if 1<l.length/\l.head?=some 39/\l.getLast?=some 39 then some (.text (strOf l.tail.dropLast))
 else if l.head?=some 91/\l.getLast?=some 93 then (o5 ((its (strOf l.tail.dropLast)).map λa=>rv (cs a))).map .row
 else if 123∈l/\l.getLast?=some 125 then (o5 ((its (strOf (W0 123 l).dropLast)).map λa=>rpP (cs a))).map λps=>if m5 123 l=[] then .table ps else .rcd (strOf (m5 123 l)) ps
 else none
theorem Wg0(l:List Nat):rpt l=(N6 l).map Pt.d:=by
 unfold rpt N6;split
 ·rfl
 ·split
  ·cases o5 ((its (strOf l.tail.dropLast)).map λa=>rv (cs a))<;>rfl
  ·split
   ·unfold rpd
    have e:((its (strOf (W0 123 l).dropLast)).map λa=>rp (cs a))=(its (strOf (W0 123 l).dropLast)).map λa=>(rpP (cs a)).map pr:=L3 λa _=>Wr0 (cs a)
    rw[e,xn0];cases o5 ((its (strOf (W0 123 l).dropLast)).map λa=>rpP (cs a)) with
    | none=>rfl
    | some ps =>
     show some (if m5 123 l=[] then _ else _)=some (Pt.d (if m5 123 l=[] then _ else _));split<;>rfl
   ·rfl
theorem e40(many:Int):∀(items:List Str) (acc:List (Str×D)),G9 false many items acc=(o5 (items.map λa=>okv (cs a) many)).map λvs=>acc++vs.map λv=>(("" : Str),v)
 | [],acc=>by simp[G9,o5]
 | a::r,acc=>by
  unfold G9 zx0;rw[if_neg (by decide),List.map_cons];cases q:okv (cs a) many with
  | none=>rfl
  | some v =>
   show G9 false many r (acc++[(("" : Str),v)])=_;rw[e40 many r];show _=((o5 (r.map λa=>okv (cs a) many)).map (v::·)).map _;cases o5 (r.map λa=>okv (cs a) many) with
   | none=>rfl
   | some vs=>simp
theorem mu0(many:Int):∀(items:List Str) (acc acc':List (Str×D)),G9 true many items acc=some acc' ↔
  ∃ps,o5 (items.map λa=>rpP (cs a))=some ps/\acc'=acc++ps/\(∀p∈ps,isName p.1=true/\wj0 p.2 many=true)/\(ps.map (·.1)).Nodup/\∀p∈ps,p.1∉acc.map (·.1)
 | [],acc,acc'=>by
  constructor
  ·intro h
   cases h;exact⟨[],rfl,by simp,by simp,by simp,by simp⟩
  ·rintro⟨ps,h,rfl,_⟩
   cases h;simp[G9]
 | a::r,acc,acc'=>by
  have ih:=mu0 many r;unfold G9 zx0;rw[if_pos rfl,List.map_cons];unfold rpP
  by_cases h61:61∈cs a
  ·rw[if_pos h61,if_pos h61]
   unfold okv;cases q:rv (W0 61 (cs a)) with
   | none =>
    constructor
    ·intro h;cases h
    ·rintro⟨ps,h,_⟩;cases h
   | some v =>
    show (((if wj0 v many=true then some v else none:Option D).bind _).bind _=some acc')↔∃ps,(o5 (r.map λa=>rpP (cs a))).map ((strOf (m5 61 (cs a)),v)::·)=some ps/\_;constructor
    ·intro h
     split at h
     ·rename_i hv
      rw[Option.bind_some] at h;split at h
      ·rename_i hn
       rw[Option.bind_some] at h;obtain⟨ps,h1,h2,h3,h4,h5⟩:=(ih _ _).mp h;refine⟨(strOf (m5 61 (cs a)),v)::ps,by rw[h1];rfl,by rw[h2];simp,λp hp=>?_,?_,λp hp=>?_⟩
       ·rcases B1.mp hp with rfl|hp
        ·exact⟨hn.1,hv⟩
        ·exact h3 p hp
       ·rw[List.map_cons,List.nodup_cons]
        refine⟨λz=>?_,h4⟩;obtain⟨p,hp,e⟩:=A6.mp z;exact h5 p hp (by rw[List.map_append];exact C0 _ (by rw[e];exact M1.mpr rfl))
       ·rcases B1.mp hp with rfl|hp
        ·exact hn.2
        ·exact λz=>h5 p hp (by rw[List.map_append];exact L4 _ z)
      ·cases h
     ·cases h
    ·rintro⟨ps,h1,h2,h3,h4,h5⟩
     cases q2:o5 (r.map λa=>rpP (cs a)) with
     | none=>rw[q2] at h1;cases h1
     | some t =>
      rw[q2] at h1;cases h1;obtain⟨a1,a2⟩:=h3 _ A5;rw[if_pos a2,Option.bind_some,if_pos ⟨a1,h5 _ A5⟩,Option.bind_some];rw[List.map_cons,List.nodup_cons] at h4;refine(ih _ _).mpr ⟨t,q2,by rw[h2];simp,λp hp=>h3 p (A7 _ hp),h4.2,λp hp z=>?_⟩;rw[List.map_append] at z;rcases C7.mp z with z|z
      ·exact h5 p (A7 _ hp) z
      ·exact h4.1 (by rw[show (strOf (m5 61 (cs a)),v).1=p.1 from (M1.mp z).symm];exact S0 hp)
  ·rw[if_neg h61,if_neg h61]
   constructor
   ·intro h;cases h
   ·rintro⟨ps,h,_⟩;cases h
theorem ox0(h:l.head?=some c)(hc:c≠123)(hn:c∉cs nameS)(hm:123∈l):m5 123 l≠[]/\isName (strOf (m5 123 l))=false:=by
 cases l with
 | nil=>cases h
 | cons a t =>
  cases h;have e:m5 123 (c::t)=c::t.takeWhile λa=>!decide (a=123):=by
   unfold m5;rw[List.takeWhile_cons,if_pos (by rw[decide_eq_false hc];rfl)]
  rw[e];refine⟨M2 _ _,?_⟩;unfold isName hasAll;rw[V2,List.all_cons,decide_eq_false hn];simp
theorem y60{vs:List D}(hv:∀v∈vs,R6 v=true)(many:Int):(∀k∈vs.filterMap lk,k<many)↔vs.all (λd=>wj0 d many)=true:=by
 rw[List.all_eq_true];constructor
 ·intro h v hm
  exact(fi0 (hv v hm) many).mpr λk hk=>h k (P1.mpr ⟨v,hm,hk⟩)
 ·intro h k hk
  obtain⟨v,hm,e⟩:=P1.mp hk;exact(fi0 (hv v hm) many).mp (h v hm) k e
theorem gh0{items:List Str}{vs:List D}(h:o5 (items.map λa=>rv (cs a))=some vs):∀v∈vs,R6 v=true:=λv hv=>by
 obtain⟨a,_,e⟩:=xr0 h v hv;exact qg0 e
theorem mv0{items:List Str}(h:o5 (items.map λa=>rpP (cs a))=some ps):∀p∈ps,R6 p.2=true:=λp hp=>by
 obtain⟨a,_,e⟩:=xr0 h p hp;unfold rpP at e;split at e
 ·cases q:rv (W0 61 (cs a)) with
  | none=>rw[q] at e;cases e
  | some v=>rw[q] at e;cases e;exact qg0 q
 ·cases e
theorem bo0(many:Int)(items:List Str):o5 (items.map λa=>okv (cs a) many)=(o5 (items.map λa=>rv (cs a))).bind λvs=>if vs.all (λd=>wj0 d many)=true then some vs else none :=
 or0 (λa=>rv (cs a)) (λd=>wj0 d many) items
theorem jx0(x:Str)(many:Int)(acc:List (Str×D)):lst x many false=some acc↔∃vs,o5 ((its x).map λa=>rv (cs a))=some vs/\acc=vs.map (λv=>(("" : Str),v))/\vs.length<=12/\vs.all (λd=>wj0 d many)=true:=by
 unfold lst;rw[e40,bo0];cases q:o5 ((its x).map λa=>rv (cs a)) with
 | none =>
  constructor
  ·intro h;cases h
  ·rintro⟨vs,h,_⟩;cases h
 | some vs =>
  rw[Option.bind_some];constructor
  ·intro h
   split at h
   ·rename_i ha
    rw[Option.map_some,Option.bind_some,List.nil_append] at h;split at h
    ·rename_i hl
     rw[List.length_map] at hl;exact⟨vs,rfl,(B2 h).symm,hl,ha⟩
    ·cases h
   ·cases h
  ·rintro⟨O,e,rfl,hl,ha⟩
   cases e;rw[if_pos ha,Option.map_some,Option.bind_some,List.nil_append,if_pos (by rw[List.length_map];exact hl)]
theorem o50(x:Str)(many:Int)(acc:List (Str×D)):lst x many true=some acc↔o5 ((its x).map λa=>rpP (cs a))=some acc/\PsOk acc/\(acc.map (·.2)).all (λd=>wj0 d many)=true:=by
 unfold lst;constructor
 ·intro h
  cases q:G9 true many (its x) [] with
  | none=>rw[q] at h;cases h
  | some a =>
   rw[q,Option.bind_some] at h;split at h
   ·rename_i hl
    cases h;obtain⟨ps,h1,h2,h3,h4,_⟩:=(mu0 many (its x) [] acc).mp q;rw[List.nil_append] at h2;subst h2;exact⟨h1,⟨hl,λp hp=>(h3 p hp).1,mv0 h1,h4⟩,by rw[List.all_map,List.all_eq_true];exact λp hp=>(h3 p hp).2⟩
   ·cases h
 ·rintro⟨h1,h2,h3⟩
  rw[List.all_map,List.all_eq_true] at h3;rw[(mu0 many (its x) [] acc).mpr ⟨acc,h1,rfl,λp hp=>⟨h2.names p hp,h3 p hp⟩,h2.nd,λp _ z=>by cases z⟩,Option.bind_some,if_pos h2.len]
theorem fa0{d:D}(h:lpt l many=some d):∃p,N6 l=some p/\d=p.d/\p.Ok/\∀k∈p.links,k<many:=by
 unfold lpt at h;unfold N6
 by_cases h1:l.head?=some 39
 ·rw[if_pos h1] at h
  split at h
  ·rename_i hh
   cases h;refine⟨_,if_pos ⟨hh.1,h1,hh.2.1⟩,rfl,hh.2.2,λk hk=>by cases hk⟩
  ·cases h
 ·rw[if_neg h1] at h
  rw[if_neg λz=>h1 z.2.1]
  by_cases h2:l.head?=some 91
  ·rw[if_pos h2] at h
   split at h
   ·rename_i hh
    cases q:lst (strOf l.tail.dropLast) many false with
    | none=>rw[q] at h;cases h
    | some acc =>
     rw[q] at h;obtain⟨vs,a1,a2,a3,a4⟩:=(jx0 _ _ _).mp q;have hv:=gh0 a1;rw[if_pos ⟨h2,hh⟩,a1];refine⟨.row vs,rfl,?_,⟨a3,hv⟩,(y60 hv many).mpr a4⟩;have:acc.map (·.2)=vs:=by rw[a2,List.map_map];exact List.map_id' vs
     rw[Option.map_some,this] at h;exact(B2 h).symm
   ·cases h
  ·rw[if_neg h2] at h
   rw[if_neg λz=>h2 z.1];split at h
   ·rename_i hh
    rw[if_pos hh];cases q:lst (strOf (W0 123 l).dropLast) many true with
    | none=>rw[q] at h;cases h
    | some acc =>
     rw[q,Option.bind_some] at h;obtain⟨a1,a2,a3⟩:=(o50 _ _ _).mp q;have hv:∀v∈acc.map (·.2),R6 v=true:=λv hv=>by
      obtain⟨p,hp,rfl⟩:=A6.mp hv;exact a2.vals p hp
     rw[a1];split at h
     ·rename_i hc
      cases h;exact⟨.table acc,by rw[Option.map_some,if_pos hc],rfl,a2,(y60 hv many).mpr a3⟩
     ·rename_i hc
      split at h
      ·rename_i hn
       cases h;exact⟨.rcd (strOf (m5 123 l)) acc,by rw[Option.map_some,if_neg hc],rfl,⟨hn,a2⟩,(y60 hv many).mpr a3⟩
      ·cases h
   ·cases h
theorem Yf0(h:N6 l=some p)(ok:p.Ok)(hk:∀k∈p.links,k<many):lpt l many=some p.d:=by
 unfold N6 at h;unfold lpt;split at h
 ·rename_i hh
  cases h;rw[if_pos hh.2.1,if_pos ⟨hh.1,hh.2.2,ok⟩];rfl
 ·rename_i hh
  split at h
  ·rename_i h2
   have h1:¬l.head?=some 39:=λz=>by rw[z] at h2;cases h2.1
   rw[if_neg h1,if_pos h2.1,if_pos h2.2];cases q:o5 ((its (strOf l.tail.dropLast)).map λa=>rv (cs a)) with
   | none=>rw[q] at h;cases h
   | some vs =>
    rw[q] at h;cases h;have:=(jx0 (strOf l.tail.dropLast) many (vs.map λv=>(("" : Str),v))).mpr ⟨vs,q,rfl,ok.1,(y60 ok.2 many).mp hk⟩;rw[this,Option.map_some,List.map_map];show some (D.tup [.str "row",.tup (vs.map id)])=_;rw[List.map_id];rfl
  ·rename_i h2
   split at h
   ·rename_i h3
    cases q:o5 ((its (strOf (W0 123 l).dropLast)).map λa=>rpP (cs a)) with
    | none=>rw[q] at h;cases h
    | some ps =>
     rw[q,Option.map_some] at h;have h1:¬l.head?=some 39:=λz=>by
      obtain⟨n1,n2⟩:=ox0 z (by decide) (by decide +kernel) h3.1;rw[if_neg n1] at h;cases h;have:=ok.1;rw[n2] at this;cases this
     have h9:¬l.head?=some 91:=λz=>by
      obtain⟨n1,n2⟩:=ox0 z (by decide) (by decide +kernel) h3.1;rw[if_neg n1] at h;cases h;have:=ok.1;rw[n2] at this;cases this
     rw[if_neg h1,if_neg h9,if_pos h3];split at h
     ·rename_i hc
      cases h;have hv:∀v∈ps.map (·.2),R6 v=true:=λv hv=>by
       obtain⟨p,hp,rfl⟩:=A6.mp hv;exact PsOk.vals ok p hp
      rw[(o50 _ many ps).mpr ⟨q,ok,(y60 hv many).mp hk⟩,Option.bind_some,if_pos hc];rfl
     ·rename_i hc
      cases h;have hv:∀v∈ps.map (·.2),R6 v=true:=λv hv=>by
       obtain⟨p,hp,rfl⟩:=A6.mp hv;exact ok.2.vals p hp
      rw[(o50 _ many ps).mpr ⟨q,ok.2,(y60 hv many).mp hk⟩,Option.bind_some,if_neg hc,if_pos ok.1];rfl
   ·cases h
noncomputable def Short:Pt->Prop
 | .text w=>w.length<=sizeLine
 | .row vs=>vs.length<=sizeLine/\∀v∈vs,R6 v=true
 | .table ps=>ps.length<=sizeLine/\(∀p∈ps,p.1.length<=sizeLine)/\∀p∈ps,R6 p.2=true
 | .rcd c ps=>c.length<=sizeLine/\ps.length<=sizeLine/\(∀p∈ps,p.1.length<=sizeLine)/\∀p∈ps,R6 p.2=true
theorem oq0(h1:ps.length<=sizeLine)(h2:∀p∈ps,p.1.length<=sizeLine)(h3:∀p∈ps,R6 p.2=true):∃b,T3 [.tup (ps.map pr)]=some (.bl b)/\(b=true↔PsOk ps):=by
 refine⟨_,ja0 (ps.map pr) (by rw[List.length_map];exact h1) (λd hd=>by
  obtain⟨p,hp,rfl⟩:=A6.mp hd;exact h2 p hp),?_⟩
 have e1:(ps.map pr).map t90=ps.map (·.1):=by rw[List.map_map];rfl
 rw[e1,List.length_map,Bool.and_eq_true,Bool.and_eq_true,decide_eq_true_eq,decide_eq_true_eq,List.all_map,List.all_eq_true];constructor
 ·rintro⟨⟨a,b⟩,c⟩
  refine⟨by omega,λp hp=>?_,h3,(rs0 _).mp (by rw[List.length_map];omega)⟩;have:=b p hp;have q:(isName p.1&&R6 p.2)=true:=this;rw[Bool.and_eq_true] at q;exact q.1
 ·intro ok
  refine⟨⟨by have:=ok.len;omega,λp hp=>?_⟩,?_⟩
  ·show (isName p.1&&R6 p.2)=true
   rw[ok.names p hp,ok.vals p hp];rfl
  ·have:=(rs0 (ps.map (·.1))).mpr ok.nd
   rw[List.length_map] at this;omega
theorem ms0(h:Short p):∃b,Z0 [p.d]=some (.bl b)/\(b=true↔p.Ok):=by
 cases p with
 | text w =>
  refine⟨isWord w,?_,Iff.rfl⟩;show Z0 [.tup [.str "text",.str w]]=_;rw[n90];exact if_pos h
 | row vs =>
  refine⟨_,(mf0 (.tup vs)).trans (lr0 vs h.1),?_⟩;rw[Bool.and_eq_true,decide_eq_true_eq,List.all_eq_true];exact⟨λz=>⟨by have:=z.1;omega,z.2⟩,λz=>⟨by have:=z.1;omega,z.2⟩⟩
 | table ps =>
  obtain⟨b,h1,h2⟩:=oq0 h.1 h.2.1 h.2.2;exact⟨b,(ql0 _).trans h1,h2⟩
 | rcd c ps =>
  obtain⟨b,h1,h2⟩:=oq0 h.2.1 h.2.2.1 h.2.2.2;cases hc:isName c with
  | true =>
   refine⟨b,?_,h2.trans ⟨λz=>⟨hc,z⟩,λz=>z.2⟩⟩;show Z0 [.tup [.str "record",.str c,.tup (ps.map pr)]]=_;rw[vz0 (.str c) _ h.1,if_pos (show nameB (.str c)=true from hc),h1]
  | false =>
   refine⟨false,?_,⟨(λz=>by cases z),(λz=>by have:=z.1;rw[hc] at this;cases this)⟩⟩;show Z0 [.tup [.str "record",.str c,.tup (ps.map pr)]]=_;rw[vz0 (.str c) _ h.1,if_neg (show ¬nameB (.str c)=true by show ¬isName c=true;rw[hc];exact A8)]
theorem qa0(hz:x.length+2<=sizeLine){f:Str->Option α}{r:List α}(h:o5 ((its x).map f)=some r):r.length<=sizeLine:=by
 rw[xv0 h,List.length_map];exact sx0 x hz
theorem mr0(hz:x.length+2<=sizeLine)(h:o5 ((its x).map λa=>rpP (cs a))=some ps):∀p∈ps,p.1.length<=sizeLine:=λp hp=>by
 obtain⟨a,ha,e⟩:=xr0 h p hp;have hl:=vs0 ha;unfold rpP at e;split at e
 ·cases q:rv (W0 61 (cs a)) with
  | none=>rw[q] at e;cases e
  | some v =>
   rw[q] at e;cases e;show (strOf _).length<=_;rw[m8];have:=ux0 61 (cs a);rw[U7] at this;omega
 ·cases e
theorem ey0(hz:x.length+2<=sizeLine)(h:N6 (cs x)=some p):Short p:=by
 have hx:=U7 x;have ht:(strOf (cs x).tail.dropLast).length<=x.length:=by
  rw[m8,List.length_dropLast,List.length_tail];omega
 have hB:(strOf (W0 123 (cs x)).dropLast).length<=x.length:=by
  rw[m8,List.length_dropLast];have:=t20 123 (cs x);omega
 unfold N6 at h;split at h
 ·cases h
  show (strOf _).length<=_;omega
 ·split at h
  ·cases q:o5 ((its (strOf (cs x).tail.dropLast)).map λa=>rv (cs a)) with
   | none=>rw[q] at h;cases h
   | some vs =>
    rw[q] at h;cases h;exact⟨qa0 (by omega) q,gh0 q⟩
  ·split at h
   ·cases q:o5 ((its (strOf (W0 123 (cs x)).dropLast)).map λa=>rpP (cs a)) with
    | none=>rw[q] at h;cases h
    | some ps =>
     rw[q,Option.map_some] at h;split at h
     ·cases h
      exact⟨qa0 (by omega) q,mr0 (by omega) q,mv0 q⟩
     ·cases h
      refine⟨?_,qa0 (by omega) q,mr0 (by omega) q,mv0 q⟩;rw[m8];have:=ux0 123 (cs x);omega
   ·cases h
theorem lz0(x y:Str):Txt.split x y≠[]:=by
 unfold Txt.split;split
 ·simp
 ·split
  ·simp
  ·rw[StrLaws.partsBetween_eq]
   obtain⟨p,r,e⟩:=StrLaws.partsFrom_ne x y.length 0 (Builtin.Str.occurrences x y 0 x.length (x.length+1));rw[e];simp
theorem o00{f:β->Option α}{g:β->α}:∀{l:List β},(∀b∈l,f b=some (g b))->o5 (l.map f)=some (l.map g)
 | [],_=>rfl
 | b::l,h=>by
  rw[List.map_cons,h b A5];show (o5 (l.map f)).map (g b::·)=_;rw[o00 λc hc=>h c (A7 _ hc)];rfl
theorem l50{f:β->Option α}{g:β->Option γ}{h:α->γ}:∀{l:List β} {r:List α},o5 (l.map f)=some r->(∀b∈l,∀a∈r,f b=some a->g b=some (h a))->o5 (l.map g)=some (r.map h)
 | [],r,e,_=>by cases e;rfl
 | b::l,r,e,k=>by
  rw[List.map_cons] at e;cases q:f b with
  | none=>rw[q] at e;cases e
  | some a =>
   rw[q] at e;cases q2:o5 (l.map f) with
   | none=>rw[show o5 (some a::l.map f)=(o5 (l.map f)).map (a::·) from rfl,q2] at e;cases e
   | some t =>
    rw[show o5 (some a::l.map f)=(o5 (l.map f)).map (a::·) from rfl,q2] at e;cases e;have e1:=k b A5 a A5 q;have e3:=l50 q2 λb' hb a' ha=>k b' (A7 _ hb) a' (A7 _ ha)
    rw[List.map_cons,e1];show (o5 (l.map g)).map (h a::·)=_;rw[e3];rfl
theorem n00{f:β->Option α}{g:β->Option γ}{h:γ->α}:∀{l:List β} {r:List α},o5 (l.map f)=some r->(∀b∈l,∀a,f b=some a->∃c,g b=some c/\a=h c)->∃s,o5 (l.map g)=some s/\r=s.map h
 | [],r,e,_=>by cases e;exact⟨[],rfl,rfl⟩
 | b::l,r,e,k=>by
  rw[List.map_cons] at e;cases q:f b with
  | none=>rw[q] at e;cases e
  | some a =>
   rw[q] at e;cases q2:o5 (l.map f) with
   | none=>rw[show o5 (some a::l.map f)=(o5 (l.map f)).map (a::·) from rfl,q2] at e;cases e
   | some t =>
    rw[show o5 (some a::l.map f)=(o5 (l.map f)).map (a::·) from rfl,q2] at e;cases e;obtain⟨c,e1,e2⟩:=k b A5 a q;obtain⟨s,e3,e4⟩:=n00 q2 λb' hb=>k b' (A7 _ hb)
    refine⟨c::s,?_,by rw[List.map_cons,e2,e4]⟩;rw[List.map_cons,e1];show (o5 (l.map g)).map (c::·)=_;rw[e3];rfl
theorem ni0{f:β->Option α}:∀{l:List β} {r:List α},o5 (l.map f)=some r->∀b∈l,∃a,f b=some a
 | [],r,_,b,hb=>by cases hb
 | c::t,r,hr,b,hb=>by
  rw[List.map_cons] at hr;cases q2:f c with
  | none=>rw[q2] at hr;cases hr
  | some d2 =>
   rw[q2] at hr;rcases B1.mp hb with rfl|hb
   ·exact⟨d2,q2⟩
   ·cases q3:o5 (t.map f) with
    | none=>rw[show o5 (some d2::t.map f)=(o5 (t.map f)).map (d2::·) from rfl,q3] at hr;cases hr
    | some r'=>exact ni0 q3 b hb
theorem ut0{d:D}(h:due x=some d):∃ps,o5 ((Txt.split x "; ").map λa=>N6 (cs a))=some ps/\d=.tup (ps.map Pt.d)/\(∀p∈ps,p.Ok)/\∀p∈ps,∀k∈p.links,k<(ps.length:Int):=by
 unfold due at h;cases q:o5 ((Txt.split x "; ").map λa=>lpt (cs a) ((Txt.split x "; ").length:Int)) with
 | none=>rw[q] at h;cases h
 | some ds =>
  rw[q] at h;cases h;obtain⟨ps,h1,h2⟩:=n00 (g:=λa=>N6 (cs a)) (h:=Pt.d) q λb hb a e=>by
   obtain⟨p,e1,e2,_⟩:=fa0 e;exact⟨p,e1,e2⟩
  have hl:ps.length=(Txt.split x "; ").length:=by rw[xv0 h1,List.length_map]
  have O:∀p∈ps,p.Ok/\∀k∈p.links,k<(ps.length:Int):=λp hp=>by
   obtain⟨a,ha,e⟩:=xr0 h1 p hp;have:=ni0 q a ha;obtain⟨d,hd⟩:=this;obtain⟨p',e1,_,e3,e4⟩:=fa0 hd;rw[e] at e1;cases e1;exact⟨e3,by rw[hl];exact e4⟩
  exact⟨ps,h1,B7 D.tup h2,λp hp=>(O p hp).1,λp hp=>(O p hp).2⟩
theorem fo0{ps:List Pt}(h:o5 ((Txt.split x "; ").map λa=>N6 (cs a))=some ps)(ok:∀p∈ps,p.Ok)(hk:∀p∈ps,∀k∈p.links,k<(ps.length:Int)):due x=some (.tup (ps.map Pt.d)):=by
 have hl:ps.length=(Txt.split x "; ").length:=by rw[xv0 h,List.length_map]
 have h1:=l50 (g:=λa=>lpt (cs a) ((Txt.split x "; ").length:Int)) (h:=Pt.d) h λb hb p hp e=>Yf0 e (ok p hp) (by rw[← hl];exact hk p hp)
 unfold due;rw[h1];rfl
theorem both(x:Str)(hz:x.length+4<=sizeLine)(h60:(Txt.split x "; ").length<=60)(hn:∀ps,o5 ((Txt.split x "; ").map λa=>N6 (cs a))=some ps->(∀p∈ps,p.Ok)->(Q5 (ps.flatMap Pt.all)).length<=60) :
  T6 [.str x]=some (toX (due x)):=by
 have e:((Txt.split x "; ").map λa=>rpt (cs a))=(Txt.split x "; ").map λa=>(N6 (cs a)).map Pt.d:=L3 λa _=>Wg0 (cs a)
 cases q:o5 ((Txt.split x "; ").map λa=>N6 (cs a)) with
 | none =>
  have hd:due x=none:=by
   cases q2:due x with
   | none=>rfl
   | some d =>
    obtain⟨ps,h1,_⟩:=ut0 q2;rw[q] at h1;cases h1
  have r:=po0 x (by omega) (λ_=>true) λps U=>by
   rw[e,xn0,q] at U;cases U
  rw[r,hd,e,xn0,q];rfl
 | some ps =>
  have hl:ps.length=(Txt.split x "; ").length:=by rw[xv0 q,List.length_map]
  have O:ps≠[]:=λz=>by
   rw[z] at hl;exact lz0 x "; " (E3.mp hl.symm)
  have sh:∀p∈ps,Short p:=λp hp=>by
   obtain⟨a,ha,e⟩:=xr0 q p hp;have:=R1 ha;exact ey0 (by omega) e
  have S:∀b,J5 [.tup (ps.map Pt.d)]=some (.bl b)->T6 [.str x]=some (toX (if b=true then some (.tup (ps.map Pt.d)) else none)):=λb hb=>by
   have r:=po0 x (by omega) (λ_=>b) λds Y=>by
    rw[e,xn0,q] at Y;cases Y;exact hb
   rw[r,e,xn0,q];rfl
  by_cases hok:∀p∈ps,p.Ok
  ·by_cases hk:∀p∈ps,∀k∈p.links,k<(ps.length:Int)
   ·rw[S true (WebOk.web ⟨O,by omega,hok,hk,hn ps q hok⟩),fo0 q hok hk]
    rfl
   ·have a1:∃p∈ps,∃k∈p.links,(ps.length:Int)<=k:=Classical.byContradiction λz=>hk λp hp k Z=>by
     have:¬(ps.length:Int)<=k:=λw=>z ⟨p,hp,k,Z,w⟩
     omega
    have hd:due x=none:=by
     cases q2:due x with
     | none=>rfl
     | some d =>
      obtain⟨a0,h1,_,_,h4⟩:=ut0 q2;rw[q] at h1;cases h1;exact absurd h4 hk
    rw[S false (by0 ps O (by omega) hok a1),hd];rfl
  ·have hd:due x=none:=by
    cases q2:due x with
    | none=>rfl
    | some d =>
     obtain⟨a0,h1,_,h3,_⟩:=ut0 q2;rw[q] at h1;cases h1;exact absurd h3 hok
   obtain⟨f,hf⟩:∃f:D->Bool,∀d∈ps.map Pt.d,Z0 [d]=some (.bl (f d)):=by
    refine⟨λd=>match Z0 [d] with|some (.bl b)=>b|_=>false,λd hd=>?_⟩;obtain⟨p,hp,rfl⟩:=A6.mp hd;obtain⟨b,h1,_⟩:=ms0 (sh p hp);show Z0 [p.d]=some (.bl (match Z0 [p.d] with|some (.bl b)=>b|_=>false));rw[h1]
   have hb:(ps.map Pt.d).all f=false:=by
    rw[← Bool.not_eq_true,List.all_eq_true];intro z;refine hok λp hp=>?_
    obtain⟨b,h1,h2⟩:=ms0 (sh p hp);have h3:=hf p.d (S0 hp);have h4:=z p.d (S0 hp);rw[h1] at h3;have h5:b=f p.d:=by
     have:=B2 h3;cases this;rfl
    exact h2.mp (h5.trans h4)
   rw[S false (bg0 (ps.map Pt.d) (by simpa using O) (by rw[List.length_map];omega) f hf hb),hd];rfl
noncomputable def words(r:Option D):D:=if r.isSome=true then .lst [] else .lst [.bl true,.bl true,.bl false]
theorem ss0(d:D)(r:Option D)(h:T6 [d]=some (toX r)):Y8 [d]=some (.tup [oD r,words r]):=by
 have hc:p60 (z7 (gv 0) z9) T6 1 [.sh d,.sh .non,.ow (.lst []),.un]=some (d20 1 [.sh d,.sh .non,.ow (.lst []),.un] (toX r)):=by
  unfold p60;rw[show z7 (gv 0) z9 [.sh d,.sh .non,.ow (.lst []),.un]=some [d] from rfl,Option.bind_some,h];rfl
 refine Y5 rfl (p7 (b8 rfl) (p7 (δ':=[.sh d,.sh .non,.ow (.lst []),.un]) rfl ?_));cases r with
 | some v =>
  refine p7 (δ':=[.sh d,.sh v,.ow (.lst []),.un]) ?_ (n8 rfl);unfold mi0 V8;rw[hc];rfl
 | none =>
  refine p7 (δ':=[.sh d,.sh .non,.ow (.lst [.bl true,.bl true,.bl false]),.un]) ?_ (n8 rfl);unfold mi0 V8;rw[hc];rfl
abbrev ct(c:Nat)(x:Str):Nat:=(cs x).count c
theorem l00(x y:Str):cs (x++y)=cs x++cs y:=by
 show (x.cps++y.cps).toList=_;simp
theorem jd0(c:Nat)(y:Str):∀ps:List Str,ps≠[]->ct c (Str.join y ps)+ct c y=(ps.map (ct c)).sum+ps.length*ct c y
 | [],h=>absurd rfl h
 | [x],_=>by
  show ct c x+ct c y=_;simp
 | x::z::r,_=>by
  have ih:=jd0 c y (z::r) (M2 _ _);show ct c (x++y++Str.join y (z::r))+ct c y=_;unfold ct at *;rw[l00,l00,List.count_append,List.count_append,List.map_cons,List.sum_cons,List.length_cons,Nat.succ_mul];omega
theorem q30(c:Nat)(x y:Str):ct c x+ct c y=((Txt.split x y).map (ct c)).sum+(Txt.split x y).length*ct c y:=by
 have:=jd0 c y (Txt.split x y) (lz0 x y);rw[StrLaws.join_split] at this;exact this
theorem Zz0(x:Str):((its x).map (ct 61)).sum<=ct 61 x:=by
 unfold its;split
 ·simp
 ·have:=q30 61 x ", "
  have e:ct 61 (", " : Str)=0:=by decide +kernel
  rw[e] at this;omega
theorem W80{p:Str×D}(h:rpP (cs a)=some p):1<=ct 61 a:=by
 unfold rpP at h;split at h
 ·rename_i hm
  exact List.count_pos_iff.mpr hm
 ·cases h
theorem cx0:∀{items:List Str} {ps:List (Str×D)},o5 (items.map λa=>rpP (cs a))=some ps->ps.length<=(items.map (ct 61)).sum
 | [],ps,h=>by cases h;simp
 | a::r,ps,h=>by
  rw[List.map_cons] at h;cases q:rpP (cs a) with
  | none=>rw[q] at h;cases h
  | some p =>
   rw[q] at h;cases q2:o5 (r.map λa=>rpP (cs a)) with
   | none=>rw[show o5 (some p::r.map λa=>rpP (cs a))=(o5 (r.map λa=>rpP (cs a))).map (p::·) from rfl,q2] at h;cases h
   | some t =>
    rw[show o5 (some p::r.map λa=>rpP (cs a))=(o5 (r.map λa=>rpP (cs a))).map (p::·) from rfl,q2] at h;cases h;have:=cx0 q2;have h1:=W80 q;rw[List.map_cons,List.sum_cons,List.length_cons];omega
theorem Yn0(h:N6 (cs a)=some p):p.all.length<=ct 61 a+1:=by
 unfold N6 at h;split at h
 ·cases h;exact C3 _
 ·split at h
  ·cases q:o5 ((its (strOf (cs a).tail.dropLast)).map λa=>rv (cs a)) with
   | none=>rw[q] at h;cases h
   | some vs=>rw[q] at h;cases h;exact C3 _
  ·split at h
   ·cases q:o5 ((its (strOf (W0 123 (cs a)).dropLast)).map λa=>rpP (cs a)) with
    | none=>rw[q] at h;cases h
    | some ps =>
     rw[q,Option.map_some] at h;have h1:=cx0 q;have h2:=Zz0 (strOf (W0 123 (cs a)).dropLast);have h3:ct 61 (strOf (W0 123 (cs a)).dropLast)<=ct 61 a:=by
      unfold ct;rw[Q0];refine((List.dropLast_sublist _).trans ((List.tail_sublist _).trans (B00 _))).count_le _
     split at h
     ·cases h
      show (ps.map (λp=>p.1)++([]:List Str)).length<=_;rw[List.append_nil,List.length_map];omega
     ·cases h
      show (ps.map (λp=>p.1)++([_]:List Str)).length<=_;rw[List.length_append,List.length_map];simp only[List.length_cons,List.length_nil];omega
   ·cases h
theorem i40:∀{l:List Str} {ps:List Pt},o5 (l.map λa=>N6 (cs a))=some ps->(ps.flatMap Pt.all).length<=(l.map (ct 61)).sum+l.length
 | [],ps,h=>by cases h;simp
 | a::r,ps,h=>by
  rw[List.map_cons] at h;cases q:N6 (cs a) with
  | none=>rw[q] at h;cases h
  | some p =>
   rw[q] at h;cases q2:o5 (r.map λa=>N6 (cs a)) with
   | none=>rw[show o5 (some p::r.map λa=>N6 (cs a))=(o5 (r.map λa=>N6 (cs a))).map (p::·) from rfl,q2] at h;cases h
   | some t =>
    rw[show o5 (some p::r.map λa=>N6 (cs a))=(o5 (r.map λa=>N6 (cs a))).map (p::·) from rfl,q2] at h;cases h;have:=i40 q2;have h1:=Yn0 q;rw[List.map_cons,List.sum_cons,List.length_cons,List.flatMap_cons,List.length_append];omega
theorem eg0(l:List Str):(Q5 l).length<=l.length:=aq0 l l λ_ h=>h
theorem cw0(x:Str)(hz:x.length<=100000)(hc:ct 61 x+ct 59 x<=59):T6 [.str x]=some (toX (due x))/\P0 [.str x]=some (oD (due x)):=by
 have hs:(100004:Nat)<=sizeLine:=by decide
 have e1:=q30 59 x "; ";have e2:=q30 61 x "; ";rw[show ct 59 ("; " : Str)=1 by decide +kernel] at e1;rw[show ct 61 ("; " : Str)=0 by decide +kernel] at e2;refine⟨both x (by omega) (by omega) λps h _=>?_,Xh0 x (by omega) (by omega)⟩;have h1:=i40 h;have h2:=eg0 (ps.flatMap Pt.all);omega
theorem mb0(a b:List Nat):strOf a++strOf b=strOf (a++b):=ww0 (by rw[l00,Q0,Q0,Q0])
theorem J3{a b:List Nat}(h1:ga δ=some (.str (strOf a)))(h2:gb δ=some (.str (strOf b)))(h:a.length+b.length<=100000):o2 ga gb o8 δ=some (.str (strOf (a++b))):=by
 have:(100000:Nat)<=sizeLine:=by decide
 rw[d9 h1 h2];show (if (strOf a).length+(strOf b).length<=sizeLine then some (D.str (strOf a++strOf b)) else none)=_;rw[m8,m8,if_pos (by omega),mb0]
theorem di0(sep:List Nat):∀parts:List (List Nat),Txt.join (strOf sep) (parts.map strOf)=strOf (o7 sep parts):=by
 intro parts;unfold Txt.join;rw[StrLaws.glued_eq_join]
 induction parts with
 | nil=>rfl
 | cons p r ih =>
  cases r with
  | nil=>rfl
  | cons q r =>
   show strOf p++strOf sep++PySem.Str.join (strOf sep) ((q::r).map strOf)=strOf (p++sep++o7 sep (q::r));rw[ih,mb0,mb0]
theorem xp0{S:PySem.Str}(sep:List Nat)(parts:List (List Nat))(B:Nat)(hS:S=strOf sep)(hg:g δ=some (.lst (parts.map λp=>D.str (strOf p))))(hB:∀p∈parts,p.length<=B)(hz:parts.length*(B+sep.length)<=16777216) :
  R3 (gc (.str S)) (z7 g z9) δ=some (.str (strOf (o7 sep parts))):=by
 have O:∀l:List (List Nat),(∀p∈l,p.length<=B)->((l.map strOf).map (·.length)).sum<=l.length*B:=by
  intro l
  induction l with
  | nil=>intro _;simp
  | cons p l ih =>
   intro h;have:=ih λq hq=>h q (A7 _ hq)
   have:=h p A5;rw[List.map_cons,List.map_cons,List.sum_cons,List.length_cons,m8,Nat.add_mul];omega
 have e1:=strs_map strOf parts;rw[bw0 (x:=.str S) (ds:=[.lst (parts.map λp=>D.str (strOf p))]) rfl (cons_of hg rfl)];simp only[m70];rw[e1,Option.bind_some,if_pos,hS,di0];have:=O parts hB;rw[hS,m8,List.length_map];rw[Nat.mul_add] at hz;omega
theorem yd0(sep:List Nat)(B:Nat):∀parts:List (List Nat),(∀p∈parts,p.length<=B)->(o7 sep parts).length<=parts.length*(B+sep.length)
 | [],_=>by simp[o7]
 | [p],h=>by
  show p.length<=_;have:=h p A5;simp only[List.length_cons,List.length_nil];omega
 | p::q::r,h=>by
  have:=yd0 sep B (q::r) λt ht=>h t (A7 _ ht)
  have:=h p A5;show (p++sep++o7 sep (q::r)).length<=((q::r).length+1)*(B+sep.length);rw[List.length_append,List.length_append,Nat.add_mul];omega
theorem s30(sep:List Nat):∀(parts:List (List Nat)) (c:Nat),c∈o7 sep parts->c∈sep∨∃p∈parts,c∈p
 | [],c,h=>by cases h
 | [p],c,h=>.inr ⟨p,A5,h⟩
 | p::q::r,c,h=>by
  rcases C7.mp h with h|h
  ·rcases C7.mp h with h|h
   ·exact .inr ⟨p,A5,h⟩
   ·exact .inl h
  ·rcases s30 sep (q::r) c h with z|⟨t,ht,z⟩
   ·exact .inl z
   ·exact .inr ⟨t,A7 _ ht,z⟩
theorem ri0(c:Nat)(sep:List Nat)(B:Nat)(hs:sep.count c=0):∀parts:List (List Nat),(∀p∈parts,p.count c<=B)->(o7 sep parts).count c<=parts.length*B
 | [],_=>by simp[o7]
 | [p],h=>by
  show p.count c<=_;have:=h p A5;simp only[List.length_cons,List.length_nil];omega
 | p::q::r,h=>by
  have:=ri0 c sep B hs (q::r) λt ht=>h t (A7 _ ht)
  have:=h p A5;show (p++sep++o7 sep (q::r)).count c<=((q::r).length+1)*B;rw[List.count_append,List.count_append,Nat.add_mul,hs];omega
structure GoodV(v:List Nat)(many:Int):Prop where
 ok:∃d,okv v many=some d
 len:v.length<=4
 ne:v≠[]
 clean:∀c∈v,c≠44/\c≠59/\c≠61
noncomputable def Yl0(v:List Nat):Bool:=(match rv v with|some (.int _)=>true|_=>false)&&decide (v.length<=4)&&!v.isEmpty&&v.all λc=>!decide (c=44)&&!decide (c=59)&&!decide (c=61)
noncomputable def Y70(k:Nat):Bool:=(match rv (64::dg k) with|some (.tup [_,.int n])=>decide (n=(k:Int))|_=>false)&&decide ((64::dg k).length<=4)&&(64::dg k).all λc=>!decide (c=44)&&!decide (c=59)&&!decide (c=61)
theorem cg0:∀k∈List.range 41,Yl0 (ig ((k:Int) - 20))=true:=by decide +kernel
theorem f40:∀k∈List.range 7,Y70 k=true:=by decide +kernel
theorem le0{v:List Nat}(h:(v.all λc=>!decide (c=44)&&!decide (c=59)&&!decide (c=61))=true):∀c∈v,c≠44/\c≠59/\c≠61:=λc hc=>by
 have:=K0.mp h c hc;simp only[Bool.and_eq_true,Bool.not_eq_true',decide_eq_false_iff_not] at this;exact⟨this.1.1,this.1.2,this.2⟩
theorem d40(i:Int)(h0:-20<=i)(h1:i<=20)(many:Int):GoodV (ig i) many:=by
 have:=cg0 (i+20).toNat (B4.mpr (by omega));rw[show (((i+20).toNat:Nat):Int) - 20=i by omega] at this;unfold Yl0 at this;simp only[Bool.and_eq_true,decide_eq_true_eq,Bool.not_eq_true',List.isEmpty_eq_false_iff] at this;obtain⟨⟨⟨a,b⟩,c⟩,d⟩:=this;refine⟨?_,b,c,le0 d⟩;split at a
 ·rename_i n e
  exact⟨.int n,by unfold okv;rw[e];rfl⟩
 ·cases a
theorem nl0(k:Nat)(many:Int)(h:(k:Int)<many)(h7:many<=7):GoodV (64::dg k) many:=by
 have:=f40 k (B4.mpr (by omega));unfold Y70 at this;simp only[Bool.and_eq_true,decide_eq_true_eq] at this;obtain⟨⟨a,b⟩,d⟩:=this;refine⟨?_,b,M2 _ _,le0 d⟩;split at a
 ·rename_i s n e
  have en:n=(k:Int):=n0 a;refine⟨.tup [s,.int n],?_⟩;unfold okv;rw[e,Option.bind_some,if_pos (show wj0 (D.tup [s,D.int n]) many=true from E4 (by omega))]
 ·cases a
theorem et0(many:Int):GoodV [110,105,108] many:=by
 refine⟨⟨.non,?_⟩,by decide,by decide,by decide⟩;unfold okv rv;rw[if_pos rfl];rfl
theorem str_int(h:g δ=some (.int i))(h0:-1000<=i)(h1:i<=1000):oA (z7 g z9) strOfD δ=some (.str (strOf (ig i))):=by
 rw[X5 (ds:=[.int i]) (cons_of h rfl),← Ys0];show (if i.natAbs.log2<1920 then _ else _)=_;rw[if_pos];have:i.natAbs.log2<=i.natAbs:=Nat.log2_le_self _;omega
theorem Xy0(x many:Int)(hx:0<=x)(h1:1<=many)(h7:many<=7):∃v,T9 [.int x,.int many]=some (.str (strOf v))/\GoodV v many:=by
 obtain⟨δ,hδ⟩:∃δ:Ds,δ=[.sh (.int x),.sh (.int many)]:=⟨_,rfl⟩;have q1:o2 (o2 (o2 (gv 0) (gc (.int 4)) W7) (gc (.int 41)) Z8) (gc (.int 20)) y70 δ=some (.int (x/4%41 - 20)):=by rw[hδ];rfl
 have q2:o2 (o2 (gv 0) (gc (.int 4)) W7) (gv 1) Z8 δ=some (.int (x/4%many)):=by
  rw[hδ];show (if (0:Int)<many then some (D.int (x/4%many)) else none)=_;rw[if_pos (by omega)]
 have q3:o2 (o2 (gv 0) (gc (.int 9)) W7) (gv 1) Z8 δ=some (.int (x/9%many)):=by
  rw[hδ];show (if (0:Int)<many then some (D.int (x/9%many)) else none)=_;rw[if_pos (by omega)]
 have a1:=C4 (x/4) (show (41:Int)≠0 by decide);have a2:=C5 (x/4) (show (0:Int)<41 by decide);have b1:=C4 (x/4) (show many≠0 by omega);have b2:=C5 (x/4) (show (0:Int)<many by omega);have c1:=C4 (x/9) (show many≠0 by omega);have c2:=C5 (x/9) (show (0:Int)<many by omega);have d1:=C4 x (show (4:Int)≠0 by decide);have d2:=C5 x (show (0:Int)<4 by decide);have Y:ig (x/4%many)=dg (x/4%many).toNat:=by unfold ig;rw[if_pos b1]
 have U:ig (x/9%many)=dg (x/9%many).toNat:=by unfold ig;rw[if_pos c1]
 have g2:=nl0 (x/4%many).toNat many (by omega) h7;have g3:=nl0 (x/9%many).toNat many (by omega) h7;have S:gc (.str "@") δ=some (.str (strOf [64])):=by show some (D.str "@")=_;congr 2
 have e2:=J3 (gb:=oA (z7 (o2 (o2 (gv 0) (gc (.int 4)) W7) (gv 1) Z8) z9) strOfD) S (str_int q2 (by omega) (by omega)) (by rw[Y];have:=g2.len;simp only[List.length_cons,List.length_nil] at this ⊢;omega);have e3:=J3 (gb:=oA (z7 (o2 (o2 (gv 0) (gc (.int 9)) W7) (gv 1) Z8) z9) strOfD) S (str_int q3 (by omega) (by omega)) (by rw[U];have:=g3.len;simp only[List.length_cons,List.length_nil] at this ⊢;omega);rw[Y] at e2;rw[U] at e3;have l:j4 (z7 (gc (.str "nil")) (z7 (oA (z7 (o2 (o2 (o2 (gv 0) (gc (.int 4)) W7) (gc (.int 41)) Z8) (gc (.int 20)) y70) z9) strOfD) (z7 (o2 (gc (.str "@")) (oA (z7 (o2 (o2 (gv 0) (gc (.int 4)) W7) (gv 1) Z8) z9) strOfD) o8) (z7 (o2 (gc (.str "@")) (oA (z7 (o2 (o2 (gv 0) (gc (.int 9)) W7) (gv 1) Z8) z9) strOfD) o8) z9)))) δ
  =some (.lst [.str "nil",.str (strOf (ig (x/4%41 - 20))),.str (strOf (64::dg (x/4%many).toNat)),.str (strOf (64::dg (x/9%many).toNat))]) :=
  sb0 (cons_of rfl (cons_of (str_int q1 (by omega) (by omega)) (cons_of e2 (cons_of e3 rfl)))) (by show 4<=sizeLine;decide)
 have ret:∀v,ixD (.lst [.str "nil",.str (strOf (ig (x/4%41 - 20))),.str (strOf (64::dg (x/4%many).toNat)),.str (strOf (64::dg (x/9%many).toNat))]) (.int (x%4))=some (.str (strOf v))->T9 [.int x,.int many]=some (.str (strOf v)):=λv h=>by
  refine Y5 rfl (n8 (U3 ?_));show _=some (D.str (strOf v));rw[← h];have hd:W8 wn0 [.int x,.int many]=δ:=by rw[hδ];rfl
  rw[hd];exact d9 l (by rw[hδ];rfl)
 have O:x%4=0∨x%4=1∨x%4=2∨x%4=3:=by omega
 rcases O with h|h|h|h
 ·exact⟨[110,105,108],ret _ (by rw[h];show some (D.str "nil")=_;congr 2),et0 many⟩
 ·exact⟨_,ret _ (by rw[h];rfl),d40 (x/4%41 - 20) (by omega) (by omega) many⟩
 ·exact⟨_,ret _ (by rw[h];rfl),g2⟩
 ·exact⟨_,ret _ (by rw[h];rfl),g3⟩
structure GoodT(t:List Nat)(many:Int):Prop where
 ok:∃p,N6 t=some p/\p.Ok/\∀k∈p.links,k<many
 semi:59∉t
 eqs:t.count 61<=3
 len:t.length<=60
theorem mz0(vs:List (List Nat))(h:∀v∈vs,v≠[]/\44∉v):its (strOf (o7 [44,32] vs))=vs.map strOf:=by
 unfold its;rw[Q0];cases vs with
 | nil=>rfl
 | cons v r =>
  have hv:=h v A5;have O:o7 [44,32] (v::r)≠[]:=by
   cases r with
   | nil=>exact hv.1
   | cons q r =>
    show v++[44,32]++_≠[];intro z;have:=B7 List.length z;simp only[List.length_append,List.length_cons,List.length_nil] at this;omega
  rw[if_neg O,show (", " : Str)=strOf [44,32] by decide +kernel];exact v10 44 [32] (by decide +kernel) (v::r) (M2 _ _) λp hp=>(h p hp).2
noncomputable def nm:Nat->List Nat
 | 0=>[97]
 | 1=>[98,98]
 | _=>[99,49]
section
variable{V:Nat->List Nat}(hV:∀j,j<n->GoodV (V j) many)(hn:n<=3)
include hV hn
theorem ch0:∃ds:List D,o5 (((List.range n).map λj=>strOf (V j)).map λa=>rv (cs a))=some ds/\ds.length=n/\(∀v∈ds,R6 v=true)/\∀k∈ds.filterMap lk,k<many:=by
 have h:∃d:Nat->D,∀j,j<n->okv (V j) many=some (d j):=by
  refine⟨λj=>(okv (V j) many).getD .non,λj hj=>?_⟩;obtain⟨d,e⟩:=(hV j hj).ok;show okv (V j) many=some ((okv (V j) many).getD .non);rw[e];rfl
 obtain⟨d,hd⟩:=h;have hr:∀j,j<n->rv (V j)=some (d j)/\wj0 (d j) many=true:=λj hj=>by
  have:=hd j hj;unfold okv at this;cases q:rv (V j) with
  | none=>rw[q] at this;cases this
  | some e =>
   rw[q,Option.bind_some] at this;split at this
   ·cases this;exact⟨rfl,by assumption⟩
   ·cases this
 have hb:∀v∈(List.range n).map d,R6 v=true:=λv hv=>by
  obtain⟨j,hj,rfl⟩:=A6.mp hv;exact qg0 (hr j (B4.mp hj)).1
 refine⟨(List.range n).map d,?_,by simp,hb,(y60 hb many).mpr (K0.mpr λv hv=>?_)⟩
 ·rw[List.map_map]
  exact o00 λj hj=>by
   show rv (cs (strOf (V j)))=_;rw[Q0];exact(hr j (B4.mp hj)).1
 ·obtain⟨j,hj,rfl⟩:=A6.mp hv
  exact(hr j (B4.mp hj)).2
theorem f50:∃ps:List (Str×D),o5 (((List.range n).map λj=>strOf (nm j++61::V j)).map λa=>rpP (cs a))=some ps/\PsOk ps/\∀k∈(ps.map (·.2)).filterMap lk,k<many:=by
 have h:∃d:Nat->D,∀j,j<n->okv (V j) many=some (d j):=by
  refine⟨λj=>(okv (V j) many).getD .non,λj hj=>?_⟩;obtain⟨d,e⟩:=(hV j hj).ok;show okv (V j) many=some ((okv (V j) many).getD .non);rw[e];rfl
 obtain⟨d,hd⟩:=h;have hr:∀j,j<n->rv (V j)=some (d j)/\wj0 (d j) many=true:=λj hj=>by
  have:=hd j hj;unfold okv at this;cases q:rv (V j) with
  | none=>rw[q] at this;cases this
  | some e =>
   rw[q,Option.bind_some] at this;split at this
   ·cases this;exact⟨rfl,by assumption⟩
   ·cases this
 have S:∀j,61∉nm j:=λj=>by
  match j with
  | 0=>decide
  | 1=>decide
  | k+2=>show 61∉[99,49];decide
 have O:∀j,isName (strOf (nm j))=true:=λj=>by
  match j with
  | 0=>decide +kernel
  | 1=>decide +kernel
  | k+2=>show isName (strOf [99,49])=true;decide +kernel
 have hb:∀v∈((List.range n).map λj=>(strOf (nm j),d j)).map (·.2),R6 v=true:=λv hv=>by
  rw[List.map_map] at hv;obtain⟨j,hj,rfl⟩:=A6.mp hv;exact qg0 (hr j (B4.mp hj)).1
 refine⟨(List.range n).map λj=>(strOf (nm j),d j),?_,⟨by simp;omega,λp hp=>?_,λp hp=>hb p.2 (S0 hp),?_⟩,(y60 hb many).mpr (K0.mpr λv hv=>?_)⟩
 ·rw[List.map_map]
  exact o00 λj hj=>by
   show rpP (cs (strOf (nm j++61::V j)))=_;rw[Q0];unfold rpP;obtain⟨e1,e2⟩:=rb0 61 (V j) (nm j) (S j);rw[if_pos (by simp),e1,e2,(hr j (B4.mp hj)).1];rfl
 ·obtain⟨j,_,rfl⟩:=A6.mp hp
  exact O j
 ·rw[List.map_map]
  show ((List.range n).map λj=>strOf (nm j)).Nodup;have:n=0∨n=1∨n=2∨n=3:=by omega
  rcases this with rfl|rfl|rfl|rfl
  ·decide +kernel
  ·decide +kernel
  ·decide +kernel
  ·decide +kernel
 ·rw[List.map_map] at hv
  obtain⟨j,hj,rfl⟩:=A6.mp hv;exact(hr j (B4.mp hj)).2
theorem b70(hc:c∈o7 [44,32] ((List.range n).map V)):c≠59/\c≠61:=by
 rcases s30 _ _ _ hc with z|⟨p,hp,z⟩
 ·simp only[List.mem_cons,List.not_mem_nil,or_false] at z
  omega
 ·obtain⟨j,hj,rfl⟩:=A6.mp hp
  exact((hV j (B4.mp hj)).clean c z).2
theorem Xq0(hc:c∈o7 [44,32] ((List.range n).map λj=>nm j++61::V j)):c≠59:=by
 rcases s30 _ _ _ hc with z|⟨p,hp,z⟩
 ·simp only[List.mem_cons,List.not_mem_nil,or_false] at z
  omega
 ·obtain⟨j,hj,rfl⟩:=A6.mp hp
  rcases C7.mp z with z|z
  ·match j,z with
   | 0,z=>simp[nm] at z;omega
   | 1,z=>simp[nm] at z;omega
   | k+2,z=>simp[nm] at z;omega
  ·rcases B1.mp z with z|z
   ·omega
   ·exact((hV j (B4.mp hj)).clean c z).2.1
theorem fc0(j:Nat):(nm j).length<=2:=by
 match j with
 | 0=>decide
 | 1=>decide
 | k+2=>show[99,49].length<=2;decide
theorem dk0:GoodT (91::(o7 [44,32] ((List.range n).map V)++[93])) many:=by
 have hl:=yd0 [44,32] 4 ((List.range n).map V) λp hp=>by
  obtain⟨j,hj,rfl⟩:=A6.mp hp;exact(hV j (B4.mp hj)).len
 rw[List.length_map,List.length_range] at hl;simp only[List.length_cons,List.length_nil] at hl;obtain⟨ds,h1,h2,h3,h4⟩:=ch0 hV hn;have hi:=mz0 ((List.range n).map V) λv hv=>by
  obtain⟨j,hj,rfl⟩:=A6.mp hv;exact⟨(hV j (B4.mp hj)).ne,λz=>((hV j (B4.mp hj)).clean _ z).1 rfl⟩
 refine⟨⟨.row ds,?_,⟨by omega,h3⟩,h4⟩,λz=>?_,?_,?_⟩
 ·unfold N6
  rw[if_neg (λz=>by have:=z.2.1;cases this),if_pos ⟨rfl,by rw[← List.cons_append,List.getLast?_concat]⟩];have:(91::(o7 [44,32] ((List.range n).map V)++[93])).tail.dropLast=o7 [44,32] ((List.range n).map V):=by simp
  rw[this,hi,show ((List.range n).map V).map strOf=(List.range n).map λj=>strOf (V j) by rw[List.map_map];rfl,h1];rfl
 ·rcases B1.mp z with z|z
  ·omega
  ·rcases C7.mp z with z|z
   ·exact(b70 hV hn z).1 rfl
   ·simp at z
 ·have:(91::(o7 [44,32] ((List.range n).map V)++[93])).count 61=0:=o0.mpr λz=>by
   rcases B1.mp z with z|z
   ·omega
   ·rcases C7.mp z with z|z
    ·exact(b70 hV hn z).2 rfl
    ·simp at z
  omega
 ·simp only[List.length_cons,List.length_append,List.length_nil]
  have:n*(4+2)<=3*6:=D4 6 hn;omega
theorem kf0(f:List Nat)(hf:f=[]∨f=[100,111,103]):GoodT (f++123::(o7 [44,32] ((List.range n).map λj=>nm j++61::V j)++[125])) many:=by
 obtain⟨J,hJ⟩:∃J,J=o7 [44,32] ((List.range n).map λj=>nm j++61::V j):=⟨_,rfl⟩;have hl:=yd0 [44,32] 7 ((List.range n).map λj=>nm j++61::V j) λp hp=>by
  obtain⟨j,hj,rfl⟩:=A6.mp hp;have:=(hV j (B4.mp hj)).len;have:=fc0 hV hn j;simp only[List.length_append,List.length_cons];omega
 rw[List.length_map,List.length_range,← hJ] at hl;simp only[List.length_cons,List.length_nil] at hl;have hc:=ri0 61 [44,32] 1 (by decide) ((List.range n).map λj=>nm j++61::V j) λp hp=>by
  obtain⟨j,hj,rfl⟩:=A6.mp hp;rw[List.count_append,List.count_cons];have z1:(V j).count 61=0:=o0.mpr λz=>((hV j (B4.mp hj)).clean _ z).2.2 rfl
  have z2:(nm j).count 61=0:=o0.mpr (by
   match j with
   | 0=>decide
   | 1=>decide
   | k+2=>show 61∉[99,49];decide)
  rw[z1,z2];simp
 rw[List.length_map,List.length_range,← hJ] at hc;obtain⟨ps,h1,h2,h3⟩:=f50 hV hn;have hi:=mz0 ((List.range n).map λj=>nm j++61::V j) λv hv=>by
  obtain⟨j,hj,rfl⟩:=A6.mp hv;refine⟨by simp,λz=>?_⟩;rcases C7.mp z with z|z
  ·match j,z with
   | 0,z=>simp[nm] at z
   | 1,z=>simp[nm] at z
   | k+2,z=>simp[nm] at z
  ·rcases B1.mp z with z|z
   ·omega
   ·exact((hV j (B4.mp hj)).clean _ z).1 rfl
 have S:123∉f:=by rcases hf with rfl|rfl<;>decide
 obtain⟨c1,c2⟩:=rb0 123 (J++[125]) f S;have U:f.length<=3:=by rcases hf with rfl|rfl<;>decide
 have hh:∀c,(f++123::(J++[125])).head?=some c->c=123∨c=100:=λc hc=>by
  rcases hf with rfl|rfl
  ·cases hc;exact .inl rfl
  ·cases hc;exact .inr rfl
 have O:(f++123::(J++[125])).getLast?=some 125:=by
  rw[show f++123::(J++[125])=(f++123::J)++[125] by simp,List.getLast?_concat]
 rw[← hJ];refine⟨⟨if f=[] then .table ps else .rcd (strOf f) ps,?_,?_,?_⟩,λz=>?_,?_,?_⟩
 ·unfold N6
  rw[if_neg (λz=>by rcases hh _ z.2.1 with q|q<;>omega),if_neg (λz=>by rcases hh _ z.1 with q|q<;>omega),if_pos ⟨by simp,O⟩,c1,c2];have:(J++[125]).dropLast=J:=by simp
  rw[this,hJ,hi,show ((List.range n).map λj=>nm j++61::V j).map strOf=(List.range n).map λj=>strOf (nm j++61::V j) by rw[List.map_map];rfl,h1];rfl
 ·split
  ·exact h2
  ·refine⟨?_,h2⟩
   rcases hf with rfl|rfl
   ·exact absurd rfl (by assumption)
   ·decide +kernel
 ·split
  ·exact h3
  ·exact h3
 ·rcases C7.mp z with z|z
  ·rcases hf with rfl|rfl
   ·cases z
   ·simp at z
  ·rcases B1.mp z with z|z
   ·omega
   ·rcases C7.mp z with z|z
    ·rw[hJ] at z
     exact Xq0 hV hn z rfl
    ·simp at z
 ·rw[List.count_append,List.count_cons,List.count_append]
  have:f.count 61=0:=by rcases hf with rfl|rfl<;>decide
  rw[this];simp;omega
 ·simp only[List.length_cons,List.length_append,List.length_nil]
  have:n*(7+2)<=3*9:=D4 9 hn;omega
end
theorem e00(k:Nat)(hk:k<5)(many:Int):GoodT (39::(([97,98,32,57]:List Nat).take k++[39])) many:=by
 have:k=0∨k=1∨k=2∨k=3∨k=4:=by omega
 have O:∀w:List Nat,(w=[]∨w=[97]∨w=[97,98]∨w=[97,98,32]∨w=[97,98,32,57])->GoodT (39::(w++[39])) many:=λw hw=>by
  refine⟨⟨.text (strOf w),?_,?_,λk hk=>by cases hk⟩,?_,?_,?_⟩
  ·unfold N6
   rw[if_pos ⟨by simp,rfl,by rw[← List.cons_append,List.getLast?_concat]⟩];simp
  ·show isWord (strOf w)=true
   rcases hw with rfl|rfl|rfl|rfl|rfl<;>decide +kernel
  ·rcases hw with rfl|rfl|rfl|rfl|rfl<;>decide
  ·rcases hw with rfl|rfl|rfl|rfl|rfl<;>decide
  ·rcases hw with rfl|rfl|rfl|rfl|rfl<;>decide
 refine O _ ?_;rcases this with rfl|rfl|rfl|rfl|rfl
 ·exact .inl rfl
 ·exact .inr (.inl rfl)
 ·exact .inr (.inr (.inl rfl))
 ·exact .inr (.inr (.inr (.inl rfl)))
 ·exact .inr (.inr (.inr (.inr rfl)))
theorem dp0(j:Nat)(hj:j<3):ixD (.lst [.str "a",.str "bb",.str "c1"]) (.int (j:Int))=some (.str (strOf (nm j))):=by
 have:j=0∨j=1∨j=2:=by omega
 rcases this with rfl|rfl|rfl
 ·show some (D.str "a")=some (D.str (strOf [97]));congr 2
 ·show some (D.str "bb")=some (D.str (strOf [98,98]));congr 2
 ·show some (D.str "c1")=some (D.str (strOf [99,49]));congr 2
theorem W60(x many:Int)(hx:0<=x)(hx2:x<1000003)(h1:1<=many)(h7:many<=7):∃t,S7 [.int x,.int many]=some (.str (strOf t))/\GoodT t many:=by
 have a1:=C4 (x/4) (show (4:Int)≠0 by decide);have a2:=C5 (x/4) (show (0:Int)<4 by decide);have b1:=C4 (x/4) (show (5:Int)≠0 by decide);have b2:=C5 (x/4) (show (0:Int)<5 by decide);obtain⟨n,hn⟩:∃n,n=(x/4%4).toNat:=⟨_,rfl⟩;have O:n<=3:=by omega
 have a4:((n:Nat):Int)=x/4%4:=by omega
 have hv:∀j:Nat,∃v,T9 [.int (x/((j:Int)+2)+3*(j:Int)),.int many]=some (.str (strOf v))/\GoodV v many:=λj=>Xy0 _ many (by
  have:=Int.ediv_nonneg hx (show (0:Int)<=(j:Int)+2 by omega);omega) h1 h7
 obtain⟨V,hV⟩:=o1 hv;have gV:∀j,j<n->GoodV (V j) many:=λj _=>(hV j).2
 obtain⟨S,hS⟩:∃S:D,S=.lst ((List.range n).map λj=>.str (strOf (V j))):=⟨_,rfl⟩;have e1:Y9 1 [0,1] (za0 (z7 (o2 (o2 (gv 0) (gc (.int 4)) W7) (gc (.int 4)) Z8) z9)) (gN 0) noT (oA (z7 (o2 (o2 (gv 1) (o2 (gv 0) (gc (.int 2)) o8) W7) (o2 (gc (.int 3)) (gv 0) R7) o8) (z7 (gv 2) z9)) T9) [.sh (.int x),.sh (.int many),.un,.un,.un]=some S:=by
  rw[hS];have hr:za0 (z7 (o2 (o2 (gv 0) (gc (.int 4)) W7) (gc (.int 4)) Z8) z9) [.sh (.int x),.sh (.int many),.un,.un,.un]=some (yn0 0 (x/4%4)):=pz0 (n:=x/4%4) rfl (by omega) (by omega);refine J7 hr (by rw[o80];exact A9 (show _<=4 by omega) (by decide)) ?_;rw[q00 (λj=>.str (strOf (V j))) λk hk=>⟨[.sh (.int (k:Int)),.sh (.int x),.sh (.int many)],rfl,rfl,?_⟩,← hn];have hd:o2 (gv 1) (o2 (gv 0) (gc (.int 2)) o8) W7 [.sh (.int (k:Int)),.sh (.int x),.sh (.int many)]=some (.int (x/((k:Int)+2))):=by
   show (if (0:Int)<(k:Int)+2/\(k:Int)+2<1073741824 then some (D.int (x/((k:Int)+2))) else none)=_;rw[if_pos (by omega)]
  have hm:o2 (gc (.int 3)) (gv 0) R7 [.sh (.int (k:Int)),.sh (.int x),.sh (.int many)]=some (.int (3*(k:Int))):=by
   rw[d9 (x:=.int 3) (y:=.int (k:Int)) rfl rfl];simp only[R7];rw[if_pos (Or.inl (by decide))]
  rw[X5 (ds:=[.int (x/((k:Int)+2)+3*(k:Int)),.int many]) (cons_of (by rw[d9 hd hm];rfl) rfl)];exact(hV k).1
 obtain⟨J,hJ⟩:∃J,J=o7 [44,32] ((List.range n).map λj=>nm j++61::V j):=⟨_,rfl⟩;obtain⟨R,hR⟩:∃R,R=o7 [44,32] ((List.range n).map V):=⟨_,rfl⟩;have a0:(", " : Str)=strOf [44,32]:=by decide +kernel
 have Y:∀j,j<n->(nm j++61::V j).length<=7:=λj hj=>by
  have:=(gV j hj).len;have:=fc0 gV O j;simp only[List.length_append,List.length_cons];omega
 have a5:J.length<=27:=by
  have:=yd0 [44,32] 7 ((List.range n).map λj=>nm j++61::V j) λp hp=>by
   obtain⟨j,hj,rfl⟩:=A6.mp hp;exact Y j (B4.mp hj)
  rw[List.length_map,List.length_range,← hJ] at this;have h9:n*(7+[44,32].length)<=3*9:=D4 9 O;omega
 have a6:R.length<=18:=by
  have:=yd0 [44,32] 4 ((List.range n).map V) λp hp=>by
   obtain⟨j,hj,rfl⟩:=A6.mp hp;exact(gV j (B4.mp hj)).len
  rw[List.length_map,List.length_range,← hR] at this;have h9:n*(4+[44,32].length)<=3*6:=D4 6 O;omega
 have e2:R3 (gc (.str ", ")) (z7 (Y9 1 [2] (za0 (z7 (oA (z7 (gv 2) z9) b7) z9)) (gN 0) noT (o2 (o2 (o2 (j4 (z7 (gc (.str "a")) (z7 (gc (.str "bb")) (z7 (gc (.str "c1")) z9)))) (gv 0) ixD) (gc (.str "=")) o8) (o2 (gv 1) (gv 0) ixD) o8)) z9) [.sh (.int x),.sh (.int many),.sh S,.un,.un]=some (.str (strOf J)):=by
  rw[hJ];refine xp0 [44,32] _ 7 a0 ?_ (λp hp=>by
   obtain⟨j,hj,rfl⟩:=A6.mp hp;exact Y j (B4.mp hj)) (by rw[List.length_map,List.length_range];simp only[List.length_cons,List.length_nil];omega)
  have hr:za0 (z7 (oA (z7 (gv 2) z9) b7) z9) [.sh (.int x),.sh (.int many),.sh S,.un,.un]=some (yn0 0 (n:Int)):=pz0 (n:=(n:Int)) (by
   refine cons_of ?_ rfl;rw[hS];refine(Ym0 (ds:=(List.range n).map λj=>.str (strOf (V j))) rfl).trans ?_;simp) (by omega) (by omega)
  refine J7 hr (by rw[o80];exact A9 (show _<=4 by omega) (by decide)) ?_;rw[q00 (λj=>.str (strOf (nm j++61::V j))) λk hk=>⟨[.sh (.int (k:Int)),.sh S],rfl,rfl,?_⟩]
  ·rw[show ((n:Int)).toNat=n by omega,List.map_map]
   rfl
  ·have k1:o2 (j4 (z7 (gc (.str "a")) (z7 (gc (.str "bb")) (z7 (gc (.str "c1")) z9)))) (gv 0) ixD [.sh (.int (k:Int)),.sh S]=some (.str (strOf (nm k))):=by
    rw[d9 (x:=.lst [.str "a",.str "bb",.str "c1"]) (y:=.int (k:Int)) rfl rfl];exact dp0 k (by omega)
   have k2:gc (.str "=") [.sh (.int (k:Int)),.sh S]=some (.str (strOf [61])):=by show some (D.str "=")=_;congr 2
   have k3:o2 (gv 1) (gv 0) ixD [.sh (.int (k:Int)),.sh S]=some (.str (strOf (V k))):=by
    rw[d9 (x:=S) (y:=.int (k:Int)) rfl rfl,hS];show atI _ _=_;rw[tv0 (by omega) (by simp;omega) .non];congr 1;rw[show ((k:Int)).toNat=k by omega];exact pu0 (λj=>D.str (strOf (V j))) n k .non (by omega)
   have hl:=Y k (by omega);simp only[List.length_append,List.length_cons] at hl;have:=J3 (J3 k1 k2 (by simp only[List.length_cons,List.length_nil];omega)) k3 (by simp only[List.length_append,List.length_cons,List.length_nil];omega);rw[this];simp
 obtain⟨w,hw⟩:∃w,w=([97,98,32,57]:List Nat).take (x/4%5).toNat:=⟨_,rfl⟩;have a3:w.length<=4:=by rw[hw,List.length_take];simp only[List.length_cons,List.length_nil];omega
 have Z:∀δ,gc (.str "'") δ=some (.str (strOf [39])):=fun δ=>by show some (D.str "'")=_;congr 2
 have e3:o2 (o2 (gc (.str "'")) (d8 (gc (.str "ab 9")) Z1 (someO (o2 (o2 (gv 0) (gc (.int 4)) W7) (gc (.int 5)) Z8))) o8) (gc (.str "'")) o8 [.sh (.int x),.sh (.int many),.sh S,.sh (.str (strOf J)),.un]=some (.str (strOf (39::(w++[39])))):=by
  have sl:d8 (gc (.str "ab 9")) Z1 (someO (o2 (o2 (gv 0) (gc (.int 4)) W7) (gc (.int 5)) Z8)) [.sh (.int x),.sh (.int many),.sh S,.sh (.str (strOf J)),.un]=some (.str (strOf w)):=by
   show (if ("ab 9" : Str).length<=sizeLine then some (D.str (Txt.slice "ab 9" none (some (x/4%5)))) else none)=_;rw[if_pos (by decide +kernel),show x/4%5=(((x/4%5).toNat:Nat):Int) by omega,qf0 _ _ (by rw[show (cs ("ab 9" : Str)).length=4 by decide +kernel];omega),show cs ("ab 9" : Str)=[97,98,32,57] by decide +kernel,hw]
  have:=J3 (J3 (Z _) sl (by simp only[List.length_cons,List.length_nil];omega)) (Z _) (by simp only[List.length_append,List.length_cons,List.length_nil];omega);rw[this];rfl
 obtain⟨δ,hδ⟩:∃δ:Ds,δ=[.sh (.int x),.sh (.int many),.sh S,.sh (.str (strOf J)),.sh (.str (strOf (39::(w++[39]))))]:=⟨_,rfl⟩;have lit:∀(s:Str) (l:List Nat),s=strOf l->gc (.str s) δ=some (.str (strOf l)):=λs l h=>by rw[h];rfl
 have f1:o2 (o2 (gc (.str "[")) (R3 (gc (.str ", ")) (z7 (gv 2) z9)) o8) (gc (.str "]")) o8 δ=some (.str (strOf (91::(R++[93])))):=by
  have jr:R3 (gc (.str ", ")) (z7 (gv 2) z9) δ=some (.str (strOf R)):=by
   rw[hR];refine xp0 [44,32] _ 4 a0 ?_ (λp hp=>by
    obtain⟨j,hj,rfl⟩:=A6.mp hp;exact(gV j (B4.mp hj)).len) (by rw[List.length_map,List.length_range];simp only[List.length_cons,List.length_nil];omega)
   rw[hδ,List.map_map,hS];rfl
  have:=J3 (J3 (lit "[" [91] (by decide +kernel)) jr (by simp only[List.length_cons,List.length_nil];omega)) (lit "]" [93] (by decide +kernel)) (by simp only[List.length_append,List.length_cons,List.length_nil];omega);rw[this];rfl
 have g3:gv 3 δ=some (.str (strOf J)):=by rw[hδ];rfl
 have f2:o2 (o2 (gc (.str "{")) (gv 3) o8) (gc (.str "}")) o8 δ=some (.str (strOf ([]++123::(J++[125])))):=by
  have:=J3 (J3 (lit "{" [123] (by decide +kernel)) g3 (by simp only[List.length_cons,List.length_nil];omega)) (lit "}" [125] (by decide +kernel)) (by simp only[List.length_append,List.length_cons,List.length_nil];omega);rw[this];rfl
 have f3:o2 (o2 (gc (.str "dog{")) (gv 3) o8) (gc (.str "}")) o8 δ=some (.str (strOf ([100,111,103]++123::(J++[125])))):=by
  have:=J3 (J3 (lit "dog{" [100,111,103,123] (by decide +kernel)) g3 (by simp only[List.length_cons,List.length_nil];omega)) (lit "}" [125] (by decide +kernel)) (by simp only[List.length_append,List.length_cons,List.length_nil];omega);rw[this];rfl
 have l:j4 (z7 (gv 4) (z7 (o2 (o2 (gc (.str "[")) (R3 (gc (.str ", ")) (z7 (gv 2) z9)) o8) (gc (.str "]")) o8) (z7 (o2 (o2 (gc (.str "{")) (gv 3) o8) (gc (.str "}")) o8) (z7 (o2 (o2 (gc (.str "dog{")) (gv 3) o8) (gc (.str "}")) o8) z9)))) δ
  =some (.lst [.str (strOf (39::(w++[39]))),.str (strOf (91::(R++[93]))),.str (strOf ([]++123::(J++[125]))),.str (strOf ([100,111,103]++123::(J++[125])))]) :=
  sb0 (cons_of (by rw[hδ];rfl) (cons_of f1 (cons_of f2 (cons_of f3 rfl)))) (by show 4<=sizeLine;decide)
 have d1:=C4 x (show (4:Int)≠0 by decide);have d2:=C5 x (show (0:Int)<4 by decide);have ret:∀t,ixD (.lst [.str (strOf (39::(w++[39]))),.str (strOf (91::(R++[93]))),.str (strOf ([]++123::(J++[125]))),.str (strOf ([100,111,103]++123::(J++[125])))]) (.int (x%4))=some (.str (strOf t))->S7 [.int x,.int many]=some (.str (strOf t)):=λt h=>by
  refine Y5 rfl (p7 (δ':=[.sh (.int x),.sh (.int many),.sh S,.un,.un]) (b8 e1) (p7 (δ':=[.sh (.int x),.sh (.int many),.sh S,.sh (.str (strOf J)),.un]) (b8 e2) (p7 (δ':=δ) (by rw[hδ];exact b8 e3) (n8 (U3 ?_)))));rw[← h];exact d9 l (by rw[hδ];rfl)
 have U:x%4=0∨x%4=1∨x%4=2∨x%4=3:=by omega
 rcases U with h|h|h|h
 ·exact⟨_,ret _ (by rw[h];rfl),by rw[hw];exact e00 _ (by omega) many⟩
 ·exact⟨_,ret _ (by rw[h];rfl),by rw[hR];exact dk0 gV O⟩
 ·exact⟨_,ret _ (by rw[h];rfl),by rw[hJ];exact kf0 gV O [] (.inl rfl)⟩
 ·exact⟨_,ret _ (by rw[h];rfl),by rw[hJ];exact kf0 gV O [100,111,103] (.inr rfl)⟩
noncomputable def nA:List Str:=["", " ", "'", "'A'", "'a", "a'", "''' '", "'aaaaaaaaaaaaaaaaaaaaa'", "[", "]", "[1", "1]", "[1,2]"]
noncomputable def nB:List Str:=["[1 , 2]"]
noncomputable def nC:List Str:=["[ 1]", "[1, ]", "[01]", "[-0]", "[--1]", "[+1]", "[Nil]", "[@]", "[@-1]", "[@01]", "[@60]", "[a]"]
noncomputable def nD:List Str:=["{a}", "{a=}", "{=1}", "{a=1, a=2}", "{a=1,b=2}", "{A=1}", "{abcdefghi=1}", "{a=1=2}", "{a= 1}"]
noncomputable def nE:List Str:=["dog", "Dog{}", "dog {}", "dogsdogsd{}", "dog{}{}", "[1]x", "{}x", "[1, 1, 1, 1, 1, 1, 1, 1, 1, 1, 1, 1, 1]"]
noncomputable def nF:List Str:=["[1111111111111111111111111111111111111111111111111111111111111]"]
noncomputable def t30:List Str:=nA++nB++nC++nD++nE++nF
theorem dz0:∀s∈t30,((cs s).count 61<=3/\(cs s).count 59=0)/\(cs s).length<=70:=by decide +kernel
theorem k00:t30.length=44:=by decide +kernel
theorem be0(x:Int):∃s,zg0 [.int x]=some (.str s)/\s∈t30:=by
 have d1:=C4 x (show (44:Int)≠0 by decide);have d2:=C5 x (show (0:Int)<44 by decide);have hb:(x%44).toNat<t30.length:=by rw[k00];omega
 refine⟨t30[(x%44).toNat],?_,A00 hb⟩;have e5:o2 (o2 (gc (.str "[")) (R3 (gc (.str ", ")) (z7 (o2 (j4 (z7 (gc (.str "1")) z9)) (gc (.int 13)) mulL) z9)) o8) (gc (.str "]")) o8 []=some (.str "[1, 1, 1, 1, 1, 1, 1, 1, 1, 1, 1, 1, 1]"):=by kernel_rfl
 have e6:o2 (o2 (gc (.str "[")) (o2 (gc (.str "1")) (gc (.int 61)) R7) o8) (gc (.str "]")) o8 []=some (.str "[1111111111111111111111111111111111111111111111111111111111111]"):=by kernel_rfl
 have st:∀(a b:List Str) (g:GE) (s:Sl),g [.sh (.int x),.sh (.lst (a.map .str))]=some (.lst (b.map .str))->a.length+b.length<=100->o2 (gv 1) g o8 [.sh (.int x),.sh (.lst (a.map .str))]=some (.lst ((a++b).map .str)):=λa b g s h hl=>by
  rw[d9 (x:=.lst (a.map .str)) rfl h];show (if (a.map D.str).length+(b.map D.str).length<=sizeLine then _ else _)=_;rw[if_pos (by rw[List.length_map,List.length_map];exact A9 hl (by decide)),List.map_append]
 refine Y5 rfl (p7 (δ':=[.sh (.int x),.sh (.lst (nA.map .str))]) (b8 rfl) (p7 (δ':=[.sh (.int x),.sh (.lst ((nA++nB).map .str))]) (b8 (st nA nB _ .un rfl (by decide +kernel)))
  (p7 (δ':=[.sh (.int x),.sh (.lst ((nA++nB++nC).map .str))]) (b8 (st (nA++nB) nC _ .un rfl (by decide +kernel)))
  (p7 (δ':=[.sh (.int x),.sh (.lst ((nA++nB++nC++nD).map .str))]) (b8 (st (nA++nB++nC) nD _ .un rfl (by decide +kernel)))
  (p7 (δ':=[.sh (.int x),.sh (.lst ((nA++nB++nC++nD++nE).map .str))]) (b8 (st (nA++nB++nC++nD) nE _ .un ?_ (by decide +kernel)))
  (n8 (U3 ?_)))))))
 ·exact sb0 (ds:=nE.map .str) (cons_of rfl (cons_of rfl (cons_of rfl (cons_of rfl (cons_of rfl (cons_of rfl (cons_of rfl (cons_of e5 rfl)))))))) (by decide +kernel)
 ·have l:=st (nA++nB++nC++nD++nE) nF (j4 (z7 (o2 (o2 (gc (.str "[")) (o2 (gc (.str "1")) (gc (.int 61)) R7) o8) (gc (.str "]")) o8) z9)) .un (sb0 (ds:=nF.map .str) (cons_of e6 rfl) (by decide +kernel)) (by decide +kernel)
  rw[d9 l (y:=.int (x%44)) rfl];show atI _ _=_;rw[tv0 d1 (by rw[List.length_map];show x%44<(t30.length:Int);rw[k00];omega) .non];congr 1;show (t30.map D.str).getD (x%44).toNat .non=_;rw[List.getD_eq_getElem?_getD,List.getElem?_map,List.getElem?_eq_getElem hb];rfl
theorem y80(c:Nat)(sep:List Nat)(B:Nat):∀parts:List (List Nat),(∀p∈parts,p.count c<=B)->(o7 sep parts).count c<=parts.length*(B+sep.count c)
 | [],_=>by simp[o7]
 | [p],h=>by
  show p.count c<=_;have:=h p A5;simp only[List.length_cons,List.length_nil];omega
 | p::q::r,h=>by
  have:=y80 c sep B (q::r) λt ht=>h t (A7 _ ht)
  have:=h p A5;show (p++sep++o7 sep (q::r)).count c<=((q::r).length+1)*(B+sep.count c);rw[List.count_append,List.count_append,Nat.add_mul];omega
theorem c40(x:Str)(n:Nat)(h:n<=(cs x).length+1):Txt.slice x (some (n:Int)) none=strOf ((cs x).drop n):=by
 by_cases q:n<=(cs x).length
 ·exact sw0 x n q
 ·have hn:n=(cs x).length+1:=by omega
  have e:Builtin.Str.strSliceIndices (some (n:Int)) none 1 x.length=Builtin.Str.strSliceIndices (some (((cs x).length:Nat):Int)) none 1 x.length:=by
   have hx:=U7 x;unfold Builtin.Str.strSliceIndices;have c1:¬((n:Int)<0):=by omega
   have c2:¬((((cs x).length:Nat):Int)<0):=by omega
   simp only[c1,c2,if_false];congr 1;simp only[gt_iff_lt,Int.zero_lt_one,if_true];omega
  have e2:Txt.slice x (some (n:Int)) none=Txt.slice x (some (((cs x).length:Nat):Int)) none:=by
   show sliceText _ _ _=sliceText _ _ _;unfold sliceText;rw[e]
  rw[e2,sw0 x _ (A1 _),hn];congr 1;rw[List.drop_of_length_le (A1 _),List.drop_of_length_le (by omega)]
structure Base(t:List Nat)(ts:List (List Nat))(m:Nat):Prop where
 eq:t=o7 [59,32] ts
 len:ts.length=m
 pos:1<=m
 few:m<=7
 part:∀p∈ts,59∉p/\p.count 61<=3/\p.length<=60
section
variable(B:Base t ts m)
include B
theorem Base.short:t.length<=434:=by
 have:=yd0 [59,32] 60 ts λp hp=>(B.part p hp).2.2
 rw[← B.eq,B.len] at this;have h:m*(60+[59,32].length)<=7*62:=D4 62 B.few;omega
theorem Base.c61:t.count 61<=21:=by
 have:=y80 61 [59,32] 3 ts λp hp=>(B.part p hp).2.1
 rw[← B.eq,B.len] at this;have h:m*(3+([59,32]:List Nat).count 61)<=7*3:=D4 3 B.few;omega
theorem Base.c59:t.count 59<=7:=by
 have:=y80 59 [59,32] 0 ts λp hp=>by
  rw[List.count_eq_zero.mpr (B.part p hp).1];exact A1 _
 rw[← B.eq,B.len] at this;have h:m*(0+([59,32]:List Nat).count 59)<=7*1:=D4 1 B.few;omega
theorem Base.split:Txt.split (strOf t) "; "=ts.map strOf:=by
 rw[B.eq,show ("; " : Str)=strOf [59,32] by decide +kernel];exact v10 59 [32] (by decide +kernel) ts (λz=>by have:=B.len;rw[z] at this;have:=B.pos;simp at *;omega) λp hp=>(B.part p hp).1
end
theorem yh0{j:Int}(h1:ga δ=some (.int i))(h2:gb δ=some (.int j))(h:0<j):o2 ga gb Z8 δ=some (.int (i%j)):=by
 rw[d9 h1 h2];show (if 0<j then _ else _)=_;rw[if_pos h]
theorem Zg0{j:Int}(h1:ga δ=some (.int i))(h2:gb δ=some (.int j))(h:0<j)(h':j<1073741824):o2 ga gb W7 δ=some (.int (i/j)):=by
 rw[d9 h1 h2];show (if 0<j/\j<1073741824 then _ else _)=_;rw[if_pos ⟨h,h'⟩]
theorem sign_of{S:Str}(h:g δ=some (.int i))(h0:0<=i)(h1:i<((cs S).length:Int))(hS:S.length<=100):∃c,o2 (gc (.str S)) g ixD δ=some (.str (strOf [c])):=by
 refine⟨(cs S).getD i.toNat 0,?_⟩;rw[d9 (x:=.str S) rfl h];show (if S.length<=sizeLine then (atI (cs S) i).map _ else none)=_;rw[if_pos (A9 hS (by decide)),tv0 h0 h1 0];rfl
theorem ce0(B:Base t ts m)(x:Int)(hx:0<=x):∃s,T8 [.str (strOf t),.int x,.int (m:Int)]=some (.str s)/\s.length<=1000/\ct 61 s+ct 59 s<=59:=by
 have hl:=B.short;have d2:=B.c61;have c9:=B.c59;have hz:(strOf t).length<=sizeLine:=by rw[m8];exact A9 hl (by decide)
 obtain⟨a,ha⟩:∃a,a=(x/6%((t.length:Int)+1)).toNat:=⟨_,rfl⟩;have m1:=C4 (x/6) (show (t.length:Int)+1≠0 by omega);have m2:=C5 (x/6) (show (0:Int)<(t.length:Int)+1 by omega);have a5:a<=t.length:=by omega
 have b1:x/6%((t.length:Int)+1)=(a:Int):=by omega
 have a2:∀s2 s3 s4 s5 s6,oA (z7 (gv 0) z9) b7 [.sh (.str (strOf t)),.sh (.int x),s2,s3,s4,s5,s6]=some (.int (t.length:Int)):=λs2 s3 s4 s5 s6=>by
  have:=w80 (g:=gv 0) (δ:=[.sh (.str (strOf t)),.sh (.int x),s2,s3,s4,s5,s6]) rfl hz;rw[m8] at this;exact this
 have e1:o2 (o2 (gv 1) (gc (.int 6)) W7) (o2 (oA (z7 (gv 0) z9) b7) (gc (.int 1)) o8) Z8 [.sh (.str (strOf t)),.sh (.int x),.sh (.int (m:Int)),.un,.un,.un,.un]=some (.int (a:Int)):=by
  rw[← b1];exact yh0 rfl (by rw[d9 (a2 _ _ _ _ _) rfl];rfl) (by omega)
 have k1:=C4 x (show (6:Int)≠0 by decide);have k2:=C5 x (show (0:Int)<6 by decide);obtain⟨δ,hδ⟩:∃δ:Ds,δ=[.sh (.str (strOf t)),.sh (.int x),.sh (.int (m:Int)),.sh (.int (a:Int)),.sh (.int (x%6)),.un,.un]:=⟨_,rfl⟩;have pre:∀(G:GS) (r:Option Res),G δ=r->v7 (j9 (gN 3) (o2 (o2 (gv 1) (gc (.int 6)) W7) (o2 (oA (z7 (gv 0) z9) b7) (gc (.int 1)) o8) Z8)) (v7 (j9 (gN 4) (o2 (gv 1) (gc (.int 6)) Z8)) G) [.sh (.str (strOf t)),.sh (.int x),.sh (.int (m:Int)),.un,.un,.un,.un]=r:=λG r h=>p7 (b8 e1) (p7 (δ':=δ) (by rw[hδ];exact b8 rfl) h)
 have kd:∀j:Int,ob (o2 (gv 4) (gc (.int j)) eqD) δ=some (decide (x%6=j)):=λj=>by rw[hδ];exact V4 rfl
 have tk:∀s5,d8 (gv 0) Z1 (someO (gv 3)) [.sh (.str (strOf t)),.sh (.int x),.sh (.int (m:Int)),.sh (.int (a:Int)),.sh (.int (x%6)),s5,.un]=some (.str (strOf (t.take a))):=λs5=>by
  show (if (strOf t).length<=sizeLine then some (D.str (Txt.slice (strOf t) none (some (a:Int)))) else none)=_;rw[if_pos hz,qf0 _ _ (by rw[Q0];exact a5),Q0]
 have dp:∀s5,d8 (gv 0) (someO (gv 3)) Z1 [.sh (.str (strOf t)),.sh (.int x),.sh (.int (m:Int)),.sh (.int (a:Int)),.sh (.int (x%6)),s5,.un]=some (.str (strOf (t.drop a))):=λs5=>by
  show (if (strOf t).length<=sizeLine then some (D.str (Txt.slice (strOf t) (some (a:Int)) none)) else none)=_;rw[if_pos hz,sw0 _ _ (by rw[Q0];exact a5),Q0]
 have U:∀(c ch:Nat),(t.take a++[ch]++t.drop a).count c<=t.count c+1:=λc ch=>by
  have e:t.count c=(t.take a).count c+(t.drop a).count c:=by rw[← List.count_append,List.take_append_drop]
  rw[List.count_append,List.count_append];have:[ch].count c<=1:=by
   have:=List.count_le_length (a:=c) (l:=[ch])
   simpa using this
  omega
 have a0:∀ch:Nat,(t.take a++[ch]++t.drop a).length=t.length+1:=λch=>by
  simp only[List.length_append,List.length_take,List.length_drop,List.length_cons,List.length_nil];omega
 have a3:∀(s5:Sl) (g:GE) (ch:Nat),g [.sh (.str (strOf t)),.sh (.int x),.sh (.int (m:Int)),.sh (.int (a:Int)),.sh (.int (x%6)),s5,.un]=some (.str (strOf [ch]))->o2 (o2 (d8 (gv 0) Z1 (someO (gv 3))) g o8) (d8 (gv 0) (someO (gv 3)) Z1) o8 [.sh (.str (strOf t)),.sh (.int x),.sh (.int (m:Int)),.sh (.int (a:Int)),.sh (.int (x%6)),s5,.un]=some (.str (strOf (t.take a++[ch]++t.drop a))):=λs5 g ch h=>by
  have l:=a0 ch;simp only[List.length_append] at l;exact J3 (J3 (tk s5) h (by omega)) (dp s5) (by rw[List.length_append];omega)
 have Z:∀l:List Nat,l.length<=1000->l.count 61+l.count 59<=59->(strOf l).length<=1000/\ct 61 (strOf l)+ct 59 (strOf l)<=59:=λl h1 h2=>by
  unfold ct;rw[m8,Q0];exact⟨h1,h2⟩
 by_cases c0:x%6=0
 ·have q:=kd 0
  rw[decide_eq_true c0] at q;obtain⟨ch,a1⟩:=sign_of (g:=o2 (o2 (o2 (gv 1) (gc (.int 6)) W7) (o2 (oA (z7 (gv 0) z9) b7) (gc (.int 1)) o8) W7) (gc (.int 13)) Z8) (δ:=δ) (S := "ABZ_.+#~!:/()") (i:=x/6/((t.length:Int)+1)%13)
   (yh0 (by rw[hδ];exact Zg0 rfl (by rw[d9 (a2 _ _ _ _ _) rfl];rfl) (by omega) (by omega)) rfl (by decide)) (C4 _ (by decide)) (by rw[show (cs ("ABZ_.+#~!:/()" : Str)).length=13 by decide +kernel];exact C5 _ (by decide)) (by decide +kernel)
  refine⟨_,Y5 rfl (pre _ _ (n8 ?_)),Z (t.take a++[ch]++t.drop a) (by rw[a0];omega) (by have:=U 61 ch;have:=U 59 ch;omega)⟩;rw[R8 q];refine p7 (b8 a1) (n8 (U3 ?_));rw[hδ];exact a3 (.sh (.str (strOf [ch]))) (gv 5) ch rfl
 have q0:=kd 0;rw[decide_eq_false c0] at q0;have s0:∀(Ga G:GS) (r:Option Res),G δ=r->v7 (ifD (ob (o2 (gv 4) (gc (.int 0)) eqD)) Ga p6) G δ=r:=λGa G r h=>p7 (by rw[X4 q0];rfl) h
 by_cases c1:x%6=1
 ·have q:=kd 1
  rw[decide_eq_true c1] at q;obtain⟨ch,a1⟩:=sign_of (g:=o2 (o2 (gv 1) (gc (.int 7)) W7) (gc (.int 12)) Z8) (δ:=δ) (S := " '[]{},;=@-0") (i:=x/7%12) (by rw[hδ];rfl) (C4 _ (by decide)) (by rw[show (cs (" '[]{},;=@-0" : Str)).length=12 by decide +kernel];exact C5 _ (by decide)) (by decide +kernel);refine⟨_,Y5 rfl (pre _ _ (s0 _ _ _ (n8 ?_))),Z (t.take a++[ch]++t.drop a) (by rw[a0];omega) (by have:=U 61 ch;have:=U 59 ch;omega)⟩;rw[R8 q];refine n8 (U3 ?_);rw[hδ] at a1 ⊢;exact a3 .un _ ch a1
 have q1:=kd 1;rw[decide_eq_false c1] at q1;have s1:∀(Ga G:GS) (r:Option Res),G δ=r->v7 (ifD (ob (o2 (gv 4) (gc (.int 1)) eqD)) Ga p6) G δ=r:=λGa G r h=>p7 (by rw[X4 q1];rfl) h
 by_cases c2:x%6=2
 ·have q:=kd 2
  rw[decide_eq_true c2] at q;have a7:d8 (gv 0) (someO (o2 (gv 3) (gc (.int 1)) o8)) Z1 δ=some (.str (strOf (t.drop (a+1)))):=by
   rw[hδ];show (if (strOf t).length<=sizeLine then some (D.str (Txt.slice (strOf t) (some ((a:Int)+1)) none)) else none)=_;rw[if_pos hz,show ((a:Int)+1)=((a+1:Nat):Int) by omega,c40 _ _ (by rw[Q0];omega),Q0]
  have sub:(t.take a++t.drop (a+1)).Sublist t:=by
   have e:t.drop (a+1)=(t.drop a).drop 1:=by rw[List.drop_drop]
   rw[e]
   conv=>rhs;rw[← List.take_append_drop a t]
   exact List.Sublist.append (List.Sublist.refl _) (List.drop_sublist _ _)
  have b0:=sub.length_le;refine⟨_,Y5 rfl (pre _ _ (s0 _ _ _ (s1 _ _ _ (n8 ?_)))),Z (t.take a++t.drop (a+1)) (by omega) (by have:=sub.count_le 61;have:=sub.count_le 59;omega)⟩;rw[R8 q];refine n8 (U3 ?_);rw[List.length_append] at b0;exact J3 (by rw[hδ];exact tk .un) a7 (by omega)
 have q2:=kd 2;rw[decide_eq_false c2] at q2;have s2:∀(Ga G:GS) (r:Option Res),G δ=r->v7 (ifD (ob (o2 (gv 4) (gc (.int 2)) eqD)) Ga p6) G δ=r:=λGa G r h=>p7 (by rw[X4 q2];rfl) h
 by_cases c3:x%6=3
 ·have q:=kd 3
  rw[decide_eq_true c3] at q;have n1:=C4 (x/6) (show (5:Int)≠0 by decide);have n2:=C5 (x/6) (show (0:Int)<5 by decide);have g0:gv 0 δ=some (.str (strOf t)):=by rw[hδ];rfl
  have l5:o2 (gc (.str "; ")) (gv 0) o8 δ=some (.str (strOf ([59,32]++t))):=J3 (by show some (D.str "; ")=_;congr 2) g0 (by simp only[List.length_cons,List.length_nil];omega);have l:j4 (z7 (gc (.str "; ")) (z7 (gc (.str ";")) (z7 (gc (.str " ")) (z7 (gv 0) (z7 (o2 (gc (.str "; ")) (gv 0) o8) z9))))) δ=some (.lst [.str (strOf [59,32]),.str (strOf [59]),.str (strOf [32]),.str (strOf t),.str (strOf ([59,32]++t))]) :=
   sb0 (cons_of (by show some (D.str "; ")=_;congr 2) (cons_of (by show some (D.str ";")=_;congr 2) (cons_of (by show some (D.str " ")=_;congr 2) (cons_of g0 (cons_of l5 rfl))))) (by show 5<=sizeLine;decide)
  have ix:o2 (o2 (gv 1) (gc (.int 6)) W7) (gc (.int 5)) Z8 δ=some (.int (x/6%5)):=by rw[hδ];rfl
  have Y:∀e:List Nat,o2 (j4 (z7 (gc (.str "; ")) (z7 (gc (.str ";")) (z7 (gc (.str " ")) (z7 (gv 0) (z7 (o2 (gc (.str "; ")) (gv 0) o8) z9)))))) (o2 (o2 (gv 1) (gc (.int 6)) W7) (gc (.int 5)) Z8) ixD δ=some (.str (strOf e))->e.length<=436->e.count 61+e.count 59<=29 ->
    ∃s,T8 [.str (strOf t),.int x,.int (m:Int)]=some (.str s)/\s.length<=1000/\ct 61 s+ct 59 s<=59:=λe he h1 h2=>by
   refine⟨_,Y5 rfl (pre _ _ (s0 _ _ _ (s1 _ _ _ (s2 _ _ _ (n8 ?_))))),Z (t++e) (by rw[List.length_append];omega) (by rw[List.count_append,List.count_append];omega)⟩;rw[R8 q];exact n8 (U3 (J3 g0 he (by omega)))
  have b9:x/6%5=0∨x/6%5=1∨x/6%5=2∨x/6%5=3∨x/6%5=4:=by omega
  rcases b9 with h|h|h|h|h
  ·exact Y [59,32] (by rw[d9 l ix,h];rfl) (by decide) (by decide)
  ·exact Y [59] (by rw[d9 l ix,h];rfl) (by decide) (by decide)
  ·exact Y [32] (by rw[d9 l ix,h];rfl) (by decide) (by decide)
  ·exact Y t (by rw[d9 l ix,h];rfl) (by omega) (by omega)
  ·refine Y ([59,32]++t) (by rw[d9 l ix,h];rfl) (by simp only[List.length_append,List.length_cons,List.length_nil];omega) ?_
   rw[List.count_append,List.count_append];have z1:([59,32]:List Nat).count 61=0:=by decide
   have z2:([59,32]:List Nat).count 59=1:=by decide
   omega
 have q3:=kd 3;rw[decide_eq_false c3] at q3;have s3:∀(Ga G:GS) (r:Option Res),G δ=r->v7 (ifD (ob (o2 (gv 4) (gc (.int 3)) eqD)) Ga p6) G δ=r:=λGa G r h=>p7 (by rw[X4 q3];rfl) h
 obtain⟨s,hs,a9⟩:=be0 (x/8);obtain⟨⟨b2,c8⟩,nl⟩:=dz0 s a9;have i1:=C4 (x/5) (show (m:Int)≠0 by have:=B.pos;omega);have i2:=C5 (x/5) (show (0:Int)<(m:Int) by have:=B.pos;omega);obtain⟨i,hi⟩:∃i,i=(x/5%(m:Int)).toNat:=⟨_,rfl⟩;have d1:i<m:=by omega
 have c6:x/5%(m:Int)=(i:Int):=by omega
 have sp:j8 (gv 0) (z7 (gc (.str "; ")) z9) Q7 δ=some (.lst (ts.map λp=>D.str (strOf p))):=by
  rw[hδ,w00 (x:=strOf t) rfl (by decide +kernel) (by rw[m8];exact A9 (show _<=1000 by omega) (by decide)),B.split,List.map_map];rfl
 have own:vi0 6 (j8 (gv 0) (z7 (gc (.str "; ")) z9) Q7) δ=some (.nx (δ.set 6 (.ow (.lst (ts.map λp=>D.str (strOf p)))))):=by
  unfold vi0;rw[sp];rfl
 have a6:(ts.map λp=>D.str (strOf p)).set i (.str s)=(ts.set i (cs s)).map λp=>D.str (strOf p):=by
  rw[List.map_set,M4]
 have a8:uz0 (ws0 (oA (z7 (o2 (gv 1) (gc (.int 8)) W7) z9) zg0)) (setAt 6 (o2 (o2 (gv 1) (gc (.int 5)) W7) (gv 2) Z8)) (δ.set 6 (.ow (.lst (ts.map λp=>D.str (strOf p)))))=some (.nx (δ.set 6 (.ow (.lst ((ts.set i (cs s)).map λp=>D.str (strOf p)))))):=by
  have n1:oA (z7 (o2 (gv 1) (gc (.int 8)) W7) z9) zg0 (δ.set 6 (.ow (.lst (ts.map λp=>D.str (strOf p)))))=some (.str s):=by
   rw[hδ,X5 (ds:=[.int (x/8)]) rfl];exact hs
  have n2:o2 (o2 (gv 1) (gc (.int 5)) W7) (gv 2) Z8 (δ.set 6 (.ow (.lst (ts.map λp=>D.str (strOf p)))))=some (.int (i:Int)):=by
   rw[← c6,hδ];exact yh0 rfl rfl (by have:=B.pos;omega)
  unfold uz0 ws0;rw[n1];show (setAt 6 (o2 (o2 (gv 1) (gc (.int 5)) W7) (gv 2) Z8) (.str s) (δ.set 6 (.ow (.lst (ts.map λp=>D.str (strOf p)))))).map Res.nx=_;unfold setAt;rw[n2];have ow:owL 6 (δ.set 6 (.ow (.lst (ts.map λp=>D.str (strOf p)))))=some (ts.map λp=>D.str (strOf p)):=by rw[hδ];rfl
  rw[ow];have c7:ixN (ts.map λp=>D.str (strOf p)).length (i:Int)=some i:=by
   unfold ixN;rw[if_pos (by omega),if_pos (by rw[List.length_map,B.len];omega)];simp
  show (((ixN (ts.map λp=>D.str (strOf p)).length (i:Int)).map λj=>(δ.set 6 (.ow (.lst (ts.map λp=>D.str (strOf p))))).set 6 (.ow (.lst ((ts.map λp=>D.str (strOf p)).set j (.str s))))).map Res.nx)=_;rw[c7];show some (Res.nx ((δ.set 6 _).set 6 (.ow (.lst ((ts.map λp=>D.str (strOf p)).set i (.str s))))))=_;rw[a6,List.set_set]
 have O:∀p∈ts.set i (cs s),p.count 59<=0/\p.count 61<=3/\p.length<=70:=λp hp=>by
  rcases List.mem_or_eq_of_mem_set hp with z|rfl
  ·obtain⟨z1,z2,z3⟩:=B.part p z
   rw[List.count_eq_zero.mpr z1];exact⟨A1 _,z2,by omega⟩
  ·exact⟨by omega,b2,nl⟩
 have a4:(ts.set i (cs s)).length=m:=by rw[List.length_set,B.len]
 have jn:R3 (gc (.str "; ")) (z7 (gv 6) z9) (frz (δ.set 6 (.ow (.lst ((ts.set i (cs s)).map λp=>D.str (strOf p))))))=some (.str (strOf (o7 [59,32] (ts.set i (cs s))))) :=
  xp0 [59,32] _ 70 (by decide +kernel) (by rw[hδ];rfl) (λp hp=>(O p hp).2.2) (by rw[a4];simp only[List.length_cons,List.length_nil];have:=B.few;omega)
 have jl:=yd0 [59,32] 70 _ λp hp=>(O p hp).2.2
 have j1:=y80 61 [59,32] 3 _ λp hp=>(O p hp).2.1
 have j2:=y80 59 [59,32] 0 _ λp hp=>(O p hp).1
 rw[a4] at jl j1 j2;have w1:m*(70+([59,32]:List Nat).length)<=7*72:=D4 72 B.few;have w2:m*(3+([59,32]:List Nat).count 61)<=7*3:=D4 3 B.few;have w3:m*(0+([59,32]:List Nat).count 59)<=7*1:=D4 1 B.few;exact⟨_,Y5 rfl (pre _ _ (s0 _ _ _ (s1 _ _ _ (s2 _ _ _ (s3 _ _ _ (p7 own (p7 a8 (n8 (U3 jn))))))))),Z (o7 [59,32] (ts.set i (cs s))) (by omega) (by omega)⟩
noncomputable def tw(n:Nat):List (List Nat):=List.replicate n [39,39]
noncomputable def tm:List (List Nat):=(List.range 6).map λk=>123::(o7 [44,32] ((List.range 10).map λj=>109::(dg (10*k+j)++[61,49]))++[125])
noncomputable def sg0(ts:List (List Nat)):List D:=(o5 (ts.map rpt)).getD []
noncomputable def isB(b:Bool):Option D->Bool
 | some (.bl c)=>c==b
 | _=>false
noncomputable def chk(ts:List (List Nat))(b:Bool):Bool:=(o5 (ts.map rpt)).isSome&&isB b (J5 [.tup (sg0 ts)])&&(sg0 ts).length==ts.length&&(ts.all λp=>!p.contains 59)&&decide ((o7 [59,32] ts).length<=1000)&&!ts.isEmpty
theorem c1:chk (tw 60) true=true:=by decide +kernel
theorem c2:chk (tw 61) false=true:=by decide +kernel
theorem c3:chk tm true=true:=by decide +kernel
theorem c4:chk (tm++[[113,123,125]]) false=true:=by decide +kernel
theorem c5:chk (tm++[[123,113,61,49,125]]) false=true:=by decide +kernel
theorem Y40{o:Option D}(h:isB b o=true):o=some (.bl b):=by
 unfold isB at h;split at h
 ·rw[eq_of_beq h]
 ·cases h
theorem t70(h:chk ts b=true):T6 [.str (strOf (o7 [59,32] ts))]=some (toX (if b=true then some (.tup (sg0 ts)) else none))/\(sg0 ts).length=ts.length/\Txt.split (strOf (o7 [59,32] ts)) "; "=ts.map strOf/\(o7 [59,32] ts).length<=1000:=by
 unfold chk at h;simp only[Bool.and_eq_true,decide_eq_true_eq,List.all_eq_true,Bool.not_eq_true',beq_iff_eq] at h;obtain⟨⟨⟨⟨⟨h1,h2⟩,h3⟩,h4⟩,h5⟩,h6⟩:=h;have sp:Txt.split (strOf (o7 [59,32] ts)) "; "=ts.map strOf:=by
  rw[show ("; " : Str)=strOf [59,32] by decide +kernel];exact v10 59 [32] (by decide +kernel) ts (λz=>by rw[z] at h6;cases h6) λp hp hc=>by
   have:=h4 p hp;rw[List.contains_iff_mem.mpr hc] at this;cases this
 have hz:(strOf (o7 [59,32] ts)).length+2<=sizeLine:=by rw[m8];exact A9 (show _<=1002 by omega) (by decide)
 have e:((Txt.split (strOf (o7 [59,32] ts)) "; ").map λa=>rpt (cs a))=ts.map rpt:=by
  rw[sp,List.map_map];exact L3 λp _=>by show rpt (cs (strOf p))=_;rw[Q0]
 have q:o5 (ts.map rpt)=some (sg0 ts):=by
  unfold sg0;cases q:o5 (ts.map rpt) with
  | none=>rw[q] at h1;cases h1
  | some r=>rfl
 have r:=po0 _ hz (λ_=>b) λps O=>by
  rw[e,q] at O;cases O;exact Y40 h2
 rw[e,q] at r;exact⟨r,h3,sp,h5⟩
theorem cq0(s0 s1:Sl)(h:chk ts true=true):(v7 (ifD (S5 (ob (o2 (o2 (oA (z7 (gv 2) z9) Y8) (gc (.int 1)) ixD) (j4 z9) J0)) (ob (o2 (oA (z7 (oA (z7 (gv 2) z9) (O3 T6)) z9) b7) (oA (z7 (j8 (gv 2) (z7 (gc (.str "; ")) z9) Q7) z9) b7) J0))) (v7 (o9 (gc (.bl false))) p6) p6) p6) [s0,s1,.sh (.str (strOf (o7 [59,32] ts)))]=some (.nx [s0,s1,.sh (.str (strOf (o7 [59,32] ts)))]):=by
 obtain⟨h1,h2,h3,h4⟩:=t70 h;have hz:(strOf (o7 [59,32] ts)).length+2<=sizeLine:=by rw[m8];exact A9 (show _<=1002 by omega) (by decide)
 have sd:=ss0 _ _ h1;have g2:z7 (gv 2) z9 [s0,s1,.sh (.str (strOf (o7 [59,32] ts)))]=some [.str (strOf (o7 [59,32] ts))]:=rfl;have q1:o2 (o2 (oA (z7 (gv 2) z9) Y8) (gc (.int 1)) ixD) (j4 z9) J0 [s0,s1,.sh (.str (strOf (o7 [59,32] ts)))]=some (.bl false):=by
  refine(d9 (x:=.lst []) (y:=.lst []) ?_ rfl).trans rfl;refine(d9 (x:=.tup [.tup (sg0 ts),.lst []]) (y:=.int 1) ?_ rfl).trans rfl;rw[X5 g2];exact sd
 have rd:oA (z7 (gv 2) z9) (O3 T6) [s0,s1,.sh (.str (strOf (o7 [59,32] ts)))]=some (.tup (sg0 ts)):=by
  rw[X5 g2];exact nd0 h1
 have q2:o2 (oA (z7 (oA (z7 (gv 2) z9) (O3 T6)) z9) b7) (oA (z7 (j8 (gv 2) (z7 (gc (.str "; ")) z9) Q7) z9) b7) J0 [s0,s1,.sh (.str (strOf (o7 [59,32] ts)))]=some (.bl false):=by
  have a1:oA (z7 (oA (z7 (gv 2) z9) (O3 T6)) z9) b7 [s0,s1,.sh (.str (strOf (o7 [59,32] ts)))]=some (.int (ts.length:Int)):=by
   rw[X5 (cons_of rd rfl),← h2];rfl
  have a2:oA (z7 (j8 (gv 2) (z7 (gc (.str "; ")) z9) Q7) z9) b7 [s0,s1,.sh (.str (strOf (o7 [59,32] ts)))]=some (.int (ts.length:Int)):=by
   rw[X5 (cons_of (w00 (x:=strOf (o7 [59,32] ts)) rfl (by decide +kernel) hz) rfl),h3];show some (D.int (((ts.map strOf).map D.str).length:Int))=_;rw[List.length_map,List.length_map]
  rw[d9 a1 a2];exact Pn.eu0 rfl
 refine p7 (δ':=[s0,s1,.sh (.str (strOf (o7 [59,32] ts)))]) ?_ rfl;rw[X4 (v50 (a:=false) (b:=false) (V4 q1) λ_=>V4 q2)];rfl
theorem g20(s0 s1:Sl)(h:chk ts false=true):(v7 (ifD (ob (o2 (oA (z7 (gv 2) z9) Y8) (W5 (z7 (gc .non) (z7 (j4 (z7 (gc (.bl true)) (z7 (gc (.bl true)) (z7 (gc (.bl false)) z9)))) z9))) J0)) (v7 (o9 (gc (.bl false))) p6) p6) p6) [s0,s1,.sh (.str (strOf (o7 [59,32] ts)))]=some (.nx [s0,s1,.sh (.str (strOf (o7 [59,32] ts)))]):=by
 obtain⟨h1,h2,h3,h4⟩:=t70 h;have sd:=ss0 _ _ h1;have g2:z7 (gv 2) z9 [s0,s1,.sh (.str (strOf (o7 [59,32] ts)))]=some [.str (strOf (o7 [59,32] ts))]:=rfl;have q1:(ob (o2 (oA (z7 (gv 2) z9) Y8) (W5 (z7 (gc .non) (z7 (j4 (z7 (gc (.bl true)) (z7 (gc (.bl true)) (z7 (gc (.bl false)) z9)))) z9))) J0)) [s0,s1,.sh (.str (strOf (o7 [59,32] ts)))]=some false:=by
  refine V4 ((d9 (x:=.tup [.non,.lst [.bl true,.bl true,.bl false]]) (y:=.tup [.non,.lst [.bl true,.bl true,.bl false]]) ?_ rfl).trans rfl);rw[X5 g2];exact sd
 refine p7 (δ':=[s0,s1,.sh (.str (strOf (o7 [59,32] ts)))]) ?_ rfl;rw[X4 q1];rfl
theorem au0(s0 s1 s2:Sl):(Y9 1 [] (za0 (z7 (gc (.int 6)) z9)) (gN 0) noT (o2 (o2 (gc (.str "{")) (R3 (gc (.str ", ")) (z7 (Y9 1 [0] (za0 (z7 (gc (.int 10)) z9)) (gN 0) noT (o2 (o2 (gc (.str "m")) (oA (z7 (o2 (o2 (gc (.int 10)) (gv 1) R7) (gv 0) o8) z9) strOfD) o8) (gc (.str "=1")) o8)) z9)) o8) (gc (.str "}")) o8)) [s0,s1,s2]=some (.lst (tm.map λp=>D.str (strOf p))):=by kernel_rfl
theorem gq0:z20 []=some (.bl true):=by
 have e0:R3 (gc (.str "; ")) (z7 (o2 (j4 (z7 (gc (.str "''")) z9)) (gc (.int 60)) mulL) z9) [.un,.un,.un]=some (.str (strOf (o7 [59,32] (tw 60)))) :=
  xp0 [59,32] _ 2 (by decide +kernel) (by kernel_rfl) (λp hp=>by rw[List.eq_of_mem_replicate hp];decide) (by decide)
 have jr:∀s2:Sl,R3 (gc (.str "; ")) (z7 (gv 1) z9) [.sh (.str (strOf (o7 [59,32] (tw 60)))),.sh (.lst (tm.map λp=>D.str (strOf p))),s2]=some (.str (strOf (o7 [59,32] tm))):=λs2 =>
  xp0 [59,32] _ 100 (by decide +kernel) rfl (by decide +kernel) (by decide +kernel)
 have l1:=(t70 c1).2.2.2;have l3:=(t70 c3).2.2.2;have a2:∀s2:Sl,o2 (gv 0) (gc (.str "; ''")) o8 [.sh (.str (strOf (o7 [59,32] (tw 60)))),.sh (.lst (tm.map λp=>D.str (strOf p))),s2]=some (.str (strOf (o7 [59,32] (tw 61)))):=λs2=>by
  rw[J3 (b:=[59,32,39,39]) rfl (by show some (D.str "; ''")=_;congr 2) (by simp only[List.length_cons,List.length_nil];omega)];rw[show o7 [59,32] (tw 60)++[59,32,39,39]=o7 [59,32] (tw 61) by decide +kernel]
 have a4:∀s2:Sl,o2 (R3 (gc (.str "; ")) (z7 (gv 1) z9)) (gc (.str "; q{}")) o8 [.sh (.str (strOf (o7 [59,32] (tw 60)))),.sh (.lst (tm.map λp=>D.str (strOf p))),s2]=some (.str (strOf (o7 [59,32] (tm++[[113,123,125]])))):=λs2=>by
  rw[J3 (b:=[59,32,113,123,125]) (jr s2) (by show some (D.str "; q{}")=_;congr 2) (by simp only[List.length_cons,List.length_nil];omega)];rw[show o7 [59,32] tm++[59,32,113,123,125]=o7 [59,32] (tm++[[113,123,125]]) by decide +kernel]
 have a5:∀s2:Sl,o2 (R3 (gc (.str "; ")) (z7 (gv 1) z9)) (gc (.str "; {q=1}")) o8 [.sh (.str (strOf (o7 [59,32] (tw 60)))),.sh (.lst (tm.map λp=>D.str (strOf p))),s2]=some (.str (strOf (o7 [59,32] (tm++[[123,113,61,49,125]])))):=λs2=>by
  rw[J3 (b:=[59,32,123,113,61,49,125]) (jr s2) (by show some (D.str "; {q=1}")=_;congr 2) (by simp only[List.length_cons,List.length_nil];omega)];rw[show o7 [59,32] tm++[59,32,123,113,61,49,125]=o7 [59,32] (tm++[[123,113,61,49,125]]) by decide +kernel]
 have O:∀n:Nat,n<=5->n<=sizeLine:=λn h=>A9 h (by decide)
 refine Y5 rfl (p7 (b8 e0) (p7 (δ':=[.sh (.str (strOf (o7 [59,32] (tw 60)))),.sh (.lst (tm.map λp=>D.str (strOf p))),.un]) (b8 (au0 _ _ _)) (p7 (δ':=[.sh (.str (strOf (o7 [59,32] (tw 60)))),.sh (.lst (tm.map λp=>D.str (strOf p))),.sh (.str (strOf (o7 [59,32] tm)))]) ?_ (p7 (δ':=[.sh (.str (strOf (o7 [59,32] (tw 60)))),.sh (.lst (tm.map λp=>D.str (strOf p))),.sh (.str (strOf (o7 [59,32] (tm++[[123,113,61,49,125]]))))]) ?_ (n8 rfl)))))
 ·refine O7 (items:=[.str (strOf (o7 [59,32] (tw 60))),.str (strOf (o7 [59,32] tm))]) ?_ ?_
  ·show (W5 _ _).bind m50=_
   rw[qw0 (cons_of rfl (cons_of (jr _) rfl)) (O _ (by simp only[List.length_cons,List.length_nil];omega))];rfl
  ·rw[M5 rfl (cq0 _ _ c1),M5 rfl (cq0 _ _ c3)]
   rfl
 ·refine O7 (items:=[.str (strOf (o7 [59,32] (tw 61))),.str (strOf (o7 [59,32] (tm++[[113,123,125]]))),.str (strOf (o7 [59,32] (tm++[[123,113,61,49,125]])))]) ?_ ?_
  ·show (W5 _ _).bind m50=_
   rw[qw0 (cons_of (a2 _) (cons_of (a4 _) (cons_of (a5 _) rfl))) (O _ (by simp only[List.length_cons,List.length_nil];omega))];rfl
  ·rw[M5 rfl (g20 _ _ c2),M5 rfl (g20 _ _ c4),M5 rfl (g20 _ _ c5)]
   rfl
theorem i30{f:β->Option α}{P:α->Prop}:∀l:List β,(∀b∈l,∃a,f b=some a/\P a)->∃r,o5 (l.map f)=some r/\∀a∈r,P a
 | [],_=>⟨[],rfl,λa ha=>by cases ha⟩
 | b::l,h=>by
  obtain⟨a,e,p⟩:=h b A5;obtain⟨r,e2,p2⟩:=i30 l λx hx=>h x (A7 _ hx)
  refine⟨a::r,?_,λx hx=>?_⟩
  ·show o5 (f b::l.map f)=_
   rw[e];show (o5 (l.map f)).map (a::·)=_;rw[e2];rfl
  ·rcases B1.mp hx with rfl|q
   ·exact p
   ·exact p2 x q
theorem k50{d:D}(h:due x=some d):(∃ds,d=.tup ds)/\lean d 49=true:=by
 obtain⟨ps,_,rfl,ok,_⟩:=ut0 h;refine⟨⟨_,rfl⟩,Pn.zv0 λd hd=>?_⟩;obtain⟨p,hp,rfl⟩:=A6.mp hd;exact Pn.bj0 p (ok p hp).sane.2 44
theorem dw0(B:Base t ts m)(h:∀p∈ts,GoodT p (m:Int)):∃ds,due (strOf t)=some (.tup ds):=by
 obtain⟨ps,e,hp⟩:=i30 (f:=N6) (P:=λp=>p.Ok/\∀k∈p.links,k<(m:Int)) ts λb hb=>(h b hb).ok
 have e2:o5 ((Txt.split (strOf t) "; ").map λa=>N6 (cs a))=some ps:=by
  rw[B.split,List.map_map,← e];congr 1
 have hl:ps.length=m:=by rw[xv0 e,List.length_map,B.len]
 exact⟨_,fo0 e2 (λp q=>(hp p q).1) λp q=>by rw[hl];exact(hp p q).2⟩
theorem at7(y:Int)(h0:0<=y)(h1:y<7):y=0∨y=1∨y=2∨y=3∨y=4∨y=5∨y=6:=by omega
theorem mul_r(i j:Int)(h:-(2 ^ 64)<j/\j<2 ^ 64):R7 (.int i) (.int j)=some (.int (i*j)):=by simp only[R7];rw[if_pos (.inr h)]
theorem bu0{r:Option D}(hr:r=none∨∃ds,r=some (.tup ds)/\lean (.tup ds) 49=true):J0 (.tup [oD r,words r]) (.tup [oD r,words r])=some (.bl false):=by
 rcases hr with rfl|⟨ds,rfl,h⟩
 ·rfl
 ·refine Pn.eu0 (Pn.zv0 λd hd=>?_)
  rcases B1.mp hd with rfl|hd
  ·exact h
  ·rcases B1.mp hd with rfl|hd
   ·rfl
   ·cases hd
theorem bx0(B:Base t ts m)(ds:List D)(s0 s1 s3:Sl)(c:Int)(s7 s8 s9 s10:Sl) :
  ∃t7 t8 t9 t10,(v7 (j9 (gN 7) (o2 (o2 (o2 (gv 6) (gc (.int 1000000007)) Z8) (gc (.int 30323)) R7) (gc (.int 1000003)) Z8)) (v7 (j9 (gN 8) (oA (z7 (gv 4) (z7 (gv 7) (z7 (gv 2) z9))) T8)) (v7 (j9 (gN 9) (oA (z7 (gv 8) z9) P0)) (v7 (ifD (ob (o2 (oA (z7 (gv 8) z9) Y8) (W5 (z7 (gv 9) (z7 (o2 (j4 (z7 (j4 z9) (z7 (j4 (z7 (gc (.bl true)) (z7 (gc (.bl true)) (z7 (gc (.bl false)) z9)))) z9))) (oA (z7 (o2 (gv 9) (gc .non) zs0) z9) intOfD) ixD) z9))) J0)) (v7 (o9 (gc (.bl false))) p6) p6) (v7 (j9 (gN 10) (o2 (j4 (z7 (gc .non) (z7 (gc (.int 7)) (z7 (gc (.bl true)) (z7 (j4 (z7 (gv 4) z9)) (z7 (W5 (z7 (gv 4) z9)) (z7 (gv 5) (z7 (gc (.dct (.inl []) [])) z9)))))))) (o2 (gv 7) (gc (.int 7)) Z8) ixD)) (v7 (ifD (ob (o2 (oA (z7 (gv 10) z9) Y8) (W5 (z7 (gc .non) (z7 (j4 (z7 (gc (.bl true)) (z7 (gc (.bl true)) (z7 (gc (.bl false)) z9)))) z9))) J0)) (v7 (o9 (gc (.bl false))) p6) p6) p6)))))) [s0,s1,.sh (.int (m:Int)),s3,.sh (.str (strOf t)),.sh (.tup ds),.sh (.int c),s7,s8,s9,s10]=some (.nx [s0,s1,.sh (.int (m:Int)),s3,.sh (.str (strOf t)),.sh (.tup ds),.sh (.int c),t7,t8,t9,t10]):=by
 obtain⟨x,hx⟩:∃x,x=c%1000000007*30323%1000003:=⟨_,rfl⟩;have x0:0<=x:=by rw[hx];exact C4 _ (by decide)
 have eX:(o2 (o2 (o2 (gv 6) (gc (.int 1000000007)) Z8) (gc (.int 30323)) R7) (gc (.int 1000003)) Z8) [s0,s1,.sh (.int (m:Int)),s3,.sh (.str (strOf t)),.sh (.tup ds),.sh (.int c),s7,s8,s9,s10]=some (.int x):=by
  rw[hx];exact yh0 ((d9 (yh0 (i:=c) (j:=1000000007) rfl rfl (by decide)) rfl).trans (mul_r _ 30323 (by decide))) rfl (by decide)
 obtain⟨s,hs,hl,hc⟩:=ce0 B x x0;obtain⟨r1,r2⟩:=cw0 s (by omega) hc;have sd:=ss0 (.str s) (due s) r1;have hr:due s=none∨∃ds,due s=some (.tup ds)/\lean (.tup ds) 49=true:=by
  cases q:due s with
  | none=>exact .inl rfl
  | some d =>
   obtain⟨⟨e,rfl⟩,h⟩:=k50 q;exact .inr ⟨e,rfl,h⟩
 have eB:oA (z7 (gv 4) (z7 (gv 7) (z7 (gv 2) z9))) T8 [s0,s1,.sh (.int (m:Int)),s3,.sh (.str (strOf t)),.sh (.tup ds),.sh (.int c),.sh (.int x),s8,s9,s10]=some (.str s):=by
  rw[X5 (ds:=[.str (strOf t),.int x,.int (m:Int)]) rfl];exact hs
 have eD:oA (z7 (gv 8) z9) P0 [s0,s1,.sh (.int (m:Int)),s3,.sh (.str (strOf t)),.sh (.tup ds),.sh (.int c),.sh (.int x),.sh (.str s),s9,s10]=some (oD (due s)):=by
  rw[X5 (ds:=[.str s]) rfl];exact r2
 have i1:(ob (o2 (oA (z7 (gv 8) z9) Y8) (W5 (z7 (gv 9) (z7 (o2 (j4 (z7 (j4 z9) (z7 (j4 (z7 (gc (.bl true)) (z7 (gc (.bl true)) (z7 (gc (.bl false)) z9)))) z9))) (oA (z7 (o2 (gv 9) (gc .non) zs0) z9) intOfD) ixD) z9))) J0)) [s0,s1,.sh (.int (m:Int)),s3,.sh (.str (strOf t)),.sh (.tup ds),.sh (.int c),.sh (.int x),.sh (.str s),.sh (oD (due s)),s10]=some false:=by
  refine V4 ((d9 (x:=.tup [oD (due s),words (due s)]) (y:=.tup [oD (due s),words (due s)]) ?_ ?_).trans (bu0 hr))
  ·rw[X5 (ds:=[.str s]) rfl]
   exact sd
  ·rcases hr with h|⟨e,h,_⟩
   ·rw[h];rfl
   ·rw[h];rfl
 have O:∃d,DL.isStr d=false/\(o2 (j4 (z7 (gc .non) (z7 (gc (.int 7)) (z7 (gc (.bl true)) (z7 (j4 (z7 (gv 4) z9)) (z7 (W5 (z7 (gv 4) z9)) (z7 (gv 5) (z7 (gc (.dct (.inl []) [])) z9)))))))) (o2 (gv 7) (gc (.int 7)) Z8) ixD) [s0,s1,.sh (.int (m:Int)),s3,.sh (.str (strOf t)),.sh (.tup ds),.sh (.int c),.sh (.int x),.sh (.str s),.sh (oD (due s)),s10]=some d:=by
  have l:(j4 (z7 (gc .non) (z7 (gc (.int 7)) (z7 (gc (.bl true)) (z7 (j4 (z7 (gv 4) z9)) (z7 (W5 (z7 (gv 4) z9)) (z7 (gv 5) (z7 (gc (.dct (.inl []) [])) z9)))))))) [s0,s1,.sh (.int (m:Int)),s3,.sh (.str (strOf t)),.sh (.tup ds),.sh (.int c),.sh (.int x),.sh (.str s),.sh (oD (due s)),s10]=some (.lst [.non,.int 7,.bl true,.lst [.str (strOf t)],.tup [.str (strOf t)],.tup ds,.dct (.inl []) []]):=rfl;have ix:o2 (gv 7) (gc (.int 7)) Z8 [s0,s1,.sh (.int (m:Int)),s3,.sh (.str (strOf t)),.sh (.tup ds),.sh (.int c),.sh (.int x),.sh (.str s),.sh (oD (due s)),s10]=some (.int (x%7)):=yh0 rfl rfl (by decide);have n1:=C4 x (show (7:Int)≠0 by decide);have n2:=C5 x (show (0:Int)<7 by decide);rw[d9 l ix];rcases at7 (x%7) n1 n2 with h|h|h|h|h|h|h
  ·rw[h];exact⟨.non,rfl,rfl⟩
  ·rw[h];exact⟨.int 7,rfl,rfl⟩
  ·rw[h];exact⟨.bl true,rfl,rfl⟩
  ·rw[h];exact⟨.lst [.str (strOf t)],rfl,rfl⟩
  ·rw[h];exact⟨.tup [.str (strOf t)],rfl,rfl⟩
  ·rw[h];exact⟨.tup ds,rfl,rfl⟩
  ·rw[h];exact⟨.dct (.inl []) [],rfl,rfl⟩
 obtain⟨d,hd,eT⟩:=O;have S:=ss0 d none (bb0 d hd);have i2:(ob (o2 (oA (z7 (gv 10) z9) Y8) (W5 (z7 (gc .non) (z7 (j4 (z7 (gc (.bl true)) (z7 (gc (.bl true)) (z7 (gc (.bl false)) z9)))) z9))) J0)) [s0,s1,.sh (.int (m:Int)),s3,.sh (.str (strOf t)),.sh (.tup ds),.sh (.int c),.sh (.int x),.sh (.str s),.sh (oD (due s)),.sh d]=some false:=by
  refine V4 ((d9 (x:=.tup [.non,.lst [.bl true,.bl true,.bl false]]) (y:=.tup [.non,.lst [.bl true,.bl true,.bl false]]) ?_ rfl).trans rfl);rw[X5 (ds:=[d]) rfl];exact S
 refine⟨.sh (.int x),.sh (.str s),.sh (oD (due s)),.sh d,?_⟩;refine p7 (δ':=[s0,s1,.sh (.int (m:Int)),s3,.sh (.str (strOf t)),.sh (.tup ds),.sh (.int c),.sh (.int x),s8,s9,s10]) (b8 eX) (p7 (δ':=[s0,s1,.sh (.int (m:Int)),s3,.sh (.str (strOf t)),.sh (.tup ds),.sh (.int c),.sh (.int x),.sh (.str s),s9,s10]) (b8 eB) (p7 (δ':=[s0,s1,.sh (.int (m:Int)),s3,.sh (.str (strOf t)),.sh (.tup ds),.sh (.int c),.sh (.int x),.sh (.str s),.sh (oD (due s)),s10]) (b8 eD) (p7 (δ':=[s0,s1,.sh (.int (m:Int)),s3,.sh (.str (strOf t)),.sh (.tup ds),.sh (.int c),.sh (.int x),.sh (.str s),.sh (oD (due s)),s10]) ?_ (p7 (δ':=[s0,s1,.sh (.int (m:Int)),s3,.sh (.str (strOf t)),.sh (.tup ds),.sh (.int c),.sh (.int x),.sh (.str s),.sh (oD (due s)),.sh d]) (b8 eT) (p7 (δ':=[s0,s1,.sh (.int (m:Int)),s3,.sh (.str (strOf t)),.sh (.tup ds),.sh (.int c),.sh (.int x),.sh (.str s),.sh (oD (due s)),.sh d]) ?_ rfl)))))
 ·rw[X4 i1]
  rfl
 ·rw[X4 i2]
  rfl
theorem i70(ns:List Int)(k:Int)(h0:0<=k):∃z,U5 [.lst (ns.map .int),.int k]=some (.int z):=by
 by_cases h:k<ns.length
 ·have O:k.toNat<ns.length:=by omega
  refine⟨ns[k.toNat],Y5 rfl (n8 ?_)⟩;rw[R8 (by
   show some (decide (k<(((ns.map D.int).length:Nat):Int)))=_;rw[decide_eq_true (by rw[List.length_map];exact h)])]
  refine n8 (U3 ?_);show atI (ns.map D.int) k=_;rw[tv0 h0 (by rw[List.length_map];exact h) .non];simp[List.getD_eq_getElem?_getD,O]
 ·refine⟨0,Y5 rfl (p7 (δ':=[.sh (.lst (ns.map .int)),.sh (.int k)]) ?_ rfl)⟩
  rw[X4 (by
   show some (decide (k<(((ns.map D.int).length:Nat):Int)))=_;rw[decide_eq_false (by rw[List.length_map];exact h)])]
  rfl
theorem Y30(ns:List Int)(j:Nat)(hj:j<8):∃x:Int,(o2 (o2 (o2 (o2 (oA (z7 (gv 1) (z7 (o2 (gc (.int 1)) (gv 0) o8) z9)) U5) (gc (.int 1000000007)) Z8) (o2 (o2 (gc (.int 47)) (gv 0) R7) (gv 0) R7) o8) (gc (.int 39373)) R7) (gc (.int 1000003)) Z8) [.sh (.int (j:Int)),.sh (.lst (ns.map .int))]=some (.int x)/\0<=x/\x<1000003:=by
 obtain⟨c,hc⟩:=i70 ns (1+(j:Int)) (by omega);have a1:oA (z7 (gv 1) (z7 (o2 (gc (.int 1)) (gv 0) o8) z9)) U5 [.sh (.int (j:Int)),.sh (.lst (ns.map .int))]=some (.int c):=by
  rw[X5 (ds:=[.lst (ns.map .int),.int (1+(j:Int))]) rfl];exact hc
 have a2:o2 (o2 (gc (.int 47)) (gv 0) R7) (gv 0) R7 [.sh (.int (j:Int)),.sh (.lst (ns.map .int))]=some (.int (47*(j:Int)*(j:Int))):=by
  rw[d9 (x:=.int (47*(j:Int))) (y:=.int (j:Int)) ((d9 rfl rfl).trans (mul_r 47 _ (by omega))) rfl];exact mul_r _ _ (by omega)
 refine⟨(c%1000000007+47*(j:Int)*(j:Int))*39373%1000003,?_,C4 _ (by decide),C5 _ (by decide)⟩;exact yh0 ((d9 (x:=.int (c%1000000007+47*(j:Int)*(j:Int))) ((d9 (yh0 a1 rfl (by decide)) a2).trans rfl) rfl).trans (mul_r _ 39373 (by decide))) rfl (by decide)
theorem Xm0{d:D}(h1:ob ga δ=some true)(h2:gb δ=some d):K8 ga gb δ=some d:=by
 unfold K8;rw[h1];exact h2
theorem em0(ns:List Int)(hl:ns.length<=63):sv0 [.lst (ns.map .int)]=some (.bl true):=by
 obtain⟨c0,h0⟩:=i70 ns 0 (by decide);obtain⟨f,hf⟩:∃f,f=c0%1000003:=⟨_,rfl⟩;have f7:=C4 f (show (7:Int)≠0 by decide);have f8:=C5 f (show (0:Int)<7 by decide);obtain⟨m,hm⟩:∃m:Nat,m=(1+f%7).toNat:=⟨_,rfl⟩;have a7:1+f%7=(m:Int):=by omega
 have m1:1<=m:=by omega
 have m7:m<=7:=by omega
 have hN:∀j:Nat,∃x:Int,j<8->(o2 (o2 (o2 (o2 (oA (z7 (gv 1) (z7 (o2 (gc (.int 1)) (gv 0) o8) z9)) U5) (gc (.int 1000000007)) Z8) (o2 (o2 (gc (.int 47)) (gv 0) R7) (gv 0) R7) o8) (gc (.int 39373)) R7) (gc (.int 1000003)) Z8) [.sh (.int (j:Int)),.sh (.lst (ns.map .int))]=some (.int x)/\0<=x/\x<1000003:=λj=>by
  by_cases h:j<8
  ·obtain⟨x,q⟩:=Y30 ns j h
   exact⟨x,λ_=>q⟩
  ·exact⟨0,λq=>absurd q h⟩
 obtain⟨N,hN⟩:=o1 hN;have hT:∀x:Int,∃t,(0<=x/\x<1000003)->S7 [.int x,.int (m:Int)]=some (.str (strOf t))/\GoodT t (m:Int):=λx=>by
  by_cases h:0<=x/\x<1000003
  ·obtain⟨t,q⟩:=W60 x (m:Int) h.1 h.2 (by omega) (by omega)
   exact⟨t,λ_=>q⟩
  ·exact⟨[],λq=>absurd q h⟩
 obtain⟨F,hF⟩:=o1 hT;obtain⟨ts,Y⟩:∃ts:List (List Nat),ts=(List.range m).map λj=>F (N j):=⟨_,rfl⟩
 have S:∀p∈ts,GoodT p (m:Int):=λp hp=>by
  rw[Y] at hp;obtain⟨j,hj,rfl⟩:=A6.mp hp;exact(hF (N j) (hN j (by have:=B4.mp hj;omega)).2).2
 have B:Base (o7 [59,32] ts) ts m:=⟨rfl,by rw[Y,List.length_map,List.length_range],m1,m7,λp hp=>⟨(S p hp).semi,(S p hp).eqs,(S p hp).len⟩⟩;obtain⟨t,ht⟩:∃t,t=o7 [59,32] ts:=⟨_,rfl⟩;rw[← ht] at B;obtain⟨ds,a1⟩:=dw0 B S;obtain⟨NS,a2⟩:∃NS:D,NS=.lst ((List.range m).map λj=>.int (N j)):=⟨_,rfl⟩;have eF:o2 (oA (z7 (gv 0) (z7 (gc (.int 0)) z9)) U5) (gc (.int 1000003)) Z8 [.sh (.lst (ns.map .int)),.un,.un,.un,.un,.un,.un,.un,.un,.un,.un]=some (.int f):=by
  rw[hf];exact yh0 (by rw[X5 (ds:=[.lst (ns.map .int),.int 0]) rfl];exact h0) rfl (by decide)
 have eM:o2 (gc (.int 1)) (o2 (gv 1) (gc (.int 7)) Z8) o8 [.sh (.lst (ns.map .int)),.sh (.int f),.un,.un,.un,.un,.un,.un,.un,.un,.un]=some (.int (m:Int)):=by
  rw[d9 (x:=.int 1) (y:=.int (f%7)) rfl (yh0 rfl rfl (by decide)),← a7];rfl
 have eN:(Y9 1 [0] (za0 (z7 (gv 2) z9)) (gN 0) noT (o2 (o2 (o2 (o2 (oA (z7 (gv 1) (z7 (o2 (gc (.int 1)) (gv 0) o8) z9)) U5) (gc (.int 1000000007)) Z8) (o2 (o2 (gc (.int 47)) (gv 0) R7) (gv 0) R7) o8) (gc (.int 39373)) R7) (gc (.int 1000003)) Z8)) [.sh (.lst (ns.map .int)),.sh (.int f),.sh (.int (m:Int)),.un,.un,.un,.un,.un,.un,.un,.un]=some NS:=by
  rw[a2];have hr:za0 (z7 (gv 2) z9) [.sh (.lst (ns.map .int)),.sh (.int f),.sh (.int (m:Int)),.un,.un,.un,.un,.un,.un,.un,.un]=some (yn0 0 (m:Int)):=pz0 rfl (by omega) (by omega);refine J7 hr (by rw[o80];exact A9 (show _<=7 by omega) (by decide)) ?_;rw[q00 (λj=>.int (N j)) λk hk=>⟨[.sh (.int (k:Int)),.sh (.lst (ns.map .int))],rfl,rfl,(hN k (by omega)).1⟩];rfl
 have eT:(R3 (gc (.str "; ")) (z7 (Y9 1 [2] (M8 (gv 3)) (gN 0) noT (oA (z7 (gv 0) (z7 (gv 1) z9)) S7)) z9)) [.sh (.lst (ns.map .int)),.sh (.int f),.sh (.int (m:Int)),.sh NS,.un,.un,.un,.un,.un,.un,.un]=some (.str (strOf t)):=by
  rw[ht];refine xp0 [59,32] ts 60 (by decide +kernel) ?_ (λp hp=>(S p hp).len) (by rw[← ht] at *;have:=B.len;rw[this];simp only[List.length_cons,List.length_nil];omega);rw[a2];refine(J7 (items:=(List.range m).map λj=>D.int (N j)) rfl (by rw[List.length_map,List.length_range];exact A9 m7 (by decide)) (M7 (λd=>match d with|.int x=>.str (strOf (F x))|_=>.non) λd hd=>?_)).trans ?_
  ·obtain⟨j,hj,rfl⟩:=A6.mp hd
   refine⟨[.sh (.int (N j)),.sh (.int (m:Int))],rfl,rfl,?_⟩;rw[X5 (ds:=[.int (N j),.int (m:Int)]) rfl];exact(hF (N j) (hN j (by have:=B4.mp hj;omega)).2).1
  ·rw[Y,List.map_map,List.map_map]
   rfl
 have l4:=B.short;obtain⟨r1,r2⟩:=cw0 (strOf t) (by rw[m8];omega) (by unfold ct;rw[Q0];have:=B.c61;have:=B.c59;omega);rw[a1] at r1 r2;obtain⟨_,a0⟩:=k50 a1;have U:lean (.tup ds) 50=true:=Pn.bm0 _ 49 50 (by decide) a0;obtain⟨us,hu,a6⟩:∃us:List Int,us.length<=63/\cutD (ns.map D.int) (some 8) (some 22)=us.map .int:=by
  refine⟨(ns.drop (sIx (ns.map D.int).length 0 (some 8))).take (sIx (ns.map D.int).length (ns.map D.int).length (some 22) - sIx (ns.map D.int).length 0 (some 8)),?_,?_⟩
  ·rw[List.length_take,List.length_drop];omega
  ·unfold cutD
   rw[List.map_take,List.map_drop]
 have rd:∀s6 s7 s8 s9 O:Sl,oA (z7 (gv 4) z9) (O3 T6) [.sh (.lst (ns.map .int)),.sh (.int f),.sh (.int (m:Int)),.sh NS,.sh (.str (strOf t)),.sh (.tup ds),s6,s7,s8,s9,O]=some (.tup ds):=λs6 s7 s8 s9 O=>by
  rw[X5 (ds:=[.str (strOf t)]) rfl];exact nd0 r1
 have dw:oA (z7 (gv 4) z9) P0 [.sh (.lst (ns.map .int)),.sh (.int f),.sh (.int (m:Int)),.sh NS,.sh (.str (strOf t)),.un,.un,.un,.un,.un,.un]=some (.tup ds):=by
  rw[X5 (ds:=[.str (strOf t)]) rfl];exact r2
 have it:M8 (o2 (d8 (gv 0) (someO (gc (.int 8))) (someO (gc (.int 22)))) (j4 (z7 (gv 1) z9)) o8) [.sh (.lst (ns.map .int)),.sh (.int f),.sh (.int (m:Int)),.sh NS,.sh (.str (strOf t)),.sh (.tup ds),.un,.un,.un,.un,.un]=some ((us++[f]).map .int):=by
  have e:(o2 (d8 (gv 0) (someO (gc (.int 8))) (someO (gc (.int 22)))) (j4 (z7 (gv 1) z9)) o8) [.sh (.lst (ns.map .int)),.sh (.int f),.sh (.int (m:Int)),.sh NS,.sh (.str (strOf t)),.sh (.tup ds),.un,.un,.un,.un,.un]=some (.lst ((us++[f]).map .int)):=by
   rw[d9 (x:=.lst (us.map .int)) (y:=.lst [.int f]) (by rw[← a6];rfl) rfl];simp only[o8];rw[if_pos (by rw[List.length_map];show us.length+1<=_;exact A9 (show _<=64 by omega) (by decide)),List.map_append];rfl
  show (_:Option D).bind iq0=_;rw[e];rfl
 have loop:∃s6 s7 s8 s9 O,T5 (gN 6) (v7 (j9 (gN 7) (o2 (o2 (o2 (gv 6) (gc (.int 1000000007)) Z8) (gc (.int 30323)) R7) (gc (.int 1000003)) Z8)) (v7 (j9 (gN 8) (oA (z7 (gv 4) (z7 (gv 7) (z7 (gv 2) z9))) T8)) (v7 (j9 (gN 9) (oA (z7 (gv 8) z9) P0)) (v7 (ifD (ob (o2 (oA (z7 (gv 8) z9) Y8) (W5 (z7 (gv 9) (z7 (o2 (j4 (z7 (j4 z9) (z7 (j4 (z7 (gc (.bl true)) (z7 (gc (.bl true)) (z7 (gc (.bl false)) z9)))) z9))) (oA (z7 (o2 (gv 9) (gc .non) zs0) z9) intOfD) ixD) z9))) J0)) (v7 (o9 (gc (.bl false))) p6) p6) (v7 (j9 (gN 10) (o2 (j4 (z7 (gc .non) (z7 (gc (.int 7)) (z7 (gc (.bl true)) (z7 (j4 (z7 (gv 4) z9)) (z7 (W5 (z7 (gv 4) z9)) (z7 (gv 5) (z7 (gc (.dct (.inl []) [])) z9)))))))) (o2 (gv 7) (gc (.int 7)) Z8) ixD)) (v7 (ifD (ob (o2 (oA (z7 (gv 10) z9) Y8) (W5 (z7 (gc .non) (z7 (j4 (z7 (gc (.bl true)) (z7 (gc (.bl true)) (z7 (gc (.bl false)) z9)))) z9))) J0)) (v7 (o9 (gc (.bl false))) p6) p6) p6)))))) ((us++[f]).map .int) [.sh (.lst (ns.map .int)),.sh (.int f),.sh (.int (m:Int)),.sh NS,.sh (.str (strOf t)),.sh (.tup ds),.un,.un,.un,.un,.un]=some (.nx [.sh (.lst (ns.map .int)),.sh (.int f),.sh (.int (m:Int)),.sh NS,.sh (.str (strOf t)),.sh (.tup ds),s6,s7,s8,s9,O]):=by
  have a4:∀(l:List Int) (s6 s7 s8 s9 O:Sl),∃t6 t7 t8 t9 Z,T5 (gN 6) (v7 (j9 (gN 7) (o2 (o2 (o2 (gv 6) (gc (.int 1000000007)) Z8) (gc (.int 30323)) R7) (gc (.int 1000003)) Z8)) (v7 (j9 (gN 8) (oA (z7 (gv 4) (z7 (gv 7) (z7 (gv 2) z9))) T8)) (v7 (j9 (gN 9) (oA (z7 (gv 8) z9) P0)) (v7 (ifD (ob (o2 (oA (z7 (gv 8) z9) Y8) (W5 (z7 (gv 9) (z7 (o2 (j4 (z7 (j4 z9) (z7 (j4 (z7 (gc (.bl true)) (z7 (gc (.bl true)) (z7 (gc (.bl false)) z9)))) z9))) (oA (z7 (o2 (gv 9) (gc .non) zs0) z9) intOfD) ixD) z9))) J0)) (v7 (o9 (gc (.bl false))) p6) p6) (v7 (j9 (gN 10) (o2 (j4 (z7 (gc .non) (z7 (gc (.int 7)) (z7 (gc (.bl true)) (z7 (j4 (z7 (gv 4) z9)) (z7 (W5 (z7 (gv 4) z9)) (z7 (gv 5) (z7 (gc (.dct (.inl []) [])) z9)))))))) (o2 (gv 7) (gc (.int 7)) Z8) ixD)) (v7 (ifD (ob (o2 (oA (z7 (gv 10) z9) Y8) (W5 (z7 (gc .non) (z7 (j4 (z7 (gc (.bl true)) (z7 (gc (.bl true)) (z7 (gc (.bl false)) z9)))) z9))) J0)) (v7 (o9 (gc (.bl false))) p6) p6) p6)))))) (l.map .int) [.sh (.lst (ns.map .int)),.sh (.int f),.sh (.int (m:Int)),.sh NS,.sh (.str (strOf t)),.sh (.tup ds),s6,s7,s8,s9,O]=some (.nx [.sh (.lst (ns.map .int)),.sh (.int f),.sh (.int (m:Int)),.sh NS,.sh (.str (strOf t)),.sh (.tup ds),t6,t7,t8,t9,Z]):=by
   intro l
   induction l with
   | nil=>intro s6 s7 s8 s9 O;exact⟨s6,s7,s8,s9,O,rfl⟩
   | cons c l ih =>
    intro s6 s7 s8 s9 O;obtain⟨t7,t8,t9,Z,e⟩:=bx0 B ds (.sh (.lst (ns.map .int))) (.sh (.int f)) (.sh NS) c s7 s8 s9 O;obtain⟨u6,u7,u8,u9,a3,e2⟩:=ih (.sh (.int c)) t7 t8 t9 Z;exact⟨u6,u7,u8,u9,a3,(M5 (ds:=l.map .int) rfl e).trans e2⟩
  exact a4 _ _ _ _ _ _
 obtain⟨s6,s7,s8,s9,O,lp⟩:=loop;have gd:S5 (ob (o2 (oA (z7 (gv 4) z9) (O3 T6)) (gv 5) J0)) (ob (o2 (gv 5) (gc .non) zs0)) [.sh (.lst (ns.map .int)),.sh (.int f),.sh (.int (m:Int)),.sh NS,.sh (.str (strOf t)),.sh (.tup ds),.un,.un,.un,.un,.un]=some false :=
  v50 (a:=false) (b:=false) (V4 ((d9 (rd _ _ _ _ _) rfl).trans (Pn.eu0 U))) λ_=>rfl
 have a5:(K8 (o2 (oA (z7 (gv 4) z9) (O3 T6)) (gv 5) qd0) (oA z9 z20)) [.sh (.lst (ns.map .int)),.sh (.int f),.sh (.int (m:Int)),.sh NS,.sh (.str (strOf t)),.sh (.tup ds),s6,s7,s8,s9,O]=some (.bl true):=by
  have e:ob (o2 (oA (z7 (gv 4) z9) (O3 T6)) (gv 5) qd0) [.sh (.lst (ns.map .int)),.sh (.int f),.sh (.int (m:Int)),.sh NS,.sh (.str (strOf t)),.sh (.tup ds),s6,s7,s8,s9,O]=some true:=V4 ((d9 (rd _ _ _ _ _) rfl).trans (Pn.Vb0 U));exact Xm0 e ((X5 (gA:=z9) (ds:=[]) rfl).trans gq0)
 refine Y5 rfl (p7 (δ':=[.sh (.lst (ns.map .int)),.sh (.int f),.un,.un,.un,.un,.un,.un,.un,.un,.un]) (b8 eF) (p7 (δ':=[.sh (.lst (ns.map .int)),.sh (.int f),.sh (.int (m:Int)),.un,.un,.un,.un,.un,.un,.un,.un]) (b8 eM) (p7 (δ':=[.sh (.lst (ns.map .int)),.sh (.int f),.sh (.int (m:Int)),.sh NS,.un,.un,.un,.un,.un,.un,.un]) (b8 eN) (p7 (δ':=[.sh (.lst (ns.map .int)),.sh (.int f),.sh (.int (m:Int)),.sh NS,.sh (.str (strOf t)),.un,.un,.un,.un,.un,.un]) (b8 eT) (p7 (δ':=[.sh (.lst (ns.map .int)),.sh (.int f),.sh (.int (m:Int)),.sh NS,.sh (.str (strOf t)),.sh (.tup ds),.un,.un,.un,.un,.un]) (b8 dw) (p7 (δ':=[.sh (.lst (ns.map .int)),.sh (.int f),.sh (.int (m:Int)),.sh NS,.sh (.str (strOf t)),.sh (.tup ds),.un,.un,.un,.un,.un]) ?_ (p7 (O7 it lp) (n8 (U3 a5)))))))));rw[X4 gd];rfl
end E8
namespace E8
open L2 DL W
noncomputable def top(i:Nat):Stmt:=PySem.Challenge.pw_graphpack_k08_texts_that_show_no_web.main.body.getD i (.Pass ⟨0,0,0,0⟩)
theorem b_ValueError:bootBuiltins "ValueError"=some (.type "ValueError"):=by decide +kernel
theorem b_all:bootBuiltins "all"=some (.builtin "all"):=by decide +kernel
theorem b_bool:bootBuiltins "bool"=some (.type "bool"):=by decide +kernel
theorem b_int:bootBuiltins "int"=some (.type "int"):=by decide +kernel
theorem b_list:bootBuiltins "list"=some (.type "list"):=by decide +kernel
theorem b_str:bootBuiltins "str"=some (.type "str"):=by decide +kernel
theorem b_tuple:bootBuiltins "tuple"=some (.type "tuple"):=by decide +kernel
structure Txt(mg:Str->Option Value):Prop where
 b_ValueError:mg "ValueError"=none
 b_all:mg "all"=none
 b_bool:mg "bool"=none
 b_int:mg "int"=none
 b_isinstance:mg "isinstance"=none
 b_len:mg "len"=none
 b_list:mg "list"=none
 b_range:mg "range"=none
 b_set:mg "set"=none
 b_str:mg "str"=none
 b_tuple:mg "tuple"=none
 c_FIGURES:∃t,mg "FIGURES"=some (.str "0123456789" t)
 c_MOST_FIGURES:∃t,mg "MOST_FIGURES"=some (.int 60 t)
 c_MOST_NAMES:∃t,mg "MOST_NAMES"=some (.int 60 t)
 c_MOST_NAME_SIGNS:∃t,mg "MOST_NAME_SIGNS"=some (.int 8 t)
 c_MOST_PARTS:∃t,mg "MOST_PARTS"=some (.int 60 t)
 c_MOST_VALUES:∃t,mg "MOST_VALUES"=some (.int 12 t)
 c_MOST_WORD_SIGNS:∃t,mg "MOST_WORD_SIGNS"=some (.int 20 t)
 c_NAME_SIGNS:∃t,mg "NAME_SIGNS"=some (.str "0123456789abcdefghijklmnopqrstuvwxyz" t)
 c_WORD_SIGNS:∃t,mg "WORD_SIGNS"=some (.str " 0123456789abcdefghijklmnopqrstuvwxyz" t)
section
variable{P:Program}{w:World}
theorem ko0:FnScope ["thing"] ["thing"] (u0 (top 20)):=⟨rfl,rfl,rfl,by decide +kernel,rfl,by decide +kernel,by decide +kernel⟩
theorem kv0(F:Fun K "is_whole" "is_whole" (top 20) fa fd)(T:Txt mg)  : FnOk P w K mg base CX0 1 fa fd ["thing"] (spD K O5) :=
 okD (k:=0) (G:=qk0) F ko0 (λO A outer s H E hr=>(v5 (o6 (N8 (xb0 ak0 b_int T.b_isinstance T.b_int (w6 0)) (G8 (f80 (xb0 dh0 b_bool T.b_isinstance T.b_bool (w6 0))))))
   v8)) (λds d h=>⟨(rk0 ds d h).1,.inl (rk0 ds d h).2⟩)
theorem nn0:FnScope ["thing", "signs", "most"] ["thing", "signs", "most"] (u0 (top 21)):=⟨rfl,rfl,rfl,by decide +kernel,rfl,by decide +kernel,by decide +kernel⟩
theorem m00(F:Fun K "is_spelled" "is_spelled" (top 21) fa fd)(T:Txt mg)  : FnOk P w K mg base CX0 1 fa fd ["thing", "signs", "most"] (spD K Q8) :=
 okD (k:=0) (G:=v30) F nn0 (λO A outer s H E hr=>(v5 (o6 (N8 (xb0 oa0 b_str T.b_isinstance T.b_str (w6 0)) (N8 (S8 qz0 si0 (U6 T.b_len (z8 (w6 0) v6)) (w6 2)) (G8 (w50 (vh0 rfl) s20 T.b_all b_all (z8 (K3 (sc:=u0 (top 21)) (N:=["thing", "signs", "most"]) (N':=["sign", "signs"]) (n:=1) (caps:=[1]) ⟨rfl,by decide +kernel,by decide +kernel,by decide +kernel,by decide +kernel,rfl,by decide +kernel⟩ (by decide) (ua0 (w6 0)) (λcl s H ex=>o4 0 (by decide +kernel:(["sign", "signs"]:List Str).Nodup)) (λcl s H ex=>O4) (λcl s H ex=>(S8 sk0 kg0 (w6 0) (w6 1)))) v6))))))
   v8)) (λds d h=>⟨(tc0 ds d h).1,.inl (tc0 ds d h).2⟩)
theorem i80:FnScope ["thing"] ["thing"] (u0 (top 22)):=⟨rfl,rfl,rfl,by decide +kernel,rfl,by decide +kernel,by decide +kernel⟩
theorem h90(F:Fun K "is_name" "is_name" (top 22) fa fd)(T:Txt mg)(C_is_spelled:FnD P w K mg base "is_spelled" 1 ["thing", "signs", "most"] Q8):FnOk P w K mg base CX0 2 fa fd ["thing"] (spD K zc0) :=
 okD (k:=1) (G:=s60) F i80 (λO A outer s H E hr=>(v5 (o6 (N8 (Z2 C_is_spelled hr (by decide) (z8 (w6 0) (z8 (py0 T.c_NAME_SIGNS) (z8 (xk0 T.c_MOST_NAME_SIGNS) v6)))) (G8 (S8 sp0 uf0 (U6 T.b_len (z8 (w6 0) v6)) p8))))
   v8)) (λds d h=>⟨(qu0 ds d h).1,.inl (qu0 ds d h).2⟩)
theorem is0:FnScope ["thing"] ["thing"] (u0 (top 23)):=⟨rfl,rfl,rfl,by decide +kernel,rfl,by decide +kernel,by decide +kernel⟩
theorem ic0(F:Fun K "is_word" "is_word" (top 23) fa fd)(T:Txt mg)(C_is_spelled:FnD P w K mg base "is_spelled" 1 ["thing", "signs", "most"] Q8):FnOk P w K mg base CX0 2 fa fd ["thing"] (spD K zu0) :=
 okD (k:=1) (G:=sf0) F is0 (λO A outer s H E hr=>(v5 (o6 (Z2 C_is_spelled hr (by decide) (z8 (w6 0) (z8 (py0 T.c_WORD_SIGNS) (z8 (xk0 T.c_MOST_WORD_SIGNS) v6)))))
   v8)) (λds d h=>⟨(qm0 ds d h).1,.inl (qm0 ds d h).2⟩)
theorem k60:FnScope ["thing", "mark", "count"] ["thing", "mark", "count"] (u0 (top 24)):=⟨rfl,rfl,rfl,by decide +kernel,rfl,by decide +kernel,by decide +kernel⟩
theorem lt0(F:Fun K "is_marked" "is_marked" (top 24) fa fd)(T:Txt mg)  : FnOk P w K mg base CX0 1 fa fd ["thing", "mark", "count"] (spD K j5) :=
 okD (k:=0) (G:=yi0) F k60 (λO A outer s H E hr=>(v5 (o6 (N8 (xb0 vo0 b_tuple T.b_isinstance T.b_tuple (w6 0)) (N8 (S8 S6 V6 (U6 T.b_len (z8 (w6 0) v6)) (w6 2)) (N8 (xb0 oa0 b_str T.b_isinstance T.b_str (Z3 (w6 0) p8)) (G8 (S8 S6 V6 (Z3 (w6 0) p8) (w6 1)))))))
   v8)) (λds d h=>⟨(sd0 ds d h).1,.inl (sd0 ds d h).2⟩)
theorem ii0:FnScope ["thing"] ["thing"] (u0 (top 25)):=⟨rfl,rfl,rfl,by decide +kernel,rfl,by decide +kernel,by decide +kernel⟩
theorem g10(F:Fun K "is_link" "is_link" (top 25) fa fd)(T:Txt mg)(C_is_marked:FnD P w K mg base "is_marked" 1 ["thing", "mark", "count"] j5)(C_is_whole:FnD P w K mg base "is_whole" 1 ["thing"] O5):FnOk P w K mg base CX0 2 fa fd ["thing"] (spD K Q4) :=
 okD (k:=1) (G:=zt0) F ii0 (λO A outer s H E hr=>(v5 (o6 (N8 (Z2 C_is_marked hr (by decide) (z8 (w6 0) (z8 v9 (z8 p8 v6)))) (N8 (Z2 C_is_whole hr (by decide) (z8 (Z3 (w6 0) p8) v6)) (G8 (S8 cv0 fj0 (Z3 (w6 0) p8) p8)))))
   v8)) (λds d h=>⟨(qr0 ds d h).1,.inl (qr0 ds d h).2⟩)
theorem ky0:FnScope ["thing"] ["thing"] (u0 (top 26)):=⟨rfl,rfl,rfl,by decide +kernel,rfl,by decide +kernel,by decide +kernel⟩
theorem kx0(F:Fun K "is_value" "is_value" (top 26) fa fd)(T:Txt mg)(C_is_link:FnD P w K mg base "is_link" 2 ["thing"] Q4)(C_is_whole:FnD P w K mg base "is_whole" 1 ["thing"] O5):FnOk P w K mg base CX0 3 fa fd ["thing"] (spD K M3) :=
 okD (k:=2) (G:=t60) F ky0 (λO A outer s H E hr=>(v5 (o6 (qo0 (S8 uj0 wz0 (w6 0) U8) (qo0 (Z2 C_is_whole hr (by decide) (z8 (w6 0) v6)) (G8 (Z2 C_is_link hr (by decide) (z8 (w6 0) v6))))))
   v8)) (λds d h=>⟨(rl0 ds d h).1,.inl (rl0 ds d h).2⟩)
theorem kz0:FnScope ["thing", "most"] ["thing", "most"] (u0 (top 27)):=⟨rfl,rfl,rfl,by decide +kernel,rfl,by decide +kernel,by decide +kernel⟩
theorem ku0(F:Fun K "is_tuple" "is_tuple" (top 27) fa fd)(T:Txt mg)  : FnOk P w K mg base CX0 1 fa fd ["thing", "most"] (spD K O2) :=
 okD (k:=0) (G:=ta0) F kz0 (λO A outer s H E hr=>(v5 (o6 (N8 (xb0 vo0 b_tuple T.b_isinstance T.b_tuple (w6 0)) (G8 (S8 qz0 si0 (U6 T.b_len (z8 (w6 0) v6)) (w6 1)))))
   v8)) (λds d h=>U4 h)
theorem mo0:FnScope ["thing"] ["thing"] (u0 (top 28)):=⟨rfl,rfl,rfl,by decide +kernel,rfl,by decide +kernel,by decide +kernel⟩
theorem ml0(F:Fun K "is_values" "is_values" (top 28) fa fd)(T:Txt mg)(C_is_tuple:FnD P w K mg base "is_tuple" 1 ["thing", "most"] O2)(C_is_value:FnD P w K mg base "is_value" 3 ["thing"] M3):FnOk P w K mg base CX0 4 fa fd ["thing"] (spD K K5) :=
 okD (k:=3) (G:=w70) F mo0 (λO A outer s H E hr=>(v5 (o6 (N8 (Z2 C_is_tuple hr (by decide) (z8 (w6 0) (z8 (xk0 T.c_MOST_VALUES) v6))) (G8 (w50 (vh0 rfl) s20 T.b_all b_all (z8 (K3 (sc:=u0 (top 28)) (N:=["thing"]) (N':=["value"]) (n:=1) (caps:=[]) ⟨rfl,by decide +kernel,by decide +kernel,by decide +kernel,by decide +kernel,rfl,by decide +kernel⟩ (by decide) (zo0 (w6 0)) (λcl s H ex=>o4 0 (by decide +kernel:(["value"]:List Str).Nodup)) (λcl s H ex=>O4) (λcl s H ex=>(Z2 C_is_value hr (by decide) (z8 (w6 0) v6)))) v6)))))
   v8)) (λds d h=>U4 h)
theorem h40:FnScope ["thing"] ["thing"] (u0 (top 29)):=⟨rfl,rfl,rfl,by decide +kernel,rfl,by decide +kernel,by decide +kernel⟩
theorem hh0(F:Fun K "is_pair" "is_pair" (top 29) fa fd)(T:Txt mg)(C_is_name:FnD P w K mg base "is_name" 2 ["thing"] zc0)(C_is_value:FnD P w K mg base "is_value" 3 ["thing"] M3):FnOk P w K mg base CX0 4 fa fd ["thing"] (spD K z70) :=
 okD (k:=3) (G:=wc0) F h40 (λO A outer s H E hr=>(v5 (o6 (N8 (xb0 vo0 b_tuple T.b_isinstance T.b_tuple (w6 0)) (N8 (S8 S6 V6 (U6 T.b_len (z8 (w6 0) v6)) p8) (N8 (Z2 C_is_name hr (by decide) (z8 (Z3 (w6 0) p8) v6)) (G8 (Z2 C_is_value hr (by decide) (z8 (Z3 (w6 0) p8) v6)))))))
   v8)) (λds d h=>U4 h)
theorem kr0:FnScope ["thing"] ["thing"] (u0 (top 30)):=⟨rfl,rfl,rfl,by decide +kernel,rfl,by decide +kernel,by decide +kernel⟩
theorem kl0(F:Fun K "is_pairs" "is_pairs" (top 30) fa fd)(T:Txt mg)(C_is_pair:FnD P w K mg base "is_pair" 4 ["thing"] z70)(C_is_tuple:FnD P w K mg base "is_tuple" 1 ["thing", "most"] O2):FnOk P w K mg base CX0 5 fa fd ["thing"] (spD K T3) :=
 okD (k:=4) (G:=yz0) F kr0 (λO A outer s H E hr=>(v5 (Z7 (PWD.pt (zb0 (zm0 (V9 (Z2 C_is_tuple hr (by decide) (z8 (w6 0) (z8 (xk0 T.c_MOST_VALUES) v6))))) (z60 (zm0 (V9 (w50 (vh0 rfl) s20 T.b_all b_all (z8 (K3 (sc:=u0 (top 30)) (N:=["thing"]) (N':=["pair"]) (n:=1) (caps:=[]) ⟨rfl,by decide +kernel,by decide +kernel,by decide +kernel,by decide +kernel,rfl,by decide +kernel⟩ (by decide) (zo0 (w6 0)) (λcl s H ex=>o4 0 (by decide +kernel:(["pair"]:List Str).Nodup)) (λcl s H ex=>O4) (λcl s H ex=>(Z2 C_is_pair hr (by decide) (z8 (w6 0) v6)))) v6)))))))
   (v5 (o6 R9)
   v8)
   v8)
   (v5 (o6 (S8 S6 V6 (on0 T.b_len T.b_set (K3 (sc:=u0 (top 30)) (N:=["thing"]) (N':=["pair"]) (n:=1) (caps:=[]) ⟨rfl,by decide +kernel,by decide +kernel,by decide +kernel,by decide +kernel,rfl,by decide +kernel⟩ (by decide) (zo0 (w6 0)) (λcl s H ex=>o4 0 (by decide +kernel:(["pair"]:List Str).Nodup)) (λcl s H ex=>O4) (λcl s H ex=>(Z3 (w6 0) p8)))) (U6 T.b_len (z8 (w6 0) v6))))
   v8))) (λds d h=>U4 h)
theorem g30:FnScope ["thing"] ["thing"] (u0 (top 31)):=⟨rfl,rfl,rfl,by decide +kernel,rfl,by decide +kernel,by decide +kernel⟩
theorem he0(F:Fun K "is_part" "is_part" (top 31) fa fd)(T:Txt mg)(C_is_marked:FnD P w K mg base "is_marked" 1 ["thing", "mark", "count"] j5)(C_is_name:FnD P w K mg base "is_name" 2 ["thing"] zc0)(C_is_pairs:FnD P w K mg base "is_pairs" 5 ["thing"] T3)(C_is_values:FnD P w K mg base "is_values" 4 ["thing"] K5)(C_is_word:FnD P w K mg base "is_word" 2 ["thing"] zu0):FnOk P w K mg base CX0 6 fa fd ["thing"] (spD K Z0) :=
 okD (k:=5) (G:=yc0) F g30 (λO A outer s H E hr=>(v5 (Z7 (V9 (Z2 C_is_marked hr (by decide) (z8 (w6 0) (z8 v9 (z8 p8 v6)))))
   (v5 (o6 (Z2 C_is_word hr (by decide) (z8 (Z3 (w6 0) p8) v6)))
   v8)
   v8)
   (v5 (Z7 (V9 (Z2 C_is_marked hr (by decide) (z8 (w6 0) (z8 v9 (z8 p8 v6)))))
   (v5 (o6 (Z2 C_is_values hr (by decide) (z8 (Z3 (w6 0) p8) v6)))
   v8)
   v8)
   (v5 (Z7 (V9 (Z2 C_is_marked hr (by decide) (z8 (w6 0) (z8 v9 (z8 p8 v6)))))
   (v5 (o6 (Z2 C_is_pairs hr (by decide) (z8 (Z3 (w6 0) p8) v6)))
   v8)
   v8)
   (v5 (o6 (N8 (Z2 C_is_marked hr (by decide) (z8 (w6 0) (z8 v9 (z8 p8 v6)))) (N8 (Z2 C_is_name hr (by decide) (z8 (Z3 (w6 0) p8) v6)) (G8 (Z2 C_is_pairs hr (by decide) (z8 (Z3 (w6 0) p8) v6))))))
   v8))))) (λds d h=>U4 h)
theorem gy0:FnScope ["thing"] ["thing"] (u0 (top 32)):=⟨rfl,rfl,rfl,by decide +kernel,rfl,by decide +kernel,by decide +kernel⟩
theorem fs0(F:Fun K "is_web" "is_web" (top 32) fa fd)(T:Txt mg)(C_count_names:FnD P w K mg base "count_names" 2 ["web"] J6)(C_is_part:FnD P w K mg base "is_part" 6 ["thing"] Z0)(C_is_tuple:FnD P w K mg base "is_tuple" 1 ["thing", "most"] O2)(C_links_lead:FnD P w K mg base "links_lead" 3 ["web"] G4):FnOk P w K mg base CX0 7 fa fd ["thing"] (spD K J5) :=
 okD (k:=6) (G:=mh0) F gy0 (λO A outer s H E hr=>(v5 (Z7 (PWD.pt (zb0 (zm0 (V9 (Z2 C_is_tuple hr (by decide) (z8 (w6 0) (z8 (xk0 T.c_MOST_PARTS) v6))))) (z60 (m9 S6 V6 (U6 T.b_len (z8 (w6 0) v6)) p8))))
   (v5 (o6 R9)
   v8)
   v8)
   (v5 (Z7 (zm0 (V9 (w50 (vh0 rfl) s20 T.b_all b_all (z8 (K3 (sc:=u0 (top 32)) (N:=["thing"]) (N':=["part"]) (n:=1) (caps:=[]) ⟨rfl,by decide +kernel,by decide +kernel,by decide +kernel,by decide +kernel,rfl,by decide +kernel⟩ (by decide) (zo0 (w6 0)) (λcl s H ex=>o4 0 (by decide +kernel:(["part"]:List Str).Nodup)) (λcl s H ex=>O4) (λcl s H ex=>(Z2 C_is_part hr (by decide) (z8 (w6 0) v6)))) v6))))
   (v5 (o6 R9)
   v8)
   v8)
   (v5 (o6 (N8 (Z2 C_links_lead hr (by decide) (z8 (w6 0) v6)) (G8 (S8 qz0 si0 (Z2 C_count_names hr (by decide) (z8 (w6 0) v6)) (xk0 T.c_MOST_NAMES)))))
   v8)))) (λds d h=>U4 h)
theorem wl0:FnScope ["web", "part", "k"] ["web"] (u0 (top 33)):=⟨rfl,rfl,rfl,by decide +kernel,rfl,by decide +kernel,by decide +kernel⟩
theorem ns0(F:Fun K "links_lead" "links_lead" (top 33) fa fd)(T:Txt mg)(C_links:FnD P w K mg base "links" 2 ["part"] xz0):FnOk P w K mg base CX0 3 fa fd ["web"] (spD K G4) :=
 okD (k:=2) (G:=sm0) F wl0 (λO A outer s H E hr=>(v5 (zl0 D2 rfl (zo0 (w6 0)) (o4 1 wl0.nd)
   (v5 (zl0 D2 rfl (zh0 (Z2 C_links hr (by decide) (z8 (w6 1) v6))) (o4 2 wl0.nd)
   (v5 (Z7 (m9 cv0 fj0 (w6 2) (U6 T.b_len (z8 (w6 0) v6)))
   (v5 (o6 R9)
   v8)
   v8)
   v8))
   v8))
   (v5 (o6 R9)
   v8))) (λds d h=>U4 h)
theorem nm0:FnScope ["part"] ["part"] (u0 (top 34)):=⟨rfl,rfl,rfl,by decide +kernel,rfl,by decide +kernel,by decide +kernel⟩
theorem nu0(F:Fun K "pair_names" "pair_names" (top 34) fa fd)(T:Txt mg)  : FnOk P w K mg base CX0 1 fa fd ["part"] (spD K G6) :=
 okD (k:=0) (G:=tw0) F nm0 (λO A outer s H E hr=>(v5 (Z7 (PWD.pt (zb0 (m9 S6 V6 (Z3 (w6 0) p8) v9) (z60 (m9 S6 V6 (Z3 (w6 0) p8) v9))))
   (v5 (o6 (U0 v6))
   v8)
   v8)
   (v5 (o6 (K3 (sc:=u0 (top 34)) (N:=["part"]) (N':=["pair"]) (n:=1) (caps:=[]) ⟨rfl,by decide +kernel,by decide +kernel,by decide +kernel,by decide +kernel,rfl,by decide +kernel⟩ (by decide) (zo0 (Z3 (w6 0) (wb0 p8))) (λcl s H ex=>o4 0 (by decide +kernel:(["pair"]:List Str).Nodup)) (λcl s H ex=>O4) (λcl s H ex=>(Z3 (w6 0) p8))))
   v8))) (λds d h=>U4 h)
theorem xl0:FnScope ["web", "names", "part"] ["web"] (u0 (top 35)):=⟨rfl,rfl,rfl,by decide +kernel,rfl,by decide +kernel,by decide +kernel⟩
theorem ob0(F:Fun K "count_names" "count_names" (top 35) fa fd)(T:Txt mg)(C_pair_names:FnD P w K mg base "pair_names" 1 ["part"] G6):FnOk P w K mg base CX0 2 fa fd ["web"] (spD K J6) :=
 okD (k:=1) (G:=td0) F xl0 (λO A outer s H E hr=>(v5 (wv0 1 (ue0 v6) xl0.nd)
   (v5 (zl0 D2 rfl (zo0 (w6 0)) (o4 2 xl0.nd)
   (v5 (wi0 (Zt0 1 (Z2 C_pair_names hr (by decide) (z8 (w6 2) v6))))
   (v5 (Z7 (m9 S6 V6 (Z3 (w6 2) p8) v9)
   (v5 (wi0 (p20 1 (Z3 (w6 2) p8)))
   v8)
   v8)
   v8)))
   (v5 (vj0 (on0 T.b_len T.b_set (w6 1)))
   v8)))) (λds d h=>U4 h)
theorem fg0:FnScope ["part"] ["part"] (u0 (top 36)):=⟨rfl,rfl,rfl,by decide +kernel,rfl,by decide +kernel,by decide +kernel⟩
theorem e70(F:Fun K "values" "values" (top 36) fa fd)(T:Txt mg)  : FnOk P w K mg base CX0 1 fa fd ["part"] (spD K m_values) :=
 okD (k:=0) (G:=mm0) F fg0 (λO A outer s H E hr=>(v5 (Z7 (m9 S6 V6 (Z3 (w6 0) p8) v9)
   (v5 (o6 (U0 v6))
   v8)
   v8)
   (v5 (Z7 (m9 S6 V6 (Z3 (w6 0) p8) v9)
   (v5 (o6 (Q3 lq0 Za0 T.b_list b_list (z8 (Z3 (w6 0) p8) v6)))
   v8)
   v8)
   (v5 (o6 (K3 (sc:=u0 (top 36)) (N:=["part"]) (N':=["pair"]) (n:=1) (caps:=[]) ⟨rfl,by decide +kernel,by decide +kernel,by decide +kernel,by decide +kernel,rfl,by decide +kernel⟩ (by decide) (zo0 (Z3 (w6 0) (wb0 p8))) (λcl s H ex=>o4 0 (by decide +kernel:(["pair"]:List Str).Nodup)) (λcl s H ex=>O4) (λcl s H ex=>(Z3 (w6 0) p8))))
   v8)))) (λds d h=>U4 h)
theorem c60:FnScope ["part"] ["part"] (u0 (top 37)):=⟨rfl,rfl,rfl,by decide +kernel,rfl,by decide +kernel,by decide +kernel⟩
theorem ep0(F:Fun K "links" "links" (top 37) fa fd)(T:Txt mg)(C_values:FnD P w K mg base "values" 1 ["part"] m_values):FnOk P w K mg base CX0 2 fa fd ["part"] (spD K xz0) :=
 okD (k:=1) (G:=jv0) F c60 (λO A outer s H E hr=>(v5 (o6 (K3 (sc:=u0 (top 37)) (N:=["part"]) (N':=["value"]) (n:=1) (caps:=[]) ⟨rfl,by decide +kernel,by decide +kernel,by decide +kernel,by decide +kernel,rfl,by decide +kernel⟩ (by decide) (zh0 (Z2 C_values hr (by decide) (z8 (w6 0) v6))) (λcl s H ex=>o4 0 (by decide +kernel:(["value"]:List Str).Nodup)) (λcl s H ex=>(ae0 (V9 (xb0 vo0 b_tuple T.b_isinstance T.b_tuple (w6 0))))) (λcl s H ex=>(Z3 (w6 0) p8))))
   v8)) (λds d h=>U4 h)
theorem jt0:FnScope ["text", "web"] ["text"] (u0 (top 41)):=⟨rfl,rfl,rfl,by decide +kernel,rfl,by decide +kernel,by decide +kernel⟩
theorem bi0(F:Fun K "read" "read" (top 41) fa fd)(T:Txt mg)(XT:XC.Tab K mg "WebError" rr ["NoText", "NoPlace", "NoValue", "TooMany", "NoMake", "NoBase", "NoRow", "NoName", "NoWay", "NoPack"] ["NoText", "NoPlace", "NoValue", "TooMany", "NoMake", "NoBase", "NoRow", "NoName"])(C_is_web:FnD P w K mg base "is_web" 7 ["thing"] J5)(X_read_part:FnX P w K mg base "read_part" 6 ["piece"] y50):FnOk P w K mg base (CXE P w) 8 fa fd ["text"] (spX K T6) :=
 okX (k:=7) (G:=fu0) F jt0 (λO A outer s H E hr=>(Z5 (wf0 (zm0 (V9 (xb0 oa0 b_str T.b_isinstance T.b_str (w6 0))))
   (Z5 (we0 XT (by decide) (by decide))
   V0)
   V0)
   (Z5 (jl0 1 (by exact(uq0 z10 ui0 T.b_tuple b_tuple (zd0 (q90 (sc:=u0 (top 41)) (N:=["text", "web"]) (N':=["piece"]) (n:=1) (caps:=[]) ⟨rfl,by decide +kernel,by decide +kernel,by decide +kernel,by decide +kernel,rfl,by decide +kernel⟩ (by decide) (zh0 (U9 D7 N0 xt0 ve0 yq0 (w6 0) (z8 v9 v6))) (λcl s H ex xe=>o4 0 (by decide +kernel:(["piece"]:List Str).Nodup)) (λcl s H ex xe=>(yb0 X_read_part hr (by decide) (z8 (w6 0) v6)))) xq0))) jt0.nd)
   (Z5 (wf0 (zm0 (V9 (Z2 C_is_web hr (by decide) (z8 (w6 1) v6))))
   (Z5 (we0 XT (by decide) (by decide))
   V0)
   V0)
   (Z5 (wh0 (o6 (w6 1)))
   V0)))))
theorem kd0:FnScope ["piece"] ["piece"] (u0 (top 42)):=⟨rfl,rfl,rfl,by decide +kernel,rfl,by decide +kernel,by decide +kernel⟩
theorem ki0(F:Fun K "read_part" "read_part" (top 42) fa fd)(T:Txt mg)(XT:XC.Tab K mg "WebError" rr ["NoText", "NoPlace", "NoValue", "TooMany", "NoMake", "NoBase", "NoRow", "NoName", "NoWay", "NoPack"] ["NoText", "NoPlace", "NoValue", "TooMany", "NoMake", "NoBase", "NoRow", "NoName"])(C_parted_items:FnD P w K mg base "parted_items" 1 ["inner"] W9)(X_read_paired:FnX P w K mg base "read_paired" 5 ["piece"] z40)(X_read_value:FnX P w K mg base "read_value" 3 ["text"] N5):FnOk P w K mg base (CXE P w) 6 fa fd ["piece"] (spX K y50) :=
 okX (k:=5) (G:=rm0) F kd0 (λO A outer s H E hr=>(Z5 (wh0 (Z7 (PWD.pt (yp0 (m9 sp0 uf0 (U6 T.b_len (z8 (w6 0) v6)) p8) (yp0 (V9 (U9 N1 N2 wd0 wa0 xa0 (w6 0) (z8 v9 v6))) (yl0 (V9 (U9 o3 p4 pr0 o40 rw0 (w6 0) (z8 v9 v6)))))))
   (v5 (o6 (O9 (z8 v9 (z8 (Z9 (w6 0) (Z4 p8) (Z4 (wb0 p8))) v6))))
   v8)
   v8))
   (Z5 (wf0 (PWD.pt (yp0 (V9 (U9 N1 N2 wd0 wa0 xa0 (w6 0) (z8 v9 v6))) (yl0 (V9 (U9 o3 p4 pr0 o40 rw0 (w6 0) (z8 v9 v6))))))
   (Z5 (wx0 (oh0 (zd0 (ld0 v9) (zd0 (uq0 z10 ui0 T.b_tuple b_tuple (zd0 (q90 (sc:=u0 (top 42)) (N:=["piece"]) (N':=["item"]) (n:=1) (caps:=[]) ⟨rfl,by decide +kernel,by decide +kernel,by decide +kernel,by decide +kernel,rfl,by decide +kernel⟩ (by decide) (zh0 (Z2 C_parted_items hr (by decide) (z8 (Z9 (w6 0) (Z4 p8) (Z4 (wb0 p8))) v6))) (λcl s H ex xe=>o4 0 (by decide +kernel:(["item"]:List Str).Nodup)) (λcl s H ex xe=>(yb0 X_read_value hr (by decide) (z8 (w6 0) v6)))) xq0)) xq0))))
   V0)
   V0)
   (Z5 (wf0 (PWD.pt (yp0 (m9 sk0 kg0 v9 (w6 0)) (yl0 (V9 (U9 o3 p4 pr0 o40 rw0 (w6 0) (z8 v9 v6))))))
   (Z5 (wx0 (yb0 X_read_paired hr (by decide) (z8 (w6 0) v6)))
   V0)
   V0)
   (Z5 (we0 XT (by decide) (by decide))
   V0)))))
theorem xo0:FnScope ["piece", "halves", "pairs"] ["piece"] (u0 (top 43)):=⟨rfl,rfl,rfl,by decide +kernel,rfl,by decide +kernel,by decide +kernel⟩
theorem pi0(F:Fun K "read_paired" "read_paired" (top 43) fa fd)(T:Txt mg)(C_parted_items:FnD P w K mg base "parted_items" 1 ["inner"] W9)(X_read_pair:FnX P w K mg base "read_pair" 4 ["item"] y30):FnOk P w K mg base (CXE P w) 5 fa fd ["piece"] (spX K z40) :=
 okX (k:=4) (G:=tf0) F xo0 (λO A outer s H E hr=>(Z5 (wh0 (Z6 (U9 B10 B20 jo0 i50 l90 (w6 0) (z8 v9 v6)) (o4 1 xo0.nd)))
   (Z5 (jl0 2 (by exact(uq0 z10 ui0 T.b_tuple b_tuple (zd0 (q90 (sc:=u0 (top 43)) (N:=["piece", "halves", "pairs"]) (N':=["item"]) (n:=1) (caps:=[]) ⟨rfl,by decide +kernel,by decide +kernel,by decide +kernel,by decide +kernel,rfl,by decide +kernel⟩ (by decide) (zh0 (Z2 C_parted_items hr (by decide) (z8 (Z9 (Z3 (w6 1) p8) V3 (Z4 (wb0 p8))) v6))) (λcl s H ex xe=>o4 0 (by decide +kernel:(["item"]:List Str).Nodup)) (λcl s H ex xe=>(yb0 X_read_pair hr (by decide) (z8 (w6 0) v6)))) xq0))) xo0.nd)
   (Z5 (wh0 (Z7 (m9 S6 V6 (Z3 (w6 1) p8) v9)
   (v5 (o6 (O9 (z8 v9 (z8 (w6 2) v6))))
   v8)
   v8))
   (Z5 (wh0 (o6 (O9 (z8 v9 (z8 (Z3 (w6 1) p8) (z8 (w6 2) v6))))))
   V0)))))
theorem qq0:FnScope ["inner"] ["inner"] (u0 (top 44)):=⟨rfl,rfl,rfl,by decide +kernel,rfl,by decide +kernel,by decide +kernel⟩
theorem qv0(F:Fun K "parted_items" "parted_items" (top 44) fa fd)(T:Txt mg)  : FnOk P w K mg base CX0 1 fa fd ["inner"] (spD K W9) :=
 okD (k:=0) (G:=u50) F qq0 (λO A outer s H E hr=>(v5 (Z7 (m9 S6 V6 (w6 0) v9)
   (v5 (o6 (U0 v6))
   v8)
   v8)
   (v5 (o6 (U9 D7 N0 xt0 ve0 yq0 (w6 0) (z8 v9 v6)))
   v8))) (λds d h=>U4 h)
theorem ty0:FnScope ["item", "halves"] ["item"] (u0 (top 45)):=⟨rfl,rfl,rfl,by decide +kernel,rfl,by decide +kernel,by decide +kernel⟩
theorem ma0(F:Fun K "read_pair" "read_pair" (top 45) fa fd)(T:Txt mg)(X_read_value:FnX P w K mg base "read_value" 3 ["text"] N5):FnOk P w K mg base (CXE P w) 4 fa fd ["item"] (spX K y30) :=
 okX (k:=3) (G:=re0) F ty0 (λO A outer s H E hr=>(Z5 (wh0 (Z6 (U9 B10 B20 jo0 i50 l90 (w6 0) (z8 v9 v6)) (o4 1 ty0.nd)))
   (Z5 (wx0 (oh0 (zd0 (ld0 (Z3 (w6 1) p8)) (zd0 (yb0 X_read_value hr (by decide) (z8 (Z3 (w6 1) p8) v6)) xq0))))
   V0)))
theorem nq0:FnScope ["text"] ["text"] (u0 (top 46)):=⟨rfl,rfl,rfl,by decide +kernel,rfl,by decide +kernel,by decide +kernel⟩
theorem m20(F:Fun K "read_value" "read_value" (top 46) fa fd)(T:Txt mg)(XT:XC.Tab K mg "WebError" rr ["NoText", "NoPlace", "NoValue", "TooMany", "NoMake", "NoBase", "NoRow", "NoName", "NoWay", "NoPack"] ["NoText", "NoPlace", "NoValue", "TooMany", "NoMake", "NoBase", "NoRow", "NoName"])(X_read_count:FnX P w K mg base "read_count" 2 ["text"] S9):FnOk P w K mg base (CXE P w) 3 fa fd ["text"] (spX K N5) :=
 okX (k:=2) (G:=sh0) F nq0 (λO A outer s H E hr=>(Z5 (wh0 (Z7 (m9 S6 V6 (w6 0) v9)
   (v5 (o6 U8)
   v8)
   v8))
   (Z5 (wf0 (V9 (U9 N1 N2 wd0 wa0 xa0 (w6 0) (z8 v9 v6)))
   (Z5 (wx0 (oh0 (zd0 (ld0 v9) (zd0 (yb0 X_read_count hr (by decide) (z8 (Z9 (w6 0) (Z4 p8) V3) v6)) xq0))))
   V0)
   V0)
   (Z5 (wf0 (m9 S6 V6 (w6 0) v9)
   (Z5 (we0 XT (by decide) (by decide))
   V0)
   V0)
   (Z5 (wf0 (V9 (U9 N1 N2 wd0 wa0 xa0 (w6 0) (z8 v9 v6)))
   (Z5 (wx0 (bn0 (yb0 X_read_count hr (by decide) (z8 (Z9 (w6 0) (Z4 p8) V3) v6))))
   V0)
   V0)
   (Z5 (wx0 (yb0 X_read_count hr (by decide) (z8 (w6 0) v6)))
   V0))))))
theorem m40:FnScope ["text"] ["text"] (u0 (top 47)):=⟨rfl,rfl,rfl,by decide +kernel,rfl,by decide +kernel,by decide +kernel⟩
theorem no0(F:Fun K "read_count" "read_count" (top 47) fa fd)(T:Txt mg)(XT:XC.Tab K mg "WebError" rr ["NoText", "NoPlace", "NoValue", "TooMany", "NoMake", "NoBase", "NoRow", "NoName", "NoWay", "NoPack"] ["NoText", "NoPlace", "NoValue", "TooMany", "NoMake", "NoBase", "NoRow", "NoName"])(C_is_count_text:FnD P w K mg base "is_count_text" 1 ["text"] J2):FnOk P w K mg base (CXE P w) 2 fa fd ["text"] (spX K S9) :=
 okX (k:=1) (G:=to0) F m40 (λO A outer s H E hr=>(Z5 (wf0 (zm0 (V9 (Z2 C_is_count_text hr (by decide) (z8 (w6 0) v6))))
   (Z5 (we0 XT (by decide) (by decide))
   V0)
   V0)
   (Z5 (wh0 (o6 (Q3 te0 i60 T.b_int b_int (z8 (w6 0) v6))))
   V0)))
theorem rr0:FnScope ["text"] ["text"] (u0 (top 48)):=⟨rfl,rfl,rfl,by decide +kernel,rfl,by decide +kernel,by decide +kernel⟩
theorem rq0(F:Fun K "is_count_text" "is_count_text" (top 48) fa fd)(T:Txt mg)  : FnOk P w K mg base CX0 1 fa fd ["text"] (spD K J2) :=
 okD (k:=0) (G:=vm0) F rr0 (λO A outer s H E hr=>(v5 (Z7 (PWD.pt (zb0 (m9 S6 V6 (U6 T.b_len (z8 (w6 0) v6)) p8) (zb0 (m9 sp0 uf0 (U6 T.b_len (z8 (w6 0) v6)) (xk0 T.c_MOST_FIGURES)) (z60 (zm0 (V9 (w50 (vh0 rfl) s20 T.b_all b_all (z8 (K3 (sc:=u0 (top 48)) (N:=["text"]) (N':=["sign"]) (n:=1) (caps:=[]) ⟨rfl,by decide +kernel,by decide +kernel,by decide +kernel,by decide +kernel,rfl,by decide +kernel⟩ (by decide) (ua0 (w6 0)) (λcl s H ex=>o4 0 (by decide +kernel:(["sign"]:List Str).Nodup)) (λcl s H ex=>O4) (λcl s H ex=>(S8 sk0 kg0 (w6 0) (py0 T.c_FIGURES)))) v6))))))))
   (v5 (o6 R9)
   v8)
   v8)
   (v5 (o6 (qo0 (S8 S6 V6 (w6 0) v9) (G8 (f80 (U9 N1 N2 wd0 wa0 xa0 (w6 0) (z8 v9 v6))))))
   v8))) (λds d h=>U4 h)
theorem qp0:FnScope ["_law_script", "_law_k"] ["_law_script", "_law_k"] (u0 (top 50)):=⟨rfl,rfl,rfl,by decide +kernel,rfl,by decide +kernel,by decide +kernel⟩
theorem pc0(F:Fun K "_law_cell_at" "_law_cell_at" (top 50) fa fd)(T:Txt mg)  : FnOk P w K mg base CX0 1 fa fd ["_law_script", "_law_k"] (spD K U5) :=
 okD (k:=0) (G:=u90) F qp0 (λO A outer s H E hr=>(v5 (Z7 (m9 ir0 ka0 (w6 1) (U6 T.b_len (z8 (w6 0) v6)))
   (v5 (o6 (Z3 (w6 0) (w6 1)))
   v8)
   v8)
   (v5 (o6 p8)
   v8))) (λds d h=>U4 h)
theorem tu0:FnScope ["_law_x", "_law_many"] ["_law_x", "_law_many"] (u0 (top 51)):=⟨rfl,rfl,rfl,by decide +kernel,rfl,by decide +kernel,by decide +kernel⟩
theorem sn0(F:Fun K "_law_value_text" "_law_value_text" (top 51) fa fd)(T:Txt mg)  : FnOk P w K mg base CX0 1 fa fd ["_law_x", "_law_many"] (spD K T9) :=
 okD (k:=0) (G:=wm0) F tu0 (λO A outer s H E hr=>(v5 (o6 (Z3 (U0 (z8 v9 (z8 (Q3 yy0 qt0 T.b_str b_str (z8 (sj0 (Q6 (G3 (w6 0) p8) p8) p8) v6)) (z8 (j7 v9 (Q3 yy0 qt0 T.b_str b_str (z8 (Q6 (G3 (w6 0) p8) (w6 1)) v6))) (z8 (j7 v9 (Q3 yy0 qt0 T.b_str b_str (z8 (Q6 (G3 (w6 0) p8) (w6 1)) v6))) v6))))) (Q6 (w6 0) p8)))
   v8)) (λds d h=>U4 h)
theorem zi0:FnScope ["_law_x", "_law_many", "_law_some", "_law_pairs", "_law_word"] ["_law_x", "_law_many"] (u0 (top 52)):=⟨rfl,rfl,rfl,by decide +kernel,rfl,by decide +kernel,by decide +kernel⟩
theorem rd0(F:Fun K "_law_part_text" "_law_part_text" (top 52) fa fd)(T:Txt mg)(C__law_value_text:FnD P w K mg base "_law_value_text" 1 ["_law_x", "_law_many"] T9):FnOk P w K mg base CX0 2 fa fd ["_law_x", "_law_many"] (spD K S7) :=
 okD (k:=1) (G:=v80) F zi0 (λO A outer s H E hr=>(v5 (Z6 (K3 (sc:=u0 (top 52)) (N:=["_law_x", "_law_many", "_law_some", "_law_pairs", "_law_word"]) (N':=["_law_j", "_law_x", "_law_many"]) (n:=1) (caps:=[0,1]) ⟨rfl,by decide +kernel,by decide +kernel,by decide +kernel,by decide +kernel,rfl,by decide +kernel⟩ (by decide) (yx0 T.b_range (z8 (Q6 (G3 (w6 0) p8) p8) v6)) (λcl s H ex=>o4 0 (by decide +kernel:(["_law_j", "_law_x", "_law_many"]:List Str).Nodup)) (λcl s H ex=>O4) (λcl s H ex=>(Z2 C__law_value_text hr (by decide) (z8 (j7 (G3 (w6 1) (j7 (w6 0) p8)) (xx0 p8 (w6 0))) (z8 (w6 2) v6))))) (o4 2 zi0.nd))
   (v5 (Z6 (y40 v9 (z8 (K3 (sc:=u0 (top 52)) (N:=["_law_x", "_law_many", "_law_some", "_law_pairs", "_law_word"]) (N':=["_law_j", "_law_some"]) (n:=1) (caps:=[2]) ⟨rfl,by decide +kernel,by decide +kernel,by decide +kernel,by decide +kernel,rfl,by decide +kernel⟩ (by decide) (yx0 T.b_range (z8 (U6 T.b_len (z8 (w6 2) v6)) v6)) (λcl s H ex=>o4 0 (by decide +kernel:(["_law_j", "_law_some"]:List Str).Nodup)) (λcl s H ex=>O4) (λcl s H ex=>(j7 (j7 (Z3 (U0 (z8 v9 (z8 v9 (z8 v9 v6)))) (w6 0)) v9) (Z3 (w6 1) (w6 0))))) v6)) (o4 3 zi0.nd))
   (v5 (Z6 (j7 (j7 v9 (Z9 v9 V3 (Z4 (Q6 (G3 (w6 0) p8) p8)))) v9) (o4 4 zi0.nd))
   (v5 (o6 (Z3 (U0 (z8 (w6 4) (z8 (j7 (j7 v9 (y40 v9 (z8 (w6 2) v6))) v9) (z8 (j7 (j7 v9 (w6 3)) v9) (z8 (j7 (j7 v9 (w6 3)) v9) v6))))) (Q6 (w6 0) p8)))
   v8))))) (λds d h=>U4 h)
theorem zr0:FnScope ["_law_x", "_law_some"] ["_law_x"] (u0 (top 53)):=⟨rfl,rfl,rfl,by decide +kernel,rfl,by decide +kernel,by decide +kernel⟩
theorem mg0(F:Fun K "_law_none" "_law_none" (top 53) fa fd)(T:Txt mg)  : FnOk P w K mg base CX0 1 fa fd ["_law_x"] (spD K zg0) :=
 okD (k:=0) (G:=rj0) F zr0 (λO A outer s H E hr=>(v5 (Z6 (U0 (z8 v9 (z8 v9 (z8 v9 (z8 v9 (z8 v9 (z8 v9 (z8 v9 (z8 v9 (z8 v9 (z8 v9 (z8 v9 (z8 v9 (z8 v9 v6)))))))))))))) (o4 1 zr0.nd))
   (v5 (Z6 (j7 (w6 1) (U0 (z8 v9 v6))) (o4 1 zr0.nd))
   (v5 (Z6 (j7 (w6 1) (U0 (z8 v9 (z8 v9 (z8 v9 (z8 v9 (z8 v9 (z8 v9 (z8 v9 (z8 v9 (z8 v9 (z8 v9 (z8 v9 (z8 v9 v6)))))))))))))) (o4 1 zr0.nd))
   (v5 (Z6 (j7 (w6 1) (U0 (z8 v9 (z8 v9 (z8 v9 (z8 v9 (z8 v9 (z8 v9 (z8 v9 (z8 v9 (z8 v9 v6))))))))))) (o4 1 zr0.nd))
   (v5 (Z6 (j7 (w6 1) (U0 (z8 v9 (z8 v9 (z8 v9 (z8 v9 (z8 v9 (z8 v9 (z8 v9 (z8 (j7 (j7 v9 (y40 v9 (z8 (i20 (U0 (z8 v9 v6)) p8) v6))) v9) v6)))))))))) (o4 1 zr0.nd))
   (v5 (o6 (Z3 (j7 (w6 1) (U0 (z8 (j7 (j7 v9 (xx0 v9 p8)) v9) v6))) (Q6 (w6 0) p8)))
   v8))))))) (λds d h=>U4 h)
theorem z90:FnScope ["_law_text", "_law_x", "_law_many", "_law_at", "_law_kind", "_law_sign", "_law_parts"] ["_law_text", "_law_x", "_law_many"] (u0 (top 54)):=⟨rfl,rfl,rfl,by decide +kernel,rfl,by decide +kernel,by decide +kernel⟩
theorem p80(F:Fun K "_law_spoiled" "_law_spoiled" (top 54) fa fd)(T:Txt mg)(C__law_none:FnD P w K mg base "_law_none" 1 ["_law_x"] zg0):FnOk P w K mg base CX0 2 fa fd ["_law_text", "_law_x", "_law_many"] (spD K T8) :=
 okD (k:=1) (G:=u70) F z90 (λO A outer s H E hr=>(v5 (Z6 (Q6 (G3 (w6 1) p8) (j7 (U6 T.b_len (z8 (w6 0) v6)) p8)) (o4 3 z90.nd))
   (v5 (Z6 (Q6 (w6 1) p8) (o4 4 z90.nd))
   (v5 (Z7 (m9 S6 V6 (w6 4) p8)
   (v5 (Z6 (Z3 v9 (Q6 (G3 (G3 (w6 1) p8) (j7 (U6 T.b_len (z8 (w6 0) v6)) p8)) p8)) (o4 5 z90.nd))
   (v5 (o6 (j7 (j7 (Z9 (w6 0) V3 (Z4 (w6 3))) (w6 5)) (Z9 (w6 0) (Z4 (w6 3)) V3)))
   v8))
   v8)
   (v5 (Z7 (m9 S6 V6 (w6 4) p8)
   (v5 (o6 (j7 (j7 (Z9 (w6 0) V3 (Z4 (w6 3))) (Z3 v9 (Q6 (G3 (w6 1) p8) p8))) (Z9 (w6 0) (Z4 (w6 3)) V3)))
   v8)
   v8)
   (v5 (Z7 (m9 S6 V6 (w6 4) p8)
   (v5 (o6 (j7 (Z9 (w6 0) V3 (Z4 (w6 3))) (Z9 (w6 0) (Z4 (j7 (w6 3) p8)) V3)))
   v8)
   v8)
   (v5 (Z7 (m9 S6 V6 (w6 4) p8)
   (v5 (o6 (j7 (w6 0) (Z3 (U0 (z8 v9 (z8 v9 (z8 v9 (z8 (w6 0) (z8 (j7 v9 (w6 0)) v6)))))) (Q6 (G3 (w6 1) p8) p8))))
   v8)
   v8)
   (v5 (wv0 6 (gs0 (w6 0) (z8 v9 v6)) z90.nd)
   (v5 (lj0 (j60 (Z2 C__law_none hr (by decide) (z8 (G3 (w6 1) p8) v6))) (ao0 6 (Q6 (G3 (w6 1) p8) (w6 2))))
   (v5 (vj0 (y40 v9 (z8 (w6 6) v6)))
   v8)))))))))) (λds d h=>U4 h)
theorem ug0:FnScope ["_law_text", "_law_sign"] ["_law_text"] (u0 (top 55)):=⟨rfl,rfl,rfl,by decide +kernel,rfl,by decide +kernel,by decide +kernel⟩
theorem ps0(F:Fun K "_law_number" "_law_number" (top 55) fa fd)(T:Txt mg)  : FnOk P w K mg base CX0 1 fa fd ["_law_text"] (spD K O1) :=
 okD (k:=0) (G:=tb0) F ug0 (λO A outer s H E hr=>(v5 (Z7 (PWD.pt (zb0 (m9 S6 V6 (w6 0) v9) (zb0 (m9 sp0 uf0 (U6 T.b_len (z8 (w6 0) v6)) p8) (z60 (PWD.pt (yp0 (m9 S6 V6 (Z3 (w6 0) p8) v9) (yl0 (m9 so0 ul0 (w6 0) v9))))))))
   (v5 (o6 U8)
   v8)
   v8)
   (v5 (zl0 D2 rfl (ua0 (w6 0)) (o4 1 ug0.nd)
   (v5 (Z7 (m9 y90 uk0 (w6 1) v9)
   (v5 (o6 U8)
   v8)
   v8)
   v8))
   (v5 (o6 (Q3 te0 i60 T.b_int b_int (z8 (w6 0) v6)))
   v8)))) (λds d h=>U4 h)
theorem y00:FnScope ["_law_text", "_law_many", "_law_number_here"] ["_law_text", "_law_many"] (u0 (top 56)):=⟨rfl,rfl,rfl,by decide +kernel,rfl,by decide +kernel,by decide +kernel⟩
theorem nr0(F:Fun K "_law_value" "_law_value" (top 56) fa fd)(T:Txt mg)(C__law_number:FnD P w K mg base "_law_number" 1 ["_law_text"] O1):FnOk P w K mg base CX0 2 fa fd ["_law_text", "_law_many"] (spD K O8) :=
 okD (k:=1) (G:=tt0) F y00 (λO A outer s H E hr=>(v5 (Z7 (m9 S6 V6 (w6 0) v9)
   (v5 (o6 (O9 (z8 R9 (z8 U8 v6))))
   v8)
   v8)
   (v5 (Z7 (m9 S6 V6 (Z9 (w6 0) V3 (Z4 p8)) v9)
   (v5 (Z6 (Z2 C__law_number hr (by decide) (z8 (Z9 (w6 0) (Z4 p8) V3) v6)) (o4 2 y00.nd))
   (v5 (o6 (O9 (z8 (N8 (S8 pn0 rz0 (w6 2) U8) (G8 (S8 ir0 ka0 (w6 2) (w6 1)))) (z8 (O9 (z8 v9 (z8 (w6 2) v6))) v6))))
   v8))
   v8)
   (v5 (Z6 (Z2 C__law_number hr (by decide) (z8 (w6 0) v6)) (o4 2 y00.nd))
   (v5 (Z7 (PWD.pt (yp0 (m9 S6 V6 (Z9 (w6 0) V3 (Z4 p8)) v9) (yl0 (m9 so0 ul0 (w6 0) v9))))
   (v5 (Z6 (Z2 C__law_number hr (by decide) (z8 (Z9 (w6 0) (Z4 p8) V3) v6)) (o4 2 y00.nd))
   (v5 (Z7 (m9 pn0 rz0 (w6 2) U8)
   (v5 (Z6 (sj0 p8 (w6 2)) (o4 2 y00.nd))
   v8)
   v8)
   v8))
   v8)
   (v5 (o6 (O9 (z8 (S8 pn0 rz0 (w6 2) U8) (z8 (w6 2) v6))))
   v8)))))) (λds d h=>U4 h)
theorem vr0:FnScope ["_law_text", "_law_sign"] ["_law_text"] (u0 (top 57)):=⟨rfl,rfl,rfl,by decide +kernel,rfl,by decide +kernel,by decide +kernel⟩
theorem pd0(F:Fun K "_law_is_name" "_law_is_name" (top 57) fa fd)(T:Txt mg)  : FnOk P w K mg base CX0 1 fa fd ["_law_text"] (spD K V5) :=
 okD (k:=0) (G:=ub0) F vr0 (λO A outer s H E hr=>(v5 (zl0 D2 rfl (ua0 (w6 0)) (o4 1 vr0.nd)
   (v5 (Z7 (m9 y90 uk0 (w6 1) v9)
   (v5 (o6 R9)
   v8)
   v8)
   v8))
   (v5 (o6 (dn0 qz0 si0 qz0 si0 p8 (U6 T.b_len (z8 (w6 0) v6)) p8))
   v8))) (λds d h=>U4 h)
theorem N7:FnScope ["_law_text", "_law_many", "_law_named", "_law_found", "_law_bits", "_law_piece", "_law_name", "_law_good", "_law_value_here"] ["_law_text", "_law_many", "_law_named"] (u0 (top 58)):=⟨rfl,rfl,rfl,by decide +kernel,rfl,by decide +kernel,by decide +kernel⟩
theorem my0(F:Fun K "_law_list" "_law_list" (top 58) fa fd)(T:Txt mg)(C__law_is_name:FnD P w K mg base "_law_is_name" 1 ["_law_text"] V5)(C__law_value:FnD P w K mg base "_law_value" 2 ["_law_text", "_law_many"] O8):FnOk P w K mg base CX0 3 fa fd ["_law_text", "_law_many", "_law_named"] (spD K K4) :=
 okD (k:=2) (G:=rn0) F N7 (λO A outer s H E hr=>(v5 (wv0 3 (ue0 v6) N7.nd)
   (v5 (Z6 (U9 D7 N0 xt0 ve0 yq0 (w6 0) (z8 v9 v6)) (o4 4 N7.nd))
   (v5 (Z7 (m9 S6 V6 (w6 0) v9)
   (v5 (Z6 (U0 v6) (o4 4 N7.nd))
   v8)
   v8)
   (v5 (zl0 D2 rfl (zh0 (w6 4)) (o4 5 N7.nd)
   (v5 (Z6 v9 (o4 6 N7.nd))
   (v5 (Z7 (V9 (w6 2))
   (v5 (Z7 (m9 y90 uk0 v9 (w6 5))
   (v5 (o6 U8)
   v8)
   v8)
   (v5 (Z6 (Z9 (w6 5) V3 (Z4 (U9 S1 S2 qn0 pa0 str_idx (w6 5) (z8 v9 v6)))) (o4 6 N7.nd))
   (v5 (Z6 (Z9 (w6 5) (Z4 (j7 (U9 S1 S2 qn0 pa0 str_idx (w6 5) (z8 v9 v6)) p8)) V3) (o4 5 N7.nd))
   v8)))
   v8)
   (v5 (lj0 (j60 (Z2 C__law_value hr (by decide) (z8 (w6 5) (z8 (w6 1) v6)))) (Zr0 (la0 7 8 N7.nd (by decide))))
   (v5 (Z7 (PWD.pt (zb0 (zm0 (V9 (w6 7))) (z60 (PWD.pt (yp0 (V9 (w6 2)) (yl0 (PWD.pt (zb0 (zm0 (V9 (Z2 C__law_is_name hr (by decide) (z8 (w6 6) v6)))) (z60 (Z40 (m9 gb0 (ee0 false) (w6 6) (K3 (sc:=u0 (top 58)) (N:=["_law_text", "_law_many", "_law_named", "_law_found", "_law_bits", "_law_piece", "_law_name", "_law_good", "_law_value_here"]) (N':=["_law_pair"]) (n:=1) (caps:=[]) ⟨rfl,by decide +kernel,by decide +kernel,by decide +kernel,by decide +kernel,rfl,by decide +kernel⟩ (by decide) (zh0 (w6 3)) (λcl s H ex=>o4 0 (by decide +kernel:(["_law_pair"]:List Str).Nodup)) (λcl s H ex=>O4) (λcl s H ex=>(Z3 (w6 0) p8))))))))))))))
   (v5 (o6 U8)
   v8)
   v8)
   (v5 (wi0 (p20 3 (O9 (z8 (w6 6) (z8 (w6 8) v6)))))
   v8))))))
   (v5 (vj0 (Z3 (U0 (z8 (Q3 z10 ui0 T.b_tuple b_tuple (z8 (w6 3) v6)) (z8 U8 v6))) (Q3 vn0 qs0 T.b_int b_int (z8 (S8 sp0 uf0 (U6 T.b_len (z8 (w6 3) v6)) p8) v6))))
   v8)))))) (λds d h=>U4 h)
theorem zn0:FnScope ["_law_text", "_law_many", "_law_word", "_law_sign", "_law_some", "_law_front"] ["_law_text", "_law_many"] (u0 (top 59)):=⟨rfl,rfl,rfl,by decide +kernel,rfl,by decide +kernel,by decide +kernel⟩
theorem ly0(F:Fun K "_law_part" "_law_part" (top 59) fa fd)(T:Txt mg)(C__law_is_name:FnD P w K mg base "_law_is_name" 1 ["_law_text"] V5)(C__law_list:FnD P w K mg base "_law_list" 3 ["_law_text", "_law_many", "_law_named"] K4):FnOk P w K mg base CX0 4 fa fd ["_law_text", "_law_many"] (spD K zf0) :=
 okD (k:=3) (G:=rh0) F zn0 (λO A outer s H E hr=>(v5 (Z7 (m9 S6 V6 (Z9 (w6 0) V3 (Z4 p8)) v9)
   (v5 (Z6 (Z9 (w6 0) (Z4 p8) (Z4 (sj0 (U6 T.b_len (z8 (w6 0) v6)) p8))) (o4 2 zn0.nd))
   (v5 (zl0 D2 rfl (ua0 (w6 2)) (o4 3 zn0.nd)
   (v5 (Z7 (m9 y90 uk0 (w6 3) v9)
   (v5 (o6 U8)
   v8)
   v8)
   v8))
   (v5 (o6 (Z3 (U0 (z8 (O9 (z8 v9 (z8 (w6 2) v6))) (z8 U8 v6))) (Q3 vn0 qs0 T.b_int b_int (z8 (qo0 (S8 ir0 ka0 (U6 T.b_len (z8 (w6 0) v6)) p8) (qo0 (S8 so0 ul0 (Z9 (w6 0) (Z4 (wb0 p8)) V3) v9) (G8 (S8 sp0 uf0 (U6 T.b_len (z8 (w6 2) v6)) p8)))) v6))))
   v8)))
   v8)
   (v5 (Z7 (m9 S6 V6 (Z9 (w6 0) V3 (Z4 p8)) v9)
   (v5 (Z6 (Z2 C__law_list hr (by decide) (z8 (Z9 (w6 0) (Z4 p8) (Z4 (sj0 (U6 T.b_len (z8 (w6 0) v6)) p8))) (z8 (w6 1) (z8 R9 v6)))) (o4 4 zn0.nd))
   (v5 (Z7 (PWD.pt (zb0 (m9 so0 ul0 (Z9 (w6 0) (Z4 (wb0 p8)) V3) v9) (z60 (m9 uj0 wz0 (w6 4) U8))))
   (v5 (o6 U8)
   v8)
   v8)
   (v5 (o6 (O9 (z8 v9 (z8 (Q3 z10 ui0 T.b_tuple b_tuple (z8 (K3 (sc:=u0 (top 59)) (N:=["_law_text", "_law_many", "_law_word", "_law_sign", "_law_some", "_law_front"]) (N':=["_law_name", "_law_value_here"]) (n:=2) (caps:=[]) ⟨rfl,by decide +kernel,by decide +kernel,by decide +kernel,by decide +kernel,rfl,by decide +kernel⟩ (by decide) (zo0 (w6 4)) (λcl s H ex=>la0 0 1 (by decide +kernel:(["_law_name", "_law_value_here"]:List Str).Nodup) (by decide)) (λcl s H ex=>O4) (λcl s H ex=>(w6 1))) v6)) v6))))
   v8)))
   v8)
   (v5 (Z7 (PWD.pt (zb0 (m9 y90 uk0 v9 (w6 0)) (z60 (m9 so0 ul0 (Z9 (w6 0) (Z4 (wb0 p8)) V3) v9))))
   (v5 (o6 U8)
   v8)
   v8)
   (v5 (Z6 (Z9 (w6 0) V3 (Z4 (U9 S1 S2 qn0 pa0 str_idx (w6 0) (z8 v9 v6)))) (o4 5 zn0.nd))
   (v5 (Z6 (Z2 C__law_list hr (by decide) (z8 (Z9 (w6 0) (Z4 (j7 (U9 S1 S2 qn0 pa0 str_idx (w6 0) (z8 v9 v6)) p8)) (Z4 (sj0 (U6 T.b_len (z8 (w6 0) v6)) p8))) (z8 (w6 1) (z8 R9 v6)))) (o4 4 zn0.nd))
   (v5 (Z7 (PWD.pt (zb0 (m9 uj0 wz0 (w6 4) U8) (z60 (PWD.pt (yp0 (m9 so0 ul0 (w6 5) v9) (yl0 (zm0 (V9 (Z2 C__law_is_name hr (by decide) (z8 (w6 5) v6))))))))))
   (v5 (o6 U8)
   v8)
   v8)
   (v5 (o6 (Z3 (U0 (z8 (O9 (z8 v9 (z8 (w6 5) (z8 (w6 4) v6)))) (z8 (O9 (z8 v9 (z8 (w6 4) v6))) v6))) (Q3 vn0 qs0 T.b_int b_int (z8 (S8 S6 V6 (w6 5) v9) v6))))
   v8)))))))) (λds d h=>U4 h)
theorem yj0:FnScope ["_law_text", "_law_bits", "_law_found", "_law_piece", "_law_part_here"] ["_law_text"] (u0 (top 60)):=⟨rfl,rfl,rfl,by decide +kernel,rfl,by decide +kernel,by decide +kernel⟩
theorem j50(F:Fun K "_law_due" "_law_due" (top 60) fa fd)(T:Txt mg)(C__law_part:FnD P w K mg base "_law_part" 4 ["_law_text", "_law_many"] zf0):FnOk P w K mg base CX0 5 fa fd ["_law_text"] (spD K P0) :=
 okD (k:=4) (G:=p40) F yj0 (λO A outer s H E hr=>(v5 (Z6 (U9 D7 N0 xt0 ve0 yq0 (w6 0) (z8 v9 v6)) (o4 1 yj0.nd))
   (v5 (wv0 2 (ue0 v6) yj0.nd)
   (v5 (zl0 D2 rfl (zh0 (w6 1)) (o4 3 yj0.nd)
   (v5 (Z6 (Z2 C__law_part hr (by decide) (z8 (w6 3) (z8 (U6 T.b_len (z8 (w6 1) v6)) v6))) (o4 4 yj0.nd))
   (v5 (Z7 (m9 uj0 wz0 (w6 4) U8)
   (v5 (o6 U8)
   v8)
   v8)
   (v5 (wi0 (p20 2 (w6 4)))
   v8))))
   (v5 (vj0 (Q3 z10 ui0 T.b_tuple b_tuple (z8 (w6 2) v6)))
   v8))))) (λds d h=>U4 h)
theorem zp0:FnScope ["_law_thing", "_law_found", "_law_words", "e"] ["_law_thing"] (u0 (top 61)):=⟨rfl,rfl,rfl,by decide +kernel,rfl,by decide +kernel,by decide +kernel⟩
theorem lh0(F:Fun K "_law_said" "_law_said" (top 61) fa fd)(T:Txt mg)(XT:XC.Tab K mg "WebError" rr ["NoText", "NoPlace", "NoValue", "TooMany", "NoMake", "NoBase", "NoRow", "NoName", "NoWay", "NoPack"] ["NoText", "NoPlace", "NoValue", "TooMany", "NoMake", "NoBase", "NoRow", "NoName"])(X_read:FnX P w K mg base "read" 8 ["text"] T6):FnOk P w K mg base CX0 9 fa fd ["_law_thing"] (spD K Y8) :=
 okD (k:=8) (G:=rf0) F zp0 (λO A outer s H E hr=>(v5 (Z6 U8 (o4 1 zp0.nd))
   (v5 (wv0 2 (ue0 v6) zp0.nd)
   (v5 (bt0 3 XT (λpn xe=>(Z5 (d60 1 X_read hr (by decide) (z8 (w6 0) v6) zp0.nd)
   V0))
   (λea=>(v5 (wv0 2 (ue0 (z8 (bz0 3 XT (by decide) (by decide) T.b_isinstance) (z8 (ab0 3 XT b_ValueError ty_ValueError (by decide +kernel) T.b_isinstance T.b_ValueError) v6))) zp0.nd)
   (v5 (wi0 (p20 2 (ex0 3 XT (by decide) (zw0 XT (by decide) (zw0 XT (by decide) (zw0 XT (by decide) (zw0 XT (by decide) (zw0 XT (by decide) (zw0 XT (by decide) (zw0 XT (by decide) (zw0 XT (by decide) (zw0 XT (by decide) ac0))))))))) (by decide) T.b_isinstance)))
   v8))) zp0.nd)
   (v5 (vj0 (O9 (z8 (w6 1) (z8 (w6 2) v6))))
   v8))))) (λds d h=>U4 h)
theorem zq0:FnScope ["_law_small", "_law_rows", "_law_text"] [] (u0 (top 62)):=⟨rfl,rfl,rfl,by decide +kernel,rfl,by decide +kernel,by decide +kernel⟩
theorem pt0(F:Fun K "_law_bounds" "_law_bounds" (top 62) fa fd)(T:Txt mg)(C__law_said:FnD P w K mg base "_law_said" 9 ["_law_thing"] Y8)(C_read:FnD P w K mg base "read" 8 ["text"] (O3 T6)):FnOk P w K mg base CX0 10 fa fd [] (spD K z20) :=
 okD (k:=9) (G:=tg0) F zq0 (λO A outer s H E hr=>(v5 (Z6 (y40 v9 (z8 (i20 (U0 (z8 v9 v6)) p8) v6)) (o4 0 zq0.nd))
   (v5 (en0 1 "_law_k" zq0.nd ⟨rfl,by decide +kernel,by decide +kernel,by decide +kernel,λL=>rfl⟩ (by decide) (yx0 T.b_range (z8 p8 v6)) (λs H ex=>o4 0 (by decide +kernel:(["_law_k"]:List Str).Nodup)) (λs H ex=>O4) (λs H ex=>(j7 (j7 v9 (y40 v9 (z8 (K3 (sc:={ kind:=.function,names:=[(".0",.local),("_law_k",.cell),("range",.globalImplicit)],isGenerator:=false,isCoroutine:=false }) (N:=["_law_k"]) (N':=["_law_j", "_law_k"]) (n:=1) (caps:=[0]) ⟨rfl,by decide +kernel,by decide +kernel,by decide +kernel,by decide +kernel,rfl,by decide +kernel⟩ (by decide) (yx0 T.b_range (z8 p8 v6)) (λcl s H ex=>o4 0 (by decide +kernel:(["_law_j", "_law_k"]:List Str).Nodup)) (λcl s H ex=>O4) (λcl s H ex=>(j7 (j7 v9 (Q3 yy0 qt0 T.b_str b_str (z8 (j7 (xx0 p8 (w6 1)) (w6 0)) v6))) v9))) v6))) v9)))
   (v5 (zl0 D2 rfl (zo0 (O9 (z8 (w6 0) (z8 (y40 v9 (z8 (w6 1) v6)) v6)))) (o4 2 zq0.nd)
   (v5 (Z7 (PWD.pt (zb0 (m9 (ud0 hr.units) v00 (Z3 (Z2 C__law_said hr (by decide) (z8 (w6 2) v6)) p8) (U0 v6)) (z60 (m9 (ud0 hr.units) v00 (U6 T.b_len (z8 (Z2 C_read hr (by decide) (z8 (w6 2) v6)) v6)) (U6 T.b_len (z8 (U9 D7 N0 xt0 ve0 yq0 (w6 2) (z8 v9 v6)) v6))))))
   (v5 (o6 R9)
   v8)
   v8)
   v8))
   (v5 (zl0 D2 rfl (zo0 (O9 (z8 (j7 (w6 0) v9) (z8 (j7 (y40 v9 (z8 (w6 1) v6)) v9) (z8 (j7 (y40 v9 (z8 (w6 1) v6)) v9) v6))))) (o4 2 zq0.nd)
   (v5 (Z7 (m9 (ud0 hr.units) v00 (Z2 C__law_said hr (by decide) (z8 (w6 2) v6)) (O9 (z8 U8 (z8 (U0 (z8 R9 (z8 R9 (z8 R9 v6)))) v6))))
   (v5 (o6 R9)
   v8)
   v8)
   v8))
   (v5 (o6 R9)
   v8)))))) (λds d h=>U4 h)
theorem yf0:FnScope ["_law_script", "_law_first", "_law_many", "_law_numbers", "_law_text", "_law_due_here", "_law_cell", "_law_x", "_law_bad", "_law_due_bad", "_law_thing"] ["_law_script"] (u0 (top 63)):=⟨rfl,rfl,rfl,by decide +kernel,rfl,by decide +kernel,by decide +kernel⟩
theorem Yz0(F:Fun K "law" "law" (top 63) fa fd)(T:Txt mg)(C__law_bounds:FnD P w K mg base "_law_bounds" 10 [] z20)(C__law_cell_at:FnD P w K mg base "_law_cell_at" 1 ["_law_script", "_law_k"] U5)(C__law_due:FnD P w K mg base "_law_due" 5 ["_law_text"] P0)(C__law_part_text:FnD P w K mg base "_law_part_text" 2 ["_law_x", "_law_many"] S7)(C__law_said:FnD P w K mg base "_law_said" 9 ["_law_thing"] Y8)(C__law_spoiled:FnD P w K mg base "_law_spoiled" 2 ["_law_text", "_law_x", "_law_many"] T8)(C_read:FnD P w K mg base "read" 8 ["text"] (O3 T6)):FnOk P w K mg base CX0 11 fa fd ["_law_script"] (spD K sv0) :=
 okD (k:=10) (G:=cm0) F yf0 (λO A outer s H E hr=>(v5 (Z6 (Q6 (Z2 C__law_cell_at hr (by decide) (z8 (w6 0) (z8 p8 v6))) p8) (o4 1 yf0.nd))
   (v5 (Z6 (j7 p8 (Q6 (w6 1) p8)) (o4 2 yf0.nd))
   (v5 (er0 3 yf0.nd (sc:=u0 (top 63)) (N:=["_law_script", "_law_first", "_law_many", "_law_numbers", "_law_text", "_law_due_here", "_law_cell", "_law_x", "_law_bad", "_law_due_bad", "_law_thing"]) (N':=["_law_k", "_law_script"]) (n:=1) (caps:=[0]) ⟨rfl,by decide +kernel,by decide +kernel,by decide +kernel,by decide +kernel,rfl,by decide +kernel⟩ (by decide) (yx0 T.b_range (z8 (w6 2) v6)) (λcl s H ex=>o4 0 (by decide +kernel:(["_law_k", "_law_script"]:List Str).Nodup)) (λcl s H ex=>O4) (λcl s H ex=>(Q6 (xx0 (j7 (Q6 (Z2 C__law_cell_at hr (by decide) (z8 (w6 1) (z8 (j7 p8 (w6 0)) v6))) p8) (xx0 (xx0 p8 (w6 0)) (w6 0))) p8) p8)))
   (v5 (Z6 (y40 v9 (z8 (K3 (sc:=u0 (top 63)) (N:=["_law_script", "_law_first", "_law_many", "_law_numbers", "_law_text", "_law_due_here", "_law_cell", "_law_x", "_law_bad", "_law_due_bad", "_law_thing"]) (N':=["_law_number_here", "_law_many"]) (n:=1) (caps:=[2]) ⟨rfl,by decide +kernel,by decide +kernel,by decide +kernel,by decide +kernel,rfl,by decide +kernel⟩ (by decide) (zh0 (w6 3)) (λcl s H ex=>o4 0 (by decide +kernel:(["_law_number_here", "_law_many"]:List Str).Nodup)) (λcl s H ex=>O4) (λcl s H ex=>(Z2 C__law_part_text hr (by decide) (z8 (w6 0) (z8 (w6 1) v6))))) v6)) (o4 4 yf0.nd))
   (v5 (Z6 (Z2 C__law_due hr (by decide) (z8 (w6 4) v6)) (o4 5 yf0.nd))
   (v5 (Z7 (PWD.pt (zb0 (m9 (ud0 hr.units) v00 (Z2 C_read hr (by decide) (z8 (w6 4) v6)) (w6 5)) (z60 (m9 uj0 wz0 (w6 5) U8))))
   (v5 (o6 R9)
   v8)
   v8)
   (v5 (zl0 D2 rfl (zh0 (j7 (Z9 (w6 0) (Z4 p8) (Z4 p8)) (U0 (z8 (w6 1) v6)))) (o4 6 yf0.nd)
   (v5 (Z6 (Q6 (xx0 (Q6 (w6 6) p8) p8) p8) (o4 7 yf0.nd))
   (v5 (Z6 (Z2 C__law_spoiled hr (by decide) (z8 (w6 4) (z8 (w6 7) (z8 (w6 2) v6)))) (o4 8 yf0.nd))
   (v5 (Z6 (Z2 C__law_due hr (by decide) (z8 (w6 8) v6)) (o4 9 yf0.nd))
   (v5 (Z7 (m9 (ud0 hr.units) v00 (Z2 C__law_said hr (by decide) (z8 (w6 8) v6)) (O9 (z8 (w6 9) (z8 (Z3 (U0 (z8 (U0 v6) (z8 (U0 (z8 R9 (z8 R9 (z8 R9 v6)))) v6))) (Q3 vn0 qs0 T.b_int b_int (z8 (S8 uj0 wz0 (w6 9) U8) v6))) v6))))
   (v5 (o6 R9)
   v8)
   v8)
   (v5 (Z6 (Z3 (U0 (z8 U8 (z8 p8 (z8 R9 (z8 (U0 (z8 (w6 4) v6)) (z8 (O9 (z8 (w6 4) v6)) (z8 (w6 5) (z8 c90 v6)))))))) (Q6 (w6 7) p8)) (o4 10 yf0.nd))
   (v5 (Z7 (m9 (ud0 hr.units) v00 (Z2 C__law_said hr (by decide) (z8 (w6 10) v6)) (O9 (z8 U8 (z8 (U0 (z8 R9 (z8 R9 (z8 R9 v6)))) v6))))
   (v5 (o6 R9)
   v8)
   v8)
   v8)))))))
   (v5 (o6 (N8 (S8 (Zp0 hr.units) Z20 (Z2 C_read hr (by decide) (z8 (w6 4) v6)) (w6 5)) (G8 (Yh0 C__law_bounds hr (by decide)))))
   v8))))))))) (λds d h=>U4 h)
end
theorem us1:∀{us:List α},us.length=1->∃a,us=[a]
 | [a],_=>⟨a,rfl⟩
theorem us2:∀{us:List α},us.length=2->∃a b,us=[a,b]
 | [a,b],_=>⟨a,b,rfl⟩
theorem us3:∀{us:List α},us.length=3->∃a b c,us=[a,b,c]
 | [a,b,c],_=>⟨a,b,c,rfl⟩
theorem all_mk{l:W.OpenLaw}{w:World}(X:K.In h)(G:h.Ns mainGlobals mg)(hfa:mg "law"=some (.ref fa))
  {f0 f1 f2 f3 f4 f5 f6 f7 f8 f9 f10 f11 f12 f13 f14 f15 f16 f17 f18 f19 f20 f21 f22 f23 f24 f25 f26 f27 f28 f29 f30 f31 f32 f33 f34 f35 f36 f37 f38 f39:Addr}
  {od0 an0 od1 an1 od2 an2 od3 an3 od4 an4 od5 an5 od6 an6 od7 an7 od8 an8 od9 an9 od10 an10 od11 an11 od12 an12 od13 an13 od14 an14 od15 an15 od16 an16 od17 an17 od18 an18 od19 an19 od20 an20 od21 an21 od22 an22 od23 an23 od24 an24 od25 an25 od26 an26 od27 an27 od28 an28 od29 an29 od30 an30 od31 an31 od32 an32 od33 an33 od34 an34 od35 an35 od36 an36 od37 an37 od38 an38 od39 an39:Option Addr} {sl0 sl1 sl2 sl3 sl4 sl5 sl6 sl7 sl8 sl9 sl10 sl11 sl12 sl13 sl14 sl15 sl16 sl17 sl18 sl19 sl20 sl21 sl22 sl23 sl24 sl25 sl26 sl27 sl28 sl29 sl30 sl31 sl32 sl33 sl34 sl35 sl36 sl37 sl38 sl39:Array (Option Value)} {oc0 kV0 dc0 pm0 cd0 ct0 oc1 kV1 dc1 pm1 cd1 ct1 oc2 kV2 dc2 pm2 cd2 ct2 oc3 kV3 dc3 pm3 cd3 ct3 oc4 kV4 dc4 pm4 cd4 ct4 oc5 kV5 dc5 pm5 cd5 ct5 oc6 kV6 dc6 pm6 cd6 ct6 oc7 kV7 dc7 pm7 cd7 ct7 oc8 kV8 dc8 pm8 cd8 ct8 oc9 kV9 dc9 pm9 cd9 ct9 oc10 kV10 dc10 pm10 cd10 ct10 oc11 kV11 dc11 pm11 cd11 ct11 oc12 kV12 dc12 pm12 cd12 ct12 oc13 kV13 dc13 pm13 cd13 ct13 oc14 kV14 dc14 pm14 cd14 ct14 oc15 kV15 dc15 pm15 cd15 ct15 oc16 kV16 dc16 pm16 cd16 ct16 oc17 kV17 dc17 pm17 cd17 ct17 oc18 kV18 dc18 pm18 cd18 ct18 oc19 kV19 dc19 pm19 cd19 ct19 oc20 kV20 dc20 pm20 cd20 ct20 oc21 kV21 dc21 pm21 cd21 ct21 oc22 kV22 dc22 pm22 cd22 ct22 oc23 kV23 dc23 pm23 cd23 ct23 oc24 kV24 dc24 pm24 cd24 ct24 oc25 kV25 dc25 pm25 cd25 ct25 oc26 kV26 dc26 pm26 cd26 ct26 oc27 kV27 dc27 pm27 cd27 ct27 oc28 kV28 dc28 pm28 cd28 ct28 oc29 kV29 dc29 pm29 cd29 ct29 oc30 kV30 dc30 pm30 cd30 ct30 oc31 kV31 dc31 pm31 cd31 ct31 oc32 kV32 dc32 pm32 cd32 ct32 oc33 kV33 dc33 pm33 cd33 ct33 oc34 kV34 dc34 pm34 cd34 ct34 oc35 kV35 dc35 pm35 cd35 ct35 oc36 kV36 dc36 pm36 cd36 ct36 oc37 kV37 dc37 pm37 cd37 ct37 oc38 kV38 dc38 pm38 cd38 ct38 oc39 kV39 dc39 pm39 cd39 ct39:Value}
  {t_FIGURES t_MOST_FIGURES t_MOST_NAMES t_MOST_NAME_SIGNS t_MOST_PARTS t_MOST_VALUES t_MOST_WORD_SIGNS t_NAME_SIGNS t_WORD_SIGNS:Tok}
  (a0:W.nsIn K mainGlobals "is_whole"=some (some (.ref f0))) (l0:K.lookup f0=some ⟨oc0,od0,.func (W.fnOf "is_whole" "is_whole" (d7 (top 20)) (j6 (top 20)) (u0 (top 20)) .none kV0 dc0 pm0 an0 cd0 ct0),sl0⟩) (c0:W.codeIn K cd0 "is_whole"=true) (k0:W.keepIn K (.ref f0)=true)
  (a1:W.nsIn K mainGlobals "is_spelled"=some (some (.ref f1))) (l1:K.lookup f1=some ⟨oc1,od1,.func (W.fnOf "is_spelled" "is_spelled" (d7 (top 21)) (j6 (top 21)) (u0 (top 21)) .none kV1 dc1 pm1 an1 cd1 ct1),sl1⟩) (c1:W.codeIn K cd1 "is_spelled"=true) (k1:W.keepIn K (.ref f1)=true)
  (a2:W.nsIn K mainGlobals "is_name"=some (some (.ref f2))) (l2:K.lookup f2=some ⟨oc2,od2,.func (W.fnOf "is_name" "is_name" (d7 (top 22)) (j6 (top 22)) (u0 (top 22)) .none kV2 dc2 pm2 an2 cd2 ct2),sl2⟩) (c2:W.codeIn K cd2 "is_name"=true) (k2:W.keepIn K (.ref f2)=true)
  (a3:W.nsIn K mainGlobals "is_word"=some (some (.ref f3))) (l3:K.lookup f3=some ⟨oc3,od3,.func (W.fnOf "is_word" "is_word" (d7 (top 23)) (j6 (top 23)) (u0 (top 23)) .none kV3 dc3 pm3 an3 cd3 ct3),sl3⟩) (c3:W.codeIn K cd3 "is_word"=true) (k3:W.keepIn K (.ref f3)=true)
  (a4:W.nsIn K mainGlobals "is_marked"=some (some (.ref f4))) (l4:K.lookup f4=some ⟨oc4,od4,.func (W.fnOf "is_marked" "is_marked" (d7 (top 24)) (j6 (top 24)) (u0 (top 24)) .none kV4 dc4 pm4 an4 cd4 ct4),sl4⟩) (c4:W.codeIn K cd4 "is_marked"=true) (k4:W.keepIn K (.ref f4)=true)
  (a5:W.nsIn K mainGlobals "is_link"=some (some (.ref f5))) (l5:K.lookup f5=some ⟨oc5,od5,.func (W.fnOf "is_link" "is_link" (d7 (top 25)) (j6 (top 25)) (u0 (top 25)) .none kV5 dc5 pm5 an5 cd5 ct5),sl5⟩) (c5:W.codeIn K cd5 "is_link"=true) (k5:W.keepIn K (.ref f5)=true)
  (a6:W.nsIn K mainGlobals "is_value"=some (some (.ref f6))) (l6:K.lookup f6=some ⟨oc6,od6,.func (W.fnOf "is_value" "is_value" (d7 (top 26)) (j6 (top 26)) (u0 (top 26)) .none kV6 dc6 pm6 an6 cd6 ct6),sl6⟩) (c6:W.codeIn K cd6 "is_value"=true) (k6:W.keepIn K (.ref f6)=true)
  (a7:W.nsIn K mainGlobals "is_tuple"=some (some (.ref f7))) (l7:K.lookup f7=some ⟨oc7,od7,.func (W.fnOf "is_tuple" "is_tuple" (d7 (top 27)) (j6 (top 27)) (u0 (top 27)) .none kV7 dc7 pm7 an7 cd7 ct7),sl7⟩) (c7:W.codeIn K cd7 "is_tuple"=true) (k7:W.keepIn K (.ref f7)=true)
  (a8:W.nsIn K mainGlobals "is_values"=some (some (.ref f8))) (l8:K.lookup f8=some ⟨oc8,od8,.func (W.fnOf "is_values" "is_values" (d7 (top 28)) (j6 (top 28)) (u0 (top 28)) .none kV8 dc8 pm8 an8 cd8 ct8),sl8⟩) (c8:W.codeIn K cd8 "is_values"=true) (k8:W.keepIn K (.ref f8)=true)
  (a9:W.nsIn K mainGlobals "is_pair"=some (some (.ref f9))) (l9:K.lookup f9=some ⟨oc9,od9,.func (W.fnOf "is_pair" "is_pair" (d7 (top 29)) (j6 (top 29)) (u0 (top 29)) .none kV9 dc9 pm9 an9 cd9 ct9),sl9⟩) (c9:W.codeIn K cd9 "is_pair"=true) (k9:W.keepIn K (.ref f9)=true)
  (a10:W.nsIn K mainGlobals "is_pairs"=some (some (.ref f10))) (l10:K.lookup f10=some ⟨oc10,od10,.func (W.fnOf "is_pairs" "is_pairs" (d7 (top 30)) (j6 (top 30)) (u0 (top 30)) .none kV10 dc10 pm10 an10 cd10 ct10),sl10⟩) (c10:W.codeIn K cd10 "is_pairs"=true) (k10:W.keepIn K (.ref f10)=true)
  (a11:W.nsIn K mainGlobals "is_part"=some (some (.ref f11))) (l11:K.lookup f11=some ⟨oc11,od11,.func (W.fnOf "is_part" "is_part" (d7 (top 31)) (j6 (top 31)) (u0 (top 31)) .none kV11 dc11 pm11 an11 cd11 ct11),sl11⟩) (c11:W.codeIn K cd11 "is_part"=true) (k11:W.keepIn K (.ref f11)=true)
  (a12:W.nsIn K mainGlobals "is_web"=some (some (.ref f12))) (l12:K.lookup f12=some ⟨oc12,od12,.func (W.fnOf "is_web" "is_web" (d7 (top 32)) (j6 (top 32)) (u0 (top 32)) .none kV12 dc12 pm12 an12 cd12 ct12),sl12⟩) (c12:W.codeIn K cd12 "is_web"=true) (k12:W.keepIn K (.ref f12)=true)
  (a13:W.nsIn K mainGlobals "links_lead"=some (some (.ref f13))) (l13:K.lookup f13=some ⟨oc13,od13,.func (W.fnOf "links_lead" "links_lead" (d7 (top 33)) (j6 (top 33)) (u0 (top 33)) .none kV13 dc13 pm13 an13 cd13 ct13),sl13⟩) (c13:W.codeIn K cd13 "links_lead"=true) (k13:W.keepIn K (.ref f13)=true)
  (a14:W.nsIn K mainGlobals "pair_names"=some (some (.ref f14))) (l14:K.lookup f14=some ⟨oc14,od14,.func (W.fnOf "pair_names" "pair_names" (d7 (top 34)) (j6 (top 34)) (u0 (top 34)) .none kV14 dc14 pm14 an14 cd14 ct14),sl14⟩) (c14:W.codeIn K cd14 "pair_names"=true) (k14:W.keepIn K (.ref f14)=true)
  (a15:W.nsIn K mainGlobals "count_names"=some (some (.ref f15))) (l15:K.lookup f15=some ⟨oc15,od15,.func (W.fnOf "count_names" "count_names" (d7 (top 35)) (j6 (top 35)) (u0 (top 35)) .none kV15 dc15 pm15 an15 cd15 ct15),sl15⟩) (c15:W.codeIn K cd15 "count_names"=true) (k15:W.keepIn K (.ref f15)=true)
  (a16:W.nsIn K mainGlobals "values"=some (some (.ref f16))) (l16:K.lookup f16=some ⟨oc16,od16,.func (W.fnOf "values" "values" (d7 (top 36)) (j6 (top 36)) (u0 (top 36)) .none kV16 dc16 pm16 an16 cd16 ct16),sl16⟩) (c16:W.codeIn K cd16 "values"=true) (k16:W.keepIn K (.ref f16)=true)
  (a17:W.nsIn K mainGlobals "links"=some (some (.ref f17))) (l17:K.lookup f17=some ⟨oc17,od17,.func (W.fnOf "links" "links" (d7 (top 37)) (j6 (top 37)) (u0 (top 37)) .none kV17 dc17 pm17 an17 cd17 ct17),sl17⟩) (c17:W.codeIn K cd17 "links"=true) (k17:W.keepIn K (.ref f17)=true)
  (a18:W.nsIn K mainGlobals "read"=some (some (.ref f18))) (l18:K.lookup f18=some ⟨oc18,od18,.func (W.fnOf "read" "read" (d7 (top 41)) (j6 (top 41)) (u0 (top 41)) .none kV18 dc18 pm18 an18 cd18 ct18),sl18⟩) (c18:W.codeIn K cd18 "read"=true) (k18:W.keepIn K (.ref f18)=true)
  (a19:W.nsIn K mainGlobals "read_part"=some (some (.ref f19))) (l19:K.lookup f19=some ⟨oc19,od19,.func (W.fnOf "read_part" "read_part" (d7 (top 42)) (j6 (top 42)) (u0 (top 42)) .none kV19 dc19 pm19 an19 cd19 ct19),sl19⟩) (c19:W.codeIn K cd19 "read_part"=true) (k19:W.keepIn K (.ref f19)=true)
  (a20:W.nsIn K mainGlobals "read_paired"=some (some (.ref f20))) (l20:K.lookup f20=some ⟨oc20,od20,.func (W.fnOf "read_paired" "read_paired" (d7 (top 43)) (j6 (top 43)) (u0 (top 43)) .none kV20 dc20 pm20 an20 cd20 ct20),sl20⟩) (c20:W.codeIn K cd20 "read_paired"=true) (k20:W.keepIn K (.ref f20)=true)
  (a21:W.nsIn K mainGlobals "parted_items"=some (some (.ref f21))) (l21:K.lookup f21=some ⟨oc21,od21,.func (W.fnOf "parted_items" "parted_items" (d7 (top 44)) (j6 (top 44)) (u0 (top 44)) .none kV21 dc21 pm21 an21 cd21 ct21),sl21⟩) (c21:W.codeIn K cd21 "parted_items"=true) (k21:W.keepIn K (.ref f21)=true)
  (a22:W.nsIn K mainGlobals "read_pair"=some (some (.ref f22))) (l22:K.lookup f22=some ⟨oc22,od22,.func (W.fnOf "read_pair" "read_pair" (d7 (top 45)) (j6 (top 45)) (u0 (top 45)) .none kV22 dc22 pm22 an22 cd22 ct22),sl22⟩) (c22:W.codeIn K cd22 "read_pair"=true) (k22:W.keepIn K (.ref f22)=true)
  (a23:W.nsIn K mainGlobals "read_value"=some (some (.ref f23))) (l23:K.lookup f23=some ⟨oc23,od23,.func (W.fnOf "read_value" "read_value" (d7 (top 46)) (j6 (top 46)) (u0 (top 46)) .none kV23 dc23 pm23 an23 cd23 ct23),sl23⟩) (c23:W.codeIn K cd23 "read_value"=true) (k23:W.keepIn K (.ref f23)=true)
  (a24:W.nsIn K mainGlobals "read_count"=some (some (.ref f24))) (l24:K.lookup f24=some ⟨oc24,od24,.func (W.fnOf "read_count" "read_count" (d7 (top 47)) (j6 (top 47)) (u0 (top 47)) .none kV24 dc24 pm24 an24 cd24 ct24),sl24⟩) (c24:W.codeIn K cd24 "read_count"=true) (k24:W.keepIn K (.ref f24)=true)
  (a25:W.nsIn K mainGlobals "is_count_text"=some (some (.ref f25))) (l25:K.lookup f25=some ⟨oc25,od25,.func (W.fnOf "is_count_text" "is_count_text" (d7 (top 48)) (j6 (top 48)) (u0 (top 48)) .none kV25 dc25 pm25 an25 cd25 ct25),sl25⟩) (c25:W.codeIn K cd25 "is_count_text"=true) (k25:W.keepIn K (.ref f25)=true)
  (a26:W.nsIn K mainGlobals "_law_cell_at"=some (some (.ref f26))) (l26:K.lookup f26=some ⟨oc26,od26,.func (W.fnOf "_law_cell_at" "_law_cell_at" (d7 (top 50)) (j6 (top 50)) (u0 (top 50)) .none kV26 dc26 pm26 an26 cd26 ct26),sl26⟩) (c26:W.codeIn K cd26 "_law_cell_at"=true) (k26:W.keepIn K (.ref f26)=true)
  (a27:W.nsIn K mainGlobals "_law_value_text"=some (some (.ref f27))) (l27:K.lookup f27=some ⟨oc27,od27,.func (W.fnOf "_law_value_text" "_law_value_text" (d7 (top 51)) (j6 (top 51)) (u0 (top 51)) .none kV27 dc27 pm27 an27 cd27 ct27),sl27⟩) (c27:W.codeIn K cd27 "_law_value_text"=true) (k27:W.keepIn K (.ref f27)=true)
  (a28:W.nsIn K mainGlobals "_law_part_text"=some (some (.ref f28))) (l28:K.lookup f28=some ⟨oc28,od28,.func (W.fnOf "_law_part_text" "_law_part_text" (d7 (top 52)) (j6 (top 52)) (u0 (top 52)) .none kV28 dc28 pm28 an28 cd28 ct28),sl28⟩) (c28:W.codeIn K cd28 "_law_part_text"=true) (k28:W.keepIn K (.ref f28)=true)
  (a29:W.nsIn K mainGlobals "_law_none"=some (some (.ref f29))) (l29:K.lookup f29=some ⟨oc29,od29,.func (W.fnOf "_law_none" "_law_none" (d7 (top 53)) (j6 (top 53)) (u0 (top 53)) .none kV29 dc29 pm29 an29 cd29 ct29),sl29⟩) (c29:W.codeIn K cd29 "_law_none"=true) (k29:W.keepIn K (.ref f29)=true)
  (a30:W.nsIn K mainGlobals "_law_spoiled"=some (some (.ref f30))) (l30:K.lookup f30=some ⟨oc30,od30,.func (W.fnOf "_law_spoiled" "_law_spoiled" (d7 (top 54)) (j6 (top 54)) (u0 (top 54)) .none kV30 dc30 pm30 an30 cd30 ct30),sl30⟩) (c30:W.codeIn K cd30 "_law_spoiled"=true) (k30:W.keepIn K (.ref f30)=true)
  (a31:W.nsIn K mainGlobals "_law_number"=some (some (.ref f31))) (l31:K.lookup f31=some ⟨oc31,od31,.func (W.fnOf "_law_number" "_law_number" (d7 (top 55)) (j6 (top 55)) (u0 (top 55)) .none kV31 dc31 pm31 an31 cd31 ct31),sl31⟩) (c31:W.codeIn K cd31 "_law_number"=true) (k31:W.keepIn K (.ref f31)=true)
  (a32:W.nsIn K mainGlobals "_law_value"=some (some (.ref f32))) (l32:K.lookup f32=some ⟨oc32,od32,.func (W.fnOf "_law_value" "_law_value" (d7 (top 56)) (j6 (top 56)) (u0 (top 56)) .none kV32 dc32 pm32 an32 cd32 ct32),sl32⟩) (c32:W.codeIn K cd32 "_law_value"=true) (k32:W.keepIn K (.ref f32)=true)
  (a33:W.nsIn K mainGlobals "_law_is_name"=some (some (.ref f33))) (l33:K.lookup f33=some ⟨oc33,od33,.func (W.fnOf "_law_is_name" "_law_is_name" (d7 (top 57)) (j6 (top 57)) (u0 (top 57)) .none kV33 dc33 pm33 an33 cd33 ct33),sl33⟩) (c33:W.codeIn K cd33 "_law_is_name"=true) (k33:W.keepIn K (.ref f33)=true)
  (a34:W.nsIn K mainGlobals "_law_list"=some (some (.ref f34))) (l34:K.lookup f34=some ⟨oc34,od34,.func (W.fnOf "_law_list" "_law_list" (d7 (top 58)) (j6 (top 58)) (u0 (top 58)) .none kV34 dc34 pm34 an34 cd34 ct34),sl34⟩) (c34:W.codeIn K cd34 "_law_list"=true) (k34:W.keepIn K (.ref f34)=true)
  (a35:W.nsIn K mainGlobals "_law_part"=some (some (.ref f35))) (l35:K.lookup f35=some ⟨oc35,od35,.func (W.fnOf "_law_part" "_law_part" (d7 (top 59)) (j6 (top 59)) (u0 (top 59)) .none kV35 dc35 pm35 an35 cd35 ct35),sl35⟩) (c35:W.codeIn K cd35 "_law_part"=true) (k35:W.keepIn K (.ref f35)=true)
  (a36:W.nsIn K mainGlobals "_law_due"=some (some (.ref f36))) (l36:K.lookup f36=some ⟨oc36,od36,.func (W.fnOf "_law_due" "_law_due" (d7 (top 60)) (j6 (top 60)) (u0 (top 60)) .none kV36 dc36 pm36 an36 cd36 ct36),sl36⟩) (c36:W.codeIn K cd36 "_law_due"=true) (k36:W.keepIn K (.ref f36)=true)
  (a37:W.nsIn K mainGlobals "_law_said"=some (some (.ref f37))) (l37:K.lookup f37=some ⟨oc37,od37,.func (W.fnOf "_law_said" "_law_said" (d7 (top 61)) (j6 (top 61)) (u0 (top 61)) .none kV37 dc37 pm37 an37 cd37 ct37),sl37⟩) (c37:W.codeIn K cd37 "_law_said"=true) (k37:W.keepIn K (.ref f37)=true)
  (a38:W.nsIn K mainGlobals "_law_bounds"=some (some (.ref f38))) (l38:K.lookup f38=some ⟨oc38,od38,.func (W.fnOf "_law_bounds" "_law_bounds" (d7 (top 62)) (j6 (top 62)) (u0 (top 62)) .none kV38 dc38 pm38 an38 cd38 ct38),sl38⟩) (c38:W.codeIn K cd38 "_law_bounds"=true) (k38:W.keepIn K (.ref f38)=true)
  (a39:W.nsIn K mainGlobals "law"=some (some (.ref f39))) (l39:K.lookup f39=some ⟨oc39,od39,.func (W.fnOf "law" "law" (d7 (top 63)) (j6 (top 63)) (u0 (top 63)) .none kV39 dc39 pm39 an39 cd39 ct39),sl39⟩) (c39:W.codeIn K cd39 "law"=true) (k39:W.keepIn K (.ref f39)=true)
  (z_ValueError:W.nsIn K mainGlobals "ValueError"=some none)
  (z_all:W.nsIn K mainGlobals "all"=some none)
  (z_bool:W.nsIn K mainGlobals "bool"=some none)
  (z_int:W.nsIn K mainGlobals "int"=some none)
  (z_isinstance:W.nsIn K mainGlobals "isinstance"=some none)
  (z_len:W.nsIn K mainGlobals "len"=some none)
  (z_list:W.nsIn K mainGlobals "list"=some none)
  (z_range:W.nsIn K mainGlobals "range"=some none)
  (z_set:W.nsIn K mainGlobals "set"=some none)
  (z_str:W.nsIn K mainGlobals "str"=some none)
  (z_tuple:W.nsIn K mainGlobals "tuple"=some none)
  (y_FIGURES:W.nsIn K mainGlobals "FIGURES"=some (some (.str "0123456789" t_FIGURES)))
  (y_MOST_FIGURES:W.nsIn K mainGlobals "MOST_FIGURES"=some (some (.int 60 t_MOST_FIGURES)))
  (y_MOST_NAMES:W.nsIn K mainGlobals "MOST_NAMES"=some (some (.int 60 t_MOST_NAMES)))
  (y_MOST_NAME_SIGNS:W.nsIn K mainGlobals "MOST_NAME_SIGNS"=some (some (.int 8 t_MOST_NAME_SIGNS)))
  (y_MOST_PARTS:W.nsIn K mainGlobals "MOST_PARTS"=some (some (.int 60 t_MOST_PARTS)))
  (y_MOST_VALUES:W.nsIn K mainGlobals "MOST_VALUES"=some (some (.int 12 t_MOST_VALUES)))
  (y_MOST_WORD_SIGNS:W.nsIn K mainGlobals "MOST_WORD_SIGNS"=some (some (.int 20 t_MOST_WORD_SIGNS)))
  (y_NAME_SIGNS:W.nsIn K mainGlobals "NAME_SIGNS"=some (some (.str "0123456789abcdefghijklmnopqrstuvwxyz" t_NAME_SIGNS)))
  (y_WORD_SIGNS:W.nsIn K mainGlobals "WORD_SIGNS"=some (some (.str " 0123456789abcdefghijklmnopqrstuvwxyz" t_WORD_SIGNS)))
  (xt:XC.ev0 K "WebError" ["NoText", "NoPlace", "NoValue", "TooMany", "NoMake", "NoBase", "NoRow", "NoName", "NoWay", "NoPack"] ["NoText", "NoPlace", "NoValue", "TooMany", "NoMake", "NoBase", "NoRow", "NoName"]=true)
  : ∃fd:FuncData,(∀(s:Shared) (v:Value),BindsTo s fd ⟨[v],[]⟩ [("_law_script",v)])/\∀base:Heap,K.In base->base.Ns mainGlobals mg->FnOk l.prog w K mg base CX0 11 fa fd ["_law_script"] (spD K sv0):=by
 have e:=hfa.symm.trans (A2 X G a39);cases e;have T:Txt mg:=⟨D3 X G z_ValueError,D3 X G z_all,D3 X G z_bool,D3 X G z_int,D3 X G z_isinstance,D3 X G z_len,D3 X G z_list,D3 X G z_range,D3 X G z_set,D3 X G z_str,D3 X G z_tuple,⟨_,A2 X G y_FIGURES⟩,⟨_,A2 X G y_MOST_FIGURES⟩,⟨_,A2 X G y_MOST_NAMES⟩,⟨_,A2 X G y_MOST_NAME_SIGNS⟩,⟨_,A2 X G y_MOST_PARTS⟩,⟨_,A2 X G y_MOST_VALUES⟩,⟨_,A2 X G y_MOST_WORD_SIGNS⟩,⟨_,A2 X G y_NAME_SIGNS⟩,⟨_,A2 X G y_WORD_SIGNS⟩⟩;obtain⟨rr,XT⟩:=XC.tab_of X G xt;have F0:=Y7 (st:=top 20) l0 c0 k0;have F1:=Y7 (st:=top 21) l1 c1 k1;have F2:=Y7 (st:=top 22) l2 c2 k2;have F3:=Y7 (st:=top 23) l3 c3 k3;have F4:=Y7 (st:=top 24) l4 c4 k4;have F5:=Y7 (st:=top 25) l5 c5 k5;have F6:=Y7 (st:=top 26) l6 c6 k6;have F7:=Y7 (st:=top 27) l7 c7 k7;have F8:=Y7 (st:=top 28) l8 c8 k8;have F9:=Y7 (st:=top 29) l9 c9 k9;have p3:=Y7 (st:=top 30) l10 c10 k10;have q9:=Y7 (st:=top 31) l11 c11 k11;have s1:=Y7 (st:=top 32) l12 c12 k12;have q3:=Y7 (st:=top 33) l13 c13 k13;have r9:=Y7 (st:=top 34) l14 c14 k14;have r1:=Y7 (st:=top 35) l15 c15 k15;have r5:=Y7 (st:=top 36) l16 c16 k16;have q2:=Y7 (st:=top 37) l17 c17 k17;have r7:=Y7 (st:=top 41) l18 c18 k18;have q7:=Y7 (st:=top 42) l19 c19 k19;have q4:=Y7 (st:=top 43) l20 c20 k20;have s7:=Y7 (st:=top 44) l21 c21 k21;have r8:=Y7 (st:=top 45) l22 c22 k22;have p1:=Y7 (st:=top 46) l23 c23 k23;have s3:=Y7 (st:=top 47) l24 c24 k24;have p5:=Y7 (st:=top 48) l25 c25 k25;have q1:=Y7 (st:=top 50) l26 c26 k26;have q8:=Y7 (st:=top 51) l27 c27 k27;have q0:=Y7 (st:=top 52) l28 c28 k28;have s5:=Y7 (st:=top 53) l29 c29 k29;have q5:=Y7 (st:=top 54) l30 c30 k30;have r6:=Y7 (st:=top 55) l31 c31 k31;have s4:=Y7 (st:=top 56) l32 c32 k32;have q6:=Y7 (st:=top 57) l33 c33 k33;have s8:=Y7 (st:=top 58) l34 c34 k34;have r2:=Y7 (st:=top 59) l35 c35 k35;have r3:=Y7 (st:=top 60) l36 c36 k36;have s0:=Y7 (st:=top 61) l37 c37 k37;have r4:=Y7 (st:=top 62) l38 c38 k38;have s9:=Y7 (st:=top 63) l39 c39 k39;refine⟨W.fnOf "law" "law" (d7 (top 63)) (j6 (top 63)) (u0 (top 63)) .none kV39 dc39 pm39 an39 cd39 ct39,λs v=>.of_eq rfl,λbase _ _=>?_⟩;have d3:FnD l.prog w K mg base "is_whole" 1 ["thing"] O5:=⟨f0,_,kv0 F0 T ,A2 X G a0,k0,F0.binds (ps:=["thing"]) λ_ _ _ _ _ _ us hl=>by obtain⟨_,rfl⟩:=us1 hl;rfl⟩;have Z:FnD l.prog w K mg base "is_spelled" 1 ["thing", "signs", "most"] Q8:=⟨f1,_,m00 F1 T ,A2 X G a1,k1,F1.binds (ps:=["thing", "signs", "most"]) λ_ _ _ _ _ _ us hl=>by obtain⟨_,_,_,rfl⟩:=us3 hl;rfl⟩;have b2:FnD l.prog w K mg base "is_marked" 1 ["thing", "mark", "count"] j5:=⟨f4,_,lt0 F4 T ,A2 X G a4,k4,F4.binds (ps:=["thing", "mark", "count"]) λ_ _ _ _ _ _ us hl=>by obtain⟨_,_,_,rfl⟩:=us3 hl;rfl⟩;have U:FnD l.prog w K mg base "is_tuple" 1 ["thing", "most"] O2:=⟨f7,_,ku0 F7 T ,A2 X G a7,k7,F7.binds (ps:=["thing", "most"]) λ_ _ _ _ _ _ us hl=>by obtain⟨_,_,rfl⟩:=us2 hl;rfl⟩;have g6:FnD l.prog w K mg base "pair_names" 1 ["part"] G6:=⟨f14,_,nu0 r9 T ,A2 X G a14,k14,r9.binds (ps:=["part"]) λ_ _ _ _ _ _ us hl=>by obtain⟨_,rfl⟩:=us1 hl;rfl⟩;have n6:FnD l.prog w K mg base "values" 1 ["part"] m_values:=⟨f16,_,e70 r5 T ,A2 X G a16,k16,r5.binds (ps:=["part"]) λ_ _ _ _ _ _ us hl=>by obtain⟨_,rfl⟩:=us1 hl;rfl⟩;have O:FnD l.prog w K mg base "parted_items" 1 ["inner"] W9:=⟨f21,_,qv0 s7 T ,A2 X G a21,k21,s7.binds (ps:=["inner"]) λ_ _ _ _ _ _ us hl=>by obtain⟨_,rfl⟩:=us1 hl;rfl⟩;have d2:FnD l.prog w K mg base "is_count_text" 1 ["text"] J2:=⟨f25,_,rq0 p5 T ,A2 X G a25,k25,p5.binds (ps:=["text"]) λ_ _ _ _ _ _ us hl=>by obtain⟨_,rfl⟩:=us1 hl;rfl⟩;have e1:FnD l.prog w K mg base "_law_cell_at" 1 ["_law_script", "_law_k"] U5:=⟨f26,_,pc0 q1 T ,A2 X G a26,k26,q1.binds (ps:=["_law_script", "_law_k"]) λ_ _ _ _ _ _ us hl=>by obtain⟨_,_,rfl⟩:=us2 hl;rfl⟩;have b0:FnD l.prog w K mg base "_law_value_text" 1 ["_law_x", "_law_many"] T9:=⟨f27,_,sn0 q8 T ,A2 X G a27,k27,q8.binds (ps:=["_law_x", "_law_many"]) λ_ _ _ _ _ _ us hl=>by obtain⟨_,_,rfl⟩:=us2 hl;rfl⟩;have h7:FnD l.prog w K mg base "_law_none" 1 ["_law_x"] zg0:=⟨f29,_,mg0 s5 T ,A2 X G a29,k29,s5.binds (ps:=["_law_x"]) λ_ _ _ _ _ _ us hl=>by obtain⟨_,rfl⟩:=us1 hl;rfl⟩;have e6:FnD l.prog w K mg base "_law_number" 1 ["_law_text"] O1:=⟨f31,_,ps0 r6 T ,A2 X G a31,k31,r6.binds (ps:=["_law_text"]) λ_ _ _ _ _ _ us hl=>by obtain⟨_,rfl⟩:=us1 hl;rfl⟩;have S:FnD l.prog w K mg base "_law_is_name" 1 ["_law_text"] V5:=⟨f33,_,pd0 q6 T ,A2 X G a33,k33,q6.binds (ps:=["_law_text"]) λ_ _ _ _ _ _ us hl=>by obtain⟨_,rfl⟩:=us1 hl;rfl⟩;have e2:FnD l.prog w K mg base "is_name" 2 ["thing"] zc0:=⟨f2,_,h90 F2 T Z,A2 X G a2,k2,F2.binds (ps:=["thing"]) λ_ _ _ _ _ _ us hl=>by obtain⟨_,rfl⟩:=us1 hl;rfl⟩;have m6:FnD l.prog w K mg base "is_word" 2 ["thing"] zu0:=⟨f3,_,ic0 F3 T Z,A2 X G a3,k3,F3.binds (ps:=["thing"]) λ_ _ _ _ _ _ us hl=>by obtain⟨_,rfl⟩:=us1 hl;rfl⟩;have m7:FnD l.prog w K mg base "is_link" 2 ["thing"] Q4:=⟨f5,_,g10 F5 T b2 d3,A2 X G a5,k5,F5.binds (ps:=["thing"]) λ_ _ _ _ _ _ us hl=>by obtain⟨_,rfl⟩:=us1 hl;rfl⟩;have e4:FnD l.prog w K mg base "count_names" 2 ["web"] J6:=⟨f15,_,ob0 r1 T g6,A2 X G a15,k15,r1.binds (ps:=["web"]) λ_ _ _ _ _ _ us hl=>by obtain⟨_,rfl⟩:=us1 hl;rfl⟩;have n7:FnD l.prog w K mg base "links" 2 ["part"] xz0:=⟨f17,_,ep0 q2 T n6,A2 X G a17,k17,q2.binds (ps:=["part"]) λ_ _ _ _ _ _ us hl=>by obtain⟨_,rfl⟩:=us1 hl;rfl⟩;have g3:FnX l.prog w K mg base "read_count" 2 ["text"] S9:=⟨⟨f24,_,no0 s3 T XT d2,A2 X G a24,k24,s3.binds (ps:=["text"]) λ_ _ _ _ _ _ us hl=>by obtain⟨_,rfl⟩:=us1 hl;rfl⟩⟩;have b9:FnD l.prog w K mg base "_law_part_text" 2 ["_law_x", "_law_many"] S7:=⟨f28,_,rd0 q0 T b0,A2 X G a28,k28,q0.binds (ps:=["_law_x", "_law_many"]) λ_ _ _ _ _ _ us hl=>by obtain⟨_,_,rfl⟩:=us2 hl;rfl⟩;have e0:FnD l.prog w K mg base "_law_spoiled" 2 ["_law_text", "_law_x", "_law_many"] T8:=⟨f30,_,p80 q5 T h7,A2 X G a30,k30,q5.binds (ps:=["_law_text", "_law_x", "_law_many"]) λ_ _ _ _ _ _ us hl=>by obtain⟨_,_,_,rfl⟩:=us3 hl;rfl⟩;have g2:FnD l.prog w K mg base "_law_value" 2 ["_law_text", "_law_many"] O8:=⟨f32,_,nr0 s4 T e6,A2 X G a32,k32,s4.binds (ps:=["_law_text", "_law_many"]) λ_ _ _ _ _ _ us hl=>by obtain⟨_,_,rfl⟩:=us2 hl;rfl⟩;have d1:FnD l.prog w K mg base "is_value" 3 ["thing"] M3:=⟨f6,_,kx0 F6 T m7 d3,A2 X G a6,k6,F6.binds (ps:=["thing"]) λ_ _ _ _ _ _ us hl=>by obtain⟨_,rfl⟩:=us1 hl;rfl⟩;have h0:FnD l.prog w K mg base "links_lead" 3 ["web"] G4:=⟨f13,_,ns0 q3 T n7,A2 X G a13,k13,q3.binds (ps:=["web"]) λ_ _ _ _ _ _ us hl=>by obtain⟨_,rfl⟩:=us1 hl;rfl⟩;have Y:FnX l.prog w K mg base "read_value" 3 ["text"] N5:=⟨⟨f23,_,m20 p1 T XT g3,A2 X G a23,k23,p1.binds (ps:=["text"]) λ_ _ _ _ _ _ us hl=>by obtain⟨_,rfl⟩:=us1 hl;rfl⟩⟩;have h8:FnD l.prog w K mg base "_law_list" 3 ["_law_text", "_law_many", "_law_named"] K4:=⟨f34,_,my0 s8 T S g2,A2 X G a34,k34,s8.binds (ps:=["_law_text", "_law_many", "_law_named"]) λ_ _ _ _ _ _ us hl=>by obtain⟨_,_,_,rfl⟩:=us3 hl;rfl⟩;have h4:FnD l.prog w K mg base "is_values" 4 ["thing"] K5:=⟨f8,_,ml0 F8 T U d1,A2 X G a8,k8,F8.binds (ps:=["thing"]) λ_ _ _ _ _ _ us hl=>by obtain⟨_,rfl⟩:=us1 hl;rfl⟩;have m0:FnD l.prog w K mg base "is_pair" 4 ["thing"] z70:=⟨f9,_,hh0 F9 T e2 d1,A2 X G a9,k9,F9.binds (ps:=["thing"]) λ_ _ _ _ _ _ us hl=>by obtain⟨_,rfl⟩:=us1 hl;rfl⟩;have h6:FnX l.prog w K mg base "read_pair" 4 ["item"] y30:=⟨⟨f22,_,ma0 r8 T Y,A2 X G a22,k22,r8.binds (ps:=["item"]) λ_ _ _ _ _ _ us hl=>by obtain⟨_,rfl⟩:=us1 hl;rfl⟩⟩;have h3:FnD l.prog w K mg base "_law_part" 4 ["_law_text", "_law_many"] zf0:=⟨f35,_,ly0 r2 T S h8,A2 X G a35,k35,r2.binds (ps:=["_law_text", "_law_many"]) λ_ _ _ _ _ _ us hl=>by obtain⟨_,_,rfl⟩:=us2 hl;rfl⟩;have h9:FnD l.prog w K mg base "is_pairs" 5 ["thing"] T3:=⟨f10,_,kl0 p3 T m0 U,A2 X G a10,k10,p3.binds (ps:=["thing"]) λ_ _ _ _ _ _ us hl=>by obtain⟨_,rfl⟩:=us1 hl;rfl⟩;have e3:FnX l.prog w K mg base "read_paired" 5 ["piece"] z40:=⟨⟨f20,_,pi0 q4 T O h6,A2 X G a20,k20,q4.binds (ps:=["piece"]) λ_ _ _ _ _ _ us hl=>by obtain⟨_,rfl⟩:=us1 hl;rfl⟩⟩;have j1:FnD l.prog w K mg base "_law_due" 5 ["_law_text"] P0:=⟨f36,_,j50 r3 T h3,A2 X G a36,k36,r3.binds (ps:=["_law_text"]) λ_ _ _ _ _ _ us hl=>by obtain⟨_,rfl⟩:=us1 hl;rfl⟩;have m2:FnD l.prog w K mg base "is_part" 6 ["thing"] Z0:=⟨f11,_,he0 q9 T b2 e2 h9 h4 m6,A2 X G a11,k11,q9.binds (ps:=["thing"]) λ_ _ _ _ _ _ us hl=>by obtain⟨_,rfl⟩:=us1 hl;rfl⟩;have h5:FnX l.prog w K mg base "read_part" 6 ["piece"] y50:=⟨⟨f19,_,ki0 q7 T XT O e3 Y,A2 X G a19,k19,q7.binds (ps:=["piece"]) λ_ _ _ _ _ _ us hl=>by obtain⟨_,rfl⟩:=us1 hl;rfl⟩⟩;have n4:FnD l.prog w K mg base "is_web" 7 ["thing"] J5:=⟨f12,_,fs0 s1 T e4 m2 U h0,A2 X G a12,k12,s1.binds (ps:=["thing"]) λ_ _ _ _ _ _ us hl=>by obtain⟨_,rfl⟩:=us1 hl;rfl⟩;have j2:FnX l.prog w K mg base "read" 8 ["text"] T6:=⟨⟨f18,_,bi0 r7 T XT n4 h5,A2 X G a18,k18,r7.binds (ps:=["text"]) λ_ _ _ _ _ _ us hl=>by obtain⟨_,rfl⟩:=us1 hl;rfl⟩⟩;have m1:=j2.plain;have b1:FnD l.prog w K mg base "_law_said" 9 ["_law_thing"] Y8:=⟨f37,_,lh0 s0 T XT j2,A2 X G a37,k37,s0.binds (ps:=["_law_thing"]) λ_ _ _ _ _ _ us hl=>by obtain⟨_,rfl⟩:=us1 hl;rfl⟩;have e5:FnD l.prog w K mg base "_law_bounds" 10 [] z20:=⟨f38,_,pt0 r4 T b1 m1,A2 X G a38,k38,r4.binds (ps:=[]) λ_ _ _ _ _ _ us hl=>match us,hl with|[],_=>rfl⟩;exact Yz0 s9 T e5 e1 j1 b9 b1 e0 m1
theorem k70{B:BS}:∀ns:List Int,Rps K H B (ns.map D.int) (ns.map V.int)
 | []=>by rw[List.map_nil,List.map_nil,X6]
 | n::ns=>by
  rw[List.map_cons,List.map_cons,Y4];exact⟨_,_,rfl,by rw[g8],k70 ns⟩
theorem f70{a:Addr}{ns:List Int}(hS:SqL K H a (ns.map V.int))(hm:sv0 [.lst (ns.map .int)]=some (.bl true)):spD K sv0 [.ref a] H (λv _=>v=.bl true) λ_ _ _=>False:=by
 refine⟨λ_=>False,[.lst (ns.map .int)],.bl true,λ_ z=>z.elim,?_,hm,λv H' _ r=>by rw[Y0] at r;exact r⟩;rw[Y4];refine⟨_,[],rfl,?_,by rw[X6]⟩;rw[V7];refine⟨a,ns.map V.int,rfl,?_,k70 ns⟩;rcases hS with h|h
 ·exact .inl ⟨λz=>z,h⟩
 ·exact .inr (.inr h)
end E8
open PySem.W PyProof.Rows
namespace PySem.W.Fast
def tw11661612434735384258:=0
def tw6201577886710982207:=0
def tw3191232786946833818:=0
def tw11384932452558037625:=0
def tw9658240027382524066:=0
def tw6030706065775882219:=0
def tw8125208303749377173:=0
def tw983290729197419934:=0
def tw12925695454184698558:=0
def tw5735992748854391763:=0
def tw14491071410790351139:=0
def tw600354355686227678:=0
def tw2123166749527515036:=0
def tw15726641476175117292:=0
def tw10008566294839935381:=0
def tw15989980582256127648:=0
def tw10108583297730872137:=0
def tw4266017206025747035:=0
def tw4020695670949990690:=0
def tw601594093575241625:=0
def tw16768590071931969436:=0
def tw12928645756442709677:=0
def tw9204298329353274909:=0
def tw11359853575070771673:=0
def tw1623392752633774910:=0
def tw13166190227422797081:=0
def tw14170599698544014251:=0
def tw16274822600708558976:=0
def tw11713121226641199546:=0
def tw4817052203174763162:=0
def tw16171725838244488048:=0
def tw5186152822858660388:=0
def tw7937345994164648165:=0
def tw3393906092627241665:=0
def tw1821608611177305553:=0
def tw12450601346706365103:=0
def tw8858912332026393786:=0
def tw12793038653244797680:=0
def tw10791001845916166071:=0
def tw11205194555566518287:=0
def tw1878801175136030180:=0
def tw2320144207927382712:=0
def tw3387381222858829124:=0
def tw332244778100983498:=0
def tw11577538203098195747:=0
def tw1212677091853290630:=0
def tw14240811036034679052:=0
def tw16637894453458911130:=0
def tw14074453991996515966:=0
def tw13074753801555783338:=0
def tw10555334434384349355:=0
def tw5593007896396347589:=0
def tw13775843765995376376:=0
def tw14269316775416075750:=0
def tw1665318503483892425:=0
def tw1647094951906546187:=0
def tw503616455791716183:=0
def tw4600462726973639165:=0
def tw550540047363684949:=0
def tw17737241797731369081:=0
def tw13429134754490920074:=0
def tw15479715759012476829:=0
def tw14097329708368229865:=0
def tw16687097982779906999:=0
def tw6114674806302916568:=0
def tw192056695133378126:=0
def tw9860954614995939234:=0
def tw1538163971849481971:=0
def tw8783084116882134013:=0
def tw12309979595127735416:=0
def tw7973664768690022974:=0
def tw7929635943564477505:=0
def tw13182777317432356158:=0
def tw881976992311895506:=0
def tw1706508853243211923:=0
def tw797348970406480916:=0
def tw4122125012904934135:=0
def tw4913764650983945343:=0
def tw1738516393085471844:=0
def tw3618159362377583912:=0
def tw9947014302502773248:=0
def tw7414608807307289769:=0
def tw4173610751807037689:=0
def tw9329432983988676324:=0
def tw8312535381677216932:=0
def tw11724192338899333512:=0
def tw12321339846299479576:=0
def tw4004814780949834339:=0
def tw7389571912678373931:=0
def tw5479232710418179043:=0
def tw14245709512437795643:=0
def tw3056692122844640094:=0
def tw12447920548249443371:=0
def tw11475774566378002354:=0
def tw7243027256054223786:=0
def tw12503082723099209134:=0
def tw13823964957777656932:=0
def tw766339793015314980:=0
def tw12001804321050830763:=0
def tw11599928664868711875:=0
def tw12836741412914952267:=0
def tw9871662570616021452:=0
def tw4364159846189380536:=0
def tw12504279209436058353:=0
def tw8805668411401996454:=0
def tw16462653861319272781:=0
def tw4669991284648579095:=0
def tw1234645634984870143:=0
def tw14000135994514693531:=0
def tw10542448720972835087:=0
def tw9530306976638821706:=0
def tw5942095781766132204:=0
def tw12506321560330174913:=0
def tw14116307866490539272:=0
def tw13824132193969489752:=0
def tw2887590967631643712:=0
def tw17516114272129754211:=0
def tw7886553565917574556:=0
def tw4568615342256090665:=0
def tw9736690987886978036:=0
def tw15032155675650587871:=0
def tw2599481330405098739:=0
def tw9603234510278121272:=0
def tw11298781037466288402:=0
def tw2529931555393256067:=0
def tw1176311681174662931:=0
def tw3964478919179301793:=0
def tw13237680680652210343:=0
def tw11393264232394639966:=0
def tw15007036226651482099:=0
end PySem.W.Fast
set_option maxRecDepth 100000 in
theorem PySem.Challenge.cw_graphpack_k08_texts_that_show_no_web_holds : PySem.Challenge.rw_graphpack_k08_texts_that_show_no_web.Holds := by
 w_on;o_law;k_head;(case hw=>w_witness2)
 k_fill
 refine L2.eo0 (l:=PySem.Challenge.rw_graphpack_k08_texts_that_show_no_web) (n:=63) (k:=11) (x := "_law_script") (CX:=L2.CX0) (sp:=λK=>DL.spD K E8.sv0) rfl (by decide) rfl ⟨rfl,by decide,by decide⟩ (λw h Y=>W.kIn_of Y) ?F ?S ?C
 case F =>
  intro w mg fa h KX G hmg;refine' E8.all_mk KX G hmg ?a0 ?l0 ?c0 ?k0 ?a1 ?l1 ?c1 ?k1 ?a2 ?l2 ?c2 ?k2 ?a3 ?l3 ?c3 ?k3 ?a4 ?l4 ?c4 ?k4 ?a5 ?l5 ?c5 ?k5 ?a6 ?l6 ?c6 ?k6 ?a7 ?l7 ?c7 ?k7 ?a8 ?l8 ?c8 ?k8 ?a9 ?l9 ?c9 ?k9 ?a10 ?l10 ?c10 ?k10 ?a11 ?l11 ?c11 ?k11 ?a12 ?l12 ?c12 ?k12 ?a13 ?l13 ?c13 ?k13 ?a14 ?l14 ?c14 ?k14 ?a15 ?l15 ?c15 ?k15 ?a16 ?l16 ?c16 ?k16 ?a17 ?l17 ?c17 ?k17 ?a18 ?l18 ?c18 ?k18 ?a19 ?l19 ?c19 ?k19 ?a20 ?l20 ?c20 ?k20 ?a21 ?l21 ?c21 ?k21 ?a22 ?l22 ?c22 ?k22 ?a23 ?l23 ?c23 ?k23 ?a24 ?l24 ?c24 ?k24 ?a25 ?l25 ?c25 ?k25 ?a26 ?l26 ?c26 ?k26 ?a27 ?l27 ?c27 ?k27 ?a28 ?l28 ?c28 ?k28 ?a29 ?l29 ?c29 ?k29 ?a30 ?l30 ?c30 ?k30 ?a31 ?l31 ?c31 ?k31 ?a32 ?l32 ?c32 ?k32 ?a33 ?l33 ?c33 ?k33 ?a34 ?l34 ?c34 ?k34 ?a35 ?l35 ?c35 ?k35 ?a36 ?l36 ?c36 ?k36 ?a37 ?l37 ?c37 ?k37 ?a38 ?l38 ?c38 ?k38 ?a39 ?l39 ?c39 ?k39 ?z_ValueError ?z_all ?z_bool ?z_int ?z_isinstance ?z_len ?z_list ?z_range ?z_set ?z_str ?z_tuple ?y_FIGURES ?y_MOST_FIGURES ?y_MOST_NAMES ?y_MOST_NAME_SIGNS ?y_MOST_PARTS ?y_MOST_VALUES ?y_MOST_WORD_SIGNS ?y_NAME_SIGNS ?y_WORD_SIGNS ?xt
  (case a0=>k_is)
  (case l0=>k_is)
  (case c0=>k_is)
  (case k0=>k_is)
  (case a1=>k_is)
  (case l1=>k_is)
  (case c1=>k_is)
  (case k1=>k_is)
  (case a2=>k_is)
  (case l2=>k_is)
  (case c2=>k_is)
  (case k2=>k_is)
  (case a3=>k_is)
  (case l3=>k_is)
  (case c3=>k_is)
  (case k3=>k_is)
  (case a4=>k_is)
  (case l4=>k_is)
  (case c4=>k_is)
  (case k4=>k_is)
  (case a5=>k_is)
  (case l5=>k_is)
  (case c5=>k_is)
  (case k5=>k_is)
  (case a6=>k_is)
  (case l6=>k_is)
  (case c6=>k_is)
  (case k6=>k_is)
  (case a7=>k_is)
  (case l7=>k_is)
  (case c7=>k_is)
  (case k7=>k_is)
  (case a8=>k_is)
  (case l8=>k_is)
  (case c8=>k_is)
  (case k8=>k_is)
  (case a9=>k_is)
  (case l9=>k_is)
  (case c9=>k_is)
  (case k9=>k_is)
  (case a10=>k_is)
  (case l10=>k_is)
  (case c10=>k_is)
  (case k10=>k_is)
  (case a11=>k_is)
  (case l11=>k_is)
  (case c11=>k_is)
  (case k11=>k_is)
  (case a12=>k_is)
  (case l12=>k_is)
  (case c12=>k_is)
  (case k12=>k_is)
  (case a13=>k_is)
  (case l13=>k_is)
  (case c13=>k_is)
  (case k13=>k_is)
  (case a14=>k_is)
  (case l14=>k_is)
  (case c14=>k_is)
  (case k14=>k_is)
  (case a15=>k_is)
  (case l15=>k_is)
  (case c15=>k_is)
  (case k15=>k_is)
  (case a16=>k_is)
  (case l16=>k_is)
  (case c16=>k_is)
  (case k16=>k_is)
  (case a17=>k_is)
  (case l17=>k_is)
  (case c17=>k_is)
  (case k17=>k_is)
  (case a18=>k_is)
  (case l18=>k_is)
  (case c18=>k_is)
  (case k18=>k_is)
  (case a19=>k_is)
  (case l19=>k_is)
  (case c19=>k_is)
  (case k19=>k_is)
  (case a20=>k_is)
  (case l20=>k_is)
  (case c20=>k_is)
  (case k20=>k_is)
  (case a21=>k_is)
  (case l21=>k_is)
  (case c21=>k_is)
  (case k21=>k_is)
  (case a22=>k_is)
  (case l22=>k_is)
  (case c22=>k_is)
  (case k22=>k_is)
  (case a23=>k_is)
  (case l23=>k_is)
  (case c23=>k_is)
  (case k23=>k_is)
  (case a24=>k_is)
  (case l24=>k_is)
  (case c24=>k_is)
  (case k24=>k_is)
  (case a25=>k_is)
  (case l25=>k_is)
  (case c25=>k_is)
  (case k25=>k_is)
  (case a26=>k_is)
  (case l26=>k_is)
  (case c26=>k_is)
  (case k26=>k_is)
  (case a27=>k_is)
  (case l27=>k_is)
  (case c27=>k_is)
  (case k27=>k_is)
  (case a28=>k_is)
  (case l28=>k_is)
  (case c28=>k_is)
  (case k28=>k_is)
  (case a29=>k_is)
  (case l29=>k_is)
  (case c29=>k_is)
  (case k29=>k_is)
  (case a30=>k_is)
  (case l30=>k_is)
  (case c30=>k_is)
  (case k30=>k_is)
  (case a31=>k_is)
  (case l31=>k_is)
  (case c31=>k_is)
  (case k31=>k_is)
  (case a32=>k_is)
  (case l32=>k_is)
  (case c32=>k_is)
  (case k32=>k_is)
  (case a33=>k_is)
  (case l33=>k_is)
  (case c33=>k_is)
  (case k33=>k_is)
  (case a34=>k_is)
  (case l34=>k_is)
  (case c34=>k_is)
  (case k34=>k_is)
  (case a35=>k_is)
  (case l35=>k_is)
  (case c35=>k_is)
  (case k35=>k_is)
  (case a36=>k_is)
  (case l36=>k_is)
  (case c36=>k_is)
  (case k36=>k_is)
  (case a37=>k_is)
  (case l37=>k_is)
  (case c37=>k_is)
  (case k37=>k_is)
  (case a38=>k_is)
  (case l38=>k_is)
  (case c38=>k_is)
  (case k38=>k_is)
  (case a39=>k_is)
  (case l39=>k_is)
  (case c39=>k_is)
  (case k39=>k_is)
  (case z_ValueError=>k_is)
  (case z_all=>k_is)
  (case z_bool=>k_is)
  (case z_int=>k_is)
  (case z_isinstance=>k_is)
  (case z_len=>k_is)
  (case z_list=>k_is)
  (case z_range=>k_is)
  (case z_set=>k_is)
  (case z_str=>k_is)
  (case z_tuple=>k_is)
  (case y_FIGURES=>k_is)
  (case y_MOST_FIGURES=>k_is)
  (case y_MOST_NAMES=>k_is)
  (case y_MOST_NAME_SIGNS=>k_is)
  (case y_MOST_PARTS=>k_is)
  (case y_MOST_VALUES=>k_is)
  (case y_MOST_WORD_SIGNS=>k_is)
  (case y_NAME_SIGNS=>k_is)
  (case y_WORD_SIGNS=>k_is)
  (case xt=>kernel_rfl)
 case S=>exact λK H a ns hl hO hS=>E8.f70 hS (E8.em0 ns hl)
 case C=>exact λ_ _ _ _ z=>z
#print axioms PySem.Challenge.cw_graphpack_k08_texts_that_show_no_web_holds
